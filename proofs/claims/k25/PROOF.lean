import PyProof.Rows.All
import Wide.All
import OpenK.AllK
import Wide.FinOn
import Lean
import PyProof.EqAt
import PyProof.EqKinds
import PyProof.TupleCall
import PySem.SetOps
import PyProof.SetKind
import PyProof.CollectWalk
import PyProof.FactsAll.set
import PyProof.ForAny
import PyProof.Rows.SortWalk
import PyProof.Rows.SetFrom
import KE.KSortAsk
import KE.KSortTup
import KE.KDictList
import KE.KMinBuiltin
import PyProof.EnumMake
import PyProof.NsDelKeeps
import PyProof.ExcInit
import PyProof.ExcClass2
import PyProof.WalksMore
import PyProof.TupleOfSeq
import KE.KLam
import KE.KNestM
import PyProof.TupleKey
import PyProof.IsRules
import KE.KRevIter
import PySem.Challenge.RW_crossracks_k25_whole_deeds
set_option Elab.async false
set_option linter.all false
set_option maxRecDepth 100000
open PySem.W (Frag kitOne findIn keepIn nsIn codeIn fnOf subIn exmOne typeIn clsIn isClsIn)
open List (filterMap_cons mem_cons_self mem_cons_of_mem mem_append_left mem_append_right size_toArray length_cons map_cons length_map append_nil length_take length_append length_drop reverse_cons replicate_succ flatten_cons length_singleton length_reverse lookup_cons mem_singleton all_eq_true getElem_of_mem getElem_mem any_eq_true ext_getElem pairwise_cons filterMap_map mem_cons not_mem_nil nodup_nil ext_getElem? map_congr_left drop_length length_range map_append take_succ take_length filter_append filter_cons length_filter_le range_succ exists_cons_of_ne_nil take_add_one)
namespace L2
open PySem PySem.Spec PyProof.Rows
abbrev Key:=Sum Int Str
def bb2:Key->Value->Bool
 | .inl k,v=>Value.isInt k v
 | .inr x,v=>Value.isStrOf x v
def bl9 (w:World):Key->Int
 | .inl k=>hashInt k
 | .inr x=>hashStr w x
theorem A5:∀{k:Key}{v:Value},bb2 k v=true->(∃ i t,k=Sum.inl i/\v=Value.int i t)\/(∃ x t,k=Sum.inr x/\v=Value.str x t)
 | .inl i,v,h=>by
  obtain⟨t,e⟩:=Value.isInt_shape (k:=i) (v:=v) h;exact .inl ⟨i,t,rfl,e⟩
 | .inr x,v,h=>by
  obtain⟨t,e⟩:=Value.isStrOf_shape (x:=x) (v:=v) h;exact .inr ⟨x,t,rfl,e⟩
theorem bb9 (a b:Int):decide ((Sum.inl a:Key)=Sum.inl b)=(a == b):=by
 by_cases e:a=b
 ·subst e;simp
 ·have h:¬ (Sum.inl a:Key)=Sum.inl b:=fun q=>e (Sum.inl.inj q)
  rw[decide_eq_false h];exact(beq_eq_false_iff_ne.mpr e).symm
theorem bb7 (a b:Str):decide ((Sum.inr a:Key)=Sum.inr b)=decide (a=b):=by
 by_cases e:a=b
 ·subst e;simp
 ·have h:¬ (Sum.inr a:Key)=Sum.inr b:=fun q=>e (Sum.inr.inj q)
  rw[decide_eq_false h,decide_eq_false e]
theorem bc1 (a:Int)(b:Str):decide ((Sum.inl a:Key)=Sum.inr b)=false:=decide_eq_false (fun q=>nomatch q)
theorem bb8 (a:Str)(b:Int):decide ((Sum.inr a:Key)=Sum.inl b)=false:=decide_eq_false (fun q=>nomatch q)
def as4 (prog:Program)(w:World):PySem.KeyKind prog w Key where
 is:=bb2
 hash:=bl9 w
 inj:=fun v a b ha hb=>by
  rcases A5 ha with⟨i,t,rfl,rfl⟩ | ⟨x,t,rfl,rfl⟩
  ·rcases A5 hb with⟨j,u,rfl,e⟩ | ⟨y,u,rfl,e⟩
   ·injection e with e1 _;rw[e1]
   ·exact nomatch e
  ·rcases A5 hb with⟨j,u,rfl,e⟩ | ⟨y,u,rfl,e⟩
   ·exact nomatch e
   ·injection e with e1 _;rw[e1]
 byValue:=fun k v h=>by
  rcases A5 h with⟨i,t,rfl,rfl⟩ | ⟨x,t,rfl,rfl⟩ <;> rfl
 pyHash:=fun hv h=>by
  rcases A5 hv with⟨i,t,rfl,rfl⟩ | ⟨x,t,rfl,rfl⟩
  ·exact wpAny_pyHash_int h
  ·exact wpAny_pyHash_str h
 eqBool:=fun hu hv h=>by
  rcases A5 hu with⟨i,t,rfl,rfl⟩ | ⟨x,t,rfl,rfl⟩
  ·rcases A5 hv with⟨j,u,rfl,rfl⟩ | ⟨y,u,rfl,rfl⟩
   ·rw[bb9] at h;exact wpAny_eqBool_int h
   ·rw[bc1] at h;exact SeqAt.EqAt.int_str i t y u _ _ _ _ h
  ·rcases A5 hv with⟨j,u,rfl,rfl⟩ | ⟨y,u,rfl,rfl⟩
   ·rw[bb8] at h;exact SeqAt.EqAt.str_int x t j u _ _ _ _ h
   ·rw[bb7] at h;exact wpAny_eqBool_str h
 «strs»:=fun k x t v h=>by
  rcases A5 h with⟨i,u,rfl,e⟩ | ⟨y,u,rfl,e⟩
  ·exact nomatch e
  ·injection e with e1 _
   subst e1
   cases v <;> rfl
inductive V where
 | non | bl (b:Bool) | int (i:Int) | str (x:Str) | byt (b:Array UInt8) | flt (b:UInt64) | ref (a:Addr) | ty (n:String)
 deriving DecidableEq
def o5:V->Value->Prop
 | .non,u=>u=Value.none
 | .bl b,u=>u=Value.bool b
 | .int i,u=>∃ t,u=Value.int i t
 | .str x,u=>∃ t,u=Value.str x t
 | .byt b,u=>∃ t,u=Value.bytes b t
 | .flt b,u=>∃ t,u=Value.float b t
 | .ref a,u=>u=Value.ref a
 | .ty n,u=>u=Value.type n
abbrev j9:List V->List Value->Prop:=Paired o5
theorem j9.length {xs:List V}{us:List Value}(r:j9 xs us):xs.length=us.length:=Paired.length r
theorem j9.get:∀{xs:List V}{us:List Value}{i:Nat}{x:V},j9 xs us->xs[i]? = some x->∃ u,us[i]? = some u/\o5 x u
 | _,_,_,_,.nil,e=>by simp at e
 | _,_,0,_,.cons r _,e=>by simp at e;subst e;exact⟨_,rfl,r⟩
 | _,_,i + 1,x,.cons _ t,e=>by
  obtain⟨u,h1,h2⟩:=j9.get (i:=i) (x:=x) t (by simpa using e)
  exact⟨u,by simpa using h1,h2⟩
theorem j9.set {x:V}{u:Value}(r:o5 x u):∀{xs:List V}{us:List Value}(i:Nat),j9 xs us->j9 (xs.set i x) (us.set i u)
 | _,_,_,.nil=>.nil
 | _,_,0,.cons _ t=>.cons r t
 | _,_,i + 1,.cons q t=>.cons q (j9.set r i t)
theorem j9.append:∀{xs ys:List V}{us ws:List Value},j9 xs us->j9 ys ws->j9 (xs++ys) (us++ws)
 | _,_,_,_,.nil,s=>s
 | _,_,_,_,.cons r t,s=>.cons r (j9.append t s)
theorem j9.take:∀{xs:List V}{us:List Value}(n:Nat),j9 xs us->j9 (xs.take n) (us.take n)
 | _,_,0,_=>.nil
 | _,_,_ + 1,.nil=>.nil
 | _,_,n + 1,.cons r t=>.cons r (j9.take n t)
theorem j9.drop:∀{xs:List V}{us:List Value}(n:Nat),j9 xs us->j9 (xs.drop n) (us.drop n)
 | _,_,0,r=>r
 | _,_,_ + 1,.nil=>.nil
 | _,_,n + 1,.cons _ t=>j9.drop n t
def ac1:Option V->Option Value->Prop
 | some v,some u=>o5 v u
 | none,none=>True
 | _,_=>False
def KV {κ:Type}:List (κ×V)->List (κ×Value)->Prop:=Paired fun(p:κ×V) (q:κ×Value)=>p.1=q.1/\o5 p.2 q.2
def kV:Key->V
 | .inl i=>.int i
 | .inr x=>.str x
inductive HO where
 /-- a list -/
 | lst (xs:List V)
 /-- a tuple (never changes) -/
 | tup (xs:List V)
 /-- a dict whose keys are ints and texts;one whose keys are tuples of ints and texts (the empty one is both) -/
 | dK (kvs:List (Key×V)) | dT (kvs:List (List Key×V))
 /-- a set of ints: its members,its size -/
 | set (S:Int->Bool) (n:Nat)
 /-- an instance of the class at C,its dict at dx,its attributes -/
 | ins (C dx:Addr) (fs:List (Str×V))
 /-- the dict of the instance at x -/
 | own (x:Addr)
 /-- the dict of an exception -/
 | xd (fs:List (Str×V))
 /-- a bound method,f of x -/
 | met (f x:Addr)
 /-- a range object lo,lo + 1,.. below hi -/
 | rng (lo hi:Int)
 /-- a thing that is known to the object (the script;a dict while a loop walks it): read,never written while it is so -/
 | frz (o:Obj) (u:HO)
 /-- a code object's table -/
 | tbl (ps:Array Value)
 /-- any other thing,by what is true of its one object (a def of one's own: aA0 a S n:=HO.ext fun h=>..) -/
 | ext (φ:Heap->Prop)
abbrev Hp:=Addr->Option HO
def upd (H:Hp)(a:Addr)(o:HO):Hp:=fun b=>if b=a then some o else H b
theorem d6 {H:Hp}{a:Addr}{o:HO}:upd H a o a=some o:=by unfold upd;rw[if_pos rfl]
theorem h7 {H:Hp}{a b:Addr}{o:HO}(h:b≠a):upd H a o b=H b:=by unfold upd;rw[if_neg h]
theorem h9 {H:Hp}{a b:Addr}{o:HO}(h:H a=some o)(h':H b=none):a≠b:=by
 intro e;subst e;rw[h] at h';cases h'
section
variable (P:Program)(w:World)
def p6 (H:Hp)(h:Heap)(a:Addr):HO->Prop
 | .lst xs=>xs.length<=sizeLine/\∃(its:List Value)(n:Nat),j9 xs its/\h.get? a=some { cls:=.type "list",data:=.seq its.toArray n }
 | .tup xs=>xs.length<=sizeLine/\∃ its:List Value,j9 xs its/\IsTup h a its.toArray
 | .dK kvs=>kvs.length<=sizeLine/\(a == sysModules)=false/\∃ vs,KV kvs vs/\h.DictOf (as4 P w) a vs
 | .dT kvs=>kvs.length<=sizeLine/\(a == sysModules)=false/\∃ xs:List (List Key×Addr×Value),
   Paired (fun(p:List Key×V) (q:List Key×Addr×Value)=>p.1=q.1/\H q.2.1=some (.tup (p.1.map kV))/\o5 p.2 q.2.2) kvs xs /\
   ∃ o es ep,h.get? a=some o/\o.ExactDict/\o.data=.dict es ep/\es.toList=xs.map (entryOfKey (tupleKind (as4 P w)))/\(xs.map (·.1)).Nodup
 | .set S n=>h.SetOf (intKind P w) a S n
 | .ins C dx fs=>H dx=some (.own a)/\fs.length<=1000/\dx≠a/\h.get? a=some (PySem.W.instObj C dx) /\
   ∃ mA,h.Ns1 dx mA/\(∀ f,ac1 (fs.lookup f) (mA f))/\PySem.Within mA (fs.map (·.1))
 | .own _=>∃ o,h.get? a=some o
 | .xd fs=>∃ mA,h.Ns1 a mA/\∀ f,ac1 (fs.lookup f) (mA f)
 | .rng lo hi=>∃ t u v,h.get? a=some { cls:=.type "range",data:=.fields #[.int lo t,.int hi u,.int 1 v] }
 | .frz o u=>h.get? a=some o/\p6 H h a u
 | .tbl ps=>h.get? a=some { cls:=.none,data:=.fields ps }
 | .met f x=>h.get? a=some (PySem.W.methodObj (.ref f) (.ref x))
 | .ext φ=>φ h/\(∃ o,h.get? a=some o)/\∀ h1 h2:Heap,φ h1->(∀ o,h1.get? a=some o->h2.get? a=some o)->φ h2
def HOk (H:Hp)(h:Heap):Prop:=∀ a o,H a=some o->p6 P w H h a o
end
section
variable {P:Program}{w:World}{H H':Hp}{h h':Heap}{a:Addr}{o:HO}
theorem p6.lt (x:p6 P w H h a o):a < h.objs.size:=by
 cases o with
 | lst xs=>obtain⟨_,_,_,_,e⟩:=x;exact Heap.lt_size e
 | tup xs=>obtain⟨_,_,_,p⟩:=x;exact p.lt
 | dK kvs=>obtain⟨_,_,_,_,o,_,_,e,_⟩:=x;exact Heap.lt_size e
 | dT kvs=>obtain⟨_,_,_,_,o,_,_,e,_⟩:=x;exact Heap.lt_size e
 | set S n=>obtain⟨o,_,_,_,e,_⟩:=x;exact Heap.lt_size e
 | ins C dx fs=>obtain⟨_,_,_,e,_⟩:=x;exact Heap.lt_size e
 | own y=>obtain⟨_,e⟩:=x;exact Heap.lt_size e
 | xd fs=>obtain⟨_,⟨_,_,_,e,_⟩,_⟩:=x;exact Heap.lt_size e
 | rng lo hi=>obtain⟨_,_,_,e⟩:=x;exact Heap.lt_size e
 | frz ob u=>obtain⟨e,_⟩:=x;exact Heap.lt_size e
 | tbl ps=>exact Heap.lt_size (show h.get? a=some _ from x)
 | met f y=>exact Heap.lt_size (show h.get? a=some _ from x)
 | ext φ=>obtain⟨_,⟨_,e⟩,_⟩:=x;exact Heap.lt_size e
theorem Paired.mapP {α β:Type}{F G:α->β->Prop}:∀{l₁:List α}{l₂:List β},Paired F l₁ l₂->(∀ a b,F a b->G a b)->Paired G l₁ l₂
 | _,_,.nil,_=>.nil
 | _,_,.cons r t,f=>.cons (f _ _ r) (Paired.mapP t f)
theorem p6.stay (x:p6 P w H h a o)(k:∀ b u,(b=a\/H b=some (.own a))->h.get? b=some u->h'.get? b=some u)
  (ho:∀ b,H b=some (.own a)->H' b=some (.own a))(ht:∀ b xs,H b=some (.tup xs)->H' b=some (.tup xs)):p6 P w H' h' a o:=by
 induction o with
 | lst xs=>obtain⟨z,its,n,r,e⟩:=x;exact⟨z,its,n,r,k _ _ (.inl rfl) e⟩
 | tup xs=>obtain⟨z,its,r,ob,e,c⟩:=x;exact⟨z,its,r,ob,k _ _ (.inl rfl) e,c⟩
 | dK kvs=>obtain⟨z,y,vs,r,ob,es,ep,e,c⟩:=x;exact⟨z,y,vs,r,ob,es,ep,k _ _ (.inl rfl) e,c⟩
 | dT kvs =>
  obtain⟨z,y,xs,r,ob,es,ep,e,c⟩:=x;exact⟨z,y,xs,Paired.mapP r fun p q z=>⟨z.1,ht _ _ z.2.1,z.2.2⟩,ob,es,ep,k _ _ (.inl rfl) e,c⟩
 | set S n=>obtain⟨ob,es,ep,t,e,c⟩:=x;exact⟨ob,es,ep,t,k _ _ (.inl rfl) e,c⟩
 | ins C dx fs =>
  obtain⟨d,z,ne,e,mA,⟨od,es,ep,e2,c⟩,r⟩:=x;exact⟨ho _ d,z,ne,k _ _ (.inl rfl) e,mA,⟨od,es,ep,k _ _ (.inr d) e2,c⟩,r⟩
 | own y=>obtain⟨ob,e⟩:=x;exact⟨ob,k _ _ (.inl rfl) e⟩
 | xd fs=>obtain⟨mA,⟨od,es,ep,e,c⟩,r⟩:=x;exact⟨mA,⟨od,es,ep,k _ _ (.inl rfl) e,c⟩,r⟩
 | rng lo hi=>obtain⟨t,u,v,e⟩:=x;exact⟨t,u,v,k _ _ (.inl rfl) e⟩
 | frz ob u ih=>obtain⟨e,q⟩:=x;exact⟨k _ _ (.inl rfl) e,ih q⟩
 | tbl ps =>
  have e:h.get? a=some { cls:=.none,data:=.fields ps }:=x
  show h'.get? a=some { cls:=.none,data:=.fields ps }
  exact k a _ (.inl rfl) e
 | met f y =>
  have e:h.get? a=some (PySem.W.methodObj (.ref f) (.ref y)):=x
  show h'.get? a=some (PySem.W.methodObj (.ref f) (.ref y))
  exact k a _ (.inl rfl) e
 | ext φ=>obtain⟨p,⟨o,e⟩,st⟩:=x;exact⟨st _ _ p fun o q=>k _ _ (.inl rfl) q,⟨o,k _ _ (.inl rfl) e⟩,st⟩
theorem HOk.lt (x:HOk P w H h)(e:H a=some o):a < h.objs.size:=(x a o e).lt
theorem HOk.fresh (x:HOk P w H h)(e:h.objs.size<=a):H a=none:=by
 cases q:H a with
 | none=>rfl
 | some u=>exact absurd (Nat.lt_of_lt_of_le (x.lt q) e) (Nat.lt_irrefl _)
theorem HOk.kept (x:HOk P w H h)(k:∀ b u,h.get? b=some u->h'.get? b=some u):HOk P w H h':=fun a o e =>
 (x a o e).stay (fun b u _ q=>k b u q) (fun _ q=>q) fun _ _ q=>q
theorem HOk.laid (x:HOk P w H h)(k:∀ b u,h.get? b=some u->h'.get? b=some u)(hp:h.objs.size<=a)(new:p6 P w (upd H a o) h' a o):HOk P w (upd H a o) h':=fun b u e=>by
 have hn:=x.fresh hp
 by_cases hb:b=a
 ·subst hb;rw[d6] at e;cases e;exact new
 ·rw[h7 hb] at e
  exact(x b u e).stay (fun c v _ q=>k c v q) (fun c q=>by rw[h7 (h9 q hn)];exact q) fun c xs q=>by rw[h7 (h9 q hn)];exact q
end
def Rd (H:Hp)(a:Addr)(u:HO):Prop:=H a=some u\/∃ o,H a=some (.frz o u)
theorem Rd.ok {P:Program}{w:World}{H:Hp}{h:Heap}{a:Addr}{u:HO}(r:Rd H a u)(x:HOk P w H h):p6 P w H h a u:=by
 rcases r with r | ⟨o,r⟩
 ·exact x a u r
 ·obtain⟨_,q⟩:=x a _ r
  exact q
def Mut:Option HO->Prop
 | some (.lst _)=>True
 | some (.dK _)=>True
 | some (.dT _)=>True
 | some (.set _ _)=>True
 | some (.ins _ _ _)=>True
 | some (.ext _)=>True
 | _=>False
section
variable {P:Program}{w:World}{H:Hp}{h h':Heap}{x e:Addr}{o':HO}
theorem HOk.write (ok:HOk P w H h)(mu:Mut (H x))(he:e=x\/H e=some (.own x))(k:∀ b u,b≠e->h.get? b=some u->h'.get? b=some u)(heo:∃ u,h'.get? e=some u)
  (new:p6 P w (upd H x o') h' x o'):HOk P w (upd H x o') h':=fun b u q=>by
 have nown:∀ c y,H c=some (.own y)->c≠x:=fun c y r z=>by subst z;rw[r] at mu;exact mu
 have ntup:∀ c xs,H c=some (.tup xs)->c≠x:=fun c xs r z=>by subst z;rw[r] at mu;exact mu
 by_cases hb:b=x
 ·subst hb;rw[d6] at q;cases q;exact new
 ·rw[h7 hb] at q
  by_cases hbe:b=e
  ·have q':H b=some (.own x):=by
    rcases he with z | z
    ·exact absurd (hbe.trans z) hb
    ·rw[hbe];exact z
   rw[q] at q';cases q';obtain⟨v,hv⟩:=heo;exact⟨v,by rw[hbe];exact hv⟩
  ·refine(ok b u q).stay (fun c v hc r=>k c v ?_ r) (fun c r=>by rw[h7 (nown c b r)];exact r) fun c xs r=>by rw[h7 (ntup c xs r)];exact r
   rcases hc with rfl | hc
   ·exact hbe
   ·rintro rfl
    rcases he with z | z
    ·exact nown c b hc z
    ·rw[hc] at z;cases z;exact hb rfl
end
structure Un (fs ex:List Addr)(H H':Hp)(h h':Heap):Prop where
 keep:∀ b o,h.get? b=some o->H b=none->b∉fs->b∉ex->h'.get? b=some o
 slot:∀ b o,h.get? b=some o->H b=none->b∈fs->b∉ex->∃ sl,h'.get? b=some { o with slots:=sl }
 free:∀ b o,h.get? b=some o->H b=none->b∉ex->H' b=none
 there:∀ b o,h.get? b=some o->b∉ex->∃ o',h'.get? b=some o'
 tups:∀ b xs,H b=some (.tup xs)->H' b=some (.tup xs)
 frzs:∀ b o u,H b=some (.frz o u)->H' b=some (.frz o u)
 tbls:∀ b ps,H b=some (.tbl ps)->∃ more,H' b=some (.tbl (ps++more))
section
variable {fs fs' ex ex':List Addr}{H H1 H2:Hp}{h h1 h2 h':Heap}{a x e:Addr}{o:HO}
theorem Un.any (u:Un fs ex H H1 h h1){b:Addr}{ob:Obj}(q:h.get? b=some ob)(n:H b=none)(hx:b∉ex):∃ sl,h1.get? b=some { ob with slots:=sl }:=by
 by_cases hb:b∈fs
 ·exact u.slot b ob q n hb hx
 ·exact⟨ob.slots,u.keep b ob q n hb hx⟩
theorem Un.kept (k:∀ b u,h.get? b=some u->h'.get? b=some u):Un fs ex H H h h' :=
 ⟨fun b ob q _ _ _=>k b ob q,fun b ob q _ _ _=>⟨ob.slots,k b ob q⟩,fun _ _ _ n _=>n,fun b ob q _=>⟨ob,k b ob q⟩,fun _ _ q=>q,fun _ _ _ q=>q,fun _ ps q=>⟨#[],by rw[q];simp⟩⟩
theorem Un.refl:Un fs ex H H h h:=Un.kept fun _ _ q=>q
theorem Un.laid (k:∀ b u,h.get? b=some u->h'.get? b=some u)(hp:h.objs.size<=a)(hn:H a=none):Un fs ex H (upd H a o) h h' where
 keep:=fun b u q _ _ _=>k b u q
 slot:=fun b u q _ _ _=>⟨u.slots,k b u q⟩
 free:=fun b u q n _=>by rw[h7 (Nat.ne_of_lt (Nat.lt_of_lt_of_le (Heap.lt_size q) hp))];exact n
 there:=fun b u q _=>⟨u,k b u q⟩
 tups:=fun b xs q=>by rw[h7 (h9 q hn)];exact q
 frzs:=fun b u xs q=>by rw[h7 (h9 q hn)];exact q
 tbls:=fun b ps q=>⟨#[],by rw[h7 (h9 q hn),q];simp⟩
theorem Un.write (mu:Mut (H x))(he:e=x\/H e=some (.own x))(k:∀ b u,b≠e->h.get? b=some u->h'.get? b=some u)(heo:∃ u,h'.get? e=some u):Un fs ex H (upd H x o) h h':=by
 have hx:∀ b,H b=none->b≠x:=fun b n z=>by subst z;rw[n] at mu;exact mu
 have hb:∀ b,H b=none->b≠e:=fun b n z=>by
  subst z
  rcases he with r | r
  ·exact hx b n r
  ·rw[n] at r;cases r
 have hm:∀ b u,H b=some u->¬ Mut (some u)->b≠x:=fun b u q nm z=>by subst z;rw[q] at mu;exact nm mu
 refine⟨fun b u q n _ _=>k b u (hb b n) q,fun b u q n _ _=>⟨u.slots,k b u (hb b n) q⟩,fun b u q n _=>by rw[h7 (hx b n)];exact n,fun b u q _=>?_,
  fun b xs q=>by rw[h7 (hm b _ q fun z=>z)];exact q,fun b u xs q=>by rw[h7 (hm b _ q fun z=>z)];exact q,fun b ps q=>⟨#[],by rw[h7 (hm b _ q fun z=>z),q];simp⟩⟩
 by_cases hbe:b=e
 ·subst hbe;exact heo
 ·exact⟨u,k b u hbe q⟩
end
def trk (h:Heap)(H:Hp):List Addr:=(List.range h.objs.size).filter fun a=>(H a).isSome
def al1 (h:Heap)(H:Hp):Heap:=PySem.W.hideAll h (trk h H)
theorem aR8 (h:Heap)(H:Hp):(al1 h H).objs.size=h.objs.size:=PySem.W.hideAll_size _ _
theorem aU6 {h:Heap}{H:Hp}{b:Addr}{o:Obj}(e:h.get? b=some o)(n:H b=none):(al1 h H).get? b=some o :=
 PySem.W.hideAll_get _ e fun hm=>by
  have q:(H b).isSome=true:=(List.mem_filter.mp hm).2;rw[n] at q;simp at q
theorem a65 {h:Heap}{H:Hp}{b:Addr}{o:Obj}(e:(al1 h H).get? b=some o):h.get? b=some o/\H b=none:=by
 have e':h.get? b=some o:=PySem.W.of_hideAll (trk h H) e;refine⟨e',?_⟩
 cases q:H b with
 | none=>rfl
 | some x =>
  have hm:b∈trk h H:=List.mem_filter.mpr ⟨List.mem_range.mpr (Heap.lt_size e'),by simp[q]⟩
  have z:(al1 h H).get? b=none:=PySem.W.hideAll_none (trk h H) hm;rw[z] at e;cases e
structure Mod (K:Frag)(mg:Str->Option Value)(base:Heap):Prop where
 kin:K.In base
 glob:base.Ns mainGlobals mg
 blt:∃ mb,base.Ns builtinsNs mb/\∀ x:Str,x≠"__name__"->mb x=bootBuiltins x
 nolimit:base.NoLimit
structure Cx where
 prog:Program
 w:World
 K:Frag
 mg:Str->Option Value
 base:Heap
 A:Around
 N:List Str
 s₀:Shared
 H₀:Hp
 env:Env
 outer:List Env
 stack:List Env
 ex:List Addr
 fn:Str->Bool
 calm:Bool
 pn:List (Addr×Obj)
 xe:Value->Shared->Prop
def frs (l:List Env):List Addr:=l.filterMap (·.frame)
abbrev Cx.fs (X:Cx):List Addr:=frs X.outer
def Vis (sc:Scope)(x:Str):Prop:=sc.names.lookup x=some .local\/sc.names.lookup x=some .cell\/sc.names.lookup x=some .free
def Loc (sc:Scope)(x:Str):Prop:=sc.names.lookup x=some .local\/sc.names.lookup x=some .cell
def bm7 (env:Env)(h:Heap)(m:Str->Option Value)(x:Str)(u:Value):Prop :=
 (env.kindOf x=some .local/\m x=some u)\/((env.kindOf x=some .cell\/env.kindOf x=some .free)/\∃ c,env.cells.lookup x=some c/\h.IsCell c (some u))
structure Cx.Ok (X:Cx):Prop where
 mod:Mod X.K X.mg X.base
 kind:X.env.scope.kind=.function
 glob:X.env.globals=mainGlobals
 blt:X.env.builtins=builtinsNs
 above:X.s₀.heap.objs.size<=X.env.locals
 inj:∀ x y c,X.env.cells.lookup x=some c->X.env.cells.lookup y=some c->x=y
 has:∀ x,(X.env.kindOf x=some .cell\/X.env.kindOf x=some .free)->∃ c,X.env.cells.lookup x=some c
 cab:∀ x c,X.fn x=true->X.env.cells.lookup x=some c->X.s₀.heap.objs.size<=c
 hd:X.calm=true->X.A.handled=none
 frames:X.A.frames=some X.stack
 stk:X.stack=X.outer\/(X.stack=X.env::X.outer/\X.env.frame=some X.env.locals)
 exf:∀ b∈X.ex,b≠X.env.locals/\∀ x c,X.env.cells.lookup x=some c->c≠b
 bs:∀ b o,X.base.get? b=some o->X.s₀.heap.get? b=some o/\X.H₀ b=none
 bsz:X.base.objs.size<=X.s₀.heap.objs.size
 noex:∀ b o,X.base.get? b=some o->b∉X.ex
 exfs:∀ b∈X.ex,b∉X.fs
 funs:X.s₀.heap.FunFrames X.base X.outer
 frf:∀ b∈X.fs,X.H₀ b=none
structure Inv (X:Cx)(pins:List (Addr×Obj))(σ:List (Option V))(H:Hp)(s:Shared):Prop where
 ok:X.Ok
 os:s.os=X.s₀.os
 bare:AllBare s.gens
 base:Un X.fs X.ex X.H₀ H X.s₀.heap s.heap
 loc:∃ m,s.heap.Ns X.env.locals m/\∀(i:Nat)(x:Str)(v:V),X.N[i]? = some x->σ[i]? = some (some v)->Vis X.env.scope x->∃ u,o5 v u/\bm7 X.env s.heap m x u
 cell:∀ x c,X.env.cells.lookup x=some c->∃ v,s.heap.IsCell c v
 free:H X.env.locals=none
 freeC:∀ x c,X.env.cells.lookup x=some c->H c=none
 pin:∀ p∈X.pn++pins,s.heap.get? p.1=some p.2/\H p.1=none/\p.1≠X.env.locals/\p.1∉X.fs/\∀ v,p.2.data≠.cell v
 hok:HOk X.prog X.w H s.heap
 len:σ.length=X.N.length
section
variable {X:Cx}{pins:List (Addr×Obj)}{σ:List (Option V)}{H H':Hp}{s:Shared}{h':Heap}
theorem Cx.Ok.nofr (ok:X.Ok){b:Addr}{o:Obj}(e:X.base.get? b=some o):b∉X.fs:=fun hb=>by
 have:=(ok.funs.mem hb).1
 rw[e] at this;cases this
theorem Inv.bs (I:Inv X pins σ H s):∀ b o,X.base.get? b=some o->s.heap.get? b=some o/\H b=none:=fun b o e =>
 ⟨I.base.keep b o (I.ok.bs b o e).1 (I.ok.bs b o e).2 (I.ok.nofr e) (I.ok.noex b o e),I.base.free b o (I.ok.bs b o e).1 (I.ok.bs b o e).2 (I.ok.noex b o e)⟩
theorem Inv.bk (I:Inv X pins σ H s):∀ b o,X.base.get? b=some o->s.heap.get? b=some o:=fun b o e=>(I.bs b o e).1
theorem Inv.mod (I:Inv X pins σ H s):Mod X.K X.mg X.base:=I.ok.mod
theorem Inv.kIn (I:Inv X pins σ H s):X.K.In s.heap:=I.ok.mod.kin.keeps I.bk
theorem Inv.nolimit (I:Inv X pins σ H s):s.heap.NoLimit:=I.ok.mod.nolimit.keeps I.bk
theorem Inv.lt (I:Inv X pins σ H s):X.env.locals < s.heap.objs.size:=let ⟨_,hn,_⟩:=I.loc;hn.lt
theorem Inv.sz (I:Inv X pins σ H s):X.s₀.heap.objs.size<=s.heap.objs.size:=Nat.le_trans I.ok.above (Nat.le_of_lt I.lt)
theorem Inv.nofs (I:Inv X pins σ H s){a:Addr}(h:s.heap.objs.size<=a):a∉X.fs:=fun hb=>by
 obtain⟨_,o,ho,_⟩:=I.ok.funs.mem hb;exact absurd (Nat.lt_of_lt_of_le (Heap.lt_size ho) (Nat.le_trans I.sz h)) (Nat.lt_irrefl _)
theorem Inv.cne (I:Inv X pins σ H s):∀ x c,X.env.cells.lookup x=some c->c≠X.env.locals:=fun x c e z=>by
 obtain⟨v,o,ho,hd⟩:=I.cell x c e;obtain⟨m,⟨o',es,ep,ho',hd',_⟩,_⟩:=I.loc;rw[z,ho'] at ho;cases ho;rw[hd'] at hd;cases hd
theorem Inv.funs (I:Inv X pins σ H s):s.heap.FunFrames X.base X.outer:=by
 have all:∀(l:List Env),(∀ b∈frs l,b∈X.fs)->X.s₀.heap.FunFrames X.base l->s.heap.FunFrames X.base l:=by
  intro l
  induction l with
  | nil=>intro _ _;trivial
  | cons env r ih =>
   intro hs hl
   obtain⟨hk,⟨L,o,hf,hn,ho,hd⟩,hr⟩:=hl;have hL:L∈X.fs:=hs L (by unfold frs;rw[filterMap_cons,hf];exact mem_cons_self)
   obtain⟨sl,e⟩:=I.base.slot L o ho (I.ok.frf L hL) hL fun z=>I.ok.exfs L z hL;exact⟨hk,⟨L,_,hf,hn,e,hd⟩,ih (fun b hb=>hs b (by unfold frs;rw[filterMap_cons,hf];exact mem_cons_of_mem _ hb)) hr⟩
 exact all X.outer (fun _ hb=>hb) I.ok.funs
theorem Inv.stack (I:Inv X pins σ H s):s.heap.FunFrames X.base X.stack:=by
 rcases I.ok.stk with e | ⟨e,hf⟩
 ·rw[e];exact I.funs
 ·rw[e]
  obtain⟨m,hn,_⟩:=I.loc;refine .cons (by rw[I.ok.kind];decide) hf hn ?_ I.funs
  exact Heap.get?_none_of_le (Nat.le_trans I.ok.bsz I.ok.above)
theorem Inv.stkSub (I:Inv X pins σ H s):∀ b∈frs X.stack,b∈X.env.locals::X.fs:=fun b hb=>by
 rcases I.ok.stk with e | ⟨e,hf⟩
 ·rw[e] at hb;exact mem_cons_of_mem _ hb
 ·rw[e] at hb
  unfold frs at hb;rw[filterMap_cons,hf] at hb;exact hb
theorem Inv.stkFree (I:Inv X pins σ H s):∀ b∈frs X.stack,H b=none:=fun b hb=>by
 rcases mem_cons.mp (I.stkSub b hb) with e | hb
 ·rw[e];exact I.free
 ·obtain⟨_,o,ho,_⟩:=I.ok.funs.mem hb
  exact I.base.free b o ho (I.ok.frf b hb) fun z=>I.ok.exfs b z hb
theorem Inv.step {g':Array GenState}{t':Nat}{d':Drawn}{ch:List Addr}(I:Inv X pins σ H s)
  (hch:∀ b∈ch,(b∈X.ex\/X.s₀.heap.objs.size<=b)/\b≠X.env.locals/\(∀ x c,X.env.cells.lookup x=some c->c≠b)/\∀ p∈X.pn++pins,p.1≠b)
  (keep:∀ b o,b≠X.env.locals->b∉X.fs->b∉ch->s.heap.get? b=some o->H b=none->h'.get? b=some o)
  (slot:∀ b o,b≠X.env.locals->b∈X.fs->b∉ch->s.heap.get? b=some o->H b=none->∃ sl,h'.get? b=some { o with slots:=sl })(free:∀ b o,b∉ch->s.heap.get? b=some o->H b=none->H' b=none)
  (there:∀ b o,b∉ch->s.heap.get? b=some o->∃ o',h'.get? b=some o')
  (tups:∀ b xs,H b=some (.tup xs)->H' b=some (.tup xs)) (frzs:∀ b o u,H b=some (.frz o u)->H' b=some (.frz o u)) (tbls:∀ b ps,H b=some (.tbl ps)->∃ more,H' b=some (.tbl (ps++more)))
  (ns:∀ m,s.heap.Ns X.env.locals m->h'.Ns X.env.locals m) (hok:HOk X.prog X.w H' h') (hg:AllBare g') :
  Inv X pins σ H' { s with heap:=h',gens:=g',drawn:=d',toks:=t' }:=by
 have neL:∀ b o,X.s₀.heap.get? b=some o->b≠X.env.locals:=fun b o e=>Nat.ne_of_lt (Nat.lt_of_lt_of_le (Heap.lt_size e) I.ok.above)
 have neC:∀ b o,X.s₀.heap.get? b=some o->b∉X.ex->b∉ch:=fun b o e hx hb=>by
  rcases(hch b hb).1 with z | z
  ·exact hx z
  ·exact absurd (Nat.lt_of_lt_of_le (Heap.lt_size e) z) (Nat.lt_irrefl _)
 have cellK:∀ x c,X.env.cells.lookup x=some c->∀ v,s.heap.IsCell c v->h'.IsCell c v:=fun x c e v ⟨o,ho,hd⟩=>by
  have nch:c∉ch:=fun z=>(hch c z).2.2.1 x c e rfl
  by_cases hc:c∈X.fs
  ·obtain⟨sl,q⟩:=slot c o (I.cne x c e) hc nch ho (I.freeC x c e)
   exact⟨_,q,hd⟩
  ·exact⟨o,keep c o (I.cne x c e) hc nch ho (I.freeC x c e),hd⟩
 refine⟨I.ok,I.os,hg,⟨fun b o e n hb hx=>?_,fun b o e n hb hx=>?_,fun b o e n hx=>?_,fun b o e hx=>?_,fun b xs e=>tups b xs (I.base.tups b xs e),fun b o xs e=>frzs b o xs (I.base.frzs b o xs e),fun b ps e=>?_⟩,?_,fun x c e=>?_,?_,fun x c e=>?_,fun p hp=>?_,hok,I.len⟩
 ·exact keep b o (neL b o e) hb (neC b o e hx) (I.base.keep b o e n hb hx) (I.base.free b o e n hx)
 ·obtain⟨sl,e1⟩:=I.base.slot b o e n hb hx
  obtain⟨sl',e2⟩:=slot b _ (neL b o e) hb (neC b o e hx) e1 (I.base.free b o e n hx);exact⟨sl',e2⟩
 ·obtain⟨o',e1⟩:=I.base.there b o e hx
  exact free b o' (neC b o e hx) e1 (I.base.free b o e n hx)
 ·obtain⟨o',e1⟩:=I.base.there b o e hx
  exact there b o' (neC b o e hx) e1
 ·obtain⟨m1,e1⟩:=I.base.tbls b ps e
  obtain⟨m2,e2⟩:=tbls b _ e1;exact⟨m1++m2,by rw[e2,Array.append_assoc]⟩
 ·obtain⟨m,hn,hl⟩:=I.loc
  refine⟨m,ns m hn,fun i x v e1 e2 e3=>?_⟩;obtain⟨u,r,l⟩:=hl i x v e1 e2 e3;refine⟨u,r,?_⟩
  rcases l with l | ⟨k,c,e,z⟩
  ·exact .inl l
  ·exact .inr ⟨k,c,e,cellK x c e _ z⟩
 ·obtain⟨v,z⟩:=I.cell x c e
  exact⟨v,cellK x c e v z⟩
 ·obtain⟨m,⟨o,_,_,ho,_⟩,_⟩:=I.loc
  exact free _ o (fun z=>(hch _ z).2.1 rfl) ho I.free
 ·obtain⟨v,o,ho,hd⟩:=I.cell x c e
  exact free c o (fun z=>(hch c z).2.2.1 x c e rfl) ho (I.freeC x c e)
 ·obtain⟨e,n,ne,nf,d⟩:=I.pin p hp
  have nch:p.1∉ch:=fun z=>(hch p.1 z).2.2.2 p hp rfl;exact⟨keep p.1 p.2 ne nf nch e n,free p.1 p.2 nch e n,ne,nf,d⟩
theorem Inv.un {t':Nat}(I:Inv X pins σ H s)(u:Un X.fs [] H H' s.heap h')(hok:HOk X.prog X.w H' h'):Inv X pins σ H' { s with heap:=h',toks:=t' }:=by
 obtain⟨m,⟨o,es,ep,ho,r⟩,_⟩:=id I.loc;obtain⟨sl,hL⟩:=u.any ho I.free (by simp)
 exact I.step (g':=s.gens) (d':=s.drawn) (ch:=[]) (fun _ z=>nomatch z) (fun b o _ hb _ e n=>u.keep b o e n hb (by simp)) (fun b o _ hb _ e n=>u.slot b o e n hb (by simp)) (fun b o _ e n=>u.free b o e n (by simp)) (fun b o _ e=>u.there b o e (by simp)) u.tups u.frzs u.tbls (fun m' hm=>by
  obtain⟨o',es',ep',ho',r'⟩:=hm;rw[ho] at ho';cases ho'
  exact⟨_,es',ep',hL,r'⟩) hok I.bare
theorem Inv.call {g':Array GenState}{t':Nat}{d':Drawn}{ch:List Addr}(I:Inv X pins σ H s)(u:Un (frs X.stack) ch H H' s.heap h')(hok:HOk X.prog X.w H' h')(hg:AllBare g')
  (hch:∀ b∈ch,(b∈X.ex\/X.s₀.heap.objs.size<=b)/\b≠X.env.locals/\(∀ x c,X.env.cells.lookup x=some c->c≠b)/\∀ p∈X.pn++pins,p.1≠b) :
  Inv X pins σ H' { s with heap:=h',gens:=g',drawn:=d',toks:=t' }:=by
 obtain⟨m,⟨o,es,ep,ho,r⟩,_⟩:=id I.loc;obtain⟨sl,hL⟩:=u.any ho I.free fun z=>(hch _ z).2.1 rfl
 exact I.step (ch:=ch) hch (fun b o hL hb hc e n=>u.keep b o e n (fun z=>(mem_cons.mp (I.stkSub b z)).elim hL hb) hc) (fun b o _ _ hc e n=>u.any e n hc) (fun b o hc e n=>u.free b o e n hc) (fun b o hc e=>u.there b o e hc) u.tups u.frzs u.tbls (fun m' hm=>by
  obtain⟨o',es',ep',ho',r'⟩:=hm;rw[ho] at ho';cases ho'
  exact⟨_,es',ep',hL,r'⟩) hok hg
theorem Inv.turned {t':Nat}{it:Addr}(I:Inv X pins σ H s)(k:∀ b o,b≠it->s.heap.get? b=some o->h'.get? b=some o)(hn:H it=none)(hL:it≠X.env.locals)
  (h1:it∈X.ex\/X.s₀.heap.objs.size<=it)(h2:∀ x c,X.env.cells.lookup x=some c->c≠it)(h3:∀ p∈X.pn++pins,p.1≠it):Inv X pins σ H { s with heap:=h',toks:=t' }:=by
 have nit:∀ b u,H b=some u->b≠it:=fun b u e z=>by rw[z,hn] at e;cases e
 refine I.step (g':=s.gens) (d':=s.drawn) (ch:=[it]) (fun b hb=>?_) (fun b o _ _ hc e _=>k b o (fun z=>hc (by simp[z])) e) (fun b o _ _ hc e _=>⟨o.slots,k b o (fun z=>hc (by simp[z])) e⟩) (fun _ _ _ _ n=>n)
  (fun b o hc e=>⟨o,k b o (fun z=>hc (by simp[z])) e⟩) (fun _ _ e=>e) (fun _ _ _ e=>e) (fun b ps e=>⟨#[],by rw[e];simp⟩) (fun m hm=>?_) (fun b u e=>?_) I.bare
 ·have e:b=it:=by simpa using hb
  subst e;exact⟨h1,hL,h2,h3⟩
 ·obtain⟨o,es,ep,ho,r⟩:=hm
  exact⟨o,es,ep,k _ o (Ne.symm hL) ho,r⟩
 ·refine(I.hok b u e).stay (fun c v hc q=>k c v ?_ q) (fun _ q=>q) fun _ _ q=>q
  rcases hc with z | z
  ·rw[z];exact nit b u e
  ·exact nit c _ z
theorem Inv.tok (I:Inv X pins σ H s)(t:Nat):Inv X pins σ H { s with toks:=t }:=I.un (h':=s.heap) (t':=t) Un.refl I.hok
theorem Inv.kept {t':Nat}(I:Inv X pins σ H s)(k:∀ b u,s.heap.get? b=some u->h'.get? b=some u):Inv X pins σ H { s with heap:=h',toks:=t' }:=I.un (Un.kept k) (I.hok.kept k)
theorem Inv.laid {a:Addr}{o:HO}{t':Nat}(I:Inv X pins σ H s)(k:∀ b u,s.heap.get? b=some u->h'.get? b=some u)(hp:s.heap.objs.size<=a)(new:p6 X.prog X.w (upd H a o) h' a o) :
  Inv X pins σ (upd H a o) { s with heap:=h',toks:=t' }:=I.un (Un.laid k hp (I.hok.fresh hp)) (I.hok.laid k hp new)
theorem Inv.write {x e:Addr}{o:HO}{t':Nat}(I:Inv X pins σ H s)(mu:Mut (H x))(he:e=x\/H e=some (.own x))(k:∀ b u,b≠e->s.heap.get? b=some u->h'.get? b=some u)(heo:∃ u,h'.get? e=some u)
  (new:p6 X.prog X.w (upd H x o) h' x o):Inv X pins σ (upd H x o) { s with heap:=h',toks:=t' }:=I.un (Un.write mu he k heo) (I.hok.write mu he k heo new)
theorem Inv.pins_of {pins':List (Addr×Obj)}(I:Inv X pins σ H s)(h:∀ p∈pins',s.heap.get? p.1=some p.2/\H p.1=none/\p.1≠X.env.locals/\p.1∉X.fs/\∀ v,p.2.data≠.cell v):Inv X pins' σ H s :=
 ⟨I.ok,I.os,I.bare,I.base,I.loc,I.cell,I.free,I.freeC,fun p hp=>(List.mem_append.mp hp).elim (fun z=>I.pin p (mem_append_left _ z)) (h p),I.hok,I.len⟩
theorem ak1 {N:List Str}(hN:N.Nodup){i j:Nat}{x:Str}(a:N[i]? = some x)(b:N[j]? = some x):i=j:=by
 obtain⟨h1,e1⟩:=List.getElem?_eq_some_iff.mp a;obtain⟨h2,e2⟩:=List.getElem?_eq_some_iff.mp b;exact(List.getElem_inj hN).mp (e1.trans e2.symm)
theorem ap2 {M:Model}{A:Around}{E:Value->Shared->Prop}{i:Nat}{x:Str}{v:V}{u:Value}{Q:Unit->Shared->Prop}(I:Inv X pins σ H s)(hN:X.N.Nodup)(hi:X.N[i]? = some x)(hx:Loc X.env.scope x)(r:o5 v u)
  (h:∀ s',Inv X pins (σ.set i (some v)) H s'->(∃ a,Heap.SameBut a s.heap s'.heap/\(a=X.env.locals\/X.env.cells.lookup x=some a))->Q () s')(hf:X.fn x=true\/X.env.scope.names.lookup x=some .local:=by first | exact .inl rfl | exact .inr rfl | assumption):wpAny M A (storeName X.env x u) Q E s:=by
 obtain⟨m,hn,hl⟩:=id I.loc;have hcls:(X.env.scope.kind == .class || (X.env.scope.kind == .module&&X.env.locals != X.env.globals))=false:=by rw[I.ok.kind];rfl
 have hiσ:i < σ.length:=by rw[I.len];exact(List.getElem?_eq_some_iff.mp hi).1
 have cne:=I.cne
 have tracked:∀{a:Addr}{h':Heap},(∃ o,s.heap.get? a=some o/\H a=none)->Heap.SameBut a s.heap h'->HOk X.prog X.w H h':=fun {a h'} ha hs b ob e=>by
  obtain⟨_,_,hfree⟩:=ha;refine(I.hok b ob e).stay (fun c w' hc q=>(hs.2 c ?_).trans q) (fun _ q=>q) fun _ _ q=>q
  rintro rfl
  rcases hc with rfl | hc
  ·rw[hfree] at e;cases e
  ·rw[hfree] at hc;cases hc
 rcases hx with hk | hk
 ·refine wpAny_storeName_local hk hn (fun h' hn' hs=>?_) hcls
  obtain⟨oL,_,_,hoL,_⟩:=id hn;refine h _ ⟨I.ok,I.os,I.bare,⟨fun b o e n hb hx=>?_,fun b o e n hb hx=>?_,I.base.free,fun b o e hx=>?_,I.base.tups,I.base.frzs,I.base.tbls⟩,⟨_,hn',fun j y v' e1 e2 e3=>?_⟩,fun y c e=>?_,I.free,I.freeC,fun p hp=>?_,tracked ⟨oL,hoL,I.free⟩ hs,by simpa using I.len⟩ ⟨_,hs,.inl rfl⟩
  ·exact(hs.2 b (Nat.ne_of_lt (Nat.lt_of_lt_of_le (Heap.lt_size e) I.ok.above))).trans (I.base.keep b o e n hb hx)
  ·obtain⟨sl,e1⟩:=I.base.slot b o e n hb hx
   exact⟨sl,(hs.2 b (Nat.ne_of_lt (Nat.lt_of_lt_of_le (Heap.lt_size e) I.ok.above))).trans e1⟩
  ·obtain⟨o',e1⟩:=I.base.there b o e hx
   exact⟨o',(hs.2 b (Nat.ne_of_lt (Nat.lt_of_lt_of_le (Heap.lt_size e) I.ok.above))).trans e1⟩
  ·by_cases hj:j=i
   ·subst hj
    rw[hi] at e1;cases e1;rw[List.getElem?_set_self hiσ] at e2
    cases e2
    exact⟨u,r,.inl ⟨hk,by simp⟩⟩
   ·rw[List.getElem?_set_ne (Ne.symm hj)] at e2
    obtain⟨u',r',q⟩:=hl j y v' e1 e2 e3;refine⟨u',r',?_⟩
    rcases q with⟨k,e⟩ | ⟨k,c,e,z⟩
    ·refine .inl ⟨k,?_⟩
     have:y≠x:=fun e=>hj (ak1 hN e1 (e ▸ hi))
     simp[this,e]
    ·exact .inr ⟨k,c,e,z.sameBut hs (cne y c e)⟩
  ·obtain⟨w',z⟩:=I.cell y c e
   exact⟨w',z.sameBut hs (cne y c e)⟩
  ·obtain⟨e,n,ne,nf,d⟩:=I.pin p hp
   exact⟨(hs.2 p.1 ne).trans e,n,ne,nf,d⟩
 ·have hfn:X.fn x=true:=by
   rcases hf with z | z
   ·exact z
   ·rw[z] at hk;cases hk
  obtain⟨c,hc⟩:=I.ok.has x (.inl hk);obtain⟨w',z⟩:=I.cell x c hc;refine wpAny_storeName_cell I.ok.kind hk hc z (fun h' hc' hs=>?_);obtain⟨oc,hoc,hocd⟩:=id z;refine h { s with heap:=h' } ⟨I.ok,I.os,I.bare,⟨fun b o e n hb hx=>?_,fun b o e n hb hx=>?_,I.base.free,fun b o e hx=>?_,I.base.tups,I.base.frzs,I.base.tbls⟩,⟨m,hn.sameBut hs (Ne.symm (cne x c hc)),fun j y v' e1 e2 e3=>?_⟩,fun y c' e=>?_,I.free,I.freeC,fun p hp=>?_,tracked ⟨oc,hoc,I.freeC x c hc⟩ hs,by simpa using I.len⟩ ⟨c,hs,.inr hc⟩
  ·exact(hs.2 b (Nat.ne_of_lt (Nat.lt_of_lt_of_le (Heap.lt_size e) (I.ok.cab x c hfn hc)))).trans (I.base.keep b o e n hb hx)
  ·obtain⟨sl,e1⟩:=I.base.slot b o e n hb hx
   exact⟨sl,(hs.2 b (Nat.ne_of_lt (Nat.lt_of_lt_of_le (Heap.lt_size e) (I.ok.cab x c hfn hc)))).trans e1⟩
  ·obtain⟨o',e1⟩:=I.base.there b o e hx
   exact⟨o',(hs.2 b (Nat.ne_of_lt (Nat.lt_of_lt_of_le (Heap.lt_size e) (I.ok.cab x c hfn hc)))).trans e1⟩
  ·by_cases hj:j=i
   ·subst hj
    rw[hi] at e1;cases e1;rw[List.getElem?_set_self hiσ] at e2
    cases e2
    exact⟨u,r,.inr ⟨.inl hk,c,hc,hc'⟩⟩
   ·rw[List.getElem?_set_ne (Ne.symm hj)] at e2
    obtain⟨u',r',q⟩:=hl j y v' e1 e2 e3;refine⟨u',r',?_⟩
    rcases q with q | ⟨k,c',e,z'⟩
    ·exact .inl q
    ·refine .inr ⟨k,c',e,z'.sameBut hs ?_⟩
     rintro rfl
     exact hj (ak1 hN e1 (I.ok.inj _ _ _ e hc ▸ hi))
  ·by_cases hcc:c'=c
   ·subst hcc;exact⟨_,hc'⟩
   ·obtain⟨w2,z2⟩:=I.cell y c' e
    exact⟨w2,z2.sameBut hs hcc⟩
  ·obtain⟨e,n,ne,nf,d⟩:=I.pin p hp
   refine⟨(hs.2 p.1 ?_).trans e,n,ne,nf,d⟩
   intro q
   rw[q,hoc] at e;have q':oc=p.2:=Option.some.inj e;exact d w' (by rw[<- q'];exact hocd)
theorem ai2 {M:Model}{A:Around}{E:Value->Shared->Prop}{i:Nat}{x:Str}{v:V}{u:Value}{Q:Unit->Shared->Prop}(I:Inv X pins σ H s)(hN:X.N.Nodup)(hi:X.N[i]? = some x)(hx:Loc X.env.scope x)(r:o5 v u)
  (h:∀ s',Inv X pins (σ.set i (some v)) H s'->Q () s')(hf:X.fn x=true\/X.env.scope.names.lookup x=some .local:=by first | exact .inl rfl | exact .inr rfl | assumption):wpAny M A (storeName X.env x u) Q E s :=
 ap2 I hN hi hx r (fun s' I' _=>h s' I') hf
theorem Inv.call' {s':Shared}{ch:List Addr}(I:Inv X pins σ H s)(ho:s'.os=s.os)(u:Un (frs X.stack) ch H H' s.heap s'.heap)(hok:HOk X.prog X.w H' s'.heap)(hg:AllBare s'.gens)
  (hch:∀ b∈ch,(b∈X.ex\/X.s₀.heap.objs.size<=b)/\b≠X.env.locals/\(∀ x c,X.env.cells.lookup x=some c->c≠b)/\∀ p∈X.pn++pins,p.1≠b):Inv X pins σ H' s':=by
 obtain⟨h',g',d',t',o'⟩:=s';have e:o'=s.os:=ho;subst e;exact I.call (g':=g') (t':=t') (d':=d') u hok hg hch
end
abbrev XK:=Value->Option Addr->Hp->Prop
abbrev St:=List (Option V)
abbrev VK:=V->Hp->Prop
abbrev TE:=St->Hp->VK->Prop
abbrev TT:=St->Hp->(Bool->Hp->Prop)->Prop
abbrev TA:=St->Hp->(List V->Hp->Prop)->Prop
structure Ends where
 nx:St->Hp->Prop
 rt:VK
 bk:St->Hp->Prop:=fun _ _=>False
 ct:St->Hp->Prop:=fun _ _=>False
abbrev TS:=Ends->St->Hp->Prop
def EP (X:Cx)(pins:List (Addr×Obj))(σ:St)(Q:VK)(u:Value)(s':Shared):Prop:=∃ v H',Inv X pins σ H' s'/\o5 v u/\Q v H'
def TP (X:Cx)(pins:List (Addr×Obj))(σ:St)(Q:Bool->Hp->Prop)(b:Bool)(s':Shared):Prop:=∃ H',Inv X pins σ H' s'/\Q b H'
def AP (X:Cx)(pins:List (Addr×Obj))(σ:St)(Q:List V->Hp->Prop)(us:List Value)(s':Shared):Prop:=∃ vs H',Inv X pins σ H' s'/\j9 vs us/\Q vs H'
def SP (X:Cx)(pins:List (Addr×Obj))(D:Ends)(f:Flow)(s':Shared):Prop :=
 match f with
 | .next=>∃ σ' H',Inv X pins σ' H' s'/\D.nx σ' H'
 | .brk=>∃ σ' H',Inv X pins σ' H' s'/\D.bk σ' H'
 | .cont=>∃ σ' H',Inv X pins σ' H' s'/\D.ct σ' H'
 | .ret u=>∃ v σ' H',Inv X pins σ' H' s'/\o5 v u/\D.rt v H'
def PE (X:Cx)(e:Expr)(t:TE):Prop :=
 ∀(pins:List (Addr×Obj))(s:Shared)(σ:St)(H:Hp)(Q:VK),Inv X pins σ H s->t σ H Q->wpAny (model X.prog X.w) X.A (eval e X.env) (EP X pins σ Q) X.xe s
def PT (X:Cx)(e:Expr)(t:TT):Prop :=
 ∀(pins:List (Addr×Obj))(s:Shared)(σ:St)(H:Hp)(Q:Bool->Hp->Prop),Inv X pins σ H s->t σ H Q->wpAny (model X.prog X.w) X.A (isTrue e X.env (eval e X.env)) (TP X pins σ Q) X.xe s
def PW (X:Cx)(e:Expr)(t:TT):Prop :=
 ∀(whole:Sem Value)(pins:List (Addr×Obj))(s:Shared)(σ:St)(H:Hp)(Q:Bool->Hp->Prop),Inv X pins σ H s->t σ H Q->wpAny (model X.prog X.w) X.A (isTrue e X.env whole) (TP X pins σ Q) X.xe s
theorem PW.pt {X:Cx}{e:Expr}{t:TT}(h:PW X e t):PT X e t:=h _
def PA (X:Cx)(es:List Expr)(t:TA):Prop :=
 ∀(pos:Pos)(pins:List (Addr×Obj))(s:Shared)(σ:St)(H:Hp)(Q:List V->Hp->Prop),Inv X pins σ H s->t σ H Q->wpAny (model X.prog X.w) X.A (spliced (backTo pos (starEach es X.env))) (AP X pins σ Q) X.xe s
def PS (X:Cx)(st:Stmt)(t:TS):Prop :=
 ∀(pins:List (Addr×Obj))(s:Shared)(σ:St)(H:Hp)(D:Ends),Inv X pins σ H s->t D σ H->wpAny (model X.prog X.w) X.A (exec st X.env) (SP X pins D) X.xe s
def PSs (X:Cx)(st:List Stmt)(t:TS):Prop :=
 ∀(pins:List (Addr×Obj))(s:Shared)(σ:St)(H:Hp)(D:Ends),Inv X pins σ H s->t D σ H->wpAny (model X.prog X.w) X.A (execs st X.env) (SP X pins D) X.xe s
theorem thn {α:Type}{t:Sem α}{Q Q':α->Shared->Prop}{M:Model}{A:Around}{E:Value->Shared->Prop}{s:Shared}(h:wpAny M A t Q E s)(hQ:∀ a s,Q a s->Q' a s):wpAny M A t Q' E s:=wpAny_mono h hQ fun _ _ x=>x
section
variable {X:Cx}
theorem bin {a b:Expr}{ta tb:TE}(ha:PE X a ta)(hb:PE X b tb){pins:List (Addr×Obj)}{s:Shared}{σ:St}{H:Hp}{R:V->V->Hp->Prop}(I:Inv X pins σ H s)(h:ta σ H fun x H1=>tb σ H1 fun y H2=>R x y H2)
  {α:Type}{Q:α->Shared->Prop}{f:Value->Value->Sem α}
  (hf:∀ v u s2 x y H2,Inv X pins σ H2 s2->o5 x v->o5 y u->R x y H2->wpAny (model X.prog X.w) X.A (f v u) Q X.xe s2) :
  wpAny (model X.prog X.w) X.A (eval a X.env) (fun v s₁=>wpAny (model X.prog X.w) X.A (eval b X.env) (fun u s₂=>wpAny (model X.prog X.w) X.A (f v u) Q X.xe s₂) X.xe s₁) X.xe s:=by
 refine thn (ha pins s σ H _ I h) fun v s1 ⟨x,H1,I1,r1,q1⟩=>?_;refine thn (hb pins s1 σ H1 _ I1 q1) fun u s2 ⟨y,H2,I2,r2,q2⟩=>?_;exact hf v u s2 x y H2 I2 r1 r2 q2
def bk1 (i:Nat):TE:=fun σ H Q=>∃ v,σ[i]? = some (some v)/\Q v H
def tC (v:V):TE:=fun _ H Q=>Q v H
theorem bf4 {i:Nat}{x:Str}{pos:Pos}(hN:X.N[i]? = some x)(hv:Vis X.env.scope x)(hd:(x == ("__debug__":Str))=false:=by decide)(hcd:(x == ("__classdict__":Str))=false:=by decide):PE X (.Name x pos) (bk1 i):=by
 intro pins s σ H Q I h
 obtain⟨v,e,h⟩:=h;obtain⟨m,hn,hl⟩:=I.loc;obtain⟨u,r,l⟩:=hl i x v hN e hv;have fin:EP X pins σ Q u s:=⟨v,H,I,r,h⟩
 rcases l with⟨hk,hm⟩ | ⟨hk,c,hc,hcell⟩
 ·exact wpAny_Name (wpAny_loadName_local I.ok.kind hk hn hm fin) hd
 ·rcases hk with hk | hk
  ·exact wpAny_Name (wpAny_loadName_cell I.ok.kind hk hc hcell fin) hd
  ·exact wpAny_Name (wpAny_loadName_free I.ok.kind hk hc hcell fin hcd) hd
theorem d9 {i j pos}:PE X (.Constant (.int i) j pos) (tC (.int i)):=fun _ _ _ H _ I h=>wpAny_Constant_int ⟨.int i,H,I.tok _,⟨_,rfl⟩,h⟩
theorem P6 {b j pos}:PE X (.Constant (.bool b) j pos) (tC (.bl b)):=fun _ _ _ H _ I h=>Constant_bool ⟨.bl b,H,I,rfl,h⟩
theorem t9 {j pos}:PE X (.Constant .none j pos) (tC .non):=fun _ _ _ H _ I h=>Constant_none ⟨.non,H,I,rfl,h⟩
theorem Y4 {x j pos}:PE X (.Constant (.str x) j pos) (tC (.str x)):=fun _ _ _ H _ I h=>Calls.Constant_str ⟨.str x,H,I.tok _,⟨_,rfl⟩,h⟩
def Gl (X:Cx)(x:Str):Prop:=X.env.kindOf x=some .globalImplicit
theorem M4 {E:Value->Shared->Prop}{pins:List (Addr×Obj)}{s:Shared}{σ:St}{H:Hp}{x:Str}{u:Value}{pos:Pos}{Q:Value->Shared->Prop}(I:Inv X pins σ H s)(hg:Gl X x)(hm:X.mg x=some u)(h:Q u s)
  (hd:(x == ("__debug__":Str))=false:=by decide):wpAny (model X.prog X.w) X.A (eval (.Name x pos) X.env) Q E s :=
 Calls.Name_function_global I.ok.kind hg (Calls.loadGlobal_global (by rw[I.ok.glob];exact I.mod.glob.keeps I.bk) hm h) hd
theorem S3 {E:Value->Shared->Prop}{pins:List (Addr×Obj)}{s:Shared}{σ:St}{H:Hp}{x:Str}{u:Value}{pos:Pos}{Q:Value->Shared->Prop}(I:Inv X pins σ H s)(hg:Gl X x)(hm:X.mg x=none)(hv:bootBuiltins x=some u)(h:Q u s)
  (hn:x≠"__name__":=by decide)(hd:(x == ("__debug__":Str))=false:=by decide):wpAny (model X.prog X.w) X.A (eval (.Name x pos) X.env) Q E s:=by
 obtain⟨mb,h1,h2⟩:=I.mod.blt;exact Calls.Name_function_global I.ok.kind hg (Calls.loadGlobal_builtin (by rw[I.ok.glob];exact I.mod.glob.keeps I.bk) hm (by rw[I.ok.blt];exact h1.keeps I.bk) ((h2 x hn).trans hv) h) hd
theorem O1 {x:Str}{v:V}{u:Value}{pos:Pos}(hg:Gl X x)(hm:X.mg x=some u)(r:o5 v u)(hd:(x == ("__debug__":Str))=false:=by decide):PE X (.Name x pos) (tC v) :=
 fun _ _ _ H _ I h=>M4 I hg hm ⟨v,H,I,r,h⟩ hd
theorem L5 {x:Str}{v:V}{u:Value}{pos:Pos}(hg:Gl X x)(hm:X.mg x=none)(hv:bootBuiltins x=some u)(r:o5 v u)(hn:x≠"__name__":=by decide)(hd:(x == ("__debug__":Str))=false:=by decide):PE X (.Name x pos) (tC v) :=
 fun _ _ _ H _ I h=>S3 I hg hm hv ⟨v,H,I,r,h⟩ hn hd
variable {a b:Expr}{ta tb:TE}{pos:Pos}
variable {tA tB':TT}{rest:List Expr}
def bm8 (t u:TT):TT:=fun σ H Q=>t σ H fun c H1=>if c=true then u σ H1 Q else Q false H1
def tOr (t u:TT):TT:=fun σ H Q=>t σ H fun c H1=>if c=true then Q true H1 else u σ H1 Q
def bk6 (t:TT):TT:=fun σ H Q=>t σ H fun c H1=>Q (!c) H1
theorem ag1 (ha:PT X a tA):PW X (.BoolOp .And [a] pos) tA:=by
 intro wh pins s σ H Q I h
 refine isTrue_and (thn (ha pins s σ H Q I h) fun c s1 e=>?_)
 cases c with
 | true=>exact isTrue_and_nil e
 | false=>exact e
theorem as9 (ha:PT X a tA):PW X (.BoolOp .Or [a] pos) tA:=by
 intro wh pins s σ H Q I h
 refine isTrue_or (thn (ha pins s σ H Q I h) fun c s1 e=>?_)
 cases c with
 | false=>exact isTrue_or_nil e
 | true=>exact e
theorem ar1 (ha:PT X a tA)(hb:PW X (.BoolOp .And (b::rest) pos) tB'):PW X (.BoolOp .And (a::b::rest) pos) (bm8 tA tB'):=by
 intro wh pins s σ H Q I h
 refine isTrue_and (thn (ha pins s σ H _ I h) fun c s1 ⟨H1,I1,q1⟩=>?_)
 cases c with
 | true=>exact hb wh pins s1 σ H1 Q I1 q1
 | false=>exact⟨H1,I1,q1⟩
theorem aA4 (ha:PT X a tA)(hb:PW X (.BoolOp .Or (b::rest) pos) tB'):PW X (.BoolOp .Or (a::b::rest) pos) (tOr tA tB'):=by
 intro wh pins s σ H Q I h
 refine isTrue_or (thn (ha pins s σ H _ I h) fun c s1 ⟨H1,I1,q1⟩=>?_)
 cases c with
 | true=>exact⟨H1,I1,q1⟩
 | false=>exact hb wh pins s1 σ H1 Q I1 q1
theorem N0 (ha:PT X a tA):PT X (.UnaryOp .Not a pos) (bk6 tA):=by
 intro pins s σ H Q I h
 exact isTrue_not (ha pins s σ H (fun c H1=>Q (!c) H1) I h)
def bj6 (ta tb:TE):TE:=fun σ H Q=>ta σ H fun x H1=>∃ c,x=.bl c/\if c=true then tb σ H1 Q else Q (.bl false) H1
def bh1 (ta:TE):TE:=fun σ H Q=>ta σ H fun x H1=>∃ c,x=.bl c/\Q (.bl (!c)) H1
theorem R6 {op}{t:TE}(h:PE X a t):PE X (.BoolOp op [a] pos) t:=fun pins s σ H Q I hw=>BoolOp_one (h pins s σ H Q I hw)
theorem P9 (ha:PE X a ta)(hb:PE X (.BoolOp .And (b::rest) pos) tb):PE X (.BoolOp .And (a::b::rest) pos) (bj6 ta tb):=by
 intro pins s σ H Q I h
 refine BoolOp_and (thn (ha pins s σ H _ I h) fun v s1 ⟨x,H1,I1,r1,q1⟩=>?_);obtain⟨c,rfl,q1⟩:=q1
 cases r1
 refine wpAny_truthy_bool ?_
 cases c with
 | true=>exact hb pins s1 σ H1 Q I1 q1
 | false=>exact⟨.bl false,H1,I1,rfl,q1⟩
theorem aZ1 (ha:PE X a ta):PE X (.UnaryOp .Not a pos) (bh1 ta):=by
 intro pins s σ H Q I h
 refine UnaryOp_ (thn (ha pins s σ H _ I h) fun v s1 ⟨x,H1,I1,r1,q1⟩=>?_);obtain⟨c,rfl,q1⟩:=q1
 cases r1
 exact not_of (wpAny_truthy_bool ⟨.bl (!c),H1,I1,rfl,q1⟩)
def tIf (t:TT)(ta tb:TE):TE:=fun σ H Q=>t σ H fun c H1=>if c=true then ta σ H1 Q else tb σ H1 Q
theorem ah9 {c:Expr}(hc:PT X c tA)(ha:PE X a ta)(hb:PE X b tb):PE X (.IfExp c a b pos) (tIf tA ta tb):=by
 intro pins s σ H Q I h
 refine wpAny_IfExp (thn (hc pins s σ H _ I h) fun d s1 ⟨H1,I1,q1⟩=>?_)
 cases d with
 | true=>exact ha pins s1 σ H1 Q I1 q1
 | false=>exact hb pins s1 σ H1 Q I1 q1
end
def SqL (K:Frag)(H:Hp)(a:Addr)(xs:List V):Prop :=
 Rd H a (.lst xs) \/
  ∃(o:Obj)(its:Array Value)(n:Nat),K.lookup a=some o/\o.cls=.type "list"/\o.dict=none/\o.data=.seq its n/\its.size<=sizeLine/\j9 xs its.toList
def SqT (K:Frag)(H:Hp)(a:Addr)(xs:List V):Prop :=
 Rd H a (.tup xs) \/
  ∃(o:Obj)(its:Array Value)(n:Nat),K.lookup a=some o/\o.cls=.type "tuple"/\o.data=.seq its n/\its.size<=sizeLine/\j9 xs its.toList
def bl1:Value->Option V
 | .none=>some .non
 | .bool b=>some (.bl b)
 | .int i _=>some (.int i)
 | .str x _=>some (.str x)
 | .bytes b _=>some (.byt b)
 | .float b _=>some (.flt b)
 | .ref a=>some (.ref a)
 | .type n=>some (.ty n)
 | _=>none
theorem o5.abs {x:V}{u:Value}(r:o5 x u):bl1 u=some x:=by
 cases x with
 | non=>cases r;rfl
 | bl _=>cases r;rfl
 | int _=>obtain⟨t,rfl⟩:=r;rfl
 | str _=>obtain⟨t,rfl⟩:=r;rfl
 | byt _=>obtain⟨t,rfl⟩:=r;rfl
 | flt _=>obtain⟨t,rfl⟩:=r;rfl
 | ref _=>cases r;rfl
 | ty _=>cases r;rfl
theorem o5.inj {x y:V}{u:Value}(r:o5 x u)(q:o5 y u):x=y:=Option.some.inj (r.abs.symm.trans q.abs)
theorem j9.inj:∀{xs ys:List V}{us:List Value},j9 xs us->j9 ys us->xs=ys
 | _,_,_,.nil,.nil=>rfl
 | _,_,_,.cons r t,.cons r' t'=>by rw[r.inj r',j9.inj t t']
section
variable {X:Cx}{pins:List (Addr×Obj)}{σ:St}{H:Hp}{s:Shared}{a:Addr}{xs ys:List V}
theorem SqL.of {K:Frag}(h:H a=some (.lst xs)):SqL K H a xs:=.inl (.inl h)
theorem SqT.of {K:Frag}(h:H a=some (.tup xs)):SqT K H a xs:=.inl (.inl h)
theorem Inv.list (I:Inv X pins σ H s)(h:SqL X.K H a xs):∃ its:List Value,j9 xs its/\PlainL s.heap a its.toArray/\xs.length<=sizeLine:=by
 rcases h with h | ⟨o,its,n,hk,hc,hd,hs,hz,r⟩
 ·obtain⟨z,its,n,r,e⟩:=h.ok I.hok
  exact⟨its,r,⟨_,n,e,rfl,rfl,rfl⟩,z⟩
 ·refine⟨its.toList,r,⟨o,n,I.kIn a o hk,hc,hd,by simpa using hs⟩,?_⟩
  have e:=r.length
  simp only[Array.length_toList] at e
  lia
theorem Inv.tuple (I:Inv X pins σ H s)(h:SqT X.K H a xs):∃ its:List Value,j9 xs its/\IsTup s.heap a its.toArray/\xs.length<=sizeLine:=by
 rcases h with h | ⟨o,its,n,hk,hc,hs,hz,r⟩
 ·obtain⟨z,its,r,p⟩:=h.ok I.hok
  exact⟨its,r,p,z⟩
 ·refine⟨its.toList,r,⟨o,I.kIn a o hk,hc,n,by simpa using hs⟩,?_⟩
  have e:=r.length
  simp only[Array.length_toList] at e
  lia
theorem Inv.list_inj (I:Inv X pins σ H s)(h:SqL X.K H a xs)(h':SqL X.K H a ys):xs=ys:=by
 obtain⟨its,r,⟨o,n,e,_,_,d⟩,_⟩:=I.list h;obtain⟨its',r',⟨o',n',e',_,_,d'⟩,_⟩:=I.list h';rw[e] at e';cases e';rw[d] at d'
 injection d' with d1 _
 have:its=its':=by simpa using congrArg Array.toList d1
 subst this;exact r.inj r'
theorem Inv.tuple_inj (I:Inv X pins σ H s)(h:SqT X.K H a xs)(h':SqT X.K H a ys):xs=ys:=by
 obtain⟨its,r,⟨o,e,_,n,d⟩,_⟩:=I.tuple h;obtain⟨its',r',⟨o',e',_,n',d'⟩,_⟩:=I.tuple h';rw[e] at e';cases e';rw[d] at d'
 injection d' with d1 _
 have:its=its':=by simpa using congrArg Array.toList d1
 subst this;exact r.inj r'
end
abbrev Cx.wish (X:Cx)(E:Value->Shared->Prop):Cx:={ X with xe:=E }
abbrev Cx.nox (X:Cx):Cx:=X.wish fun _ _=>False
theorem Cx.Ok.wish {X:Cx}(ok:X.Ok)(E:Value->Shared->Prop):(X.wish E).Ok :=
 ⟨ok.mod,ok.kind,ok.glob,ok.blt,ok.above,ok.inj,ok.has,ok.cab,ok.hd,ok.frames,ok.stk,ok.exf,ok.bs,ok.bsz,ok.noex,ok.exfs,ok.funs,ok.frf⟩
theorem Cx.Ok.unwish {X:Cx}{E:Value->Shared->Prop}(ok:(X.wish E).Ok):X.Ok :=
 ⟨ok.mod,ok.kind,ok.glob,ok.blt,ok.above,ok.inj,ok.has,ok.cab,ok.hd,ok.frames,ok.stk,ok.exf,ok.bs,ok.bsz,ok.noex,ok.exfs,ok.funs,ok.frf⟩
section
variable {X:Cx}{pins:List (Addr×Obj)}{σ:St}{H:Hp}{s:Shared}{E:Value->Shared->Prop}
theorem Inv.wish (I:Inv X pins σ H s)(E:Value->Shared->Prop):Inv (X.wish E) pins σ H s:=⟨I.ok.wish E,I.os,I.bare,I.base,I.loc,I.cell,I.free,I.freeC,I.pin,I.hok,I.len⟩
theorem Inv.unwish (I:Inv (X.wish E) pins σ H s):Inv X pins σ H s:=⟨I.ok.unwish,I.os,I.bare,I.base,I.loc,I.cell,I.free,I.freeC,I.pin,I.hok,I.len⟩
theorem SP.unwish {D:Ends}{f:Flow}{s':Shared}(h:SP (X.wish E) pins D f s'):SP X pins D f s':=by
 cases f with
 | next=>obtain⟨σ',H',I,q⟩:=h;exact⟨σ',H',I.unwish,q⟩
 | brk=>obtain⟨σ',H',I,q⟩:=h;exact⟨σ',H',I.unwish,q⟩
 | cont=>obtain⟨σ',H',I,q⟩:=h;exact⟨σ',H',I.unwish,q⟩
 | ret u=>obtain⟨v,σ',H',I,r,q⟩:=h;exact⟨v,σ',H',I.unwish,r,q⟩
theorem PSs.nox {st:List Stmt}{t:TS}(h:PSs X.nox st t):PSs X st t:=fun pins s σ H D I hw =>
 wpAny_mono (h pins s σ H D (I.wish _) hw) (fun _ _ q=>q.unwish) fun _ _ z=>False.elim z
end
section
variable {X:Cx}{st:Stmt}{rest:List Stmt}{t u:TS}{e:Expr}{te:TE}{pos:Pos}
def ap5:TS:=fun D σ H=>D.nx σ H
def bj8 (t u:TS):TS:=fun D σ H=>t { D with nx:=u D } σ H
theorem j7:PSs X [] ap5:=fun _ _ σ H _ I h=>wpAny_execs_nil ⟨σ,H,I,h⟩
theorem g6 (h1:PS X st t)(h2:PSs X rest u):PSs X (st::rest) (bj8 t u):=by
 intro pins s σ H D I h
 refine wpAny_execs_cons (thn (h1 pins s σ H { D with nx:=u D } I h) fun f s1 q=>?_)
 cases f with
 | next =>
  obtain⟨σ',H',I',q⟩:=q;exact h2 pins s1 σ' H' D I' q
 | ret v=>exact q
 | brk=>exact q
 | cont=>exact q
theorem g9 (h1:PS X st t):PSs X [st] t:=by
 intro pins s σ H D I h
 refine wpAny_execs_cons (thn (h1 pins s σ H D I h) fun f s1 q=>?_)
 cases f with
 | next=>exact wpAny_execs_nil q
 | ret v=>exact q
 | brk=>exact q
 | cont=>exact q
theorem Inv.quiet {pins:List (Addr×Obj)}{σ:St}{H:Hp}{s:Shared}(I:Inv X pins σ H s):interactive X.env=false:=by simp[interactive,I.ok.kind]
def bj5 (te:TE):TS:=fun D σ H=>te σ H fun _ H1=>D.nx σ H1
theorem A4 (he:PE X e te)(hs:swapsWith e none pos.line X.env=pure false:=by rfl):PS X (.Expr e pos) (bj5 te):=by
 intro pins s σ H D I h
 exact wpAny_Expr_any (thn (he pins s σ H _ I h) fun v s1 ⟨x,H1,I1,r1,q1⟩=>⟨σ,H1,I1,q1⟩) I.quiet hs
def bk5 (te:TE):TS:=fun D σ H=>te σ H D.rt
theorem i7 (he:PE X e te):PS X (.Return (some e) pos) (bk5 te):=by
 intro pins s σ H D I h
 exact wpAny_Return_some (thn (he pins s σ H _ I h) fun v s1 ⟨x,H1,I1,r1,q1⟩=>⟨x,σ,H1,I1,r1,q1⟩)
def bm3 (c:TT)(t u:TS):TS:=fun D σ H=>c σ H fun b H1=>if b=true then t D σ H1 else u D σ H1
theorem m7 {c:Expr}{a b:List Stmt}{tc:TT}(hc:PT X c tc)(ha:PSs X a t)(hb:PSs X b u):PS X (.If c a b pos) (bm3 tc t u):=by
 intro pins s σ H D I h
 refine wpAny_If (thn (hc pins s σ H _ I h) fun d s1 ⟨H1,I1,q1⟩=>?_)
 cases d with
 | true=>exact ha pins s1 σ H1 D I1 q1
 | false=>exact hb pins s1 σ H1 D I1 q1
end
abbrev TG:=V->St->Hp->(St->Hp->Prop)->Prop
abbrev TGs:=List V->St->Hp->(St->Hp->Prop)->Prop
def PG (X:Cx)(target:Expr)(t:TG):Prop :=
 ∀(pins:List (Addr×Obj))(s:Shared)(σ:St)(H:Hp)(v:V)(u:Value)(Q:St->Hp->Prop),Inv X pins σ H s->o5 v u->t v σ H Q ->
  wpAny (model X.prog X.w) X.A (assign target X.env u) (fun _ s'=>∃ σ' H',Inv X pins σ' H' s'/\Q σ' H') X.xe s
def PGs (X:Cx)(ts:List Expr)(t:TGs):Prop :=
 ∀(pins:List (Addr×Obj))(s:Shared)(σ:St)(H:Hp)(vs:List V)(us:List Value)(Q:St->Hp->Prop),Inv X pins σ H s->j9 vs us->t vs σ H Q ->
  wpAny (model X.prog X.w) X.A (assignInOrder ((assignEach ts X.env).map (·.2)) us) (fun _ s'=>∃ σ' H',Inv X pins σ' H' s'/\Q σ' H') X.xe s
abbrev aU7:=V->V->V->Hp->(Hp->Prop)->Prop
def a88 (X:Cx)(t:aU7):Prop :=
 ∀(pins:List (Addr×Obj))(s:Shared)(σ:St)(H:Hp)(o i v:V)(ov iv u:Value)(Q:Hp->Prop),Inv X pins σ H s->o5 o ov->o5 i iv->o5 v u->t o i v H Q ->
  wpAny (model X.prog X.w) X.A (setItem ov iv u) (fun _ s'=>∃ H',Inv X pins σ H' s'/\Q H') X.xe s
abbrev TIp:=V->V->Hp->VK->Prop
def PIp (X:Cx)(op:Operator)(t:TIp):Prop :=
 ∀(pins:List (Addr×Obj))(s:Shared)(σ:St)(H:Hp)(x y:V)(v u:Value)(Q:VK),Inv X pins σ H s->o5 x v->o5 y u->t x y H Q ->
  wpAny (model X.prog X.w) X.A (inplaceOp op v u) (EP X pins σ Q) X.xe s
section
variable {X:Cx}{pos:Pos}
def Q4 (i:Nat):TG:=fun v σ H Q=>Q (σ.set i (some v)) H
theorem m5 {i:Nat}{x:Str}(hN:X.N.Nodup)(hi:X.N[i]? = some x)(hx:Loc X.env.scope x)(hf:X.fn x=true\/X.env.scope.names.lookup x=some .local:=by first | exact .inl rfl | exact .inr rfl | assumption):PG X (.Name x pos) (Q4 i):=by
 intro pins s σ H v u Q I r h
 exact wpAny_assign_Name (ai2 I hN hi hx r (fun s' I'=>⟨_,H,I',h⟩) hf)
def bc8:TGs:=fun vs σ H Q=>vs=[]/\Q σ H
def aB4 (t:TG)(u:TGs):TGs:=fun vs σ H Q=>∃ v r,vs=v::r/\t v σ H fun σ' H'=>u r σ' H' Q
theorem a_0:PGs X [] bc8:=by
 intro pins s σ H vs us Q I r h
 obtain⟨e,h⟩:=h;subst e
 cases r
 exact assignInOrder_nil ⟨σ,H,I,h⟩
theorem aC2 {e:Expr}{es:List Expr}{t:TG}{u:TGs}(h1:PG X e t)(h2:PGs X es u)
  (hs:(assignEach (e::es) X.env).map (·.2)=assign e X.env::(assignEach es X.env).map (·.2):=by rfl):PGs X (e::es) (aB4 t u):=by
 intro pins s σ H vs us Q I r h
 obtain⟨v,vr,e1,h⟩:=h;subst e1
 cases r with
 | cons r rr =>
  rw[hs];refine assignInOrder_cons (thn (h1 pins s σ H _ _ _ I r h) fun _ s1 ⟨σ1,H1,I1,q1⟩=>?_);exact h2 pins s1 σ1 H1 _ _ Q I1 rr q1
def be0 (K:Frag)(n:Nat)(t:TGs):TG:=fun v σ H Q=>∃ a xs,v=.ref a/\SqT K H a xs/\xs.length=n/\t xs σ H Q
theorem bf7 {es:List Expr}{k:Nat}{t:TGs}{n:Nat}(hc:X.calm=true)(h:PGs X es t)
  (hn:(assignEach es X.env).length=n:=by rfl)(hst:(assignEach es X.env).findIdx? (·.1)=none:=by rfl):PG X (.Tuple es k pos) (be0 X.K n t):=by
 intro pins s σ H v u Q I r hw
 obtain⟨a,xs,e1,hq,hl,hw⟩:=hw;subst e1
 cases r
 obtain⟨its,rv,ht,hz⟩:=I.tuple hq;refine assign_Tuple_tuple (I.ok.hd hc) ht (by simp[hn,<- hl,rv.length]) hst fun h' hx=>?_
 have I1:Inv X pins σ H { s with heap:=h' }:=I.kept (t':=s.toks) fun b o e=>hx b o (Nat.ne_of_lt (Heap.lt_size e)) e
 exact h pins _ σ H xs _ Q I1 (by simpa using rv) hw
def bl7 (to ti:TE)(t:aU7):TG:=fun v σ H Q=>to σ H fun o H1=>ti σ H1 fun i H2=>t o i v H2 fun H3=>Q σ H3
theorem aF7 {o i:Expr}{to ti:TE}{t:aU7}(ho:PE X o to)(hi:PE X i ti)(hs:a88 X t)
  (ha:∀ v,assign (.Subscript o i pos) X.env v=(do
   let ov <- holding [v] (eval o X.env)
   let iv <- holding [v,ov] (eval i X.env)
   standAt pos
   holding [v,ov,iv] (setItem ov iv v)
   release [v,ov,iv] []):=by intro _;rfl):PG X (.Subscript o i pos) (bl7 to ti t):=by
 intro pins s σ H v u Q I r h
 rw[ha];refine wpAny_bind (wpAny_holding (thn (ho pins s σ H _ I h) fun ov s1 ⟨x,H1,I1,r1,q1⟩=>?_));refine wpAny_bind (wpAny_holding (thn (hi pins s1 σ H1 _ I1 q1) fun iv s2 ⟨y,H2,I2,r2,q2⟩=>?_));refine wpAny_bind (wpAny_standAt (wpAny_bind (wpAny_holding (thn (hs pins s2 σ H2 x y v ov iv u _ I2 r1 r2 r q2) fun _ s3 ⟨H3,I3,q3⟩=>?_))));exact wpAny_release ⟨σ,H3,I3,q3⟩
def bc2 (te:TE)(g:TG):TS:=fun D σ H=>te σ H fun x H1=>g x σ H1 D.nx
theorem aq4 {tg e:Expr}{te:TE}{g:TG}(he:PE X e te)(hg:PG X tg g)(hs:swapsWithSole [tg] e pos.line X.env=pure false:=by rfl)(hw:swappedStores [tg] e X.env=pure none:=by rfl)
  (h1:(assignEach [tg] X.env).map (·.2)=[assign tg X.env]:=by rfl):PS X (.Assign [tg] e pos) (bc2 te g):=by
 intro pins s σ H D I h
 refine wpAny_Assign_stores (thn (he pins s σ H _ I h) fun v s1 ⟨x,H1,I1,r1,q1⟩=>?_) hs hw;rw[h1];exact thn (hg pins s1 σ H1 x v _ I1 r1 q1) fun _ s2 q=>q
theorem i0 {i:Nat}{x:Str}{e:Expr}{te:TE}{pos':Pos}(hN:X.N.Nodup)(hi:X.N[i]? = some x)(hx:Loc X.env.scope x)(he:PE X e te)(hs:swapsWith e (some (.Name x pos')) pos.line X.env=pure false:=by rfl)(hf:X.fn x=true\/X.env.scope.names.lookup x=some .local:=by first | exact .inl rfl | exact .inr rfl | assumption) :
  PS X (.Assign [.Name x pos'] e pos) (bc2 te (Q4 i)):=by
 intro pins s σ H D I h
 refine wpAny_Assign_Name (thn (he pins s σ H _ I h) fun v s1 ⟨y,H1,I1,r1,q1⟩=>?_) hs;exact ai2 I1 hN hi hx r1 (fun s2 I2=>⟨_,H1,I2,q1⟩) hf
def bj1 (to ti te:TE)(tget:V->V->Hp->VK->Prop)(tip:TIp)(tset:aU7):TS:=fun D σ H=>to σ H fun o H1=>ti σ H1 fun i H2=>tget o i H2 fun x H3=>te σ H3 fun y H4=>tip x y H4 fun z H5=>tset o i z H5 fun H6=>D.nx σ H6
def bd1 (X:Cx)(t:V->V->Hp->VK->Prop):Prop :=
 ∀(pins:List (Addr×Obj))(s:Shared)(σ:St)(H:Hp)(o i:V)(ov iv:Value)(Q:VK),Inv X pins σ H s->o5 o ov->o5 i iv->t o i H Q ->
  wpAny (model X.prog X.w) X.A (getItem ov iv) (EP X pins σ Q) X.xe s
theorem a70 {o i e:Expr}{to ti te:TE}{tget:V->V->Hp->VK->Prop}{tip:TIp}{tset:aU7}{op:Operator}{tpos:Pos}(ho:PE X o to)(hi:PE X i ti)(hg:bd1 X tget)(he:PE X e te)(hp:PIp X op tip)(hs:a88 X tset)
  (ha:∀ ov iv new,augStore i ov iv new=(do holding [new,ov,iv] (setItem ov iv new);release [new,ov,iv] [];pure .next):=by intros;rfl):PS X (.AugAssign (.Subscript o i tpos) op e pos) (bj1 to ti te tget tip tset):=by
 intro pins s σ H D I h
 refine wpAny_AugAssign_SubscriptAny (thn (ho pins s σ H _ I h) fun ov s1 ⟨x1,H1,I1,r1,q1⟩=>?_) ha;refine thn (hi pins s1 σ H1 _ I1 q1) fun iv s2 ⟨x2,H2,I2,r2,q2⟩=>?_;refine thn (hg pins s2 σ H2 x1 x2 ov iv _ I2 r1 r2 q2) fun old s3 ⟨x3,H3,I3,r3,q3⟩=>?_;refine thn (he pins s3 σ H3 _ I3 q3) fun v s4 ⟨x4,H4,I4,r4,q4⟩=>?_;refine thn (hp pins s4 σ H4 x3 x4 old v _ I4 r3 r4 q4) fun new s5 ⟨x5,H5,I5,r5,q5⟩=>?_;exact thn (hs pins s5 σ H5 x1 x2 x5 ov iv new _ I5 r1 r2 r5 q5) fun _ s6 ⟨H6,I6,q6⟩=>⟨σ,H6,I6,q6⟩
end
structure It where
 go:Nat->Hp->Prop
 yld:Nat->Hp->V->Hp->Prop
 stop:Nat->Hp->Prop
def S9 (X:Cx)(pins:List (Addr×Obj))(H:Hp)(b:Addr):Prop :=
 H b=none/\b≠X.env.locals/\b∉X.fs/\(b∈X.ex\/X.s₀.heap.objs.size<=b)/\(∀ x c,X.env.cells.lookup x=some c->c≠b)/\∀ p∈X.pn++pins,p.1≠b
theorem Inv.fpOk {X:Cx}{pins:List (Addr×Obj)}{σ:St}{H H':Hp}{s:Shared}{b:Addr}(I:Inv X pins σ H s)(hb:s.heap.objs.size<=b)(hn:H' b=none):S9 X pins H' b:=by
 refine⟨hn,Nat.ne_of_gt (Nat.lt_of_lt_of_le I.lt hb),I.nofs hb,.inr (Nat.le_trans I.sz hb),fun x c e z=>?_,fun p hp z=>?_⟩
 ·obtain⟨v,q⟩:=I.cell x c e
  exact absurd (Nat.lt_of_lt_of_le q.lt (by rw[z];exact hb)) (Nat.lt_irrefl _)
 ·exact absurd (Nat.lt_of_lt_of_le (Heap.lt_size (I.pin p hp).1) (by rw[z];exact hb)) (Nat.lt_irrefl _)
structure Turn (P:Program)(w:World)(K:Frag)(tg:Expr)(J:It)(fp:List Addr)(it:Addr)(tn:Nat->Heap->Prop):Prop where
 mem:it∈fp
 obj:∀ i h,tn i h->∀ b∈fp,∃ o,h.get? b=some o/\∀ v,o.data≠.cell v
 keep:∀ i h h',tn i h->(∀ b∈fp,∀ o,h.get? b=some o->h'.get? b=some o)->tn i h'
 item:∀(X:Cx),X.prog=P->X.w=w->X.K=K->X.calm=true->∀(i:Nat)(pins:List (Addr×Obj))(s:Shared)(σ:St)(H:Hp)(E:Value->Shared->Prop),Inv X pins σ H s->(∀ b∈fp,S9 X pins H b)->tn i s.heap->J.go i H ->
  wpAny (model P w) X.A (pyNext (.ref it)) (fun r s1=>∃ u,r=some u /\
   wpAny (model P w) X.A (letOwnedTupleGo tg (.ref it) u) (fun _ s2=>∃ x H',Inv X pins σ H' s2/\o5 x u/\J.yld i H x H'/\tn (i + 1) s2.heap/\∀ b∈fp,H' b=none) E s1) E s
 done:∀(X:Cx),X.prog=P->X.w=w->X.K=K->X.calm=true->∀(i:Nat)(pins:List (Addr×Obj))(s:Shared)(σ:St)(H:Hp)(E:Value->Shared->Prop),Inv X pins σ H s->(∀ b∈fp,S9 X pins H b)->tn i s.heap->J.stop i H ->
  wpAny (model P w) X.A (pyNext (.ref it)) (fun r s1=>r=none/\Inv X pins σ H s1) E s
 self:∀(A:Around)(i:Nat)(s:Shared)(Q:Value->Shared->Prop)(E:Value->Shared->Prop),tn i s.heap->Q (.ref it) s->wpAny (model P w) A (pyIter (.ref it)) Q E s
abbrev TI:=St->Hp->(It->Hp->Prop)->Prop
def PIE (X:Cx)(pins:List (Addr×Obj))(σ:St)(tg:Expr)(R:It->Hp->Prop)(itv:Value)(s2:Shared):Prop :=
 ∃(it:Addr)(fp:List Addr)(tn:Nat->Heap->Prop)(J:It)(H':Hp),itv=.ref it/\Inv X pins σ H' s2/\Turn X.prog X.w X.K tg J fp it tn/\tn 0 s2.heap/\(∀ b∈fp,S9 X pins H' b)/\R J H'
def PI (X:Cx)(tg iter:Expr)(wi:TI):Prop :=
 ∀(pins:List (Addr×Obj))(s:Shared)(σ:St)(H:Hp)(R:It->Hp->Prop),Inv X pins σ H s->wi σ H R ->
  wpAny (model X.prog X.w) X.A (eval iter X.env) (fun v s1=>wpAny (model X.prog X.w) X.A (pyIter v) (PIE X pins σ tg R) X.xe s1) X.xe s
theorem aX2 {M:Model}{A:Around}{E:Value->Shared->Prop}{s:Shared}{tg:Expr}{it:Addr}{u:Value}{o:Obj}{n:String}{vs:Array Value}{Q:Unit->Shared->Prop}(ho:s.heap.get? it=some o)(hc:o.cls=.type n)(hd:o.data=.fields vs)
    (hn:["enumerate","zip","dict_itemiterator","dict_reverseitemiterator","odict_iterator","itertools.zip_longest","itertools.pairwise"].contains n=false)(hQ:Q () s):wpAny M A (letOwnedTupleGo tg (.ref it) u) Q E s:=by
  unfold letOwnedTupleGo
  cases tg <;> first
    | exact wpAny_pure hQ
    | (cases u <;> first
        | exact wpAny_pure hQ
        | (refine wpAny_bind (wpAny_load ho ?_)
           rw[hc,hd]
           show wpAny M A (if (["enumerate","zip","dict_itemiterator","dict_reverseitemiterator","odict_iterator","itertools.zip_longest","itertools.pairwise"].contains n&&vs[0]? == some (rawInt _))=true then _ else _) Q E s
           rw[if_neg (by intro h;rw[hn,Bool.false_and] at h;cases h)]
           exact wpAny_pure hQ))
def Itl (K:Frag)(a:Addr):It :=
 ⟨fun i H=>∃ xs x,SqL K H a xs/\xs[i]? = some x,fun i H x H'=>H'=H/\∀ xs,SqL K H a xs->xs[i]? = some x,fun i H=>∃ xs,SqL K H a xs/\xs.length<=i⟩
def Itt (K:Frag)(a:Addr):It :=
 ⟨fun i H=>∃ xs x,SqT K H a xs/\xs[i]? = some x,fun i H x H'=>H'=H/\∀ xs,SqT K H a xs->xs[i]? = some x,fun i H=>∃ xs,SqT K H a xs/\xs.length<=i⟩
def Itr (lo:Int)(n:Nat):It:=⟨fun i _=>i < n,fun i H x H'=>H'=H/\x=.int (lo + i),fun i _=>n<=i⟩
theorem aO0 {P:Program}{w:World}{K:Frag}{tg:Expr}(a it:Addr):Turn P w K tg (Itl K a) [it] it (fun i h=>h.IsListIter it a i) where
 mem:=by simp
 obj:=fun i h st b hb=>by
  have e:b=it:=by simpa using hb
  subst e;obtain⟨o,e,c,d⟩:=st;exact⟨o,e,fun v z=>by rw[d] at z;cases z⟩
 keep:=fun i h h' st k=>st.at fun o e=>k it (by simp) o e
 item:=by
  intro X hP hw hK hc i pins s σ H E I hf st hg
  subst hP hw hK;obtain⟨xs,x,hq,hx⟩:=hg;obtain⟨its,rv,p,hz⟩:=I.list hq;obtain⟨u,hu,ru⟩:=rv.get hx;obtain⟨f0,f1,f2,f3,f4,f5⟩:=hf it (by simp)
  refine wpAny_pyNext_list_item st p.isList (x:=u) (by simpa using hu) fun h' st' sb=>?_
  have I1:Inv X pins σ H { s with heap:=h' }:=I.turned (t':=s.toks) (fun b o hb e=>(sb.2 b hb).trans e) f0 f1 f3 f4 f5
  obtain⟨o,e,c,d⟩:=id st';exact⟨u,rfl,aX2 (s:={ s with heap:=h' }) e c d (by decide) ⟨x,H,I1,ru,⟨rfl,fun ys hy=>by rw[I.list_inj hy hq];exact hx⟩,st',fun b hb=>(hf b hb).1⟩⟩
 done:=by
  intro X hP hw hK hc i pins s σ H E I hf st hg
  subst hP hw hK;obtain⟨xs,hq,hx⟩:=hg;obtain⟨its,rv,p,hz⟩:=I.list hq;obtain⟨f0,f1,f2,f3,f4,f5⟩:=hf it (by simp)
  have hl:=rv.length;exact wpAny_pyNext_list_end (I.ok.hd hc) st p.isList (by simp;lia) fun h' eb=>⟨rfl,I.turned (t':=s.toks) (fun b o hb e=>eb b o hb e) f0 f1 f3 f4 f5⟩
 self:=fun _ _ _ _ _ st h=>wpAny_pyIter_listiter st h
theorem aC7 {P:Program}{w:World}{K:Frag}{tg:Expr}(a it:Addr):Turn P w K tg (Itt K a) [it] it (fun i h=>h.IsTupleIter it a i) where
 mem:=by simp
 obj:=fun i h st b hb=>by
  have e:b=it:=by simpa using hb
  subst e;obtain⟨o,e,c,d⟩:=st;exact⟨o,e,fun v z=>by rw[d] at z;cases z⟩
 keep:=fun i h h' st k=>st.at fun o e=>k it (by simp) o e
 item:=by
  intro X hP hw hK hc i pins s σ H E I hf st hg
  subst hP hw hK;obtain⟨xs,x,hq,hx⟩:=hg;obtain⟨its,rv,p,hz⟩:=I.tuple hq;obtain⟨u,hu,ru⟩:=rv.get hx;obtain⟨f0,f1,f2,f3,f4,f5⟩:=hf it (by simp)
  refine wpAny_pyNext_tuple_item st (show s.heap.IsTuple a its.toArray from p) (x:=u) (by simpa using hu) fun h' st' sb=>?_
  have I1:Inv X pins σ H { s with heap:=h' }:=I.turned (t':=s.toks) (fun b o hb e=>(sb.2 b hb).trans e) f0 f1 f3 f4 f5
  obtain⟨o,e,c,d⟩:=id st';exact⟨u,rfl,aX2 (s:={ s with heap:=h' }) e c d (by decide) ⟨x,H,I1,ru,⟨rfl,fun ys hy=>by rw[I.tuple_inj hy hq];exact hx⟩,st',fun b hb=>(hf b hb).1⟩⟩
 done:=by
  intro X hP hw hK hc i pins s σ H E I hf st hg
  subst hP hw hK;obtain⟨xs,hq,hx⟩:=hg;obtain⟨its,rv,p,hz⟩:=I.tuple hq;obtain⟨f0,f1,f2,f3,f4,f5⟩:=hf it (by simp)
  have hl:=rv.length;exact wpAny_pyNext_tuple_end (I.ok.hd hc) st (show s.heap.IsTuple a its.toArray from p) (by simp;lia) fun h' eb=>⟨rfl,I.turned (t':=s.toks) (fun b o hb e=>eb b o hb e) f0 f1 f3 f4 f5⟩
 self:=fun _ _ _ _ _ st h=>wpAny_pyIter_tupleiter st h
theorem aD4 {P:Program}{w:World}{K:Frag}{tg:Expr}(it:Addr)(lo:Int)(n:Nat):Turn P w K tg (Itr lo n) [it] it (fun i h=>IsRangeIter h it (lo + (i:Nat) * 1) ((n:Int) - (i:Nat)) 1) where
 mem:=by simp
 obj:=fun i h st b hb=>by
  have e:b=it:=by simpa using hb
  subst e
  exact⟨_,st,fun v z=>by
   have z':Data.fields _=Data.cell v:=z
   cases z'⟩
 keep:=fun i h h' st k=>k it (by simp) _ st
 item:=by
  intro X hP hw hK hc i pins s σ H E I hf st hg
  subst hP hw hK;obtain⟨f0,f1,f2,f3,f4,f5⟩:=hf it (by simp)
  have W:=Walks.range (prog:=X.prog) (w:=X.w) (I.ok.hd hc) it lo 1 n;refine W.item i s _ _ hg st fun v h' tk hv st' kk=>?_;obtain⟨t,rfl⟩:=hv;have I1:Inv X pins σ H { s with heap:=h',toks:=tk }:=I.turned (fun b o hb e=>kk b o (by simpa using hb) e) f0 f1 f3 f4 f5
  refine⟨_,rfl,aX2 (s:={ s with heap:=h',toks:=tk }) (n:="range_iterator") st' rfl rfl (by decide) ⟨.int (lo + i),H,I1,⟨t,?_⟩,⟨rfl,rfl⟩,st',fun b hb=>(hf b hb).1⟩⟩
  rw[Int.mul_one]
 done:=by
  intro X hP hw hK hc i pins s σ H E I hf st hg
  subst hP hw hK;obtain⟨f0,f1,f2,f3,f4,f5⟩:=hf it (by simp)
  exact wpAny_pyNext_range_end (I.ok.hd hc) st (by have:n<=i:=hg;lia) fun h' eb=>⟨rfl,I.turned (t':=s.toks) (fun b o hb e=>eb b o hb e) f0 f1 f3 f4 f5⟩
 self:=fun _ _ _ _ _ st h=>wpAny_pyIter_rangeiter st h
section
variable {X:Cx}{tg:Expr}
def ba4 (K:Frag)(tl:TE):TI:=fun σ H R=>tl σ H fun x H1=>∃ a,x=.ref a/\(∃ xs,SqL K H1 a xs)/\R (Itl K a) H1
def bh6 (K:Frag)(tl:TE):TI:=fun σ H R=>tl σ H fun x H1=>∃ a,x=.ref a/\(∃ xs,SqT K H1 a xs)/\R (Itt K a) H1
theorem a_6 {l:Expr}{tl:TE}(hl:PE X l tl):PI X tg l (ba4 X.K tl):=by
 intro pins s σ H R I h
 refine thn (hl pins s σ H _ I h) fun v s1 ⟨x,H1,I1,r1,q1⟩=>?_;obtain⟨a,e,⟨xs,hq⟩,q⟩:=q1;subst e
 cases r1
 obtain⟨its,rv,p,hz⟩:=I1.list hq;refine wpAny_pyIter_list p.isList ?_;refine⟨s1.heap.objs.size,[s1.heap.objs.size],_,_,H1,rfl,I1.kept (t':=s1.toks) fun b o e=>Heap.get?_push_of_some _ e,aO0 a _,⟨_,Heap.get?_push_size _ rfl,rfl,rfl⟩,fun b hb=>?_,q⟩;have e:b=s1.heap.objs.size:=by simpa using hb
 subst e;exact I1.fpOk (Nat.le_refl _) (I1.hok.fresh (Nat.le_refl _))
theorem bf5 {l:Expr}{tl:TE}(hl:PE X l tl):PI X tg l (bh6 X.K tl):=by
 intro pins s σ H R I h
 refine thn (hl pins s σ H _ I h) fun v s1 ⟨x,H1,I1,r1,q1⟩=>?_;obtain⟨a,e,⟨xs,hq⟩,q⟩:=q1;subst e
 cases r1
 obtain⟨its,rv,p,hz⟩:=I1.tuple hq;refine wpAny_pyIter_tuple (show s1.heap.IsTuple a its.toArray from p) ?_;refine⟨s1.heap.objs.size,[s1.heap.objs.size],_,_,H1,rfl,I1.kept (t':=s1.toks) fun b o e=>Heap.get?_push_of_some _ e,aC7 a _,⟨_,Heap.get?_push_size _ rfl,rfl,rfl⟩,fun b hb=>?_,q⟩;have e:b=s1.heap.objs.size:=by simpa using hb
 subst e;exact I1.fpOk (Nat.le_refl _) (I1.hok.fresh (Nat.le_refl _))
theorem av7 {pins:List (Addr×Obj)}{σ:St}{H:Hp}{s:Shared}{R:It->Hp->Prop}{E:Value->Shared->Prop}{lo hi:Int}{t u v:Tok}{tk:Nat}(I:Inv X pins σ H s)(h1:-(2 ^ 62)<=lo)(h2:lo < 2 ^ 62)(h3:-(2 ^ 62)<=hi)(h4:hi < 2 ^ 62)
  (q:R (Itr lo (hi - lo).toNat) H):wpAny (model X.prog X.w) X.A (pyIter (.ref s.heap.objs.size)) (PIE X pins σ tg R) E { s with heap:=s.heap.push { cls:=.type "range",data:=.fields #[.int lo t,.int hi u,.int 1 v] },toks:=tk }:=by
 refine wpAny_pyIter_range (IsRange.new ..) (small_one h1 h2 h3 h4) ?_;have I1:Inv X pins σ H { s with heap:=s.heap.push { cls:=.type "range",data:=.fields #[.int lo t,.int hi u,.int 1 v] },toks:=tk }:=I.kept fun b o e=>Heap.get?_push_of_some _ e
 refine⟨(s.heap.push { cls:=.type "range",data:=.fields #[.int lo t,.int hi u,.int 1 v] }).objs.size,[(s.heap.push { cls:=.type "range",data:=.fields #[.int lo t,.int hi u,.int 1 v] }).objs.size],_,_,H,rfl,
  I1.kept (t':=tk) fun b o e=>Heap.get?_push_of_some _ e,aD4 _ lo (hi - lo).toNat,?_,fun b hb=>?_,q⟩
 ·have e1:lo + ((0:Nat):Int) * 1=lo:=by simp
  have e2:(((hi - lo).toNat:Nat):Int) - ((0:Nat):Int)=Builtin.Range.rangeSize lo hi 1:=by rw[rangeSize_one];split <;> lia
  show IsRangeIter _ _ (lo + ((0:Nat):Int) * 1) ((((hi - lo).toNat:Nat):Int) - ((0:Nat):Int)) 1
  rw[e1,e2];exact Heap.get?_push_size _ rfl
 ·have e:b=(s.heap.push { cls:=.type "range",data:=.fields #[.int lo t,.int hi u,.int 1 v] }).objs.size:=by simpa using hb
  subst e;exact I1.fpOk (Nat.le_refl _) (I1.hok.fresh (Nat.le_refl _))
def bi7 (ta:TA):TI:=fun σ H R=>ta σ H fun vs H1=>∃ j:Int,vs=[.int j]/\-(2 ^ 62)<=j/\j < 2 ^ 62/\R (Itr 0 j.toNat) H1
def bg8 (ta:TA):TI:=fun σ H R=>ta σ H fun vs H1=>∃ i j:Int,vs=[.int i,.int j]/\(-(2 ^ 62)<=i/\i < 2 ^ 62/\-(2 ^ 62)<=j/\j < 2 ^ 62)/\R (Itr i (j - i).toNat) H1
theorem D6 {a:Expr}{ta:TA}{p pos:Pos}(hg:Gl X "range")(hm:X.mg "range" = none)(ha:PA X [a] ta)(hs:starEach [a] X.env=[(false,eval a X.env)]:=by rfl):PI X tg (.Call (.Name "range" p) [a] [] pos) (bi7 ta):=by
 intro pins s σ H R I h
 refine Call_ (S3 I hg hm boot_range (PyProof.Rows.callWith_type1 (thn (ha pos pins s σ H _ I h) fun us s1 ⟨vs,H1,I1,r1,q1⟩=>?_) hs rfl));obtain⟨j,e,q1,q2,q⟩:=q1;subst e
 cases r1 with
 | cons r rr =>
  cases rr
  obtain⟨t,rfl⟩:=r;exact call_range_1 (av7 I1 (by lia) (by lia) q1 q2 (by simpa using q))
theorem aQ7 {a b:Expr}{ta:TA}{p pos:Pos}(hg:Gl X "range")(hm:X.mg "range" = none)(ha:PA X [a,b] ta)(hs:starEach [a,b] X.env=[(false,eval a X.env),(false,eval b X.env)]:=by rfl)(hs2:starEach [b] X.env=[(false,eval b X.env)]:=by rfl) :
  PI X tg (.Call (.Name "range" p) [a,b] [] pos) (bg8 ta):=by
 intro pins s σ H R I h
 refine Call_ (S3 I hg hm boot_range (PyProof.Rows.callWith_type1 (thn (ha pos pins s σ H _ I h) fun us s1 ⟨vs,H1,I1,r1,q1⟩=>?_) (by rw[hs,hs2]) (by rw[hs2];rfl)))
 obtain⟨i,j,e,⟨q1,q2,q3,q4⟩,q⟩:=q1;subst e
 cases r1 with
 | cons r rr =>
  cases rr with
  | cons r' rr =>
   cases rr
   obtain⟨t,rfl⟩:=r;obtain⟨t',rfl⟩:=r';exact call_range_2 (av7 I1 q1 q2 q3 q4 q)
def bk8 (wi:TI)(g:TG)(tb:TS):TS:=fun D σ H=>wi σ H fun J H1=>∃ W:Nat->Nat->St->Hp->Prop,(∃ m,W 0 m σ H1)/\∀ i m σ H,W i m σ H ->
 (J.stop i H/\D.nx σ H)\/(J.go i H/\∃ N:St->Hp->Prop,(∀ σ' H',N σ' H'->∃ m',m' < m/\W (i + 1) m' σ' H')/\∀ x H',J.yld i H x H'->g x σ H' fun σ2 H2=>tb { D with nx:=N,ct:=N,bk:=D.nx } σ2 H2)
def V0 (fp:List Addr)(h:Heap):List (Addr×Obj):=fp.filterMap fun b=>(h.get? b).map fun o=>(b,o)
theorem z9 {fp:List Addr}{h:Heap}{b:Addr}{o:Obj}(hb:b∈fp)(e:h.get? b=some o):(b,o)∈V0 fp h:=List.mem_filterMap.mpr ⟨b,hb,by rw[e];rfl⟩
theorem ap0 {fp:List Addr}{h:Heap}{p:Addr×Obj}(hp:p∈V0 fp h):p.1∈fp/\h.get? p.1=some p.2:=by
 obtain⟨b,hb,e⟩:=List.mem_filterMap.mp hp
 cases q:h.get? b with
 | none=>rw[q] at e;cases e
 | some o =>
  rw[q] at e;have e':(b,o)=p:=Option.some.inj e;subst e';exact⟨hb,q⟩
theorem Inv.pinned {pins:List (Addr×Obj)}{σ:St}{H:Hp}{s:Shared}{fp:List Addr}(I:Inv X pins σ H s)(hf:∀ b∈fp,S9 X pins H b)(ho:∀ b∈fp,∃ o,s.heap.get? b=some o/\∀ v,o.data≠.cell v):Inv X (pins++V0 fp s.heap) σ H s :=
 I.pins_of fun p hp=>(List.mem_append.mp hp).elim (fun z=>I.pin p (mem_append_right _ z)) fun z=>by
  obtain⟨hb,e⟩:=ap0 z;obtain⟨f0,f1,f2,_⟩:=hf p.1 hb;obtain⟨o,e',d⟩:=ho p.1 hb;rw[e] at e';cases e';exact⟨e,f0,f1,f2,d⟩
theorem Inv.unpinned {pins pl:List (Addr×Obj)}{σ:St}{H:Hp}{s:Shared}(I:Inv X (pins++pl) σ H s):Inv X pins σ H s:=I.pins_of fun p hp=>I.pin p (mem_append_right _ (mem_append_left _ hp))
theorem B0 {iter:Expr}{body:List Stmt}{wi:TI}{g:TG}{tb:TS}{pos:Pos}(hp:PassesOwn (model X.prog X.w) X.A X.env X.xe)(hc:X.calm=true)(hi:PI X tg iter wi)(hg:PG X tg g)(hb:PSs X body tb)
  (hs:∀ x,foldedSetIterable iter X.env x=pure x:=by intro _;rfl):PS X (.For tg iter body [] pos) (bk8 wi g tb):=by
 intro pins s σ H D I h
 refine wpAny_For (thn (hi pins s σ H _ I h) fun v s1 h1=>thn h1 fun itv s2 h2=>?_) hs;obtain⟨it,fp,tn,J,H2,e,I2,T,st2,f2,W,⟨m0,w0⟩,turn⟩:=h2;subst e;have stat:∀{H':Hp},(∀ b∈fp,H' b=none)->∀ b∈fp,S9 X pins H' b:=fun hn b hb=>⟨hn b hb,(f2 b hb).2⟩;refine codeAny_forLoop_any (fun n s'=>∃ i σ' H',Inv X pins σ' H' s'/\tn i s'.heap/\(∀ b∈fp,H' b=none)/\W i n σ' H') ?_ m0 ⟨0,σ,H2,I2,st2,fun b hb=>(f2 b hb).1,w0⟩
 rintro n s3 ⟨i,σ3,H3,I3,st3,fr3,w3⟩
 rcases turn i n σ3 H3 w3 with⟨stop,qn⟩ | ⟨go,N,hN,step⟩
 ·refine wpAny_passesOwn hp (thn (T.done X rfl rfl rfl hc i pins s3 σ3 H3 X.xe I3 (stat fr3) st3 stop) fun r s4 ⟨hr,I4⟩=>?_)
  subst hr;exact wpAny_execs_nil ⟨σ3,H3,I4,qn⟩
 ·refine wpAny_passesOwn hp (thn (T.item X rfl rfl rfl hc i pins s3 σ3 H3 X.xe I3 (stat fr3) st3 go) fun r s4 ⟨u,hr,h4⟩=>?_)
  subst hr;refine wpAny_passesOwn hp (thn h4 fun _ s5 ⟨x,H5,I5,r5,y5,st5,fr5⟩=>?_);have I5':=I5.pinned (stat fr5) (T.obj _ _ st5);refine wpAny_passesOwn hp (thn (hg _ s5 σ3 H5 x u _ I5' r5 (step x H5 y5)) fun _ s6 ⟨σ6,H6,I6,q6⟩=>?_);refine wpAny_passesOwn hp (thn (hb _ s6 σ6 H6 _ I6 q6) fun f s7 q7=>?_)
  have again:∀{σ7:St}{H7:Hp},Inv X (pins++V0 fp s5.heap) σ7 H7 s7->N σ7 H7->∃ m,m < n/\∃ i σ' H',Inv X pins σ' H' s7/\tn i s7.heap/\(∀ b∈fp,H' b=none)/\W i m σ' H':=fun {σ7 H7} I7 n7=>by
   obtain⟨m',hm,w7⟩:=hN σ7 H7 n7;refine⟨m',hm,i + 1,σ7,H7,I7.unpinned,T.keep _ _ _ st5 fun b hb o e=>(I7.pin (b,o) (mem_append_right _ (mem_append_right _ (z9 hb e)))).1,fun b hb=>?_,w7⟩;obtain⟨o,e,d⟩:=T.obj _ _ st5 b hb;exact(I7.pin (b,o) (mem_append_right _ (mem_append_right _ (z9 hb e)))).2.1
  cases f with
  | next=>obtain⟨σ7,H7,I7,n7⟩:=q7;exact again I7 n7
  | cont=>obtain⟨σ7,H7,I7,n7⟩:=q7;exact again I7 n7
  | brk=>obtain⟨σ7,H7,I7,q7⟩:=q7;exact⟨σ7,H7,I7.unpinned,q7⟩
  | ret v=>obtain⟨x7,σ7,H7,I7,r7,q7⟩:=q7;exact⟨x7,σ7,H7,I7.unpinned,r7,q7⟩
end
theorem B8 {K:Frag}{a:Addr}{xs:List V}{g:TG}{tb:TS}{D:Ends}{σ:St}{H:Hp}(Pv:Nat->St->Hp->Prop)(h0:Pv 0 σ H)(hl:∀ i σ H,i<=xs.length->Pv i σ H->SqL K H a xs)
  (hs:∀ i x σ H,xs[i]? = some x->Pv i σ H->g x σ H fun σ2 H2=>tb { D with nx:=Pv (i + 1),ct:=Pv (i + 1),bk:=D.nx } σ2 H2)(hd:∀ σ H,Pv xs.length σ H->D.nx σ H) :
  ∃ W:Nat->Nat->St->Hp->Prop,(∃ m,W 0 m σ H)/\∀ i m σ H,W i m σ H ->
   ((Itl K a).stop i H/\D.nx σ H)\/((Itl K a).go i H/\∃ N:St->Hp->Prop,(∀ σ' H',N σ' H'->∃ m',m' < m/\W (i + 1) m' σ' H')/\∀ x H',(Itl K a).yld i H x H'->g x σ H' fun σ2 H2=>tb { D with nx:=N,ct:=N,bk:=D.nx } σ2 H2):=by
 refine⟨fun i m σ H=>m=xs.length - i/\i<=xs.length/\Pv i σ H,⟨xs.length,by simp,Nat.zero_le _,h0⟩,?_⟩
 rintro i m σ H ⟨rfl,hi,p⟩
 have q:=hl i σ H hi p
 by_cases hlt:i < xs.length
 ·refine .inr ⟨⟨xs,xs[i],q,by simp[hlt]⟩,Pv (i + 1),fun σ' H' p'=>⟨xs.length - (i + 1),by lia,rfl,hlt,p'⟩,fun x H' y=>?_⟩
  obtain⟨e,y⟩:=y;subst e;exact hs i x σ _ (y xs q) p
 ·have e:i=xs.length:=by lia
  subst e;exact .inl ⟨⟨xs,q,Nat.le_refl _⟩,hd σ H p⟩
theorem a84 {K:Frag}{a:Addr}{xs:List V}{g:TG}{tb:TS}{D:Ends}{σ:St}{H:Hp}(Pv:Nat->St->Hp->Prop)(h0:Pv 0 σ H)(hl:∀ i σ H,i<=xs.length->Pv i σ H->SqT K H a xs)
  (hs:∀ i x σ H,xs[i]? = some x->Pv i σ H->g x σ H fun σ2 H2=>tb { D with nx:=Pv (i + 1),ct:=Pv (i + 1),bk:=D.nx } σ2 H2)(hd:∀ σ H,Pv xs.length σ H->D.nx σ H) :
  ∃ W:Nat->Nat->St->Hp->Prop,(∃ m,W 0 m σ H)/\∀ i m σ H,W i m σ H ->
   ((Itt K a).stop i H/\D.nx σ H)\/((Itt K a).go i H/\∃ N:St->Hp->Prop,(∀ σ' H',N σ' H'->∃ m',m' < m/\W (i + 1) m' σ' H')/\∀ x H',(Itt K a).yld i H x H'->g x σ H' fun σ2 H2=>tb { D with nx:=N,ct:=N,bk:=D.nx } σ2 H2):=by
 refine⟨fun i m σ H=>m=xs.length - i/\i<=xs.length/\Pv i σ H,⟨xs.length,by simp,Nat.zero_le _,h0⟩,?_⟩
 rintro i m σ H ⟨rfl,hi,p⟩
 have q:=hl i σ H hi p
 by_cases hlt:i < xs.length
 ·refine .inr ⟨⟨xs,xs[i],q,by simp[hlt]⟩,Pv (i + 1),fun σ' H' p'=>⟨xs.length - (i + 1),by lia,rfl,hlt,p'⟩,fun x H' y=>?_⟩
  obtain⟨e,y⟩:=y;subst e;exact hs i x σ _ (y xs q) p
 ·have e:i=xs.length:=by lia
  subst e;exact .inl ⟨⟨xs,q,Nat.le_refl _⟩,hd σ H p⟩
theorem D8 {lo:Int}{n:Nat}{g:TG}{tb:TS}{D:Ends}{σ:St}{H:Hp}(Pv:Nat->St->Hp->Prop)(h0:Pv 0 σ H)
  (hs:∀ i σ H,i < n->Pv i σ H->g (.int (lo + i)) σ H fun σ2 H2=>tb { D with nx:=Pv (i + 1),ct:=Pv (i + 1),bk:=D.nx } σ2 H2)(hd:∀ σ H,Pv n σ H->D.nx σ H) :
  ∃ W:Nat->Nat->St->Hp->Prop,(∃ m,W 0 m σ H)/\∀ i m σ H,W i m σ H ->
   ((Itr lo n).stop i H/\D.nx σ H)\/((Itr lo n).go i H/\∃ N:St->Hp->Prop,(∀ σ' H',N σ' H'->∃ m',m' < m/\W (i + 1) m' σ' H')/\∀ x H',(Itr lo n).yld i H x H'->g x σ H' fun σ2 H2=>tb { D with nx:=N,ct:=N,bk:=D.nx } σ2 H2):=by
 refine⟨fun i m σ H=>m=n - i/\i<=n/\Pv i σ H,⟨n,by simp,Nat.zero_le _,h0⟩,?_⟩
 rintro i m σ H ⟨rfl,hi,p⟩
 by_cases hlt:i < n
 ·refine .inr ⟨hlt,Pv (i + 1),fun σ' H' p'=>⟨n - (i + 1),by lia,rfl,hlt,p'⟩,fun x H' y=>?_⟩
  obtain⟨e,y⟩:=y;subst e y;exact hs i σ _ hlt p
 ·have e:i=n:=by lia
  subst e;exact .inl ⟨Nat.le_refl _,hd σ H p⟩
abbrev R2:=V->V->Hp->VK->Prop
def OpR (X:Cx)(f:Value->Value->Sem Value)(r:R2):Prop :=
 ∀(pins:List (Addr×Obj))(s:Shared)(σ:St)(H:Hp)(x y:V)(v u:Value)(Q:VK),Inv X pins σ H s->o5 x v->o5 y u->r x y H Q ->
  wpAny (model X.prog X.w) X.A (f v u) (EP X pins σ Q) X.xe s
def UnR (X:Cx)(f:Value->Sem Value)(r:V->Hp->VK->Prop):Prop :=
 ∀(pins:List (Addr×Obj))(s:Shared)(σ:St)(H:Hp)(x:V)(v:Value)(Q:VK),Inv X pins σ H s->o5 x v->r x H Q ->
  wpAny (model X.prog X.w) X.A (f v) (EP X pins σ Q) X.xe s
def z7 (X:Cx)(f:Value)(r:List V->Hp->VK->Prop):Prop :=
 ∀(pins:List (Addr×Obj))(s:Shared)(σ:St)(H:Hp)(xs:List V)(us:List Value)(Q:VK),Inv X pins σ H s->j9 xs us->r xs H Q ->
  wpAny (model X.prog X.w) X.A (call f us) (EP X pins σ Q) X.xe s
def bj3 (X:Cx)(r:V->Hp->(Bool->Hp->Prop)->Prop):Prop :=
 ∀(pins:List (Addr×Obj))(s:Shared)(σ:St)(H:Hp)(x:V)(v:Value)(Q:Bool->Hp->Prop),Inv X pins σ H s->o5 x v->r x H Q ->
  wpAny (model X.prog X.w) X.A (truthy v) (TP X pins σ Q) X.xe s
def tOp (r:R2)(ta tb:TE):TE:=fun σ H Q=>ta σ H fun x H1=>tb σ H1 fun y H2=>r x y H2 Q
def tUn (r:V->Hp->VK->Prop)(ta:TE):TE:=fun σ H Q=>ta σ H fun x H1=>r x H1 Q
def rI (C:Int->Int->Prop)(g:Int->Int->V):R2:=fun x y H Q=>∃ i j,x=.int i/\y=.int j/\C i j/\Q (g i j) H
def rI0 (g:Int->Int->V):R2:=fun x y H Q=>∃ i j,x=.int i/\y=.int j/\Q (g i j) H
def rU (g:Int->V):V->Hp->VK->Prop:=fun x H Q=>∃ i,x=.int i/\Q (g i) H
section
variable {X:Cx}{a b c:Expr}{ta tb tc:TE}{pos:Pos}
theorem bd9 (ha:PE X a ta)(hb:PE X b tb){pins:List (Addr×Obj)}{s:Shared}{σ:St}{H:Hp}{R:V->V->Hp->Prop}(I:Inv X pins σ H s)
  (h:ta σ H fun x H1=>tb σ H1 fun y H2=>R x y H2){Q:Value->Shared->Prop}{f:Value->Value->Sem Value}
  (hf:∀ v u s2 x y H2,Inv X pins σ H2 s2->o5 x v->o5 y u->R x y H2->wpAny (model X.prog X.w) X.A (f v u) Q X.xe s2) :
  wpAny (model X.prog X.w) X.A (eval a X.env) (fun v s₁=>wpAny (model X.prog X.w) X.A (eval b X.env) (fun u s₂=>wpAny (model X.prog X.w) X.A (f v u) Q X.xe s₂) X.xe s₁) X.xe s:=by
 refine thn (ha pins s σ H _ I h) fun v s1 ⟨x,H1,I1,r1,q1⟩=>?_;refine thn (hb pins s1 σ H1 _ I1 q1) fun u s2 ⟨y,H2,I2,r2,q2⟩=>?_;exact hf v u s2 x y H2 I2 r1 r2 q2
theorem i5 {op:Operator}{r:R2}(ho:OpR X (binaryOp op) r)(ha:PE X a ta)(hb:PE X b tb):PE X (.BinOp a op b pos) (tOp r ta tb):=by
 intro pins s σ H Q I h
 exact wpAny_BinOp (bd9 ha hb I h fun v u s2 x y H2 I2 rx ry q=>ho pins s2 σ H2 x y v u Q I2 rx ry q)
theorem aW8 {op:UnaryOp}{r:V->Hp->VK->Prop}(ho:UnR X (unaryOp op) r)(ha:PE X a ta):PE X (.UnaryOp op a pos) (tUn r ta):=by
 intro pins s σ H Q I h
 exact UnaryOp_ (thn (ha pins s σ H _ I h) fun v s1 ⟨x,H1,I1,r1,q1⟩=>ho pins s1 σ H1 x v Q I1 r1 q1)
theorem opI {f:Value->Value->Sem Value}{C:Int->Int->Prop}{g:Int->Int->Int}
  (rule:∀(i j:Int)(t u:Tok)(s:Shared)(Q:Value->Shared->Prop)(E:Value->Shared->Prop),C i j->Q (.int (g i j) s.toks) { s with toks:=s.toks + 1 }->wpAny (model X.prog X.w) X.A (f (.int i t) (.int j u)) Q E s) :
  OpR X f (rI C fun i j=>.int (g i j)):=by
 intro pins s σ H x y v u Q I rx ry h
 obtain⟨i,j,rfl,rfl,hc,q⟩:=h;obtain⟨t,rfl⟩:=rx;obtain⟨t',rfl⟩:=ry;exact rule i j t t' s _ _ hc ⟨.int (g i j),H,I.tok _,⟨_,rfl⟩,q⟩
theorem a95 {f:Value->Value->Sem Value}{g:Int->Int->Int}
  (rule:∀(i j:Int)(t u:Tok)(s:Shared)(Q:Value->Shared->Prop)(E:Value->Shared->Prop),Q (.int (g i j) s.toks) { s with toks:=s.toks + 1 }->wpAny (model X.prog X.w) X.A (f (.int i t) (.int j u)) Q E s) :
  OpR X f (rI0 fun i j=>.int (g i j)):=by
 intro pins s σ H x y v u Q I rx ry h
 obtain⟨i,j,rfl,rfl,q⟩:=h;obtain⟨t,rfl⟩:=rx;obtain⟨t',rfl⟩:=ry;exact rule i j t t' s _ _ ⟨.int (g i j),H,I.tok _,⟨_,rfl⟩,q⟩
theorem a91 {f:Value->Value->Sem Value}{g:Int->Int->Bool}
  (rule:∀(i j:Int)(t u:Tok)(s:Shared)(Q:Value->Shared->Prop)(E:Value->Shared->Prop),Q (.bool (g i j)) s->wpAny (model X.prog X.w) X.A (f (.int i t) (.int j u)) Q E s) :
  OpR X f (rI0 fun i j=>.bl (g i j)):=by
 intro pins s σ H x y v u Q I rx ry h
 obtain⟨i,j,rfl,rfl,q⟩:=h;obtain⟨t,rfl⟩:=rx;obtain⟨t',rfl⟩:=ry;exact rule i j t t' s _ _ ⟨.bl (g i j),H,I,rfl,q⟩
def bh4 (i j:Int):Prop:=0 < j/\j < 1073741824
def bh9 (i j:Int):Prop:=0<=j/\j<=1000000/\i.natAbs < 2 ^ 64
def bf6 (i j:Int):Prop:=(-(2 ^ 64) < i/\i < 2 ^ 64)\/(-(2 ^ 64) < j/\j < 2 ^ 64)
theorem bf6.ok {i j:Int}(h:bf6 i j):IntMulOk i j:=by
 rcases h with⟨h1,h2⟩ | ⟨h1,h2⟩
 ·exact .of_left (intBits_le_64 h1 h2)
 ·exact .of_right (intBits_le_64 h1 h2)
theorem aF5 (k:Nat):(0:Int)<=2 ^ k:=by
 rw[two_pow_cast];exact Int.natCast_nonneg _
theorem J6:OpR X (binaryOp .Add) (rI0 fun i j=>.int (i + j)):=a95 fun _ _ _ _ _ _ _ q=>add_int q
theorem at6:OpR X (binaryOp .Sub) (rI0 fun i j=>.int (i - j)):=a95 fun _ _ _ _ _ _ _ q=>sub_int q
theorem r9:OpR X (binaryOp .Mult) (rI bf6 fun i j=>.int (i * j)):=opI fun _ _ _ _ _ _ _ hc q=>mul_int q hc.ok
theorem W9:OpR X (binaryOp .FloorDiv) (rI bh4 fun i j=>.int (i / j)):=opI fun i j _ _ _ _ _ hc q=>by
 have h1:(0:Int) < j:=hc.1;have h2:j < 1073741824:=hc.2;exact floordiv_int (by lia) (by rw[Int.fdiv_eq_ediv_of_nonneg i (by lia)];exact q) (.inl (PyProof.noPylong_small (by lia)))
theorem p0:OpR X (binaryOp .Mod) (rI (fun _ j=>0 < j) fun i j=>.int (i % j)):=opI fun i j _ _ _ _ _ hc q=>by
 have h1:(0:Int) < j:=hc;exact mod_int' (by lia) (by rw[Int.fmod_eq_emod_of_nonneg i (by lia)];exact q)
theorem aq7:OpR X (binaryOp .Pow) (rI bh9 fun i j=>.int (i ^ j.toNat)):=opI fun _ _ _ _ _ _ _ hc q=>pow_int_small hc.1 hc.2.1 hc.2.2 q
theorem be6:OpR X (binaryOp .LShift) (rI bh9 fun i j=>.int (i * 2 ^ j.toNat)):=opI fun _ _ _ _ _ _ _ hc q=>lshift_int_small hc.1 hc.2.1 hc.2.2 q
theorem aF9:OpR X (binaryOp .RShift) (rI (fun _ j=>0<=j) fun i j=>.int (i / 2 ^ j.toNat)):=opI fun i j _ _ _ _ _ hc q =>
 rshift_int hc (by rw[Int.fdiv_eq_ediv_of_nonneg i (aF5 _)];exact q)
theorem aH8:OpR X (binaryOp .BitAnd) (rI0 fun i j=>.int (Builtin.bitAnd i j)):=a95 fun _ _ _ _ _ _ _ q=>and_int q
theorem a82:OpR X (inplaceOp .Add) (rI0 fun i j=>.int (i + j)):=a95 fun _ _ _ _ _ _ _ q=>iadd_int q
theorem unI {f:Value->Sem Value}{g:Int->Int}
  (rule:∀(i:Int)(t:Tok)(s:Shared)(Q:Value->Shared->Prop)(E:Value->Shared->Prop),Q (.int (g i) s.toks) { s with toks:=s.toks + 1 }->wpAny (model X.prog X.w) X.A (f (.int i t)) Q E s) :
  UnR X f (rU fun i=>.int (g i)):=by
 intro pins s σ H x v Q I rx h
 obtain⟨i,rfl,q⟩:=h;obtain⟨t,rfl⟩:=rx;exact rule i t s _ _ ⟨.int (g i),H,I.tok _,⟨_,rfl⟩,q⟩
theorem aH4:UnR X (unaryOp .USub) (rU fun i=>.int (-i)):=unI fun _ _ _ _ _ q=>neg_int q
end
def bi8:V->V->Bool
 | .non,.non=>true | .non,.int _=>true | .int _,.non=>true | .non,.bl _=>true | .bl _,.non=>true | .non,.str _=>true | .str _,.non=>true
 | .int _,.int _=>true | .bl _,.bl _=>true | .str _,.str _=>true | .byt _,.byt _=>true
 | .int _,.str _=>true | .str _,.int _=>true | .bl _,.str _=>true | .str _,.bl _=>true
 | _,_=>false
def rEq:R2:=fun x y H Q=>bi8 x y=true/\Q (.bl (decide (x=y))) H
def rNe:R2:=fun x y H Q=>bi8 x y=true/\Q (.bl (!decide (x=y))) H
theorem aJ5 {i j:Int}:decide (V.int i=V.int j)=(i == j):=by
 rw[Bool.eq_iff_iff]
 simp
theorem aW2 {i j:Bool}:decide (V.bl i=V.bl j)=(i == j):=by
 rw[Bool.eq_iff_iff]
 simp
theorem aL2 {i j:Str}:decide (V.str i=V.str j)=(i == j):=by
 rw[Bool.eq_iff_iff]
 simp
theorem aI9 {i j:Array UInt8}:decide (V.byt i=V.byt j)=(i.toList == j.toList):=by
 rw[Bool.eq_iff_iff]
 cases i
 cases j
 simp
section
variable {X:Cx}{a b c:Expr}{ta tb tc:TE}{pos:Pos}
theorem p9 {pins:List (Addr×Obj)}{σ:St}{H:Hp}{s:Shared}{Q:VK}{k k':Bool}(I:Inv X pins σ H s)(q:Q (.bl k) H)(e:k=k'):EP X pins σ Q (.bool k') s:=by
 subst e;exact⟨.bl k,H,I,rfl,q⟩
theorem B2:OpR X (compareOp .Eq) rEq:=by
 intro pins s σ H x y v u Q I rx ry h
 obtain⟨hs,q⟩:=h
 cases x with
 | non =>
  cases rx
  cases y with
  | non=>cases ry;exact PySem.EqNone.eq_none_none (p9 I q (by simp))
  | bl j=>cases ry;exact PySem.EqNone.eq_none_bool (p9 I q (by simp))
  | int j=>obtain⟨t',rfl⟩:=ry;exact PySem.EqNone.eq_none_int (p9 I q (by simp))
  | str j=>obtain⟨t',rfl⟩:=ry;exact PySem.EqNone.eq_none_str (p9 I q (by simp))
  | _=>exact absurd (show false=true from hs) Bool.false_ne_true
 | bl i =>
  cases rx
  cases y with
  | non=>cases ry;exact PySem.EqNone.eq_bool_none (p9 I q (by simp))
  | bl j=>cases ry;exact eq_bool (p9 I q aW2)
  | str j=>obtain⟨t',rfl⟩:=ry;exact PySem.EqMixed.eq_bool_str (p9 I q (by simp))
  | _=>exact absurd (show false=true from hs) Bool.false_ne_true
 | int i =>
  obtain⟨t,rfl⟩:=rx
  cases y with
  | non=>cases ry;exact PySem.EqNone.eq_int_none (p9 I q (by simp))
  | int j=>obtain⟨t',rfl⟩:=ry;exact eq_int (p9 I q aJ5)
  | str j=>obtain⟨t',rfl⟩:=ry;exact PySem.EqMixed.eq_int_str (p9 I q (by simp))
  | _=>exact absurd (show false=true from hs) Bool.false_ne_true
 | str i =>
  obtain⟨t,rfl⟩:=rx
  cases y with
  | non=>cases ry;exact PySem.EqNone.eq_str_none (p9 I q (by simp))
  | bl j=>cases ry;exact PySem.EqMixed.eq_str_bool (p9 I q (by simp))
  | int j=>obtain⟨t',rfl⟩:=ry;exact PySem.EqMixed.eq_str_int (p9 I q (by simp))
  | str j=>obtain⟨t',rfl⟩:=ry;exact eq_str (p9 I q aL2)
  | _=>exact absurd (show false=true from hs) Bool.false_ne_true
 | byt i =>
  obtain⟨t,rfl⟩:=rx
  cases y with
  | byt j=>obtain⟨t',rfl⟩:=ry;exact PySem.W.eq_bytes (p9 I q aI9)
  | _=>exact absurd (show false=true from hs) Bool.false_ne_true
 | _=>cases y <;> exact absurd (show false=true from hs) Bool.false_ne_true
theorem ap3:OpR X (compareOp .NotEq) rNe:=by
 intro pins s σ H x y v u Q I rx ry h
 obtain⟨hs,q⟩:=h
 cases x with
 | non =>
  cases rx
  cases y with
  | non=>cases ry;exact PySem.EqNone.ne_none_none (p9 I q (by simp))
  | bl j=>cases ry;exact PySem.EqNone.ne_none_bool (p9 I q (by simp))
  | int j=>obtain⟨t',rfl⟩:=ry;exact PySem.EqNone.ne_none_int (p9 I q (by simp))
  | str j=>obtain⟨t',rfl⟩:=ry;exact PySem.EqNone.ne_none_str (p9 I q (by simp))
  | _=>exact absurd (show false=true from hs) Bool.false_ne_true
 | bl i =>
  cases rx
  cases y with
  | non=>cases ry;exact PySem.EqNone.ne_bool_none (p9 I q (by simp))
  | bl j=>cases ry;exact ne_bool (p9 I q (congrArg not aW2))
  | str j=>obtain⟨t',rfl⟩:=ry;exact PySem.EqMixed.ne_bool_str (p9 I q (by simp))
  | _=>exact absurd (show false=true from hs) Bool.false_ne_true
 | int i =>
  obtain⟨t,rfl⟩:=rx
  cases y with
  | non=>cases ry;exact PySem.EqNone.ne_int_none (p9 I q (by simp))
  | int j=>obtain⟨t',rfl⟩:=ry;exact ne_int (p9 I q (congrArg not aJ5))
  | str j=>obtain⟨t',rfl⟩:=ry;exact PySem.EqMixed.ne_int_str (p9 I q (by simp))
  | _=>exact absurd (show false=true from hs) Bool.false_ne_true
 | str i =>
  obtain⟨t,rfl⟩:=rx
  cases y with
  | non=>cases ry;exact PySem.EqNone.ne_str_none (p9 I q (by simp))
  | bl j=>cases ry;exact PySem.EqMixed.ne_str_bool (p9 I q (by simp))
  | int j=>obtain⟨t',rfl⟩:=ry;exact PySem.EqMixed.ne_str_int (p9 I q (by simp))
  | str j=>obtain⟨t',rfl⟩:=ry;exact ne_str (p9 I q (congrArg not aL2))
  | _=>exact absurd (show false=true from hs) Bool.false_ne_true
 | byt i =>
  obtain⟨t,rfl⟩:=rx
  cases y with
  | byt j=>obtain⟨t',rfl⟩:=ry;exact PySem.W.ne_bytes (p9 I q (congrArg not aI9))
  | _=>exact absurd (show false=true from hs) Bool.false_ne_true
 | _=>cases y <;> exact absurd (show false=true from hs) Bool.false_ne_true
theorem aK4:OpR X (compareOp .Lt) (rI0 fun i j=>.bl (decide (i < j))):=a91 fun _ _ _ _ _ _ _ q=>lt_int q
theorem ba6:OpR X (compareOp .LtE) (rI0 fun i j=>.bl (decide (i<=j))):=a91 fun _ _ _ _ _ _ _ q=>le_int q
theorem ba8:OpR X (compareOp .Gt) (rI0 fun i j=>.bl (decide (j < i))):=a91 fun _ _ _ _ _ _ _ q=>gt_int q
theorem aT6:OpR X (compareOp .GtE) (rI0 fun i j=>.bl (decide (j<=i))):=a91 fun _ _ _ _ _ _ _ q=>ge_int q
theorem O7:OpR X (compareOp .Is) (fun x y H Q=>y=.non/\Q (.bl (decide (x=.non))) H):=by
 intro pins s σ H x y v u Q I rx ry h
 obtain⟨rfl,q⟩:=h
 cases ry
 refine is_none_gen (p9 I q ?_)
 cases x <;> first
  | (cases rx;rfl)
  | (obtain⟨t,rfl⟩:=rx;rfl)
theorem Z2:OpR X (compareOp .IsNot) (fun x y H Q=>y=.non/\Q (.bl (!decide (x=.non))) H):=by
 intro pins s σ H x y v u Q I rx ry h
 obtain⟨rfl,q⟩:=h
 cases ry
 refine isnot_none_gen (p9 I q ?_)
 cases x <;> first
  | (cases rx;rfl)
  | (obtain⟨t,rfl⟩:=rx;rfl)
theorem j5 (b:Expr){op:CmpOp}(h:op≠.In:=by decide)(h2:op≠.NotIn:=by decide):behindInMarks op b=false:=by
 have e1:(op == CmpOp.In)=false:=by cases op <;> first | rfl | exact absurd rfl h
 have e2:(op == CmpOp.NotIn)=false:=by cases op <;> first | rfl | exact absurd rfl h2
 cases b <;> simp[behindInMarks,e1,e2]
theorem J7 {op:CmpOp}{r:R2}(ho:OpR X (compareOp op) r)(ha:PE X a ta)(hb:PE X b tb)(hm:behindInMarks op b=false):PE X (.Compare a [op] [b] pos) (tOp r ta tb):=by
 intro pins s σ H Q I h
 exact wpAny_Compare1 (bd9 ha hb I h fun v u s2 x y H2 I2 rx ry q=>ho pins s2 σ H2 x y v u Q I2 rx ry q) hm
def bi9 (t:TE):TT:=fun σ H Q=>t σ H fun x H'=>∃ k,x=.bl k/\Q k H'
theorem i4 {op:CmpOp}{r:R2}(ho:OpR X (compareOp op) r)(ha:PE X a ta)(hb:PE X b tb)(hm:behindInMarks op b=false):PT X (.Compare a [op] [b] pos) (bi9 (tOp r ta tb)):=by
 intro pins s σ H Q I h
 refine wpAny_isTrue_Compare1 (thn (ha pins s σ H _ I h) fun v s1 ⟨x,H1,I1,r1,q1⟩=>thn (hb pins s1 σ H1 _ I1 q1) fun u s2 ⟨y,H2,I2,r2,q2⟩ =>
  thn (ho pins s2 σ H2 x y v u _ I2 r1 r2 q2) fun c s3 ⟨z,H3,I3,r3,k,e,q3⟩=>?_) hm
 subst e
 cases r3
 exact wpAny_truthy_bool ⟨H3,I3,q3⟩
def bf2 (r r':R2)(ta tb tc:TE):TE:=fun σ H Q=>ta σ H fun x H1=>tb σ H1 fun y H2=>r x y H2 fun z H3=>∃ k,z=.bl k /\
 (if k=true then tc σ H3 fun w' H4=>r' y w' H4 Q else Q (.bl false) H3)
theorem aW4 {op op':CmpOp}{r r':R2}(ho:OpR X (compareOp op) r)(ho':OpR X (compareOp op') r')(ha:PE X a ta)(hb:PE X b tb)(hc:PE X c tc)
  (hm:lastMarks [op,op'] [b,c]=false:=by with_unfolding_all rfl):PE X (.Compare a [op,op'] [b,c] pos) (bf2 r r' ta tb tc):=by
 intro pins s σ H Q I h
 refine Compare_chain (thn (ha pins s σ H _ I h) fun v s1 ⟨x,H1,I1,r1,q1⟩=>chain_link (thn (hb pins s1 σ H1 _ I1 q1) fun u s2 ⟨y,H2,I2,r2,q2⟩ =>
  thn (ho pins s2 σ H2 x y v u _ I2 r1 r2 q2) fun d s3 ⟨z,H3,I3,r3,k,e,q3⟩=>?_)) hm
 subst e
 cases r3
 refine wpAny_truthy_bool ?_
 cases k with
 | false=>exact ite_ff ⟨.bl false,H3,I3,rfl,q3⟩
 | true=>exact ite_tt (chain_last (thn (hc pins s3 σ H3 _ I3 q3) fun w' s4 ⟨z',H4,I4,r4,q4⟩=>ho' pins s4 σ H4 y z' u w' Q I4 r2 r4 q4))
def bd7 (K:Frag)(x:V)(H:Hp)(k:Bool):Prop :=
 match x with
 | .non=>k=false
 | .bl b=>k=b
 | .int i=>k=(i != 0)
 | .str y=>y.length<=sizeLine/\k=((y.length:Int) != 0)
 | .byt y=>y.size<=sizeLine/\k=((y.size:Int) != 0)
 | .ref p=>(∃ xs,SqL K H p xs/\k = !xs.isEmpty)\/(∃ xs,SqT K H p xs/\k = !xs.isEmpty)\/∃ kvs,H p=some (.dK kvs)/\k = !kvs.isEmpty
 | _=>False
theorem aD8 {κ:Type}{kvs:List (κ×V)}{vs:List (κ×Value)}(r:KV kvs vs):(!vs.isEmpty) = !kvs.isEmpty:=by
 cases r <;> rfl
theorem aj5 {xs:List V}{its:List Value}(r:j9 xs its):(!its.toArray.isEmpty) = !xs.isEmpty:=by
 cases r <;> simp
theorem U6:(sizeLine:Nat) < 2 ^ 63:=by rw[sizeLine_eq];decide
theorem be1:bj3 X (fun x H Q=>∃ k,bd7 X.K x H k/\Q k H):=by
 intro pins s σ H x v Q I rx h
 obtain⟨k,e,q⟩:=h;have hl:=U6;have hs:sizeLine=16777216:=sizeLine_eq
 cases x with
 | non =>
  cases rx
  have e':k=false:=e;subst e';exact truthy_none ⟨H,I,q⟩
 | bl b =>
  cases rx
  have e':k=b:=e;subst e';exact wpAny_truthy_bool ⟨H,I,q⟩
 | int i =>
  obtain⟨t,rfl⟩:=rx;have e':k=(i != 0):=e;subst e';exact PySem.P.truthy_int ⟨H,I,q⟩
 | str y =>
  obtain⟨t,rfl⟩:=rx;obtain⟨hy,e'⟩:y.length<=sizeLine/\k=((y.length:Int) != 0):=e;subst e';exact PySem.P.truthy_str (by lia) ⟨H,I.tok _,q⟩
 | byt y =>
  obtain⟨t,rfl⟩:=rx;obtain⟨hy,e'⟩:y.size<=sizeLine/\k=((y.size:Int) != 0):=e;subst e';exact PySem.W.truthy_bytes (by lia) ⟨H,I.tok _,q⟩
 | ref p =>
  cases rx
  have e':(∃ xs,SqL X.K H p xs/\k = !xs.isEmpty)\/(∃ xs,SqT X.K H p xs/\k = !xs.isEmpty)\/∃ kvs,H p=some (.dK kvs)/\k = !kvs.isEmpty:=e
  rcases e' with⟨xs,hx,e'⟩ | ⟨xs,hx,e'⟩ | ⟨kvs,hx,e'⟩
  ·subst e'
   obtain⟨its,r,pl,hz⟩:=I.list hx;have hlen:=r.length;exact wpAny_truthy_list pl.isList (by simp only[size_toArray];lia) ⟨H,I.tok _,by rw[aj5 r];exact q⟩
  ·subst e'
   obtain⟨its,r,pl,hz⟩:=I.tuple hx;have hlen:=r.length;exact truthy_tuple pl (by simp only[size_toArray];lia) ⟨H,I.tok _,by rw[aj5 r];exact q⟩
  ·subst e'
   obtain⟨hz,hS,vs,r,m⟩:kvs.length<=sizeLine/\(p == sysModules)=false/\∃ vs,KV kvs vs/\s.heap.DictOf (as4 X.prog X.w) p vs:=I.hok p _ hx;have hlen:kvs.length=vs.length:=Paired.length r;exact wpAny_truthy_dict hS m (by lia) ⟨H,I.tok _,by rw[aD8 r];exact q⟩
 | _=>exact(show False from e).elim
theorem aY1 (ha:PE X a ta)(he:∀ whole,isTrue a X.env whole=(do let v <- whole;standAt a.pos;holding [v] (truthy v))) :
  PT X a (fun σ H Q=>ta σ H fun x H'=>∃ k,bd7 X.K x H' k/\Q k H'):=by
 intro pins s σ H Q I h
 exact isTrue_plain (thn (ha pins s σ H _ I h) fun v s1 ⟨x,H1,I1,r1,q1⟩=>be1 pins s1 σ H1 x v Q I1 r1 q1) (he _)
theorem K5 {x:V}{us:List Value}(r:j9 [x] us):∃ u,us=[u]/\o5 x u:=by
 cases r with
 | cons r1 r2=>cases r2;exact⟨_,rfl,r1⟩
theorem ap1 {x y:V}{us:List Value}(r:j9 [x,y] us):∃ u w',us=[u,w']/\o5 x u/\o5 y w':=by
 cases r with
 | cons r1 r2 =>
  cases r2 with
  | cons r3 r4=>cases r4;exact⟨_,_,rfl,r1,r3⟩
theorem aB1:z7 X (.builtin "abs") (fun xs H Q=>∃ i,xs=[.int i]/\Q (.int (if i < 0 then -i else i)) H):=by
 intro pins s σ H xs us Q I r h
 obtain⟨i,rfl,q⟩:=h;obtain⟨u,rfl,t,rfl⟩:=K5 r;exact call_abs_int fun u tk=>⟨.int (if i < 0 then -i else i),H,I.tok _,⟨_,rfl⟩,q⟩
theorem aO1 (hc:X.calm=true):z7 X (.builtin "min") (fun xs H Q=>∃ i j,xs=[.int i,.int j]/\Q (.int (if j < i then j else i)) H):=by
 intro pins s σ H xs us Q I r h
 obtain⟨i,j,rfl,q⟩:=h;obtain⟨u,w',rfl,⟨t,rfl⟩,⟨t',rfl⟩⟩:=ap1 r;refine min_two_ints (I.ok.hd hc) fun h' tk k=>⟨_,H,I.kept k,?_,q⟩
 by_cases hj:j < i
 ·rw[if_pos hj,if_pos hj];exact⟨_,rfl⟩
 ·rw[if_neg hj,if_neg hj];exact⟨_,rfl⟩
theorem ad9:z7 X (.builtin "divmod") (fun xs H Q=>∃ i j,xs=[.int i,.int j]/\bh4 i j/\∀ p,H p=none->Q (.ref p) (upd H p (.tup [.int (i / j),.int (i % j)]))):=by
 intro pins s σ H xs us Q I r h
 obtain⟨i,j,rfl,⟨h1,h2⟩,q⟩:=h;obtain⟨u,w',rfl,⟨t,rfl⟩,⟨t',rfl⟩⟩:=ap1 r;refine divmod_int (by lia) ?_ (.inl (PyProof.noPylong_small (by lia)))
 rw[Int.fdiv_eq_ediv_of_nonneg i (by lia),Int.fmod_eq_emod_of_nonneg i (by lia)]
 have hn:H s.heap.objs.size=none:=I.hok.fresh (Nat.le_refl _);refine⟨.ref s.heap.objs.size,_,?_,rfl,q _ hn⟩;refine I.laid (fun b o e=>Heap.get?_push_of_some _ e) (Nat.le_refl _) ⟨by simp only[length_cons,List.length_nil];rw[sizeLine_eq];decide,[.int (i / j) s.toks,.int (i % j) (s.toks + 1)],.cons ⟨_,rfl⟩ (.cons ⟨_,rfl⟩ .nil),?_⟩
 exact⟨_,Heap.get?_push_size s.heap rfl,rfl,0,rfl⟩
end
structure ObjM (h:Heap)(x dx C:Addr)(mA:Str->Option Value):Prop where
 obj:h.get? x=some (PySem.W.instObj C dx)
 ns:h.Ns1 dx mA
 ne:dx≠x
theorem ab8 {h:Heap}{dx:Addr}{mA:Str->Option Value}(n:h.Ns1 dx mA):∃ od,h.get? dx=some od/\∀ name,PySem.W.lookIn name od=some (mA name):=by
 obtain⟨o,es,ep,ho,hd,hk,_,hm⟩:=n;refine⟨o,ho,fun name=>?_⟩;have e:=hm name;unfold nsFind findBy at e;rw[<- Array.find?_toList] at e;unfold PySem.W.lookIn;rw[hd]
 dsimp only
 split
 ·rename_i y q
  rw[q] at e;exact congrArg some e
 ·rename_i q
  rw[q] at e
  have a:es.toList.any (·.refKey)=false:=by
   rw[List.any_eq_false]
   intro y hy
   obtain⟨z,t,hkey⟩:=hk y (Array.mem_toList_iff.mp hy)
   simp[DictEntry.refKey,hkey]
  have a':¬ es.toList.any (·.refKey)=true:=by rw[a];exact Bool.false_ne_true
  rw[if_neg a'];exact congrArg some e
theorem ObjM.look {h:Heap}{x dx C:Addr}{mA:Str->Option Value}(I:ObjM h x dx C mA):∃ od,PySem.W.InstAt h x (PySem.W.instObj C dx) C (some od)/\∀ name,PySem.W.lookIn name od=some (mA name) :=
 let ⟨od,ho,hl⟩:=ab8 I.ns
 ⟨od,⟨I.obj,rfl,rfl,ho⟩,hl⟩
section
variable {prog:Program}{w:World}{A:Around}{E:Value->Shared->Prop}{s:Shared}{K:Frag}{x dx C f:Addr}{mA:Str->Option Value}{name:Str}{v:Value}
theorem a50 {expr:Bool}{Q:Value->Shared->Prop}(X:K.In s.heap)(I:ObjM s.heap x dx C mA)(hg:PySem.W.plainGet K C name=true)(hh:PySem.W.hasDictIn K C=true)
  (ha:findIn K (.ref C) name=some none)(hv:mA name=some v)(hv':PySem.W.handedIn v=true)(h:Q v { s with toks:=s.toks + 1 }) :
  wpAny (model prog w) A (getAttr (.ref x) name expr) Q E s:=by
 obtain⟨od,J,hl⟩:=I.look;exact PySem.W.get_value X J (PySem.W.plainGet_of hg).1 (PySem.W.findObj_own hh ha rfl (by rw[hl,hv])) hv' h
theorem aT9 {pl:Sem Bool}{Q:Value×List Value->Shared->Prop}(X:K.In s.heap)(I:ObjM s.heap x dx C mA)(hg:PySem.W.plainGet K C name=true)
  (hf:findIn K (.ref C) name=some (some (.ref f)))(ht:PySem.W.isFn K (.ref f)=true)(hv:mA name=none)(h:Q (.ref f,[.ref x]) s) :
  wpAny (model prog w) A (getMethod (.ref x) name pl) Q E s:=by
 obtain⟨od,J,hl⟩:=I.look;exact PySem.W.method_fn X J (PySem.W.plainGet_of hg).1 (PySem.W.plainGet_of hg).2 hf (beq_iff_eq.mp ht) (by show(PySem.W.lookIn name od).map (·.isSome)=some false;rw[hl,hv];rfl) h
theorem a63 {ns:List Str}{Q:Unit->Shared->Prop}(X:K.In s.heap)(I:ObjM s.heap x dx C mA)
  (hs:findIn K (.ref C) "__setattr__" = some (some (.builtin "object.__setattr__")))(hp:PySem.W.plainOver K C=true)(ht:PySem.W.takerIn K C name=some none)(hh:PySem.W.hasDictIn K C=true)
  (hw:PySem.Within mA ns)(hsz:ns.length<=sizeLine)
  (h:∀ h',ObjM h' x dx C (fun y=>if y=name then some v else mA y)->Heap.SameBut dx s.heap h'->Q () { s with heap:=h',toks:=s.toks + 2 }) :
  wpAny (model prog w) A (setAttr (.ref x) name v) Q E s:=by
 obtain⟨od,J,hl⟩:=I.look;refine PySem.W.set_plain X J hs (PySem.W.osa_open (s:={ s with toks:=s.toks + 1 }) (r:=none) X J hp ht fun b=>?_)
 obtain⟨cd,hc,hd'⟩:=PySem.W.any_some hh;have hx:s.heap.get? x=some ⟨.ref C,some dx,.plain,#[]⟩:=I.obj;refine wpAny_bind (wpAny_pure (wpAny_bind (wpAny_bind (wpAny_loadPart hx (wpAny_bind (PySem.W.Looks.here (s:={ s with toks:=s.toks + 1 }) (PySem.W.looks_clsIn X hc) ?_))))))
 rw[hd'];refine wpAny_pure (a:=some dx) (wpAny_bind (wpAny_pure (wpAny_bind ?_)));refine wpAny_nsSet1 (s:={ s with toks:=s.toks + 1 }) I.ns fun h' hn2 hs2=>?_
 obtain⟨oD,esD,epD,hoD,hdD,hcD⟩:=hn2.count (PySem.Within.cons name v hw);refine wpAny_bind (wpAny_lookBehind hoD (by rw[hdD];exact pastItsLine_dict (Nat.le_trans hcD (by rw[length_cons];lia))) ?_)
 exact wpAny_pure (h _ ⟨(hs2.2 _ (Ne.symm I.ne)).trans I.obj,hn2,I.ne⟩ hs2)
theorem aT1 {R:Result->Shared->Prop}{vs:List Value}{kw:List (Str×Value)}(X:K.In s.heap)(hm:PySem.W.makesIn K C=true)
  (hi:findIn K (.ref C) "__init__" = some (some (.ref f)))(hf:typeIn K (.ref f)=some (.type "function"))
  (h:codeAny (model prog w) (A.under (.builtin "type.__call__" ⟨.ref C::vs,kw⟩)) (.call (.ref f) ⟨.ref (s.heap.objs.size + 1)::vs,kw⟩) (PySem.W.InitBack (s.heap.objs.size + 1) R)
   { s with heap:=(s.heap.push PySem.W.emptyDict).push (PySem.W.instObj C s.heap.objs.size) }) :
  codeAny (model prog w) A (.call (.ref C) ⟨vs,kw⟩) R s:=by
 obtain⟨hh,g,d,t,os⟩:=s;exact PySem.W.make_core (PySem.W.makes_of X hm) (PySem.W.looks_findIn X hi) (fun self=>PySem.W.bind_fn X self hf) (.inl rfl) h
end
def T3 (f:Str)(v:V):List (Str×V)->List (Str×V)
 | []=>[(f,v)]
 | (g,x)::r=>if g=f then (g,v)::r else (g,x)::T3 f v r
theorem ae4 (f g:Str)(v:V):∀ fs:List (Str×V),(T3 f v fs).lookup g=if g=f then some v else fs.lookup g
 | []=>by
  show List.lookup g [(f,v)]=_
  by_cases h:g=f
  ·have hb:(g == f)=true:=beq_iff_eq.mpr h
   simp only[List.lookup,hb,if_pos h]
  ·have hb:(g == f)=false:=beq_eq_false_iff_ne.mpr h
   simp only[List.lookup,hb,if_neg h]
 | (k,x)::r=>by
  have ih:=ae4 f g v r;rw[show T3 f v ((k,x)::r)=(if k=f then (k,v)::r else (k,x)::T3 f v r) from rfl]
  by_cases hk:k=f
  ·rw[if_pos hk]
   by_cases h:g=k
   ·have hb:(g == k)=true:=beq_iff_eq.mpr h
    simp only[List.lookup,hb,if_pos (h.trans hk)]
   ·have hb:(g == k)=false:=beq_eq_false_iff_ne.mpr h
    simp only[List.lookup,hb,if_neg (fun e:g=f=>h (e.trans hk.symm))]
  ·rw[if_neg hk]
   by_cases h:g=k
   ·have hb:(g == k)=true:=beq_iff_eq.mpr h
    simp only[List.lookup,hb,if_neg (fun e:g=f=>hk (h.symm.trans e))]
   ·have hb:(g == k)=false:=beq_eq_false_iff_ne.mpr h
    simp only[List.lookup,hb]
    exact ih
theorem ad1 (f:Str)(v:V):∀ fs:List (Str×V),f∈(T3 f v fs).map (·.1)/\∀ g,g∈fs.map (·.1)->g∈(T3 f v fs).map (·.1)
 | []=>⟨by simp[T3],fun g h=>by simp at h⟩
 | (k,x)::r=>by
  obtain⟨i1,i2⟩:=ad1 f v r;rw[show T3 f v ((k,x)::r)=(if k=f then (k,v)::r else (k,x)::T3 f v r) from rfl]
  by_cases hk:k=f
  ·rw[if_pos hk]
   subst hk;exact⟨by simp,fun g h=>by simpa using h⟩
  ·rw[if_neg hk]
   refine⟨?_,fun g h=>?_⟩
   ·rw[map_cons]
    exact mem_cons_of_mem _ i1
   ·rw[map_cons] at h ⊢
    rcases mem_cons.mp h with e | e
    ·exact mem_cons.mpr (.inl e)
    ·exact mem_cons_of_mem _ (i2 g e)
theorem ae2 (f:Str)(v:V):∀ fs:List (Str×V),(T3 f v fs).length<=fs.length + 1
 | []=>by simp[T3]
 | (k,x)::r=>by
  have ih:=ae2 f v r;rw[show T3 f v ((k,x)::r)=(if k=f then (k,v)::r else (k,x)::T3 f v r) from rfl]
  by_cases hk:k=f
  ·rw[if_pos hk,length_cons,length_cons];lia
  ·rw[if_neg hk,length_cons,length_cons];lia
theorem ac1.some_of {v:V}{o:Option Value}(r:ac1 (some v) o):∃ u,o=some u/\o5 v u:=by
 cases o with
 | none=>exact(show False from r).elim
 | some u=>exact⟨u,rfl,r⟩
theorem ac1.none_of {o:Option Value}(r:ac1 none o):o=none:=by
 cases o with
 | none=>rfl
 | some u=>exact(show False from r).elim
theorem an0 {v:V}{u:Value}(r:o5 v u):PySem.W.handedIn u=true:=by
 cases v with
 | non=>cases (show u=Value.none from r);rfl
 | bl b=>cases (show u=Value.bool b from r);rfl
 | int i=>obtain⟨t,e⟩:=(show ∃ t,u=Value.int i t from r);cases e;rfl
 | str x=>obtain⟨t,e⟩:=(show ∃ t,u=Value.str x t from r);cases e;rfl
 | byt b=>obtain⟨t,e⟩:=(show ∃ t,u=Value.bytes b t from r);cases e;rfl
 | flt b=>obtain⟨t,e⟩:=(show ∃ t,u=Value.float b t from r);cases e;rfl
 | ref a=>cases (show u=Value.ref a from r);rfl
 | ty n=>cases (show u=Value.type n from r);rfl
section
variable {P:Program}{w:World}{H H':Hp}{h h':Heap}{a C dx:Addr}{fs fs':List (Str×V)}
theorem aa5 (hok:HOk P w H h)(e:H a=some (.ins C dx fs)):∃ mA,ObjM h a dx C mA/\(∀ f,ac1 (fs.lookup f) (mA f))/\PySem.Within mA (fs.map (·.1))/\fs.length<=1000/\H dx=some (.own a):=by
 obtain⟨d,z,ne,ob,mA,n,r,q⟩:=(show p6 P w H h a (.ins C dx fs) from hok a _ e);exact⟨mA,⟨ob,n,ne⟩,r,q,z,d⟩
end
structure Cls (K:Frag)(C:Addr):Prop where
 pg:PySem.W.plainGet K C Str.empty=true
 hd:PySem.W.hasDictIn K C=true
 po:PySem.W.plainOver K C=true
 sa:findIn K (.ref C) "__setattr__" = some (some (.builtin "object.__setattr__"))
theorem Cls.get {K:Frag}{C:Addr}(c:Cls K C)(f:Str):PySem.W.plainGet K C f=true:=c.pg
def T9 (K:Frag)(C:Addr)(f:Str):Prop:=findIn K (.ref C) f=some none
theorem T9.taker {K:Frag}{C:Addr}{f:Str}(n:T9 K C f):PySem.W.takerIn K C f=some none:=by
 unfold PySem.W.takerIn;rw[show findIn K (.ref C) f=some none from n];rfl
structure Meth (K:Frag)(C:Addr)(m:Str)(f:Addr):Prop where
 at_:findIn K (.ref C) m=some (some (.ref f))
 fn:PySem.W.isFn K (.ref f)=true
 kp:keepIn K (.ref f)=true
section
variable {X:Cx}{pins:List (Addr×Obj)}{σ:St}{H:Hp}{s:Shared}{a C dx:Addr}{fs:List (Str×V)}{f:Str}{v:V}{A:Around}{E:Value->Shared->Prop}
theorem aF8 {b:Bool}{Q:Value->Shared->Prop}(I:Inv X pins σ H s)(e:H a=some (.ins C dx fs))(c:Cls X.K C)(n:T9 X.K C f)(l:fs.lookup f=some v)
  (h:∀ u s',Inv X pins σ H s'->o5 v u->Q u s'):wpAny (model X.prog X.w) A (getAttr (.ref a) f b) Q E s:=by
 obtain⟨mA,O,r,_,_,_⟩:=aa5 I.hok e;obtain⟨u,hu,ru⟩:=ac1.some_of (v:=v) (o:=mA f) (by rw[<- l];exact r f)
 exact a50 I.kIn O (c.get f) c.hd n hu (an0 ru) (h u _ (I.tok _) ru)
theorem ai5 {m:Str}{g:Addr}{pl:Sem Bool}{Q:Value×List Value->Shared->Prop}(I:Inv X pins σ H s)(e:H a=some (.ins C dx fs))(c:Cls X.K C)(k:Meth X.K C m g)(l:fs.lookup m=none)
  (h:Q (.ref g,[.ref a]) s):wpAny (model X.prog X.w) A (getMethod (.ref a) m pl) Q E s:=by
 obtain⟨mA,O,r,_,_,_⟩:=aa5 I.hok e;have hn:mA m=none:=ac1.none_of (by rw[<- l];exact r m)
 exact aT9 I.kIn O (c.get m) k.at_ k.fn hn h
theorem aG2 {y:V}{u:Value}{Q:Unit->Shared->Prop}(I:Inv X pins σ H s)(e:H a=some (.ins C dx fs))(c:Cls X.K C)(n:T9 X.K C f)(hl:fs.length < 1000)(ry:o5 y u)
  (h:∀ s',Inv X pins σ (upd H a (.ins C dx (T3 f y fs))) s'->Q () s'):wpAny (model X.prog X.w) A (setAttr (.ref a) f u) Q E s:=by
 obtain⟨mA,O,r,wi,_,ho⟩:=aa5 I.hok e;have hz:(fs.map (·.1)).length<=sizeLine:=by rw[length_map,sizeLine_eq];lia
 refine a63 I.kIn O c.sa c.po n.taker c.hd wi hz fun h' O' sb=>h _ ?_;have hd:∃ o,h'.get? dx=some o:=let ⟨o,_,_,e',_⟩:=O'.ns;⟨o,e'⟩;refine I.write (x:=a) (e:=dx) (by rw[e];exact True.intro) (.inr ho) (fun b q hb z=>(sb.2 b hb).trans z) hd ?_
 refine⟨by rw[h7 O.ne];exact ho,?_,O.ne,O'.obj,_,O'.ns,fun g=>?_,fun g hg=>?_⟩
 ·have:=ae2 f y fs;lia
 ·show ac1 ((T3 f y fs).lookup g) (if g=f then some u else mA g)
  rw[ae4]
  by_cases q:g=f
  ·rw[if_pos q,if_pos q];exact ry
  ·rw[if_neg q,if_neg q];exact r g
 ·by_cases q:g=f
  ·rw[q];exact(ad1 f y fs).1
  ·refine(ad1 f y fs).2 g (wi g fun z=>hg ?_)
   show(if g=f then some u else mA g)=none
   rw[if_neg q];exact z
theorem Inv.made (I:Inv X pins σ H s):Inv X pins σ (upd (upd H s.heap.objs.size (.own (s.heap.objs.size + 1))) (s.heap.objs.size + 1) (.ins C s.heap.objs.size []))
  { s with heap:=(s.heap.push PySem.W.emptyDict).push (PySem.W.instObj C s.heap.objs.size) }:=by
 have e1:(s.heap.push PySem.W.emptyDict).get? s.heap.objs.size=some PySem.W.emptyDict:=Heap.get?_push_size s.heap rfl
 have e2:((s.heap.push PySem.W.emptyDict).push (PySem.W.instObj C s.heap.objs.size)).get? (s.heap.objs.size + 1)=some (PySem.W.instObj C s.heap.objs.size):=by
  have:=Heap.get?_push_size (s.heap.push PySem.W.emptyDict) (o:=PySem.W.instObj C s.heap.objs.size) rfl
  rwa [Heap.size_push] at this
 have e3:(s.heap.push PySem.W.emptyDict).Ns s.heap.objs.size (fun _=>none):=⟨PySem.W.emptyDict,#[],_,e1,rfl,(fun e he=>absurd he (by simp)),fun _=>rfl⟩
 have I1:=I.laid (a:=s.heap.objs.size) (o:=.own (s.heap.objs.size + 1)) (h':=s.heap.push PySem.W.emptyDict) (t':=s.toks) (fun b u q=>Heap.get?_push_of_some _ q) (Nat.le_refl _) ⟨_,e1⟩;refine I1.laid (a:=s.heap.objs.size + 1) (o:=.ins C s.heap.objs.size []) (t':=s.toks) (fun b u q=>Heap.get?_push_of_some _ q) (Nat.le_of_eq (Heap.size_push _ _)) ?_;have ne:s.heap.objs.size≠s.heap.objs.size + 1:=Nat.ne_of_lt (Nat.lt_succ_self _);refine⟨by rw[h7 ne,d6],Nat.zero_le _,ne,e2,fun _=>none,(Heap.Ns1.of_empty e3).at fun o q=>Heap.get?_push_of_some _ q,fun _=>True.intro,fun y hy=>absurd rfl hy⟩
theorem aI7 {prog:Program}{w:World}{env:Env}{e:Expr}{f:Str}{pos:Pos}{s:Shared}{Q:Value->Shared->Prop}(hb:attributeBase e f env (eval e env)=eval e env)
  (h:wpAny (model prog w) A (eval e env) (fun o s₁=>wpAny (model prog w) A (getAttr o f true) Q E s₁) E s):wpAny (model prog w) A (eval (.Attribute e f pos) env) Q E s :=
 Attribute_any_ h (by rw[arm_eval_Attribute,hb])
end
def bk3 (K:Frag)(ta:TE)(f:Str):TE:=fun σ H Q=>ta σ H fun x H1=>∃ a C dx fs v,x=.ref a/\H1 a=some (.ins C dx fs)/\Cls K C/\T9 K C f/\fs.lookup f=some v/\Q v H1
def bl8 (K:Frag)(ta tv:TE)(f:Str):TS:=fun D σ H=>tv σ H fun y H1=>ta σ H1 fun x H2=>∃ a C dx fs,x=.ref a/\H2 a=some (.ins C dx fs)/\Cls K C/\T9 K C f/\fs.length < 1000 /\
 D.nx σ (upd H2 a (.ins C dx (T3 f y fs)))
section
variable {X:Cx}{o e value:Expr}{f:Str}{pos pos' tpos:Pos}{ta tv:TE}
theorem be9 (he:PE X e ta)(hb:attributeBase e f X.env (eval e X.env)=eval e X.env):PE X (.Attribute e f pos) (bk3 X.K ta f):=by
 intro pins s σ H Q I h
 refine aI7 hb (thn (he pins s σ H _ I h) fun u s1 ⟨x,H1,I1,rx,a,C,dx,fs,v,ex,ea,c,n,l,q⟩=>?_);subst ex;obtain rfl:u=Value.ref a:=rx;exact aF8 I1 ea c n l fun u' s2 I2 ru=>⟨v,H1,I2,ru,q⟩
theorem aD5 (ha:PE X o ta)(hv:PE X value tv)(hs:swapsWith value (some (.Attribute o f pos')) pos.line X.env=pure false):PS X (.Assign [.Attribute o f pos'] value pos) (bl8 X.K ta tv f):=by
 intro pins s σ H D I h
 refine plainObj_wpAny_Assign_Attribute (thn (hv pins s σ H _ I h) fun u s1 ⟨y,H1,I1,ry,q⟩=>thn (ha pins s1 σ H1 _ I1 q) fun ov s2 ⟨x,H2,I2,rx,a,C,dx,fs,ex,ea,c,n,l,q2⟩=>?_) hs;subst ex;obtain rfl:ov=Value.ref a:=rx;exact aG2 I2 ea c n l ry fun s3 I3=>⟨σ,_,I3,q2⟩
theorem ba0 {pl:Sem Bool}{m:Str}{apos:Pos}{args:List Expr}{pins:List (Addr×Obj)}{s:Shared}{σ:St}{H:Hp}{Q:Value->Shared->Prop}{te:TE}(he:PE X e te)(I:Inv X pins σ H s)
  (h:te σ H fun x H1=>∃ a C dx fs g,x=.ref a/\H1 a=some (.ins C dx fs)/\Cls X.K C/\Meth X.K C m g/\fs.lookup m=none /\
   ∀ s1,Inv X pins σ H1 s1->wpAny (model X.prog X.w) X.A (callWith pos (.ref g) [.ref a] (backTo pos (starEach args X.env)) (backToKw pos (keywordEach [] X.env))) Q X.xe s1)
  (ht:eval (.Call (.Attribute e m apos) args [] pos) X.env=(do
   let ov <- eval e X.env
   standAt apos.atName
   let (f,first) <- holding [ov] (getMethod ov m pl)
   callWith pos f first (backTo pos (starEach args X.env)) (backToKw pos (keywordEach [] X.env)))) :
  wpAny (model X.prog X.w) X.A (eval (.Call (.Attribute e m apos) args [] pos) X.env) Q X.xe s:=by
 refine PySem.W.methodCall_KW (pl:=pl) (thn (he pins s σ H _ I h) fun u s1 ⟨x,H1,I1,rx,a,C,dx,fs,g,ex,ea,c,k,l,q⟩=>?_) ht;subst ex;obtain rfl:u=Value.ref a:=rx;exact ai5 I1 ea c k l (q s1 I1)
end
section
variable {X:Cx}{pins:List (Addr×Obj)}{σ:St}{H:Hp}{s:Shared}{A:Around}{E:Value->Shared->Prop}{Q:Value->Shared->Prop}{c:Value}{b:Bool}
inductive TyOf (K:Frag)(H:Hp):V->Value->Prop where
 | non:TyOf K H .non (.type "NoneType")
 | bl (x:Bool):TyOf K H (.bl x) (.type "bool")
 | int (i:Int):TyOf K H (.int i) (.type "int")
 | str (x:Str):TyOf K H (.str x) (.type "str")
 | flt (x:UInt64):TyOf K H (.flt x) (.type "float")
 | lst {a:Addr} {xs:List V} (e:H a=some (.lst xs)):TyOf K H (.ref a) (.type "list")
 | frz {a:Addr} {o:Obj} {xs:List V} (e:H a=some (.frz o (.lst xs))):TyOf K H (.ref a) (.type "list")
 | tup {a:Addr} {xs:List V} (e:H a=some (.tup xs)):TyOf K H (.ref a) (.type "tuple")
 | dK {a:Addr} {kvs:List (Key×V)} (e:H a=some (.dK kvs)):TyOf K H (.ref a) (.type "dict")
 | dT {a:Addr} {kvs:List (List Key×V)} (e:H a=some (.dT kvs)):TyOf K H (.ref a) (.type "dict")
 | ins {a C dx:Addr} {fs:List (Str×V)} (e:H a=some (.ins C dx fs)) (cl:Cls K C) (ha:findIn K (.ref C) "__class__" = some (some (.builtin "object.__class__")))
   (hn:PySem.W.specialIn K (.builtin "object.__class__") "__get__" = some (some (.builtin "getset_descriptor.__get__"))) (htk:PySem.W.takesIn K (.builtin "object.__class__")=some true)
   (hm:PySem.W.mroIn K C (.type "object")=some true):TyOf K H (.ref a) (.ref C)
theorem aR5 {x:V}{u t:Value}(I:Inv X pins σ H s)(rx:o5 x u)(ty:TyOf X.K H x t)(e:kitOne X.K t c=some b)(h:∀ tk,Q (.bool b) { s with toks:=tk }) :
  wpAny (model X.prog X.w) A (call (.builtin "isinstance") [u,c]) Q E s:=by
 cases ty with
 | non=>cases (show u=Value.none from rx);exact PySem.W.kia_one PySem.W.kitx_none I.kIn True.intro e (fun z=>nomatch z) h
 | bl y=>cases (show u=Value.bool y from rx);exact PySem.W.kia_one PySem.W.kitx_bool I.kIn True.intro e (fun z=>nomatch z) h
 | int i=>obtain⟨t,q⟩:=(show ∃ t,u=Value.int i t from rx);cases q;exact PySem.W.kia_one PySem.W.kitx_int I.kIn True.intro e (fun z=>nomatch z) h
 | str y=>obtain⟨t,q⟩:=(show ∃ t,u=Value.str y t from rx);cases q;exact PySem.W.kia_one PySem.W.kitx_str I.kIn True.intro e (fun z=>nomatch z) h
 | flt y=>obtain⟨t,q⟩:=(show ∃ t,u=Value.float y t from rx);cases q;exact PySem.W.kia_one PySem.W.kitx_float I.kIn True.intro e (fun z=>nomatch z) h
 | @lst a xs ea =>
  cases (show u=Value.ref a from rx)
  obtain⟨_,_,n,_,h1⟩:=(show p6 X.prog X.w H s.heap a (.lst xs) from I.hok a _ ea);exact PySem.W.kia_one PySem.W.kitx_list I.kIn ⟨_,h1,rfl⟩ e (fun z=>nomatch z) h
 | @frz a ob xs ea =>
  cases (show u=Value.ref a from rx)
  obtain⟨_,_,_,n,_,h1⟩:=(show p6 X.prog X.w H s.heap a (.frz ob (.lst xs)) from I.hok a _ ea);exact PySem.W.kia_one PySem.W.kitx_list I.kIn ⟨_,h1,rfl⟩ e (fun z=>nomatch z) h
 | @tup a xs ea =>
  cases (show u=Value.ref a from rx)
  obtain⟨_,_,_,p⟩:=(show p6 X.prog X.w H s.heap a (.tup xs) from I.hok a _ ea);obtain⟨o,h1,h2,_⟩:=p;exact PySem.W.kia_one PySem.W.kitx_tuple I.kIn ⟨o,h1,h2⟩ e (fun z=>nomatch z) h
 | @dK a kvs ea =>
  cases (show u=Value.ref a from rx)
  obtain⟨_,_,vs,_,p⟩:=(show p6 X.prog X.w H s.heap a (.dK kvs) from I.hok a _ ea);obtain⟨o,es,ep,h1,h2,_⟩:=p;exact PySem.W.kia_one PySem.W.kitx_dict I.kIn ⟨o,h1,h2.1⟩ e (fun z=>nomatch z) h
 | @dT a kvs ea =>
  cases (show u=Value.ref a from rx)
  obtain⟨_,_,xs,_,o,es,ep,h1,h2,_⟩:=(show p6 X.prog X.w H s.heap a (.dT kvs) from I.hok a _ ea);exact PySem.W.kia_one PySem.W.kitx_dict I.kIn ⟨o,h1,h2.1⟩ e (fun z=>nomatch z) h
 | @ins a C dx fs ea cl ha hn htk hm =>
  cases (show u=Value.ref a from rx)
  obtain⟨mA,O,_⟩:=aa5 I.hok ea;obtain⟨od,J,_⟩:=O.look;exact PySem.W.kia_one (PySem.W.kitx_own (cl.get _) cl.hd ha hn htk hm) I.kIn J e (fun z=>nomatch z) h
end
structure Room (k:Nat)(A:Around):Prop where
 hd:A.handled=none
 dp:A.depth + 3 * k + 5 < recursionLimit
 un:A.units + 16 * k + 200 < cLine
theorem Room.mono {j k:Nat}{A:Around}(r:Room k A)(h:j<=k):Room j A:=⟨r.hd,by have:=r.dp;lia,by have:=r.un;lia⟩
theorem Room.deeper {k:Nat}{A:Around}(r:Room (k + 1) A)(env:Env):Room k (A.deeper env) :=
 ⟨r.hd,by have:=r.dp;show A.depth + 1 + 3 * k + 5 < _;lia,by have:=r.un;show A.units + 3 + 16 * k + 200 < _;lia⟩
theorem aC9 {A:Around}{C:Addr}{us:List Value}{kw:List (Str×Value)}:(A.under (.builtin "type.__call__" ⟨.ref C::us,kw⟩)).depth=A.depth + 1:=by
 first | rfl | simp[Around.under,Code.weight,Code.isCreation,Code.isGuard,Code.isCaller,Code.frames,Code.isFrame,guardIds]
theorem aF3 {A:Around}{C:Addr}{us:List Value}{kw:List (Str×Value)}:(A.under (.builtin "type.__call__" ⟨.ref C::us,kw⟩)).units=A.units + 1:=by
 first | rfl | simp[Around.under,Code.cUnits,Code.frames,Code.isFrame]
theorem Room.make {k:Nat}{A:Around}(r:Room (k + 1) A)(C:Addr)(us:List Value)(kw:List (Str×Value)):Room k (A.under (.builtin "type.__call__" ⟨.ref C::us,kw⟩)) :=
 ⟨r.hd,by have:=r.dp;rw[aC9];lia,by have:=r.un;rw[aF3];lia⟩
theorem Room.depth {k:Nat}{A:Around}(r:Room k A):A.depth < recursionLimit:=by have:=r.dp;lia
theorem Room.units0 {k:Nat}{A:Around}(r:Room k A):A.units < cLine:=by have:=r.un;lia
def aq1:TA:=fun _ H Q=>Q [] H
def bb4 (ta:TE)(tr:TA):TA:=fun σ H Q=>ta σ H fun x H1=>tr σ H1 fun xs H2=>Q (x::xs) H2
section
variable {X:Cx}{e:Expr}{es:List Expr}{te:TE}{t:TA}{pos:Pos}
theorem d8:PA X [] aq1:=fun _ _ _ _ H Q I h=>Calls.spliced_nil ⟨[],H,I,.nil,h⟩
theorem b8 (ha:PE X e te)(hr:PA X es t)(hs:starEach (e::es) X.env=(false,eval e X.env)::starEach es X.env:=by rfl):PA X (e::es) (bb4 te t):=by
 intro pos pins s σ H Q I h
 rw[hs]
 show wpAny _ _ (spliced ((false,eval e X.env)::backTo pos (starEach es X.env))) _ _ s
 refine Calls.spliced_cons (thn (ha pins s σ H _ I h) fun u s1 ⟨x,H1,I1,r1,q1⟩=>?_);exact thn (hr pos pins s1 σ H1 _ I1 q1) fun us s2 ⟨xs,H2,I2,r2,q2⟩=>⟨x::xs,H2,I2,.cons r1 r2,q2⟩
def bk9 (t:TA):TE:=fun σ H Q=>t σ H fun xs H1=>xs.length<=sizeLine/\∀ p,H1 p=none->Q (.ref p) (upd H1 p (.tup xs))
def bl0 (t:TA):TE:=fun σ H Q=>t σ H fun xs H1=>xs.length<=sizeLine/\∀ p,H1 p=none->Q (.ref p) (upd H1 p (.lst xs))
theorem O9 {x1}(h:PA X es t):PE X (.Tuple es x1 pos) (bk9 t):=by
 intro pins s σ H Q I hq
 refine wpAny_Tuple_spliced (thn (h pos pins s σ H _ I hq) fun us s1 ⟨xs,H1,I1,r,z,q⟩=>⟨by rw[<- r.length];exact z,?_⟩)
 have hf:H1 s1.heap.objs.size=none:=I1.hok.fresh (Nat.le_refl _);refine⟨.ref s1.heap.objs.size,upd H1 s1.heap.objs.size (.tup xs),I1.laid (t':=s1.toks) (fun b u e=>Heap.get?_push_of_some _ e) (Nat.le_refl _) ?_,rfl,q _ hf⟩;exact⟨z,us,r,⟨_,Heap.get?_push_size _ rfl,rfl,_,rfl⟩⟩
theorem r6 (h:PA X es t):PE X (.List es pos) (bl0 t):=by
 intro pins s σ H Q I hq
 refine wpAny_List_spliced (thn (h pos pins s σ H _ I hq) fun us s1 ⟨xs,H1,I1,r,z,q⟩=>⟨by rw[<- r.length];exact z,?_⟩)
 have hf:H1 s1.heap.objs.size=none:=I1.hok.fresh (Nat.le_refl _);refine⟨.ref s1.heap.objs.size,upd H1 s1.heap.objs.size (.lst xs),I1.laid (t':=s1.toks) (fun b u e=>Heap.get?_push_of_some _ e) (Nat.le_refl _) ?_,rfl,q _ hf⟩;exact⟨z,us,0,r,Heap.get?_push_size _ rfl⟩
end
abbrev Sp:=List V->Hp->VK->XK->Prop
abbrev CXT:=List Env->Hp->Shared->XK->Value->Shared->Prop
structure Env0 (P:Program)(w:World)(K:Frag)(mg:Str->Option Value)(base:Heap)(A:Around)(outer:List Env)(s:Shared)(H:Hp):Prop where
 frames:A.frames=some outer
 mod:Mod K mg base
 bs:∀ b o,base.get? b=some o->s.heap.get? b=some o/\H b=none
 bsz:base.objs.size<=s.heap.objs.size
 funs:s.heap.FunFrames base outer
 frf:∀ b∈frs outer,H b=none
 hok:HOk P w H s.heap
 bare:AllBare s.gens
def CE (outer:List Env)(P:Program)(w:World)(H:Hp)(s:Shared)(Q:VK)(u:Value)(s':Shared):Prop :=
 ∃ v H',s'.os=s.os/\AllBare s'.gens/\Un (frs outer) [] H H' s.heap s'.heap/\HOk P w H' s'.heap/\o5 v u/\Q v H'
def CR (CX:CXT)(outer:List Env)(P:Program)(w:World)(H:Hp)(s:Shared)(Q:VK)(E:XK)(r:Result)(s':Shared):Prop :=
 match r with
 | .ok (.ret u)=>CE outer P w H s Q u s'
 | .ok _=>False
 | .error e=>CX outer H s E e s'
structure FnOk (P:Program)(w:World)(K:Frag)(mg:Str->Option Value)(base:Heap)(CX:CXT)(k:Nat)(f:Addr)(fd:FuncData)(ps:List Str)(sp:Sp):Prop where
 len:∀ vs H Q E,sp vs H Q E->vs.length=ps.length
 run:∀(A:Around)(outer:List Env)(s:Shared)(H:Hp)(args:Args)(us:List Value)(vs:List V)(Q:VK)(E:XK),Room k A->Env0 P w K mg base A outer s H->BindsTo s fd args (ps.zip us)->j9 vs us->sp vs H Q E ->
  codeAny (model P w) A (.call (.ref f) args) (CR CX outer P w H s Q E) s
theorem Env0.make {P:Program}{w:World}{K:Frag}{mg:Str->Option Value}{base:Heap}{A:Around}{outer:List Env}{s:Shared}{H:Hp}(e:Env0 P w K mg base A outer s H)(C:Addr)(us:List Value)(kw:List (Str×Value)) :
  Env0 P w K mg base (A.under (.builtin "type.__call__" ⟨.ref C::us,kw⟩)) outer s H:=⟨by first | exact e.frames | (simpa [Around.under,Code.envs,Code.isFrame,pushEnvs] using e.frames),e.mod,e.bs,e.bsz,e.funs,e.frf,e.hok,e.bare⟩
section
variable {X:Cx}{pins:List (Addr×Obj)}{σ:St}{H:Hp}{s s':Shared}
theorem Inv.env0 (I:Inv X pins σ H s):Env0 X.prog X.w X.K X.mg X.base X.A X.stack s H :=
 ⟨I.ok.frames,I.ok.mod,I.bs,Nat.le_trans I.ok.bsz I.sz,I.stack,I.stkFree,I.hok,I.bare⟩
theorem Inv.after {Q:VK}{u:Value}(I:Inv X pins σ H s)(h:CE X.stack X.prog X.w H s Q u s'):EP X pins σ Q u s':=by
 obtain⟨v,H',os,bare,un,hok,r,q⟩:=h;obtain⟨hh,g,d,t,os'⟩:=s';obtain rfl:os'=s.os:=os;exact⟨v,H',I.call (h':=hh) (g':=g) (d':=d) (t':=t) (ch:=[]) un hok bare (fun b z=>absurd z (by simp)),r,q⟩
end
def bb0 (sp:Sp)(dvs:List V)(E:XK)(t:TA):TE:=fun σ H Q=>t σ H fun vs H1=>sp (vs++dvs) H1 Q E
def bb1 (C:Addr)(m:Str)(sp:Sp)(dvs:List V)(E:XK)(ta:TE)(t:TA):TE:=fun σ H Q=>ta σ H fun x H1=>∃ a dx fs,x=.ref a/\H1 a=some (.ins C dx fs)/\fs.lookup m=none /\
 t σ H1 fun vs H2=>sp (x::(vs++dvs)) H2 Q E
def aJ2 (C:Addr)(sp:Sp)(dvs:List V)(E:XK)(t:TA):TE:=fun σ H Q=>t σ H fun vs H1=>∀ x dx,H1 x=none->H1 dx=none->dx≠x ->
 sp (.ref x::(vs++dvs)) (upd (upd H1 dx (.own x)) x (.ins C dx [])) (fun v H2=>v=.non/\Q (.ref x) H2) E
def I9 (K:Frag)(fd:FuncData)(ps:List Str)(ds:List Value):Prop :=
 ∀(s:Shared)(us:List Value),K.In s.heap->(us++ds).length=ps.length->BindsTo s fd ⟨us,[]⟩ (ps.zip (us++ds))
theorem I9.all {K:Frag}{fd:FuncData}{ps:List Str}(h:∀ us:List Value,us.length=ps.length->bindArgs fd ⟨us,[]⟩=pure (ps.zip us)):I9 K fd ps []:=fun s us _ hl=>by
 rw[append_nil] at hl ⊢;exact .of_eq (h us hl)
def X9 (CX:CXT)(X:Cx)(E:XK):Prop:=∀(pins:List (Addr×Obj))(σ:St)(H:Hp)(s:Shared)(e:Value)(s':Shared),Inv X pins σ H s->CX X.stack H s E e s'->X.xe e s'
section
variable {X:Cx}{CX:CXT}{k:Nat}{f C:Addr}{fd:FuncData}{ps:List Str}{sp:Sp}{dvs:List V}{ds:List Value}{E:XK}{x m:Str}{p pos apos:Pos}{e o:Expr}{es:List Expr}{ta:TE}{t:TA}
theorem aX4 {pins:List (Addr×Obj)}{σ:St}{H:Hp}{s:Shared}{Q:VK}{us:List Value}{vs:List V}(F:FnOk X.prog X.w X.K X.mg X.base CX k f fd ps sp)(hr:Room k X.A)(hb:I9 X.K fd ps ds)(hd:j9 dvs ds)(hx:X9 CX X E)
  (I:Inv X pins σ H s)(r:j9 vs us)(h:sp (vs++dvs) H Q E):wpAny (model X.prog X.w) X.A (call (.ref f) us) (EP X pins σ Q) X.xe s:=by
 have r2:j9 (vs++dvs) (us++ds):=r.append hd;have hl:(us++ds).length=ps.length:=by rw[<- r2.length];exact F.len _ _ _ _ h
 refine wpAny_call (codeAny_mono (F.run X.A X.stack s H ⟨us,[]⟩ (us++ds) (vs++dvs) Q E hr I.env0 (hb s us I.kIn hl) r2 h) fun r s' hq=>?_)
 cases r with
 | error e=>exact hx pins σ H s e s' I hq
 | ok fl =>
  cases fl with
  | ret u=>exact I.after hq
  | next=>exact False.elim hq
  | brk=>exact False.elim hq
  | cont=>exact False.elim hq
theorem a99 (F:FnOk X.prog X.w X.K X.mg X.base CX k f fd ps sp)(hr:Room k X.A)(hg:Gl X x)(hm:X.mg x=some (.ref f))(hk:keepIn X.K (.ref f)=true)(hb:I9 X.K fd ps ds)(hd:j9 dvs ds)(hx:X9 CX X E)
  (ha:PA X (e::es) t)(hdb:(x == ("__debug__":Str))=false:=by decide)(he:starEach (e::es) X.env=(false,eval e X.env)::starEach es X.env:=by rfl)(hpl:(backTo pos (starEach es X.env)).any (·.1)=false:=by rfl) :
  PE X (.Call (.Name x p) (e::es) [] pos) (bb0 sp dvs E t):=by
 intro pins s σ H Q I h
 refine wpAny_Call_Name_kw (M4 I hg hm ?_ hdb);refine PySem.W.callWith_K (h₀:=X.base) I.ok.mod.kin hk (thn (ha pos pins s σ H _ I h) fun us s1 ⟨vs,H1,I1,r,q⟩=>⟨I1.kIn,?_⟩) he hpl;exact aX4 F hr hb hd hx I1 r q
theorem a68 {pl:Sem Bool}(he:PE X o ta)(c:Cls X.K C)(hm:Meth X.K C m f)(F:FnOk X.prog X.w X.K X.mg X.base CX k f fd ps sp)(hr:Room k X.A)(hb:I9 X.K fd ps ds)(hd:j9 dvs ds)(hx:X9 CX X E)(ha:PA X (e::es) t)
  (hst:starEach (e::es) X.env=(false,eval e X.env)::starEach es X.env:=by rfl)(hpl:(backTo pos (starEach es X.env)).any (·.1)=false:=by rfl)
  (ht:eval (.Call (.Attribute o m apos) (e::es) [] pos) X.env=(do
   let ov <- eval o X.env
   standAt apos.atName
   let (f,first) <- holding [ov] (getMethod ov m pl)
   callWith pos f first (backTo pos (starEach (e::es) X.env)) (backToKw pos (keywordEach [] X.env))):=by rfl) :
  PE X (.Call (.Attribute o m apos) (e::es) [] pos) (bb1 C m sp dvs E ta t):=by
 intro pins s σ H Q I h
 refine PySem.W.methodCall_KW (pl:=pl) (thn (he pins s σ H _ I h) fun u s1 ⟨x,H1,I1,rx,a,dx,fs,ex,ea,l,q⟩=>?_) ht;subst ex;obtain rfl:u=Value.ref a:=rx;refine ai5 I1 ea c hm l ?_;refine PySem.W.callWith_K (first:=[.ref a]) (h₀:=X.base) I.ok.mod.kin hm.kp (thn (ha pos pins s1 σ H1 _ I1 q) fun us s2 ⟨vs,H2,I2,r,q2⟩=>⟨I2.kIn,?_⟩) hst hpl;exact aX4 (us:=.ref a::us) (vs:=.ref a::vs) F hr hb hd hx I2 (.cons rfl r) q2
structure Mk (K:Frag)(C f:Addr):Prop where
 makes:PySem.W.makesIn K C=true
 init:findIn K (.ref C) "__init__" = some (some (.ref f))
 fn:PySem.W.isFn K (.ref f)=true
 kp:keepIn K (.ref C)=true
theorem aB0 {pins:List (Addr×Obj)}{σ:St}{H:Hp}{s:Shared}{Q:VK}{us:List Value}{vs:List V}(M:Mk X.K C f)(F:FnOk X.prog X.w X.K X.mg X.base CX k f fd ps sp)(hr:Room (k + 1) X.A)(hb:I9 X.K fd ps ds)(hd:j9 dvs ds)
  (hx:X9 CX X E)(I:Inv X pins σ H s)(r:j9 vs us)
  (h:∀ x dx,H x=none->H dx=none->dx≠x->sp (.ref x::(vs++dvs)) (upd (upd H dx (.own x)) x (.ins C dx [])) (fun v H2=>v=.non/\Q (.ref x) H2) E) :
  wpAny (model X.prog X.w) X.A (call (.ref C) us) (EP X pins σ Q) X.xe s:=by
 have hq:=h (s.heap.objs.size + 1) s.heap.objs.size (I.hok.fresh (Nat.le_succ _)) (I.hok.fresh (Nat.le_refl _)) (Nat.ne_of_lt (Nat.lt_succ_self _));have I2:=Inv.made (C:=C) I;have r2:j9 (V.ref (s.heap.objs.size + 1)::(vs++dvs)) (Value.ref (s.heap.objs.size + 1)::(us++ds)):=.cons rfl (r.append hd)
 have hl:(Value.ref (s.heap.objs.size + 1)::us++ds).length=ps.length:=by
  have e:=r2.length;rw[F.len _ _ _ _ hq] at e;exact e.symm
 refine wpAny_call (aT1 (f:=f) I.kIn M.makes M.init (beq_iff_eq.mp M.fn) (codeAny_mono (F.run _ X.stack _ _ ⟨Value.ref (s.heap.objs.size + 1)::us,[]⟩ (Value.ref (s.heap.objs.size + 1)::(us++ds)) _ _ E (hr.make C us [])
  (I2.env0.make C us []) (hb _ (Value.ref (s.heap.objs.size + 1)::us) I2.kIn hl) r2 hq) fun r s' hq'=>?_))
 cases r with
 | error e=>exact hx pins σ _ _ e s' I2 hq'
 | ok fl =>
  cases fl with
  | ret u =>
   obtain⟨v,H',I3,rv,ev,q3⟩:=I2.after hq';subst ev;exact⟨rv,⟨V.ref (s.heap.objs.size + 1),H',I3,rfl,q3⟩⟩
  | next=>exact False.elim hq'
  | brk=>exact False.elim hq'
  | cont=>exact False.elim hq'
theorem a89 (M:Mk X.K C f)(F:FnOk X.prog X.w X.K X.mg X.base CX k f fd ps sp)(hr:Room (k + 1) X.A)(hg:Gl X x)(hm:X.mg x=some (.ref C))(hb:I9 X.K fd ps ds)(hd:j9 dvs ds)(hx:X9 CX X E)
  (ha:PA X (e::es) t)(hdb:(x == ("__debug__":Str))=false:=by decide)(he:starEach (e::es) X.env=(false,eval e X.env)::starEach es X.env:=by rfl)(hpl:(backTo pos (starEach es X.env)).any (·.1)=false:=by rfl) :
  PE X (.Call (.Name x p) (e::es) [] pos) (aJ2 C sp dvs E t):=by
 intro pins s σ H Q I h
 refine wpAny_Call_Name_kw (M4 I hg hm ?_ hdb);refine PySem.W.callWith_K (h₀:=X.base) I.ok.mod.kin M.kp (thn (ha pos pins s σ H _ I h) fun us s1 ⟨vs,H1,I1,r,q⟩=>⟨I1.kIn,?_⟩) he hpl;exact aB0 M F hr hb hd hx I1 r q
theorem aW0 (M:Mk X.K C f)(F:FnOk X.prog X.w X.K X.mg X.base CX k f fd ps sp)(hr:Room (k + 1) X.A)(hg:Gl X x)(hm:X.mg x=some (.ref C))(hb:I9 X.K fd ps ds)(hd:j9 dvs ds)(hx:X9 CX X E)
  (hdb:(x == ("__debug__":Str))=false:=by decide):PE X (.Call (.Name x p) [] [] pos) (aJ2 C sp dvs E aq1):=by
 intro pins s σ H Q I h
 refine wpAny_Call_Name_kw (M4 I hg hm ?_ hdb);exact PySem.W.callWith_K0 I.kIn M.kp (aB0 (us:=[]) M F hr hb hd hx I .nil h)
end
def PK (X:Cx)(kws:List Keyword)(t:TA):Prop :=
 ∀(pos:Pos)(pins:List (Addr×Obj))(s:Shared)(σ:St)(H:Hp)(Q:List V->Hp->Prop),Inv X pins σ H s->t σ H Q->wpAny (model X.prog X.w) X.A (evalAll ((backToKw pos (keywordEach kws X.env)).map (·.2))) (AP X pins σ Q) X.xe s
section
variable {X:Cx}{CX:CXT}{k:Nat}{f C:Addr}{fd:FuncData}{ps ks:List Str}{sp:Sp}{E:XK}{x m:Str}{p pos apos kpos:Pos}{e o:Expr}{es:List Expr}{kws:List Keyword}{te ta:TE}{t tk:TA}{nm:Option Str}
theorem bd8:PK X [] aq1:=fun _ _ _ _ H Q I h=>wpAny_evalAll_nil ⟨[],H,I,.nil,h⟩
theorem a97 (ha:PE X e te)(hr:PK X kws t):PK X (⟨nm,e,kpos⟩::kws) (bb4 te t):=by
 intro pos pins s σ H Q I h
 show wpAny _ _ (evalAll ((do let v <- eval e X.env;standAt pos;pure v)::(backToKw pos (keywordEach kws X.env)).map (·.2))) _ _ s
 refine wpAny_evalAll_cons (wpAny_bind (thn (ha pins s σ H _ I h) fun u s1 ⟨x,H1,I1,r1,q1⟩=>wpAny_bind (wpAny_standAt (wpAny_pure ?_))));exact thn (hr pos pins s1 σ H1 _ I1 q1) fun us s2 ⟨xs,H2,I2,r2,q2⟩=>⟨x::xs,H2,I2,.cons r1 r2,q2⟩
variable {g:List Value->List Value->List Value}{gV:List V->List V->List V}
end
structure FnScope (N P:List Str)(sc:Scope):Prop where
 kind:sc.kind=.function
 co:sc.isCoroutine=false
 gen:sc.isGenerator=false
 nd:N.Nodup
 pre:N.take P.length=P
 par:∀ x∈P,sc.names.lookup x=some .local\/sc.names.lookup x=some .cell
 nofree:∀ y∈sc.names,y.2≠.free
theorem am9 {kindOf:Str->Option NameKind}{x:Str}:∀{binds:List (Str×Value)}{m:Str->Option Value},(∀ v,(x,v)∉binds)->bindL kindOf binds m x=m x
 | [],_,_=>rfl
 | (n,v)::r,m,h=>by
  unfold bindL;rw[am9 fun w hw=>h w (mem_cons_of_mem _ hw)]
  split
  ·have:x≠n:=by rintro rfl;exact h v mem_cons_self
   simp[this]
  ·rfl
theorem ao5 {kindOf:Str->Option NameKind}{x:Str}:∀{binds:List (Str×Value)}{m:Str->Option Value},(∀ v,(x,v)∉binds)->bindC kindOf binds m x=m x
 | [],_,_=>rfl
 | (n,v)::r,m,h=>by
  unfold bindC;rw[ao5 fun w hw=>h w (mem_cons_of_mem _ hw)]
  split
  ·rfl
  ·have:x≠n:=by rintro rfl;exact h v mem_cons_self
   simp[this]
theorem ao9 {kindOf:Str->Option NameKind}{x:Str}{v:Value}:∀{P:List Str}{vs:List Value}{i:Nat}{m:Str->Option Value},P.Nodup->P[i]? = some x->vs[i]? = some v->kindOf x=some .local ->
  bindL kindOf (P.zip vs) m x=some v
 | [],_,_,_,_,h,_,_=>by simp at h
 | _::_,[],_,_,_,_,h,_=>by simp at h
 | p::P,w::vs,0,m,nd,h1,h2,hk=>by
  simp at h1 h2;subst h1;subst h2
  show bindL kindOf ((p,w)::P.zip vs) m p=_
  unfold bindL;rw[am9 fun v hv=>(List.nodup_cons.mp nd).1 (List.of_mem_zip hv).1,if_pos hk]
  simp
 | p::P,w::vs,i + 1,m,nd,h1,h2,hk=>by
  show bindL kindOf ((p,w)::P.zip vs) m x=_
  unfold bindL;exact ao9 (i:=i) (List.nodup_cons.mp nd).2 (by simpa using h1) (by simpa using h2) hk
theorem ao0 {kindOf:Str->Option NameKind}{x:Str}{v:Value}:∀{P:List Str}{vs:List Value}{i:Nat}{m:Str->Option Value},P.Nodup->P[i]? = some x->vs[i]? = some v->kindOf x≠some .local ->
  bindC kindOf (P.zip vs) m x=some v
 | [],_,_,_,_,h,_,_=>by simp at h
 | _::_,[],_,_,_,_,h,_=>by simp at h
 | p::P,w::vs,0,m,nd,h1,h2,hk=>by
  simp at h1 h2;subst h1;subst h2
  show bindC kindOf ((p,w)::P.zip vs) m p=_
  unfold bindC;rw[ao5 fun v hv=>(List.nodup_cons.mp nd).1 (List.of_mem_zip hv).1,if_neg hk]
  simp
 | p::P,w::vs,i + 1,m,nd,h1,h2,hk=>by
  show bindC kindOf ((p,w)::P.zip vs) m x=_
  unfold bindC;exact ao0 (i:=i) (List.nodup_cons.mp nd).2 (by simpa using h1) (by simpa using h2) hk
def start (N:List Str)(vs:List V):St:=vs.map some++List.replicate (N.length - vs.length) none
def N5 (CX:CXT)(P:Program)(w:World)(K:Frag)(mg:Str->Option Value)(base:Heap)(N:List Str)(qual:Str)(scope:Scope)(f:Addr)(cd:Value)(A:Around)(outer:List Env)(s:Shared)(H:Hp)(E:XK):Cx where
 prog:=P
 w:=w
 K:=K
 mg:=mg
 base:=base
 A:=A.deeper (envOfC qual scope s.heap.objs.size f cd)
 N:=N
 s₀:=s
 H₀:=H
 env:=envOfC qual scope s.heap.objs.size f cd
 outer:=outer
 stack:=envOfC qual scope s.heap.objs.size f cd::outer
 ex:=[]
 calm:=true
 fn:=fun _=>true
 pn:=[]
 xe:=fun e s'=>wpAny (model P w) (A.deeper (envOfC qual scope s.heap.objs.size f cd)) (leaving (envOfC qual scope s.heap.objs.size f cd) e) (fun _ s''=>CX outer H s E e s'') (fun e' s''=>CX outer H s E e' s'') s'
theorem aj3 {sc:Scope}{n:Nat}{x:Str}(h:sc.names.lookup x=some .cell):∃ c,(cellsFrom n sc.names []).lookup x=some c:=by
 have q:=PySem.W.cellsFrom_some sc.names n [] (.inl h);exact Option.isSome_iff_exists.mp q
theorem aO2 {CX:CXT}{P:Program}{w:World}{K:Frag}{mg:Str->Option Value}{base:Heap}{N ps:List Str}{qual:Str}{scope:Scope}{f:Addr}{cd:Value}{A:Around}{outer:List Env}{s s1:Shared}{H:Hp}{E:XK}{us:List Value}{vs:List V}
  (S:FnScope N ps scope)(hd:A.handled=none)(e0:Env0 P w K mg base A outer s H)(hl:vs.length=ps.length)(r:j9 vs us)
  (x:InCallC s s.heap.objs.size (bindL (envOfC qual scope s.heap.objs.size f cd).kindOf (ps.zip us) fun _=>none) (cellsFrom (s.heap.objs.size + 1) scope.names []) (bindC (envOfC qual scope s.heap.objs.size f cd).kindOf (ps.zip us) fun _=>none) s1) :
  Inv (N5 CX P w K mg base N qual scope f cd A outer s H E) [] (start N vs) H s1:=by
 have hpl:ps.length<=N.length:=by have:=congrArg List.length S.pre;rw[length_take] at this;lia
 obtain⟨h1,tk,rfl,hk⟩:=x.done;have noA:∀ b:Addr,b∉(N5 CX P w K mg base N qual scope f cd A outer s H E).ex:=fun b z=>absurd (show b∈([]:List Addr) from z) (by simp)
 refine⟨⟨e0.mod,S.kind,rfl,rfl,Nat.le_refl _,fun y z c h1 h2=>?_,fun y hy=>?_,fun y c _ h=>?_,fun _=>hd,Around.frames_deeper e0.frames,.inr ⟨rfl,rfl⟩,fun b z=>absurd z (noA b),e0.bs,e0.bsz,fun b _ _=>noA b,fun b z=>absurd z (noA b),e0.funs,e0.frf⟩,
  rfl,e0.bare,Un.kept hk,⟨_,x.toInCall.ns,fun i y v h1 h2 h3=>?_⟩,fun y c h=>⟨_,x.cell y c h⟩,e0.hok.fresh (Nat.le_refl _),fun y c h=>?_,fun p hp=>absurd (show p∈([]:List (Addr×Obj)) from hp) (by simp),e0.hok.kept hk,?_⟩
 ·exact name_of_addr x.apart (PySem.mem_of_lookup h1) (PySem.mem_of_lookup h2)
 ·have hy:scope.names.lookup y=some .cell\/scope.names.lookup y=some .free:=hy
  rcases hy with hy | hy
  ·exact aj3 hy
  ·exact absurd rfl (S.nofree _ (PySem.mem_of_lookup hy))
 ·exact Nat.le_of_lt (x.above y c (PySem.mem_of_lookup h))
 ·have hi:i < vs.length:=by
   unfold start at h2
   by_cases hi:i < vs.length
   ·exact hi
   ·rw[List.getElem?_append_right (by simpa using hi)] at h2
    rw[List.getElem?_replicate] at h2
    split at h2 <;> cases h2
  have ha:vs[i]? = some v:=by
   unfold start at h2;rw[List.getElem?_append_left (by simpa using hi),List.getElem?_map] at h2
   cases e:vs[i]? with
   | none=>rw[e] at h2;cases h2
   | some a=>rw[e] at h2;cases h2;rfl
  obtain⟨u,hu,rv⟩:=r.get ha
  have hp:ps[i]? = some y:=by
   rw[<- S.pre,List.getElem?_take_of_lt (by lia)];exact h1
  have ndP:ps.Nodup:=by rw[<- S.pre];exact S.nd.sublist (List.take_sublist _ _)
  refine⟨u,rv,?_⟩
  rcases S.par y (List.mem_of_getElem? hp) with k | k
  ·exact .inl ⟨k,ao9 ndP hp hu k⟩
  ·obtain⟨c,e⟩:=aj3 (n:=s.heap.objs.size + 1) k
   refine .inr ⟨.inl k,c,e,?_⟩;have q:=x.cell y c e;rw[ao0 ndP hp hu (by show scope.names.lookup y≠_;rw[k];decide)] at q
   exact q
 ·exact e0.hok.fresh (Nat.le_of_lt (x.above y c (PySem.mem_of_lookup h)))
 ·unfold start
  show _=N.length
  rw[length_append,length_map,List.length_replicate];lia
theorem ap8 {CX:CXT}{P:Program}{w:World}{K:Frag}{mg:Str->Option Value}{base:Heap}{k:Nat}{f:Addr}{name qual:Str}{params:Arguments}{body:List Stmt}{scope:Scope}{dV kV doc pm cdv ct oc:Value}{an od:Option Addr}
  {osl:Array (Option Value)}{N ps:List Str}{sp:Sp}(lk:K.lookup f=some ⟨oc,od,.func (fnOf name qual params body scope dV kV doc pm an cdv ct),osl⟩)(hcd:codeIn K cdv qual=true)(S:FnScope N ps scope)
  (len:∀ vs H Q E,sp vs H Q E->vs.length=ps.length)
  (hbody:∀(A:Around)(outer:List Env)(s:Shared)(H:Hp)(vs:List V)(Q:VK)(E:XK),Room k (A.deeper (envOfC qual scope s.heap.objs.size f cdv))->sp vs H Q E ->
   ∃ t,PSs (N5 CX P w K mg base N qual scope f cdv A outer s H E) body t/\t { nx:=fun _ H'=>Q .non H',rt:=Q } (start N vs) H) :
  FnOk P w K mg base CX (k + 1) f (fnOf name qual params body scope dV kV doc pm an cdv ct) ps sp:=by
 refine⟨len,fun A outer s H args us vs Q E hr e0 hb r hsp=>?_⟩;have hl:=len _ _ _ _ hsp;have KX:K.In s.heap:=e0.mod.kin.keeps fun b o e=>(e0.bs b o e).1;have lim:s.heap.NoLimit:=e0.mod.nolimit.keeps fun b o e=>(e0.bs b o e).1
 have hkind:∀ y∈ps.zip us,scope.names.lookup y.1=some .local\/(scope.names.lookup y.1=some .cell/\((cellsFrom (s.heap.objs.size + 1) scope.names []).lookup y.1).isSome=true):=fun⟨n,v⟩ hy=>by
  rcases S.par n (List.of_mem_zip hy).1 with q | q
  ·exact .inl q
  ·exact .inr ⟨q,PySem.W.cellsFrom_some _ _ _ (.inl q)⟩
 refine codeAny_call_function hr.depth (KX _ _ lk) rfl S.co S.gen rfl (PySem.W.codeRec_of KX hcd) (hb _ _ _ _ ?_);refine wpAny_newFunctionEnv_cells S.kind hkind fun env he s1 x=>?_;subst he;refine⟨lim.keeps x.toInCall.keep,codeAny_func ?_⟩;obtain⟨t,ht,hq⟩:=hbody A outer s H vs Q E (hr.deeper _) hsp;have I:Inv (N5 CX P w K mg base N qual scope f cdv A outer s H E) [] (start N vs) H s1:=aO2 S hr.hd e0 hl r x;refine wpAny_mono (ht [] s1 (start N vs) H _ I hq) (fun fl s' hs=>?_) fun e s' hs=>hs
 have fin:∀{σ':St}{H':Hp}{v:V}{u:Value},Inv (N5 CX P w K mg base N qual scope f cdv A outer s H E) [] σ' H' s'->o5 v u->Q v H'->CE outer P w H s Q u s' :=
  fun {σ' H' v u} J rv q=>⟨v,H',J.os,J.bare,J.base,J.hok,rv,q⟩
 cases fl with
 | ret u =>
  obtain⟨v,σ',H',J,rv,q⟩:=hs;exact fin J rv q
 | next =>
  obtain⟨σ',H',J,q⟩:=hs;exact fin (v:=V.non) (u:=Value.none) J rfl q
 | brk =>
  obtain⟨_,_,_,q⟩:=hs;exact False.elim q
 | cont =>
  obtain⟨_,_,_,q⟩:=hs;exact False.elim q
section
variable {X:Cx}{x:Str}{p pos:Pos}{e:Expr}{es:List Expr}{t:TA}{id T:String}{r:List V->Hp->VK->Prop}
def tCB (r:List V->Hp->VK->Prop)(t:TA):TE:=fun σ H Q=>t σ H fun vs H1=>r vs H1 Q
theorem i8 (hc:z7 X (.builtin id) r)(hg:Gl X x)(hm:X.mg x=none)(hv:bootBuiltins x=some (.builtin id))(ha:PA X (e::es) t)(hn:x≠"__name__":=by decide)(hdb:(x == ("__debug__":Str))=false:=by decide)
  (he:starEach (e::es) X.env=(false,eval e X.env)::starEach es X.env:=by rfl) (hpl:(backTo pos (starEach es X.env)).any (·.1)=false:=by rfl):PE X (.Call (.Name x p) (e::es) [] pos) (tCB r t):=by
 intro pins s σ H Q I h
 refine wpAny_Call_Name_kw (S3 I hg hm hv ?_ hn hdb);exact PyProof.Rows.callWith_builtin1 (thn (ha pos pins s σ H _ I h) fun us s1 ⟨vs,H1,I1,r1,q1⟩=>hc pins s1 σ H1 vs us Q I1 r1 q1) he hpl
theorem p7 (hc:z7 X (.type T) r)(hg:Gl X x)(hm:X.mg x=none)(hv:bootBuiltins x=some (.type T))(ha:PA X (e::es) t)(hn:x≠"__name__":=by decide)(hdb:(x == ("__debug__":Str))=false:=by decide)
  (he:starEach (e::es) X.env=(false,eval e X.env)::starEach es X.env:=by rfl) (hpl:(backTo pos (starEach es X.env)).any (·.1)=false:=by rfl):PE X (.Call (.Name x p) (e::es) [] pos) (tCB r t):=by
 intro pins s σ H Q I h
 refine wpAny_Call_Name_kw (S3 I hg hm hv ?_ hn hdb);exact PyProof.Rows.callWith_type1 (thn (ha pos pins s σ H _ I h) fun us s1 ⟨vs,H1,I1,r1,q1⟩=>hc pins s1 σ H1 vs us Q I1 r1 q1) he hpl
end
end L2
namespace HT
open PySem PyProof.Rows
section
variable {prog:Program}{w:World}{A:Around}{E:Value->Shared->Prop}{s:Shared}
def sIx (n d:Nat):Option Int->Nat
 | none=>d
 | some v=>if v < 0 then (v + (n:Int)).toNat else min v.toNat n
theorem sIx_none (n d:Nat):sIx n d none=d:=rfl
theorem sIx_nat (n d k:Nat):sIx n d (some (k:Int))=min k n:=by
 show(if (k:Int) < 0 then ((k:Int) + (n:Int)).toNat else min (k:Int).toNat n)=min k n
 rw[if_neg (by lia),Int.toNat_natCast]
end
end HT
namespace L2
open PySem PySem.Spec PyProof.Rows
abbrev TO:=St->Hp->(Option Int->Hp->Prop)->Prop
def PO (X:Cx)(e:Option Expr)(t:TO):Prop :=
 ∀(pins:List (Addr×Obj))(s:Shared)(σ:St)(H:Hp)(Q:Option Int->Hp->Prop),Inv X pins σ H s->t σ H Q ->
  wpAny (model X.prog X.w) X.A (evalPart e X.env) (fun u s'=>∃ o H',Inv X pins σ H' s'/\IsPart u o/\Q o H') X.xe s
def a78:TO:=fun _ H Q=>Q none H
def bg6 (t:TE):TO:=fun σ H Q=>t σ H fun x H1=>∃ i,x=.int i/\Q (some i) H1
theorem C5 {ns:List Int}:∀{us:List Value},j9 (ns.map V.int) us->IntsAre us ns:=by
 induction ns with
 | nil=>intro us r;rw[List.map_nil] at r;cases r;exact .nil
 | cons n ns ih =>
  intro us r
  rw[map_cons] at r
  cases r with
  | cons r1 r2 =>
   obtain⟨t,e⟩:=r1;subst e;exact .cons n t (ih r2)
section
variable {X:Cx}{e:Expr}{te:TE}{lo hi:Option Expr}{tl th:TO}{pos p2:Pos}
theorem aJ8:PO X none a78:=by
 intro pins s σ H Q I h
 rw[evalPart_none];exact wpAny_pure ⟨none,H,I,.none,h⟩
theorem aI6 (h:PE X e te):PO X (some e) (bg6 te):=by
 intro pins s σ H Q I hw
 rw[evalPart_some];refine thn (h pins s σ H _ I hw) fun u s1 ⟨x,H1,I1,r1,q1⟩=>?_;obtain⟨i,rfl,q⟩:=q1;obtain⟨t,rfl⟩:=r1;exact⟨some i,H1,I1,.int i t,q⟩
def SlR (X:Cx)(r:V->Option Int->Option Int->Hp->VK->Prop):Prop :=
 ∀(pins:List (Addr×Obj))(s:Shared)(σ:St)(H:Hp)(x:V)(v vl vu:Value)(lo hi:Option Int)(sl:Addr)(Q:VK),Inv X pins σ H s->o5 x v->s.heap.IsSliceOf sl vl vu .none->IsPart vl lo->IsPart vu hi->r x lo hi H Q ->
  ∃ T id,typeLookup (.type T) "__getitem__" = pure (some (.builtin id))/\s.TypeIs v T/\wpAny (model X.prog X.w) X.A (getItem v (.ref sl)) (EP X pins σ Q) X.xe s
def tSl (r:V->Option Int->Option Int->Hp->VK->Prop)(te:TE)(tl th:TO):TE:=fun σ H Q=>te σ H fun x H1=>tl σ H1 fun l H2=>th σ H2 fun u H3=>r x l u H3 Q
theorem ay6 {r:V->Option Int->Option Int->Hp->VK->Prop}(hr:SlR X r)(he:PE X e te)(hl:PO X lo tl)(hu:PO X hi th):PE X (.Subscript e (.Slice lo hi none p2) pos) (tSl r te tl th):=by
 intro pins s σ H Q I h
 refine Subscript_ (thn (he pins s σ H _ I h) fun v s1 ⟨x,H1,I1,r1,q1⟩=>?_);refine wpAny_Slice (thn (hl pins s1 σ H1 _ I1 q1) fun vl s2 ⟨l,H2,I2,pl,q2⟩=>thn (hu pins s2 σ H2 _ I2 q2) fun vu s3 ⟨u,H3,I3,pu,q3⟩=>?_);rw[evalPart_none];refine wpAny_pure ?_;have I4:Inv X pins σ H3 { s3 with heap:=s3.heap.push { cls:=.type "slice",data:=.fields #[vl,vu,.none] } }:=I3.kept (t':=s3.toks) fun b ob q=>Heap.get?_push_of_some _ q
 obtain⟨T,id,hT,ht,hg⟩:=hr pins { s3 with heap:=s3.heap.push { cls:=.type "slice",data:=.fields #[vl,vu,.none] } } σ H3 x v vl vu l u s3.heap.objs.size Q I4 r1 (Heap.IsSliceOf.new ..) pl pu q3
 show wpAny (model X.prog X.w) X.A (subscriptTail e (.Slice lo hi none p2) v (.ref s3.heap.objs.size)) (EP X pins σ Q) X.xe { s3 with heap:=s3.heap.push { cls:=.type "slice",data:=.fields #[vl,vu,.none] } }
 exact tail_any (ops:=[.ref s3.heap.objs.size,v]) ht hT hg (by with_unfolding_all rfl)
def N2 (xs:List V)(lo hi:Option Int):List V:=(xs.drop (HT.sIx xs.length 0 lo)).take (HT.sIx xs.length xs.length hi - HT.sIx xs.length 0 lo)
theorem ax8 (xs:List V)(lo hi:Option Int):(N2 xs lo hi).length<=xs.length:=by
 unfold N2;rw[length_take,length_drop];lia
end
def ixN (n:Nat)(i:Int):Option Nat:=if 0<=i then (if i < n then some i.toNat else none) else if -(n:Int)<=i then some (i + n).toNat else none
def atI {α:Type}(xs:List α)(i:Int):Option α:=(ixN xs.length i).bind fun j=>xs[j]?
theorem aK8 {n:Nat}{i:Int}{j:Nat}(h:ixN n i=some j):seqIndex? i n=some j/\j < n/\-(n:Int)<=i/\i < n:=by
 unfold ixN at h
 by_cases h0:0<=i
 ·rw[if_pos h0] at h
  by_cases h1:i < n
  ·rw[if_pos h1] at h
   have e:i.toNat=j:=Option.some.inj h;exact⟨by rw[seqIndex_of h0 h1,e],by lia,by lia,h1⟩
  ·rw[if_neg h1] at h;cases h
 ·rw[if_neg h0] at h
  by_cases h1:-(n:Int)<=i
  ·rw[if_pos h1] at h
   have e:(i + n).toNat=j:=Option.some.inj h;exact⟨by rw[seqIndex_neg (by lia) h1,e],by lia,h1,by lia⟩
  ·rw[if_neg h1] at h;cases h
theorem au8 {α:Type}{xs:List α}{i:Int}{v:α}(h:atI xs i=some v):∃ j,seqIndex? i xs.length=some j/\xs[j]? = some v/\j < xs.length/\-(xs.length:Int)<=i/\i < xs.length:=by
 unfold atI at h
 cases e:ixN xs.length i with
 | none=>rw[e] at h;cases h
 | some j =>
  rw[e] at h;obtain⟨h1,h2,h3,h4⟩:=aK8 e;exact⟨j,h1,h,h2,h3,h4⟩
theorem A0 {α:Type}{xs:List α}{j:Nat}{v:α}(h:xs[j]? = some v):atI xs (j:Int)=some v:=by
 have hj:j < xs.length:=(List.getElem?_eq_some_iff.mp h).1
 have e:ixN xs.length (j:Int)=some j:=by
  unfold ixN;rw[if_pos (by lia),if_pos (by lia)];simp
 unfold atI;rw[e];exact h
def a_5 (b:Expr):Prop:=∀ o i,subscripted b false o i=operate [o,i] (getItem o i)
def IxR (X:Cx)(r:R2):Prop :=
 ∀(value slice:Expr)(pins:List (Addr×Obj))(s:Shared)(σ:St)(H:Hp)(x y:V)(v u:Value)(Q:VK),Inv X pins σ H s->o5 x v->o5 y u->r x y H Q ->
  subscripted slice false v u=operate [v,u] (getItem v u)->wpAny (model X.prog X.w) X.A (subscriptTail value slice v u) (EP X pins σ Q) X.xe s
def MtR (X:Cx)(id:String)(r:V->List V->Hp->VK->Prop):Prop :=
 ∀(pins:List (Addr×Obj))(s:Shared)(σ:St)(H:Hp)(x:V)(xs:List V)(v:Value)(us:List Value)(Q:VK),Inv X pins σ H s->o5 x v->j9 xs us->r x xs H Q ->
  wpAny (model X.prog X.w) X.A (call (.builtin id) (v::us)) (EP X pins σ Q) X.xe s
section
variable {X:Cx}{a b:Expr}{ta tb:TE}{pos:Pos}
theorem IxR.or {r r':R2}(h:IxR X r)(h':IxR X r'):IxR X (fun x y H Q=>r x y H Q\/r' x y H Q):=by
 intro value slice pins s σ H x y v u Q I rx ry q hs
 rcases q with q | q
 ·exact h value slice pins s σ H x y v u Q I rx ry q hs
 ·exact h' value slice pins s σ H x y v u Q I rx ry q hs
theorem j3 {r:R2}(hr:IxR X r)(ha:PE X a ta)(hb:PE X b tb)(hs:a_5 b):PE X (.Subscript a b pos) (tOp r ta tb):=by
 intro pins s σ H Q I h
 exact Subscript_ (bd9 ha hb I h fun v u s2 x y H2 I2 rx ry q=>hr a b pins s2 σ H2 x y v u Q I2 rx ry q (hs _ _))
def a61 (K:Frag):R2:=fun x y H Q=>∃ p xs i v,x=.ref p/\y=.int i/\SqL K H p xs/\atI xs i=some v/\Q v H
def bf9 (K:Frag):R2:=fun x y H Q=>∃ p xs i v,x=.ref p/\y=.int i/\SqT K H p xs/\atI xs i=some v/\Q v H
def bk4:R2:=fun x y H Q=>∃ z i c,x=.str z/\y=.int i/\z.length<=sizeLine/\atI z.cps.toList i=some c/\Q (.str ⟨#[c]⟩) H
theorem aK2:IxR X (a61 X.K):=by
 intro value slice pins s σ H x y v u Q I rx ry h hs
 obtain⟨p,xs,i,z,rfl,rfl,hq,he,q⟩:=h
 cases rx
 obtain⟨t,rfl⟩:=ry;obtain⟨its,r,pl,hz⟩:=I.list hq;obtain⟨j,h1,h2,h3,h4,h5⟩:=au8 he;obtain⟨w,ew,rw'⟩:=r.get h2;have hl:=r.length;have hn:=U6;have fin:EP X pins σ Q w s:=⟨z,H,I,rw',q⟩
 by_cases h0:0<=i
 ·have hj:i.toNat=j:=by
   rw[seqIndex_of h0 h5] at h1;exact Option.some.inj h1
  exact item_listR pl.isList h0 (by lia) (by rw[hj];simpa using ew) fin hs
 ·have hj:(i + (its.toArray.size:Int)).toNat=j:=by
   rw[seqIndex_neg (by lia) h4] at h1
   rw[size_toArray,<- hl];exact Option.some.inj h1
  exact subscriptTail_builtinR (x:=w) pl.isList.typeIs slot_list_getitem.lookup
   (wpAny_getItem_list_neg (Q:=fun r s'=>r=w/\EP X pins σ Q r s') pl.isList (by lia) (by rw[size_toArray] <;> lia) (by lia) (by rw[hj];simpa using ew) ⟨rfl,fin⟩) hs
theorem aY7:IxR X (bf9 X.K):=by
 intro value slice pins s σ H x y v u Q I rx ry h hs
 obtain⟨p,xs,i,z,rfl,rfl,hq,he,q⟩:=h
 cases rx
 obtain⟨t,rfl⟩:=ry;obtain⟨its,r,pl,hz⟩:=I.tuple hq;obtain⟨j,h1,h2,h3,h4,h5⟩:=au8 he;obtain⟨w,ew,rw'⟩:=r.get h2;have hl:=r.length;have hn:=U6;have fin:EP X pins σ Q w s:=⟨z,H,I,rw',q⟩
 exact subscriptTail_builtinR (x:=w) pl.typeIs slot_tuple_getitem.lookup
  (getItem_tuple (j:=j) (Q:=fun r s'=>r=w/\EP X pins σ Q r s') pl (by lia) (by lia) (by rw[size_toArray,<- hl];exact h1) (by simpa using ew) ⟨rfl,fin⟩) hs
theorem bc4:IxR X bk4:=by
 intro value slice pins s σ H x y v u Q I rx ry h hs
 obtain⟨z,i,c,rfl,rfl,hz,he,q⟩:=h;obtain⟨t,rfl⟩:=rx;obtain⟨t',rfl⟩:=ry;obtain⟨j,h1,h2,h3,h4,h5⟩:=au8 he;have hl:z.cps.toList.length=z.length:=by simp[Str.length]
 rw[hl] at h1 h4 h5;have hn:=U6
 exact tail_any (typeIs_str s z t) slot_str_getitem.lookup (getItem_str (c:=c) (by
  have e1:decide (i < -(2 ^ 63:Int))=false:=decide_eq_false (by lia)
  have e2:decide (i ≥ 2 ^ 63)=false:=decide_eq_false (by lia)
  rw[e1,e2,Bool.or_false]) (by rw[h1];simpa using h2) ⟨.str ⟨#[c]⟩,H,I.tok _,⟨_,rfl⟩,q⟩) hs
def rIx (K:Frag):R2:=fun x y H Q=>a61 K x y H Q\/bf9 K x y H Q\/bk4 x y H Q
theorem aV2:IxR X (rIx X.K):=aK2.or (aY7.or bc4)
theorem aF1 (its:List Value)(n j:Nat)(u:Value):Obj.mapSeq (·.setIfInBounds j u) { cls:=.type "list",data:=.seq its.toArray n } = { cls:=.type "list",data:=.seq (its.set j u).toArray n }:=by
 simp[Obj.mapSeq]
theorem Inv.lst {pins:List (Addr×Obj)}{σ:St}{H:Hp}{s:Shared}{p:Addr}{xs:List V}(I:Inv X pins σ H s)(h:H p=some (.lst xs)) :
  ∃(its:List Value)(n:Nat),j9 xs its/\s.heap.get? p=some { cls:=.type "list",data:=.seq its.toArray n }/\xs.length<=sizeLine:=by
 obtain⟨z,its,n,r,e⟩:=I.hok p _ h;exact⟨its,n,r,e,z⟩
theorem Inv.lstUpd {pins:List (Addr×Obj)}{σ:St}{H:Hp}{s:Shared}{p:Addr}{xs ys:List V}{its its':List Value}{n n':Nat}{f:Obj->Obj}(I:Inv X pins σ H s)(h:H p=some (.lst xs))
  (ho:s.heap.get? p=some { cls:=.type "list",data:=.seq its.toArray n })(hf:f { cls:=.type "list",data:=.seq its.toArray n } = { cls:=.type "list",data:=.seq its'.toArray n' })(r:j9 ys its')(hz:ys.length<=sizeLine)(t:Nat) :
  Inv X pins σ (upd H p (.lst ys)) { s with heap:=s.heap.update p f,toks:=t }:=by
 have e:(s.heap.update p f).get? p=some { cls:=.type "list",data:=.seq its'.toArray n' }:=by
  rw[Heap.get?_update_self f ho (by rw[hf] <;> rfl),hf]
 refine I.write (x:=p) (e:=p) (by rw[h];trivial) (.inl rfl) (fun b u hb q=>(Heap.get?_update_other _ _ (Ne.symm hb)).trans q) ⟨_,e⟩ ?_
 exact⟨hz,its',n',r,e⟩
def bh7:V->V->V->Hp->(Hp->Prop)->Prop:=fun o i v H Q=>∃ p xs k j,o=.ref p/\i=.int k/\H p=some (.lst xs)/\ixN xs.length k=some j/\Q (upd H p (.lst (xs.set j v)))
theorem aa3:a88 X bh7:=by
 intro pins s σ H o i v ov iv u Q I ro ri rv h
 obtain⟨p,xs,k,j,rfl,rfl,hp,hj,q⟩:=h
 cases ro
 obtain⟨t,rfl⟩:=ri;obtain⟨its,n,r,ho,hz⟩:=I.lst hp;obtain⟨h1,h2,h3,h4⟩:=aK8 hj;have hl:=r.length;have hn:=U6
 have I':Inv X pins σ (upd H p (.lst (xs.set j v))) { s with heap:=s.heap.update p (Obj.mapSeq (·.setIfInBounds j u)) } :=
  I.lstUpd hp ho (aF1 its n j u) (r.set rv j) (by rw[List.length_set];exact hz) s.toks
 by_cases h0:0<=k
 ·have hk:k.toNat=j:=by
   rw[seqIndex_of h0 h4] at h1;exact Option.some.inj h1
  exact PySem.W.ki_setAt ho h0 (by lia) (by rw[size_toArray,<- hl];exact h4) (by rw[hk];exact⟨_,I',q⟩)
 ·have hk:(k + (its.toArray.size:Int)).toNat=j:=by
   rw[seqIndex_neg (by lia) h3] at h1
   rw[size_toArray,<- hl];exact Option.some.inj h1
  exact PySem.W.ki_setBack ho (by lia) (by rw[size_toArray,<- hl];exact h3) (by lia) (by rw[hk];exact⟨_,I',q⟩)
theorem aq3 (lo hi:Option Int)(n:Nat):(sliceBounds lo hi none n).1=((HT.sIx n 0 lo:Nat):Int)/\(sliceBounds lo hi none n).2.1=((HT.sIx n n hi:Nat):Int)/\(sliceBounds lo hi none n).2.2=1:=by
 refine⟨?_,?_,rfl⟩
 ·cases lo with
  | none=>simp[sliceBounds,HT.sIx]
  | some i =>
   simp only[sliceBounds,HT.sIx,Option.getD_none,show(1:Int) > 0 by decide,if_true]
   by_cases h:i < 0
   ·simp only[h,if_true] <;> lia
   ·simp only[h,if_false] <;> lia
 ·cases hi with
  | none=>simp[sliceBounds,HT.sIx]
  | some i =>
   simp only[sliceBounds,HT.sIx,Option.getD_none,show(1:Int) > 0 by decide,if_true]
   by_cases h:i < 0
   ·simp only[h,if_true] <;> lia
   ·simp only[h,if_false] <;> lia
theorem am0 (its:List Value)(lo hi:Option Int):slicePick its.toArray lo hi none=((its.drop (HT.sIx its.length 0 lo)).take (HT.sIx its.length its.length hi - HT.sIx its.length 0 lo)).toArray:=by
 obtain⟨h1,h2,h3⟩:=aq3 lo hi its.toArray.size;unfold slicePick;rw[h1,h2,h3]
 simp only[sliceRange_one,pick_run,size_toArray] <;> rfl
def bi2 (K:Frag):V->Option Int->Option Int->Hp->VK->Prop:=fun x lo hi H Q=>∃ a xs,x=.ref a/\SqL K H a xs/\∀ p,H p=none->Q (.ref p) (upd H p (.lst (N2 xs lo hi)))
theorem a64:SlR X (bi2 X.K):=by
 intro pins s σ H x v vl vu lo hi sl Q I rx hs pl pu h
 obtain⟨a,xs,rfl,hx,q⟩:=h
 cases rx
 obtain⟨its,r,ht,hz⟩:=I.list hx;have hlen:=r.length;refine⟨"list",_,slot_list_getitem.lookup,ht.isList.typeIs,?_⟩;refine wpAny_getItem_list_slice ht.isList hs pl pu .none (by simp) ?_ (by rw[size_toArray] <;> lia)
 rw[am0,<- hlen];refine⟨.ref s.heap.objs.size,_,I.laid (t':=s.toks) (o:=.lst (N2 xs lo hi)) (fun b ob q=>Heap.get?_push_of_some _ q) (Nat.le_refl _) ?_,rfl,q _ (I.hok.fresh (Nat.le_refl _))⟩;exact⟨Nat.le_trans (ax8 xs lo hi) hz,_,0,(r.drop (HT.sIx xs.length 0 lo)).take (HT.sIx xs.length xs.length hi - HT.sIx xs.length 0 lo),Heap.get?_push_size _ rfl⟩
def aa0:V->Bool
 | .non=>true
 | .bl _=>true
 | .int _=>true
 | .str _=>true
 | _=>false
def eqV:V->V->Bool
 | .non,.non=>true
 | .bl a,.bl b=>a == b
 | .bl a,.int b=>(if a then 1 else 0) == b
 | .int a,.bl b=>a == (if b then 1 else 0)
 | .int a,.int b=>a == b
 | .str a,.str b=>a == b
 | _,_=>false
theorem bd2 {A:Around}{s:Shared}{y x:V}{u v:Value}(ry:o5 y u)(rx:o5 x v)(fy:aa0 y=true)(fx:aa0 x=true):SeqAt.EqAt A s u v (eqV y x):=by
 cases y with
 | non =>
  cases ry
  cases x with
  | non=>cases rx;exact SeqAt.EqAt.same _
  | bl b=>cases rx;exact SeqAt.EqAt.none_bool b
  | int b=>obtain⟨t,rfl⟩:=rx;exact SeqAt.EqAt.none_int b t
  | str b=>obtain⟨t,rfl⟩:=rx;exact SeqAt.EqAt.none_str b t
  | _=>exact absurd (show false=true from fx) Bool.false_ne_true
 | bl a =>
  cases ry
  cases x with
  | non=>cases rx;exact SeqAt.EqAt.bool_none a
  | bl b=>cases rx;exact SeqAt.EqAt.bool_bool a b
  | int b=>obtain⟨t,rfl⟩:=rx;exact SeqAt.EqAt.bool_int a b t
  | str b=>obtain⟨t,rfl⟩:=rx;exact SeqAt.EqAt.bool_str a b t
  | _=>exact absurd (show false=true from fx) Bool.false_ne_true
 | int a =>
  obtain⟨t',rfl⟩:=ry
  cases x with
  | non=>cases rx;exact SeqAt.EqAt.int_none a t'
  | bl b=>cases rx;exact SeqAt.EqAt.int_bool a t' b
  | int b=>obtain⟨t,rfl⟩:=rx;exact SeqAt.EqAt.int_int a t' b t
  | str b=>obtain⟨t,rfl⟩:=rx;exact SeqAt.EqAt.int_str a t' b t
  | _=>exact absurd (show false=true from fx) Bool.false_ne_true
 | str a =>
  obtain⟨t',rfl⟩:=ry
  cases x with
  | non=>cases rx;exact SeqAt.EqAt.str_none a t'
  | bl b=>cases rx;exact SeqAt.EqAt.str_bool a t' b
  | int b=>obtain⟨t,rfl⟩:=rx;exact SeqAt.EqAt.str_int a t' b t
  | str b=>obtain⟨t,rfl⟩:=rx;exact SeqAt.EqAt.str_str a t' b t
  | _=>exact absurd (show false=true from fx) Bool.false_ne_true
 | _=>exact absurd (show false=true from fy) Bool.false_ne_true
def eqU (x:V)(u:Value):Bool:=match u with
 | .none=>eqV .non x
 | .bool b=>eqV (.bl b) x
 | .int i _=>eqV (.int i) x
 | .str z _=>eqV (.str z) x
 | _=>false
theorem aZ6 {x y:V}{u:Value}(r:o5 y u)(f:aa0 y=true):eqU x u=eqV y x:=by
 cases y with
 | non=>cases r;rfl
 | bl b=>cases r;rfl
 | int i=>obtain⟨t,rfl⟩:=r;rfl
 | str z=>obtain⟨t,rfl⟩:=r;rfl
 | _=>exact absurd (show false=true from f) Bool.false_ne_true
theorem aa7 {x:V}:∀{xs:List V}{us:List Value},j9 xs us->xs.all aa0=true->us.any (eqU x)=xs.any fun y=>eqV y x
 | _,_,.nil,_=>rfl
 | y::xs,u::us,.cons r t,f=>by
  rw[List.all_cons,Bool.and_eq_true] at f;rw[List.any_cons,List.any_cons,aZ6 r f.1,aa7 t f.2]
theorem V5 {A:Around}{s:Shared}{x:V}{v:Value}(rx:o5 x v)(fx:aa0 x=true):∀{xs:List V}{us:List Value},j9 xs us->xs.all aa0=true->∀ u∈us,SeqAt.EqAt A s u v (eqU x u)
 | _,_,.nil,_=>fun u hu=>by cases hu
 | y::xs,u::us,.cons r t,f=>fun u' hu=>by
  rw[List.all_cons,Bool.and_eq_true] at f
  rcases mem_cons.mp hu with rfl | hu
  ·rw[aZ6 r f.1];exact bd2 r rx f.1 fx
  ·exact V5 rx fx t f.2 u' hu
def inV (x:V)(xs:List V):Bool:=xs.any fun y=>eqV y x
def rIn (K:Frag)(neg:Bool):R2:=fun x y H Q=>∃ p xs,y=.ref p/\(SqL K H p xs\/SqT K H p xs)/\aa0 x=true/\xs.all aa0=true/\Q (.bl (if neg then !inV x xs else inV x xs)) H
theorem aO7:OpR X (compareOp .In) (rIn X.K false):=by
 intro pins s σ H x y v u Q I rx ry h
 obtain⟨p,xs,rfl,hq,fx,fs,q⟩:=h
 cases ry
 rcases hq with hq | hq
 ·obtain⟨its,r,pl,hz⟩:=I.list hq
  refine SeqAt.in_listAt (eqU x) pl.isList (fun w hw=>V5 rx fx r fs w (by simpa using hw)) ⟨.bl _,H,I,rfl,?_⟩
  rw[show its.toArray.any (eqU x)=its.any (eqU x) by simp,aa7 r fs]
  exact q
 ·obtain⟨its,r,pl,hz⟩:=I.tuple hq
  refine SeqAt.in_tupleAt (eqU x) pl (fun w hw=>V5 rx fx r fs w (by simpa using hw)) ⟨.bl _,H,I,rfl,?_⟩
  rw[show its.toArray.any (eqU x)=its.any (eqU x) by simp,aa7 r fs]
  exact q
theorem aq0:OpR X (compareOp .NotIn) (rIn X.K true):=by
 intro pins s σ H x y v u Q I rx ry h
 obtain⟨p,xs,rfl,hq,fx,fs,q⟩:=h
 cases ry
 rcases hq with hq | hq
 ·obtain⟨its,r,pl,hz⟩:=I.list hq
  refine SeqAt.notIn_listAt (eqU x) pl.isList (fun w hw=>V5 rx fx r fs w (by simpa using hw)) ⟨.bl _,H,I,rfl,?_⟩
  rw[show its.toArray.any (eqU x)=its.any (eqU x) by simp,aa7 r fs]
  exact q
 ·obtain⟨its,r,pl,hz⟩:=I.tuple hq
  refine SeqAt.notIn_tupleAt (eqU x) pl (fun w hw=>V5 rx fx r fs w (by simpa using hw)) ⟨.bl _,H,I,rfl,?_⟩
  rw[show its.toArray.any (eqU x)=its.any (eqU x) by simp,aa7 r fs]
  exact q
theorem au7:z7 X (.builtin "len") (fun xs H Q=>∃ p ys,xs=[.ref p]/\(SqL X.K H p ys\/SqT X.K H p ys)/\Q (.int ys.length) H):=by
 intro pins s σ H xs us Q I r h
 obtain⟨p,ys,rfl,hq,q⟩:=h;obtain⟨u,rfl,rx⟩:=K5 r
 cases rx
 have hn:=U6
 rcases hq with hq | hq
 ·obtain⟨its,r',pl,hz⟩:=I.list hq
  have hlen:=r'.length;exact Calls.call_len_list pl.isList (by simp only[size_toArray] <;> lia) ⟨.int ys.length,H,I.tok _,⟨s.toks + 1,by rw[size_toArray,hlen]⟩,q⟩
 ·obtain⟨its,r',pl,hz⟩:=I.tuple hq
  have hlen:=r'.length;exact len_tuple pl (by simp only[size_toArray] <;> lia) ⟨.int ys.length,H,I.tok _,⟨s.toks + 1,by rw[size_toArray,hlen]⟩,q⟩
theorem as0:z7 X (.type "list") (fun xs H Q=>∃ p ys,xs=[.ref p]/\(SqL X.K H p ys\/SqT X.K H p ys)/\∀ l,H l=none->Q (.ref l) (upd H l (.lst ys))):=by
 intro pins s σ H xs us Q I r h
 obtain⟨p,ys,rfl,hq,q⟩:=h;obtain⟨u,rfl,rx⟩:=K5 r
 cases rx
 have fin:∀(its:List Value),j9 ys its->ys.length<=sizeLine->∀(h':Heap)(c':Nat),(∀ b o',s.heap.get? b=some o'->h'.get? b=some o') ->
   h'.get? s.heap.objs.size=some { cls:=.type "list",dict:=none,data:=.seq its.toArray c',slots:=#[] }->EP X pins σ Q (.ref s.heap.objs.size) { s with heap:=h' }:=fun its r' hz h' c' kp e =>
  ⟨.ref s.heap.objs.size,_,I.laid (t':=s.toks) kp (Nat.le_refl _) (show p6 X.prog X.w _ h' _ (.lst ys) from⟨hz,its,c',r',e⟩),rfl,q _ (I.hok.fresh (Nat.le_refl _))⟩
 rcases hq with hq | hq
 ·obtain⟨its,r',pl,hz⟩:=I.list hq
  have hlen:=r'.length;obtain⟨o,ho,hc,n,hd⟩:=pl.isList;exact call_list_seq p (.inl rfl) ho hc hd (fun h' c' kp e=>fin its r' hz h' c' kp e) (by simp only[size_toArray] <;> lia)
 ·obtain⟨its,r',pl,hz⟩:=I.tuple hq
  have hlen:=r'.length;obtain⟨o,ho,hc,n,hd⟩:=pl;exact call_list_seq p (.inr rfl) ho hc hd (fun h' c' kp e=>fin its r' hz h' c' kp e) (by simp only[size_toArray] <;> lia)
theorem al0:z7 X (.type "tuple") (fun xs H Q=>∃ p ys,xs=[.ref p]/\((SqL X.K H p ys/\∀ l,H l=none->Q (.ref l) (upd H l (.tup ys)))\/(SqT X.K H p ys/\Q (.ref p) H))):=by
 intro pins s σ H xs us Q I r h
 obtain⟨p,ys,rfl,h⟩:=h;obtain⟨u,rfl,rx⟩:=K5 r
 cases rx
 rcases h with⟨hq,q⟩ | ⟨hq,q⟩
 ·obtain⟨its,r',pl,hz⟩:=I.list hq
  have hlen:=r'.length;refine call_tuple_list pl.isList (fun h' kp=>?_) (by simp only[size_toArray] <;> lia)
  have I1:Inv X pins σ H { s with heap:=h' }:=I.kept (t':=s.toks) kp
  have I2:Inv X pins σ (upd H h'.objs.size (.tup ys)) { s with heap:=h'.push { cls:=.type "tuple",data:=.seq its.toArray } } :=
   I1.laid (t':=s.toks) (fun b o e=>Heap.get?_push_of_some _ e) (Nat.le_refl _) (show p6 X.prog X.w _ _ _ (.tup ys) from⟨hz,its,r',IsTup.new _ _⟩)
  exact⟨.ref h'.objs.size,_,I2,rfl,q _ (I1.hok.fresh (Nat.le_refl _))⟩
 ·obtain⟨its,r',pl,hz⟩:=I.tuple hq
  exact call_tuple_same pl ⟨.ref p,H,I,rfl,q⟩
def tyV (K:Frag)(T:String)(x:V)(H:Hp):Prop:=match x with
 | .str _=>T = "str"
 | .int _=>T = "int"
 | .ref p=>(T = "list"/\∃ xs,SqL K H p xs)\/(T = "tuple"/\∃ o,K.lookup p=some o/\o.cls=.type "tuple"/\o.dict=none) \/
   (T = "dict"/\((∃ kvs,H p=some (.dK kvs))\/∃ kvs,H p=some (.dT kvs)))\/(T = "set"/\∃ S n,H p=some (.set S n))
 | _=>False
theorem aT7 {pins:List (Addr×Obj)}{σ:St}{H:Hp}{s:Shared}{T:String}{x:V}{v:Value}(I:Inv X pins σ H s)(r:o5 x v)(ty:tyV X.K T x H) :
  s.TypeIs v T/\∀ a,v=.ref a->∃ ob,s.heap.get? a=some ob/\ob.dict=none:=by
 cases x with
 | str z =>
  obtain⟨t,rfl⟩:=r
  cases (show T = "str" from ty)
  exact⟨typeIs_str s z t,fun _ e=>nomatch e⟩
 | int i =>
  obtain⟨t,rfl⟩:=r
  cases (show T = "int" from ty)
  exact⟨typeIs_int s i t,fun _ e=>nomatch e⟩
 | ref p =>
  cases r
  rcases ty with⟨rfl,xs,hq⟩ | ⟨rfl,o,hk,hc,hd⟩ | ⟨rfl,hk⟩ | ⟨rfl,S,n,hk⟩
  ·obtain⟨its,_,pl,_⟩:=I.list hq
   refine⟨pl.isList.typeIs,fun a e=>?_⟩
   cases e
   obtain⟨o,n,e,c,hd,_⟩:=pl;exact⟨o,e,hd⟩
  ·refine⟨⟨o,I.kIn p o hk,hc⟩,fun a e=>?_⟩
   cases e
   exact⟨o,I.kIn _ o hk,hd⟩
  ·have z:∃ o,s.heap.get? p=some o/\o.ExactDict:=by
    rcases hk with⟨kvs,hk⟩ | ⟨kvs,hk⟩
    ·obtain⟨_,_,_,_,o,_,_,e,ex,_⟩:=I.hok p _ hk
     exact⟨o,e,ex⟩
    ·obtain⟨_,_,_,_,o,_,_,e,ex,_⟩:=I.hok p _ hk
     exact⟨o,e,ex⟩
   obtain⟨o,e,ex⟩:=z;refine⟨⟨o,e,ex.1⟩,fun a e2=>?_⟩
   cases e2
   exact⟨o,e,ex.2.1⟩
  ·obtain⟨o,_,_,_,e,ex,_⟩:=I.hok p _ hk
   refine⟨⟨o,e,ex.1⟩,fun a e2=>?_⟩
   cases e2
   exact⟨o,e,ex.2.1⟩
 | _=>exact False.elim ty
def bm4 (K:Frag)(T:String)(r:V->List V->Hp->VK->Prop)(to:TE):TE:=fun σ H Q=>to σ H fun x H1=>tyV K T x H1/\r x [] H1 Q
def tBM (K:Frag)(T:String)(r:V->List V->Hp->VK->Prop)(to:TE)(t:TA):TE:=fun σ H Q=>to σ H fun x H1=>tyV K T x H1/\t σ H1 fun xs H2=>r x xs H2 Q
variable {o e:Expr}{es:List Expr}{to:TE}{t:TA}{name:Str}{apos cpos:Pos}{T id:String}{r:V->List V->Hp->VK->Prop}
theorem bc3 (pa:PlainAttrs T)(slot:Slot T name id)(hty:typeOf (.builtin id)=pure (.type "method_descriptor"))(hm:MtR X id r)(ho:PE X o to)
  (hbase:attributeBase o name X.env (eval o X.env)=eval o X.env:=by rfl)(hline:(apos.endLine == cpos.line)=true:=by rfl):PE X (.Call (.Attribute o name apos) [] [] cpos) (bm4 X.K T r to):=by
 intro pins s σ H Q I h
 refine wpAny_Call_method0_late hbase hline (thn (ho pins s σ H _ I h) fun v s1 ⟨x,H1,I1,r1,ty,q1⟩=>?_);obtain⟨h1,h2⟩:=aT7 I1 r1 ty;exact⟨T,id,pa,slot,hty,h1,h2,Calls.callWith_builtin rfl (PySem.evalArgs_none (hm pins s1 σ H1 x [] v [] Q I1 r1 .nil q1))⟩
theorem bi5 (pa:PlainAttrs T)(slot:Slot T name id)(hty:typeOf (.builtin id)=pure (.type "method_descriptor"))(hm:MtR X id r)(ho:PE X o to)(ha:PA X (e::es) t)
  (hbase:attributeBase o name X.env (eval o X.env)=eval o X.env:=by rfl)
  (hfew:((backTo cpos (starEach (e::es) X.env)).all (fun x=>!x.1)&&(backToKw cpos (keywordEach [] X.env)).all (fun x=>x.1.isSome)
  &&decide ((e::es).length + ([]:List Keyword).length + (if ([]:List Keyword).isEmpty then 0 else 1) < 30))=true:=by rfl)
  (hline:(apos.endLine == cpos.line)=true:=by rfl) (hs:starEach (e::es) X.env=(false,eval e X.env)::starEach es X.env:=by rfl) (hplain:(backTo cpos (starEach es X.env)).any (·.1)=false:=by rfl) :
  PE X (.Call (.Attribute o name apos) (e::es) [] cpos) (tBM X.K T r to t):=by
 intro pins s σ H Q I h
 refine wpAny_Call_method_late hbase hfew hline rfl (thn (ho pins s σ H _ I h) fun v s1 ⟨x,H1,I1,r1,ty,q1⟩=>?_);obtain⟨h1,h2⟩:=aT7 I1 r1 ty;refine⟨T,id,pa,slot,hty,h1,h2,?_⟩;have hA:=ha cpos pins s1 σ H1 _ I1 q1;rw[hs] at hA ⊢;refine Calls.callWith_builtin (by show(false || (backTo cpos (starEach es X.env)).any (·.1))=false;rw[hplain] <;> rfl) (Calls.evalArgs_plain ?_)
 exact thn hA fun us s2 ⟨vs,H2,I2,r2,q2⟩=>hm pins s2 σ H2 x vs v us Q I2 r1 r2 q2
end
def MtM (X:Cx)(id:String)(r:V->List V->Hp->VK->Prop):Prop :=
 ∀(pins:List (Addr×Obj))(s:Shared)(σ:St)(H:Hp)(x:V)(xs:List V)(v:Value)(us:List Value)(Q:VK),Inv X pins σ H s->o5 x v->j9 xs us->r x xs H Q ->
  wpAny (model X.prog X.w) X.A (call (.builtin id) (v::us)) (EP X pins σ Q) X.xe s
theorem j9.one:∀{x:V}{us:List Value},j9 [x] us->∃ u,us=[u]/\o5 x u
 | _,_,.cons r .nil=>⟨_,rfl,r⟩
theorem j9.zero:∀{us:List Value},j9 [] us->us=[]
 | _,.nil=>rfl
theorem j9.eraseIdx:∀{xs:List V}{us:List Value}(i:Nat),j9 xs us->j9 (xs.eraseIdx i) (us.eraseIdx i)
 | _,_,_,.nil=>.nil
 | _,_,0,.cons _ t=>t
 | _,_,i + 1,.cons r t=>.cons r (j9.eraseIdx i t)
theorem j9.reverse {xs:List V}{us:List Value}(h:j9 xs us):j9 xs.reverse us.reverse:=by
 induction h with
 | nil=>exact .nil
 | cons r t ih=>rw[reverse_cons,reverse_cons];exact j9.append ih (.cons r .nil)
theorem j9.rep {xs:List V}{us:List Value}(h:j9 xs us):∀ k:Nat,j9 (List.replicate k xs).flatten (List.replicate k us).flatten
 | 0=>.nil
 | k + 1=>by
  rw[replicate_succ,replicate_succ,flatten_cons,flatten_cons];exact j9.append h (j9.rep h k)
theorem ap7 {α:Type}:∀(l:List α)(i:Nat),(l.eraseIdx i).length<=l.length
 | [],_=>Nat.le_refl _
 | _::_,0=>Nat.le_succ _
 | _::r,i + 1=>Nat.succ_le_succ (ap7 r i)
theorem ao4 (its:List Value):∀(k:Nat)(acc:List Value),
  List.foldl (fun x1 x2=>x1++x2) acc.toArray (List.replicate k its.toArray)=(acc++(List.replicate k its).flatten).toArray
 | 0,acc=>by simp
 | k + 1,acc=>by
  have e:acc.toArray++its.toArray=(acc++its).toArray:=by simp
  have e2:(acc++its)++(List.replicate k its).flatten=acc++(List.replicate (k + 1) its).flatten:=by
   rw[replicate_succ,flatten_cons,List.append_assoc]
  rw[<- e2,<- ao4 its k (acc++its),<- e,replicate_succ,List.foldl_cons]
section
variable {X:Cx}{pins:List (Addr×Obj)}{σ:St}{H:Hp}{s:Shared}{l b:Addr}{xs ys zs:List V}
theorem Inv.lset {its its':List Value}{n:Nat}{f:Array Value->Array Value}{t':Nat}(I:Inv X pins σ H s)(hH:H l=some (.lst xs))
  (e:s.heap.get? l=some { cls:=.type "list",data:=.seq its.toArray n })(hf:f its.toArray=its'.toArray)(hv:j9 ys its')(hz:ys.length<=sizeLine) :
  Inv X pins σ (upd H l (.lst ys)) { s with heap:=s.heap.update l (Obj.mapSeq f),toks:=t' }:=by
 have q:=PySem.IsL.update e f;rw[hf] at q;refine I.write (x:=l) (e:=l) (by rw[hH];exact trivial) (.inl rfl) (fun b' u hb hu=>(Heap.get?_update_other s.heap (Obj.mapSeq f) (Ne.symm hb)).trans hu) ⟨_,q⟩ ?_
 exact⟨hz,its',_,hv,q⟩
theorem Inv.lnew {its:List Value}{t':Nat}(I:Inv X pins σ H s)(hv:j9 ys its)(hz:ys.length<=sizeLine) :
  Inv X pins σ (upd H s.heap.objs.size (.lst ys)) { s with heap:=s.heap.push { cls:=.type "list",data:=.seq its.toArray },toks:=t' } :=
 I.laid (fun _ _ q=>Heap.get?_push_of_some _ q) (Nat.le_refl _) ⟨hz,its,0,hv,Heap.get?_push_size _ rfl⟩
theorem Inv.fresh (I:Inv X pins σ H s):H s.heap.objs.size=none:=I.hok.fresh (Nat.le_refl _)
theorem Inv.lstM (I:Inv X pins σ H s)(hH:H l=some (.lst xs)):xs.length<=sizeLine/\∃(its:List Value)(n:Nat),j9 xs its/\xs.length=its.length/\s.heap.get? l=some { cls:=.type "list",data:=.seq its.toArray n }:=by
 obtain⟨z,its,n,r,e⟩:=I.hok l _ hH;exact⟨z,its,n,r,r.length,e⟩
theorem aV0 {n:Nat}(h:n<=sizeLine):Builtin.List.listTooLong n=false:=by
 unfold Builtin.List.listTooLong;exact decide_eq_false (by lia)
end
section
variable {X:Cx}
def aM0:V->List V->Hp->VK->Prop:=fun x vs H Q=>∃ l xs y,x=.ref l/\vs=[y]/\H l=some (.lst xs)/\xs.length < sizeLine/\Q .non (upd H l (.lst (xs++[y])))
theorem aN6:MtM X "list.append" aM0:=by
 intro pins s σ H x vs v us Q I rx rv h
 obtain⟨l,xs,y,rfl,rfl,hH,hz,q⟩:=h
 cases rx
 obtain⟨u,rfl,ru⟩:=rv.one;obtain⟨z,its,n,r,hl,e⟩:=I.lstM hH;refine call_meets F.slot_list_append ⟨_,e,rfl⟩ F.entry_list_append (F.args_list_append_2 _ _) (PySem.list_append l its.toArray n u (by rw[size_toArray];lia)) ⟨e,?_⟩
 refine⟨.non,_,I.lset (its':=its++[u]) hH e (by simp) (r.append (.cons ru .nil)) ?_,rfl,q⟩
 rw[length_append,length_singleton];lia
def aV1:V->List V->Hp->VK->Prop:=fun x vs H Q=>∃ l xs i k y,x=.ref l/\vs=[.int i]/\H l=some (.lst xs)/\-(2 ^ 63)<=i/\i < 2 ^ 63/\seqIndex? i xs.length=some k/\xs[k]? = some y/\Q y (upd H l (.lst (xs.eraseIdx k)))
theorem a04:MtM X "list.pop" aV1:=by
 intro pins s σ H x vs v us Q I rx rv h
 obtain⟨l,xs,i,k,y,rfl,rfl,hH,h1,h2,hk,hy,q⟩:=h
 cases rx
 obtain⟨u,rfl,ru⟩:=rv.one;obtain⟨t,rfl⟩:=ru;obtain⟨z,its,n,r,hl,e⟩:=I.lstM hH;obtain⟨w,hw,rw'⟩:=r.get hy
 refine call_meets F.slot_list_pop ⟨_,e,rfl⟩ F.entry_list_pop (F.args_list_pop_2 _ _)
  (MeetsSeq.list_pop_at l its.toArray n i t k w (fitsIndex_both h1 h2) (by rw[size_toArray,<- hl];exact hk) (by rw[<- Array.getElem?_toList];exact hw) (by rw[size_toArray];lia)) ⟨e,?_⟩
 refine⟨y,_,I.lset (its':=its.eraseIdx k) hH e ?_ (r.eraseIdx k) ?_,rw',q⟩
 ·show its.toArray.eraseIdxIfInBounds k=(its.eraseIdx k).toArray
  rw[List.eraseIdxIfInBounds_toArray]
 ·have:=ap7 xs k
  lia
def aB3:V->List V->Hp->VK->Prop:=fun x vs H Q=>∃ l xs,x=.ref l/\vs=[]/\H l=some (.lst xs)/\Q .non (upd H l (.lst xs.reverse))
theorem aH9:MtM X "list.reverse" aB3:=by
 intro pins s σ H x vs v us Q I rx rv h
 obtain⟨l,xs,rfl,rfl,hH,q⟩:=h
 cases rx
 have hus:=rv.zero;subst hus;obtain⟨z,its,n,r,hl,e⟩:=I.lstM hH;refine call_meets F.slot_list_reverse ⟨_,e,rfl⟩ F.entry_list_reverse (F.args_list_reverse_1 _) (AutoSeq1.list_reverse_list_0 l its.toArray n (by rw[size_toArray];lia)) ⟨e,?_⟩
 refine⟨.non,_,I.lset (its':=its.reverse) hH e (by simp) r.reverse ?_,rfl,q⟩
 rw[length_reverse];lia
def bh5:R2:=fun x y H Q=>∃ l b xs zs,x=.ref l/\y=.ref b/\H l=some (.lst xs)/\H b=some (.lst zs)/\xs.length + zs.length<=sizeLine/\∀ p,H p=none->Q (.ref p) (upd H p (.lst (xs++zs)))
theorem U0:OpR X (binaryOp .Add) bh5:=by
 intro pins s σ H x y v u Q I rx ry h
 obtain⟨l,b,xs,zs,rfl,rfl,hH,hB,hz,q⟩:=h
 cases rx
 cases ry
 obtain⟨z,its,n,r,hl,e⟩:=I.lstM hH;obtain⟨z2,its2,n2,r2,hl2,e2⟩:=I.lstM hB;refine PySem.P.add_list e e2 ?_ (by rw[size_toArray,size_toArray];lia)
 have ea:its.toArray++its2.toArray=(its++its2).toArray:=by simp
 rw[ea];exact⟨.ref _,_,I.lnew (t':=s.toks) (r.append r2) (by rw[length_append];lia),rfl,q _ I.fresh⟩
def bn0:R2:=fun x y H Q=>∃ l k xs,x=.ref l/\y=.int k/\H l=some (.lst xs)/\-(2 ^ 63)<=k/\k < 2 ^ 63/\xs.length * k.toNat<=sizeLine /\
 ∀ p,H p=none->Q (.ref p) (upd H p (.lst (List.replicate k.toNat xs).flatten))
theorem a52 {α:Type}(xs:List α)(k:Nat):(List.replicate k xs).flatten.length=k * xs.length:=by
 induction k with
 | zero=>simp
 | succ k ih=>rw[replicate_succ,flatten_cons,length_append,ih,Nat.succ_mul,Nat.add_comm]
theorem be8:OpR X (binaryOp .Mult) bn0:=by
 intro pins s σ H x y v u Q I rx ry h
 obtain⟨l,k,xs,rfl,rfl,hH,h1,h2,hz,q⟩:=h
 cases rx
 obtain⟨t,rfl⟩:=ry;obtain⟨z,its,n,r,hl,e⟩:=I.lstM hH;have hlen:its.toArray.size * k.toNat<=sizeLine:=by rw[size_toArray,<- hl];exact hz
 have hcap:¬ its.toArray.size * k.toNat > (2 ^ 63 - 1) / 8:=by
  have:(sizeLine:Nat)<=(2 ^ 63 - 1) / 8:=by decide
  lia
 have hfit:¬ (!Builtin.List.listFitsIndex k)=true:=by
  rw[fitsIndex_both h1 h2];exact Bool.false_ne_true
 have hlong:¬ Builtin.List.listTooLong (its.toArray.size * k.toNat)=true:=by
  rw[aV0 hlen];exact Bool.false_ne_true
 have hnew:List.foldl (fun x1 x2=>x1++x2) #[] (List.replicate (if its.toArray.isEmpty=true then 0 else k.toNat) its.toArray)=(List.replicate k.toNat its).flatten.toArray:=by
  have f0:∀ m:Nat,List.foldl (fun x1 x2=>x1++x2) #[] (List.replicate m its.toArray)=(List.replicate m its).flatten.toArray:=fun m=>by
   have:=ao4 its m []
   rw[List.nil_append] at this;exact this
  rw[f0]
  cases its with
  | nil=>simp
  | cons a r'=>rw[if_neg (by simp)]
 refine wpAny_binaryOp_repeat_ref (T:="list") (U:="int") (by decide) ⟨_,e,rfl⟩ (fun s'=>typeIs_int s' k t) noFill_list_mul F.fills_int_mul F.slot_int_rmul repeat_list F.slot_int_index.lookup
  (call_meets F.slot_int_rmul (typeIs_int s k t) F.entry_int_rmul (F.args_int_rmul_2 _ _) (int___rmul___int_list k t l its.toArray n)
   ⟨e,rfl,⟨_,e,rfl⟩,call_meets F.slot_list_mul ⟨_,e,rfl⟩ F.entry_list_mul (F.args_list_mul_2 _ _) (AutoListH.list___mul___list_int_3 l its.toArray n k t hfit hcap hlong) ⟨e,?_⟩⟩)
 rw[hnew];exact⟨.ref _,_,I.lnew (t':=s.toks) (r.rep k.toNat) (by rw[a52,Nat.mul_comm];exact hz),rfl,q _ I.fresh⟩
end
end L2
namespace Att
open PySem PySem.W PySem.Calls PyProof.Rows
theorem af1 {P:Params}{h:Heap}:∀(ns:List Int)(vs:List Value),WellAll P h vs (ns.map WData.int)->IntsAre vs ns:=by
 intro ns
 induction ns with
 | nil =>
  intro vs w
  rw[List.map_nil] at w
  cases w
  exact .nil
 | cons n ns ih =>
  intro vs w
  rw[map_cons] at w
  cases w with
  | cons a b =>
   cases a
   exact .cons _ _ (ih _ b)
theorem aP9 {l:OpenLaw}{n:Nat}(hn:l.most=some n){P:Params}{h:Heap}{args:List WData}{vals:List Value}
  (hpre:l.row.toRowW.claim.pre args=true)(hwl:WellAll P h vals args) :
  ∃ a vs ns,vals=[Value.ref a]/\args=[WData.list (ns.map WData.int)]/\h.get? a=some { cls:=.type "list",data:=.seq vs.toArray }/\IntsAre vs ns/\ns.length<=n:=by
 have hsh:WShape.hasAll [] args [.list .int]=true:=(pre_splitW hpre).1;have hc:l.pre.holds [] { args:=args }=true:=(pre_splitW hpre).2;obtain⟨d,r,rfl,h1,h2⟩:=hasAllW_cons hsh;obtain rfl:=hasAllW_nil h2;obtain⟨xs,rfl,h3⟩:=hasW_list h1;obtain⟨ns,rfl⟩:=items_int h3
 have hlen:ns.length<=n:=by
  unfold OpenLaw.pre at hc
  have h4:(WTm.not (.lt (.lit (.int (n:Int))) (.len (.arg 0)))).holds [] { args:=[.list (ns.map .int)] }=true:=by
   have h4:=(holds_andW hc).1;rw[hn] at h4;exact h4
  have h5:=condW_of h4 (w_not (w_lt w_lit (w_len_list (w_arg rfl))));rw[length_map] at h5;refine Nat.le_of_not_lt fun q=>?_;have q':(n:Int) < ((ns.length:Nat):Int):=by lia
  first
   | (rw[decide_eq_true q'] at h5;exact absurd h5 (by decide))
   | (simp at h5;lia)
 cases hwl with
 | cons w1 w2 =>
  cases w2
  cases w1 with
  | list ho hall=>exact⟨_,_,ns,rfl,rfl,ho,af1 ns _ hall,hlen⟩
theorem aQ1 (l:OpenLaw)(args:List WData):l.row.toRowW.claim.post args (.bool true) args=true :=
 postW_of (r:=l.row.toRowW) (X:=(true == true))
  (show WShape.has [] (.bool true) .bool=true by first | rfl | decide | simp[WShape.has,WShape.arms,WShape.armsAll])
  (show(WTm.eq .res (.lit (.bool true))).value [] { args:=args,res:=some (.bool true),after:=args }=some (.bool (true == true)) from w_eq_bool (w_res rfl) w_lit) rfl
theorem attach_call {l:OpenLaw}{n:Nat}{q:Program}{loose:List Str}{XP:(Str->Option Value)->Heap->Prop}{YP:World->Heap->Prop}{d:DefRec}
  (hn:l.most=some n)(hdf:d.params.defaults=[])
  (call:∀(w:World)(s₀ s₁:Shared)(mg mb:Str->Option Value)(fa:Addr)(o:Obj)(pm cd doc:Value)(a:Addr)(vs:List Value)(ns:List Int),
   Ground q loose [] XP w s₀ mg mb s₁.heap->YP w s₁.heap ->
   s₁.heap.get? fa=some o->o.data=.func (docDef d.name d.params d.body d.scope pm cd doc)->s₁.heap.CodeRec cd d.name->mg d.name=some (.ref fa) ->
   s₁.heap.get? a=some { cls:=.type "list",data:=.seq vs.toArray }->IntsAre vs ns->ns.length<=n->s₁.gens=#[] ->
   codeAny (model l.prog w) callerA (.call (.ref fa) ⟨[.ref a],[]⟩) (fun r s'=>r=.ok (.ret (.bool true))/\OldK s₁.heap s'.heap/\s'.os=s₁.os/\AllBare s'.gens) s₁) :
  WalkO q loose XP YP l.row.toRowW d [] (fun f vs=>PySem.call f vs):=by
 intro w s₀ s₁ mg mb G Y fa o pm cd doc dV kV ho hd hcd hD hmg hg args vals as hpre hlay hrd hwl hlo
 obtain rfl:dV=.none:=Dflts.none hD hdf;obtain rfl:kV=.none:=Dflts.noKw hD;obtain⟨a,vs,ns,rfl,rfl,hobj,hints,hlen⟩:=aP9 hn hpre hwl;refine enter_call (codeAny_mono (call w s₀ s₁ mg mb fa o pm cd doc a vs ns G Y ho (fd_plain hd) hcd hmg hobj hints hlen hg) fun r s' hq=>?_);obtain⟨rfl,h2,h3,h4⟩:=hq;exact⟨.inl ⟨.bool true,.bool true,[],rfl,fun _=>rfl,.bool true,aQ1 l _,fun _=>⟨List.Pairwise.nil,fun _ hm=>(nomatch hm)⟩⟩,h2,h3,h4⟩
end Att
namespace L2
open PySem PySem.Spec PyProof.Rows
theorem R3:∀{vs:List Value}{ns:List Int},IntsAre vs ns->j9 (ns.map V.int) vs
 | _,_,.nil=>.nil
 | _,_,.cons n t h=>.cons ⟨t,rfl⟩ (R3 h)
def j4 (s:Stmt)(j:Nat):Stmt:=match s with
 | .ClassDef _ _ _ body _ _ _ _ _ _ _=>body.getD j (.Pass ⟨0,0,0,0⟩)
 | _=>.Pass ⟨0,0,0,0⟩
def j2 (s:Stmt):Arguments:=match s with
 | .FunctionDef _ a _ _ _ _ _ _ _ _=>a
 | _=>{ posonlyargs:=[],args:=[],vararg:=none,kwonlyargs:=[],kw_defaults:=[],kwarg:=none,defaults:=[] }
def i3 (s:Stmt):List Stmt:=match s with
 | .FunctionDef _ _ b _ _ _ _ _ _ _=>b
 | _=>[]
def d7 (s:Stmt):Scope:=match s with
 | .FunctionDef _ _ _ _ _ _ sc _ _ _=>sc
 | _=>{ kind:=.function,names:=[],isGenerator:=false,isCoroutine:=false }
abbrev CX0:CXT:=fun _ _ _ _ _ _=>False
abbrev E0:XK:=fun _ _ _=>False
theorem aw7 {X:Cx}:X9 CX0 X E0:=fun _ _ _ _ _ _ _ h=>h.elim
structure Fun (K:Frag)(x qual:Str)(st:Stmt)(f:Addr)(fd:FuncData):Prop where
 ex:∃(oc:Value)(od:Option Addr)(kV doc pm:Value)(an:Option Addr)(cdv ct:Value)(osl:Array (Option Value)),
  fd=fnOf x qual (j2 st) (i3 st) (d7 st) .none kV doc pm an cdv ct/\K.lookup f=some ⟨oc,od,.func fd,osl⟩/\codeIn K cdv qual=true
 kp:keepIn K (.ref f)=true
section
variable {P:Program}{w:World}{K:Frag}{mg:Str->Option Value}{base:Heap}
theorem Fun.ok {x qual:Str}{st:Stmt}{f:Addr}{fd:FuncData}{N ps:List Str}{k:Nat}{sp:Sp}(F:Fun K x qual st f fd)(S:FnScope N ps (d7 st))(len:∀ vs H Q E,sp vs H Q E->vs.length=ps.length)
  (hbody:∀(cdv:Value)(A:Around)(outer:List Env)(s:Shared)(H:Hp)(vs:List V)(Q:VK)(E:XK),Room k (A.deeper (envOfC qual (d7 st) s.heap.objs.size f cdv))->sp vs H Q E ->
   ∃ t,PSs (N5 CX0 P w K mg base N qual (d7 st) f cdv A outer s H E).nox (i3 st) t/\t { nx:=fun _ H'=>Q .non H',rt:=Q } (start N vs) H):FnOk P w K mg base CX0 (k + 1) f fd ps sp:=by
 obtain⟨oc,od,kV,doc,pm,an,cdv,ct,osl,rfl,lk,hcd⟩:=F.ex;refine ap8 lk hcd S len fun A outer s H vs Q E hr hsp=>?_;obtain⟨t,h,q⟩:=hbody cdv A outer s H vs Q E hr hsp;exact⟨t,h.nox,q⟩
theorem aX1 {x qual:Str}{st:Stmt}{f:Addr}{oc:Value}{od an:Option Addr}{osl:Array (Option Value)}{kV doc pm cdv ct:Value}(l:K.lookup f=some ⟨oc,od,.func (fnOf x qual (j2 st) (i3 st) (d7 st) .none kV doc pm an cdv ct),osl⟩)
  (c:codeIn K cdv qual=true)(k:keepIn K (.ref f)=true):Fun K x qual st f (fnOf x qual (j2 st) (i3 st) (d7 st) .none kV doc pm an cdv ct):=⟨⟨oc,od,kV,doc,pm,an,cdv,ct,osl,rfl,l,c⟩,k⟩
end
theorem j6 {n:Nat}(h:n<=1000):n < sizeLine:=Nat.lt_of_le_of_lt h (by decide)
section
variable {X:Cx}
theorem pv (i:Nat){x:Str}{pos:Pos}(hN:X.N[i]? = some x:=by rfl)(hv:Vis X.env.scope x:=by first | exact Or.inl rfl | exact Or.inr (Or.inl rfl) | exact Or.inr (Or.inr rfl))(hd:(x == ("__debug__":Str))=false:=by decide)
  (hcd:(x == ("__classdict__":Str))=false:=by decide):PE X (.Name x pos) (bk1 i):=bf4 hN hv hd hcd
end
theorem B7 {A B:Prop}(h:B):if false=true then A else B:=by
 rw[if_neg Bool.false_ne_true];exact h
theorem M1 {A B:Prop}(h:A):if true=true then A else B:=by
 rw[if_pos rfl];exact h
theorem z8 {c A B:Prop} [Decidable c] (h1:c->A) (h2:¬ c->B):if c then A else B:=by
 by_cases h:c
 ·rw[if_pos h]
  exact h1 h
 ·rw[if_neg h]
  exact h2 h
def j0 (H H':Hp):Prop:=∀ b o,H b=some o->H' b=some o
theorem j0.refl (H:Hp):j0 H H:=fun _ _ h=>h
theorem j0.trans {H H1 H2:Hp}(a:j0 H H1)(b:j0 H1 H2):j0 H H2:=fun c o h=>b c o (a c o h)
theorem j0.free {H H':Hp}(e:j0 H H'){l:Addr}(h:H' l=Option.none):H l=Option.none:=by
 cases q:H l with
 | none=>rfl
 | some o =>
  rw[e l o q] at h
  cases h
theorem j0.seq {K:Frag}{H H':Hp}{a:Addr}{xs:List V}(e:j0 H H')(h:SqL K H a xs):SqL K H' a xs:=by
 rcases h with(h | ⟨o,h⟩) | h
 ·exact .inl (.inl (e _ _ h))
 ·exact .inl (.inr ⟨o,e _ _ h⟩)
 ·exact .inr h
theorem bd3 {a b:Key}(e:kV a=kV b):a=b:=by
 cases a with
 | inl i=>cases b with
  | inl j=>have e':V.int i=V.int j:=e;injection e' with e';rw[e']
  | inr y=>exact nomatch (show V.int i=V.str y from e)
 | inr x=>cases b with
  | inl j=>exact nomatch (show V.str x=V.int j from e)
  | inr y=>have e':V.str x=V.str y:=e;injection e' with e';rw[e']
section
variable {κ:Type} [DecidableEq κ]
theorem aI4:∀{l:List κ}{k:κ},l.Nodup->¬ k∈l->(l++[k]).Nodup
 | [],k,_,_=>by simp
 | a::r,k,h,hk=>by
  obtain⟨h1,h2⟩:=List.nodup_cons.mp h
  show(a::(r++[k])).Nodup
  refine List.nodup_cons.mpr ⟨fun m=>?_,aI4 h2 fun m=>hk (mem_cons.mpr (Or.inr m))⟩
  rcases List.mem_append.mp m with q | q
  ·exact h1 q
  ·exact hk (mem_cons.mpr (Or.inl (mem_singleton.mp q).symm))
end
end L2
set_option maxHeartbeats 1000000
namespace L2
open PySem PySem.Spec PyProof.Rows
theorem Y1 {scope:Scope}{env:Env}(h:∀ x,(x,NameKind.free)∈scope.names->∃ c,env.cells.lookup x=some c) :
  ∃ cl,closureFor scope env=pure cl/\(∀ x c,cl.lookup x=some c->env.cells.lookup x=some c)/\∀ x,(x,NameKind.free)∈scope.names->∃ c,cl.lookup x=some c:=by
 have go:∀(names:List (Str×NameKind))(acc:List (Str×Addr)),(∀ x,(x,NameKind.free)∈names->∃ c,env.cells.lookup x=some c)->(∀ x c,acc.lookup x=some c->env.cells.lookup x=some c) ->
   ∃ cl,(forIn names acc fun(p:Str×NameKind) (r:List (Str×Addr))=>if p.2 == .free then (do let a <- cellOf env p.1;pure (ForInStep.yield ((p.1,a)::r))) else pure (ForInStep.yield r):Sem (List (Str×Addr)))=pure cl /\
    (∀ x c,cl.lookup x=some c->env.cells.lookup x=some c)/\(∀ x c,acc.lookup x=some c->∃ c',cl.lookup x=some c')/\∀ x,(x,NameKind.free)∈names->∃ c,cl.lookup x=some c:=by
  intro names
  induction names with
  | nil=>intro acc _ ha;exact⟨acc,rfl,ha,fun x c e=>⟨c,e⟩,fun x z=>nomatch z⟩
  | cons p r ih =>
   intro acc hn ha
   obtain⟨n,k⟩:=p;rw[List.forIn_cons]
   cases hk:(k == NameKind.free) with
   | false =>
    obtain⟨cl,h1,h2,h3,h4⟩:=ih acc (fun x z=>hn x (mem_cons_of_mem _ z)) ha;refine⟨cl,?_,h2,h3,fun x z=>?_⟩
    ·simp only[hk,Bool.false_eq_true,if_false,pure_bind]
     exact h1
    ·rcases mem_cons.mp z with e | z
     ·injection e with e1 e2
      rw[<- e2] at hk;exact absurd hk (by decide)
     ·exact h4 x z
   | true =>
    have ek:k=.free:=by simpa using hk
    subst ek;obtain⟨c,hc⟩:=hn n mem_cons_self;have hcell:cellOf env n=pure c:=by unfold cellOf;rw[hc]
    obtain⟨cl,h1,h2,h3,h4⟩:=ih ((n,c)::acc) (fun x z=>hn x (mem_cons_of_mem _ z)) (fun x c' e=>by
     rw[lookup_cons] at e
     cases hx:x == n with
     | true =>
      rw[hx] at e;have e':c=c':=Option.some.inj e;have ex:x=n:=by simpa using hx
      rw[ex,<- e'];exact hc
     | false=>rw[hx] at e;exact ha x c' e)
    refine⟨cl,?_,h2,fun x c' e=>?_,fun x z=>?_⟩
    ·simp only[beq_self_eq_true,if_true,hcell,pure_bind]
     exact h1
    ·cases hx:x == n with
     | true=>exact h3 x c (by rw[lookup_cons,hx])
     | false=>exact h3 x c' (by rw[lookup_cons,hx];exact e)
    ·rcases mem_cons.mp z with e | z
     ·injection e with e1 e2
      exact h3 x c (by rw[e1,lookup_cons];simp)
     ·exact h4 x z
 obtain⟨cl,h1,h2,_,h4⟩:=go scope.names [] h (fun x c e=>nomatch e);refine⟨cl,?_,h2,h4⟩;rw[<- h1];unfold closureFor
 simp only[bind_pure]
def A3 (X:Cx)(scope:Scope)(cl:List (Str×Addr))(C:Addr)(N:List Str)(s:Shared)(H:Hp)(ex:List Addr):Cx where
 prog:=X.prog
 w:=X.w
 K:=X.K
 mg:=X.mg
 base:=X.base
 A:=X.A
 N:=N
 s₀:=s
 H₀:=H
 env:=compEnvC scope cl C X.env
 outer:=X.stack
 stack:=X.stack
 ex:=ex
 calm:=X.calm
 fn:=fun x=>match scope.names.lookup x with | some .cell=>true | _=>false
 pn:=[]
 xe:=fun _ _=>False
theorem G0 {env:Env}:∀{names:List (Str×NameKind)}{x:Str}{k:NameKind},
  (names.map fun(n,k)=>if (k == NameKind.free&&env.scope.kind == .function&&env.kindOf n == some .cell) then (n,NameKind.cell) else (n,k)).lookup x=some k ->
  ∃ k',names.lookup x=some k'/\(k'=k\/(k'=.free/\k=.cell))
 | [],_,_,h=>by simp at h
 | (n,kk)::r,x,k,h=>by
  have ih:=@G0 env r x k;have h':List.lookup x ((if (kk == NameKind.free&&env.scope.kind == .function&&env.kindOf n == some .cell)=true then (n,NameKind.cell) else (n,kk))::r.map fun(n,k)=>if (k == NameKind.free&&env.scope.kind == .function&&env.kindOf n == some .cell) then (n,NameKind.cell) else (n,k))=some k:=h
  cases hx:x == n with
  | true =>
   by_cases hc:(kk == NameKind.free&&env.scope.kind == .function&&env.kindOf n == some .cell)=true
   ·rw[if_pos hc,lookup_cons,hx] at h'
    have e:NameKind.cell=k:=Option.some.inj h'
    have hf:kk=.free:=by
     rw[Bool.and_eq_true,Bool.and_eq_true] at hc
     simpa using hc.1.1
    exact⟨kk,by rw[lookup_cons,hx],.inr ⟨hf,e.symm⟩⟩
   ·rw[if_neg hc,lookup_cons,hx] at h'
    exact⟨kk,by rw[lookup_cons,hx],.inl (Option.some.inj h')⟩
  | false =>
   have h2:List.lookup x (r.map fun(n,k)=>if (k == NameKind.free&&env.scope.kind == .function&&env.kindOf n == some .cell) then (n,NameKind.cell) else (n,k))=some k:=by
    by_cases hc:(kk == NameKind.free&&env.scope.kind == .function&&env.kindOf n == some .cell)=true
    ·rw[if_pos hc,lookup_cons,hx] at h';exact h'
    ·rw[if_neg hc,lookup_cons,hx] at h';exact h'
   obtain⟨k',e1,e2⟩:=ih h2;exact⟨k',by rw[lookup_cons,hx];exact e1,e2⟩
structure CompScope (N:List Str)(osc scope:Scope)(own:List Str)(fr:List (Nat×Str)):Prop where
 kind:scope.kind=.function
 cells:∀ y∈scope.names,y.2=.cell->scope.names.lookup y.1=some .cell
 locs:∀ y∈scope.names,y.2=.local->scope.names.lookup y.1=some .local
 free:∀ y∈scope.names,y.2=.free->osc.names.lookup y.1=some .cell\/osc.names.lookup y.1=some .free
 slot:∀ p∈fr,N[p.1]? = some p.2/\scope.names.lookup p.2=some .free
theorem HOk.track {P:Program}{w:World}{H:Hp}{h:Heap}{a:Addr}{o:HO}(x:HOk P w H h)(hn:H a=none)(new:p6 P w (upd H a o) h a o):HOk P w (upd H a o) h:=fun b u e=>by
 by_cases hb:b=a
 ·subst hb;rw[d6] at e;cases e;exact new
 ·rw[h7 hb] at e
  exact(x b u e).stay (fun c v _ q=>q) (fun c q=>by rw[h7 (h9 q hn)];exact q) fun c xs q=>by rw[h7 (h9 q hn)];exact q
theorem HOk.but {P:Program}{w:World}{H:Hp}{h h':Heap}{a:Addr}(x:HOk P w H h)(hn:H a=none)(k:∀ b o,b≠a->h.get? b=some o->h'.get? b=some o):HOk P w H h':=fun b u e =>
 (x b u e).stay (fun c v hc q=>k c v (by
  rintro rfl
  rcases hc with rfl | hc
  ·rw[hn] at e;cases e
  ·rw[hn] at hc;cases hc) q) (fun _ q=>q) fun _ _ q=>q
theorem Un.track {fs ex:List Addr}{H H':Hp}{h h':Heap}{a:Addr}{o:HO}(u:Un fs ex H H' h h')(ha:h.objs.size<=a)(hn:H a=none):Un fs ex H (upd H' a o) h h' where
 keep:=u.keep
 slot:=u.slot
 free:=fun b ob q n hx=>by rw[h7 (Nat.ne_of_lt (Nat.lt_of_lt_of_le (Heap.lt_size q) ha))];exact u.free b ob q n hx
 there:=u.there
 tups:=fun b xs q=>by rw[h7 (h9 q hn)];exact u.tups b xs q
 frzs:=fun b ob v q=>by rw[h7 (h9 q hn)];exact u.frzs b ob v q
 tbls:=fun b ps q=>by rw[h7 (h9 q hn)];exact u.tbls b ps q
theorem Un.but {fs ex:List Addr}{H H':Hp}{h h' h'':Heap}{a:Addr}(u:Un fs ex H H' h h')(ha:h.objs.size<=a)(k:∀ b o,b≠a->h'.get? b=some o->h''.get? b=some o):Un fs ex H H' h h'' where
 keep:=fun b ob q n hb hx=>k b ob (Nat.ne_of_lt (Nat.lt_of_lt_of_le (Heap.lt_size q) ha)) (u.keep b ob q n hb hx)
 slot:=fun b ob q n hb hx=>let ⟨sl,e⟩:=u.slot b ob q n hb hx;⟨sl,k b _ (Nat.ne_of_lt (Nat.lt_of_lt_of_le (Heap.lt_size q) ha)) e⟩
 free:=u.free
 there:=fun b ob q hx=>let ⟨o',e⟩:=u.there b ob q hx;⟨o',k b _ (Nat.ne_of_lt (Nat.lt_of_lt_of_le (Heap.lt_size q) ha)) e⟩
 tups:=u.tups
 frzs:=u.frzs
 tbls:=u.tbls
structure NewCells (scope:Scope)(nw:List (Str×Addr))(h1:Heap)(C:Addr):Prop where
 ok:∀ n c,(n,c)∈nw->h1.IsCell c none/\C < c
 apart:nw.Pairwise fun x y=>x.2≠y.2
 has:∀ x,scope.names.lookup x=some .cell->∃ c,nw.lookup x=some c
 of:∀ x c,nw.lookup x=some c->(x,NameKind.cell)∈scope.names
theorem E4:∀(names:List (Str×NameKind))(n:Nat)(acc:List (Str×Addr)),cellsFrom n names acc=cellsFrom n names []++acc
 | [],_,_=>rfl
 | (x,k)::r,n,acc=>by
  unfold cellsFrom
  split
  ·rw[E4 r (n + 1) ((x,n)::acc),E4 r (n + 1) [(x,n)],List.append_assoc]
   rfl
  ·exact E4 r n acc
theorem R7:∀(names:List (Str×NameKind))(n:Nat)(x:Str)(c:Addr),(x,c)∈cellsFrom n names []->(x,NameKind.cell)∈names
 | [],_,_,_,h=>nomatch h
 | (y,k)::r,n,x,c,h=>by
  unfold cellsFrom at h
  split at h
  ·rename_i hk
   rw[E4] at h
   rcases List.mem_append.mp h with h | h
   ·exact mem_cons_of_mem _ (R7 r _ x c h)
   ·rw[mem_singleton] at h
    cases h
    have:k=.cell:=by simpa using hk
    rw[this];exact mem_cons_self ..
  ·exact mem_cons_of_mem _ (R7 r _ x c h)
theorem E8 {α:Type}{x:Str}{a b:List (Str×α)}{c:α}(h:(a++b).lookup x=some c):a.lookup x=some c\/(a.lookup x=none/\b.lookup x=some c):=by
 induction a with
 | nil=>exact .inr ⟨rfl,h⟩
 | cons p r ih =>
  rw[List.cons_append,lookup_cons] at h;rw[lookup_cons]
  cases hx:x == p.1 with
  | true=>rw[hx] at h;exact .inl h
  | false=>rw[hx] at h;exact ih h
theorem R4 {α:Type}{x:Str}{a b:List (Str×α)}{c:α}(h:a.lookup x=some c):(a++b).lookup x=some c:=by
 induction a with
 | nil=>cases h
 | cons p r ih =>
  rw[lookup_cons] at h;rw[List.cons_append,lookup_cons]
  cases hx:x == p.1 with
  | true=>rw[hx] at h;exact h
  | false=>rw[hx] at h;exact ih h
theorem aa6 {α:Type}{x:Str}{a b:List (Str×α)}{c:α}(h:a.lookup x=none)(h2:b.lookup x=some c):(a++b).lookup x=some c:=by
 induction a with
 | nil=>exact h2
 | cons p r ih =>
  rw[lookup_cons] at h;rw[List.cons_append,lookup_cons]
  cases hx:x == p.1 with
  | true=>rw[hx] at h;cases h
  | false=>rw[hx] at h;exact ih h
theorem al3 {M:Model}{A:Around}{E:Value->Shared->Prop}{s:Shared}{scope:Scope}{globals:Addr}{closure:List (Str×Addr)}{qual:Str}{outer:Env}{Q:Env->Shared->Prop}
  (hQ:∀ nw h1,NewCells scope nw h1 s.heap.objs.size->h1.Ns s.heap.objs.size (fun _=>none)->(∀ b o,s.heap.get? b=some o->h1.get? b=some o) ->
   Q { scope,locals:=s.heap.objs.size,globals,cells:=nw++closure,qual,func:=none,code:=outer.code,frame:=outer.frame,builtins:=outer.builtins } { s with heap:=h1 }) :
  wpAny M A (newFunctionEnv scope globals closure [] qual none .none (some outer)) Q E s:=by
 simp only[newFunctionEnv,Option.isSome_some,if_true]
 refine wpAny_bind (wpAny_alloc ?_);refine wpAny_bind (wpAny_layCells _ (fun name kind cells=>by cases hkc:kind == NameKind.cell <;> simp[hkc]) _ _ _ _ ?_)
 have ok:=cellsFrom_ok scope.names (s.heap.push { cls:=.type "dict",data:=.dict #[] }) (s.heap.objs.size + 1) [] ⟨fun _ _ hm=>(nomatch hm),List.Pairwise.nil⟩ (by rw[Heap.size_push];exact Nat.le_refl _)
 rw[Heap.size_push] at ok;rw[show({ s with heap:=s.heap.push { cls:=.type "dict",data:=.dict #[] } }:Shared).heap.objs.size=s.heap.objs.size + 1 from Heap.size_push ..]
 rw[List.forIn_nil];refine wpAny_bind (wpAny_pure (wpAny_pure ?_));rw[E4]
 exact hQ _ _ ⟨fun n c h=>⟨(ok.empty n c h).1,(ok.empty n c h).2⟩,ok.apart,fun x h=>aj3 h,fun x c h=>R7 _ _ x c (PySem.mem_of_lookup h)⟩
  ((Heap.Ns.new s.heap (.type "dict")).keeps (pushCells_keeps _ _)) fun b o e=>pushCells_keeps _ _ b o (Heap.get?_push_of_some _ e)
def aO9 (X:Cx)(ifs:List Expr)(t:TT):Prop :=
 ∀(pins:List (Addr×Obj))(s:Shared)(σ:St)(H:Hp)(Q:Bool->Hp->Prop),Inv X pins σ H s->t σ H Q ->
  wpAny (model X.prog X.w) X.A (forIn ifs true fun c r=>if r=true then do let ok <- isTrue c X.env (eval c X.env);pure (ForInStep.yield ok) else pure (ForInStep.yield r)) (TP X pins σ Q) X.xe s
def bl5:TT:=fun _ H Q=>Q true H
theorem P7 {X:Cx}:aO9 X [] bl5:=fun _ _ _ H Q I h=>wpAny_tests_nil ⟨H,I,h⟩
theorem L7 {X:Cx}{c:Expr}{t:TT}(h:PT X c t):aO9 X [c] t:=fun pins s σ H Q I q=>wpAny_tests_one (h pins s σ H Q I q)
def C2 (own:List Str)(fr:List (Nat×Str))(σ:St):St:=own.map (fun _=>none)++fr.map fun p=>(σ[p.1]?).join
def ah6 (J:It)(g:TG)(tt:TT)(te:TE)(Q:VK)(σ₀:St)(H1:Hp):Prop :=
 ∃ W:Nat->Nat->List V->St->Hp->Prop,(∃ m,W 0 m [] σ₀ H1)/\∀ i m acc σ' H',W i m acc σ' H' ->
  (J.stop i H'/\acc.length<=sizeLine/\∀ p,H' p=none->Q (.ref p) (upd H' p (.lst acc))) \/
  (J.go i H'/\acc.length < sizeLine/\∃ N:List V->St->Hp->Prop,(∀ acc σ' H',N acc σ' H'->∃ m',m' < m/\W (i + 1) m' acc σ' H')/\∀ x H'',J.yld i H' x H''->g x σ' H'' fun σ2 H2=>tt σ2 H2 fun ok H3=>if ok=true then te σ2 H3 fun y H4=>N (acc++[y]) σ2 H4 else N acc σ2 H3)
def ba5 (own:List Str)(fr:List (Nat×Str))(wi:TI)(g:TG)(tt:TT)(te:TE):TE:=fun σ H Q=>wi σ H fun J H1=>ah6 J g tt te Q (C2 own fr σ) H1
section
variable {X:Cx}{tg iter elt:Expr}{ifs:List Expr}{scope:Scope}{own:List Str}{fr:List (Nat×Str)}{pos:Pos}
theorem aY9 {pins:List (Addr×Obj)}{σ:St}{H:Hp}{s:Shared}{cl:List (Str×Addr)}{ex:List Addr}{h1:Heap}{m:Str->Option Value}{C:Addr}{t':Nat}(S:CompScope X.N X.env.scope scope own fr)(I:Inv X pins σ H s)
  (hcl:∀ x c,cl.lookup x=some c->X.env.cells.lookup x=some c)(hcl2:∀ x,(x,NameKind.free)∈scope.names->∃ c,cl.lookup x=some c)(hex:∀ b∈ex,S9 X pins H b/\b < s.heap.objs.size)
  (hC:s.heap.objs.size<=C)(k:∀ b o,s.heap.get? b=some o->h1.get? b=some o)(hn:h1.Ns C m){nw:List (Str×Addr)}(nc:NewCells scope nw h1 C) :
  Inv (A3 X scope (nw++cl) C (own++fr.map (·.2)) s H ex) [] (C2 own fr σ) H { s with heap:=h1,toks:=t' }:=by
 have okX:=I.ok;have isNew:∀ x c,nw.lookup x=some c->C < c:=fun x c e=>(nc.ok x c (PySem.mem_of_lookup e)).2
 have isOld:∀ x c,cl.lookup x=some c->c < C:=fun x c e=>by
  obtain⟨v,o,ho,_⟩:=I.cell x c (hcl x c e);exact Nat.lt_of_lt_of_le (Heap.lt_size ho) hC
 have hinj:∀ x y c,(nw++cl).lookup x=some c->(nw++cl).lookup y=some c->x=y:=fun x y c e1 e2=>by
  rcases E8 e1 with a | ⟨_,a⟩ <;> rcases E8 e2 with b | ⟨_,b⟩
  ·exact name_of_addr nc.apart (PySem.mem_of_lookup a) (PySem.mem_of_lookup b)
  ·exact absurd (Nat.lt_trans (isNew x c a) (isOld y c b)) (Nat.lt_irrefl _)
  ·exact absurd (Nat.lt_trans (isNew y c b) (isOld x c a)) (Nat.lt_irrefl _)
  ·exact okX.inj x y c (hcl x c a) (hcl y c b)
 have hasF:∀ x,(x,NameKind.free)∈scope.names->∃ c,(nw++cl).lookup x=some c:=fun x hx=>by
  obtain⟨c,e⟩:=hcl2 x hx
  cases z:nw.lookup x with
  | none=>exact⟨c,aa6 z e⟩
  | some c'=>exact⟨c',R4 z⟩
 refine⟨⟨okX.mod,?_,okX.glob,okX.blt,hC,hinj,fun x hx=>?_,fun x c e1 e2=>?_,okX.hd,okX.frames,.inl rfl,fun b hb=>?_,I.bs,Nat.le_trans okX.bsz I.sz,fun b o e hb=>?_,fun b hb hf=>?_,I.stack,I.stkFree⟩,
  rfl,I.bare,Un.kept k,⟨m,hn,fun i x v e1 e2 e3=>?_⟩,fun x c e=>?_,I.hok.fresh hC,fun x c e=>?_,fun p hp=>absurd (show p∈([]:List (Addr×Obj)) from hp) (by simp),I.hok.kept k,?_⟩
 ·exact S.kind
 ·-- a cell's or a free name
  have hx':(relabel scope X.env).names.lookup x=some .cell\/(relabel scope X.env).names.lookup x=some .free:=hx
  have hfree:scope.names.lookup x=some .cell\/scope.names.lookup x=some .free:=by
   rcases hx' with q | q
   ·obtain⟨k',e1,e2⟩:=G0 q
    rcases e2 with e2 | ⟨e2,_⟩
    ·exact .inl (by rw[e1,e2])
    ·exact .inr (by rw[e1,e2])
   ·obtain⟨k',e1,e2⟩:=G0 q
    rcases e2 with e2 | ⟨e2,e3⟩
    ·exact .inr (by rw[e1,e2])
    ·cases e3
  rcases hfree with hfree | hfree
  ·obtain⟨c,e⟩:=nc.has x hfree
   exact⟨c,R4 e⟩
  ·exact hasF x (PySem.mem_of_lookup hfree)
 ·-- an own cell is new
  have e1':(match scope.names.lookup x with | some .cell=>true | _=>false)=true:=e1
  have hce:scope.names.lookup x=some .cell:=by
   split at e1'
   ·assumption
   ·cases e1'
  obtain⟨c',e⟩:=nc.has x hce;have e2':(nw++cl).lookup x=some c:=e2;rw[R4 e] at e2'
  cases e2'
  exact Nat.le_trans hC (Nat.le_of_lt (isNew x c e))
 ·obtain⟨⟨f0,f1,f2,f3,f4,f5⟩,f6⟩:=hex b hb
  refine⟨Nat.ne_of_lt (Nat.lt_of_lt_of_le f6 hC),fun x c e=>?_⟩
  rcases E8 (show(nw++cl).lookup x=some c from e) with a | ⟨_,a⟩
  ·exact Nat.ne_of_gt (Nat.lt_trans (Nat.lt_of_lt_of_le f6 hC) (isNew x c a))
  ·exact f4 x c (hcl x c a)
 ·obtain⟨⟨f0,f1,f2,f3,f4,f5⟩,f6⟩:=hex b hb
  rcases f3 with f3 | f3
  ·exact okX.noex b o e f3
  ·exact absurd (Nat.lt_of_lt_of_le (Heap.lt_size e) (Nat.le_trans okX.bsz f3)) (Nat.lt_irrefl _)
 ·obtain⟨⟨f0,f1,f2,f3,f4,f5⟩,f6⟩:=hex b hb
  rcases mem_cons.mp (I.stkSub b hf) with z | z
  ·exact f1 z
  ·exact f2 z
 ·-- the values of the free names
  have e1':(own++fr.map (·.2))[i]? = some x:=e1
  have hi:own.length<=i:=by
   by_cases h:i < own.length
   ·unfold C2 at e2
    rw[List.getElem?_append_left (by simpa using h),List.getElem?_map] at e2
    cases q:own[i]? with
    | none=>rw[q] at e2;cases e2
    | some z=>rw[q] at e2;cases e2
   ·lia
  unfold C2 at e2;rw[List.getElem?_append_right (by simpa using hi),List.getElem?_map,length_map] at e2
  rw[List.getElem?_append_right hi,List.getElem?_map] at e1'
  cases q:fr[i - own.length]? with
  | none=>rw[q] at e2;cases e2
  | some p =>
   rw[q] at e2 e1';have e1':p.2=x:=Option.some.inj e1';have e2':(σ[p.1]?).join=some v:=Option.some.inj e2;obtain⟨hs1,hs2⟩:=S.slot p (List.mem_of_getElem? q);rw[e1'] at hs1 hs2
   have e2'':σ[p.1]? = some (some v):=by
    cases z:σ[p.1]? with
    | none=>rw[z] at e2';cases e2'
    | some y=>rw[z] at e2';exact congrArg some e2'
   obtain⟨mX,hnX,hlX⟩:=I.loc;have hfr:=S.free (x,.free) (PySem.mem_of_lookup hs2) rfl
   have hvis:Vis X.env.scope x:=by
    rcases hfr with z | z
    ·exact .inr (.inl z)
    ·exact .inr (.inr z)
   obtain⟨u,r,l⟩:=hlX p.1 x v hs1 e2'' hvis;refine⟨u,r,?_⟩;have hkc:X.env.kindOf x=some .cell\/X.env.kindOf x=some .free:=hfr
   rcases l with⟨kx,_⟩ | ⟨kx,c,hc,z⟩
   ·rcases hkc with w | w
    ·rw[w] at kx;cases kx
    ·rw[w] at kx;cases kx
   ·obtain⟨c',hc'⟩:=hcl2 x (PySem.mem_of_lookup hs2)
    have hcc:=hcl x c' hc';rw[hc] at hcc
    cases hcc
    have e3':(relabel scope X.env).names.lookup x=some .local\/(relabel scope X.env).names.lookup x=some .cell\/(relabel scope X.env).names.lookup x=some .free:=e3
    have hnew:nw.lookup x=none:=by
     cases z:nw.lookup x with
     | none=>rfl
     | some c'' =>
      have:=S.cells _ (nc.of x c'' z) rfl
      rw[hs2] at this
      cases this
    refine .inr ⟨?_,c,aa6 hnew hc',?_⟩
    ·rcases e3' with w | w | w
     ·obtain⟨k',q1,q2⟩:=G0 w
      rw[hs2] at q1
      cases q1
      rcases q2 with q2 | ⟨_,q2⟩ <;> cases q2
     ·exact .inl w
     ·exact .inr w
    ·obtain⟨o,ho,hd⟩:=z
     exact⟨o,k _ _ ho,hd⟩
 ·rcases E8 (show(nw++cl).lookup x=some c from e) with a | ⟨_,a⟩
  ·exact⟨none,(nc.ok x c (PySem.mem_of_lookup a)).1⟩
  ·obtain⟨v,o,ho,hd⟩:=I.cell x c (hcl x c a)
   exact⟨v,o,k _ _ ho,hd⟩
 ·rcases E8 (show(nw++cl).lookup x=some c from e) with a | ⟨_,a⟩
  ·exact I.hok.fresh (Nat.le_trans hC (Nat.le_of_lt (isNew x c a)))
  ·exact I.freeC x c (hcl x c a)
 ·show(C2 own fr σ).length=(own++fr.map (·.2)).length
  unfold C2;rw[length_append,length_append,length_map,length_map,length_map]
theorem ai1 {pins:List (Addr×Obj)}{σ:St}{H2:Hp}{s2:Shared}{cl:List (Str×Addr)}{it:Addr}{fp:List Addr}{tn:Nat->Heap->Prop}{J:It}{g:TG}{tt:TT}{te:TE}{Q:VK}{E:Value->Shared->Prop}
  {RR:Value->Addr->Result->Shared->Prop}(hc:X.calm=true)(S:CompScope X.N X.env.scope scope own fr)(I:Inv X pins σ H2 s2)(hcl:∀ x c,cl.lookup x=some c->X.env.cells.lookup x=some c)
  (hcl2:∀ x,(x,NameKind.free)∈scope.names->∃ c,cl.lookup x=some c)(T:Turn X.prog X.w X.K tg J fp it tn)(st:tn 0 s2.heap)(hfp:∀ b∈fp,S9 X pins H2 b)
  (hb:∀(cl:List (Str×Addr))(C:Addr)(s:Shared)(H:Hp)(ex:List Addr),PG (A3 X scope cl C (own++fr.map (·.2)) s H ex) tg g/\aO9 (A3 X scope cl C (own++fr.map (·.2)) s H ex) ifs tt/\PE (A3 X scope cl C (own++fr.map (·.2)) s H ex) elt te)
  (hq:ah6 J g tt te Q (C2 own fr σ) H2)
  (fin:∀(D C:Addr)(s':Shared)(H':Hp),(∃ m,s'.heap.Ns C m)->s2.heap.objs.size<=C->C≠D->H' C=none->Q (.ref D) H'->(∀ h'',(∀ b o,b≠C->s'.heap.get? b=some o->h''.get? b=some o)->Inv X pins σ H' { s' with heap:=h'' })->RR (.ref D) C (.ok .next) s') :
  wpAny (model X.prog X.w) X.A (newList []) (fun acc s₃=>wpAny (model X.prog X.w) X.A (newFunctionEnv scope X.env.globals cl [] X.env.qual none .none (some X.env)) (fun cenv s₄ =>
   codeAny (model X.prog X.w) X.A (.compStart (.ListComp elt [⟨tg,iter,ifs,0⟩] scope pos) 0 (.ref it) acc { cenv with scope:=relabel scope X.env }) (RR acc cenv.locals) s₄) E s₃) E s2:=by
 obtain⟨W,⟨m0,w0⟩,turn⟩:=hq;refine wpAny_newObj_type (al3 (fun nw h₁ nc hns₁ hsb₁=>?_))
 dsimp only at nc hns₁ hsb₁ ⊢
 generalize hH2:s2.heap.push { cls:=.type "list",dict:=none,data:=.seq ([]:List Value).toArray }=HH at nc hns₁ hsb₁ ⊢;have hC:HH.objs.size=s2.heap.objs.size + 1:=by rw[<- hH2,Heap.size_push]
 have hDC:s2.heap.objs.size≠HH.objs.size:=by rw[hC];exact Nat.ne_of_lt (Nat.lt_succ_self _)
 have hCle:s2.heap.objs.size<=HH.objs.size:=by rw[hC];exact Nat.le_succ _
 have old:∀ b o,s2.heap.get? b=some o->h₁.get? b=some o:=fun b o e =>
  hsb₁ b o (hH2 ▸ Heap.get?_push_of_some _ e)
 have hacc:h₁.get? s2.heap.objs.size=some { cls:=.type "list",data:=.seq ([]:List Value).toArray }:=hsb₁ _ _ (hH2 ▸ Heap.get?_push_size _ rfl)
 have flt:∀ b∈fp,b < s2.heap.objs.size:=fun b hb=>by
  obtain⟨o,e,_⟩:=T.obj _ _ st b hb;exact Heap.lt_size e
 have hlt:s2.heap.objs.size < HH.objs.size:=by rw[hC];exact Nat.lt_succ_self _
 obtain⟨D,hD⟩:∃ D:Nat,D=s2.heap.objs.size:=⟨_,rfl⟩;obtain⟨C,hCC⟩:∃ C:Nat,C=HH.objs.size:=⟨_,rfl⟩;rw[<- hD] at hacc ⊢;rw[<- hCC] at nc hns₁ ⊢;have hDlt:D < C:=by rw[hD,hCC];exact hlt
 have hDs:s2.heap.objs.size<=D:=Nat.le_of_eq hD.symm;have hCs:s2.heap.objs.size<=C:=Nat.le_trans hDs (Nat.le_of_lt hDlt);have nDC:D≠C:=Nat.ne_of_lt hDlt;have nfD:∀ b∈fp,b≠D:=fun b hb=>Nat.ne_of_lt (Nat.lt_of_lt_of_le (flt b hb) hDs);have nfC:∀ b∈fp,b≠C:=fun b hb=>Nat.ne_of_lt (Nat.lt_of_lt_of_le (flt b hb) hCs)
 have I0:Inv (A3 X scope (nw++cl) C (own++fr.map (·.2)) s2 H2 fp) [] (C2 own fr σ) H2 { s2 with heap:=h₁,toks:=s2.toks } :=
  aY9 S I hcl hcl2 (fun b hb=>⟨hfp b hb,flt b hb⟩) hCs old hns₁ nc
 obtain⟨pg,pt,pe⟩:=hb (nw++cl) C s2 H2 fp
 have Dcell:∀ x c,(nw++cl).lookup x=some c->c≠D:=fun x c e=>by
  rcases E8 e with a | ⟨_,a⟩
  ·exact Nat.ne_of_gt (Nat.lt_trans hDlt (nc.ok x c (PySem.mem_of_lookup a)).2)
  ·obtain⟨v,q⟩:=I.cell x c (hcl x c a)
   exact Nat.ne_of_lt (Nat.lt_of_lt_of_le q.lt hDs)
 have Dstk:D∉frs X.stack:=fun hf=>by
  rcases mem_cons.mp (I.stkSub D hf) with z | z
  ·have h1:=I.lt
   rw[<- z] at h1;exact Nat.lt_irrefl _ (Nat.lt_of_lt_of_le h1 hDs)
  ·exact I.nofs hDs z
 have stat:∀{H':Hp}{pl:List (Addr×Obj)},(∀ b∈fp,H' b=none)->(∀ p∈pl,p.1=D)->∀ b∈fp,S9 (A3 X scope (nw++cl) C (own++fr.map (·.2)) s2 H2 fp) pl H' b:=fun {H' pl} hn hpl b hb=>by
  obtain⟨f0,f1,f2,f3,f4,f5⟩:=hfp b hb
  refine⟨hn b hb,nfC b hb,fun hf=>?_,.inl hb,fun x c e=>(by
   rcases E8 (show(nw++cl).lookup x=some c from e) with a | ⟨_,a⟩
   ·exact Nat.ne_of_gt (Nat.lt_trans (Nat.lt_of_lt_of_le (flt b hb) hCs) (nc.ok x c (PySem.mem_of_lookup a)).2)
   ·exact f4 x c (hcl x c a)),fun p hp z=>?_⟩
  ·rcases mem_cons.mp (I.stkSub b hf) with z | z
   ·exact f1 z
   ·exact f2 z
  ·have h1:p.1=D:=hpl p (by simpa [A3] using hp)
   exact nfD b hb (z.symm.trans h1)
 have loop:∀ s₃:Shared,s₃ = { s2 with heap:=h₁,toks:=s2.toks } ->
   codeAny (model X.prog X.w) X.A (.compLoop (.ListComp elt [⟨tg,iter,ifs,0⟩] scope pos) 0 (.ref it) (.ref D) (compEnvC scope (nw++cl) C X.env)) (RR (.ref D) C) s₃:=by
  rintro s₃ rfl
  refine codeAny_loop rfl (fun n s'=>∃ i σ' H' acc its k,Inv (A3 X scope (nw++cl) C (own++fr.map (·.2)) s2 H2 fp) [] σ' H' s'/\tn i s'.heap/\(∀ b∈fp,H' b=none)/\H' D=none /\
   s'.heap.get? D=some { cls:=.type "list",data:=.seq its.toArray k }/\j9 acc its/\W i n acc σ' H') ?_ m0
   ⟨0,_,H2,[],[],0,I0,T.keep _ _ _ st fun b hb o e=>old b o e,fun b hb=>(hfp b hb).1,I.hok.fresh hDs,hacc,.nil,w0⟩
  rintro n s' ⟨i,σ',H',acc,its,k,I1,st1,fr1,nD,gD,rv,w1⟩
  show wpAny _ X.A ((compTurn (.ListComp elt [⟨tg,iter,ifs,0⟩] scope pos) 0 (.ref it) (.ref D) (compEnvC scope (nw++cl) C X.env)).onRaise (fun x=>do noteFrame x (compEnvC scope (nw++cl) C X.env);theTreesLotGoes x)) _ _ s'
  refine wpAny_noted ?_;rw[compTurn_list]
  have I1':Inv (A3 X scope (nw++cl) C (own++fr.map (·.2)) s2 H2 fp) [(D,{ cls:=.type "list",data:=.seq its.toArray k })] σ' H' s':=I1.pins_of fun p hp=>by
   have e:p=(D,{ cls:=.type "list",data:=.seq its.toArray k }):=by simpa using hp
   subst e;exact⟨gD,nD,nDC,Dstk,fun v z=>nomatch z⟩
  rcases turn i n acc σ' H' w1 with⟨stop,hz,qq⟩ | ⟨go,hz,NN,hNN,step⟩
  ·refine wpAny_bind (wpAny_standAt (wpAny_bind (wpAny_mono (T.done (A3 X scope (nw++cl) C (own++fr.map (·.2)) s2 H2 fp) rfl rfl rfl hc i _ s' σ' H' (fun _ _=>False) I1' (stat fr1 (by simp)) st1 stop) (fun r s4 ⟨hr,I4⟩=>?_) fun _ _ z=>z.elim)))
   subst hr;refine wpAny_pure ?_;have gD4:=(I4.pin (D,_) (mem_append_right _ (mem_singleton.mpr rfl))).1;have hC4:H' C=none:=I4.free;have hC5:(upd H' D (.lst acc)) C=none:=by rw[h7 (Ne.symm nDC)];exact hC4
   refine fin D C s4 (upd H' D (.lst acc)) ?_ hCs (Ne.symm nDC) hC5 (qq D nD) fun h'' kk=>?_
   ·obtain⟨m,hn,_⟩:=I4.loc
    exact⟨m,hn⟩
   ·have un:Un (frs X.stack) fp H2 (upd H' D (.lst acc)) s2.heap h'':=Un.but (a:=C) (Un.track (o:=.lst acc) I4.base hDs (I.hok.fresh hDs)) hCs kk
    have hok:HOk X.prog X.w (upd H' D (.lst acc)) s4.heap:=HOk.track I4.hok nD ⟨hz,its,k,rv,gD4⟩
    exact I.call' (s':={ s4 with heap:=h'' }) (ch:=fp) I4.os un (HOk.but hok hC5 kk) I4.bare fun b hb=>by
     obtain⟨f0,f1,f2,f3,f4,f5⟩:=hfp b hb;exact⟨f3,f1,f4,f5⟩
  ·refine wpAny_bind (wpAny_standAt (wpAny_bind (wpAny_mono (T.item (A3 X scope (nw++cl) C (own++fr.map (·.2)) s2 H2 fp) rfl rfl rfl hc i _ s' σ' H' (fun _ _=>False) I1' (stat fr1 (by simp)) st1 go) (fun r s4 ⟨u,hr,h4⟩=>?_) fun _ _ z=>z.elim)))
   subst hr;refine wpAny_bind (wpAny_mono h4 (fun _ s5 ⟨x,H5,I5,r5,y5,st5,fr5⟩=>?_) fun _ _ z=>z.elim);have I5':=I5.pinned (stat fr5 (by simp)) (T.obj _ _ st5)
   refine wpAny_bind (wpAny_mono (pg _ s5 σ' H5 x u _ I5' r5 (step x H5 y5)) (fun _ s6 ⟨σ6,H6,I6,q6⟩=>?_) fun _ _ z=>z.elim);refine wpAny_bind (wpAny_mono (pt _ s6 σ6 H6 _ I6 q6) (fun ok s7 ⟨H7,I7,q7⟩=>?_) fun _ _ z=>z.elim)
   have again:∀{s8:Shared}{H8:Hp}{acc':List V}{its':List Value}{k' m':Nat},Inv (A3 X scope (nw++cl) C (own++fr.map (·.2)) s2 H2 fp) (V0 fp s5.heap) σ6 H8 s8->H8 D=none ->
     s8.heap.get? D=some { cls:=.type "list",data:=.seq its'.toArray k' }->j9 acc' its'->m' < n->W (i + 1) m' acc' σ6 H8 ->
     ∃ m,m < n/\∃ i σ' H' acc its k,Inv (A3 X scope (nw++cl) C (own++fr.map (·.2)) s2 H2 fp) [] σ' H' s8/\tn i s8.heap/\(∀ b∈fp,H' b=none)/\H' D=none /\
      s8.heap.get? D=some { cls:=.type "list",data:=.seq its.toArray k }/\j9 acc its/\W i m acc σ' H':=fun {s8 H8 acc' its' k' m'} I8 n8 g8 rv8 hm w8=>by
    refine⟨m',hm,i + 1,σ6,H8,acc',its',k',I8.pins_of (fun p hp=>nomatch hp),T.keep _ _ _ st5 fun b hb o e=>(I8.pin (b,o) (mem_append_right _ (z9 hb e))).1,fun b hb=>?_,n8,g8,rv8,w8⟩;obtain⟨o,e,d⟩:=T.obj _ _ st5 b hb;exact(I8.pin (b,o) (mem_append_right _ (z9 hb e))).2.1
   have dropD:∀{s8:Shared}{H8:Hp},Inv (A3 X scope (nw++cl) C (own++fr.map (·.2)) s2 H2 fp) ([(D,{ cls:=.type "list",data:=.seq its.toArray k })]++V0 fp s5.heap) σ6 H8 s8 ->
     Inv (A3 X scope (nw++cl) C (own++fr.map (·.2)) s2 H2 fp) (V0 fp s5.heap) σ6 H8 s8:=fun I8=>I8.pins_of fun p hp=>I8.pin p (mem_append_right _ (mem_append_right _ hp))
   cases ok with
   | false =>
    rw[if_neg Bool.false_ne_true] at q7;obtain⟨m',hm,w7⟩:=hNN _ _ _ q7;have pD:=I7.pin (D,_) (mem_append_right _ (mem_append_left _ (mem_singleton.mpr rfl)))
    simp only[Bool.false_eq_true,if_false]
    exact wpAny_pure ⟨rfl,again (dropD I7) pD.2.1 pD.1 rv hm w7⟩
   | true =>
    rw[if_pos rfl] at q7
    simp only[if_true]
    refine wpAny_bind (wpAny_bind (wpAny_mono (pe _ s7 σ6 H7 _ I7 q7) (fun u8 s8 ⟨y,H8,I8,r8,q8⟩=>?_) fun _ _ z=>z.elim));obtain⟨m',hm,w8⟩:=hNN _ _ _ q8;have pD:=I8.pin (D,_) (mem_append_right _ (mem_append_left _ (mem_singleton.mpr rfl)));obtain⟨gD8,nD8,_⟩:=pD;have hlen:=rv.length;refine wpAny_bind (call_meets F.slot_list_append ⟨_,gD8,rfl⟩ F.entry_list_append (F.args_list_append_2 _ _) (PySem.list_append D its.toArray k u8 (by rw[size_toArray];lia)) ⟨gD8,?_⟩)
    refine wpAny_pure (wpAny_pure ⟨rfl,?_⟩);have q:=PySem.IsL.update gD8 (·.push u8);have e9:its.toArray.push u8=(its++[u8]).toArray:=by simp
    rw[e9] at q;refine again (its':=its++[u8]) ((dropD I8).turned (it:=D) (t':=_) (fun b o hb e=>(Heap.get?_update_other s8.heap _ (Ne.symm hb)).trans e) nD8 nDC (.inr hDs) (fun x c e=>Dcell x c e) fun p hp z=>?_) nD8 q (rv.append (.cons r8 .nil)) hm w8;have hp':p∈V0 fp s5.heap:=by simpa [A3] using hp
    exact nfD p.1 (ap0 hp').1 z
 exact codeAny_compStart_list (loop _ rfl) (T.self _ 0 _ _ _ (T.keep _ _ _ st fun b hb o e=>old b o e) (loop _ rfl))
theorem B1 {wi:TI}{g:TG}{tt:TT}{te:TE}(hc:X.calm=true)(S:CompScope X.N X.env.scope scope own fr)(hi:PI X tg iter wi)
  (hb:∀(cl:List (Str×Addr))(C:Addr)(s:Shared)(H:Hp)(ex:List Addr),PG (A3 X scope cl C (own++fr.map (·.2)) s H ex) tg g/\aO9 (A3 X scope cl C (own++fr.map (·.2)) s H ex) ifs tt/\PE (A3 X scope cl C (own++fr.map (·.2)) s H ex) elt te)
  (hs:∀ x,foldedSetIterable iter X.env x=pure x:=by intro _;rfl):PE X (.ListComp elt [⟨tg,iter,ifs,0⟩] scope pos) (ba5 own fr wi g tt te):=by
 intro pins s σ H Q I h
 obtain⟨cl,hclos,hcl,hcl2⟩:=Y1 (scope:=scope) (env:=X.env) fun x hx=>I.ok.has x (S.free (x,.free) hx rfl);rw[eval_ListComp];refine wpAny_comprehension_free (use:=none) rfl hs hclos S.kind S.locs (thn (hi pins s σ H _ I h) fun xv s₁ h₁=>thn h₁ fun itv s₂ h₂=>?_);obtain⟨it,fp,tn,J,H2,e,I2,T,st2,f2,hq⟩:=h₂;subst e;refine ai1 hc S I2 hcl hcl2 T st2 f2 hb hq (RR:=fun acc C=>compPost (model X.prog X.w) X.A X.xe none (EP X pins σ Q) acc C) fun D C s' H' hn hC1 hCD hC2 q inv=>?_;obtain⟨m,hn⟩:=hn;exact⟨m,hn,fun h'' sb=>⟨.ref D,H',inv h'' fun b o hb e=>sb.extBut b o hb e,rfl,q⟩⟩
theorem aq6 {i:Nat}{x:Str}{px spos:Pos}{wi:TI}{g:TG}{tt:TT}{te:TE}(hc:X.calm=true)(hN:X.N.Nodup)(hix:X.N[i]? = some x)(hx:X.env.scope.names.lookup x=some .local)(S:CompScope X.N X.env.scope scope own fr)(hi:PI X tg iter wi)
  (hb:∀(cl:List (Str×Addr))(C:Addr)(s:Shared)(H:Hp)(ex:List Addr),PG (A3 X scope cl C (own++fr.map (·.2)) s H ex) tg g/\aO9 (A3 X scope cl C (own++fr.map (·.2)) s H ex) ifs tt/\PE (A3 X scope cl C (own++fr.map (·.2)) s H ex) elt te)
  (hsw:swapsWith (.ListComp elt [⟨tg,iter,ifs,0⟩] scope pos) (some (.Name x px)) spos.line X.env=pure true)(hs:∀ x,foldedSetIterable iter X.env x=pure x:=by intro _;rfl) :
  PS X (.Assign [.Name x px] (.ListComp elt [⟨tg,iter,ifs,0⟩] scope pos) spos) (bc2 (ba5 own fr wi g tt te) (Q4 i)):=by
 intro pins s σ H D I h
 obtain⟨cl,hclos,hcl,hcl2⟩:=Y1 (scope:=scope) (env:=X.env) fun x hx=>I.ok.has x (S.free (x,.free) hx rfl);rw[exec_Assign_Name_used _ _ _ _ hsw];refine wpAny_bind (wpAny_standAt (wpAny_bind ?_))
 show wpAny _ X.A (do let _ <- comprehension (.ListComp elt [⟨tg,iter,ifs,0⟩] scope pos) scope X.env _ (newList []) false (eval iter X.env) (some (assign (.Name x px) X.env))) _ _ s
 refine wpAny_bind (wpAny_mono (wpAny_comprehension_free (use:=some (assign (.Name x px) X.env)) (Q:=fun _ s'=>SP X pins D .next s') rfl hs hclos S.kind S.locs (thn (hi pins s σ H _ I h) fun xv s₁ h₁=>thn h₁ fun itv s₂ h₂=>?_)) (fun _ s' hq=>wpAny_pure (wpAny_pure hq)) fun _ _ e=>e);obtain⟨it,fp,tn,J,H2,e,I2,T,st2,f2,hq⟩:=h₂;subst e;refine ai1 (Q:=fun x H1=>Q4 i x σ H1 D.nx) hc S I2 hcl hcl2 T st2 f2 hb hq (RR:=fun acc C=>compPost (model X.prog X.w) X.A X.xe (some (assign (.Name x px) X.env)) (fun _ s'=>SP X pins D .next s') acc C) fun Da C s' H' hn hC1 hCD hC2 q inv=>?_;obtain⟨m,hn⟩:=hn;have I3:Inv X pins σ H' { s' with heap:=s'.heap }:=inv s'.heap fun _ _ _ e=>e
 show wpAny _ X.A (assign (.Name x px) X.env (.ref Da)) _ _ s'
 refine wpAny_assign_Name (ap2 I3 hN hix (.inl hx) (v:=.ref Da) rfl (fun s4 I4 ⟨a,sb,ha⟩=>?_) (.inr hx));have hCL:C≠X.env.locals:=Nat.ne_of_gt (Nat.lt_of_lt_of_le I2.lt hC1)
 have hCc:∀ y c,X.env.cells.lookup y=some c->c≠C:=fun y c e=>by
  obtain⟨v,w⟩:=I2.cell y c e;exact Nat.ne_of_lt (Nat.lt_of_lt_of_le w.lt hC1)
 have haC:C≠a:=by
  rcases ha with ha | ha
  ·rw[ha];exact hCL
  ·exact(hCc _ _ ha).symm
 refine⟨m,hn.sameBut sb haC,fun h'' sb2=>⟨_,H',I4.turned (it:=C) (t':=s4.toks) (fun b o hb e=>sb2.extBut b o hb e) hC2 hCL (.inr (Nat.le_trans I2.sz hC1)) hCc fun p hp z=>?_,q⟩⟩;exact Nat.ne_of_lt (Nat.lt_of_lt_of_le (Heap.lt_size (I2.pin p hp).1) hC1) z
end
theorem x9 {K:Frag}{a:Addr}{xs:List V}{g:TG}{tt:TT}{te:TE}{σ₀:St}{H:Hp}{Q:VK}(Pv:Nat->List V->St->Hp->Prop)(h0:Pv 0 [] σ₀ H)(hz:xs.length<=sizeLine)(hn:∀ i acc σ H,Pv i acc σ H->acc.length<=i)
  (hl:∀ i acc σ H,i<=xs.length->Pv i acc σ H->SqL K H a xs)
  (hs:∀ i x acc σ H,xs[i]? = some x->Pv i acc σ H->g x σ H fun σ2 H2=>tt σ2 H2 fun ok H3=>if ok=true then te σ2 H3 fun y H4=>Pv (i + 1) (acc++[y]) σ2 H4 else Pv (i + 1) acc σ2 H3)
  (hd:∀ acc σ H,Pv xs.length acc σ H->∀ p,H p=none->Q (.ref p) (upd H p (.lst acc))) :
  ah6 (Itl K a) g tt te Q σ₀ H:=by
 refine⟨fun i m acc σ H=>m=xs.length - i/\i<=xs.length/\Pv i acc σ H,⟨xs.length,by simp,Nat.zero_le _,h0⟩,?_⟩
 rintro i m acc σ H ⟨rfl,hi,p⟩
 have q:=hl i acc σ H hi p;have hlen:=hn i acc σ H p
 by_cases hlt:i < xs.length
 ·refine .inr ⟨⟨xs,xs[i],q,by simp[hlt]⟩,by lia,Pv (i + 1),fun acc' σ' H' p'=>⟨xs.length - (i + 1),by lia,rfl,hlt,p'⟩,fun x H' y=>?_⟩
  obtain⟨e,y⟩:=y;subst e;exact hs i x acc σ _ (y xs q) p
 ·have e:i=xs.length:=by lia
  subst e;exact .inl ⟨⟨xs,q,Nat.le_refl _⟩,by lia,hd acc σ H p⟩
theorem aC5 {K:Frag}{a:Addr}{xs:List V}{g:TG}{tt:TT}{te:TE}{σ₀:St}{H:Hp}{Q:VK}(Pv:Nat->List V->St->Hp->Prop)(h0:Pv 0 [] σ₀ H)(hz:xs.length<=sizeLine)(hn:∀ i acc σ H,Pv i acc σ H->acc.length<=i)
  (hl:∀ i acc σ H,i<=xs.length->Pv i acc σ H->SqT K H a xs)
  (hs:∀ i x acc σ H,xs[i]? = some x->Pv i acc σ H->g x σ H fun σ2 H2=>tt σ2 H2 fun ok H3=>if ok=true then te σ2 H3 fun y H4=>Pv (i + 1) (acc++[y]) σ2 H4 else Pv (i + 1) acc σ2 H3)
  (hd:∀ acc σ H,Pv xs.length acc σ H->∀ p,H p=none->Q (.ref p) (upd H p (.lst acc))) :
  ah6 (Itt K a) g tt te Q σ₀ H:=by
 refine⟨fun i m acc σ H=>m=xs.length - i/\i<=xs.length/\Pv i acc σ H,⟨xs.length,by simp,Nat.zero_le _,h0⟩,?_⟩
 rintro i m acc σ H ⟨rfl,hi,p⟩
 have q:=hl i acc σ H hi p;have hlen:=hn i acc σ H p
 by_cases hlt:i < xs.length
 ·refine .inr ⟨⟨xs,xs[i],q,by simp[hlt]⟩,by lia,Pv (i + 1),fun acc' σ' H' p'=>⟨xs.length - (i + 1),by lia,rfl,hlt,p'⟩,fun x H' y=>?_⟩
  obtain⟨e,y⟩:=y;subst e;exact hs i x acc σ _ (y xs q) p
 ·have e:i=xs.length:=by lia
  subst e;exact .inl ⟨⟨xs,q,Nat.le_refl _⟩,by lia,hd acc σ H p⟩
theorem aj8 {lo:Int}{n:Nat}{g:TG}{tt:TT}{te:TE}{σ₀:St}{H:Hp}{Q:VK}(Pv:Nat->List V->St->Hp->Prop)(h0:Pv 0 [] σ₀ H)(hz:n<=sizeLine)(hn:∀ i acc σ H,Pv i acc σ H->acc.length<=i)
  (hs:∀ i acc σ H,i < n->Pv i acc σ H->g (.int (lo + i)) σ H fun σ2 H2=>tt σ2 H2 fun ok H3=>if ok=true then te σ2 H3 fun y H4=>Pv (i + 1) (acc++[y]) σ2 H4 else Pv (i + 1) acc σ2 H3)
  (hd:∀ acc σ H,Pv n acc σ H->∀ p,H p=none->Q (.ref p) (upd H p (.lst acc))) :
  ah6 (Itr lo n) g tt te Q σ₀ H:=by
 refine⟨fun i m acc σ H=>m=n - i/\i<=n/\Pv i acc σ H,⟨n,by simp,Nat.zero_le _,h0⟩,?_⟩
 rintro i m acc σ H ⟨rfl,hi,p⟩
 have hlen:=hn i acc σ H p
 by_cases hlt:i < n
 ·refine .inr ⟨hlt,by lia,Pv (i + 1),fun acc' σ' H' p'=>⟨n - (i + 1),by lia,rfl,hlt,p'⟩,fun x H' y=>?_⟩
  obtain⟨e,y⟩:=y;subst e y;exact hs i acc σ _ hlt p
 ·have e:i=n:=by lia
  subst e;exact .inl ⟨Nat.le_refl _,by lia,hd acc σ H p⟩
theorem aV8 {c A B:Prop} [Decidable c] (h:c) (a:A):if c then A else B:=by rw[if_pos h];exact a
theorem ab7 {c A B:Prop} [Decidable c] (h:¬ c) (b:B):if c then A else B:=by rw[if_neg h];exact b
structure Callee (P:Program)(w:World)(K:Frag)(mg:Str->Option Value)(base:Heap)(k:Nat)(x:Str)(ps:List Str)(sp:Sp):Prop where
 ex:∃(f:Addr)(fd:FuncData),FnOk P w K mg base CX0 k f fd ps sp/\I9 K fd ps []/\keepIn K (.ref f)=true/\mg x=some (.ref f)
structure Def (K:Frag)(mg:Str->Option Value)(x:Str)(st:Stmt)(ps:List Str):Prop where
 ex:∃(f:Addr)(fd:FuncData),Fun K x x st f fd/\I9 K fd ps []/\mg x=some (.ref f)
section
variable {P:Program}{w:World}{K:Frag}{mg:Str->Option Value}{base:Heap}
theorem Def.ok {x:Str}{st:Stmt}{N ps:List Str}{k:Nat}{sp:Sp}(D:Def K mg x st ps)(S:FnScope N ps (d7 st))(len:∀ vs H Q E,sp vs H Q E->vs.length=ps.length)
  (hbody:∀(f:Addr)(cdv:Value)(A:Around)(outer:List Env)(s:Shared)(H:Hp)(vs:List V)(Q:VK)(E:XK),Room k (A.deeper (envOfC x (d7 st) s.heap.objs.size f cdv))->sp vs H Q E ->
   ∃ t,PSs (N5 CX0 P w K mg base N x (d7 st) f cdv A outer s H E).nox (i3 st) t/\t { nx:=fun _ H'=>Q .non H',rt:=Q } (start N vs) H):Callee P w K mg base (k + 1) x ps sp:=by
 obtain⟨f,fd,F,b,m⟩:=D.ex;exact⟨f,fd,F.ok S len fun cdv A outer s H vs Q E hr h=>hbody f cdv A outer s H vs Q E hr h,b,F.kp,m⟩
end
section
variable {X:Cx}{k n:Nat}{ps:List Str}{sp:Sp}{x:Str}{p pos:Pos}{e:Expr}{es:List Expr}{t:TA}
theorem m9 (C:Callee X.prog X.w X.K X.mg X.base k x ps sp)(hr:Room n X.A)(hg:Gl X x)(ha:PA X (e::es) t)(hk:k<=n:=by decide)(hdb:(x == ("__debug__":Str))=false:=by decide)
  (he:starEach (e::es) X.env=(false,eval e X.env)::starEach es X.env:=by rfl) (hpl:(backTo pos (starEach es X.env)).any (·.1)=false:=by rfl) :
  PE X (.Call (.Name x p) (e::es) [] pos) (bb0 sp [] E0 t):=by
 obtain⟨f,fd,F,b,kp,m⟩:=C.ex;exact a99 F (hr.mono hk) hg m kp b .nil aw7 ha hdb he hpl
theorem aB9:z7 X (.builtin "isinstance") (fun xs H Q=>∃ v T t b,xs=[v,.ty T]/\TyOf X.K H v t/\kitOne X.K t (.type T)=some b/\Q (.bl b) H):=by
 intro pins s σ H xs us Q I r h
 obtain⟨v,T,t,b,rfl,ty,e,q⟩:=h;obtain⟨u,u',rfl,r1,r2⟩:=ap1 r
 cases r2
 exact aR5 I r1 ty e fun tk=>⟨.bl b,H,I.tok _,rfl,q⟩
def bm0 (S T:String):Option Bool:=if (Value.type S == Value.type T)=true then some true else if PySem.W.kitMeta T=true then (fastBuiltinMro S).map (·.contains (.type T)) else none
theorem U1 {K:Frag}{S T:String}{b:Bool}(h:bm0 S T=some b):kitOne K (.type S) (.type T)=some b:=h
section
variable {K:Frag}
theorem U2:kitOne K (.type "int") (.type "int")=some true:=U1 (by decide +kernel)
theorem aa9:kitOne K (.type "int") (.type "bool")=some false:=U1 (by decide +kernel)
theorem U3:kitOne K (.type "tuple") (.type "tuple")=some true:=U1 (by decide +kernel)
theorem ae0:kitOne K (.type "list") (.type "list")=some true:=U1 (by decide +kernel)
theorem ad4:kitOne K (.type "list") (.type "tuple")=some false:=U1 (by decide +kernel)
theorem ax3:kitOne K (.type "tuple") (.type "list")=some false:=U1 (by decide +kernel)
theorem av6:kitOne K (.type "tuple") (.type "int")=some false:=U1 (by decide +kernel)
theorem az1:kitOne K (.type "list") (.type "int")=some false:=U1 (by decide +kernel)
end
theorem ab4:z7 X (.builtin "sorted") (fun xs H Q=>∃(p:Addr)(ns:List Int),xs=[.ref p]/\SqL X.K H p (ns.map V.int)/\ns.length < 64/\∀ ns':List Int,ns'.Perm ns->ns'.Pairwise (·<=·)->∀ l,H l=none->Q (.ref l) (upd H l (.lst (ns'.map V.int)))):=by
 intro pins s σ H xs us Q I r h
 obtain⟨p,ns,rfl,hq,h64,q⟩:=h;obtain⟨u,rfl,rx⟩:=K5 r
 cases rx
 obtain⟨its,r',pl,hz⟩:=I.list hq;have hi:IntsAre its ns:=C5 r';have hlen:its.length=ns.length:=hi.length;refine sorted_ints pl.isList hi (by lia) fun out ns' a1 a2 a3=>?_
 obtain⟨e,he⟩:=sortedAll_at s.heap its out
 have hz':(ns'.map V.int).length<=sizeLine:=by
  rw[length_map,a2.length_eq];rw[length_map] at hz;exact hz
 exact⟨.ref (s.heap.objs.size + 1),_,I.laid (t':=s.toks) (o:=.lst (ns'.map V.int)) (fun b o e=>sortedAll_old e) (Nat.le_succ _) ⟨hz',out.toList,e,R3 a1,by simpa [seqObj] using he⟩,rfl,q ns' a2 a3 _ (I.hok.fresh (Nat.le_succ _))⟩
theorem aJ0 {ns:List Int}{us:List Value}(h:IntsAre us ns):∀(i:Nat)(v:Value),us[i]? = some v->∃ t,v=.int (ns.getD i 0) t:=by
 induction h with
 | nil=>intro i v e;simp at e
 | cons n t h ih =>
  intro i v e
  cases i with
  | zero=>exact⟨t,by simpa using e.symm⟩
  | succ i =>
   obtain⟨t',e'⟩:=ih i v (by simpa using e)
   exact⟨t',by simpa using e'⟩
theorem aw8 {bs:List Bool}:∀{us:List Value},j9 (bs.map V.bl) us->∀(i:Nat)(v:Value),us[i]? = some v->v=.bool (bs.getD i false):=by
 induction bs with
 | nil=>intro us r i v e;rw[List.map_nil] at r;cases r;simp at e
 | cons b bs ih =>
  intro us r i v e
  rw[map_cons] at r
  cases r with
  | cons r1 r2 =>
   cases i with
   | zero =>
    have e':=Option.some.inj e;rw[<- e'];exact r1
   | succ i=>exact ih r2 i v (by simpa using e)
theorem aM7 (bs:List Bool):(List.range bs.length).all (fun i=>bs.getD i false)=bs.all id:=by
 rw[Bool.eq_iff_iff,all_eq_true,all_eq_true]
 constructor
 ·intro h b hb
  obtain⟨i,hi,e⟩:=getElem_of_mem hb
  have:=h i (by simpa using hi)
  simpa [List.getD,hi,e] using this
 ·intro h i hi
  have hi':i < bs.length:=by simpa using hi
  have:=h bs[i] (getElem_mem hi')
  simpa [List.getD,hi'] using this
theorem aQ2 (bs:List Bool):(List.range bs.length).any (fun i=>bs.getD i false)=bs.any id:=by
 rw[Bool.eq_iff_iff,any_eq_true,any_eq_true]
 constructor
 ·rintro⟨i,hi,e⟩
  have hi':i < bs.length:=by simpa using hi
  exact⟨bs[i],getElem_mem hi',by simpa [List.getD,hi'] using e⟩
 ·rintro⟨b,hb,e⟩
  obtain⟨i,hi,z⟩:=getElem_of_mem hb;exact⟨i,by simpa using hi,by simpa [List.getD,hi,z] using e⟩
theorem ah5 (hc:X.calm=true):z7 X (.builtin "all") (fun xs H Q=>∃(p:Addr)(bs:List Bool),xs=[.ref p]/\SqL X.K H p (bs.map V.bl)/\Q (.bl (bs.all id)) H):=by
 intro pins s σ H xs us Q I r h
 obtain⟨p,bs,rfl,hq,q⟩:=h;obtain⟨u,rfl,rx⟩:=K5 r
 cases rx
 obtain⟨its,r',pl,hz⟩:=I.list hq;have hlen:its.length=bs.length:=by rw[<- r'.length,length_map]
 obtain⟨o,n,ho,_⟩:=id pl;have hne:p≠s.heap.objs.size:=Nat.ne_of_lt (Heap.lt_size ho);refine call_all_walk (wpAny_pyIter_list pl.isList ?_);refine⟨s.heap.objs.size,_,_,its.toArray.size,_,_,fun i=>bs.getD i false,rfl,Walks.list (A:=X.A.in1) (I.ok.hd hc) s.heap.objs.size p hne its.toArray,⟨⟨_,Heap.get?_push_size _ rfl,rfl,rfl⟩,pl.isList.at fun o e=>Heap.get?_push_of_some _ e⟩,fun i v s' Q' E' e hQ=>?_,fun h' tk kk=>?_⟩
 ·rw[aw8 r' i v (by simpa using e)]
  exact wpAny_truthy_bool hQ
 ·have kp:∀ b o,s.heap.get? b=some o->h'.get? b=some o:=fun b o e=>kk b o (by simpa using Nat.ne_of_lt (Heap.lt_size e)) (Heap.get?_push_of_some _ e)
  rw[size_toArray,hlen,aM7];exact⟨.bl (bs.all id),H,I.kept kp,rfl,q⟩
theorem ai7 (hc:X.calm=true):z7 X (.builtin "any") (fun xs H Q=>∃(p:Addr)(bs:List Bool),xs=[.ref p]/\SqL X.K H p (bs.map V.bl)/\Q (.bl (bs.any id)) H):=by
 intro pins s σ H xs us Q I r h
 obtain⟨p,bs,rfl,hq,q⟩:=h;obtain⟨u,rfl,rx⟩:=K5 r
 cases rx
 obtain⟨its,r',pl,hz⟩:=I.list hq;have hlen:its.length=bs.length:=by rw[<- r'.length,length_map]
 obtain⟨o,n,ho,_⟩:=id pl;have hne:p≠s.heap.objs.size:=Nat.ne_of_lt (Heap.lt_size ho);refine call_any_walk (wpAny_pyIter_list pl.isList ?_);refine⟨s.heap.objs.size,_,_,its.toArray.size,_,_,fun i=>bs.getD i false,rfl,Walks.list (A:=X.A.in1) (I.ok.hd hc) s.heap.objs.size p hne its.toArray,⟨⟨_,Heap.get?_push_size _ rfl,rfl,rfl⟩,pl.isList.at fun o e=>Heap.get?_push_of_some _ e⟩,fun i v s' Q' E' e hQ=>?_,fun h' tk kk=>?_⟩
 ·rw[aw8 r' i v (by simpa using e)]
  exact wpAny_truthy_bool hQ
 ·have kp:∀ b o,s.heap.get? b=some o->h'.get? b=some o:=fun b o e=>kk b o (by simpa using Nat.ne_of_lt (Heap.lt_size e)) (Heap.get?_push_of_some _ e)
  rw[size_toArray,hlen,aQ2];exact⟨.bl (bs.any id),H,I.kept kp,rfl,q⟩
theorem av0 (ns ms:List Int)(h:ns.length=ms.length):((List.range ns.length).all fun j=>ns.getD j 0 == ms.getD j 0)=decide (ns=ms):=by
 rw[Bool.eq_iff_iff,all_eq_true,decide_eq_true_iff]
 constructor
 ·intro q
  apply ext_getElem h
  intro i h1 h2
  have:=q i (by simpa using h1)
  simpa [List.getD,h1,h2] using this
 ·rintro rfl i hi
  simp
theorem ao1 {A:Around}{s:Shared}{us vs:List Value}{ns ms:List Int}(h:IntsAre us ns)(h':IntsAre vs ms):∀ j (h1:j < us.toArray.size) (h2:j < vs.toArray.size),SeqAt.EqAt A s us.toArray[j] vs.toArray[j] (ns.getD j 0 == ms.getD j 0):=fun j h1 h2=>by
 obtain⟨t,e⟩:=aJ0 h j us.toArray[j] (by simp)
 obtain⟨t',e'⟩:=aJ0 h' j vs.toArray[j] (by simp)
 rw[e,e'];exact SeqAt.EqAt.int_int _ _ _ _
theorem a48 (hu:X.A.units < cLine):OpR X (compareOp .NotEq) (fun x y H Q=>∃(a b:Addr)(ns ms:List Int),x=.ref a/\y=.ref b/\SqL X.K H a (ns.map V.int)/\SqL X.K H b (ms.map V.int)/\Q (.bl (!decide (ns=ms))) H):=by
 intro pins s σ H x y v u Q I rx ry h
 obtain⟨a,b,ns,ms,rfl,rfl,ha,hb,q⟩:=h
 cases rx
 cases ry
 obtain⟨its,r1,p1,_⟩:=I.list ha;obtain⟨its2,r2,p2,_⟩:=I.list hb;have i1:IntsAre its ns:=C5 r1;have i2:IntsAre its2 ms:=C5 r2;have l1:=i1.length;have l2:=i2.length
 by_cases hl:ns.length=ms.length
 ·refine SeqAt.RcNeAt.lists (e:=fun j=>ns.getD j 0 == ms.getD j 0) p1.isList p2.isList (by simp only[size_toArray];lia) hu (ao1 i1 i2) X.prog X.w X.xe _ ?_
  rw[size_toArray,l1,av0 ns ms hl];exact⟨.bl _,H,I,rfl,q⟩
 ·refine SeqAt.RcNeAt.lists_lengths p1.isList p2.isList (by simp only[size_toArray];simpa using (by lia:its.length≠its2.length)) hu X.prog X.w X.xe _ ?_
  have e:decide (ns=ms)=false:=decide_eq_false (fun z=>hl (by rw[z]))
  rw[e] at q;exact⟨.bl true,H,I,rfl,q⟩
theorem a80 (hu:X.A.units < cLine):OpR X (compareOp .Eq) (fun x y H Q=>∃(a b:Addr)(ns ms:List Int),x=.ref a/\y=.ref b/\SqL X.K H a (ns.map V.int)/\SqL X.K H b (ms.map V.int)/\Q (.bl (decide (ns=ms))) H):=by
 intro pins s σ H x y v u Q I rx ry h
 obtain⟨a,b,ns,ms,rfl,rfl,ha,hb,q⟩:=h
 cases rx
 cases ry
 obtain⟨its,r1,p1,_⟩:=I.list ha;obtain⟨its2,r2,p2,_⟩:=I.list hb;have i1:IntsAre its ns:=C5 r1;have i2:IntsAre its2 ms:=C5 r2;have l1:=i1.length;have l2:=i2.length
 by_cases hl:ns.length=ms.length
 ·refine SeqAt.RcAt.lists (e:=fun j=>ns.getD j 0 == ms.getD j 0) p1.isList p2.isList (by simp only[size_toArray];lia) hu (ao1 i1 i2) X.prog X.w X.xe _ ?_
  rw[size_toArray,l1,av0 ns ms hl];exact⟨.bl _,H,I,rfl,q⟩
 ·refine SeqAt.RcAt.lists_lengths p1.isList p2.isList (by simp only[size_toArray];simpa using (by lia:its.length≠its2.length)) hu X.prog X.w X.xe _ ?_
  have e:decide (ns=ms)=false:=decide_eq_false (fun z=>hl (by rw[z]))
  rw[e] at q;exact⟨.bl false,H,I,rfl,q⟩
end
end L2
namespace L2
open PySem
theorem aZ2 (xs:Array Nat)(j:Nat)(mono:xs.toList.Pairwise (· < ·)):∀ fuel lo hi,hi - lo<=fuel->lo<=hi->hi<=xs.size->(∀ i,i < lo->xs.getD i j < j)->(∀ i,hi<=i->i < xs.size->j<=xs.getD i j) ->
  SetTable.below.go xs j fuel lo hi<=xs.size/\(∀ i,i < SetTable.below.go xs j fuel lo hi->xs.getD i j < j)/\∀ i,SetTable.below.go xs j fuel lo hi<=i->i < xs.size->j<=xs.getD i j:=by
 have le:∀ a b,a<=b->b < xs.size->xs.getD a j<=xs.getD b j:=fun a b h hb=>by
  rcases Nat.lt_or_eq_of_le h with h | h
  ·have:=List.pairwise_iff_getElem.mp mono a b (by simp;lia) (by simpa using hb) h
   simp only[Array.getElem_toList] at this
   simp only[Array.getD_eq_getD_getElem?,Array.getElem?_eq_getElem hb,Array.getElem?_eq_getElem (show a < xs.size by lia),Option.getD_some]
   lia
  ·rw[h];exact Nat.le_refl _
 intro fuel
 induction fuel with
 | zero =>
  intro lo hi h1 h2 h3 h4 h5
  have e:lo=hi:=by lia
  subst e;exact⟨h3,h4,h5⟩
 | succ fuel ih =>
  intro lo hi h1 h2 h3 h4 h5
  unfold SetTable.below.go
  by_cases hl:lo < hi
  ·rw[if_pos hl]
   dsimp only
   by_cases hm:xs.getD ((lo + hi) / 2) j < j
   ·rw[if_pos hm]
    refine ih _ _ (by lia) (by lia) h3 (fun i hi'=>?_) h5
    exact Nat.lt_of_le_of_lt (le i ((lo + hi) / 2) (by lia) (by lia)) hm
   ·rw[if_neg hm]
    refine ih _ _ (by lia) (by lia) (by lia) h4 (fun i hi' hs=>?_)
    exact Nat.le_trans (by lia) (le ((lo + hi) / 2) i hi' hs)
  ·rw[if_neg hl]
   have e:lo=hi:=by lia
   subst e;exact⟨h3,h4,h5⟩
theorem Y7 (xs:Array Nat)(j:Nat)(mono:xs.toList.Pairwise (· < ·)):SetTable.below xs j<=xs.size/\(∀ i,i < SetTable.below xs j->xs.getD i j < j)/\∀ i,SetTable.below xs j<=i->i < xs.size->j<=xs.getD i j :=
 aZ2 xs j mono xs.size 0 xs.size (by lia) (by lia) (Nat.le_refl _) (fun i h=>absurd h (by lia)) (fun i h h'=>absurd h' (by lia))
theorem ar5 (xs:Array Nat)(j:Nat)(mono:xs.toList.Pairwise (· < ·))(hn:xs[SetTable.below xs j]?≠some j):(SetTable.insertAt xs (SetTable.below xs j) j).toList.Pairwise (· < ·):=by
 obtain⟨h1,h2,h3⟩:=Y7 xs j mono
 have e:(SetTable.insertAt xs (SetTable.below xs j) j).toList=xs.toList.take (SetTable.below xs j)++j::xs.toList.drop (SetTable.below xs j):=by
  simp[SetTable.insertAt,List.extract_eq_take_drop,List.take_of_length_le]
 rw[e];generalize hp:SetTable.below xs j=p at *
 have gt:∀ i,p<=i->(h:i < xs.size)->j < xs[i]:=fun i hi h=>by
  have q:=h3 i hi h;rw[Array.getD_eq_getD_getElem?,Array.getElem?_eq_getElem h,Option.getD_some] at q
  rcases Nat.lt_or_eq_of_le q with q | q
  ·exact q
  ·exfalso
   have hps:p < xs.size:=by lia
   have q2:=h3 p (Nat.le_refl _) hps;rw[Array.getD_eq_getD_getElem?,Array.getElem?_eq_getElem hps,Option.getD_some] at q2
   rcases Nat.lt_or_eq_of_le hi with z | z
   ·have:=List.pairwise_iff_getElem.mp mono p i (by simpa using hps) (by simpa using h) z
    simp only[Array.getElem_toList] at this
    lia
   ·subst z
    exact hn (by rw[Array.getElem?_eq_getElem h,<- q])
 rw[List.pairwise_append,pairwise_cons];refine⟨mono.sublist (List.take_sublist _ _),⟨fun a ha=>?_,mono.sublist (List.drop_sublist _ _)⟩,fun a ha b hb=>?_⟩
 ·obtain⟨i,hi,rfl⟩:=getElem_of_mem ha
  rw[List.getElem_drop];rw[length_drop,Array.length_toList] at hi
  have:=gt (p + i) (by lia) (by lia)
  simpa using this
 ·obtain⟨i,hi,rfl⟩:=getElem_of_mem ha
  rw[length_take,Array.length_toList] at hi;have q:=h2 i (by lia)
  rw[Array.getD_eq_getD_getElem?,Array.getElem?_eq_getElem (by lia),Option.getD_some] at q
  rw[List.getElem_take];rw[Array.getElem_toList]
  rcases mem_cons.mp hb with rfl | hb
  ·exact q
  ·obtain⟨k,hk,rfl⟩:=getElem_of_mem hb
   rw[List.getElem_drop];rw[length_drop,Array.length_toList] at hk
   have:=gt (p + k) (by lia) (by lia)
   rw[Array.getElem_toList];lia
structure JT (L:Bool)(t:SetTable):Prop where
 led:t.led=L
 dum:t.dummies=#[]
 mono:t.place.toList.Pairwise (· < ·)
theorem aJ4 (j:Nat):SetTable.has #[] j=false:=by simp[SetTable.has]
theorem aE8 (t:SetTable)(j:Nat)(h:t.dummies=#[]):(t.slot j=.empty/\t.place[SetTable.below t.place j]?≠some j)\/∃ i,t.slot j=.live i:=by
 unfold SetTable.slot;rw[h,aJ4]
 dsimp only
 by_cases e:(t.place[SetTable.below t.place j]? == some j)=true
 ·rw[if_pos e];exact .inr ⟨_,rfl⟩
 ·rw[if_neg e]
  refine .inl ⟨by simp,fun q=>e ?_⟩
  rw[q];simp
theorem ax7 (t:SetTable)(hd:t.dummies=#[])(f:Nat->Int)(h:Int):∀(fuel:Nat)(p:SetTable.Probe)(j:Nat)(d:Option Nat),p.dummy=none->SetTable.probe.go t f h fuel p=some (.empty j d) ->
  d=none/\t.place[SetTable.below t.place j]?≠some j:=by
 intro fuel
 induction fuel with
 | zero=>intro p j d _ e;simp[SetTable.probe.go] at e
 | succ fuel ih =>
  intro p j d hp e
  unfold SetTable.probe.go at e
  rcases aE8 t p.j hd with⟨q,q2⟩ | ⟨i,q⟩
  ·rw[q] at e
   injection e with e
   injection e with e1 e2
   subst e1;exact⟨e2 ▸ hp,q2⟩
  ·rw[q] at e
   dsimp only at e
   have ha:(t.advance p).dummy=none:=by
    unfold SetTable.advance
    split
    ·exact hp
    ·exact hp
   split at e
   ·cases e
   ·exact ih _ j d ha e
theorem R8 {L:Bool}{t:SetTable}(n:Nat)(h:JT L t):JT L (t.standIn n) where
 led:=h.led
 dum:=rfl
 mono:=by
  show(Array.range n).toList.Pairwise (· < ·)
  rw[Array.toList_range];exact List.pairwise_lt_range
theorem aS4 {L:Bool}{t:SetTable}(es:Array (Int×Value))(h:Int)(x:Value)(J:JT L t):JT L (layNew t es h x).2.1:=by
 unfold layNew
 cases q:t.freeSlot h with
 | none=>exact R8 _ J
 | some r =>
  obtain⟨slot,wasDummy⟩:=r
  dsimp only
  have hs:t.place[SetTable.below t.place slot]?≠some slot:=by
   unfold SetTable.freeSlot at q
   cases e:t.probe (fun _=>h + 1) h (t.probeStart h) with
   | none=>rw[e] at q;cases q
   | some m =>
    rw[e] at q
    cases m with
    | candidate _ _ _=>cases q
    | empty j d =>
     obtain⟨rfl,z⟩:=ax7 t J.dum _ h _ _ j d rfl e;have q1:=Option.some.inj q
     injection q1 with q2 _
     subst q2;exact z
  have Jp:JT L (t.put slot).1:=by
   refine⟨J.led,?_,ar5 t.place slot J.mono hs⟩
   show(if SetTable.has t.dummies slot=true then _ else t.dummies)=#[]
   rw[J.dum,aJ4];rfl
  unfold SetTable.orStandIn
  split
  ·exact Jp
  ·exact R8 _ Jp
theorem a76 {L:Bool}{mask finger moves:Nat}{plain:Bool}{hs:Array Int}{t:SetTable}{o:Array Nat}(h:SetTable.laid mask finger moves L plain hs=some (t,o)):JT L t:=by
 unfold SetTable.laid at h
 cases q:SetTable.layClean mask hs with
 | none=>rw[q] at h;cases h
 | some owner =>
  rw[q] at h;have e:=Option.some.inj h
  injection e with e1 _
  subst e1;refine⟨rfl,rfl,?_⟩
  show(List.map (fun x=>x.1) ((List.range (mask + 1)).filterMap fun j=>(owner.getD j none).map (j,·))).toArray.toList.Pairwise (· < ·)
  have:∀ l:List Nat,List.Sublist (List.map (fun x:Nat×Nat=>x.1) (l.filterMap fun j=>(owner.getD j none).map (j,·))) l:=by
   intro l
   induction l with
   | nil=>exact List.Sublist.refl _
   | cons a r ih =>
    rw[filterMap_cons]
    cases (owner.getD a none) with
    | none=>exact ih.cons _
    | some k=>exact ih.cons₂ _
  exact(List.pairwise_lt_range (n:=mask + 1)).sublist (by simpa using this (List.range (mask + 1)))
theorem av3 {L:Bool}{t:SetTable}(es:Array (Int×Value))(wanted:Nat)(J:JT L t):JT L (relayAll t es wanted).2.1:=by
 unfold relayAll
 cases q:t.relaid (es.map (·.1)) wanted with
 | none=>exact R8 _ J
 | some r =>
  obtain⟨t',order⟩:=r
  dsimp only
  split
  ·unfold SetTable.relaid at q
   rw[J.led] at q;exact a76 q
  ·exact R8 _ J
theorem at9 {L:Bool}{t:SetTable}(J:JT L t):JT L { t with plain:=false }:=⟨J.led,J.dum,J.mono⟩
theorem aE6 {xs:Array Nat}(mono:xs.toList.Pairwise (· < ·))(k:Nat)(hk:k < xs.size):SetTable.below xs (xs[k] + 1)=k + 1:=by
 obtain⟨h1,h2,h3⟩:=Y7 xs (xs[k] + 1) mono
 have q1:¬ SetTable.below xs (xs[k] + 1)<=k:=fun q=>by
  have:=h3 k q hk
  rw[Array.getD_eq_getD_getElem?,Array.getElem?_eq_getElem hk,Option.getD_some] at this;lia
 have q2:¬ k + 1 < SetTable.below xs (xs[k] + 1):=fun q=>by
  have hk1:k + 1 < xs.size:=by lia
  have:=h2 (k + 1) q
  rw[Array.getD_eq_getD_getElem?,Array.getElem?_eq_getElem hk1,Option.getD_some] at this;have z:=List.pairwise_iff_getElem.mp mono k (k + 1) (by simpa using hk) (by simpa using hk1) (by lia)
  simp only[Array.getElem_toList] at z
  lia
 lia
theorem aw6 {xs:Array Nat}(mono:xs.toList.Pairwise (· < ·)):SetTable.below xs 0=0:=by
 obtain⟨h1,h2,h3⟩:=Y7 xs 0 mono
 rcases Nat.eq_zero_or_pos (SetTable.below xs 0) with h | h
 ·exact h
 ·exact absurd (h2 0 h) (by lia)
theorem Y0 {α:Type}:∀(l:List α)(i:Nat)(h:i < l.length),List.Perm (l[i]::l.eraseIdx i) l
 | a::l,0,_=>List.Perm.refl _
 | a::l,i + 1,h=>(List.Perm.swap _ _ _).trans ((Y0 l i (by simpa using h)).cons a)
theorem aj4 {α:Type}(next:Nat->Nat)(xs:Array α):List.Perm (pickOrder next xs).toList xs.toList:=by
 have go:∀(fuel k:Nat)(left:List α)(out:Array α),left.length=fuel->List.Perm (pickOrder.go next fuel k left out).toList (out.toList++left):=by
  intro fuel
  induction fuel with
  | zero =>
   intro k left out h
   have e:left=[]:=List.eq_nil_of_length_eq_zero h;subst e
   simp[pickOrder.go]
  | succ fuel ih =>
   intro k left out h
   unfold pickOrder.go;have hlt:next k % left.length < left.length:=Nat.mod_lt _ (by lia)
   rw[List.getElem?_eq_getElem hlt]
   dsimp only
   refine(ih (k + 1) _ _ (by rw[List.length_eraseIdx_of_lt hlt];lia)).trans ?_
   rw[Array.toList_push,List.append_assoc];exact List.Perm.append_left _ (Y0 left _ hlt)
 exact(go xs.size 0 xs.toList #[] (by simp)).trans (by simp)
section
variable {prog:Program}{w:World}{κ:Type} [DecidableEq κ]
def M9 (knd:KeyKind prog w κ)(h:Heap)(a:Addr)(S:κ->Bool)(n:Nat):Prop :=
 ∃ o es ep t,h.get? a=some o/\o.ExactSet/\o.data=.set es ep t/\(ElemsOf knd es.toList/\(∀ k,S k=true↔∃ e∈es.toList,knd.is k e.2=true)/\es.size < scanBound/\t.fits es.size=true/\es.size=n)/\JT (!w.params.followText "set-order") t
variable {knd:KeyKind prog w κ}{A:Around}{E:Value->Shared->Prop}{s:Shared}
theorem M9.of_get {h h':Heap}{a:Addr}{S:κ->Bool}{n:Nat}(x:M9 knd h a S n)(k:∀ o,h.get? a=some o->h'.get? a=some o):M9 knd h' a S n:=by
 obtain⟨o,es,ep,t,e,r⟩:=x;exact⟨o,es,ep,t,k o e,r⟩
theorem M9.congr {h:Heap}{a:Addr}{S S':κ->Bool}{n n':Nat}(x:M9 knd h a S n)(e:∀ k,S k=S' k)(en:n=n'):M9 knd h a S' n':=by
 obtain rfl:S=S':=funext e;subst en;exact x
theorem M9.new (h:Heap){l:Bool}(hl:l = !w.params.followText "set-order"):M9 knd (h.push { cls:=.type "set",dict:=none,data:=.set #[] 0 (.fresh 0 0 l) }) h.objs.size (fun _=>false) 0:=by
 refine⟨_,#[],0,_,Heap.get?_push_size _ rfl,⟨rfl,rfl,rfl⟩,rfl,⟨fun e he=>absurd he (by simp),fun k=>by simp,by decide,by simp[SetTable.fits,SetTable.fresh,SetTable.fill],rfl⟩,hl,rfl,?_⟩
 exact List.Pairwise.nil
theorem M9.store {h:Heap}{a:Addr}{o:Obj}{es es':Array (Int×Value)}{ep:Nat}{t t':SetTable}{S:κ->Bool}(ho:h.get? a=some o)(hx:o.ExactSet)(hd:o.data=.set es ep t)
  (el:ElemsOf knd es'.toList)(mem:∀ k,S k=true↔∃ e∈es'.toList,knd.is k e.2=true)(hb:es'.size < scanBound)(hf:t'.fits es'.size=true)(J:JT (!w.params.followText "set-order") t') :
  (h.update a (Obj.putSet es' t')).get? a=some { o with data:=.set es' (ep + 1) t' }/\M9 knd (h.update a (Obj.putSet es' t')) a S es'.size:=by
 have g:(h.update a (Obj.putSet es' t')).get? a=some { o with data:=.set es' (ep + 1) t' }:=(SetOf_store (knd:=knd) (S':=S) ho hx hd el mem hb hf).1
 exact⟨g,_,es',ep + 1,t',g,hx,rfl,⟨el,mem,hb,hf,rfl⟩,J⟩
theorem aZ7 {g:Bool->Sem Unit}(hg:∀(b:Bool)(s₁:Shared)(Q':Unit->Shared->Prop),Q' () s₁->wpAny (model prog w) A (g b) Q' E s₁)
  {a:Addr}{o:Obj}{es es1:Array (Int×Value)}{ep:Nat}{t t2:SetTable}{S:κ->Bool}{wd:Bool}{R:Option Bool->Shared->Prop}(ho:s.heap.get? a=some o)(hx:o.ExactSet)(hd:o.data=.set es ep t)
  (el:ElemsOf knd es1.toList)(mem:∀ k,S k=true↔∃ e∈es1.toList,knd.is k e.2=true)(hb:es1.size < scanBound)(hf:t2.fits es1.size=true)(J:JT (!w.params.followText "set-order") t2)
  (fin:∀ h',Heap.SameBut a s.heap h'->M9 knd h' a S es1.size->R (some true) { s with heap:=h' }) :
  wpAny (model prog w) A (do
    storeSet a es1 t2
    if (!wd&&t2.tooFull)=true then do
      g (relayAll t2 es1 (SetTable.grown es1.size)).2.2
      storeSet a (relayAll t2 es1 (SetTable.grown es1.size)).1 (relayAll t2 es1 (SetTable.grown es1.size)).2.1
      pure (some true)
     else pure (some true)) R E s:=by
 obtain⟨g1,x1⟩:=M9.store (knd:=knd) ho hx hd el mem hb hf J;have sb1:=Heap.SameBut.update s.heap a (Obj.putSet es1 t2);refine wpAny_bind (wpAny_storeSet_of ho hd ?_ (fits_of_scanBound hb))
 by_cases c:(!wd&&t2.tooFull)=true
 ·rw[if_pos c]
  have pm:=relayAll_perm t2 es1 (SetTable.grown es1.size);have ft:=relayAll_fits t2 es1 (SetTable.grown es1.size);have J2:=av3 (t:=t2) es1 (SetTable.grown es1.size) J;generalize relayAll t2 es1 (SetTable.grown es1.size)=r at pm ft J2 ⊢;obtain⟨es2,t3,gave⟩:=r
  dsimp only at pm ft J2 ⊢
  have sz:es2.size=es1.size:=by simpa using pm.length_eq
  refine wpAny_bind (hg _ _ _ (wpAny_bind (wpAny_storeSet_of g1 rfl ?_ (by rw[sz];exact fits_of_scanBound hb))))
  obtain⟨_,x2⟩:=M9.store (knd:=knd) (S:=S) g1 hx rfl (el.perm pm) (fun k=>(mem k).trans ⟨fun⟨e,he,q⟩=>⟨e,pm.mem_iff.mpr he,q⟩,fun⟨e,he,q⟩=>⟨e,pm.mem_iff.mp he,q⟩⟩) (by rw[sz];exact hb) ft J2
  rw[sz] at x2;exact wpAny_pure (fin _ (sb1.trans (Heap.SameBut.update _ a _)) x2)
 ·rw[if_neg c]
  exact wpAny_pure (fin _ sb1 x1)
theorem bl3 {a:Addr}{S:κ->Bool}{n:Nat}{k:κ}{x:Value}{Q:Bool->Shared->Prop}(hk:knd.is k x=true)(hsc:x.scannable=true)(hS:M9 knd s.heap a S n)(room:n + 1 < scanBound)
  (fin:∀ h',Heap.SameBut a s.heap h'->M9 knd h' a (fun k'=>S k' || decide (k'=k)) (if S k then n else n + 1)->Q (!S k) { s with heap:=h' }) :
  wpAny (model prog w) A (setAddHashed a x (knd.hash k)) Q E s:=by
 obtain⟨o,es,ep,t,ho,hx,hd,⟨el,mem,hb,hf,hn⟩,J⟩:=hS
 have quiet:∀(b:Bool)(s₁:Shared)(Q':Unit->Shared->Prop),Q' () s₁->wpAny (model prog w) A (match b with | true=>rule "set.scan.the-table-gave-way" | false=>pure ()) Q' E s₁:=fun b s₁ Q' z=>by
  cases b
  ·exact wpAny_pure z
  ·exact wpAny_rule z
 unfold setAddHashed setAddHashedIn;refine wpAny_holding (wpAny_bind (wpAny_setState_of ho hd hf ?_))
 dsimp only
 rw[if_pos (byScan_of hsc hb el)];unfold setAddByScan;refine wpAny_bind (wpAny_bind (wpAny_rule (wpAny_bind (wpAny_setScan_of hk ho hd hf el ?_))))
 cases found:List.findIdx? (fun e=>knd.is k e.2) es.toList with
 | some j =>
  obtain⟨hj,pj,_⟩:=List.findIdx?_eq_some_iff_getElem.mp found;have there:S k=true:=(mem k).mpr ⟨_,getElem_mem hj,pj⟩
  dsimp only
  refine wpAny_pure (wpAny_pure ?_);have z:=fin s.heap (Heap.SameBut.refl a s.heap) ⟨o,es,ep,t,ho,hx,hd,⟨el,fun k'=>?_,hb,hf,by rw[there];exact hn⟩,J⟩
  ·rw[there] at z
   exact z
  ·rw[<- mem k',Bool.or_eq_true,decide_eq_true_eq]
   exact⟨fun q=>q.elim id fun e=>by rw[e];exact there,.inl⟩
 | none =>
  have away:S k=false:=by
   cases q:S k with
   | false=>rfl
   | true =>
    obtain⟨e,he,pe⟩:=(mem k).mp q;exact absurd pe (by simpa using List.findIdx?_eq_none_iff.mp found e he)
  dsimp only
  have pm:=layNew_perm t es (knd.hash k) x;have ft:=layNew_fits t es (knd.hash k) x;have J1:=aS4 es (knd.hash k) x J;generalize layNew t es (knd.hash k) x=r at pm ft J1 ⊢;obtain⟨es1,t1,wd,gave⟩:=r
  dsimp only at pm ft J1 ⊢
  rw[Array.toList_push] at pm
  have sz:es1.size=n + 1:=by
   have:=pm.length_eq
   rw[length_append] at this
   simp at this
   lia
  have last:∀ h',Heap.SameBut a s.heap h'->M9 knd h' a (fun k'=>S k' || decide (k'=k)) es1.size->Q true { s with heap:=h' }:=fun h' sb q=>by
   have z:=fin h' sb;rw[away] at z;rw[sz] at q;exact z q
  have go:∀ t2:SetTable,t2.fits es1.size=true->JT (!w.params.followText "set-order") t2->∀(R:Option Bool->Shared->Prop),(∀ h',Heap.SameBut a s.heap h'->M9 knd h' a (fun k'=>S k' || decide (k'=k)) es1.size->R (some true) { s with heap:=h' })->wpAny (model prog w) A (do
    storeSet a es1 t2
    if (!wd&&t2.tooFull)=true then do
      (match (relayAll t2 es1 (SetTable.grown es1.size)).2.2 with | true=>rule "set.scan.the-table-gave-way" | false=>pure ())
      storeSet a (relayAll t2 es1 (SetTable.grown es1.size)).1 (relayAll t2 es1 (SetTable.grown es1.size)).2.1
      pure (some true)
     else pure (some true)) R E s:=fun t2 f2 J2 R hR =>
   aZ7 quiet ho hx hd ((el.push hk hsc).perm pm) (mem_push_iff hk mem pm) (by rw[sz];exact room) f2 J2 hR
  refine wpAny_bind (quiet _ _ _ ?_)
  by_cases c:t1.plain=true
  ·rw[if_pos c]
   refine wpAny_bind ?_;rw[hashByValue_scannable 8 hsc];refine wpAny_pure ?_;refine go _ ?_ ?_ _ fun h' sb q=>wpAny_pure (last h' sb q)
   ·split
    ·exact ft
    ·exact SetTable.fits_plain_off ft
   ·split
    ·exact J1
    ·exact at9 J1
  ·rw[if_neg c]
   refine wpAny_bind (wpAny_pure ?_);rw[if_pos rfl];exact go _ ft J1 _ fun h' sb q=>wpAny_pure (last h' sb q)
end
theorem o6:Slot "set_iterator" "__next__" "set_iterator.__next__" :=
 .of (owner:="set_iterator") (n:="__next__") (by rw[typeLookup_type,builtinLookup_eq_fast];kernel_rfl)
  (by decide +kernel) (by decide +kernel) (by decide +kernel)
  (by first | exact .inl (by decide +kernel) | exact .inr (by decide +kernel)) (by rw[isSubtype_type];kernel_rfl)
theorem S8:Slot "set_iterator" "__iter__" "set_iterator.__iter__" :=
 .of (owner:="set_iterator") (n:="__iter__") (by rw[typeLookup_type,builtinLookup_eq_fast];kernel_rfl)
  (by decide +kernel) (by decide +kernel) (by decide +kernel)
  (by first | exact .inl (by decide +kernel) | exact .inr (by decide +kernel)) (by rw[isSubtype_type];kernel_rfl)
theorem D7:entryFor table "set_iterator.__next__" = some Builtin.«set_iterator.__next__»:=entryFor_of_fast (by kernel_rfl)
theorem ab3:entryFor table "set_iterator.__iter__" = some Builtin.«dict_keyiterator.__iter__» :=
 entryFor_alias (id':="dict_keyiterator.__iter__") (by kernel_rfl)
  (by first | rfl | decide +kernel | (unfold String.splitOn;simp +decide [String.splitOnAux])) (by decide +kernel) (by kernel_rfl)
theorem af3:entryFor table "set.__iter__" = some Builtin.«frozenset.__iter__» :=
 entryFor_alias (id':="frozenset.__iter__") (by kernel_rfl)
  (by first | rfl | decide +kernel | (unfold String.splitOn;simp +decide [String.splitOnAux])) (by decide +kernel) (by kernel_rfl)
theorem E5 (a:Value):argsOk "set_iterator.__next__" ⟨[a],[]⟩:=by unfold argsOk;kernel_rfl
theorem ae5 (a:Value):argsOk "set_iterator.__iter__" ⟨[a],[]⟩:=by unfold argsOk;kernel_rfl
abbrev X4 (first:Value)(i:Nat)(a:Addr)(n ep:Nat):Obj:={ cls:=.type "set_iterator",dict:=none,data:=.fields #[first,.int i 0,.ref a,.int n 0,.int ep 0],slots:=#[] }
section
variable {prog:Program}{w:World}{A:Around}{E:Value->Shared->Prop}{s:Shared}{a I:Addr}{o:Obj}{es:Array (Int×Value)}{ep:Nat}{t:SetTable}
theorem af9 {Q:Bool->Shared->Prop}(h:Q (w.params.followText "set-order") s):wpAny (model prog w) A setsByText Q E s:=wpAny_bind (wpAny_askSetting (wpAny_pure h))
theorem au3 {Q:Array (Int×Value)->Shared->Prop}(ht:w.params.followText "set-order" = true)(ho:s.heap.get? a=some o)(hd:o.data=.set es ep t)(hf:t.fits es.size=true)
  (h:Q (pickOrder (w.params.setOrder a ep) es) s):wpAny (model prog w) A (setWalk a) Q E s:=by
 unfold setWalk;refine wpAny_bind (wpAny_setState_of ho hd hf ?_)
 dsimp only
 refine wpAny_bind (af9 ?_);rw[ht]
 simp only[if_true]
 exact wpAny_bind (wpAny_askSetting (wpAny_pure h))
theorem au5 {sl k:Nat}{Q:Option (Value×Nat)->Shared->Prop}(ht:w.params.followText "set-order" = true)(ho:s.heap.get? a=some o)(hd:o.data=.set es ep t)(hf:t.fits es.size=true)
  (h:Q (((pickOrder (w.params.setOrder a ep) es)[k]?).map fun e=>(e.2,sl)) s):wpAny (model prog w) A (setNext a sl k ep) Q E s:=by
 unfold setNext;refine wpAny_bind (wpAny_setState_of ho hd hf ?_)
 dsimp only
 refine wpAny_bind (af9 ?_);rw[ht]
 simp only[if_true,bne_self_eq_false,Bool.false_eq_true,if_false]
 exact wpAny_bind (au3 ht ho hd hf (wpAny_pure h))
theorem am1 {sl k:Nat}{Q:Option (Value×Nat)->Shared->Prop}(ht:w.params.followText "set-order" = false)(ho:s.heap.get? a=some o)(hd:o.data=.set es ep t)(hf:t.fits es.size=true)(J:JT true t)
  (hp:(!t.plain&&decide (es.size > 1))=false)(hs:SetTable.below t.place sl=k)
  (h:Q (match es[k]?,t.place[k]? with | some (_,x),some j=>some (x,j + 1) | _,_=>none) s):wpAny (model prog w) A (setNext a sl k ep) Q E s:=by
 unfold setNext;refine wpAny_bind (wpAny_setState_of ho hd hf ?_)
 dsimp only
 refine wpAny_bind (af9 ?_);rw[ht]
 simp only[Bool.false_eq_true,if_false]
 show wpAny _ _ (if (!t.plain&&decide (es.size > 1))=true then unsupported _ else _) _ _ s
 rw[hp]
 simp only[Bool.false_eq_true,if_false]
 refine wpAny_bind ?_
 show wpAny _ _ (if (!t.led&&!es.isEmpty)=true then unsupported _ else pure ()) _ _ s
 rw[J.led]
 simp only[Bool.not_true,Bool.false_and,Bool.false_eq_true,if_false]
 refine wpAny_pure ?_;rw[hs];exact wpAny_pure h
theorem M6 {Q:Array (Int×Value)->Shared->Prop}(ho:s.heap.get? a=some o)(hd:o.data=.set es ep t)(hf:t.fits es.size=true)(h:Q es s):wpAny (model prog w) A (setEntries a) Q E s:=by
 unfold setEntries;exact wpAny_bind (wpAny_setState_of ho hd hf (wpAny_pure h))
theorem aG5 {slot:Nat->Nat}{k n:Nat}{x:Value}{Q:Option Value->Shared->Prop}(hI:s.heap.get? I=some (X4 (.int (slot k:Nat) 0) k a n ep))(ho:s.heap.get? a=some o)(hd:o.data=.set es ep t)(hf:t.fits es.size=true)(hn:es.size=n)
  (hnx:∀(B:Around)(Q':Option (Value×Nat)->Shared->Prop)(E':Value->Shared->Prop),Q' (some (x,slot (k + 1))) s->wpAny (model prog w) B (setNext a (slot k) k ep) Q' E' s)
  (hQ:∀ h',h'.get? I=some (X4 (.int (slot (k + 1):Nat) 0) (k + 1) a n ep)->Heap.SameBut I s.heap h'->Q (some x) { s with heap:=h' }):wpAny (model prog w) A (pyNext (.ref I)) Q E s:=by
 have hT:s.TypeIs (.ref I) "set_iterator":=⟨_,hI,rfl⟩;unfold pyNext
 refine wpAny_bind (wpAny_attempt (wpAny_callSpecial?_slot (name:=Str.ofString "__next__") hT o6
  (wpAny_call_entry o6 hT D7 ?_ (E5 _))))
 show wpAny _ _ (fieldsOf (.ref I) >>= _) _ _ s
 refine wpAny_bind (wpAny_fieldsOf hI rfl ?_)
 show wpAny _ _ (setEntries a >>= _) _ _ s
 refine wpAny_bind (M6 ho hd hf ?_);rw[hn]
 simp only[bne_self_eq_false,Bool.false_eq_true,if_false]
 show wpAny _ _ (setNext a ((slot k:Nat):Int).toNat ((k:Nat):Int).toNat ((ep:Nat):Int).toNat >>= _) _ _ s
 simp only[Int.toNat_natCast]
 refine wpAny_bind (hnx _ _ _ ?_)
 dsimp only
 refine wpAny_bind (wpAny_setField_rec hI (by simp) fun h1 g1 s1=>?_)
 refine wpAny_bind (wpAny_setField_rec g1 (by simp) fun h2 g2 s2=>wpAny_pure ⟨x,rfl,wpAny_pure (hQ h2 ?_ (s1.trans s2))⟩)
 rw[g2]
 simp[rawInt]
theorem ao3 {α:Type}{h1:Heap}{Q:Option Value->Shared->Prop}(hh:A.handled=none)(hQ:∀ h',(∀ b ob,h1.get? b=some ob->h'.get? b=some ob)->Q none { s with heap:=h' }) :
  wpAny (model prog w) A.in1 (newExc (.type "StopIteration") [] >>= fun e=>(raiseNew e:Sem α)) (fun _ _=>False)
   (fun e s'=>wpAny (model prog w) A (do if <- isInstance e (.type "StopIteration") then pure none else throw e) Q E s') { s with heap:=h1 }:=by
 refine wpAny_bind ?_
 simp only[newExc,newTuple]
 refine wpAny_bind (wpAny_newObj_type ?_ (by size_fits))
 refine wpAny_bind (m:=firstArgMember _ _) (wpAny_of_eq (a:=Value.none) (by first | rfl | (simp only[firstArgMember];rfl)) ?_)
 refine wpAny_newObj_type ?_ (by size_fits)
 simp only[raiseNew]
 refine wpAny_bind (wpAny_handled ?_);rw[show A.in1.handled=none from hh];refine wpAny_bind (wpAny_pure (wpAny_throw ?_));refine wpAny_bind (wpAny_isInstance (T:="StopIteration") (b:=true) ⟨_,Heap.get?_push_size _ rfl,rfl⟩ isSubtype_stop ?_);exact wpAny_pure (hQ _ fun b ob e=>Heap.get?_push_of_some _ (Heap.get?_push_of_some _ e))
theorem aH6 {first:Nat}{k n:Nat}{Q:Option Value->Shared->Prop}(hh:A.handled=none)(hI:s.heap.get? I=some (X4 (.int (first:Nat) 0) k a n ep))(ho:s.heap.get? a=some o)(hd:o.data=.set es ep t)(hf:t.fits es.size=true)(hn:es.size=n)
  (hnx:∀(B:Around)(Q':Option (Value×Nat)->Shared->Prop)(E':Value->Shared->Prop),Q' none s->wpAny (model prog w) B (setNext a first k ep) Q' E' s)
  (hQ:∀ h',(∀ b ob,b≠I->s.heap.get? b=some ob->h'.get? b=some ob)->Q none { s with heap:=h' }):wpAny (model prog w) A (pyNext (.ref I)) Q E s:=by
 have hT:s.TypeIs (.ref I) "set_iterator":=⟨_,hI,rfl⟩;unfold pyNext
 refine wpAny_bind (wpAny_attempt (wpAny_callSpecial?_slot (name:=Str.ofString "__next__") hT o6
  (wpAny_call_entry o6 hT D7 ?_ (E5 _))))
 show wpAny _ _ (fieldsOf (.ref I) >>= _) _ _ s
 refine wpAny_bind (wpAny_fieldsOf hI rfl ?_)
 show wpAny _ _ (setEntries a >>= _) _ _ s
 refine wpAny_bind (M6 ho hd hf ?_);rw[hn]
 simp only[bne_self_eq_false,Bool.false_eq_true,if_false]
 show wpAny _ _ (setNext a ((first:Nat):Int).toNat ((k:Nat):Int).toNat ((ep:Nat):Int).toNat >>= _) _ _ s
 simp only[Int.toNat_natCast]
 refine wpAny_bind (hnx _ _ _ ?_)
 dsimp only
 refine wpAny_bind (wpAny_setField_rec hI (by simp) fun h1 g1 s1=>?_)
 refine wpAny_mono (ao3 (Q:=Q) (E:=E) hh fun h' kp=>hQ h' fun b ob hb e=>kp b ob (s1.extBut b ob hb e)) (fun _ _ z=>z.elim) fun e s' z=>z
theorem a75 {src:Source}{n:Nat}{Q:Nat->Shared->Prop}(hn:n≠0)(h:∀ i d,i < n->Q i { s with drawn:=d }):wpAny (model prog w) A (choose src n) Q E s :=
 fun _ _ _=>⟨hn,h _ _ (Nat.mod_lt _ (Nat.pos_of_ne_zero hn))⟩
theorem aF4 {α:Type}:∀(n:Nat)(xs:List α)(s:Shared){Q:List α->Shared->Prop},xs.length=n->(∀ ys d,ys.Perm xs->Q ys { s with drawn:=d })->wpAny (model prog w) A (drawOrder n xs) Q E s:=by
 intro n
 induction n with
 | zero =>
  intro xs s Q hn h
  obtain rfl:xs=[]:=List.eq_nil_of_length_eq_zero hn;exact wpAny_pure (h [] s.drawn (List.Perm.refl _))
 | succ n ih =>
  intro xs s Q hn h
  match xs,hn with
  | x::r,hn =>
   show wpAny _ _ (choose .order (x::r).length >>= _) _ _ s
   refine wpAny_bind (a75 (by simp) fun i d hi=>?_)
   rw[List.getElem?_eq_getElem hi]
   dsimp only
   refine wpAny_bind (ih _ _ (by rw[List.length_eraseIdx_of_lt hi];lia) fun ys d' pm=>wpAny_pure (h _ d' ((pm.cons _).trans (Y0 (x::r) i hi))))
theorem aO4 {Q:Bool->Shared->Prop}(ho:s.heap.get? a=some o)(hd:o.data=.set es ep t)(hf:t.fits es.size=true)(h:Q (!w.params.followText "set-order"&&(!t.plain&&decide (es.size > 1))) s):wpAny (model prog w) A (setDrawn a) Q E s:=by
 unfold setDrawn;refine wpAny_bind (wpAny_setState_of ho hd hf ?_)
 dsimp only
 exact wpAny_bind (af9 (wpAny_pure h))
theorem ay3 {T:Addr}{ps:List Nat}{k n p:Nat}{x:Value}{h0:Int}{Q:Option Value->Shared->Prop}(hI:s.heap.get? I=some (X4 (.ref T) k a n ep))(hTu:s.heap.get? T=some { cls:=.type "tuple",data:=.seq (ps.map fun(i:Nat)=>rawInt i).toArray })
  (ho:s.heap.get? a=some o) (hd:o.data=.set es ep t) (hf:t.fits es.size=true) (hn:es.size=n) (hp:ps[k]? = some p) (hx:es[p]? = some (h0,x))
  (hQ:∀ h',h'.get? I=some (X4 (.ref T) (k + 1) a n ep)->Heap.SameBut I s.heap h'->Q (some x) { s with heap:=h' }):wpAny (model prog w) A (pyNext (.ref I)) Q E s:=by
 have hT:s.TypeIs (.ref I) "set_iterator":=⟨_,hI,rfl⟩;unfold pyNext
 refine wpAny_bind (wpAny_attempt (wpAny_callSpecial?_slot (name:=Str.ofString "__next__") hT o6
  (wpAny_call_entry o6 hT D7 ?_ (E5 _))))
 show wpAny _ _ (fieldsOf (.ref I) >>= _) _ _ s
 refine wpAny_bind (wpAny_fieldsOf hI rfl ?_)
 show wpAny _ _ (setEntries a >>= _) _ _ s
 refine wpAny_bind (M6 ho hd hf ?_);rw[hn]
 simp only[bne_self_eq_false,Bool.false_eq_true,if_false]
 show wpAny _ _ (seqItems? (.ref T) >>= _) _ _ s
 refine wpAny_bind (wpAny_seqItems hTu rfl ?_)
 dsimp only
 have e:(ps.map fun(i:Nat)=>rawInt i).toArray[((k:Nat):Int).toNat]? = some (.int (p:Nat) 0):=by
  rw[Int.toNat_natCast,List.getElem?_toArray,List.getElem?_map,hp];rfl
 rw[e]
 dsimp only
 show wpAny _ _ (setNextDrawn a ((p:Nat):Int).toNat ((ep:Nat):Int).toNat >>= _) _ _ s
 simp only[Int.toNat_natCast]
 unfold setNextDrawn;refine wpAny_bind (wpAny_bind (wpAny_setState_of ho hd hf ?_))
 dsimp only
 simp only[bne_self_eq_false,Bool.false_eq_true,if_false,hx]
 refine wpAny_pure ?_;refine wpAny_bind (wpAny_setField_rec hI (by simp) fun h2 g2 s2=>wpAny_pure ⟨x,rfl,wpAny_pure (hQ h2 ?_ s2)⟩)
 rw[g2]
 simp[rawInt]
theorem aC6 {T:Addr}{ps:List Nat}{k n:Nat}{Q:Option Value->Shared->Prop}(hh:A.handled=none)(hI:s.heap.get? I=some (X4 (.ref T) k a n ep))(hTu:s.heap.get? T=some { cls:=.type "tuple",data:=.seq (ps.map fun(i:Nat)=>rawInt i).toArray })
  (ho:s.heap.get? a=some o) (hd:o.data=.set es ep t) (hf:t.fits es.size=true) (hn:es.size=n) (hp:ps[k]? = none)
  (hQ:∀ h',(∀ b ob,b≠I->s.heap.get? b=some ob->h'.get? b=some ob)->Q none { s with heap:=h' }):wpAny (model prog w) A (pyNext (.ref I)) Q E s:=by
 have hT:s.TypeIs (.ref I) "set_iterator":=⟨_,hI,rfl⟩;unfold pyNext
 refine wpAny_bind (wpAny_attempt (wpAny_callSpecial?_slot (name:=Str.ofString "__next__") hT o6
  (wpAny_call_entry o6 hT D7 ?_ (E5 _))))
 show wpAny _ _ (fieldsOf (.ref I) >>= _) _ _ s
 refine wpAny_bind (wpAny_fieldsOf hI rfl ?_)
 show wpAny _ _ (setEntries a >>= _) _ _ s
 refine wpAny_bind (M6 ho hd hf ?_);rw[hn]
 simp only[bne_self_eq_false,Bool.false_eq_true,if_false]
 show wpAny _ _ (seqItems? (.ref T) >>= _) _ _ s
 refine wpAny_bind (wpAny_seqItems hTu rfl ?_)
 dsimp only
 have e:(ps.map fun(i:Nat)=>rawInt i).toArray[((k:Nat):Int).toNat]? = none:=by
  rw[Int.toNat_natCast,List.getElem?_toArray,List.getElem?_map,hp];rfl
 rw[e]
 dsimp only
 refine wpAny_bind (wpAny_setField_rec hI (by simp) fun h1 g1 s1=>?_)
 refine wpAny_bind (wpAny_setField_rec g1 (by simp) fun h2 g2 s2=>?_)
 refine wpAny_mono (ao3 (Q:=Q) (E:=E) hh fun h' kp=>hQ h' fun b ob hb e=>kp b ob (s2.extBut b ob hb (s1.extBut b ob hb e))) (fun _ _ z=>z.elim) fun e s' z=>z
theorem ak0 {first:Value}{k n:Nat}{Q:Value->Shared->Prop}(hI:s.heap.get? I=some (X4 first k a n ep))(h:Q (.ref I) s):wpAny (model prog w) A (pyIter (.ref I)) Q E s:=by
 have hT:s.TypeIs (.ref I) "set_iterator":=⟨_,hI,rfl⟩;refine wpAny_pyIter_slot hT S8 (wpAny_call_entry S8 hT ab3 ?_ (ae5 _))
 show wpAny _ _ (ret (.ref I)) _ _ s
 exact wpAny_pure ⟨_,rfl,"set_iterator",_,hT,o6.lookup,h⟩
def aY4 (prog:Program)(w:World)(A:Around)(a I N:Addr)(n:Nat)(xs:List Value)(s:Shared):Prop :=
 ∃(fp:List Addr)(St:Nat->Shared->Prop),WalksS prog w A I fp [I] (fun a b=>b=a) n (fun i v=>xs[i]? = some v) St/\St 0 s/\(∀ b∈fp,(b=a\/N<=b)/\b < s.heap.objs.size)/\I∈fp
theorem aN5 {slot:Nat->Nat}{n:Nat}{xs:List Value}(hh:A.handled=none)(hne:a≠I)(hd:o.data=.set es ep t)(hf:t.fits es.size=true)(hn:es.size=n)(hxs:xs.length=n)
  (step:∀(k:Nat)(s:Shared)(B:Around)(Q':Option (Value×Nat)->Shared->Prop)(E':Value->Shared->Prop),k<=n->s.heap.get? a=some o->Q' ((xs[k]?).map fun x=>(x,slot (k + 1))) s->wpAny (model prog w) B (setNext a (slot k) k ep) Q' E' s) :
  WalksS prog w A I [I,a] [I] (fun a b=>b=a) n (fun i v=>xs[i]? = some v) (fun k s=>s.heap.get? I=some (X4 (.int (slot k:Nat) 0) k a n ep)/\s.heap.get? a=some o) where
 sub:=fun b hb=>by simp at hb;simp[hb]
 grefl:=fun _=>rfl
 gtrans:=fun _ _ _ p q=>q.trans p
 frame:=fun i s h' tk st _ kp=>⟨kp I (by simp) _ st.1,kp a (by simp) _ st.2⟩
 item:=fun i s Q E hi st hQ=>by
  have hx:xs[i]? = some (xs[i]'(by lia)):=List.getElem?_eq_getElem (by lia)
  refine aG5 (x:=xs[i]'(by lia)) st.1 st.2 hd hf hn (fun B Q' E' q=>step i s B Q' E' (by lia) st.2 (by rw[hx];exact q)) fun h' g sb=>?_
  exact hQ _ _ hx ⟨g,sb.extBut a o hne st.2⟩ ⟨fun b ob hb e=>sb.extBut b ob (fun z=>hb (by simp[z])) e,rfl,rfl,rfl,Nat.le_refl _⟩
 done:=fun s Q E st hQ=>by
  have hx:xs[n]? = none:=List.getElem?_eq_none (by lia)
  refine aH6 hh st.1 st.2 hd hf hn (fun B Q' E' q=>step n s B Q' E' (Nat.le_refl _) st.2 (by rw[hx];exact q)) fun h' kp=>?_
  exact hQ _ ⟨fun b ob hb e=>kp b ob (fun z=>hb (by simp[z])) e,rfl,rfl,rfl,Nat.le_refl _⟩
 self:=fun i s Q E st q=>ak0 st.1 q
theorem ax4 {T:Addr}{ps:List Nat}{n:Nat}{xs:List Value}(hh:A.handled=none)(hne:a≠I)(hnT:T≠I)(hd:o.data=.set es ep t)(hf:t.fits es.size=true)(hn:es.size=n)(hps:ps.length=n)
  (hx:∀(k p:Nat),ps[k]? = some p->∃ h0 x,es[p]? = some (h0,x)/\xs[k]? = some x) :
  WalksS prog w A I [I,a,T] [I] (fun a b=>b=a) n (fun i v=>xs[i]? = some v) (fun k s=>s.heap.get? I=some (X4 (.ref T) k a n ep)/\s.heap.get? a=some o/\s.heap.get? T=some { cls:=.type "tuple",data:=.seq (ps.map fun(i:Nat)=>rawInt i).toArray }) where
 sub:=fun b hb=>by simp at hb;simp[hb]
 grefl:=fun _=>rfl
 gtrans:=fun _ _ _ p q=>q.trans p
 frame:=fun i s h' tk st _ kp=>⟨kp I (by simp) _ st.1,kp a (by simp) _ st.2.1,kp T (by simp) _ st.2.2⟩
 item:=fun i s Q E hi st hQ=>by
  have hp:ps[i]? = some (ps[i]'(by lia)):=List.getElem?_eq_getElem (by lia)
  obtain⟨h0,x,e1,e2⟩:=hx i _ hp;refine ay3 st.1 st.2.2 st.2.1 hd hf hn hp e1 fun h' g sb=>?_;exact hQ _ _ e2 ⟨g,sb.extBut a o hne st.2.1,sb.extBut T _ hnT st.2.2⟩ ⟨fun b ob hb e=>sb.extBut b ob (fun z=>hb (by simp[z])) e,rfl,rfl,rfl,Nat.le_refl _⟩
 done:=fun s Q E st hQ=>by
  refine aC6 hh st.1 st.2.2 st.2.1 hd hf hn (List.getElem?_eq_none (by lia)) fun h' kp=>?_
  exact hQ _ ⟨fun b ob hb e=>kp b ob (fun z=>hb (by simp[z])) e,rfl,rfl,rfl,Nat.le_refl _⟩
 self:=fun i s Q E st q=>ak0 st.1 q
theorem aG7 {Q:Value->Shared->Prop}(ho:s.heap.get? a=some o)(hx:o.ExactSet)(hd:o.data=.set es ep t)(hf:t.fits es.size=true)(J:JT (!w.params.followText "set-order") t)(hz:es.size<=sizeLine)
  (hQ:∀(I:Addr)(xs:List Value)(h':Heap) (d),xs.Perm (es.toList.map (·.2))->s.heap.objs.size<=I->(∀ b ob,s.heap.get? b=some ob->h'.get? b=some ob) ->
   (∀ B:Around,B.handled=none->aY4 prog w B a I s.heap.objs.size es.size xs { s with heap:=h',drawn:=d })->Q (.ref I) { s with heap:=h',drawn:=d }):wpAny (model prog w) A (pyIter (.ref a)) Q E s:=by
 have hT:s.TypeIs (.ref a) "set":=⟨o,ho,hx.1⟩;have hal:a < s.heap.objs.size:=Heap.lt_size ho;refine wpAny_pyIter_slot hT F.slot_set_iter (wpAny_call_entry F.slot_set_iter hT af3 ?_ (F.args_set_iter_1 _))
 show wpAny _ _ (Builtin.Frozenset.sizeOf a >>= _) _ _ s
 refine wpAny_bind (wpAny_bind (M6 ho hd hf (wpAny_pure ?_)));refine wpAny_bind (aO4 ho hd hf ?_)
 by_cases c:(!w.params.followText "set-order"&&(!t.plain&&decide (es.size > 1)))=true
 ·rw[c]
  simp only[if_true]
  refine wpAny_bind (aF4 es.size (List.range es.size) s (by simp) fun ps d pm=>?_)
  have hps:ps.length=es.size:=by simpa using pm.length_eq
  simp only[newTuple]
  refine wpAny_bind (wpAny_newObj_type ?_ ?_)
  case refine_2 =>
   show(List.map (fun(i:Nat)=>rawInt i) ps).toArray.size<=sizeLine
   rw[size_toArray,length_map,hps];exact hz
  have ho':(s.heap.push { cls:=.type "tuple",data:=.seq (ps.map fun(i:Nat)=>rawInt i).toArray }).get? a=some o:=Heap.get?_push_of_some _ ho;refine wpAny_bind (wpAny_setEpoch_of ho' hd hf ?_);refine wpAny_bind (wpAny_newObj_type ?_);have eI:(s.heap.push { cls:=.type "tuple",data:=.seq (ps.map fun(i:Nat)=>rawInt i).toArray }).objs.size=s.heap.objs.size + 1:=Heap.size_push ..;refine wpAny_pure ⟨_,rfl,"set_iterator",_,⟨_,Heap.get?_push_size _ rfl,rfl⟩,o6.lookup,?_⟩;refine hQ _ ((ps.map fun p=>(es[p]?).map (·.2)).filterMap id) _ d ?_ (by rw[eI];exact Nat.le_succ _) (fun b ob e=>Heap.get?_push_of_some _ (Heap.get?_push_of_some _ e)) fun B hB=>?_
  ·refine((pm.map _).filterMap _).trans ?_
   rw[filterMap_map]
   have:(List.range es.size).filterMap (id ∘ fun p=>(es[p]?).map (·.2))=((List.range es.size).filterMap fun p=>es[p]?).map (·.2):=by
    rw[List.map_filterMap];rfl
   rw[this,filterMap_getElem?_range]
  ·have key:∀(l:List Nat),(∀ p∈l,p < es.size)->∀(k p:Nat),l[k]? = some p->∃ h0 x,es[p]? = some (h0,x)/\((l.map fun p=>(es[p]?).map (·.2)).filterMap id)[k]? = some x:=by
    intro l
    induction l with
    | nil=>intro _ k p e;simp at e
    | cons q r ih =>
     intro hl k p e
     have hq:=hl q mem_cons_self;have eq:es[q]? = some es[q]:=Array.getElem?_eq_getElem hq
     have e2:((q::r).map fun p=>(es[p]?).map (·.2)).filterMap id=es[q].2::(r.map fun p=>(es[p]?).map (·.2)).filterMap id:=by
      rw[map_cons,eq];rfl
     rw[e2]
     cases k with
     | zero =>
      have:q=p:=by simpa using e
      subst this;exact⟨es[q].1,es[q].2,eq,rfl⟩
     | succ k=>exact ih (fun p hp=>hl p (mem_cons_of_mem _ hp)) k p (by simpa using e)
   refine⟨_,_,ax4 (o:=o) (T:=s.heap.objs.size) (ps:=ps) hB (by rw[eI];exact Nat.ne_of_lt (Nat.lt_succ_of_lt hal)) (by rw[eI];exact Nat.ne_of_lt (Nat.lt_succ_self _)) hd hf rfl hps (key ps fun p hp=>by simpa using pm.mem_iff.mp hp),⟨Heap.get?_push_size _ rfl,Heap.get?_push_of_some _ ho',Heap.get?_push_of_some _ (Heap.get?_push_size _ rfl)⟩,fun b hb=>?_,by simp⟩
   simp only[mem_cons,not_mem_nil,or_false] at hb
   rw[Heap.size_push]
   rcases hb with rfl | rfl | rfl
   ·exact⟨.inr (by rw[eI];exact Nat.le_succ _),Nat.lt_succ_self _⟩
   ·exact⟨.inl rfl,by rw[eI];exact Nat.lt_succ_of_lt (Nat.lt_succ_of_lt hal)⟩
   ·exact⟨.inr (Nat.le_refl _),by rw[eI];exact Nat.lt_succ_of_lt (Nat.lt_succ_self _)⟩
 ·rw[Bool.eq_false_iff.mpr c]
  simp only[Bool.false_eq_true,if_false]
  refine wpAny_bind (wpAny_pure (wpAny_bind (wpAny_setEpoch_of ho hd hf ?_)));refine wpAny_bind (wpAny_newObj_type ?_);refine wpAny_pure ⟨_,rfl,"set_iterator",_,⟨_,Heap.get?_push_size _ rfl,rfl⟩,o6.lookup,?_⟩;have hne:a≠s.heap.objs.size:=Nat.ne_of_lt hal
  have go:∀(slot:Nat->Nat)(xs:List Value),slot 0=0->xs.Perm (es.toList.map (·.2))->(∀(k:Nat)(s:Shared)(B:Around)(Q':Option (Value×Nat)->Shared->Prop)(E':Value->Shared->Prop),k<=es.size->s.heap.get? a=some o->Q' ((xs[k]?).map fun x=>(x,slot (k + 1))) s->wpAny (model prog w) B (setNext a (slot k) k ep) Q' E' s) ->
    Q (.ref s.heap.objs.size) { s with heap:=s.heap.push (X4 (rawInt 0) 0 a es.size ep) }:=fun slot xs h0 pm step=>by
   refine hQ _ xs _ s.drawn pm (Nat.le_refl _) (fun b ob e=>Heap.get?_push_of_some _ e) fun B hB=>⟨_,_,aN5 (slot:=slot) hB hne hd hf rfl (by simpa using pm.length_eq) step,⟨?_,Heap.get?_push_of_some _ ho⟩,fun b hb=>?_,by simp⟩
   ·rw[h0]
    exact Heap.get?_push_size _ rfl
   ·simp only[mem_cons,not_mem_nil,or_false] at hb
    rw[Heap.size_push]
    rcases hb with rfl | rfl
    ·exact⟨.inr (Nat.le_refl _),Nat.lt_succ_self _⟩
    ·exact⟨.inl rfl,Nat.lt_succ_of_lt hal⟩
  cases ht:w.params.followText "set-order" with
  | true =>
   refine go (fun _=>0) ((pickOrder (w.params.setOrder a ep) es).toList.map (·.2)) rfl ((aj4 _ es).map _) fun k s' B Q' E' hk ho' q=>au5 ht ho' hd hf ?_
   have e:(((pickOrder (w.params.setOrder a ep) es).toList.map (·.2))[k]?).map (fun x=>(x,0))=((pickOrder (w.params.setOrder a ep) es)[k]?).map fun e=>(e.2,0):=by
    rw[List.getElem?_map,Array.getElem?_toList,Option.map_map];rfl
   rw[<- e];exact q
  | false =>
   rw[ht] at c J
   have hpl:t.place.size=es.size:=by
    simp only[SetTable.fits,Bool.and_eq_true,beq_iff_eq] at hf
    exact hf.1
   refine go (fun k=>match k with | 0=>0 | k + 1=>t.place.getD k 0 + 1) (es.toList.map (·.2)) rfl (List.Perm.refl _) fun k s' B Q' E' hk ho' q=>am1 ht ho' hd hf J (by simpa using c) ?_ ?_
   ·cases k with
    | zero=>exact aw6 J.mono
    | succ k =>
     have hk':k < t.place.size:=by lia
     have e:t.place.getD k 0=t.place[k]:=by simp[Array.getD,hk']
     show SetTable.below t.place (t.place.getD k 0 + 1)=k + 1
     rw[e];exact aE6 J.mono k hk'
   ·rcases Nat.lt_or_eq_of_le hk with hlt | heq
    ·have hk':k < t.place.size:=by lia
     have e2:t.place.getD k 0=t.place[k]:=by simp[Array.getD,hk']
     have e3:(es.toList.map (·.2))[k]? = some es[k].2:=by simp[hlt]
     rw[e3] at q
     simp only[Array.getElem?_eq_getElem hlt,Array.getElem?_eq_getElem hk']
     rw[<- e2];exact q
    ·have e3:(es.toList.map (·.2))[k]? = none:=by simp[heq]
     rw[e3] at q;have e4:es[k]? = none:=by simp[heq]
     simp only[e4]
     exact q
end
end L2
namespace L2
open PySem PyProof.Rows
theorem aF2:typeLookup (.type "set") "__len__" = pure (some (.builtin "set.__len__")):=F.slot_set_len.lookup
theorem al6:splitId "set.__len__" = some ("set","__len__"):=by kernel_rfl
section
variable {prog:Program}{w:World}{A:Around}{E:Value->Shared->Prop}{s:Shared}{a:Addr}{o:Obj}{es:Array (Int×Value)}{ep:Nat}{t:SetTable}
theorem a01 {Q:Bool->Shared->Prop}(hT:s.TypeIs (.ref a) "set")(h:Q false s):wpAny (model prog w) A (Builtin.List.listLengthHint (.ref a)) Q E s:=by
 unfold Builtin.List.listLengthHint;refine wpAny_bind (wpAny_specialOf hT aF2 ?_)
 simp only[al6]
 refine wpAny_bind (wpAny_isInstance hT sub_set_self ?_)
 simp only[Bool.not_true,Bool.false_eq_true,if_false]
 show wpAny _ _ (typeOf (.ref a) >>= _) _ _ s
 exact wpAny_bind (wpAny_typeOf hT (wpAny_pure h))
theorem aw3 {Q:List Value->Shared->Prop}(hh:A.handled=none)(ho:s.heap.get? a=some o)(hx:o.ExactSet)(hd:o.data=.set es ep t)(hf:t.fits es.size=true)(J:JT (!w.params.followText "set-order") t)(hz:es.size<=sizeLine)
  (hQ:∀(h':Heap) (d) (tk:Nat) (xs:List Value),xs.Perm (es.toList.map (·.2))->s.heap.objs.size < h'.objs.size->(∀ b ob,s.heap.get? b=some ob->h'.get? b=some ob)->Q xs { s with heap:=h',drawn:=d,toks:=tk }):wpAny (model prog w) A (collect (.ref a)) Q E s:=by
 have hal:a < s.heap.objs.size:=Heap.lt_size ho;unfold collect;refine wpAny_bind (wpAny_runValue (codeAny_builtin F.entry_proto_collect ?_));rw[Around.under_plainId F.plain_proto_collect _]
 show wpAny _ A.in1 (newList [] >>= fun l=>again (.builtin "list.__iadd__" ⟨[l,.ref a],[]⟩)) _ _ s
 refine wpAny_bind (wpAny_newObj_type ?_);refine wpAny_pure ⟨plainId_quiet F.plain_list_iadd _,codeAny_builtin F.entry_list_iadd ?_⟩;rw[Around.under_plainId F.plain_list_iadd _];generalize hH1:s.heap.push { cls:=.type "list",data:=.seq ([]:List Value).toArray }=H1;have sz1:H1.objs.size=s.heap.objs.size + 1:=by rw[<- hH1];exact Heap.size_push ..
 have old1:∀ b ob,s.heap.get? b=some ob->H1.get? b=some ob:=fun b ob e=>by rw[<- hH1];exact Heap.get?_push_of_some _ e
 have gS:H1.get? s.heap.objs.size=some { cls:=.type "list",data:=.seq ([]:List Value).toArray }:=by rw[<- hH1];exact Heap.get?_push_size _ rfl
 show wpAny _ A.in1 (Builtin.List.listExtendWith (.ref s.heap.objs.size) (.ref a) (.ref s.heap.objs.size)) _ _ { s with heap:=H1 }
 unfold Builtin.List.listExtendWith;have ho1:=old1 a o ho;refine wpAny_bind (wpAny_typeOf (T:="set") ⟨o,ho1,hx.1⟩ ?_);have h1:Builtin.List.listSameRef (.ref s.heap.objs.size) (.ref a)=false:=by simpa [Builtin.List.listSameRef] using Nat.ne_of_gt hal
 have h2:(Value.type "set" == Value.type "list")=false:=by decide
 have h3:(Value.type "set" == Value.type "tuple")=false:=by decide
 simp only[h1,h2,h3,Bool.or_false,Bool.false_eq_true,if_false]
 refine wpAny_bind (aG7 (s:={ s with heap:=H1 }) ho1 hx hd hf J hz fun I xs h' d pm hI old2 walks=>?_)
 refine wpAny_bind (wpAny_holding (a01 ⟨o,old2 a o ho1,hx.1⟩ ?_))
 show wpAny _ A.in1 (rule "list.extend.makes-room" >>= fun _=>Builtin.List.listTouch (.ref s.heap.objs.size) >>= fun _ =>
  again (.builtin "list.extend.loop" ⟨[.ref s.heap.objs.size,.ref I,.ref s.heap.objs.size],[]⟩)) _ _ _
 refine wpAny_bind (wpAny_rule (wpAny_bind ?_));have g2:=old2 _ _ gS
 show wpAny _ A.in1 (updateSeq s.heap.objs.size (·.push .none) >>= fun _=>updateSeq s.heap.objs.size (·.pop)) _ _ _
 refine wpAny_bind (wpAny_updateSeq g2 rfl ?_);have g3:=Heap.get?_update_self (Obj.mapSeq (·.push Value.none)) g2 rfl;refine wpAny_updateSeq g3 rfl ?_;have g4:=Heap.get?_update_self (Obj.mapSeq (·.pop)) g3 rfl
 have oth:∀ b ob,b≠s.heap.objs.size->h'.get? b=some ob->((h'.update s.heap.objs.size (Obj.mapSeq (·.push Value.none))).update s.heap.objs.size (Obj.mapSeq (·.pop))).get? b=some ob :=
  fun b ob hb e=>(Heap.get?_update_other _ _ (Ne.symm hb)).trans ((Heap.get?_update_other _ _ (Ne.symm hb)).trans e)
 obtain⟨fp,St,W,st,hfp,_⟩:=walks A.in1 hh
 have hSf:s.heap.objs.size∉fp:=fun hm=>by
  rcases(hfp _ hm).1 with e | e
  ·exact Nat.lt_irrefl _ (e ▸ hal)
  ·have e':H1.objs.size<=s.heap.objs.size:=e
   rw[sz1] at e';exact Nat.lt_irrefl _ e'
 refine wpAny_pure ⟨plainId_quiet F.plain_extend_loop _,codeAny_extend_loopS W hz _ hSf _ es.size 0 _ _ _ rfl (Nat.zero_le _)
  (W.frame 0 ({ s with heap:=h',drawn:=d }:Shared) _ s.toks st (Nat.le_refl _) fun b hb ob e=>oth b ob (fun z=>hSf (z ▸ hb)) e) g4 (ItemsOf.nil _) fun s' acc' c' hm hS' hacc=>?_⟩
 show wpAny _ A (load s.heap.objs.size >>= _) _ _ s'
 refine wpAny_bind (wpAny_load hS' (wpAny_pure ?_));have e1:s'.gens=s.gens:=hm.gens;have e2:s'.drawn=d:=hm.drawn;have e3:s'.os=s.os:=hm.os
 have es':s' = { s with heap:=s'.heap,drawn:=d,toks:=s'.toks }:=by
  obtain⟨h0,g0,d0,t0,o0⟩:=s'
  simp only at e1 e2 e3
  subst e1 e2 e3;rfl
 have exs:acc'.toList=xs:=by
  have hl:xs.length=es.size:=by simpa using pm.length_eq
  apply ext_getElem
  ·rw[Array.length_toList,hacc.1,hl]
  ·intro i q1 q2
   have this:xs[i]? = some acc'[i]:=hacc.2 i acc'[i] (by simp)
   rw[List.getElem?_eq_getElem q2] at this
   simpa using (Option.some.inj this).symm
 have big:s.heap.objs.size < s'.heap.objs.size:=Heap.lt_size hS';rw[exs,es'];refine hQ _ d _ xs pm big fun b ob e=>?_;have hb:b≠s.heap.objs.size:=Nat.ne_of_lt (Heap.lt_size e);refine hm.heap b ob ?_ (oth b ob hb (old2 b ob (old1 b ob e)))
 simp only[mem_cons,not_mem_nil,or_false,not_or]
 refine⟨hb,fun z=>?_⟩;have hI':H1.objs.size<=I:=hI;rw[sz1,<- z] at hI';exact Nat.lt_irrefl _ (Nat.lt_of_lt_of_le (Nat.lt_succ_of_lt (Heap.lt_size e)) hI')
theorem al9 (h:ElemsOf (intKind prog w) es.toList):∃ ks:List Int,IntsAre (es.toList.map (·.2)) ks/\∀ k,k∈ks↔∃ e∈es.toList,(intKind prog w).is k e.2=true:=by
 have go:∀ l:List (Int×Value),ElemsOf (intKind prog w) l->∃ ks:List Int,IntsAre (l.map (·.2)) ks/\∀ k,k∈ks↔∃ e∈l,(intKind prog w).is k e.2=true:=by
  intro l
  induction l with
  | nil=>intro _;exact⟨[],.nil,by simp⟩
  | cons e r ih =>
   intro h
   obtain⟨ks,h1,h2⟩:=ih h.tail;obtain⟨⟨k,hk,_⟩,_⟩:=h.head;obtain⟨tk,ek⟩:=Value.isInt_shape (k:=k) (v:=e.2) hk;refine⟨k::ks,?_,fun k'=>?_⟩
   ·rw[map_cons,ek]
    exact .cons k tk h1
   ·rw[mem_cons,h2 k']
    constructor
    ·rintro(rfl | ⟨e',he,q⟩)
     ·exact⟨e,mem_cons_self,hk⟩
     ·exact⟨e',mem_cons_of_mem _ he,q⟩
    ·rintro⟨e',he,q⟩
     rcases mem_cons.mp he with rfl | he
     ·exact .inl ((intKind prog w).inj e'.2 k' k q hk)
     ·exact .inr ⟨e',he,q⟩
 exact go _ h
theorem IntsAre.perm {vs us:List Value}(p:us.Perm vs):∀{ns:List Int},IntsAre vs ns->∃ ms,IntsAre us ms/\ms.Perm ns:=by
 induction p with
 | nil=>intro ns h;exact⟨ns,h,List.Perm.refl _⟩
 | cons x _ ih =>
  intro ns h
  cases h with
  | cons n t h=>obtain⟨ms,h1,h2⟩:=ih h;exact⟨n::ms,.cons n t h1,h2.cons n⟩
 | swap x y l =>
  intro ns h
  cases h with
  | cons n t h=>cases h with
   | cons m u h=>exact⟨_,.cons m u (.cons n t h),List.Perm.swap _ _ _⟩
 | trans _ _ ih1 ih2 =>
  intro ns h
  obtain⟨ms,h1,h2⟩:=ih2 h;obtain⟨ls,h3,h4⟩:=ih1 h1;exact⟨ls,h3,h4.trans h2⟩
theorem aD6 {S:Int->Bool}{n:Nat}{Q:Value->Shared->Prop}(hh:A.handled=none)(hS:M9 (intKind prog w) s.heap a S n)(h64:n < 64)
  (h:∀(l:Addr)(h':Heap) (d) (tk e:Nat) (out:Array Value) (ns:List Int),IntsAre out.toList ns->ns.Pairwise (·<=·)->(∀ k,k∈ns↔S k=true)->ns.length=n->s.heap.objs.size<=l->(∀ b ob,s.heap.get? b=some ob->h'.get? b=some ob) ->
   h'.get? l=some (seqObj "list" out e)->Q (.ref l) { s with heap:=h',drawn:=d,toks:=tk }):wpAny (model prog w) A (call (.builtin "sorted") [.ref a]) Q E s:=by
 obtain⟨o,es,ep,t,ho,hx,hd,⟨el,mem,hb,hf,hn⟩,J⟩:=hS;obtain⟨ks,ik,mk⟩:=al9 el;refine Calls.call_function_entry kind_sorted plain_sorted entry_sorted (args_sorted1 _) ?_;unfold Builtin.«sorted»;refine wpAny_bind (m:=checkCount "sorted" 1 1 _) (wpAny_pure ?_);refine wpAny_bind (aw3 hh ho hx hd hf J (fits_of_scanBound hb) fun h1 d tk xs pm big old=>?_);obtain⟨ms,im,pms⟩:=IntsAre.perm pm ik;have hxl:xs.length=n:=by rw[<- hn];simpa using pm.length_eq
 refine wpAny_bind (wpAny_newList ?_ (by rw[hxl];exact Nat.le_trans (Nat.le_of_lt h64) (by decide)))
 have hoL:(h1.push (seqObj "list" xs.toArray 0)).get? h1.objs.size=some (seqObj "list" xs.toArray 0):=Heap.get?_push_size _ rfl
 show wpAny _ _ _ _ _ { s with heap:=h1.push (seqObj "list" xs.toArray 0),drawn:=d,toks:=tk }
 refine wpAny_bind (wpAny_holding (wpAny_call_entry slot_list_sort ⟨_,hoL,rfl⟩ entry_list_sort (list_sort_tree hoL im (by lia) fun out ns a1 a2 a3=>⟨_,rfl,?_⟩) (args_list_sort _)))
 obtain⟨e,he⟩:=sortedHeap_at (out:=out) hoL;refine wpAny_pure ⟨_,rfl,h h1.objs.size _ d tk e out ns a1 a3 (fun k=>?_) ?_ ?_ (fun b ob q=>?_) he⟩
 ·rw[a2.mem_iff,pms.mem_iff,mk k,mem k]
 ·rw[a2.length_eq,pms.length_eq,<- ik.length,length_map,Array.length_toList,hn]
 ·exact Nat.le_of_lt big
 ·have q1:=old b ob q
  have hlt:=Heap.lt_size q1;rw[sortedHeap_old (Nat.ne_of_lt hlt) (by rw[Heap.size_push];exact Nat.lt_succ_of_lt hlt)]
  exact Heap.get?_push_of_some _ q1
end
section
variable {prog:Program}{w:World}{A:Around}{R:Result->Shared->Prop}{I:Addr}{fp wr:List Addr}{G:Array GenState->Array GenState->Prop}{n:Nat}{P:Nat->Value->Prop}{St:Nat->Shared->Prop}
abbrev U4 (prog:Program)(w:World)(val:Nat->Int)(i:Nat)(h:Heap)(S:Addr):Prop:=M9 (intKind prog w) h S (fun k=>(firstMet val i).any (· == k)) (firstMet val i).length
theorem aA3 (W:WalksS prog w A.in1 I fp wr G n P St)(S:Addr)(hSf:S∉fp)(val:Nat->Int)(hval:∀ i v,P i v->∃ t,v=.int (val i) t)(hb:n + 1 < scanBound) :
  ∀(k i:Nat)(s:Shared),n - i=k->i<=n->St i s->U4 prog w val i s.heap S->(∀ s',Moved (S::wr) G s s'->U4 prog w val n s'.heap S->R (.ok (.ret .none)) s') ->
   codeAny (model prog w) A (.builtin "set.update.loop" ⟨[.ref S,.ref I],[]⟩) R s:=by
 have hSw:S∉wr:=fun z=>hSf (W.sub _ z);have sub:∀ b∈wr,b∈S::wr:=fun b q=>mem_cons_of_mem _ q
 intro k
 induction k with
 | zero =>
  intro i s hk hi st x fin
  obtain rfl:i=n:=by lia
  refine codeAny_builtin PyProof.Rows.F.entry_set_update_loop ?_;rw[Around.under_plainId PyProof.Rows.F.plain_set_update_loop _]
  show wpAny _ A.in1 (pyNext (.ref I) >>= _) _ _ s
  refine wpAny_bind (W.done s _ _ st fun s' m=>?_)
  show wpAny _ A.in1 (ret Value.none) _ _ s'
  exact wpAny_pure (fin s' (m.mono sub) (x.of_get fun o e=>m.heap S _ hSw e))
 | succ k ih =>
  intro i s hk hi st x fin
  have lt:i < n:=by lia
  refine codeAny_builtin PyProof.Rows.F.entry_set_update_loop ?_;rw[Around.under_plainId PyProof.Rows.F.plain_set_update_loop _]
  show wpAny _ A.in1 (pyNext (.ref I) >>= _) _ _ s
  refine wpAny_bind (W.item i s _ _ lt st fun v s' pv st' m=>?_);obtain⟨t,rfl⟩:=hval i v pv;have x':U4 prog w val i s'.heap S:=x.of_get fun o e=>m.heap S _ hSw e
  show wpAny _ A.in1 (holding [Value.int (val i) t] (setAdd S (.int (val i) t)) >>= _) _ _ s'
  refine wpAny_bind (wpAny_holding ?_);unfold setAdd;refine wpAny_holding (wpAny_bind ((intKind prog w).pyHash (k:=val i) (intKind_is _ _ _ _) ?_));have room:(firstMet val i).length + 1 < scanBound:=by have:=firstMet_length_le val i;lia
  refine bl3 (knd:=intKind prog w) (s:={ s' with toks:=s'.toks + 1 }) (intKind_is _ _ _ _) rfl x' room fun h' sb x2=>?_
  have x3:U4 prog w val (i + 1) h' S:=x2.congr (fun k'=>by rw[firstMet_succ,step_any]) (by rw[firstMet_succ,step_length])
  refine wpAny_pure ⟨plainId_quiet PyProof.Rows.F.plain_set_update_loop _,ih (i + 1) _ (by lia) lt (W.frame _ s' _ _ st' (Nat.le_succ _) fun b hb o e=>?_) x3 fun s'' m2 x4=>?_⟩
  ·rw[sb.2 b (fun z:b=S=>hSf (z ▸ hb))];exact e
  ·refine fin s'' (Moved.trans W.gtrans ((m.mono sub).then_heap (Nat.le_succ _) fun b o hb e=>?_) m2) x4
   rw[sb.2 b (fun z:b=S=>hb (z ▸ mem_cons_self))];exact e
end
section
variable {prog:Program}{w:World}{A:Around}{E:Value->Shared->Prop}{s:Shared}
abbrev K0 (w:World):Obj:={ cls:=.type "set",dict:=none,data:=.set #[] 0 (.fresh 0 0 (!w.params.followText "set-order")) }
theorem ad6 (a:Value){Q:Value->Shared->Prop}(h:Q (.ref s.heap.objs.size) { s with heap:=s.heap.push (K0 w) }) :
  codeAny (model prog w) A (.call (.builtin "set.__new__") ⟨[.type "set",a],[]⟩) (wants Q E) s:=by
 refine codeAny_of_tree ?_
 show wpAny _ A.in1 (do checkBuiltinCall "set.__new__" ⟨[.type "set",a],[]⟩;again (.builtin "set.__new__" ⟨[.type "set",a],[]⟩)) _ _ s
 refine wpAny_bind (wpAny_of_eq (PySem.F.newCall_set_1 a) (wpAny_pure ⟨plainId_quiet PySem.F.plain_set_new _,codeAny_builtin PySem.F.entry_set_new ?_⟩));rw[Around.under_plainId PySem.F.plain_set_new _];unfold Builtin.«set.__new__» Builtin.Frozenset.newClass;have hsub:=sub_set_self;obtain⟨hp,g,d,tk,os⟩:=s
 dsimp only
 wp_walk
 refine wpAny_askSetting (wpAny_pure ?_)
 dsimp only
 simp only[newObj]
 exact wpAny_bind (wpAny_alloc (wpAny_pure (wpAny_pure h)))
set_option maxHeartbeats 3200000 in
theorem az8 {l:Addr}{items:Array Value}{ns:List Int}{Q:Value->Shared->Prop}(hh:A.handled=none)(hl:s.heap.IsList l items)(hi:IntsAre items.toList ns)(hb:items.size + 1 < scanBound)
  (h:∀(h':Heap)(tk:Nat),U4 prog w (fun i=>ns.getD i 0) items.size h' s.heap.objs.size->(∀ b o,b < s.heap.objs.size->s.heap.get? b=some o->h'.get? b=some o)->Q (.ref s.heap.objs.size) { s with heap:=h',toks:=tk }) :
  wpAny (model prog w) A (call (.type "set") [.ref l]) Q E s:=by
 obtain⟨c,tl,hmro⟩:=PySem.F.called_set.mro;have hmade:=PySem.F.called_set.made;have hsub:=PySem.F.called_set.sub;refine wpAny_call (codeAny_of_tree ?_)
 show wpAny _ _ (callAny (.type "set") _) _ _ _
 refine wpAny_pure ⟨Code.quiet_builtin _ (by decide +kernel),codeAny_builtin PySem.F.entry_type_call ?_⟩
 rw[Around.under_plain (weight_type_call_type "set" [.ref l] []) rfl];have h1:=PySem.F.called_set.notType;have h2:=PySem.F.called_set.canCreate;have hct:=PySem.F.typeCall_set_1 (.ref l)
 repeat (any_goals (first | assumption | wp_step))
 refine codeAny_mono (ad6 (.ref l) (E:=E) (Q:=fun obj s₁=>obj=.ref s.heap.objs.size/\s₁ = { s with heap:=s.heap.push (K0 w) }) ⟨rfl,rfl⟩) fun r s₁ hr=>?_
 cases r with
 | error e=>exact hr
 | ok fl =>
  cases fl with
  | ret obj =>
   obtain⟨rfl,rfl⟩:=hr;have hS:(s.heap.push (K0 w)).get? s.heap.objs.size=some (K0 w):=Heap.get?_push_size _ rfl;have hT:Shared.TypeIs { s with heap:=s.heap.push (K0 w) } (.ref s.heap.objs.size) "set":=⟨_,hS,rfl⟩
   have hli:=PySem.F.called_set.init.lookup;have hbi:=PySem.F.called_set.init.bind (.ref s.heap.objs.size)
   repeat (any_goals (first | assumption | wp_step))
   refine codeAny_mono (codeAny_call_builtin (R:=wants (fun r s₂=>r=.none/\∃ h' tk,s₂ = { s with heap:=h',toks:=tk }/\U4 prog w (fun i=>ns.getD i 0) items.size h' s.heap.objs.size /\
     (∀ b o,b < s.heap.objs.size->s.heap.get? b=some o->h'.get? b=some o)) E) PySem.F.called_set.init.plain PySem.F.entry_set_init (check_set_init_1 hT ?_)) fun r₂ s₂ hr₂=>?_
   ·obtain⟨ol,hol,hcl,nl,hdl⟩:=id hl
    have hol':(s.heap.push (K0 w)).get? l=some ol:=Heap.get?_push_of_some _ hol;have hTl:Shared.TypeIs { s with heap:=s.heap.push (K0 w) } (.ref l) "list":=⟨ol,hol',hcl⟩
    have hsls:=PySem.F.sub_list_set;have hslf:=PySem.F.sub_list_frozenset;have hne:(Value.type "list" == Value.type "dict")=false:=by decide
    have hl1:(s.heap.push (K0 w)).IsList l items:=⟨_,hol',hcl,nl,hdl⟩;unfold Builtin.«set.__init__» noKeywords Builtin.Frozenset.updateFrom;generalize hPI:pyIter=PI
    wp_walk
    subst hPI;refine wpAny_pyIter_list hl1 (wpAny_bind (wpAny_runValue ?_));have hlS:l < s.heap.objs.size:=Heap.lt_size hol;have hneI:l≠(s.heap.push (K0 w)).objs.size:=by rw[Heap.size_push];exact Nat.ne_of_lt (Nat.lt_succ_of_lt hlS)
    have hSf:s.heap.objs.size∉[(s.heap.push (K0 w)).objs.size,l]:=by
     rw[Heap.size_push]
     simp only[mem_cons,not_mem_nil,or_false,not_or]
     exact⟨Nat.ne_of_lt (Nat.lt_succ_self _),Nat.ne_of_gt hlS⟩
    refine aA3 ((Walks.list (by simpa using hh) _ l hneI items).toS) s.heap.objs.size hSf (fun i=>ns.getD i 0) (fun i v hv=>PyProof.Rows.IntsAre.int_at hi i v (by rw[Array.getElem?_toList];exact hv)) hb (items.size - 0) 0 _ (by lia) (Nat.zero_le _)
     ⟨⟨_,Heap.get?_push_size _ rfl,rfl,rfl⟩,(hl1.push _)⟩ ?hS0 ?hR
    case hS0 =>
     exact((M9.new (knd:=intKind prog w) s.heap rfl).congr (fun _=>rfl) rfl).of_get fun o e=>Heap.get?_push_of_some _ e
    case hR =>
     intro s' m x
     obtain⟨h',g',d',tk',os'⟩:=s';have eg:g'=s.gens:=m.gens;have ed:d'=s.drawn:=m.drawn;have eo:os'=s.os:=m.os;subst eg ed eo
     show wpAny _ _ _ _ _ _
     refine wpAny_pure ?_
     show wpAny _ _ (ret Value.none) _ _ _
     refine wpAny_pure ⟨rfl,h',tk',rfl,x,fun b o q e=>?_⟩;refine m.heap b o ?_ (Heap.get?_push_of_some _ (Heap.get?_push_of_some _ e))
     simp only[mem_cons,not_mem_nil,or_false,not_or]
     refine⟨Nat.ne_of_lt q,?_⟩;rw[Heap.size_push];exact Nat.ne_of_lt (Nat.lt_succ_of_lt q)
   ·cases r₂ with
    | error e=>exact hr₂
    | ok fl₂ =>
     cases fl₂ with
     | ret r =>
      obtain⟨rfl,h',tk,rfl,x,kp⟩:=hr₂
      repeat (any_goals (first | assumption | wp_step))
      exact h _ _ x kp
     | _=>exact hr₂.elim
  | _=>exact hr.elim
end
end L2
namespace L2
open PySem PySem.W PyProof.Rows
def ev {α:Type}(lt:Nat->Nat->Bool):KasT α->α
 | .ret a=>a
 | .ask i j k=>ev lt (k (lt i j))
theorem V8 {α β:Type}(lt:Nat->Nat->Bool)(f:α->KasT β):∀ t:KasT α,ev lt (t.bind f)=ev lt (f (ev lt t))
 | .ret _=>rfl
 | .ask i j k=>V8 lt f (k (lt i j))
section
variable {r:Nat->Int}
abbrev ltR (r:Nat->Int):Nat->Nat->Bool:=fun i j=>decide (r i < r j)
abbrev ky (r:Nat->Int)(p:Array Nat)(k:Nat):Int:=r (p.getD k 0)
theorem Y5 {α:Type}(lt:Nat->Nat->Bool)(i j:Nat)(k:Bool->KasT α):ev lt (.ask i j k)=ev lt (k (lt i j)):=rfl
theorem ax9 {i j:Nat}(c:r i < r j):ltR r i j=true:=decide_eq_true c
theorem aA9 {i j:Nat}(c:¬ r i < r j):ltR r i j=false:=decide_eq_false c
def Up (r:Nat->Int)(p:Array Nat)(b:Nat):Prop:=∀ i,0 < i->i < b->ky r p (i - 1)<=ky r p i
def Dn (r:Nat->Int)(p:Array Nat)(b:Nat):Prop:=∀ i,0 < i->i < b->ky r p i<=ky r p (i - 1)
def Eqs (r:Nat->Int)(p:Array Nat)(a b:Nat):Prop:=∀ i,a < i->i < b->ky r p i=ky r p (i - 1)
theorem Up.mono {p:Array Nat}{b:Nat}(h:Up r p b):∀ i j,i<=j->j < b->ky r p i<=ky r p j:=by
  intro i j hij hj
  induction j with
  | zero =>
    have:i=0:=by lia
    subst this;exact Int.le_refl _
  | succ j ih =>
    rcases Nat.lt_or_eq_of_le hij with q | q
    · exact Int.le_trans (ih (by lia) (by lia)) (h (j + 1) (by lia) hj)
    · rw[q];exact Int.le_refl _
theorem Dn.mono {p:Array Nat}{b:Nat}(h:Dn r p b):∀ i j,i<=j->j < b->ky r p j<=ky r p i:=by
  intro i j hij hj
  induction j with
  | zero =>
    have:i=0:=by lia
    subst this;exact Int.le_refl _
  | succ j ih =>
    rcases Nat.lt_or_eq_of_le hij with q | q
    · exact Int.le_trans (h (j + 1) (by lia) hj) (ih (by lia) (by lia))
    · rw[q];exact Int.le_refl _
theorem Eqs.all {p:Array Nat}{a b:Nat}(h:Eqs r p a b):∀ i,a<=i->i < b->ky r p i=ky r p a:=by
  intro i hi hb
  induction i with
  | zero =>
    have:a=0:=by lia
    subst this;rfl
  | succ i ih =>
    rcases Nat.lt_or_eq_of_le hi with q | q
    · rw[h (i + 1) q hb];exact ih (by lia) (by lia)
    · rw[q]
theorem ag3 {p:Array Nat}{i j:Nat}(hj:j<=p.size)(k:Nat):(kas_rev p i j).getD k 0=if i<=k/\k < j then p.getD (i + j - 1 - k) 0 else p.getD k 0:=by
 unfold kas_rev;have e:=getElem?_mirror (xs:=p) (i:=i) hj ((j - i) / 2) (by lia) k
 rw[Array.getD_eq_getD_getElem?,e]
 by_cases c:i<=k/\k < j
 ·rw[if_pos c]
  by_cases d:i<=k/\k < i + (j - i) / 2\/j - (j - i) / 2<=k/\k < j
  ·rw[if_pos d,Array.getD_eq_getD_getElem?]
  ·rw[if_neg d]
   have:i + j - 1 - k=k:=by lia
   rw[this,Array.getD_eq_getD_getElem?]
 ·rw[if_neg c,if_neg (by lia),Array.getD_eq_getD_getElem?]
theorem at5 {p:Array Nat}{i j:Nat}(hj:j<=p.size)(h:Eqs r p i j)(k:Nat):ky r (kas_rev p i j) k=ky r p k:=by
 show r _=r _
 rw[ag3 hj]
 by_cases c:i<=k/\k < j
 ·rw[if_pos c]
  have e1:ky r p (i + j - 1 - k)=ky r p i:=h.all _ (by lia) (by lia)
  have e2:ky r p k=ky r p i:=h.all _ c.1 c.2;exact e1.trans e2.symm
 ·rw[if_neg c]
theorem Q8 (p:Array Nat)(i j:Nat):(kas_rev p i j).size=p.size:=mirror_size _ _ _ _
theorem J5 (p:Array Nat)(i j:Nat):(kas_rev p i j).Perm p:=mirror_perm _ _ _ _
theorem aV4 (p:Array Nat):∀ f n,1<=n->Up r p n->n<=ev (ltR r) (kas_asc p f n)/\ev (ltR r) (kas_asc p f n)<=n + f/\Up r p (ev (ltR r) (kas_asc p f n)) /\
  (ev (ltR r) (kas_asc p f n) < n + f->ky r p (ev (ltR r) (kas_asc p f n)) < ky r p (ev (ltR r) (kas_asc p f n) - 1)):=by
 intro f
 induction f with
 | zero=>intro n h1 h;exact⟨Nat.le_refl _,Nat.le_refl _,h,fun q=>absurd q (Nat.lt_irrefl _)⟩
 | succ f ih =>
  intro n h1 h
  unfold kas_asc;rw[Y5]
  by_cases c:r (p.getD n 0) < r (p.getD (n - 1) 0)
  ·rw[ax9 c,if_pos rfl]
   exact⟨Nat.le_refl _,by show n<=n + (f + 1);lia,h,fun _=>c⟩
  ·rw[aA9 c,if_neg (by simp)]
   obtain⟨q1,q2,q3,q4⟩:=ih (n + 1) (by lia) (fun i hi hb=>by
    rcases Nat.lt_or_eq_of_le (Nat.le_of_lt_succ hb) with z | z
    ·exact h i hi z
    ·subst z;exact Int.not_lt.mp c)
   exact⟨by lia,by lia,q3,fun z=>q4 (by lia)⟩
theorem a73:∀(f:Nat)(p:Array Nat)(n q:Nat),q < n->n + f<=p.size->Dn r p n->Eqs r p (n - (q + 1)) n ->
  ∃ p' n' q',ev (ltR r) (kas_desc f p n q)=(p',n',q')/\q' < n'/\n<=n'/\n'<=n + f/\p'.size=p.size/\p'.Perm p/\Dn r p' n'/\Eqs r p' (n' - (q' + 1)) n':=by
 intro f
 induction f with
 | zero=>intro p n q hq hz hd he;exact⟨p,n,q,rfl,hq,Nat.le_refl _,Nat.le_refl _,rfl,Array.Perm.refl _,hd,he⟩
 | succ f ih =>
  intro p n q hq hz hd he
  unfold kas_desc;rw[Y5]
  by_cases c:r (p.getD n 0) < r (p.getD (n - 1) 0)
  ·rw[ax9 c,if_pos rfl]
   have step:∀ p1:Array Nat,p1.size=p.size->p1.Perm p->(∀ k,ky r p1 k=ky r p k)->∃ p' n' q',ev (ltR r) (kas_desc f p1 (n + 1) 0)=(p',n',q')/\q' < n'/\n<=n'/\n'<=n + (f + 1)/\p'.size=p.size/\p'.Perm p/\Dn r p' n'/\Eqs r p' (n' - (q' + 1)) n':=fun p1 s1 pm hk=>by
    obtain⟨p',n',q',e,a1,a2,a3,a4,a5,a6,a7⟩:=ih p1 (n + 1) 0 (by lia) (by lia) (fun i hi hb=>by
     rw[hk,hk]
     rcases Nat.lt_or_eq_of_le (Nat.le_of_lt_succ hb) with z | z
     ·exact hd i hi z
     ·subst z;exact Int.le_of_lt c) (fun i hi hb=>by lia)
    exact⟨p',n',q',e,a1,by lia,by lia,a4.trans s1,a5.trans pm,a6,a7⟩
   by_cases cq:q > 0
   ·rw[if_pos cq]
    exact step _ (Q8 _ _ _) (J5 _ _ _) (at5 (by lia) he)
   ·rw[if_neg cq]
    exact step p rfl (Array.Perm.refl _) fun _=>rfl
  ·rw[aA9 c,if_neg (by simp)]
   rw[Y5]
   by_cases d:r (p.getD (n - 1) 0) < r (p.getD n 0)
   ·rw[ax9 d,if_pos rfl]
    exact⟨p,n,q,rfl,hq,Nat.le_refl _,by lia,rfl,Array.Perm.refl _,hd,he⟩
   ·rw[aA9 d,if_neg (by simp)]
    have eqn:ky r p n=ky r p (n - 1):=Int.le_antisymm (Int.not_lt.mp d) (Int.not_lt.mp c)
    obtain⟨p',n',q',e,a1,a2,a3,a4,a5,a6,a7⟩:=ih p (n + 1) (q + 1) (by lia) (by lia) (fun i hi hb=>by
     rcases Nat.lt_or_eq_of_le (Nat.le_of_lt_succ hb) with z | z
     ·exact hd i hi z
     ·subst z;exact Int.le_of_eq eqn) (fun i hi hb=>by
     rcases Nat.lt_or_eq_of_le (Nat.le_of_lt_succ hb) with z | z
     ·exact he i (by lia) z
     ·subst z;exact eqn)
    exact⟨p',n',q',e,a1,by lia,by lia,a4,a5,a6,a7⟩
def Run (r:Nat->Int)(p:Array Nat)(nrem:Nat)(x:Nat×Array Nat):Prop:=x.1<=nrem/\1<=x.1/\x.2.size=p.size/\x.2.Perm p/\Up r x.2 x.1
theorem av4 {p:Array Nat}{n nrem:Nat}(h1:1<=n)(hn:n<=nrem)(hz:nrem<=p.size)(hd:Dn r p n):Run r p nrem (ev (ltR r) (kas_tail3 n nrem p)):=by
 unfold kas_tail3;rw[V8]
 have hu:Up r (kas_rev p 0 n) n:=fun i hi hb=>by
  show r _<=r _
  rw[ag3 (by lia),ag3 (by lia),if_pos (by lia),if_pos (by lia)]
  exact hd.mono (0 + n - 1 - i) (0 + n - 1 - (i - 1)) (by lia) (by lia)
 obtain⟨a1,a2,a3,_⟩:=aV4 (kas_rev p 0 n) (nrem - n) n h1 hu;exact⟨by show ev (ltR r) _<=_;lia,by show 1<=ev (ltR r) _;lia,Q8 _ _ _,J5 _ _ _,a3⟩
theorem Run.of {p p1:Array Nat}{nrem:Nat}{x:Nat×Array Nat}(h:Run r p1 nrem x)(s:p1.size=p.size)(m:p1.Perm p):Run r p nrem x:=⟨h.1,h.2.1,h.2.2.1.trans s,h.2.2.2.1.trans m,h.2.2.2.2⟩
theorem ad5 {p:Array Nat}{n nrem:Nat}(hn:n + 1<=nrem)(hz:nrem<=p.size)(hd:Dn r p (n + 1)):Run r p nrem (ev (ltR r) (kas_descPart n nrem p)):=by
 unfold kas_descPart;rw[V8];obtain⟨p',n',q',e,a1,a2,a3,a4,a5,a6,a7⟩:=a73 (nrem - (n + 1)) p (n + 1) 0 (by lia) (by lia) hd (fun i hi hb=>by lia)
 rw[e]
 dsimp only
 by_cases c:q' > 0
 ·rw[if_pos c]
  have k:=at5 (r:=r) (by lia) a7
  exact(av4 (p:=kas_rev p' (n' - (q' + 1)) n') (by lia) (by lia) (by rw[Q8];lia) (fun i hi hb=>by rw[k,k];exact a6 i hi hb)).of ((Q8 _ _ _).trans a4) ((J5 _ _ _).trans a5)
 ·rw[if_neg c]
  exact(av4 (p:=p') (by lia) (by lia) (by lia) a6).of a4 a5
theorem ay4 {p:Array Nat}{nrem:Nat}(h1:1<=nrem)(hz:nrem<=p.size):Run r p nrem (ev (ltR r) (kas_count nrem p)):=by
 unfold kas_count;rw[V8];obtain⟨a1,a2,a3,a4⟩:=aV4 (r:=r) p (nrem - 1) 1 (Nat.le_refl _) (fun i hi hb=>by lia)
 generalize ev (ltR r) (kas_asc p (nrem - 1) 1)=n at *
 by_cases c:(n == nrem)=true
 ·rw[if_pos c]
  exact⟨by show n<=nrem;lia,a1,rfl,Array.Perm.refl _,a3⟩
 ·rw[if_neg c]
  have hne:n≠nrem:=by simpa using c
  have stop:=a4 (by lia)
  by_cases c2:n > 1
  ·rw[if_pos c2]
   rw[Y5]
   by_cases d:r (p.getD 0 0) < r (p.getD (n - 1) 0)
   ·rw[ax9 d,if_pos rfl]
    exact⟨by show n<=nrem;lia,a1,rfl,Array.Perm.refl _,a3⟩
   ·rw[aA9 d,if_neg (by simp)]
    have eqs:Eqs r p 0 n:=fun i hi hb=>by
     have q1:=a3.mono 0 (i - 1) (by lia) (by lia)
     have q2:=a3.mono (i - 1) i (by lia) hb
     have q3:=a3.mono i (n - 1) (by lia) (by lia)
     have q4:ky r p (n - 1)<=ky r p 0:=Int.not_lt.mp d;lia
    have k:=at5 (r:=r) (by lia) eqs
    refine(ad5 (p:=kas_rev p 0 n) (by lia) (by rw[Q8];exact hz) (fun i hi hb=>?_)).of (Q8 _ _ _) (J5 _ _ _)
    rw[k,k]
    rcases Nat.lt_or_eq_of_le (Nat.le_of_lt_succ hb) with z | z
    ·exact Int.le_of_eq (eqs i hi z)
    ·subst z;exact Int.le_of_lt stop
  ·rw[if_neg c2]
   obtain rfl:n=1:=by lia
   exact ad5 (by lia) hz (fun i hi hb=>by
    obtain rfl:i=1:=by lia
    exact Int.le_of_lt stop)
theorem aY5 {p:Array Nat}{k:Nat}(hu:Up r p k):∀ f l m,m - l<=f->l<=m->m<=k->(∀ i,i < l->ky r p i<=ky r p k)->(∀ i,m<=i->i < k->ky r p k < ky r p i) ->
  ev (ltR r) (kas_place p k f l m)<=k/\(∀ i,i < ev (ltR r) (kas_place p k f l m)->ky r p i<=ky r p k)/\∀ i,ev (ltR r) (kas_place p k f l m)<=i->i < k->ky r p k < ky r p i:=by
 intro f
 induction f with
 | zero =>
  intro l m h1 h2 h3 h4 h5
  obtain rfl:l=m:=by lia
  exact⟨h3,h4,h5⟩
 | succ f ih =>
  intro l m h1 h2 h3 h4 h5
  unfold kas_place
  by_cases c:l ≥ m
  ·rw[if_pos c]
   obtain rfl:l=m:=by lia
   exact⟨h3,h4,h5⟩
  ·rw[if_neg c]
   rw[Y5]
   by_cases d:r (p.getD k 0) < r (p.getD ((l + m) / 2) 0)
   ·rw[ax9 d,if_pos rfl]
    refine ih l ((l + m) / 2) (by lia) (by lia) (by lia) h4 (fun i hi hb=>?_)
    exact Int.lt_of_lt_of_le d (hu.mono _ i hi hb)
   ·rw[aA9 d,if_neg (by simp)]
    refine ih ((l + m) / 2 + 1) m (by lia) (by lia) h3 (fun i hi=>?_) h5
    exact Int.le_trans (hu.mono i ((l + m) / 2) (by lia) (by lia)) (Int.not_lt.mp d)
theorem ad8 {p:Array Nat}{k l:Nat}(hk:k < p.size)(hl:l<=k)(i:Nat):(bubble p k (k - l)).getD i 0=if i=l then p.getD k 0 else if l < i/\i<=k then p.getD (i - 1) 0 else p.getD i 0:=by
 have e:=getElem?_bubble hk (k - l) (by lia) i
 rw[show k - (k - l)=l by lia] at e
 rw[Array.getD_eq_getD_getElem?,e]
 by_cases c1:i=l
 ·rw[if_pos c1,if_pos c1,Array.getD_eq_getD_getElem?]
 ·rw[if_neg c1,if_neg c1]
  by_cases c2:l < i/\i<=k
  ·rw[if_pos c2,if_pos c2,Array.getD_eq_getD_getElem?]
  ·rw[if_neg c2,if_neg c2,Array.getD_eq_getD_getElem?]
theorem bf1:∀(f:Nat)(p:Array Nat)(k:Nat),k + f<=p.size->Up r p k->(ev (ltR r) (kas_bin f p k)).Perm p/\Up r (ev (ltR r) (kas_bin f p k)) (k + f):=by
 intro f
 induction f with
 | zero=>intro p k hz hu;exact⟨Array.Perm.refl _,hu⟩
 | succ f ih =>
  intro p k hz hu
  unfold kas_bin;rw[V8];obtain⟨b1,b2,b3⟩:=aY5 hu k 0 k (by lia) (by lia) (Nat.le_refl _) (fun i hi=>absurd hi (by lia)) (fun i hi hb=>absurd hb (by lia))
  generalize ev (ltR r) (kas_place p k k 0 k)=l at *;have hk:k < p.size:=by lia
  obtain⟨c1,c2⟩:=ih (bubble p k (k - l)) (k + 1) (by rw[bubble_size];lia) (fun i hi hb=>by
   show r _<=r _
   rw[ad8 hk b1,ad8 hk b1]
   by_cases e1:i - 1=l
   ·rw[if_pos e1,if_neg (show ¬ i=l by lia),if_pos (by lia)]
    have:=b3 (i - 1) (by lia) (by lia)
    exact Int.le_of_lt this
   ·rw[if_neg e1]
    by_cases e2:i=l
    ·rw[if_pos e2,if_neg (by lia)]
     exact b2 (i - 1) (by lia)
    ·rw[if_neg e2]
     by_cases e3:l < i
     ·rw[if_pos (by lia),if_pos (by lia)]
      exact hu (i - 1) (by lia) (by lia)
     ·rw[if_neg (by lia),if_neg (by lia)]
      exact hu i hi (by lia))
  exact⟨c1.trans (bubble_perm _ _ _),by rw[show k + (f + 1)=k + 1 + f by lia];exact c2⟩
theorem a74 {n:Nat}(hn:1<=n):(ev (ltR r) (kas_sort n)).Perm (List.range n).toArray/\Up r (ev (ltR r) (kas_sort n)) n:=by
 unfold kas_sort;rw[V8];obtain⟨h1,h2,h3,h4,h5⟩:=ay4 (r:=r) (p:=(List.range n).toArray) (nrem:=n) hn (by simp)
 generalize ev (ltR r) (kas_count n (List.range n).toArray)=x at *;have hs:x.2.size=n:=by rw[h3];simp
 by_cases c:x.1 < n
 ·rw[if_pos c]
  have hm:max x.1 1=x.1:=by lia
  rw[hm];obtain⟨c1,c2⟩:=bf1 (r:=r) (n - x.1) x.2 x.1 (by lia) h5
  rw[show x.1 + (n - x.1)=n by lia] at c2
  exact⟨c1.trans h4,c2⟩
 ·rw[if_neg c]
  have:x.1=n:=by lia
  rw[this] at h5;exact⟨h4,h5⟩
def Y3 {α:Type}(lt:Nat->Nat->Bool)(n:Nat):KasT α->Prop
 | .ret _=>True
 | .ask i j k=>i < n/\j < n/\Y3 lt n (k (lt i j))
theorem Y3.bind {α β:Type}{lt:Nat->Nat->Bool}{n:Nat}{f:α->KasT β}:∀{t:KasT α},Y3 lt n t->Y3 lt n (f (ev lt t))->Y3 lt n (t.bind f)
 | .ret _,_,h=>h
 | .ask i j k,h,h'=>⟨h.1,h.2.1,Y3.bind (t:=k (lt i j)) h.2.2 h'⟩
def InN (n:Nat)(p:Array Nat):Prop:=0 < n/\∀ x∈p.toList,x < n
theorem InN.at {n:Nat}{p:Array Nat}(h:InN n p)(k:Nat):p.getD k 0 < n:=by
 rw[Array.getD_eq_getD_getElem?]
 cases e:p[k]? with
 | none=>exact h.1
 | some x=>exact h.2 x (by rw[Array.mem_toList_iff];exact Array.mem_of_getElem? e)
theorem InN.perm {n:Nat}{p p':Array Nat}(h:InN n p)(m:p'.Perm p):InN n p':=⟨h.1,fun x hx=>h.2 x (by
 rw[Array.mem_toList_iff] at hx ⊢
 exact(Array.Perm.mem_iff m).mp hx)⟩
variable {n₀:Nat}
theorem ag9 {p:Array Nat}(h:InN n₀ p):∀ f n,Y3 (ltR r) n₀ (kas_asc p f n)
 | 0,_=>True.intro
 | f + 1,n=>by
  unfold kas_asc;refine⟨h.at _,h.at _,?_⟩
  dsimp only
  split
  ·exact True.intro
  ·exact ag9 h f (n + 1)
theorem W1:∀(f:Nat){p:Array Nat}(n q:Nat),InN n₀ p->Y3 (ltR r) n₀ (kas_desc f p n q)
 | 0,_,_,_,_=>True.intro
 | f + 1,p,n,q,h=>by
  unfold kas_desc;refine⟨h.at _,h.at _,?_⟩
  dsimp only
  split
  ·split
   ·exact W1 f _ _ (h.perm (J5 _ _ _))
   ·exact W1 f _ _ h
  ·refine⟨h.at _,h.at _,?_⟩
   dsimp only
   split
   ·exact True.intro
   ·exact W1 f _ _ h
theorem W0:∀(f:Nat)(p:Array Nat)(n q:Nat),(ev (ltR r) (kas_desc f p n q)).1.Perm p
 | 0,p,_,_=>Array.Perm.refl _
 | f + 1,p,n,q=>by
  unfold kas_desc;rw[Y5]
  split
  ·split
   ·exact(W0 f _ _ _).trans (J5 _ _ _)
   ·exact W0 f _ _ _
  ·rw[Y5]
   split
   ·exact Array.Perm.refl _
   ·exact W0 f _ _ _
theorem ah7 {p:Array Nat}(n nrem:Nat)(h:InN n₀ p):Y3 (ltR r) n₀ (kas_tail3 n nrem p):=(ag9 (h.perm (J5 _ _ _)) _ _).bind True.intro
theorem X5 {p:Array Nat}(n nrem:Nat)(h:InN n₀ p):Y3 (ltR r) n₀ (kas_descPart n nrem p):=by
 refine(W1 _ _ _ h).bind ?_;have pm:=W0 (r:=r) (nrem - (n + 1)) p (n + 1) 0
 split
 ·exact ah7 _ _ ((h.perm pm).perm (J5 _ _ _))
 ·exact ah7 _ _ (h.perm pm)
theorem aH7 {p:Array Nat}(nrem:Nat)(h:InN n₀ p):Y3 (ltR r) n₀ (kas_count nrem p):=by
 refine(ag9 h _ _).bind ?_
 split
 ·exact True.intro
 ·split
  ·refine⟨h.at _,h.at _,?_⟩
   dsimp only
   split
   ·exact True.intro
   ·exact X5 _ _ (h.perm (J5 _ _ _))
  ·exact X5 _ _ h
theorem Y6 {p:Array Nat}{k:Nat}(h:InN n₀ p):∀ f l m,Y3 (ltR r) n₀ (kas_place p k f l m)
 | 0,_,_=>True.intro
 | f + 1,l,m=>by
  unfold kas_place
  split
  ·exact True.intro
  ·refine⟨h.at _,h.at _,?_⟩
   dsimp only
   split
   ·exact Y6 h f _ _
   ·exact Y6 h f _ _
theorem aA8:∀(f:Nat){p:Array Nat}(k:Nat),InN n₀ p->Y3 (ltR r) n₀ (kas_bin f p k)
 | 0,_,_,_=>True.intro
 | f + 1,p,k,h=>(Y6 h _ _ _).bind (aA8 f _ (h.perm (bubble_perm _ _ _)))
theorem aM5 {n:Nat}(hn:1<=n):Y3 (ltR r) n (kas_sort n):=by
 have h:InN n (List.range n).toArray:=⟨hn,fun x hx=>by simpa using hx⟩
 refine(aH7 n h).bind ?_;obtain⟨h1,h2,h3,h4,h5⟩:=ay4 (r:=r) (p:=(List.range n).toArray) (nrem:=n) hn (by simp)
 split
 ·exact aA8 _ _ (h.perm h4)
 ·exact True.intro
theorem bb3 {cmp:Nat->Nat->(Bool->Shared->Prop)->Shared->Prop}{J:Shared->Prop}{n:Nat}{lt:Nat->Nat->Bool}{α:Type}(hc:∀ i j C s,i < n->j < n->J s->(∀ s',J s'->C (lt i j) s')->cmp i j C s) :
  ∀(t:KasT α)(s:Shared)(Q:α->Shared->Prop),Y3 lt n t->J s->(∀ s',J s'->Q (ev lt t) s')->t.kasWp cmp Q s
 | .ret a,s,Q,_,hJ,h=>h s hJ
 | .ask i j k,s,Q,ha,hJ,h=>hc i j _ s ha.1 ha.2.1 hJ fun s' hJ'=>bb3 hc (k (lt i j)) s' Q ha.2.2 hJ' h
theorem aU5 {α:Type}{xs:List α}{r:Nat->Int}{p:Array Nat}(hp:p.Perm (List.range xs.length).toArray)(hu:Up r p xs.length)(d:α)(key:α->Int)(hk:∀ i,i < xs.length->r i=key (xs.getD i d)) :
  (p.toList.map fun i=>xs.getD i d).Perm xs/\(p.toList.map fun i=>xs.getD i d).Pairwise (fun a b=>key a<=key b):=by
 have hpl:p.toList.Perm (List.range xs.length):=by simpa using Array.perm_iff_toList_perm.mp hp
 have hlen:p.toList.length=xs.length:=by simpa using hpl.length_eq
 constructor
 ·refine(hpl.map _).trans ?_
  have:(List.range xs.length).map (fun i=>xs.getD i d)=xs:=by
   apply ext_getElem
   ·simp
   ·intro i h1 h2
    simp[List.getD,h2]
  rw[this]
 ·rw[List.pairwise_iff_getElem]
  intro i j hi hj hij
  rw[length_map] at hi hj;rw[List.getElem_map,List.getElem_map]
  have m:∀ k (hk:k < p.toList.length),p.toList[k] < xs.length:=fun k hk=>by
   have:=hpl.mem_iff.mp (getElem_mem hk)
   simpa using this
  rw[<- hk _ (m i hi),<- hk _ (m j hj)];have q:=hu.mono i j (by lia) (by lia)
  have e:∀ k (hk:k < p.toList.length),p.getD k 0=p.toList[k]:=fun k hk=>by
   have hk':k < p.size:=by simpa using hk
   simp[Array.getD,hk']
  rw[ky,ky,e i hi,e j hj] at q;exact q
end
end L2
namespace L2
open PySem PySem.Spec PyProof.Rows
def ac6 (x:Int):List Int->List Int
 | []=>[x]
 | y::r=>if x < y then x::y::r else if x=y then y::r else y::ac6 x r
def w9 (ns:List Int):List Int:=ns.foldr ac6 []
theorem ak4 (x k:Int):∀ l:List Int,k∈ac6 x l↔k=x\/k∈l
 | []=>by simp[ac6]
 | y::r=>by
  unfold ac6
  split
  ·simp
  ·split
   ·rename_i h;subst h;simp
   ·rw[mem_cons,ak4 x k r,mem_cons]
    constructor
    ·rintro(h | h | h)
     ·exact .inr (.inl h)
     ·exact .inl h
     ·exact .inr (.inr h)
    ·rintro(h | h | h)
     ·exact .inr (.inl h)
     ·exact .inl h
     ·exact .inr (.inr h)
theorem ao8 (x:Int):∀ l:List Int,l.Pairwise (· < ·)->(ac6 x l).Pairwise (· < ·)
 | [],_=>by simp[ac6]
 | y::r,h=>by
  rw[pairwise_cons] at h;unfold ac6
  split
  ·rename_i hlt
   rw[pairwise_cons,pairwise_cons];refine⟨fun a ha=>?_,h⟩
   rcases mem_cons.mp ha with rfl | ha
   ·exact hlt
   ·exact Int.lt_trans hlt (h.1 a ha)
  ·split
   ·rw[pairwise_cons];exact h
   ·rename_i h1 h2
    rw[pairwise_cons];refine⟨fun a ha=>?_,ao8 x r h.2⟩
    rcases(ak4 x a r).mp ha with rfl | ha
    ·lia
    ·exact h.1 a ha
theorem F2 (k:Int):∀ ns:List Int,k∈w9 ns↔k∈ns
 | []=>Iff.rfl
 | x::r=>by
  show k∈ac6 x (w9 r)↔_
  rw[ak4,F2 k r,mem_cons]
theorem M0:∀ ns:List Int,(w9 ns).Pairwise (· < ·)
 | []=>List.Pairwise.nil
 | x::r=>ao8 x _ (M0 r)
theorem M3 {l:List Int}(h:l.Pairwise (· < ·)):l.Nodup:=h.imp fun {a b} q e=>by rw[e] at q;exact Int.lt_irrefl _ q
theorem F4:∀(l1 l2:List Int),l1.Nodup->(∀ x∈l1,x∈l2)->l2.length<=l1.length->l1.Perm l2
 | [],l2,_,_,h=>by
  have:l2=[]:=List.eq_nil_of_length_eq_zero (by simpa using h)
  subst this;exact List.Perm.refl _
 | a::r,l2,hn,hs,hl=>by
  rw[List.nodup_cons] at hn;have ha:=hs a mem_cons_self;have p:=List.perm_cons_erase ha;refine((F4 r (l2.erase a) hn.2 (fun x hx=>?_) ?_).cons a).trans p.symm
  ·have hne:x≠a:=fun e=>hn.1 (e ▸ hx)
   exact(List.mem_erase_of_ne hne).mpr (hs x (mem_cons_of_mem _ hx))
  ·have:=p.length_eq
   rw[length_cons] at this hl;lia
theorem ay9:∀{l1 l2:List Int},l1.Pairwise (· < ·)->l2.Pairwise (· < ·)->(∀ k,k∈l1↔k∈l2)->l1=l2
 | [],[],_,_,_=>rfl
 | [],b::r,_,_,h=>absurd ((h b).mpr mem_cons_self) (by simp)
 | a::r,[],_,_,h=>absurd ((h a).mp mem_cons_self) (by simp)
 | a::r,b::t,h1,h2,h=>by
  rw[pairwise_cons] at h1 h2
  have e:a=b:=by
   rcases mem_cons.mp ((h a).mp mem_cons_self) with q | q
   ·exact q
   ·rcases mem_cons.mp ((h b).mpr mem_cons_self) with q' | q'
    ·exact q'.symm
    ·have z1:=h2.1 a q
     have z2:=h1.1 b q';lia
  subst e
  have:r=t:=ay9 h1.2 h2.2 fun k=>by
   have q:=h k;rw[mem_cons,mem_cons] at q
   constructor
   ·intro hk
    rcases q.mp (.inr hk) with e | z
    ·have:=h1.1 k hk;lia
    ·exact z
   ·intro hk
    rcases q.mpr (.inr hk) with e | z
    ·have:=h2.1 k hk;lia
    ·exact z
  rw[this]
theorem aP6 {ns' ns:List Int}(hp:ns'.Pairwise (·<=·))(hm:∀ k,k∈ns'↔k∈ns)(hl:ns'.length=(w9 ns).length):ns'=w9 ns:=by
 have pm:=F4 (w9 ns) ns' (M3 (M0 ns)) (fun x hx=>(hm x).mpr ((F2 x ns).mp hx)) (Nat.le_of_eq hl);have nd:ns'.Nodup:=pm.nodup_iff.mp (M3 (M0 ns));refine ay9 ((hp.and nd).imp fun {a b} q=>?_) (M0 ns) fun k=>by rw[hm,F2]
 have:=q.1
 have:=q.2
 lia
theorem R9 (ns:List Int)(k:Int):(firstMet (fun i=>ns.getD i 0) ns.length).any (· == k)=decide (k∈ns):=by
 rw[firstMet_any]
 have e:(List.range ns.length).map (fun i=>ns.getD i 0)=ns:=by
  apply ext_getElem
  ·simp
  ·intro i h1 h2
   simp[List.getD,h2]
 rw[e,Bool.eq_iff_iff,any_eq_true,decide_eq_true_iff]
 constructor
 ·rintro⟨x,hx,q⟩
  rw[<- eq_of_beq q];exact hx
 ·intro h
  exact⟨k,h,beq_self_eq_true k⟩
theorem T8 (val:Nat->Int):∀ i,(firstMet val i).Nodup
 | 0=>nodup_nil
 | i + 1=>by
  rw[firstMet_succ];unfold step_dedup;have ih:=T8 val i
  by_cases h:(firstMet val i).any (· == val i)=true
  ·rw[if_pos h];exact ih
  ·rw[if_neg h,List.nodup_append]
   refine⟨ih,by simp,fun a ha b hb e=>h ?_⟩
   rw[mem_singleton] at hb;rw[any_eq_true];exact⟨a,ha,by rw[e,hb];exact beq_self_eq_true _⟩
theorem Z7 (ns:List Int):(firstMet (fun i=>ns.getD i 0) ns.length).length=(w9 ns).length:=by
 have m:∀ k,k∈firstMet (fun i=>ns.getD i 0) ns.length↔k∈ns:=fun k=>by
  have:=R9 ns k
  rw[Bool.eq_iff_iff,any_eq_true,decide_eq_true_iff] at this;rw[<- this];exact⟨fun h=>⟨k,h,beq_self_eq_true k⟩,fun⟨x,hx,q⟩=>by rw[<- eq_of_beq q];exact hx⟩
 have n1:=T8 (fun i=>ns.getD i 0) ns.length;have n2:=M3 (M0 ns)
 rcases Nat.le_total (firstMet (fun i=>ns.getD i 0) ns.length).length (w9 ns).length with h | h
 ·exact(F4 (w9 ns) _ n2 (fun x hx=>(m x).mpr ((F2 x ns).mp hx)) h).length_eq.symm
 ·exact(F4 _ (w9 ns) n1 (fun x hx=>(F2 x ns).mpr ((m x).mp hx)) h).length_eq
theorem ac5 (ns:List Int):(w9 ns).length<=ns.length:=by
 induction ns with
 | nil=>exact Nat.le_refl _
 | cons x r ih =>
  have:∀ l:List Int,(ac6 x l).length<=l.length + 1:=by
   intro l
   induction l with
   | nil=>simp[ac6]
   | cons y t ih =>
    unfold ac6;split <;> try split
    all_goals simp only[length_cons]
    all_goals lia
  have q:=this (w9 r)
  show(ac6 x (w9 r)).length<=_
  rw[length_cons];lia
section
variable {X:Cx}
def aA0 (X:Cx)(l:Addr)(ns:List Int):HO:=.ext fun h=>M9 (intKind X.prog X.w) h l (fun k=>decide (k∈ns)) (w9 ns).length
theorem ak9 (hc:X.calm=true):z7 X (.type "set") (fun xs H Q=>∃(p:Addr)(ns:List Int),xs=[.ref p]/\SqL X.K H p (ns.map V.int)/\ns.length < 4000/\∀ l,H l=none->Q (.ref l) (upd H l (aA0 X l ns))):=by
 intro pins s σ H xs us Q I r h
 obtain⟨p,ns,rfl,hq,hlt,q⟩:=h;obtain⟨u,rfl,rx⟩:=K5 r
 cases rx
 obtain⟨its,r',pl,hz⟩:=I.list hq;have hi:IntsAre its ns:=C5 r';have hlen:its.length=ns.length:=hi.length;refine az8 (I.ok.hd hc) pl.isList (ns:=ns) (by simpa using hi) (by show its.toArray.size + 1 < 4096;rw[size_toArray];lia) fun h' tk x kp=>?_
 have x':M9 (intKind X.prog X.w) h' s.heap.objs.size (fun k=>decide (k∈ns)) (w9 ns).length:=x.congr (fun k=>by
  rw[size_toArray,hlen];exact R9 ns k) (by rw[size_toArray,hlen];exact Z7 ns)
 have he:∃ o,h'.get? s.heap.objs.size=some o:=let ⟨o,_,_,_,e,_⟩:=x';⟨o,e⟩;exact⟨.ref s.heap.objs.size,_,I.laid (t':=tk) (o:=aA0 X s.heap.objs.size ns) (fun b o e=>kp b o (Heap.lt_size e) e) (Nat.le_refl _) ⟨x',he,fun h1 h2 y k=>y.of_get k⟩,rfl,q _ (I.hok.fresh (Nat.le_refl _))⟩
theorem aM1 {pins:List (Addr×Obj)}{σ:St}{H:Hp}{s:Shared}{p:Addr}{ns:List Int}(I:Inv X pins σ H s)(e:H p=some (aA0 X p ns)):M9 (intKind X.prog X.w) s.heap p (fun k=>decide (k∈ns)) (w9 ns).length :=
 (show p6 X.prog X.w H s.heap p (aA0 X p ns) from I.hok p _ e).1
theorem ae6 (hc:X.calm=true):z7 X (.builtin "sorted") (fun xs H Q=>∃(p:Addr)(ns:List Int),xs=[.ref p]/\H p=some (aA0 X p ns)/\ns.length < 64/\∀ l,H l=none->Q (.ref l) (upd H l (.lst ((w9 ns).map V.int)))):=by
 intro pins s σ H xs us Q I r h
 obtain⟨p,ns,rfl,he,hlt,q⟩:=h;obtain⟨u,rfl,rx⟩:=K5 r
 cases rx
 have hl:=ac5 ns;refine aD6 (I.ok.hd hc) (aM1 I he) (by lia) fun l h' d tk e out ns' a1 a2 a3 a4 hlz kp g=>?_
 have e2:ns'=w9 ns:=aP6 a2 (fun k=>by rw[a3,decide_eq_true_iff]) a4
 subst e2;have fr:=I.hok.fresh hlz;have new:p6 X.prog X.w (upd H l (.lst ((w9 ns).map V.int))) h' l (.lst ((w9 ns).map V.int)):=⟨by rw[length_map];exact Nat.le_of_lt (j6 (by lia)),out.toList,e,R3 a1,by simpa [seqObj] using g⟩
 exact⟨.ref l,_,I.call' (s':={ s with heap:=h',drawn:=d,toks:=tk }) (ch:=[]) rfl (Un.track (Un.kept kp) hlz fr) (HOk.track (I.hok.kept kp) fr new) I.bare (fun b z=>nomatch z),rfl,q l fr⟩
theorem call_len_set:z7 X (.builtin "len") (fun xs H Q=>∃(p:Addr)(ns:List Int),xs=[.ref p]/\H p=some (aA0 X p ns)/\Q (.int (w9 ns).length) H):=by
 intro pins s σ H xs us Q I r h
 obtain⟨p,ns,rfl,he,q⟩:=h;obtain⟨u,rfl,rx⟩:=K5 r
 cases rx
 obtain⟨o,es,ep,t,ho,hx,hd,⟨el,mem,hb,hf,hn⟩,J⟩:=aM1 I he;refine PySem.call_len_set ho hx hd hf (by have h4:es.size < 4096:=hb;lia) ?_
 rw[hn];exact⟨.int (w9 ns).length,H,I.tok _,⟨_,rfl⟩,q⟩
end
def EqV (X:Cx)(H:Hp)(n:Nat)(x y:V)(b:Bool):Prop :=
 ∀(A:Around)(pins:List (Addr×Obj))(s:Shared)(σ:St)(u v:Value),Inv X pins σ H s->o5 x u->o5 y v->A.units + n < cLine->SeqAt.EqAt A s u v b
structure EqRep (X:Cx){δ:Type} [DecidableEq δ] (n:Nat) (R:Hp->V->δ->Prop):Prop where
 eq:∀ H x y dx dy,R H x dx->R H y dy->EqV X H n x y (decide (dx=dy))
 fn:∀ pins s σ H x d d',Inv X pins σ H s->R H x d->R H x d'->d=d'
def bg7:Hp->V->Int->Prop:=fun _ x i=>x=.int i
theorem a79 {i j:Int}:(i == j)=decide (i=j):=by rw[Bool.eq_iff_iff];simp
section
variable {X:Cx}
theorem aI0:EqRep X 0 bg7 where
 eq:=fun H x y dx dy hx hy A pins s σ u v I ru rv hu=>by
  subst hx hy;obtain⟨t,rfl⟩:=ru;obtain⟨t',rfl⟩:=rv;rw[<- a79];exact SeqAt.EqAt.int_int _ _ _ _
 fn:=fun _ _ _ _ x d d' _ h h'=>by subst h;injection h'
variable {δ:Type} [DecidableEq δ] {n:Nat} {R:Hp->V->δ->Prop}
def bh8 (K:Frag)(R:Hp->V->δ->Prop):Hp->V->List δ->Prop:=fun H x ds=>∃ a xs,x=.ref a/\SqT K H a xs/\Paired (R H) xs ds
def az9 (K:Frag)(R:Hp->V->δ->Prop):Hp->V->List δ->Prop:=fun H x ds=>∃ a xs,x=.ref a/\SqL K H a xs/\Paired (R H) xs ds
theorem j8 {α β:Type}{Rl:α->β->Prop}:∀{xs:List α}{ds:List β},Paired Rl xs ds->∀(i:Nat)(x:α),xs[i]? = some x->∃ d,ds[i]? = some d/\Rl x d
 | _,_,.nil,i,x,h=>by simp at h
 | _,_,.cons r t,0,x,h=>by simp at h;subst h;exact⟨_,rfl,r⟩
 | _,_,.cons r t,i + 1,x,h=>by
  obtain⟨d,e,q⟩:=j8 t i x (by simpa using h)
  exact⟨d,by simpa using e,q⟩
theorem as3 (ds ds':List δ)(h:ds.length=ds'.length):((List.range ds.length).all fun j=>decide (ds[j]? = ds'[j]?))=decide (ds=ds'):=by
 rw[Bool.eq_iff_iff,all_eq_true,decide_eq_true_iff]
 constructor
 ·intro q
  apply ext_getElem?
  intro i
  by_cases hi:i < ds.length
  ·exact of_decide_eq_true (q i (by simpa using hi))
  ·rw[List.getElem?_eq_none (by lia),List.getElem?_eq_none (by lia)]
 ·rintro rfl i hi
  simp
theorem ai0 (ep:EqRep X n R){H:Hp}{A:Around}{pins:List (Addr×Obj)}{s:Shared}{σ:St}(I:Inv X pins σ H s){xs ys:List V}{ds ds':List δ}{us vs:List Value}(hx:Paired (R H) xs ds)(hy:Paired (R H) ys ds')(ru:j9 xs us)(rv:j9 ys vs)
  (hu:A.units + n < cLine):∀ j (h1:j < us.toArray.size) (h2:j < vs.toArray.size),SeqAt.EqAt A s us.toArray[j] vs.toArray[j] (decide (ds[j]? = ds'[j]?)):=fun j h1 h2=>by
 have l1:=ru.length;have l2:=rv.length;rw[size_toArray] at h1 h2;have e1:xs[j]? = some (xs[j]'(by lia)):=List.getElem?_eq_getElem _
 have e2:ys[j]? = some (ys[j]'(by lia)):=List.getElem?_eq_getElem _
 obtain⟨d,q1,r1⟩:=j8 hx j _ e1;obtain⟨d',q2,r2⟩:=j8 hy j _ e2;obtain⟨u,w1,s1⟩:=ru.get e1;obtain⟨v,w2,s2⟩:=rv.get e2;have z1:us.toArray[j]=u:=by rw[List.getElem?_eq_getElem h1] at w1;simpa using w1
 have z2:vs.toArray[j]=v:=by rw[List.getElem?_eq_getElem h2] at w2;simpa using w2
 rw[z1,z2,q1,q2]
 have:decide (some d=some d')=decide (d=d'):=by rw[Bool.eq_iff_iff];simp
 rw[this];exact ep.eq H _ _ _ _ r1 r2 A pins s σ u v I s1 s2 hu
theorem ad3 (ep:EqRep X n R){H:Hp}{pins:List (Addr×Obj)}{s:Shared}{σ:St}(I:Inv X pins σ H s):∀{xs:List V}{ds ds':List δ},Paired (R H) xs ds->Paired (R H) xs ds'->ds=ds'
 | _,_,_,.nil,.nil=>rfl
 | _,_,_,.cons r t,.cons r' t'=>by rw[ep.fn pins s σ H _ _ _ I r r',ad3 ep I t t']
theorem aF0 (ep:EqRep X n R):EqRep X (n + 1) (bh8 X.K R) where
 eq:=fun H x y dx dy hx hy A pins s σ u v I ru rv hu=>by
  obtain⟨a,xs,rfl,ha,px⟩:=hx;obtain⟨b,ys,rfl,hb,py⟩:=hy
  cases ru
  cases rv
  by_cases hab:a=b
  ·subst hab
   have:=I.tuple_inj ha hb
   subst this;rw[ad3 ep I px py,decide_eq_true rfl];exact SeqAt.EqAt.same _
  ·obtain⟨us,r1,p1,_⟩:=I.tuple ha
   obtain⟨vs,r2,p2,_⟩:=I.tuple hb;have l1:=r1.length;have l2:=r2.length;have l3:=Paired.length px;have l4:=Paired.length py
   have:=SeqAt.RcAt.tuples (A:=A) (e:=fun j=>decide (dx[j]? = dy[j]?)) p1 p2 (by lia) (ai0 ep I px py r1 r2 (by show A.units + 1 + n < cLine;lia))
   refine SeqAt.EqAt.of_refs hab ?_
   have e:((List.range (min us.toArray.size vs.toArray.size)).all (fun j=>decide (dx[j]? = dy[j]?))&&us.toArray.size == vs.toArray.size)=decide (dx=dy):=by
    rw[size_toArray,size_toArray]
    by_cases hl:dx.length=dy.length
    ·rw[show min us.length vs.length=dx.length by lia,as3 dx dy hl,show(us.length == vs.length)=true by simp;lia,Bool.and_true]
    ·rw[show(us.length == vs.length)=false by simp;lia,Bool.and_false,decide_eq_false (fun z=>hl (by rw[z]))]
   rw[<- e];exact this
 fn:=fun pins s σ H x d d' I h h'=>by
  obtain⟨a,xs,rfl,ha,px⟩:=h;obtain⟨b,ys,e,hb,py⟩:=h'
  cases e
  have:=I.tuple_inj ha hb
  subst this;exact ad3 ep I px py
theorem bb5 (ep:EqRep X n R)(hu:X.A.units + 1 + n < cLine):OpR X (compareOp .Eq) (fun x y H Q=>∃ ds ds',az9 X.K R H x ds/\az9 X.K R H y ds'/\Q (.bl (decide (ds=ds'))) H):=by
 intro pins s σ H x y v u Q I rx ry h
 obtain⟨dx,dy,⟨a,xs,rfl,ha,px⟩,⟨b,ys,rfl,hb,py⟩,q⟩:=h
 cases rx
 cases ry
 obtain⟨us,r1,p1,_⟩:=I.list ha;obtain⟨vs,r2,p2,_⟩:=I.list hb;have l1:=r1.length;have l2:=r2.length;have l3:=Paired.length px;have l4:=Paired.length py
 by_cases hl:dx.length=dy.length
 ·refine SeqAt.RcAt.lists (e:=fun j=>decide (dx[j]? = dy[j]?)) p1.isList p2.isList (by simp only[size_toArray];lia) (by lia) (ai0 ep I px py r1 r2 (by show X.A.units + 1 + n < cLine;lia)) X.prog X.w X.xe _ ?_
  rw[size_toArray,show us.length=dx.length by lia,as3 dx dy hl]
  exact⟨.bl _,H,I,rfl,q⟩
 ·refine SeqAt.RcAt.lists_lengths p1.isList p2.isList (by simp only[size_toArray];simpa using (by lia:us.length≠vs.length)) (by lia) X.prog X.w X.xe _ ?_
  rw[decide_eq_false (fun z=>hl (by rw[z]))] at q
  exact⟨.bl false,H,I,rfl,q⟩
theorem bg3 (ep:EqRep X n R)(hu:X.A.units + 1 + n < cLine):OpR X (compareOp .NotEq) (fun x y H Q=>∃ ds ds',az9 X.K R H x ds/\az9 X.K R H y ds'/\Q (.bl (!decide (ds=ds'))) H):=by
 intro pins s σ H x y v u Q I rx ry h
 obtain⟨dx,dy,⟨a,xs,rfl,ha,px⟩,⟨b,ys,rfl,hb,py⟩,q⟩:=h
 cases rx
 cases ry
 obtain⟨us,r1,p1,_⟩:=I.list ha;obtain⟨vs,r2,p2,_⟩:=I.list hb;have l1:=r1.length;have l2:=r2.length;have l3:=Paired.length px;have l4:=Paired.length py
 by_cases hl:dx.length=dy.length
 ·refine SeqAt.RcNeAt.lists (e:=fun j=>decide (dx[j]? = dy[j]?)) p1.isList p2.isList (by simp only[size_toArray];lia) (by lia) (ai0 ep I px py r1 r2 (by show X.A.units + 1 + n < cLine;lia)) X.prog X.w X.xe _ ?_
  rw[size_toArray,show us.length=dx.length by lia,as3 dx dy hl]
  exact⟨.bl _,H,I,rfl,q⟩
 ·refine SeqAt.RcNeAt.lists_lengths p1.isList p2.isList (by simp only[size_toArray];simpa using (by lia:us.length≠vs.length)) (by lia) X.prog X.w X.xe _ ?_
  rw[decide_eq_false (fun z=>hl (by rw[z]))] at q
  exact⟨.bl true,H,I,rfl,q⟩
end
end L2
namespace L2
open PySem PySem.Spec PyProof.Rows PySem.W
def S6:List V->List V->Option Bool
 | [],[]=>some false
 | [],_::_=>some true
 | _::_,[]=>some false
 | .int a::r,.int b::r'=>if a=b then S6 r r' else some (decide (a < b))
 | .ref a::r,.ref b::r'=>if a=b then S6 r r' else none
 | _,_=>none
section
variable {prog:Program}{w:World}{A:Around}{E:Value->Shared->Prop}{s:Shared}
theorem a58 {a b:Int}{t u:Tok}{k:Bool}{Q:Bool->Shared->Prop}(h:Q (decide (a < b)) s):wpAny (model prog w) A (oneLt' k (.int a t) (.int b u)) Q E s:=by
 cases k with
 | true=>exact oneLt_int h
 | false=>exact kat_one _ _ (lt_int (show PySem.W.BoolBack Q (.bool (decide (a < b))) s from h))
theorem ag6 {b fin:Bool}{Q:Bool->Shared->Prop}:∀(xs ys:List V)(us vs:List Value)(i:Nat)(c:Bool),j9 xs us->j9 ys vs->S6 xs ys=some c->fin=decide (us.length < vs.length)->Q c s->KatLex prog w A b fin Q (us.zip vs) i s
 | [],[],_,_,i,c,.nil,.nil,h,hf,q=>by
  have e:c=false:=by simpa [S6] using h.symm
  subst e;refine kat_nil ?_;rw[hf];exact q
 | [],y::ys,_,_,i,c,.nil,.cons _ _,h,hf,q=>by
  have e:c=true:=by simpa [S6] using h.symm
  subst e;refine kat_nil ?_;rw[hf,decide_eq_true (by simp)];exact q
 | x::xs,[],_,_,i,c,.cons _ _,.nil,h,hf,q=>by
  have e:c=false:=by cases x <;> simpa [S6] using h.symm
  subst e;refine kat_nil ?_;rw[hf,decide_eq_false (by simp)];exact q
 | x::xs,y::ys,u::us,v::vs,i,c,.cons rx tx,.cons ry ty,h,hf,q=>by
  have hf':fin=decide (us.length < vs.length):=by
   rw[hf,length_cons,length_cons];rw[Bool.eq_iff_iff,decide_eq_true_iff,decide_eq_true_iff];lia
  rw[List.zip_cons_cons]
  cases x with
  | int m =>
   cases y with
   | int k =>
    obtain⟨t,rfl⟩:=rx;obtain⟨t',rfl⟩:=ry;refine kat_cons (wpAny_eqBool_int ?_)
    by_cases e:m=k
    ·rw[show(m == k)=true by simpa using e]
     have h':S6 xs ys=some c:=by simpa [S6,e] using h
     exact kat_yes (ag6 xs ys us vs (i + 1) c tx ty h' hf' q)
    ·rw[show(m == k)=false by simpa using e]
     have h':decide (m < k)=c:=by simpa [S6,e] using h
     refine kat_no (a58 ?_);rw[h'];exact q
   | _=>simp[S6] at h
  | ref m =>
   cases y with
   | ref k =>
    cases rx
    cases ry
    by_cases e:m=k
    ·subst e
     have h':S6 xs ys=some c:=by simpa [S6] using h
     exact kat_cons (SeqAt.EqAt.same (.ref m) prog w _ _ (kat_yes (ag6 xs ys us vs (i + 1) c tx ty h' hf' q)))
    ·simp[S6,e] at h
   | _=>simp[S6] at h
  | _=>cases y <;> simp[S6] at h
theorem ar8 {a:Addr}{vs:List Value}{n:Nat}{r:Nat->Int}{P:PySem.Fin->Shared->Prop}(ho:s.heap.get? a=some (seqObj "list" vs.toArray n))(h64:vs.length < 64)
  (hk:∀(h':Heap),(∀ b o,b≠a->s.heap.get? b=some o->h'.get? b=some o)->2<=vs.length->∀ Q':SortKind->Shared->Prop,Q' (tuples' true) { s with heap:=h' }->wpAny (model prog w) A (keyKind' vs.toArray) Q' E { s with heap:=h' })
  (hc:∀(h':Heap),(∀ b o,b≠a->s.heap.get? b=some o->h'.get? b=some o)->∀ i j,i < vs.length->j < vs.length->∀ C:Bool->Shared->Prop,C (decide (r i < r j)) { s with heap:=h' }->wpAny (model prog w) A (keyLt' (tuples' true) (vs.getD i Value.none) (vs.getD j Value.none)) C (fun _ _=>False) { s with heap:=h' })
  (h:∀ p:Array Nat,p.Perm (List.range vs.length).toArray->Up r p vs.length->P (.done (.ret .none)) { s with heap:=sortedHeap s.heap a vs (p.toList.map fun i=>vs.getD i Value.none).toArray }) :
  wpAny (model prog w) A (Builtin.«list.sort» ⟨[.ref a],[]⟩) P E s:=by
 have ha:a < s.heap.objs.size:=Heap.lt_size ho;rw[list_sort_plain];refine wpAny_bind (listItems_at ho rfl ?_);refine wpAny_bind (listUpdate_at ho rfl ?_ (by rw[size_toArray,sizeLine_eq];lia) (Nat.zero_le _))
 obtain⟨e1,ho1⟩:∃ e1,(s.heap.update a (Obj.mapSeq fun _=>(#[]:Array Value))).get? a=some (seqObj "list" #[] e1):=⟨_,get?_update_seq ho fun _=>#[]⟩;refine wpAny_bind (seqEpoch_at ho1 rfl ?_);refine wpAny_bind (wpAny_newTuple ?_ (by show vs.length<=_;rw[sizeLine_eq];lia))
 refine wpAny_bind (wpAny_newList ?_ (Nat.zero_le _));refine wpAny_holding ?_
 have keep:∀ b o,b≠a->s.heap.get? b=some o->(((s.heap.update a (Obj.mapSeq fun _=>(#[]:Array Value))).push (seqObj "tuple" vs.toArray 0)).push (seqObj "list" #[] 0)).get? b=some o:=fun b o hb q =>
  Heap.get?_push_of_some _ (Heap.get?_push_of_some _ ((Heap.get?_update_other _ _ (Ne.symm hb)).trans q))
 have ho6:(((s.heap.update a (Obj.mapSeq fun _=>(#[]:Array Value))).push (seqObj "tuple" vs.toArray 0)).push (seqObj "list" #[] 0)).get? a=some (seqObj "list" #[] e1):=Heap.get?_push_of_some _ (Heap.get?_push_of_some _ ho1)
 show wpAny (model prog w) A _ P E { s with heap:=((s.heap.update a (Obj.mapSeq fun _=>(#[]:Array Value))).push (seqObj "tuple" vs.toArray 0)).push (seqObj "list" #[] 0) }
 dsimp only
 by_cases h2:vs.toArray.size < 2
 ·rw[if_pos h2,if_pos h2]
  refine wpAny_bind (wpAny_pure ?_);rw[StateT.run_pure];refine wpAny_bind (wpAny_pure ?_)
  dsimp only
  refine wpAny_bind (seqEpoch_at ho6 rfl ?_)
  have eo:(arrOf (SortSt.mk' general' (vs.toArray.zip vs.toArray) #[] 7 none)).map (·.2)=(((List.range vs.length).toArray.toList).map fun i=>vs.getD i Value.none).toArray:=by
   have e3:((List.range vs.length).toArray.toList.map fun i=>vs.getD i Value.none)=vs:=by
    apply ext_getElem
    ·simp
    ·intro i q1 q2
     simp[List.getD,q2]
   rw[e3]
   show(vs.toArray.zip vs.toArray).map (·.2)=vs.toArray
   apply Array.ext
   ·simp
   ·intro i q1 q2
    simp
  refine wpAny_bind (listUpdate_at ho6 rfl ?_ (Nat.zero_le _) (by rw[eo,size_toArray,length_map];simp;rw[sizeLine_eq];lia))
  simp only[bne_self_eq_false,Bool.false_eq_true,if_false]
  refine wpAny_pure ?_;rw[eo];refine h (List.range vs.length).toArray (Array.Perm.refl _) fun i hi hb=>?_;rw[size_toArray] at h2;lia
 ·rw[if_neg h2,if_neg h2]
  rw[size_toArray] at h2;refine wpAny_bind (hk _ keep (by lia) _ ?_)
  have run:=kat_run (E:=E) (κ:=tuples' true) (ks:=vs) (vs:=vs) (prog:=prog) (w:=w) (A:=A) (Q:=fun st' s'=>s' = { s with heap:=((s.heap.update a (Obj.mapSeq fun _=>(#[]:Array Value))).push (seqObj "tuple" vs.toArray 0)).push (seqObj "list" #[] 0) }/\failedOf st'=none/\∃ p:Array Nat,p.Perm (List.range vs.length).toArray/\Up r p vs.length/\arrOf st'=p.map (kas_item (vs.toArray.zip vs.toArray)))
   (G:=fun p s'=>s' = { s with heap:=((s.heap.update a (Obj.mapSeq fun _=>(#[]:Array Value))).push (seqObj "tuple" vs.toArray 0)).push (seqObj "list" #[] 0) }/\p.Perm (List.range vs.length).toArray/\Up r p vs.length) rfl (by lia) h64 (fun p st' s' a1 a2 a3 ⟨b1,b2,b3⟩=>⟨b1,a3,p,b2,b3,a2⟩)
   (bb3 (J:=fun s'=>s' = { s with heap:=((s.heap.update a (Obj.mapSeq fun _=>(#[]:Array Value))).push (seqObj "tuple" vs.toArray 0)).push (seqObj "list" #[] 0) }) (lt:=ltR r) (n:=vs.length) (fun i j C s' hi hj hJ q=>by
    subst hJ
    exact hc _ keep i j hi hj C (q _ rfl)) _ _ _ (aM5 (by lia)) rfl fun s' hJ=>⟨hJ,a74 (by lia)⟩)
  refine wpAny_bind (wpAny_mono run ?_ fun _ _ e=>e)
  rintro⟨⟨⟩,st'⟩ s' ⟨rfl,hf,p,pm,up,har⟩
  dsimp only
  have hout:=kat_snds (ks:=vs) (vs:=vs) rfl har;have hsz:(p.toList.map fun i=>vs.getD i Value.none).toArray.size=vs.length:=by rw[size_toArray,length_map,Array.length_toList,pm.size_eq];simp
  rw[hout];refine wpAny_bind (seqEpoch_at ho6 rfl ?_);refine wpAny_bind (listUpdate_at ho6 rfl ?_ (Nat.zero_le _) (by rw[hsz,sizeLine_eq];lia))
  rw[hf]
  simp only[bne_self_eq_false,Bool.false_eq_true,if_false]
  exact wpAny_pure (h p pm up)
theorem aR2 {l:Addr}{vs:List Value}{r:Nat->Int}{Q:Value->Shared->Prop}(hl:s.heap.IsList l vs.toArray)(h64:vs.length < 64)
  (hk:∀(A:Around)(E:Value->Shared->Prop)(h':Heap),(∀ b o,s.heap.get? b=some o->h'.get? b=some o)->2<=vs.length->∀ Q':SortKind->Shared->Prop,Q' (tuples' true) { s with heap:=h' }->wpAny (model prog w) A (keyKind' vs.toArray) Q' E { s with heap:=h' })
  (hc:∀(A:Around)(h':Heap),(∀ b o,s.heap.get? b=some o->h'.get? b=some o)->∀ i j,i < vs.length->j < vs.length->∀ C:Bool->Shared->Prop,C (decide (r i < r j)) { s with heap:=h' }->wpAny (model prog w) A (keyLt' (tuples' true) (vs.getD i Value.none) (vs.getD j Value.none)) C (fun _ _=>False) { s with heap:=h' })
  (h:∀(p:Array Nat),p.Perm (List.range vs.length).toArray->Up r p vs.length->Q (.ref (s.heap.objs.size + 1)) { s with heap:=sortedAll s.heap vs (p.toList.map fun i=>vs.getD i Value.none).toArray }) :
  wpAny (model prog w) A (call (.builtin "sorted") [.ref l]) Q E s:=by
 refine Calls.call_function_entry kind_sorted plain_sorted entry_sorted (args_sorted1 _) ?_;unfold Builtin.«sorted»;refine wpAny_bind (m:=checkCount "sorted" 1 1 _) (wpAny_pure ?_);refine wpAny_bind (collect_list hl ?_ (by rw[sizeLine_eq];lia))
 refine wpAny_bind (wpAny_newList ?_ (by rw[sizeLine_eq];lia))
 have sz:((s.heap.push (seqObj "list" #[] 0)).update s.heap.objs.size (Obj.mapSeq (·++vs.toArray))).objs.size=s.heap.objs.size + 1:=by rw[Heap.size_update,size_push']
 have hoL:(((s.heap.push (seqObj "list" #[] 0)).update s.heap.objs.size (Obj.mapSeq (·++vs.toArray))).push (seqObj "list" vs.toArray 0)).get? (s.heap.objs.size + 1)=some (seqObj "list" vs.toArray 0):=by
  rw[<- sz];exact Heap.get?_push_size _ rfl
 have keep:∀ b o,s.heap.get? b=some o->(((s.heap.push (seqObj "list" #[] 0)).update s.heap.objs.size (Obj.mapSeq (·++vs.toArray))).push (seqObj "list" vs.toArray 0)).get? b=some o:=fun b o q =>
  Heap.get?_push_of_some _ ((Heap.get?_update_other _ _ (Nat.ne_of_gt (Heap.lt_size q))).trans (Heap.get?_push_of_some _ q))
 show wpAny _ _ _ _ _ { s with heap:=((s.heap.push (seqObj "list" #[] 0)).update s.heap.objs.size (Obj.mapSeq (·++vs.toArray))).push (seqObj "list" vs.toArray 0) }
 rw[sz]
 refine wpAny_bind (wpAny_holding (wpAny_call_entry slot_list_sort ⟨_,hoL,rfl⟩ entry_list_sort (ar8 (r:=r) (s:={ s with heap:=((s.heap.push (seqObj "list" #[] 0)).update s.heap.objs.size (Obj.mapSeq (·++vs.toArray))).push (seqObj "list" vs.toArray 0) }) hoL h64
  (fun h' kp h2 Q' q=>hk _ _ h' (fun b o e=>kp b o (Nat.ne_of_lt (Nat.lt_succ_of_lt (Heap.lt_size e))) (keep b o e)) h2 Q' q)
  (fun h' kp i j hi hj C q=>hc _ h' (fun b o e=>kp b o (Nat.ne_of_lt (Nat.lt_succ_of_lt (Heap.lt_size e))) (keep b o e)) i j hi hj C q) fun p pm up=>⟨_,rfl,?_⟩) (args_list_sort _)))
 exact wpAny_pure ⟨_,rfl,h p pm up⟩
end
section
variable {X:Cx}
def ac3 (K:Frag)(H:Hp)(as:List Addr)(its:List (List V)):Prop:=Paired (fun a xs=>SqT K H a xs/\∃ i r,xs=V.int i::r) as its
theorem av9 {K:Frag}{H:Hp}{as:List Addr}{its:List (List V)}(h:ac3 K H as its):∀(i:Nat),i < as.length->∃ a xs,as[i]? = some a/\its[i]? = some xs/\SqT K H a xs/\∃ j r,xs=V.int j::r:=fun i hi=>by
 have e:as[i]? = some as[i]:=List.getElem?_eq_getElem hi;obtain⟨d,e2,q⟩:=j8 h i _ e;exact⟨_,d,e,e2,q.1,q.2⟩
theorem ac4:z7 X (.builtin "sorted") (fun xs H Q=>∃(p:Addr)(as:List Addr)(its:List (List V))(r:Nat->Int),xs=[.ref p]/\SqL X.K H p (as.map V.ref)/\ac3 X.K H as its/\as.length < 64 /\
  (∀ i j x y,its[i]? = some x->its[j]? = some y->S6 x y=some (decide (r i < r j)))/\∀ q:Array Nat,q.Perm (List.range as.length).toArray->Up r q as.length->∀ l,H l=none->Q (.ref l) (upd H l (.lst ((q.toList.map fun i=>as.getD i 0).map V.ref)))):=by
 intro pins s σ H xs us Q I r0 h
 obtain⟨p,as,its,r,rfl,hq,ht,h64,hcmp,q⟩:=h;obtain⟨u,rfl,rx⟩:=K5 r0
 cases rx
 obtain⟨vs,r',pl,hz⟩:=I.list hq
 have evs:vs=as.map Value.ref:=by
  have go:∀(as:List Addr)(vs:List Value),j9 (as.map V.ref) vs->vs=as.map Value.ref:=by
   intro as
   induction as with
   | nil=>intro vs r;cases r;rfl
   | cons a t ih =>
    intro vs r
    rw[map_cons] at r
    cases r with
    | cons r1 r2=>rw[show _=Value.ref a from r1,ih _ r2];rfl
  exact go as vs r'
 subst evs;have hl:(as.map Value.ref).length=as.length:=length_map _
 have hget:∀ i a,as[i]? = some a->(as.map Value.ref).getD i Value.none=.ref a:=fun i a e=>by
  rw[List.getD,List.getElem?_map,e];rfl
 have tl:=Paired.length ht;refine aR2 (r:=r) pl.isList (by rw[hl];exact h64) (fun A E h' kp h2 Q' q'=>?_) (fun A h' kp i j hi hj C q'=>?_) fun pq pm up=>?_
 ·-- the kind
  have I':Inv X pins σ H { s with heap:=h' }:=I.kept (t':=s.toks) kp
  have go:∀(as:List Addr)(its:List (List V)),ac3 X.K H as its->∃ fs:List Value,KatTups h' (as.map Value.ref) fs/\(∀ v∈fs,∃ i t,v=.int i t)/\fs.length=as.length:=by
   intro as its hT
   unfold ac3 at hT
   induction hT with
   | nil=>exact⟨[],trivial,fun v hv=>absurd hv (by simp),rfl⟩
   | @cons a xs as its hx t ih =>
    obtain⟨fs,k1,k2,k3⟩:=ih;obtain⟨hS,i,r,rfl⟩:=hx;obtain⟨us,ru,pu,_⟩:=I'.tuple hS
    cases ru with
    | @cons _ u _ us r1 r2 =>
     obtain⟨tk,rfl⟩:=r1;obtain⟨o,e1,e2,n,e3⟩:=pu;refine⟨.int i tk::fs,KatTups.cons e1 e2 e3 (by simp) k1,fun v hv=>?_,by rw[length_cons,length_cons,k3]⟩
     rcases mem_cons.mp hv with rfl | hv
     ·exact⟨i,tk,rfl⟩
     ·exact k2 v hv
  obtain⟨fs,k1,k2,k3⟩:=go as its ht;refine kat_kind (T:=.type "int") k1 (by rw[hl] at h2;lia) (fun v hv=>?_) (by decide) q'
  obtain⟨i,tk,rfl⟩:=k2 v hv;exact .now
 ·-- a comparison
  have I':Inv X pins σ H { s with heap:=h' }:=I.kept (t':=s.toks) kp
  rw[hl] at hi hj;obtain⟨a,x,ea,ex,hS,_⟩:=av9 ht i hi;obtain⟨b,y,eb,ey,hS',_⟩:=av9 ht j hj;rw[hget i a ea,hget j b eb];obtain⟨us,ru,⟨o,e1,e2,n,e3⟩,_⟩:=I'.tuple hS;obtain⟨us',ru',⟨o',e1',e2',n',e3'⟩,_⟩:=I'.tuple hS';refine kat_lt e1 e3 e1' e3' ?_;exact ag6 x y us us' 0 _ (by simpa using ru) (by simpa using ru') (hcmp i j x y ex ey) (by simp) q'
 ·have sz:(pq.toList.map fun i=>(as.map Value.ref).getD i Value.none)=(pq.toList.map fun i=>as.getD i 0).map Value.ref:=by
   rw[List.map_map]
   apply map_congr_left
   intro i hi
   have hi':i < as.length:=by
    have:=(Array.Perm.mem_iff pm (a:=i)).mp (by simpa using hi)
    rw[hl] at this
    simpa using this
   show _=Value.ref (as.getD i 0)
   rw[hget i as[i] (List.getElem?_eq_getElem hi')]
   simp[List.getD,hi']
  rw[sz];rw[hl] at pm up;obtain⟨e,he⟩:=sortedAll_at s.heap (as.map Value.ref) ((pq.toList.map fun i=>as.getD i 0).map Value.ref).toArray
  have vr:∀ bs:List Addr,j9 (bs.map V.ref) (bs.map Value.ref):=fun bs=>by
   induction bs with
   | nil=>exact .nil
   | cons b t ih=>exact .cons rfl ih
  have hlen:((pq.toList.map fun i=>as.getD i 0).map V.ref).length<=sizeLine:=by
   rw[length_map,length_map,Array.length_toList,pm.size_eq];exact Nat.le_of_lt (j6 (by simp;lia))
  exact⟨.ref (s.heap.objs.size + 1),_,I.laid (t':=s.toks) (o:=.lst ((pq.toList.map fun i=>as.getD i 0).map V.ref)) (fun b o e=>sortedAll_old e) (Nat.le_succ _) ⟨hlen,_,e,vr _,by simpa [seqObj] using he⟩,rfl,q pq pm up _ (I.hok.fresh (Nat.le_succ _))⟩
end
end L2
namespace L2
open PySem PySem.Spec PyProof.Rows
section
variable {X:Cx}{x y z w:Str}{i j k l n:Nat}{px py pz pw pt:Pos}
structure Nm (X:Cx)(i:Nat)(x:Str):Prop where
 at_:X.N[i]? = some x
 loc:Loc X.env.scope x
 fn:X.fn x=true\/X.env.scope.names.lookup x=some .local
theorem Nm.pg (h:Nm X i x)(nd:X.N.Nodup):PG X (.Name x px) (Q4 i):=m5 nd h.at_ h.loc h.fn
theorem pg2 (hc:X.calm=true)(nd:X.N.Nodup)(a:Nm X i x)(b:Nm X j y):PG X (.Tuple [.Name x px,.Name y py] n pt) (be0 X.K 2 (aB4 (Q4 i) (aB4 (Q4 j) bc8))) :=
 bf7 (X:=X) (n:=2) hc (aC2 (X:=X) (a.pg nd) (aC2 (X:=X) (b.pg nd) a_0))
end
section
variable {es:List Expr}{env:Env}{c:Const}{i:Nat}{p:Pos}
theorem m4:starEach (.Constant c i p::es) env=(false,eval (.Constant c i p) env)::starEach es env:=by rw[starEach];intro a b h;cases h
theorem b9 {x:Str}:starEach (.Name x p::es) env=(false,eval (.Name x p) env)::starEach es env:=by rw[starEach];intro a b h;cases h
theorem n6 {f:Expr}{as:List Expr}{ks:List Keyword}:starEach (.Call f as ks p::es) env=(false,eval (.Call f as ks p) env)::starEach es env:=by rw[starEach];intro a b h;cases h
theorem L9 {a b:Expr}{o:Operator}:starEach (.BinOp a o b p::es) env=(false,eval (.BinOp a o b p) env)::starEach es env:=by rw[starEach];intro a b h;cases h
theorem bg9 {a:Expr}{o:UnaryOp}:starEach (.UnaryOp o a p::es) env=(false,eval (.UnaryOp o a p) env)::starEach es env:=by rw[starEach];intro a b h;cases h
theorem x6 {a b:Expr}:starEach (.Subscript a b p::es) env=(false,eval (.Subscript a b p) env)::starEach es env:=by rw[starEach];intro a b h;cases h
theorem ah3 {a:List Expr}:starEach (.Tuple a i p::es) env=(false,eval (.Tuple a i p) env)::starEach es env:=by rw[starEach];intro a b h;cases h
theorem ag0 {a:List Expr}:starEach (.List a p::es) env=(false,eval (.List a p) env)::starEach es env:=by rw[starEach];intro a b h;cases h
theorem P1 {a:Expr}{g:List Comprehension}{s:Scope}:starEach (.ListComp a g s p::es) env=(false,eval (.ListComp a g s p) env)::starEach es env:=by rw[starEach];intro a b h;cases h
theorem at8 {a:Expr}{x:Str}:starEach (.Attribute a x p::es) env=(false,eval (.Attribute a x p) env)::starEach es env:=by rw[starEach];intro a b h;cases h
end
section
variable {X:Cx}
theorem m3 (K:Frag)(h:X.K=K:=by rfl):IxR X (a61 K):=h ▸ aK2
theorem j1 (K:Frag)(h:X.K=K:=by rfl):IxR X (bf9 K):=h ▸ aY7
theorem av1 (K:Frag)(h:X.K=K:=by rfl):SlR X (bi2 K):=h ▸ a64
theorem ah8 (K:Frag)(h:X.K=K:=by rfl):OpR X (compareOp .In) (rIn K false):=h ▸ aO7
theorem aQ8 (K:Frag)(h:X.K=K:=by rfl):OpR X (compareOp .NotIn) (rIn K true):=h ▸ aq0
def a_8 (K:Frag):List V->Hp->VK->Prop:=fun xs H Q=>∃ p ys,xs=[.ref p]/\(SqL K H p ys\/SqT K H p ys)/\Q (.int ys.length) H
theorem y0 (K:Frag)(h:X.K=K:=by rfl):z7 X (.builtin "len") (a_8 K):=h ▸ au7
def a_1 (K:Frag):List V->Hp->VK->Prop:=fun xs H Q=>∃ p ys,xs=[.ref p]/\(SqL K H p ys\/SqT K H p ys)/\∀ l,H l=none->Q (.ref l) (upd H l (.lst ys))
theorem B6 (K:Frag)(h:X.K=K:=by rfl):z7 X (.type "list") (a_1 K):=h ▸ as0
def aZ4 (K:Frag):List V->Hp->VK->Prop:=fun xs H Q=>∃ p ys,xs=[.ref p]/\((SqL K H p ys/\∀ l,H l=none->Q (.ref l) (upd H l (.tup ys)))\/(SqT K H p ys/\Q (.ref p) H))
theorem P8 (K:Frag)(h:X.K=K:=by rfl):z7 X (.type "tuple") (aZ4 K):=h ▸ al0
def a83 (K:Frag):List V->Hp->VK->Prop:=fun xs H Q=>∃ v T t b,xs=[v,.ty T]/\TyOf K H v t/\kitOne K t (.type T)=some b/\Q (.bl b) H
theorem A7 (K:Frag)(h:X.K=K:=by rfl):z7 X (.builtin "isinstance") (a83 K):=h ▸ aB9
def bh2 (K:Frag):List V->Hp->VK->Prop:=fun xs H Q=>∃(p:Addr)(bs:List Bool),xs=[.ref p]/\SqL K H p (bs.map V.bl)/\Q (.bl (bs.all id)) H
theorem am6 (K:Frag)(hc:X.calm=true)(h:X.K=K:=by rfl):z7 X (.builtin "all") (bh2 K):=h ▸ ah5 hc
def bj2 (K:Frag):List V->Hp->VK->Prop:=fun xs H Q=>∃(p:Addr)(bs:List Bool),xs=[.ref p]/\SqL K H p (bs.map V.bl)/\Q (.bl (bs.any id)) H
theorem aN3 (K:Frag)(hc:X.calm=true)(h:X.K=K:=by rfl):z7 X (.builtin "any") (bj2 K):=h ▸ ai7 hc
def aT4 (K:Frag):List V->Hp->VK->Prop:=fun xs H Q=>∃(p:Addr)(ns:List Int),xs=[.ref p]/\SqL K H p (ns.map V.int)/\ns.length < 64/\∀ ns':List Int,ns'.Perm ns->ns'.Pairwise (·<=·)->∀ l,H l=none->Q (.ref l) (upd H l (.lst (ns'.map V.int)))
theorem aq9 (K:Frag)(h:X.K=K:=by rfl):z7 X (.builtin "sorted") (aT4 K):=h ▸ ab4
def aM9 (P:Program)(w:World)(l:Addr)(ns:List Int):HO:=.ext fun h=>M9 (intKind P w) h l (fun k=>decide (k∈ns)) (w9 ns).length
def ba1 (K:Frag)(P:Program)(w:World):List V->Hp->VK->Prop:=fun xs H Q=>∃(p:Addr)(ns:List Int),xs=[.ref p]/\SqL K H p (ns.map V.int)/\ns.length < 4000/\∀ l,H l=none->Q (.ref l) (upd H l (aM9 P w l ns))
theorem ad2 (K:Frag)(P:Program)(w:World)(hc:X.calm=true)(h:X.K=K:=by rfl)(hP:X.prog=P:=by rfl)(hw:X.w=w:=by rfl):z7 X (.type "set") (ba1 K P w):=by
 subst h hP hw;exact ak9 hc
def ay2 (P:Program)(w:World):List V->Hp->VK->Prop:=fun xs H Q=>∃(p:Addr)(ns:List Int),xs=[.ref p]/\H p=some (aM9 P w p ns)/\ns.length < 64/\∀ l,H l=none->Q (.ref l) (upd H l (.lst ((w9 ns).map V.int)))
theorem X7 (P:Program)(w:World)(hc:X.calm=true)(hP:X.prog=P:=by rfl)(hw:X.w=w:=by rfl):z7 X (.builtin "sorted") (ay2 P w):=by
 subst hP hw;exact ae6 hc
def bi6 (P:Program)(w:World):List V->Hp->VK->Prop:=fun xs H Q=>∃(p:Addr)(ns:List Int),xs=[.ref p]/\H p=some (aM9 P w p ns)/\Q (.int (w9 ns).length) H
theorem ai4 (P:Program)(w:World)(hP:X.prog=P:=by rfl)(hw:X.w=w:=by rfl):z7 X (.builtin "len") (bi6 P w):=by
 subst hP hw;exact call_len_set
def aA6 (K:Frag):List V->Hp->VK->Prop:=fun xs H Q=>∃(p:Addr)(as:List Addr)(its:List (List V))(r:Nat->Int),xs=[.ref p]/\SqL K H p (as.map V.ref)/\ac3 K H as its/\as.length < 64 /\
  (∀ i j x y,its[i]? = some x->its[j]? = some y->S6 x y=some (decide (r i < r j)))/\∀ q:Array Nat,q.Perm (List.range as.length).toArray->Up r q as.length->∀ l,H l=none->Q (.ref l) (upd H l (.lst ((q.toList.map fun i=>as.getD i 0).map V.ref)))
theorem X3 (K:Frag)(h:X.K=K:=by rfl):z7 X (.builtin "sorted") (aA6 K):=h ▸ ac4
def bm2 (K:Frag):R2:=fun x y H Q=>∃(a b:Addr)(ns ms:List Int),x=.ref a/\y=.ref b/\SqL K H a (ns.map V.int)/\SqL K H b (ms.map V.int)/\Q (.bl (!decide (ns=ms))) H
def bm1 (K:Frag):R2:=fun x y H Q=>∃(a b:Addr)(ns ms:List Int),x=.ref a/\y=.ref b/\SqL K H a (ns.map V.int)/\SqL K H b (ms.map V.int)/\Q (.bl (decide (ns=ms))) H
theorem aM3 (K:Frag)(hu:X.A.units < cLine)(h:X.K=K:=by rfl):OpR X (compareOp .NotEq) (bm2 K):=h ▸ a48 hu
theorem a60 (K:Frag)(hu:X.A.units < cLine)(h:X.K=K:=by rfl):OpR X (compareOp .Eq) (bm1 K):=h ▸ a80 hu
section
variable {δ:Type} [DecidableEq δ] {n:Nat} {R:Hp->V->δ->Prop}
def bl4 (K:Frag)(R:Hp->V->δ->Prop):R2:=fun x y H Q=>∃ ds ds',az9 K R H x ds/\az9 K R H y ds'/\Q (.bl (!decide (ds=ds'))) H
def bk7 (K:Frag)(R:Hp->V->δ->Prop):R2:=fun x y H Q=>∃ ds ds',az9 K R H x ds/\az9 K R H y ds'/\Q (.bl (decide (ds=ds'))) H
theorem aJ7 (K:Frag)(ep:EqRep X n R)(hu:X.A.units + 1 + n < cLine)(h:X.K=K:=by rfl):OpR X (compareOp .NotEq) (bl4 K R):=h ▸ bg3 ep hu
theorem a07 (K:Frag)(ep:EqRep X n R)(hu:X.A.units + 1 + n < cLine)(h:X.K=K:=by rfl):OpR X (compareOp .Eq) (bk7 K R):=h ▸ bb5 ep hu
end
def bm5 (K:Frag)(ta:TE):TT:=fun σ H Q=>ta σ H fun x H'=>∃ k,bd7 K x H' k/\Q k H'
theorem B3 (K:Frag){a:Expr}{ta:TE}(ha:PE X a ta)(he:∀ whole,isTrue a X.env whole=(do let v <- whole;standAt a.pos;holding [v] (truthy v)))(h:X.K=K:=by rfl):PT X a (bm5 K ta):=h ▸ aY1 ha he
theorem o4 (K:Frag){tg l:Expr}{tl:TE}(hl:PE X l tl)(h:X.K=K:=by rfl):PI X tg l (ba4 K tl):=h ▸ a_6 hl
theorem au4 (K:Frag){tg l:Expr}{tl:TE}(hl:PE X l tl)(h:X.K=K:=by rfl):PI X tg l (bh6 K tl):=h ▸ bf5 hl
variable {x y z w:Str}{i j k l n:Nat}{px py pz pw pt:Pos}
theorem bm6 (K:Frag)(hc:X.calm=true)(nd:X.N.Nodup)(a:Nm X i x)(b:Nm X j y)(h:X.K=K:=by rfl):PG X (.Tuple [.Name x px,.Name y py] n pt) (be0 K 2 (aB4 (Q4 i) (aB4 (Q4 j) bc8))):=h ▸ pg2 hc nd a b
end
section
variable {X:Cx}{o e:Expr}{es:List Expr}{to:TE}{t:TA}{name:Str}{apos cpos:Pos}{T id:String}{r:V->List V->Hp->VK->Prop}
theorem C4 (K:Frag)(pa:PlainAttrs T)(slot:Slot T name id)(hty:typeOf (.builtin id)=pure (.type "method_descriptor"))(hm:MtR X id r)(ho:PE X o to)(ha:PA X (e::es) t)(h:X.K=K:=by rfl)
  (hbase:attributeBase o name X.env (eval o X.env)=eval o X.env:=by rfl)
  (hfew:((backTo cpos (starEach (e::es) X.env)).all (fun x=>!x.1)&&(backToKw cpos (keywordEach [] X.env)).all (fun x=>x.1.isSome)
  &&decide ((e::es).length + ([]:List Keyword).length + (if ([]:List Keyword).isEmpty then 0 else 1) < 30))=true:=by rfl)
  (hline:(apos.endLine == cpos.line)=true:=by rfl) (hs:starEach (e::es) X.env=(false,eval e X.env)::starEach es X.env:=by rfl) (hplain:(backTo cpos (starEach es X.env)).any (·.1)=false:=by rfl) :
  PE X (.Call (.Attribute o name apos) (e::es) [] cpos) (tBM K T r to t):=h ▸ bi5 pa slot hty hm ho ha hbase hfew hline hs hplain
end
theorem E6 {α β:Type}{R R':α->β->Prop}:∀{as:List α}{ds:List β},Paired R as ds->(∀ a b,b∈ds->R a b->R' a b)->Paired R' as ds
 | _,_,.nil,_=>.nil
 | _,_,.cons h t,hi=>.cons (hi _ _ (mem_cons_self ..) h) (E6 t fun a b hb=>hi a b (mem_cons_of_mem _ hb))
theorem Room.units2 {k:Nat}{A:Around}(r:Room k A):A.units + 1 + (0 + 1) < cLine:=by have:=r.un;lia
theorem x8 {X:Cx}:MtR X "list.append" aM0:=aN6
theorem V4 {H:Hp}:∀ d:List Int,Paired (bg7 H) (d.map V.int) d
 | []=>.nil
 | _::t=>.cons rfl (V4 t)
def be5:Hp->V->Key->Prop:=fun _ x k=>x=kV k
section
variable {X:Cx}
theorem aT8:EqRep X 0 be5 where
 eq:=fun H x y dx dy hx hy A pins s σ u v I ru rv hu=>by
  subst hx hy
  rcases dx with i | i <;> rcases dy with j | j
  ·obtain⟨t,rfl⟩:=ru
   obtain⟨t',rfl⟩:=rv
   have:=SeqAt.EqAt.int_int (A:=A) (s:=s) i t j t'
   rw[show decide ((Sum.inl i:Key)=Sum.inl j)=(i == j) by rw[Bool.eq_iff_iff];simp]
   exact this
  ·obtain⟨t,rfl⟩:=ru
   obtain⟨t',rfl⟩:=rv
   have:=SeqAt.EqAt.int_str (A:=A) (s:=s) i t j t'
   rw[decide_eq_false (fun z=>nomatch z)];exact this
  ·obtain⟨t,rfl⟩:=ru
   obtain⟨t',rfl⟩:=rv
   have:=SeqAt.EqAt.str_int (A:=A) (s:=s) i t j t'
   rw[decide_eq_false (fun z=>nomatch z)];exact this
  ·obtain⟨t,rfl⟩:=ru
   obtain⟨t',rfl⟩:=rv
   have:=SeqAt.EqAt.str_str (A:=A) (s:=s) i t j t'
   rw[show decide ((Sum.inr i:Key)=Sum.inr j)=(i == j) by rw[Bool.eq_iff_iff];simp]
   exact this
 fn:=fun _ _ _ _ x d d' _ h h'=>by subst h;exact bd3 h'
def inD (ds:List (List Key))(d:List Key):Bool:=ds.any fun x=>decide (x=d)
theorem af5 {ds:List (List Key)}{d:List Key}:inD ds d=true↔d∈ds:=by
 unfold inD;rw[any_eq_true]
 constructor
 ·rintro⟨x,hx,h⟩
  rw[<- of_decide_eq_true h];exact hx
 ·intro h
  exact⟨d,h,decide_eq_true rfl⟩
def bi3 (K:Frag)(neg:Bool):R2:=fun x y H Q=>∃(p b:Addr)(as:List Addr)(d:List Key)(ds:List (List Key)),x=.ref b/\y=.ref p/\SqL K H p (as.map V.ref)/\SqT K H b (d.map kV)/\Paired (fun a d=>SqT K H a (d.map kV)) as ds/\Q (.bl (if neg then !inD ds d else inD ds d)) H
theorem F1 {H:Hp}:∀ d:List Key,Paired (be5 H) (d.map kV) d
 | []=>.nil
 | _::t=>.cons rfl (F1 t)
theorem aL4 {pins:List (Addr×Obj)}{σ:St}{H:Hp}{s:Shared}{b:Addr}{as:List Addr}{d:List Key}{ds:List (List Key)}{A:Around}(I:Inv X pins σ H s)(hb:SqT X.K H b (d.map kV))(hp:Paired (fun a d=>SqT X.K H a (d.map kV)) as ds)
  (hu:A.units + 1 < cLine){its:List Value}(r:j9 (as.map V.ref) its) :
  ∃ e:Value->Bool,(∀ y,y∈its.toArray->SeqAt.EqAt A s y (.ref b) (e y))/\its.toArray.any e=inD ds d:=by
 have ep:=aF0 (X:=X) aT8;have rd:∀(j:Nat) a,as[j]? = some a->∃ d',ds[j]? = some d'/\SqT X.K H a (d'.map kV):=fun j a h=>j8 hp j a h
 have evs:its=as.map Value.ref:=by
  have go:∀(as:List Addr)(vs:List Value),j9 (as.map V.ref) vs->vs=as.map Value.ref:=by
   intro as
   induction as with
   | nil=>intro vs r;cases r;rfl
   | cons a t ih =>
    intro vs r
    rw[map_cons] at r
    cases r with
    | cons r1 r2=>rw[show _=Value.ref a from r1,ih _ r2];rfl
  exact go as its r
 subst evs
 let e:Value->Bool:=fun y=>match y with
  | .ref a=>(List.range as.length).any fun j=>decide (as[j]? = some a)&&decide (ds[j]? = some d)
  | _=>false
 have eR:∀ a,e (.ref a)=true↔∃ j:Nat,as[j]? = some a/\ds[j]? = some d:=fun a=>by
  show((List.range as.length).any fun j=>decide (as[j]? = some a)&&decide (ds[j]? = some d))=true↔_
  rw[any_eq_true]
  constructor
  ·rintro⟨j,_,h⟩
   rw[Bool.and_eq_true] at h;exact⟨j,of_decide_eq_true h.1,of_decide_eq_true h.2⟩
  ·rintro⟨j,h1,h2⟩
   exact⟨j,List.mem_range.mpr (List.getElem?_eq_some_iff.mp h1).1,by rw[Bool.and_eq_true];exact⟨decide_eq_true h1,decide_eq_true h2⟩⟩
 have key:∀(j:Nat) a d',as[j]? = some a->ds[j]? = some d'->e (.ref a)=decide (d'=d):=fun j a d' h1 h2=>by
  rw[Bool.eq_iff_iff,eR,decide_eq_true_iff]
  constructor
  ·rintro⟨k,g1,g2⟩
   obtain⟨d1,q1,s1⟩:=rd j a h1;obtain⟨d2,q2,s2⟩:=rd k a g1;rw[h2] at q1;rw[g2] at q2
   cases q1
   cases q2
   exact ep.fn pins s σ H (.ref a) _ _ I ⟨a,_,rfl,s1,F1 _⟩ ⟨a,_,rfl,s2,F1 _⟩
  ·rintro rfl
   exact⟨j,h1,h2⟩
 refine⟨e,fun y hy=>?_,?_⟩
 ·have hy':y∈as.map Value.ref:=by simpa using hy
  obtain⟨a,ha,rfl⟩:=List.mem_map.mp hy';obtain⟨j,hj⟩:=List.getElem?_of_mem ha;obtain⟨d',q1,s1⟩:=rd j a hj;rw[key j a d' hj q1];exact ep.eq H (.ref a) (.ref b) d' d ⟨a,_,rfl,s1,F1 _⟩ ⟨b,_,rfl,hb,F1 _⟩ A pins s σ (.ref a) (.ref b) I rfl rfl (by lia)
 ·rw[Bool.eq_iff_iff,af5,Array.any_eq_true']
  constructor
  ·rintro⟨y,hy,h⟩
   have hy':y∈as.map Value.ref:=by simpa using hy
   obtain⟨a,ha,rfl⟩:=List.mem_map.mp hy';obtain⟨j,_,h2⟩:=(eR a).mp h;exact List.mem_of_getElem? h2
  ·intro h
   obtain⟨j,hj⟩:=List.getElem?_of_mem h;have hl:as.length=ds.length:=Paired.length hp;have hj':=(List.getElem?_eq_some_iff.mp hj).1;have ea:as[j]? = some (as[j]'(by lia)):=List.getElem?_eq_getElem (by lia)
   exact⟨.ref (as[j]'(by lia)),by simp,(eR _).mpr ⟨j,ea,hj⟩⟩
theorem a54 (K:Frag)(hu:X.A.units + 2 < cLine)(h:X.K=K:=by rfl):OpR X (compareOp .In) (bi3 K false):=by
 subst h
 intro pins s σ H x y v u Q I rx ry h
 obtain⟨p,b,as,d,ds,rfl,rfl,hq,hb,hp,q⟩:=h
 cases rx
 cases ry
 obtain⟨its,r,pl,hz⟩:=I.list hq;obtain⟨e,h1,h2⟩:=aL4 (A:=X.A.in1) I hb hp (by show X.A.units + 1 + 1 < cLine;lia) r
 refine SeqAt.in_listAt e pl.isList h1 ⟨.bl _,H,I,rfl,?_⟩;rw[h2];exact q
theorem ak8 (K:Frag)(hu:X.A.units + 2 < cLine)(h:X.K=K:=by rfl):OpR X (compareOp .NotIn) (bi3 K true):=by
 subst h
 intro pins s σ H x y v u Q I rx ry h
 obtain⟨p,b,as,d,ds,rfl,rfl,hq,hb,hp,q⟩:=h
 cases rx
 cases ry
 obtain⟨its,r,pl,hz⟩:=I.list hq;obtain⟨e,h1,h2⟩:=aL4 (A:=X.A.in1) I hb hp (by show X.A.units + 1 + 1 < cLine;lia) r
 refine SeqAt.notIn_listAt e pl.isList h1 ⟨.bl _,H,I,rfl,?_⟩;rw[h2];exact q
theorem Room.unitsT {k:Nat}{A:Around}(r:Room k A):A.units + 2 < cLine:=by have:=r.un;lia
end
section
variable {X:Cx}
theorem a72:PIp X .Add (rI0 fun i j=>.int (i + j)):=a82
theorem aQ6 (K:Frag)(h:X.K=K:=by rfl):bd1 X (fun x y H Q=>∃ p xs i z,x=.ref p/\y=.int i/\SqL K H p xs/\0<=i/\xs[i.toNat]? = some z/\Q z H):=by
 subst h
 intro pins s σ H x y v u Q I rx ry h
 obtain⟨p,xs,i,z,rfl,rfl,hq,h0,he,q⟩:=h
 cases rx
 obtain⟨t,rfl⟩:=ry;obtain⟨its,r,pl,hz⟩:=I.list hq;obtain⟨w,ew,rw'⟩:=r.get he;have hl:=r.length;have hi:=(List.getElem?_eq_some_iff.mp he).1;have hn:=U6;exact wpAny_getItem_list pl.isList h0 (by lia) (by simpa using ew) ⟨z,H,I,rw',q⟩
end
section
variable {X:Cx}
def bi0 (i j:Int):Prop:=0 < j/\j < 18446744073709551616
theorem az2:OpR X (binaryOp .FloorDiv) (rI bi0 fun i j=>.int (i / j)):=opI fun i j _ _ _ _ _ hc q=>by
 have h1:(0:Int) < j:=hc.1;have h2:j < 18446744073709551616:=hc.2;refine floordiv_int (by lia) (by rw[Int.fdiv_eq_ediv_of_nonneg i (by lia)];exact q) (.inl (PyProof.noPylong_of_log2 ?_))
 have h3:j.natAbs < 2 ^ 64:=by lia
 have h4:j.natAbs≠0:=by lia
 have:=(Nat.log2_lt h4).mpr h3
 lia
variable {δ:Type} [DecidableEq δ] {n:Nat} {R:Hp->V->δ->Prop}
theorem Room.units3 {k:Nat}{A:Around}(r:Room k A):A.units + 1 + (0 + 1 + 1) < cLine:=by have:=r.un;lia
end
structure DefD (K:Frag)(mg:Str->Option Value)(x:Str)(st:Stmt)(ps:List Str)(dvs:List V):Prop where
 ex:∃(f:Addr)(fd:FuncData),(∃(oc:Value)(od:Option Addr)(dV kV doc pm:Value)(an:Option Addr)(cdv ct:Value)(osl:Array (Option Value)),
   fd=fnOf x x (j2 st) (i3 st) (d7 st) dV kV doc pm an cdv ct/\K.lookup f=some ⟨oc,od,.func fd,osl⟩/\codeIn K cdv x=true)/\keepIn K (.ref f)=true /\
  (∀ m,m<=dvs.length->∃ ds,j9 (dvs.drop m) ds/\I9 K fd ps ds)/\mg x=some (.ref f)
structure CalleeD (P:Program)(w:World)(K:Frag)(mg:Str->Option Value)(base:Heap)(k:Nat)(x:Str)(ps:List Str)(dvs:List V)(sp:Sp):Prop where
 ex:∃(f:Addr)(fd:FuncData),FnOk P w K mg base CX0 k f fd ps sp/\(∀ m,m<=dvs.length->∃ ds,j9 (dvs.drop m) ds/\I9 K fd ps ds)/\keepIn K (.ref f)=true/\mg x=some (.ref f)
section
variable {P:Program}{w:World}{K:Frag}{mg:Str->Option Value}{base:Heap}
theorem DefD.ok {x:Str}{st:Stmt}{N ps:List Str}{k:Nat}{dvs:List V}{sp:Sp}(D:DefD K mg x st ps dvs)(S:FnScope N ps (d7 st))(len:∀ vs H Q E,sp vs H Q E->vs.length=ps.length)
  (hbody:∀(f:Addr)(cdv:Value)(A:Around)(outer:List Env)(s:Shared)(H:Hp)(vs:List V)(Q:VK)(E:XK),Room k (A.deeper (envOfC x (d7 st) s.heap.objs.size f cdv))->sp vs H Q E ->
   ∃ t,PSs (N5 CX0 P w K mg base N x (d7 st) f cdv A outer s H E).nox (i3 st) t/\t { nx:=fun _ H'=>Q .non H',rt:=Q } (start N vs) H):CalleeD P w K mg base (k + 1) x ps dvs sp:=by
 obtain⟨f,fd,⟨oc,od,dV,kV,doc,pm,an,cdv,ct,osl,rfl,lk,hcd⟩,kp,b,m⟩:=D.ex;refine⟨f,_,ap8 lk hcd S len fun A outer s H vs Q E hr hsp=>?_,b,kp,m⟩;obtain⟨t,h,q⟩:=hbody f cdv A outer s H vs Q E hr hsp;exact⟨t,h.nox,q⟩
theorem CalleeD.all {x:Str}{ps:List Str}{k:Nat}{dvs:List V}{sp:Sp}(C:CalleeD P w K mg base k x ps dvs sp):Callee P w K mg base k x ps sp:=by
 obtain⟨f,fd,F,b,kp,m⟩:=C.ex;obtain⟨ds,hv,hb⟩:=b dvs.length (Nat.le_refl _);rw[drop_length] at hv
 cases hv
 exact⟨f,fd,F,hb,kp,m⟩
end
section
variable {X:Cx}
def ae7 (l:Addr)(j:Int):HO:=.ext fun h=>∃ t u v,IsRange h l 0 j 1 t u v
def bl2:List V->Hp->VK->Prop:=fun xs H Q=>∃ j:Int,xs=[.int j]/\∀ l,H l=none->Q (.ref l) (upd H l (ae7 l j))
theorem ah2:z7 X (.type "range") bl2:=by
 intro pins s σ H xs us Q I r h
 obtain⟨j,rfl,q⟩:=h;obtain⟨u,rfl,t,rfl⟩:=K5 r;refine call_range_1 ?_
 have new:p6 X.prog X.w (upd H s.heap.objs.size (ae7 s.heap.objs.size j)) (s.heap.push { cls:=.type "range",data:=.fields #[.int 0 s.toks,.int j t,.int 1 (s.toks + 1)] }) s.heap.objs.size (ae7 s.heap.objs.size j):=by
  have e:IsRange (s.heap.push { cls:=.type "range",data:=.fields #[.int 0 s.toks,.int j t,.int 1 (s.toks + 1)] }) s.heap.objs.size 0 j 1 s.toks t (s.toks + 1):=IsRange.new ..;exact⟨⟨_,_,_,e⟩,⟨_,e⟩,fun h1 h2 ⟨_,_,_,a⟩ b=>⟨_,_,_,b _ a⟩⟩
 exact⟨.ref s.heap.objs.size,_,I.laid (t':=s.toks + 1 + 1) (fun b o e=>Heap.get?_push_of_some _ e) (Nat.le_refl _) new,rfl,q _ (I.hok.fresh (Nat.le_refl _))⟩
def bf3:List V->Hp->VK->Prop:=fun xs H Q=>∃(l:Addr)(n:Nat),xs=[.ref l]/\H l=some (ae7 l n)/\n<=1000/\∀ t,H t=none->Q (.ref t) (upd H t (.lst ((List.range n).map fun(i:Nat)=>V.int i)))
theorem al7:∀(n:Nat)(acc:Array Value),ItemsOf (fun i v=>∃ t,v=Value.int (0 + (i:Int) * 1) t) acc n->j9 ((List.range n).map fun(i:Nat)=>V.int i) acc.toList:=fun n acc h=>by
 have go:∀(us:List Value)(k:Nat),(∀ i v,us[i]? = some v->∃ t,v=Value.int ((k + i:Nat):Int) t)->j9 ((List.range' k us.length).map fun(i:Nat)=>V.int i) us:=by
  intro us
  induction us with
  | nil=>intro k _;exact .nil
  | cons u r ih =>
   intro k hk
   obtain⟨t,e⟩:=hk 0 u rfl;refine .cons ⟨t,by simpa using e⟩ (ih (k + 1) fun i v hv=>?_)
   obtain⟨t,e⟩:=hk (i + 1) v (by simpa using hv)
   exact⟨t,by rw[e,show k + 1 + i=k + (i + 1) by lia]⟩
 have:=go acc.toList 0 fun i v hv=>by
  obtain⟨t,e⟩:=h.2 i v (by simpa using hv)
  exact⟨t,by rw[e];simp⟩
 rw[Array.length_toList,h.1] at this;rw[List.range_eq_range'];exact this
theorem al4 (hc:X.calm=true):z7 X (.type "list") bf3:=by
 intro pins s σ H xs us Q I r h
 obtain⟨l,n,rfl,e,hz,q⟩:=h;obtain⟨u,rfl,rx⟩:=K5 r
 cases rx
 obtain⟨t,u,v,g⟩:=(show p6 X.prog X.w H s.heap l (ae7 l n) from I.hok l _ e).1;have sz:Builtin.Range.rangeSize 0 (n:Int) 1=(n:Int):=by rw[rangeSize_one];split <;> lia
 refine call_list_range (I.ok.hd hc) g (small_one (by lia) (by lia) (by lia) (by lia)) sz (by lia) fun h' tk acc c kp gS hacc=>?_
 have hv:=al7 n acc hacc
 have I2:Inv X pins σ (upd H s.heap.objs.size (.lst ((List.range n).map fun(i:Nat)=>V.int i))) { s with heap:=h',toks:=tk } :=
  I.laid kp (Nat.le_refl _) (show p6 X.prog X.w _ h' _ (.lst _) from⟨by rw[length_map,length_range];exact Nat.le_of_lt (j6 hz),acc.toList,c,hv,by simpa using gS⟩)
 exact⟨.ref s.heap.objs.size,_,I2,rfl,q _ (I.hok.fresh (Nat.le_refl _))⟩
end
section
variable {X:Cx}
def bg5 (K:Frag):R2:=fun x y H Q=>∃(a b:Addr)(xs:List V),x=.ref a/\y=.ref b/\SqL K H a xs/\SqL K H b []/\Q (.bl (!decide (xs=[]))) H
theorem aS2 (K:Frag)(hu:X.A.units < cLine)(h:X.K=K:=by rfl):OpR X (compareOp .NotEq) (bg5 K):=by
 subst h
 intro pins s σ H x y v u Q I rx ry h
 obtain⟨a,b,xs,rfl,rfl,ha,hb,q⟩:=h
 cases rx
 cases ry
 obtain⟨us,r1,p1,_⟩:=I.list ha;obtain⟨vs,r2,p2,_⟩:=I.list hb
 cases r2
 have l1:=r1.length
 cases xs with
 | nil =>
  cases r1
  refine SeqAt.RcNeAt.lists (e:=fun j=>true) p1.isList p2.isList rfl (by lia) (fun j h1 h2=>absurd h1 (by simp)) X.prog X.w X.xe _ ?_
  exact⟨.bl false,H,I,rfl,q⟩
 | cons x t =>
  refine SeqAt.RcNeAt.lists_lengths p1.isList p2.isList (by simp only[size_toArray];rw[<- l1];simp) (by lia) X.prog X.w X.xe _ ?_
  exact⟨.bl true,H,I,rfl,q⟩
def bc0 (K:Frag):R2:=fun x y H Q=>∃(a b:Addr)(xs:List V),x=.ref a/\y=.ref b/\SqL K H a xs/\SqL K H b []/\Q (.bl (decide (xs=[]))) H
theorem W3 (K:Frag)(hu:X.A.units < cLine)(h:X.K=K:=by rfl):OpR X (compareOp .Eq) (bc0 K):=by
 subst h
 intro pins s σ H x y v u Q I rx ry h
 obtain⟨a,b,xs,rfl,rfl,ha,hb,q⟩:=h
 cases rx
 cases ry
 obtain⟨us,r1,p1,_⟩:=I.list ha;obtain⟨vs,r2,p2,_⟩:=I.list hb
 cases r2
 have l1:=r1.length
 cases xs with
 | nil =>
  cases r1
  refine SeqAt.RcAt.lists (e:=fun j=>true) p1.isList p2.isList rfl (by lia) (fun j h1 h2=>absurd h1 (by simp)) X.prog X.w X.xe _ ?_
  exact⟨.bl true,H,I,rfl,q⟩
 | cons x t =>
  refine SeqAt.RcAt.lists_lengths p1.isList p2.isList (by simp only[size_toArray];rw[<- l1];simp) (by lia) X.prog X.w X.xe _ ?_
  exact⟨.bl false,H,I,rfl,q⟩
end
theorem aa4 {A u:TS}{D:Ends}{σ:St}{H:Hp}(S:St->Hp->Prop)(h1:∀ R:St->Hp->Prop,(∀ σ' H',S σ' H'->R σ' H')->A { D with nx:=R } σ H)(h2:∀ σ' H',S σ' H'->u D σ' H'):bj8 A u D σ H:=h1 (u D) h2
end L2
namespace L2
open PySem PyProof.Rows
def V6 (kf:Nat->Int)(j:Nat):Option Nat->Prop
 | none=>j=0
 | some i=>i < j/\∀ j',j' < j->kf i<=kf j'/\(j' < i->kf i < kf j')
def bd0 (vs:List Value)(kf:Nat->Int)(xs:Array Value):Option Nat->Prop
 | none=>xs=#[]
 | some i=>∃ v t,vs[i]? = some v/\xs=#[v,.int (kf i) t]
theorem aR4 {kf:Nat->Int}{j i:Nat}(b:V6 kf j (some i))(h:kf j < kf i):V6 kf (j + 1) (some j):=by
 refine⟨Nat.lt_succ_self _,fun j' hj'=>?_⟩
 by_cases e:j'=j
 ·subst e
  exact⟨Int.le_refl _,fun z=>absurd z (Nat.lt_irrefl _)⟩
 ·have:=(b.2 j' (by lia)).1
  exact⟨by lia,fun _=>by lia⟩
theorem aN8 {kf:Nat->Int}{j i:Nat}(b:V6 kf j (some i))(h:¬ kf j < kf i):V6 kf (j + 1) (some i):=by
 refine⟨Nat.lt_succ_of_lt b.1,fun j' hj'=>?_⟩
 by_cases e:j'=j
 ·subst e
  have:=b.1
  exact⟨by lia,fun z=>by lia⟩
 ·exact b.2 j' (by lia)
theorem aH2 {kf:Nat->Int}:V6 kf 1 (some 0):=⟨Nat.one_pos,fun j' hj'=>by
 have e:j'=0:=by lia
 subst e
 exact⟨Int.le_refl _,fun z=>absurd z (Nat.lt_irrefl _)⟩⟩
section
variable {prog:Program}{w:World}{A:Around}{E:Value->Shared->Prop}{s:Shared}{R:Result->Shared->Prop}
abbrev kwD:List (Str×Value):=[(Str.ofString "default",.none)]
set_option maxHeartbeats 4000000 in
theorem aS3 {h0:Heap}{l I S:Addr}{vs:List Value}(kf:Nat->Int)(hh:A.handled=none)(hlI:l≠I)(hSI:S≠I)(fI:h0.get? I=none)(fS:h0.get? S=none)(hl:h0.IsList l vs.toArray)
  (hv:∀ i v,vs[i]? = some v->∃(p:Addr)(its:Array Value),v=.ref p/\h0.IsList p its/\((its.size:Nat):Int)=kf i/\((its.size:Nat):Int) < 2 ^ 63)
  (hR:∀(cur:Option Nat)(h':Heap)(tk:Nat),V6 kf vs.length cur->(∀ b o,h0.get? b=some o->h'.get? b=some o)->R (.ok (.ret ((cur.bind fun i=>vs[i]?).getD .none))) { s with heap:=h',toks:=tk }) :
  ∀(r j:Nat)(cur:Option Nat)(h:Heap)(tk c:Nat)(xs:Array Value),vs.length - j=r->j<=vs.length->(∀ b o,h0.get? b=some o->h.get? b=some o)->h.get? S=some (seqObj "list" xs c)->bd0 vs kf xs cur->V6 kf j cur->h.IsListIter I l j ->
   codeAny (model prog w) A (.builtin "min.loop" ⟨[.ref I,.builtin "len",.ref S],kwD⟩) R { s with heap:=h,toks:=tk }:=by
 have nm:(toString "min"++toString ".loop":String) = "min.loop":=by decide
 have W:=Walks.list (prog:=prog) (w:=w) (A:=A.in1) hh I l hlI vs.toArray;have sz:vs.toArray.size=vs.length:=size_toArray ..
 intro r
 induction r with
 | zero =>
  intro j cur h tk c xs hr hj kp gS ka ba it
  obtain rfl:j=vs.length:=by lia
  refine codeAny_builtin PySem.F.entry_min_loop ?_;rw[Around.under_plainId PySem.F.plain_min_loop _]
  show wpAny _ A.in1 (seqItems? (.ref S) >>= _) _ _ _
  refine wpAny_bind (wpAny_seqItems gS rfl ?_)
  show wpAny _ A.in1 (tryCatch (pyNext (.ref I)) _ >>= _) _ _ _
  have hl1:h.IsList l vs.toArray:=hl.at fun o e=>kp _ _ e;refine wpAny_bind (wpAny_tryCatch (W.done _ _ _ ⟨by rw[sz];exact it,hl1⟩ fun h1 tk1 k1=>?_))
  have kp1:∀ b o,h0.get? b=some o->h1.get? b=some o:=fun b o e=>k1 b o (by
   rw[mem_singleton]
   rintro rfl
   rw[fI] at e
   cases e) (kp b o e)
  cases cur with
  | none =>
   cases (show xs=#[] from ka)
   show wpAny _ A.in1 (rule _ >>= fun _=>ret Value.none) _ _ _
   exact wpAny_bind (wpAny_rule (wpAny_pure (hR none h1 tk1 ba kp1)))
  | some i =>
   obtain⟨v,t,ev,rfl⟩:=ka;have gS1:h1.get? S=some (seqObj "list" #[v,.int (kf i) t] c):=k1 S _ (by rw[mem_singleton];exact hSI) gS
   show wpAny _ A.in1 (updateSeq S (fun _=>#[]) >>= _) _ _ _
   refine wpAny_bind (wpAny_updateSeq gS1 rfl (wpAny_bind (wpAny_letGo (wpAny_pure ?_))));have sb:=Heap.SameBut.update h1 S (Obj.mapSeq fun _=>(#[]:Array Value))
   have:=hR (some i) (h1.update S (Obj.mapSeq fun _=>(#[]:Array Value))) tk1 ba (fun b o e=>by
    have:b≠S:=by
     rintro rfl
     rw[fS] at e
     cases e
    rw[sb.2 b this]
    exact kp1 b o e)
   rw[show((some i:Option Nat).bind fun i=>vs[i]?).getD .none=v by rw[Option.bind_some,ev];rfl] at this
   exact this
 | succ r ih =>
  intro j cur h tk c xs hr hj kp gS ka ba it
  have hlt:j < vs.length:=by lia
  refine codeAny_builtin PySem.F.entry_min_loop ?_;rw[Around.under_plainId PySem.F.plain_min_loop _]
  show wpAny _ A.in1 (seqItems? (.ref S) >>= _) _ _ _
  refine wpAny_bind (wpAny_seqItems gS rfl ?_)
  show wpAny _ A.in1 (tryCatch (pyNext (.ref I)) _ >>= _) _ _ _
  have hl1:h.IsList l vs.toArray:=hl.at fun o e=>kp _ _ e;refine wpAny_bind (wpAny_tryCatch (W.item j _ _ _ (by rw[sz];exact hlt) ⟨it,hl1⟩ fun v h1 tk1 pv st1 k1=>?_))
  have ev:vs[j]? = some v:=by simpa using pv
  have kp1:∀ b o,h0.get? b=some o->h1.get? b=some o:=fun b o e=>k1 b o (by
   rw[mem_singleton]
   rintro rfl
   rw[fI] at e
   cases e) (kp b o e)
  have gS1:h1.get? S=some (seqObj "list" xs c):=k1 S _ (by rw[mem_singleton];exact hSI) gS
  obtain⟨p,its,rfl,lp,lk,l63⟩:=hv j v ev
  show wpAny _ A.in1 (tryCatch (holding [Value.ref p] (call (.builtin "len") [Value.ref p])) _ >>= _) _ _ _
  refine wpAny_bind (wpAny_tryCatch (wpAny_holding (Calls.call_len_list (lp.at fun o e=>kp1 _ _ e) l63 ?_)));rw[lk]
  have frame:∀(ys:Array Value),(∀ b o,h0.get? b=some o->(h1.update S (Obj.mapSeq fun _=>ys)).get? b=some o)/\(h1.update S (Obj.mapSeq fun _=>ys)).IsListIter I l (j + 1):=fun ys=>by
   have sb:=Heap.SameBut.update h1 S (Obj.mapSeq fun _=>ys);refine⟨fun b o e=>?_,?_⟩
   ·have:b≠S:=by
     rintro rfl
     rw[fS] at e
     cases e
    rw[sb.2 b this];exact kp1 b o e
   ·exact st1.1.at fun o e=>by rw[sb.2 I (Ne.symm hSI)];exact e
  cases cur with
  | none =>
   cases (show xs=#[] from ka)
   obtain rfl:j=0:=ba
   show wpAny _ A.in1 (updateSeq S (fun _=>#[Value.ref p,.int (kf 0) (tk1 + 1)]) >>= _) _ _ _
   refine wpAny_bind (wpAny_updateSeq gS1 rfl ?_);rw[nm];exact wpAny_pure ⟨plainId_quiet PySem.F.plain_min_loop _,ih 1 (some 0) _ _ _ _ (by lia) (by lia) (frame _).1 (get?_update_seq gS1 _) ⟨_,_,ev,rfl⟩ aH2 (frame _).2⟩
  | some i =>
   obtain⟨vb,tb,evb,rfl⟩:=ka
   show wpAny _ A.in1 (tryCatch (holding [Value.ref p,.int (kf j) (tk1 + 1)] (richCompare .Lt (.int (kf j) (tk1 + 1)) (.int (kf i) tb) >>= _)) _ >>= _) _ _ _
   refine wpAny_bind (wpAny_tryCatch (wpAny_holding (wpAny_bind (CmpOf.ints_lt (prog:=prog) (w:=w) (A:=A.in1) (P:=fun i v=>∃ t,v=.int (kf i) t) kf (fun i v z=>z) j i _ _ _ _ _ ⟨_,rfl⟩ ⟨_,rfl⟩ ?_))));refine wpAny_bind (wpAny_holding (wpAny_truthy_bool ?_));refine wpAny_bind (wpAny_letGo (wpAny_pure ?_))
   by_cases less:kf j < kf i
   ·simp only[less,decide_true,if_true]
    refine wpAny_bind (wpAny_updateSeq gS1 rfl (wpAny_bind (wpAny_letGo ?_)));rw[nm];exact wpAny_pure ⟨plainId_quiet PySem.F.plain_min_loop _,ih (j + 1) (some j) _ _ _ _ (by lia) (by lia) (frame _).1 (get?_update_seq gS1 _) ⟨_,_,ev,rfl⟩ (aR4 ba less) (frame _).2⟩
   ·simp only[less,decide_false,Bool.false_eq_true,if_false]
    refine wpAny_bind (wpAny_letGo ?_);rw[nm];exact wpAny_pure ⟨plainId_quiet PySem.F.plain_min_loop _,ih (j + 1) (some i) _ _ _ _ (by lia) (by lia) kp1 gS1 ⟨_,_,evb,rfl⟩ (aN8 ba less) st1.1⟩
theorem au9 (a v d:Value):argsOk "min" ⟨[a],[(Str.ofString "key",v),(Str.ofString "default",d)]⟩:=by unfold argsOk;kernel_rfl
theorem a51 {l:Addr}{vs:List Value}{Q:Value->Shared->Prop}(kf:Nat->Int)(hh:A.handled=none)(hl:s.heap.IsList l vs.toArray)
  (hv:∀ i v,vs[i]? = some v->∃(p:Addr)(its:Array Value),v=.ref p/\s.heap.IsList p its/\((its.size:Nat):Int)=kf i/\((its.size:Nat):Int) < 2 ^ 63)
  (hQ:∀(cur:Option Nat)(h':Heap)(tk:Nat),V6 kf vs.length cur->(∀ b o,s.heap.get? b=some o->h'.get? b=some o)->Q ((cur.bind fun i=>vs[i]?).getD .none) { s with heap:=h',toks:=tk }) :
  wpAny (model prog w) A (call (.builtin "min") [.ref l] [(Str.ofString "key",.builtin "len"),(Str.ofString "default",.none)]) Q E s:=by
 have nm:(toString "min"++toString ".loop":String) = "min.loop":=by decide
 obtain⟨ol,gl,_⟩:=id hl;have ll:l < s.heap.objs.size:=Heap.lt_size gl;refine kmb_tree PySem.F.kind_min PySem.F.plain_min PySem.F.entry_min (au9 _ _ _) ?_
 show wpAny _ A.in1 (Builtin.Builtins.bindParams "min" ["key","default"] 0 ⟨[],[(Str.ofString "key",.builtin "len"),(Str.ofString "default",.none)]⟩ >>= _) _ _ s
 refine wpAny_bind (wpAny_of_eq (show Builtin.Builtins.bindParams "min" ["key","default"] 0 ⟨[],[(Str.ofString "key",.builtin "len"),(Str.ofString "default",.none)]⟩=pure [some (.builtin "len"),some .none] from rfl) ?_);refine wpAny_bind (wpAny_pure (wpAny_bind (wpAny_pyIter_list hl (wpAny_bind (wpAny_newList ?_ (Nat.zero_le _))))));rw[nm];have zS:(s.heap.push { cls:=.type "list_iterator",data:=.fields #[.ref l,.int 0 0] }).objs.size=s.heap.objs.size + 1:=size_push' ..;refine wpAny_pure ⟨plainId_quiet PySem.F.plain_min_loop _,?_⟩;refine aS3 (s:=s) (h0:=s.heap) kf hh (Nat.ne_of_lt ll) (show(s.heap.push { cls:=.type "list_iterator",data:=.fields #[.ref l,.int 0 0] }).objs.size≠s.heap.objs.size from by rw[zS];exact Nat.succ_ne_self _) (Heap.get?_none_of_le (Nat.le_refl _)) (Heap.get?_none_of_le (by rw[zS];exact Nat.le_succ _)) hl hv hQ _ 0 none _ _ 0 #[] rfl (Nat.zero_le _) (fun b o e=>Heap.get?_push_of_some _ (Heap.get?_push_of_some _ e)) (Heap.get?_push_size _ rfl) rfl rfl ⟨_,Heap.get?_push_of_some _ (Heap.get?_push_size _ rfl),rfl,rfl⟩
end
end L2
namespace L2
open PySem PySem.Spec PyProof.Rows
section
variable {X:Cx}{e:Expr}{t:TA}{p p1 p2 k1 k2 pos:Pos}{j:Nat}
def ba3 (K:Frag)(H:Hp):List Addr->List (List V)->Prop:=Paired fun r row=>SqL K H r row
def T4 (rows:List (List V))(i:Nat):Int:=((rows.getD i []).length:Nat)
def bj7 (K:Frag)(t:TA):TE:=fun σ H Q=>t σ H fun vs H1=>∃(l:Addr)(rs:List Addr)(rows:List (List V)),vs=[.ref l]/\SqL K H1 l (rs.map V.ref)/\ba3 K H1 rs rows/\(rs=[]->Q .non H1) /\
 ∀(i:Nat)(r:Addr),rs[i]? = some r->(∀ j,j < rs.length->T4 rows i<=T4 rows j/\(j < i->T4 rows i < T4 rows j))->Q (.ref r) H1
theorem aR7 (K:Frag)(hc:X.calm=true)(hg:Gl X "min")(hm:X.mg "min" = none)(hgl:Gl X "len")(hml:X.mg "len" = none)(ha:PA X [e] t)(hK:X.K=K:=by rfl)
  (he:starEach [e] X.env=(false,eval e X.env)::starEach [] X.env:=by rfl) (hall:(backToKw pos (keywordEach [⟨some "key",.Name "len" p1,k1⟩,⟨some "default",.Constant .none j p2,k2⟩] X.env)).all (·.1.isSome)=true:=by rfl)
  (hks:(backToKw pos (keywordEach [⟨some "key",.Name "len" p1,k1⟩,⟨some "default",.Constant .none j p2,k2⟩] X.env)).filterMap (·.1)=[Str.ofString "key",Str.ofString "default"]:=by rfl)
  (hkn:(backToKw pos (keywordEach [⟨some "key",.Name "len" p1,k1⟩,⟨some "default",.Constant .none j p2,k2⟩] X.env)).any (·.1.isNone)=false:=by rfl)
  (hpl:(backTo pos (starEach [e] X.env)).any (·.1)=false:=by rfl) :
  PE X (.Call (.Name "min" p) [e] [⟨some "key",.Name "len" p1,k1⟩,⟨some "default",.Constant .none j p2,k2⟩] pos) (bj7 K t):=by
 subst hK
 intro pins s σ H Q I h
 refine wpAny_Call_Name_kw (S3 I hg hm boot_min ?_ (by decide) (by decide))
 refine callWith_builtin_kwB hpl hkn ?_;refine PyProof.Rows.evalArgs_kw2 hall (thn (ha pos pins s σ H _ I h) fun us s1 ⟨vs,H1,I1,r1,q1⟩=>?_) he;refine kws_cons (S3 I1 hgl hml PySem.boot_len (kws_cons (Constant_none (kws_nil ?_))));rw[hks];obtain⟨l,rs,rows,rfl,hl,hr,q0,qi⟩:=q1;obtain⟨u,rfl,rx⟩:=K5 r1
 cases rx
 obtain⟨its,rv,pl,hz⟩:=I1.list hl;have ln:=rv.length;rw[length_map] at ln
 have at1:∀ i v,its[i]? = some v->∃ r row,rs[i]? = some r/\rows[i]? = some row/\v=Value.ref r/\SqL X.K H1 r row:=fun i v hv=>by
  have hi:=(List.getElem?_eq_some_iff.mp hv).1;have er:rs[i]? = some (rs[i]'(by lia)):=List.getElem?_eq_getElem _
  obtain⟨row,e1,e2⟩:=j8 hr i _ er;have em:(rs.map V.ref)[i]? = some (V.ref (rs[i]'(by lia))):=by rw[List.getElem?_map,er];rfl
  obtain⟨u,w1,w2⟩:=rv.get em;rw[hv] at w1
  cases w1
  exact⟨_,row,er,e1,w2,e2⟩
 show wpAny _ _ (call (.builtin "min") [.ref l] [(Str.ofString "key",.builtin "len"),(Str.ofString "default",.none)]) _ _ _
 refine a51 (T4 rows) (I1.ok.hd hc) pl.isList (fun i v hv=>?_) fun cur h' tk ba kp=>?_
 ·obtain⟨r,row,e1,e2,rfl,hq⟩:=at1 i v hv
  obtain⟨ys,rv2,pl2,hz2⟩:=I1.list hq;have l2:=rv2.length;have hn:=U6;refine⟨r,ys.toArray,rfl,pl2.isList,?_,by rw[size_toArray];lia⟩
  unfold T4;rw[List.getD,e2,size_toArray,<- l2];rfl
 ·have I2:Inv X pins σ H1 { s1 with heap:=h',toks:=tk }:=I1.kept fun b o e=>kp b o e
  cases cur with
  | none =>
   have z:its.length=0:=ba
   have:rs=[]:=List.length_eq_zero_iff.mp (by lia)
   exact⟨.non,H1,I2,rfl,q0 this⟩
  | some i =>
   have hi:i < its.length:=ba.1;obtain⟨r,row,e1,e2,e3,hq⟩:=at1 i _ (List.getElem?_eq_getElem hi)
   have:((some i:Option Nat).bind fun i=>its[i]?).getD .none=Value.ref r:=by
    rw[Option.bind_some,List.getElem?_eq_getElem hi,e3];rfl
   rw[this];exact⟨.ref r,H1,I2,rfl,qi i r e1 fun j hj=>ba.2 j (by lia)⟩
end
structure FnQ (K:Frag)(x qual:Str)(st:Stmt)(f:Addr)(fd:FuncData):Prop where
 ex:∃(oc:Value)(od:Option Addr)(dV kV doc pm:Value)(an:Option Addr)(cdv ct:Value)(osl:Array (Option Value)),
  fd=fnOf x qual (j2 st) (i3 st) (d7 st) dV kV doc pm an cdv ct/\K.lookup f=some ⟨oc,od,.func fd,osl⟩/\codeIn K cdv qual=true
structure DefM (K:Frag)(C:Addr)(m qual:Str)(st:Stmt)(ps:List Str)(dvs:List V)(kb:FuncData->Prop):Prop where
 ex:∃(f:Addr)(fd:FuncData),FnQ K m qual st f fd/\Meth K C m f/\kb fd/\∀ j,j<=dvs.length->∃ ds,j9 (dvs.drop j) ds/\I9 K fd ps ds
structure CalleeM (P:Program)(w:World)(K:Frag)(mg:Str->Option Value)(base:Heap)(k:Nat)(C:Addr)(m:Str)(ps:List Str)(dvs:List V)(kb:FuncData->Prop)(sp:Sp):Prop where
 ex:∃(f:Addr)(fd:FuncData),FnOk P w K mg base CX0 k f fd ps sp/\Meth K C m f/\kb fd/\∀ j,j<=dvs.length->∃ ds,j9 (dvs.drop j) ds/\I9 K fd ps ds
abbrev noKw:FuncData->Prop:=fun _=>True
def aM2 (K:Frag)(kw:Str):FuncData->Prop:=fun fd=>∀(s:Shared)(u v:Value),K.In s.heap->BindsTo s fd ⟨[u],[(kw,v)]⟩ [("self",u),(kw,v)]
structure Made (K:Frag)(mg:Str->Option Value)(x:Str)(C:Addr):Prop where
 makes:PySem.W.makesIn K C=true
 kp:keepIn K (.ref C)=true
 mg:mg x=some (.ref C)
section
variable {P:Program}{w:World}{K:Frag}{mg:Str->Option Value}{base:Heap}
theorem DefM.ok {C:Addr}{m qual:Str}{st:Stmt}{N ps:List Str}{k:Nat}{dvs:List V}{kb:FuncData->Prop}{sp:Sp}(D:DefM K C m qual st ps dvs kb)(S:FnScope N ps (d7 st))(len:∀ vs H Q E,sp vs H Q E->vs.length=ps.length)
  (hbody:∀(f:Addr)(cdv:Value)(A:Around)(outer:List Env)(s:Shared)(H:Hp)(vs:List V)(Q:VK)(E:XK),Room k (A.deeper (envOfC qual (d7 st) s.heap.objs.size f cdv))->sp vs H Q E ->
   ∃ t,PSs (N5 CX0 P w K mg base N qual (d7 st) f cdv A outer s H E).nox (i3 st) t/\t { nx:=fun _ H'=>Q .non H',rt:=Q } (start N vs) H):CalleeM P w K mg base (k + 1) C m ps dvs kb sp:=by
 obtain⟨f,fd,⟨oc,od,dV,kV,doc,pm,an,cdv,ct,osl,rfl,lk,hcd⟩,mt,hkb,b⟩:=D.ex;refine⟨f,_,ap8 lk hcd S len fun A outer s H vs Q E hr hsp=>?_,mt,hkb,b⟩;obtain⟨t,h,q⟩:=hbody f cdv A outer s H vs Q E hr hsp;exact⟨t,h.nox,q⟩
end
section
variable {X:Cx}{k n:Nat}{C:Addr}{ps:List Str}{dvs:List V}{kb:FuncData->Prop}{sp:Sp}{x m:Str}{p pos apos kpos:Pos}{e o:Expr}{es:List Expr}{ta te:TE}{t:TA}
theorem a59 (Z:CalleeM X.prog X.w X.K X.mg X.base k C "__init__" ps dvs kb sp)(M:Made X.K X.mg x C)(hr:Room n X.A)(hg:Gl X x)(hk:k + 1<=n:=by decide)(hdb:(x == ("__debug__":Str))=false:=by decide) :
  PE X (.Call (.Name x p) [] [] pos) (aJ2 C sp dvs E0 aq1):=by
 obtain⟨f,fd,F,mt,hkb,b⟩:=Z.ex;obtain⟨ds,hv,hb⟩:=b 0 (Nat.zero_le _);exact aW0 ⟨M.makes,mt.at_,mt.fn,M.kp⟩ F (hr.mono hk) hg M.mg hb hv aw7 hdb
theorem aW3 {pl:Sem Bool}(c:Cls X.K C)(Z:CalleeM X.prog X.w X.K X.mg X.base k C m ps dvs kb sp)(hr:Room n X.A)(he:PE X o ta)(ha:PA X (e::es) t)(hk:k<=n:=by decide)
  (hst:starEach (e::es) X.env=(false,eval e X.env)::starEach es X.env:=by rfl) (hpl:(backTo pos (starEach es X.env)).any (·.1)=false:=by rfl)
  (ht:eval (.Call (.Attribute o m apos) (e::es) [] pos) X.env=(do
   let ov <- eval o X.env
   standAt apos.atName
   let (f,first) <- holding [ov] (getMethod ov m pl)
   callWith pos f first (backTo pos (starEach (e::es) X.env)) (backToKw pos (keywordEach [] X.env))):=by rfl) :
  PE X (.Call (.Attribute o m apos) (e::es) [] pos) (bb1 C m sp [] E0 ta t):=by
 obtain⟨f,fd,F,mt,hkb,b⟩:=Z.ex;obtain⟨ds,hv,hb⟩:=b dvs.length (Nat.le_refl _);rw[drop_length] at hv
 cases hv
 exact a68 (pl:=pl) he c mt F (hr.mono hk) hb .nil aw7 ha hst hpl ht
theorem aI2 (K:Frag){f:Str}(he:PE X e ta)(hK:X.K=K:=by rfl)(hb:attributeBase e f X.env (eval e X.env)=eval e X.env:=by rfl):PE X (.Attribute e f pos) (bk3 K ta f):=hK ▸ be9 he hb
theorem P5 {K:Frag}{C D:Addr}(hc:isClsIn K D=true)(ht:typeIn K (.ref D)=some (.type "type"))(hs:subIn K (.ref C) (.ref D)=some true):kitOne K (.ref C) (.ref D)=some true:=by
 unfold kitOne
 split
 ·rfl
 ·show(if ((clsIn K D).isSome&&typeIn K (.ref D) == some (.type "type"))=true then subIn K (.ref C) (.ref D) else none)=some true
  rw[if_pos (by rw[show(clsIn K D).isSome=true from hc,ht];rfl),hs]
end
theorem p6.at_ {P:Program}{w:World}{H:Hp}{h:Heap}{a:Addr}{o:HO}(x:p6 P w H h a o):∃ u,h.get? a=some u:=by
 cases o with
 | lst xs=>obtain⟨_,_,_,_,e⟩:=x;exact⟨_,e⟩
 | tup xs=>obtain⟨_,_,_,p⟩:=x;exact⟨_,p.choose_spec.1⟩
 | dK kvs=>obtain⟨_,_,_,_,o,_,_,e,_⟩:=x;exact⟨_,e⟩
 | dT kvs=>obtain⟨_,_,_,_,o,_,_,e,_⟩:=x;exact⟨_,e⟩
 | set S n=>obtain⟨o,_,_,_,e,_⟩:=x;exact⟨_,e⟩
 | ins C dx fs=>obtain⟨_,_,_,e,_⟩:=x;exact⟨_,e⟩
 | own y=>obtain⟨_,e⟩:=x;exact⟨_,e⟩
 | xd fs=>obtain⟨_,⟨_,_,_,e,_⟩,_⟩:=x;exact⟨_,e⟩
 | rng lo hi=>obtain⟨_,_,_,e⟩:=x;exact⟨_,e⟩
 | frz ob u=>obtain⟨e,_⟩:=x;exact⟨_,e⟩
 | tbl ps=>exact⟨_,(show h.get? a=some _ from x)⟩
 | met f y=>exact⟨_,(show h.get? a=some _ from x)⟩
 | ext φ=>obtain⟨_,e,_⟩:=x;exact e
structure Fly (fs:List Addr)(H1 H2:Hp)(h1 B h2:Heap):Prop where
 kp:∀ b o,h1.get? b=some o->b∉fs->(∃ o',B.get? b=some o')/\(H1 b=none->B.get? b=some o)
 sl:∀ b o,h1.get? b=some o->b∈fs->∃ sl,h2.get? b=some { o with slots:=sl }
 free:∀ b o,h1.get? b=some o->H1 b=none->H2 b=none
 tups:∀ b xs,H1 b=some (.tup xs)->H2 b=some (.tup xs)
 frzs:∀ b o u,H1 b=some (.frz o u)->H2 b=some (.frz o u)
 tbls:∀ b ps,H1 b=some (.tbl ps)->∃ more,H2 b=some (.tbl (ps++more))
theorem Fly.un {fs:List Addr}{H1 H2:Hp}{h1 B h2:Heap}(f:Fly fs H1 H2 h1 B h2)(st:B.StaysIn h2):Un fs [] H1 H2 h1 h2 where
 keep:=fun b o e n hb _=>st b o ((f.kp b o e hb).2 n)
 slot:=fun b o e _ hb _=>f.sl b o e hb
 free:=fun b o e n _=>f.free b o e n
 there:=fun b o e _=>by
  by_cases hb:b∈fs
  ·obtain⟨sl,q⟩:=f.sl b o e hb;exact⟨_,q⟩
  ·obtain⟨⟨o',q⟩,_⟩:=f.kp b o e hb;exact⟨o',st _ _ q⟩
 tups:=f.tups
 frzs:=f.frzs
 tbls:=f.tbls
theorem Fly.up {fs:List Addr}{H1 H2:Hp}{h1 B h2 h3:Heap}(f:Fly fs H1 H2 h1 B h2)(up:∀ b∈fs,∀ o,h2.get? b=some o->∃ sl,h3.get? b=some { o with slots:=sl }):Fly fs H1 H2 h1 B h3 :=
 ⟨f.kp,fun b o e hb=>by
  obtain⟨s1,q1⟩:=f.sl b o e hb;obtain⟨s2,q2⟩:=up b hb _ q1
  exact⟨s2,q2⟩,f.free,f.tups,f.frzs,f.tbls⟩
theorem Fly.after {fs fs':List Addr}{H0 H1 H2:Hp}{h0 h1 B h2:Heap}(u:Un fs [] H0 H1 h0 h1)(f:Fly fs' H1 H2 h1 B h2)(hL:∀ b o,h0.get? b=some o->b∉fs->b∉fs')(hs:∀ b∈fs,b∈fs')(hf:∀ b∈fs,H0 b=none) :
  Fly fs H0 H2 h0 B h2 where
 kp:=fun b o e hb=>by
  obtain⟨o1,e1⟩:=u.there b o e (by simp)
  refine⟨(f.kp b o1 e1 (hL b o e hb)).1,fun n=>?_⟩;exact(f.kp b o (u.keep b o e n hb (by simp)) (hL b o e hb)).2 (u.free b o e n (by simp))
 sl:=fun b o e hb=>by
  obtain⟨s1,q1⟩:=u.slot b o e (hf b hb) hb (by simp)
  obtain⟨s2,q2⟩:=f.sl b _ q1 (hs b hb);exact⟨s2,q2⟩
 free:=fun b o e n=>by
  obtain⟨o1,e1⟩:=u.there b o e (by simp)
  exact f.free b o1 e1 (u.free b o e n (by simp))
 tups:=fun b xs e=>f.tups b xs (u.tups b xs e)
 frzs:=fun b o x e=>f.frzs b o x (u.frzs b o x e)
 tbls:=fun b ps e=>by
  obtain⟨m1,e1⟩:=u.tbls b ps e;obtain⟨m2,e2⟩:=f.tbls b _ e1;exact⟨m1++m2,by rw[e2,Array.append_assoc]⟩
def bj4 (X:Cx)(E:XK):Prop:=∀(pins:List (Addr×Obj))(σ:St)(H:Hp)(s:Shared)(C e:Addr)(h':Heap)(args:List Value),Inv X pins σ H s->Heap.MadeExcOf s.heap h' e (.ref C) args->E (.ref C) none H->X.xe (.ref e) { s with heap:=h' }
section
variable {P:Program}{w:World}{K:Frag}{mg:Str->Option Value}{base:Heap}{N:List Str}{qual:Str}{scope:Scope}{f:Addr}{cd:Value}{A:Around}{outer:List Env}{s:Shared}{H:Hp}{E:XK}
theorem aC3 {env:Env}{L:Addr}{l:List Env}(h:env.frame=some L):frs (env::l)=L::frs l:=by unfold frs;rw[filterMap_cons,h]
end
def be3 (sp:Sp)(dvs:List V)(E:St->XK)(t:TA):TE:=fun σ H Q=>t σ H fun vs H1=>sp (vs++dvs) H1 Q (E σ)
def aC4:List Value:=[.type "ValueError",.type "Exception",.type "BaseException",.type "object"]
structure ExcC (K:Frag)(mg:Str->Option Value)(x:Str)(C:Addr):Prop where
 mg:mg x=some (.ref C)
 exc:PySem.W.excIn K C aC4 "ValueError.__new__" = true
theorem ExcC.own {K:Frag}{mg:Str->Option Value}{x:Str}{C:Addr}{h:Heap}(M:ExcC K mg x C)(X:K.In h):OwnCls x C aC4 "ValueError.__new__" mg h:=by
 refine⟨M.mg,?_⟩;have q:=M.exc;unfold PySem.W.excIn at q
 split at q
 ·rename_i dd cd sl ho
  split at q
  ·rename_i C' bm k0 k1 k2 k3 n k5 hm hs
   simp only[Bool.and_eq_true,beq_iff_eq,Bool.not_eq_true'] at q
   obtain⟨⟨⟨⟨⟨rfl,rfl⟩,hdel⟩,ht⟩,hok⟩,hni⟩:=q;obtain⟨nm,bs,mro,ns,qn,hd,sn,sub,ab,col,del⟩:=cd
   dsimp only at hm hdel hok hni
   subst hm hdel
   have hsl:sl=#[k0,k1,k2,k3,some (.builtin "ValueError.__new__"),k5]:=by
    obtain⟨l⟩:=sl
    simp only at hs
    rw[hs]
   subst hsl;exact⟨bm,ns,nm,qn,bs,hd,sn,sub,ab,col,dd,k0,k1,k2,k3,k5,_,X _ _ ho,.of_isNs (PySem.W.isNs_of_in X hok),PySem.W.nsMap_none_of_in X hok hni,PySem.W.tail_of_in X ht⟩
  ·cases q
 ·cases q
section
variable {X:Cx}{C:Addr}{x:Str}{E:XK}{np cpos pos:Pos}{e:Expr}{ta:TE}
def bg2 (C:Addr)(E:XK)(ta:TE):TS:=fun _ σ H=>ta σ H fun _ H1=>E (.ref C) none H1
theorem aj2 (hl:bj4 X E)(M:ExcC X.K X.mg x C)(hh:X.A.handled=none)(hg:Gl X x)(ha:PE X e ta)(hdb:(x == ("__debug__":Str))=false:=by decide)
  (he:starEach [e] X.env=(false,eval e X.env)::starEach [] X.env:=by rfl):PS X (.Raise (some (.Call (.Name x np) [e] [] cpos)) none pos) (bg2 C E ta):=by
 intro pins s σ H D I h
 obtain⟨tl,N,nm,q,bs,hdct,sn,sub,ab,col,dd,k0,k1,k2,k3,k5,mN,hC,hN,hni,T⟩:=(M.own I.ok.mod.kin).obj
 refine wpAny_Raise_call_subT (C:=C) (nm:=nm) (q:=q) (N:=N) (bs:=bs) (bm:=tl) (hdct:=hdct) (sn:=sn) (sub:=sub) (ab:=ab) (col:=col) (dd:=dd) (k0:=k0) (k1:=k1) (k2:=k2) (k3:=k3) (k5:=k5)
  PySem.F.excBase_ValueError (mN:=mN) (T.hasType PySem.F.excBase_ValueError.hasBase) hh (by rw[he];rfl) hni (M4 I hg M.mg ⟨rfl,?_⟩ hdb)
 rw[he];refine Calls.evalArgs_plain ?_
 show wpAny _ _ (spliced ((false,eval e X.env)::backTo cpos (starEach [] X.env))) _ _ s
 refine Calls.spliced_cons (thn (ha pins s σ H _ I h) fun u s2 ⟨v,H2,I2,r,q⟩=>?_);have hk:=I2.bk;exact Calls.spliced_nil ⟨rfl,(by show 1<=sizeLine;decide),hk _ _ hC,hN.keeps hk,T.keeps hk,fun h' e' hm=>hl pins σ H2 s2 C e' h' _ I2 hm q⟩
end
abbrev Cx.pinned (X:Cx)(pn:List (Addr×Obj)):Cx:={ X with pn:=pn }
abbrev hcx (X:Cx)(ea:Addr):Cx:={ X with A:=X.A.mark (some (.ref ea)),calm:=false,xe:=fun _ _=>False }
section
variable {X:Cx}{pins:List (Addr×Obj)}{σ:St}{H:Hp}{s:Shared}
theorem Inv.toPinned (I:Inv X pins σ H s):Inv (X.pinned (X.pn++pins)) [] σ H s :=
 ⟨⟨I.ok.mod,I.ok.kind,I.ok.glob,I.ok.blt,I.ok.above,I.ok.inj,I.ok.has,I.ok.cab,I.ok.hd,I.ok.frames,I.ok.stk,I.ok.exf,I.ok.bs,I.ok.bsz,I.ok.noex,I.ok.exfs,I.ok.funs,I.ok.frf⟩,I.os,I.bare,I.base,I.loc,I.cell,I.free,I.freeC,fun p hp=>I.pin p (by rw[append_nil] at hp;exact hp),I.hok,I.len⟩
theorem Inv.ofPinned {ps:List (Addr×Obj)}(I:Inv (X.pinned (X.pn++pins)) ps σ H s):Inv X pins σ H s :=
 ⟨⟨I.ok.mod,I.ok.kind,I.ok.glob,I.ok.blt,I.ok.above,I.ok.inj,I.ok.has,I.ok.cab,I.ok.hd,I.ok.frames,I.ok.stk,I.ok.exf,I.ok.bs,I.ok.bsz,I.ok.noex,I.ok.exfs,I.ok.funs,I.ok.frf⟩,I.os,I.bare,I.base,I.loc,I.cell,I.free,I.freeC,fun p hp=>I.pin p (mem_append_left _ hp),I.hok,I.len⟩
theorem Inv.toH (I:Inv X pins σ H s)(ea:Addr):Inv (hcx X ea) pins σ H s :=
 ⟨⟨I.ok.mod,I.ok.kind,I.ok.glob,I.ok.blt,I.ok.above,I.ok.inj,I.ok.has,I.ok.cab,(fun z=>nomatch z),I.ok.frames,I.ok.stk,I.ok.exf,I.ok.bs,I.ok.bsz,I.ok.noex,I.ok.exfs,I.ok.funs,I.ok.frf⟩,I.os,I.bare,I.base,I.loc,I.cell,I.free,I.freeC,I.pin,I.hok,I.len⟩
theorem Inv.ofH {ea:Addr}(ok:X.Ok)(I:Inv (hcx X ea) pins σ H s):Inv X pins σ H s :=
 ⟨ok,I.os,I.bare,I.base,I.loc,I.cell,I.free,I.freeC,I.pin,I.hok,I.len⟩
theorem af6 {M:Model}{A:Around}{E:Value->Shared->Prop}{i:Nat}{n:Str}{pos:Pos}{Q:Unit->Shared->Prop}(I:Inv X pins σ H s)(hN:X.N.Nodup)(hi:X.N[i]? = some n)(hl:X.env.scope.names.lookup n=some .local)
  (h:∀ s',Inv X pins (σ.set i none) H s'->Q () s'):wpAny M A (do bindName X.env n .none;unbindBehindTheSuite X.env n pos) Q E s:=by
 obtain⟨m,hn,hlm⟩:=id I.loc;have hcls:(X.env.scope.kind == .class || (X.env.scope.kind == .module&&X.env.locals != X.env.globals))=false:=by rw[I.ok.kind];rfl
 have cne:=I.cne;obtain⟨oL,_,_,hoL,_⟩:=id hn;have iσ:i < σ.length:=by rw[I.len];exact(List.getElem?_eq_some_iff.mp hi).1
 refine wpAny_nameGoes_keeps hl hn hcls fun h' v hn' hs=>?_;refine h _ ⟨I.ok,I.os,I.bare,⟨fun b o e n hb hx=>?_,fun b o e n hb hx=>?_,I.base.free,fun b o e hx=>?_,I.base.tups,I.base.frzs,I.base.tbls⟩,⟨_,hn',fun j y v' e1 e2 e3=>?_⟩,fun y c e=>?_,I.free,I.freeC,fun p hp=>?_,fun b ob e=>?_,by simpa using I.len⟩
 ·exact(hs.2 b (Nat.ne_of_lt (Nat.lt_of_lt_of_le (Heap.lt_size e) I.ok.above))).trans (I.base.keep b o e n hb hx)
 ·obtain⟨sl,e1⟩:=I.base.slot b o e n hb hx
  exact⟨sl,(hs.2 b (Nat.ne_of_lt (Nat.lt_of_lt_of_le (Heap.lt_size e) I.ok.above))).trans e1⟩
 ·obtain⟨o',e1⟩:=I.base.there b o e hx
  exact⟨o',(hs.2 b (Nat.ne_of_lt (Nat.lt_of_lt_of_le (Heap.lt_size e) I.ok.above))).trans e1⟩
 ·by_cases hj:j=i
  ·subst hj
   rw[List.getElem?_set_self iσ] at e2
   cases e2
  ·rw[List.getElem?_set_ne (Ne.symm hj)] at e2
   obtain⟨u',r',q⟩:=hlm j y v' e1 e2 e3;refine⟨u',r',?_⟩
   rcases q with⟨k,e⟩ | ⟨k,c,e,z⟩
   ·refine .inl ⟨k,?_⟩
    have:y≠n:=fun e=>hj (ak1 hN e1 (e ▸ hi))
    simp[this,e]
   ·exact .inr ⟨k,c,e,z.sameBut hs (cne y c e)⟩
 ·obtain⟨w',z⟩:=I.cell y c e
  exact⟨w',z.sameBut hs (cne y c e)⟩
 ·obtain⟨e,n,ne,nf,d⟩:=I.pin p hp
  exact⟨(hs.2 p.1 ne).trans e,n,ne,nf,d⟩
 ·refine(I.hok b ob e).stay (fun c w' hc q=>(hs.2 c ?_).trans q) (fun _ q=>q) fun _ _ q=>q
  rintro rfl
  have fr:=I.free
  rcases hc with rfl | hc
  ·rw[fr] at e;cases e
  ·rw[fr] at hc;cases hc
end
section
variable {X:Cx}
def Ends.gone (D:Ends)(i:Nat):Ends:={ nx:=fun σ H=>D.nx (σ.set i none) H,rt:=D.rt,bk:=fun σ H=>D.bk (σ.set i none) H,ct:=fun σ H=>D.ct (σ.set i none) H }
end
open PySem.W (Looks)
open PySem.Builtin PySem.Builtin.ObjectAttr PySem.Builtin.Getset_descriptor
structure ExcX (K:Frag)(C:Addr):Prop where
 ga:findIn K (.ref C) "__getattribute__" = some (some (.builtin "BaseException.__getattribute__"))
 gn:findIn K (.ref C) "__getattr__" = some none
 cl:findIn K (.ref C) "__class__" = some (some (.builtin "object.__class__"))
 gt:PySem.W.specialIn K (.builtin "object.__class__") "__get__" = some (some (.builtin "getset_descriptor.__get__"))
 tk:PySem.W.takesIn K (.builtin "object.__class__")=some true
 mo:PySem.W.mroIn K C (.type "object")=some true
 mb:PySem.W.mroIn K C (.type "BaseException")=some true
 cs:(clsIn K C).isSome=true
section
variable {prog:Program}{w:World}{A:Around}{E:Value->Shared->Prop}{s:Shared}{K:Frag}{x C:Addr}
theorem aV5 {M:Model}{h:Heap}(X:K.In h)(Z:ExcX K C):Looks M h (find (.ref x) (.ref C) "__class__") (.bind (.builtin "getset_descriptor.__get__") (.builtin "object.__class__")):=by
 have L1:=PySem.W.looks_findIn (M:=M) X Z.cl;have L2:Looks M h (getOf (some (.builtin "object.__class__"))) (some (.builtin "getset_descriptor.__get__")):=PySem.W.looks_specialIn X Z.gt;have L3:=PySem.W.looks_takesIn (M:=M) X Z.tk;exact L1.andThen (L2.andThen ((show Looks M h (dataDescriptor? (some (.builtin "object.__class__")) (some (.builtin "getset_descriptor.__get__"))) (some (.builtin "getset_descriptor.__get__",.builtin "object.__class__")) from L3.andThen .now).andThen (Looks.tag .now)))
theorem a53 {R:Result->Shared->Prop}{tp:Value}{o:Obj}(X:K.In s.heap)(Z:ExcX K C)(ho:s.heap.get? x=some o)(hc:o.cls=.ref C)(h:R (.ok (.ret (.ref C))) s) :
  codeAny (model prog w) A (.call (.builtin "getset_descriptor.__get__") ⟨[.builtin "object.__class__",.ref x,tp],[]⟩) R s:=by
 obtain⟨hh,g,dr,t,os⟩:=s;have L0:Looks (model prog w) hh (typeOf (.ref x)) (.ref C):=hc ▸ (Looks.ld ho).andThen .now;have L1:=PySem.W.looks_mroIn (M:=model prog w) X Z.mo;refine codeAny_call_builtin PySem.W.KF.slot_gs.plain PySem.W.KF.entry_gs (PySem.W.KF.slot_gs.check _ _ _ _ _ _ _ _ PySem.W.KF.type_class (PySem.W.KF.args_gs _ _ _) ?_);unfold Builtin.«getset_descriptor.__get__» descrGet;rw[PySem.W.dga_obj];refine wpAny_bind (wpAny_pure ?_);unfold descrGetter descrCheckInstance descrNameAndClass isInstance
 simp only[PySem.W.KF.owner_class]
 repeat lk
 refine⟨Code.quiet_builtin _ (by decide +kernel),codeAny_builtin PySem.W.KF.entry_class ?_⟩
 unfold Builtin.«object.__class__» shownTypeOf
 repeat lk
 exact h
theorem aN4 {Q:Option Value->Shared->Prop}{o:Obj}(X:K.In s.heap)(Z:ExcX K C)(ho:s.heap.get? x=some o)(hc:o.cls=.ref C)(h:Q (some (.ref C)) { s with toks:=s.toks + 1 }) :
  wpAny (model prog w) A (getAttr? (.ref x) "__class__") Q E s:=by
 obtain⟨hh,g,dr,t,os⟩:=s;have L0:Looks (model prog w) hh (typeOf (.ref x)) (.ref C):=hc ▸ (Looks.ld ho).andThen .now;have L1:=PySem.W.looks_findIn (M:=model prog w) X Z.ga;have L2:=PySem.W.looks_findIn (M:=model prog w) X Z.gn;have L3:=aV5 (M:=model prog w) (x:=x) X Z;have L4:=PySem.W.looks_mroIn (M:=model prog w) X Z.mb;have f3:=PySem.F.attr_ValueError.ga.bind (.ref x);have hk:builtinKind "BaseException.__getattribute__" = some .slot:=by decide +kernel
 have hsplit:splitId "BaseException.__getattribute__" = some ("BaseException","__getattribute__"):=by decide +kernel
 unfold getAttr? getAttrBy? getAttrBy;refine wpAny_bind (wpAny_mkText (wpAny_bind (wpAny_attempt (wpAny_holding (wpAny_bind (L0.at (wpAny_bind (L1.at ?_))))))))
 show wpAny _ _ (getAttrByItsOwn _ _ _ _ _ _) _ _ _
 unfold getAttrByItsOwn;refine wpAny_bind ?_
 show wpAny _ _ (typeLookup _ _) _ _ _
 refine L2.at ?_;refine wpAny_bind (wpAny_attempt (wpAny_holding ?_))
 show wpAny _ _ (boundAndCalled _ _ _) _ _ _
 unfold boundAndCalled;refine wpAny_bind ?_;rw[f3];refine wpAny_pure ?_;refine wpAny_call (codeAny_call_builtin PySem.F.attr_ValueError.ga.plain PySem.F.entry_bexc_ga ?_);have ha:=PySem.F.args_bexc_ga (.ref x) (.str "__class__" t)
 simp only[checkBuiltinCall,hk,hsplit]
 refine wpAny_bind ?_;unfold isInstance;refine wpAny_bind (L0.at (L4.at ?_))
 simp only[Bool.not_true,Bool.false_eq_true,if_false]
 repeat (any_goals (first | assumption | wp_step))
 rw[hc];have La:=PySem.W.looks_findIn (M:=model prog w) X Z.cl;have Lb:Looks (model prog w) hh (getOf (some (.builtin "object.__class__"))) (some (.builtin "getset_descriptor.__get__")):=PySem.W.looks_specialIn X Z.gt;have Lc:Looks (model prog w) hh (dataDescriptor? (some (.builtin "object.__class__")) (some (.builtin "getset_descriptor.__get__"))) (some (.builtin "getset_descriptor.__get__",.builtin "object.__class__")):=(PySem.W.looks_takesIn (M:=model prog w) X Z.tk).andThen .now;refine La.at (wpAny_bind (Lb.at (wpAny_bind (Lc.at (wpAny_bind (wpAny_rule (wpAny_pure ?_)))))));unfold bindTo;refine wpAny_bind (wpAny_holding (wpAny_call (a53 (s:=⟨hh,g,dr,t + 1,os⟩) X Z ho hc ?_)))
 show wpAny _ _ (ret (.ref C)) _ _ _
 refine wpAny_pure ?_
 show wpAny _ _ (handedOut (.ref C)) _ _ _
 exact PySem.W.handed_on rfl (wpAny_pure h)
theorem aU8 (Z:ExcX K C):PySem.W.KitX K (.ref x) (.ref C) (fun h=>∃ o,h.get? x=some o/\o.cls=.ref C) where
 ty:=fun _ _ _ ⟨o,ho,hc⟩=>hc ▸ (Looks.ld ho).andThen .now
 it:=fun _ _ X _=>by
  have z0:=Z.cs;unfold clsIn at z0
  split at z0
  ·rename_i c' d' cd' sl' ho
   intro A' Q' E' s' k q
   unfold isType loadHead;exact wpAny_bind (wpAny_loadPart (k _ _ (X _ _ ho)) (wpAny_pure q))
  ·cases z0
 ne:=fun h tp dd its n sl X htp=>by
  have z0:=Z.cs;refine Bool.eq_false_iff.mpr fun q=>?_;have e:C=tp:=Value.ref.inj (beq_iff_eq.mp q);subst e;unfold clsIn at z0
  split at z0
  ·rename_i c' d' cd' sl' ho
   have z:=(X _ _ ho).symm.trans htp
   cases z
  ·cases z0
 ca:=fun X ⟨o,ho,hc⟩ k=>aN4 X Z ho hc k
end
end L2
namespace L2
open PySem PySem.Spec PyProof.Rows PySem.SeqAt
section
variable {K:Frag}{C D:Addr}
theorem o9 (hc:isClsIn K D=true)(ht:typeIn K (.ref D)=some (.type "type"))(hs:subIn K (.ref C) (.ref D)=some false)(h1:subIn K (.ref C) (.ref C)=some true):kitOne K (.ref C) (.ref D)=some false:=by
 unfold kitOne
 split
 ·rename_i z
  have e:C=D:=Value.ref.inj (beq_iff_eq.mp z);rw[<- e,h1] at hs
  cases hs
 ·show(if ((clsIn K D).isSome&&typeIn K (.ref D) == some (.type "type"))=true then subIn K (.ref C) (.ref D) else none)=some false
  rw[if_pos (by rw[show(clsIn K D).isSome=true from hc,ht];rfl),hs]
theorem af7 (hs:subIn K (.ref C) (.type "ValueError")=some true):kitOne K (.ref C) (.type "ValueError")=some true:=by
 unfold kitOne
 split
 ·rfl
 ·show(if PySem.W.kitMeta "ValueError" = true then subIn K (.ref C) (.type "ValueError") else none)=some true
  rw[if_pos (by decide +kernel),hs]
theorem af8 (hc:isClsIn K D=true)(ht:typeIn K (.ref D)=some (.type "type"))(hs:subIn K (.ref C) (.ref D)=some true)(hb:subIn K (.ref D) (.type "BaseException")=some true):exmOne K (.ref C) (.ref D)=some true:=by
 unfold exmOne;rw[if_pos (by rw[hb];rfl)]
 show(if ((clsIn K D).isSome&&typeIn K (.ref D) == some (.type "type"))=true then subIn K (.ref C) (.ref D) else none)=some true
 rw[if_pos (by rw[show(clsIn K D).isSome=true from hc,ht];rfl),hs]
end
theorem ae8:bootBuiltins "ValueError" = some (.type "ValueError"):=by first | rfl | decide +kernel
theorem Y2:∀{bs:List Bool}{us:List Value},j9 (bs.map V.bl) us->us=bs.map Value.bool
 | [],_,.nil=>rfl
 | _::_,_,.cons r t=>by rw[Y2 t];cases r;rfl
section
variable {X:Cx}
def a66:V->List V->Hp->VK->Prop:=fun x vs H Q=>∃(l:Addr)(k:Bool)(bs:List Bool),x=.ref l/\vs=[.bl k]/\H l=some (.lst (bs.map V.bl))/\Q (.int (bs.count k:Nat)) H
theorem eqB {A:Around}{s:Shared}{bs:List Bool}{k:Bool}:∀ y,y∈(bs.map Value.bool).toArray->EqAt A s y (.bool k) (isBoolOf k y):=fun y hy=>by
 have hy:y∈bs.map Value.bool:=by simpa using hy
 obtain⟨b,_,rfl⟩:=List.mem_map.mp hy;exact EqAt.bool_bool b k
theorem aS0:MtR X "list.count" a66:=by
 intro pins s σ H x vs v us Q I rx rv h
 obtain⟨l,k,bs,rfl,rfl,hH,q⟩:=h
 cases rx
 obtain⟨u,rfl,ru⟩:=rv.one
 cases ru
 obtain⟨z,its,n,r,hl,e⟩:=I.lstM hH
 cases Y2 r
 refine call_meets F.slot_list_count ⟨_,e,rfl⟩ F.entry_list_count (F.args_list_count_2 _ _) (list_countAt l _ n none #[] (.bool k) (isBoolOf k)) ⟨e,eqB,?_⟩;refine⟨.int _,H,I.tok _,⟨_,rfl⟩,?_⟩
 have e2:(bs.map Value.bool).toArray.toList.countP (isBoolOf k)=bs.count k:=by
  show(bs.map Value.bool).countP (isBoolOf k)=_
  rw[List.countP_map];rfl
 rw[e2];exact q
def a_3:V->List V->Hp->VK->Prop:=fun x vs H Q=>∃(l:Addr)(k:Bool)(bs:List Bool)(j:Nat),x=.ref l/\vs=[.bl k]/\H l=some (.lst (bs.map V.bl))/\bs[j]? = some k/\(∀ m < j,bs[m]? = some (!k))/\j<=1000/\Q (.int (j:Nat)) H
theorem aP5:MtR X "list.index" a_3:=by
 intro pins s σ H x vs v us Q I rx rv h
 obtain⟨l,k,bs,j,rfl,rfl,hH,hj,hno,h1000,q⟩:=h
 cases rx
 obtain⟨u,rfl,ru⟩:=rv.one
 cases ru
 obtain⟨z,its,n,r,hl,e⟩:=I.lstM hH
 cases Y2 r
 obtain⟨jl,je⟩:=List.getElem?_eq_some_iff.mp hj;refine call_meets F.slot_list_index ⟨_,e,rfl⟩ F.entry_list_index (F.args_list_index_2 _ _) (list_indexAt l _ n none #[] (.bool k) (isBoolOf k) j (by simpa using jl) (by lia) ?_ fun m hm h2=>?_) ⟨e,eqB,?_⟩
 ·simp[isBoolOf,je]
 ·obtain⟨_,me⟩:=List.getElem?_eq_some_iff.mp (hno m h2)
  simp[isBoolOf,me]
 ·exact⟨.int _,H,I.tok _,⟨_,rfl⟩,q⟩
end
end L2
namespace L2
open PySem
def F0 (h:Heap)(e:Addr)(od:Option Addr):Prop:=∃ o,h.get? e=some o/\o.dict=od
theorem aC1 (f:Array Value->Array Value)(o:Obj):(Obj.mapFields f o).dict=o.dict:=by
 obtain⟨c,d,dt,sl⟩:=o
 cases dt <;> rfl
section
variable {M:Model}{A:Around}{E:Value->Shared->Prop}{s:Shared}{B:Heap}{env:Env}{up:List Env}{L x:Addr}{k:Value}{a0:Value}{od:Option Addr}{Q:Unit->Shared->Prop}
abbrev bc5 (hd:Value)(L:Addr)(pl:List Value):Obj:={ cls:=.type "traceback",dict:=none,data:=.fields ([hd,.ref L,.none,rawInt L,.none]++(if pl.isEmpty then List.replicate 6 Value.none else pl)).toArray }
theorem ak6 {ob:Obj}{fs:Array Value}{hd:Value}{hn:Bool}(a1:A.frames=some (env::up))(a2:s.heap.FunFrames B (env::up))(a3:env.frame=some L)(b1:s.heap.get? x=some ob)(b2:B.StaysIn s.heap)(b3:B.get? x=none)
  (b4:ob.data=.fields fs)(b5:1 < fs.size)(b6:fs[0]? = some a0)(q:∀ g,Heap.NotedW B (env::up) x ob.cls a0 (rawInt L) s.heap g->F0 g x ob.dict->Q () { s with heap:=g }) :
  wpAny M A (do let a <- frameOf env;let pl <- entryPlaceOf L hn;let b <- EntryCells.newEntry hd a .none (rawInt L) .none pl;setField (.ref x) 1 b) Q E s:=by
 have out:x∉(env::up).filterMap (·.frame):=fun m=>by
  obtain⟨_,o,e1,e2⟩:=a2.mem m;rw[b1] at e1
  cases e1
  exact e2 fs b4
 refine wpAny_bind (wpAny_frameOf_fun a1 a2 a3 fun g1 k1=>wpAny_bind (wpAny_entryPlaceOf fun pl hpl=>?_));unfold EntryCells.newEntry newFields;refine wpAny_bind (wpAny_newObj_type ?_ (hpl.sizeOk5 _ _ _ _ _));have x1:g1.get? x=some ob:=(k1.2.1 x out).trans b1;have st1:B.StaysIn g1:=fun b o e=>(k1.2.1 b fun m=>by rw[(a2.mem m).1] at e;cases e).trans (b2 b o e)
 have x2:=Heap.get?_push_of_some (h:=g1) (bc5 hd L pl) x1;refine wpAny_setField x2 b4 b5 ?_;have nT:g1.objs.size≠x:=Nat.ne_of_gt (Heap.lt_size x1);have d3:=Obj.data_mapFields b4 (·.setIfInBounds 1 (Value.ref g1.objs.size));have x3:=Heap.get?_update_self (Obj.mapFields (·.setIfInBounds 1 (Value.ref g1.objs.size))) x2 (Obj.isFreed_of_fields d3);have t3:=(Heap.get?_update_other (g1.push (bc5 hd L pl)) (Obj.mapFields (·.setIfInBounds 1 (Value.ref g1.objs.size))) (Ne.symm nT)).trans (Heap.get?_push_size g1 rfl)
 have kp:∀ b o,b≠x->g1.get? b=some o->((g1.push (bc5 hd L pl)).update x (Obj.mapFields (·.setIfInBounds 1 (Value.ref g1.objs.size)))).get? b=some o:=fun b o n e=>by
  rw[Heap.get?_update_other _ _ (Ne.symm n)];exact Heap.get?_push_of_some _ e
 have no:∀ b o,s.heap.get? b=some o->(∀ vs,o.data≠.fields vs)->b≠x:=fun b o e n z=>by
  rw[z,b1] at e
  cases e
  exact n fs b4
 refine q _ ⟨fun b o e=>kp b o (fun z=>by rw[z,b3] at e;cases e) (st1 b o e),a2.of_keeps fun b o e n=>?_,?_,fun b o e n=>?_⟩ ⟨_,x3,aC1 _ _⟩
 ·obtain⟨sl,z⟩:=k1.2.2 b o e
  exact⟨_,kp b _ (no b o e n) z,rfl⟩
 ·refine⟨_,_,g1.objs.size,_,_,x3,⟨Obj.cls_mapFields _ _,?_⟩,d3,by simp[b5],st1.fresh,nT,t3,rfl,?_⟩
  ·rw[Array.getElem?_setIfInBounds_ne (by decide)]
   exact b6
  ·first | (simp;done) | (rcases hpl with rfl | ⟨_,_,_,_,_,_,_,rfl⟩ <;> simp)
 ·obtain⟨sl,z⟩:=k1.2.2 b o e
  exact⟨sl,kp b _ (no b o e n) z⟩
theorem am7 (a1:A.frames=some (env::up))(a2:s.heap.FunFrames B (env::up))(a3:env.frame=some L)(tr:s.heap.TracedW B x k a0)(dx:F0 s.heap x od)(b2:B.StaysIn s.heap)(b3:B.get? x=none)
  (q:∀ g,Heap.NotedW B (env::up) x k a0 (rawInt L) s.heap g->F0 g x od->Q () { s with heap:=g }):wpAny M A (noteFrame (.ref x) env) Q E s:=by
 obtain⟨ob,fs,T,oT,ts,e1,⟨e2,e3⟩,e4,e5,e6,e7,e8,e9,e10⟩:=tr;subst e2;obtain⟨o2,f1,f2⟩:=dx;rw[e1] at f1
 cases f1
 subst f2;unfold noteFrame
 simp only[a3]
 refine wpAny_bind (wpAny_field e1 e4 e5 ?_);rw[if_pos (show(Value.ref T != Value.none)=true by simp)]
 refine wpAny_bind (wpAny_field e8 e9 e10 ?_);rw[if_neg (show ¬ (Value.none == rawInt L)=true by simp[rawInt])]
 refine wpAny_bind (wpAny_setField e8 e9 (Array.getElem?_eq_some_iff.mp e10).1 ?_);have oth:∀ b,b≠T->(s.heap.update T (Obj.mapFields (·.setIfInBounds 3 Value.none))).get? b=s.heap.get? b:=fun b n=>Heap.get?_update_other _ _ (Ne.symm n)
 have no:∀ b o,s.heap.get? b=some o->(∀ vs,o.data≠.fields vs)->b≠T:=fun b o e n z=>by
  rw[z,e8] at e
  cases e
  exact n ts e9
 refine ak6 a1 (a2.of_keeps fun b o e n=>⟨o,(oth b (no b o e n)).trans e,rfl⟩) a3 ((oth x (Ne.symm e7)).trans e1) (fun b o e=>(oth b fun z=>by rw[z,e6] at e;cases e).trans (b2 b o e)) b3 e4 (Array.getElem?_eq_some_iff.mp e5).1 e3 fun g z dz=>?_
 obtain⟨z1,z2,z3,z4⟩:=z;exact q g ⟨z1,z2,z3,fun b o e n=>z4 b o ((oth b (no b o e n)).trans e) n⟩ dz
theorem P2 {l:List Env}{fl:Value}(b2:B.StaysIn s.heap)(a2:s.heap.FunFrames B l)(tr:s.heap.TracedAtW B x k a0 fl)(dx:F0 s.heap x od)
  (q:∀ g,B.StaysIn g->g.FunFrames B l->g.TracedW B x k a0->s.heap.UpToSlots g->F0 g x od->Q () { s with heap:=g }):wpAny M A (setFlight (.ref x) none) Q E s:=by
 obtain⟨ob,fs,T,oT,ts,e1,e2,e4,e5,e6,e7,e8,e9,e10⟩:=tr;obtain⟨o2,f1,f2⟩:=dx;have l3:3 < ts.size:=(Array.getElem?_eq_some_iff.mp e10).1;have oth:∀ b,b≠T->(s.heap.update T (Obj.mapFields (·.setIfInBounds 3 ((none:Option Addr).elim Value.none fun f=>rawInt f)))).get? b=s.heap.get? b:=fun b n=>Heap.get?_update_other _ _ (Ne.symm n)
 have no:∀ b o,s.heap.get? b=some o->(∀ vs,o.data≠.fields vs)->b≠T:=fun b o e n z=>by
  rw[z,e8] at e
  cases e
  exact n ts e9
 unfold setFlight;refine wpAny_bind (wpAny_field e1 e4 e5 ?_);rw[if_pos (show(Value.ref T != Value.none)=true by simp)]
 refine wpAny_setField e8 e9 l3 (q _ (fun b o e=>(oth b fun z=>by rw[z,e6] at e;cases e).trans (b2 b o e)) (a2.of_keeps fun b o e n=>⟨o,(oth b (no b o e n)).trans e,rfl⟩) ?_ (fun b o e n=>⟨o.slots,(oth b (no b o e n)).trans e⟩) ⟨o2,(oth x (Ne.symm e7)).trans f1,f2⟩)
 exact⟨ob,fs,T,_,_,(oth x (Ne.symm e7)).trans e1,e2,e4,e5,e6,e7,Heap.get?_update_self _ e8 (Obj.isFreed_of_fields (Obj.data_mapFields e9 _)),Obj.data_mapFields e9 _,by simp[l3]⟩
theorem aE3 (a1:A.frames=some (env::up))(a3:env.frame=some L)(fl:Heap.FlyingW B (env::up) x k a0 s.heap)(dx:F0 s.heap x od)
  (q:∀ g,Heap.FlyingW B up x k a0 g->s.heap.UpToSlots g->F0 g x od->Q () { s with heap:=g }):wpAny M A (leaving env (.ref x)) Q E s:=by
 obtain⟨f1,f2,f3,f4⟩:=fl;unfold leaving;refine wpAny_bind (am7 a1 f3 a3 f4 dx f1 f2 fun g1 z1 d1=>?_);obtain⟨z1,z2,z3,z4⟩:=z1;refine P2 (s:={ s with heap:=g1 }) z1 z2 z3 d1 fun g2 y1 y2 y3 y4 d2=>?_
 obtain⟨_,_,y2'⟩:=y2;exact q g2 ⟨y1,f2,y2',y3⟩ (Heap.UpToSlots.trans (fun b o e n=>z4 b o e n) y4) d2
theorem aQ0 (a1:A.frames=some (env::up))(a3:env.frame=some L)(fl:Heap.FlyingW B (env::up) x k a0 s.heap)(dx:F0 s.heap x od)
  (q:∀ g,Heap.HeldW B (env::up) x k a0 L g->s.heap.UpToSlots g->F0 g x od->Q () { s with heap:=g }):wpAny M A (noteFrame (.ref x) env) Q E s:=by
 obtain⟨f1,f2,f3,f4⟩:=fl;refine am7 a1 f3 a3 f4 dx f1 f2 fun g1 z1 d1=>?_;obtain⟨z1,z2,z3,z4⟩:=z1;exact q g1 ⟨z1,f2,z2,z3⟩ z4 d1
theorem be2 {l:List Env}(hh:Heap.HeldW B l x k a0 L s.heap)(dx:F0 s.heap x od)(q:∀ g,Heap.FlyingW B l x k a0 g->s.heap.UpToSlots g->F0 g x od->Q () { s with heap:=g }):wpAny M A (setFlight (.ref x) none) Q E s:=by
 obtain⟨f1,f2,f3,f4⟩:=hh;exact P2 f1 f3 f4 dx fun g y1 y2 y3 y4 d=>q g ⟨y1,f2,y2,y3⟩ y4 d
theorem as2 {l:List Env}(hh:Heap.FlyingW B l x k a0 s.heap)(dx:F0 s.heap x od)(q:∀ g,Heap.FlyingW B l x k a0 g->s.heap.UpToSlots g->F0 g x od->Q () { s with heap:=g }):wpAny M A (setFlight (.ref x) none) Q E s:=by
 obtain⟨f1,f2,f3,f4⟩:=hh;exact P2 f1 f3 f4.at dx fun g y1 y2 y3 y4 d=>q g ⟨y1,f2,y2,y3⟩ y4 d
theorem al5 {ob:Obj}{fs:Array Value}(a1:A.frames=some (env::up))(a2:s.heap.FunFrames B (env::up))(a3:env.frame=some L)(b1:s.heap.get? x=some ob)(b2:B.StaysIn s.heap)(b3:B.get? x=none)
  (b4:ob.data=.fields fs)(b5:fs[1]? = some .none)(b6:fs[0]? = some a0)(q:∀ g,Heap.FlyingW B up x ob.cls a0 g->s.heap.UpToSlots g->F0 g x ob.dict->Q () { s with heap:=g }):wpAny M A (leaving env (.ref x)) Q E s:=by
 unfold leaving noteFrame
 simp only[a3]
 refine wpAny_bind (wpAny_bind (wpAny_field b1 b4 b5 ?_));rw[if_neg (by decide)]
 refine ak6 a1 a2 a3 b1 b2 b3 b4 (Array.getElem?_eq_some_iff.mp b5).1 b6 fun g1 z1 d1=>?_;obtain⟨z1,z2,z3,z4⟩:=z1;refine P2 (s:={ s with heap:=g1 }) z1 z2 z3 d1 fun g2 y1 y2 y3 y4 d2=>?_
 obtain⟨_,_,y2'⟩:=y2;exact q g2 ⟨y1,b3,y2',y3⟩ (Heap.UpToSlots.trans (fun b o e n=>z4 b o e n) y4) d2
end
end L2
namespace L2
open PySem PySem.Spec PyProof.Rows
def Q9:List Value->Bool
 | .ref _::r=>Q9 r
 | l=>l == aC4
def Y9 (K:Frag)(C fI:Addr):Bool:=match K.lookup C with
 | some ⟨.type "type",_,.cls cd,sl⟩=>(match cd.mro,sl.toList with
  | .ref C'::bm,[_,_,_,_,some (.builtin n),_]=>C' == C&&n == "ValueError.__new__"&&!cd.hasDel&&cd.hasDict&&PySem.W.tailIn K aC4 bm&&PySem.W.nsOkIn K cd.ns&&nsIn K cd.ns "__init__" == some (some (.ref fI))&&Q9 bm
  | _,_=>false)
 | _=>false
theorem a98 {K:Frag}{h:Heap}{N:Addr}{m:Str->Option Value}{n:Str}{v:Value}(X:K.In h)(G:h.Ns N m)(e:nsIn K N n=some (some v)):m n=some v:=by
 obtain⟨o,es,ep,ho,hd,_,hf⟩:=G;unfold nsIn at e
 split at e
 ·rename_i c d es' n' sl q
  have z:=X _ _ q;rw[ho] at z
  cases z
  cases hd
  split at e
  ·rename_i en he
   cases e
   rw[<- hf];unfold nsFind findBy;rw[<- Array.find?_toList,he];rfl
  ·split at e <;> cases e
 ·cases e
structure ClsI (C fI:Addr)(h:Heap):Prop where
 obj:∃ bm N nm q bs sn sub ab col dd k0 k1 k2 k3 k5 mN,h.get? C=some (excClassObj nm q C N bs bm true sn sub ab col dd k0 k1 k2 k3 k5 "ValueError.__new__")/\h.Ns N mN/\mN "__init__" = some (.ref fI)/\OwnTail h aC4 bm/\Q9 bm=true
theorem aL8 {K:Frag}{C fI:Addr}{h:Heap}(X:K.In h)(q:Y9 K C fI=true):ClsI C fI h:=by
 unfold Y9 at q
 split at q
 ·rename_i dd cd sl ho
  split at q
  ·rename_i C' bm k0 k1 k2 k3 n k5 hm hs
   simp only[Bool.and_eq_true,beq_iff_eq,Bool.not_eq_true'] at q
   obtain⟨⟨⟨⟨⟨⟨⟨rfl,rfl⟩,hdel⟩,hdc⟩,ht⟩,hok⟩,hni⟩,hrf⟩:=q;obtain⟨nm,bs,mro,ns,qn,hd,sn,sub,ab,col,del⟩:=cd
   dsimp only at hm hdel hdc hok hni
   subst hm hdel hdc
   have hsl:sl=#[k0,k1,k2,k3,some (.builtin "ValueError.__new__"),k5]:=by
    obtain⟨l⟩:=sl
    simp only at hs
    rw[hs]
   subst hsl;have N1:h.Ns ns _:=.of_isNs (PySem.W.isNs_of_in X hok);exact⟨bm,ns,nm,qn,bs,sn,sub,ab,col,dd,k0,k1,k2,k3,k5,_,X _ _ ho,N1,a98 X N1 hni,PySem.W.tail_of_in X ht,hrf⟩
  ·cases q
 ·cases q
end L2
namespace L2
open PySem
abbrev L6 (C t:Addr)(od:Option Addr):Obj:={ cls:=.ref C,dict:=od,data:=.fields #[.ref t,.none,.none,.none,.bool false,.none] }
section
variable {prog:Program}{w:World}{A:Around}{E:Value->Shared->Prop}{h:Heap}{g:Array GenState}{d:Drawn}{t:Nat}{os:OsState}
variable {nm q:Str}{C N fI:Addr}{bs bm:List Value}{hdct:Bool}{sn:List Str}{sub:List Value}{ab:Bool}{col:Option Bool}{dd:Option Addr}{k0 k1 k2 k3 k5:Option Value}
set_option maxHeartbeats 4000000 in
theorem aG3 (T:OwnTail h aC4 bm){mN:Str->Option Value}{rest:List Value}{oI:Obj}{Q:Fin->Shared->Prop}
  (hC:h.get? C=some (excClassObj nm q C N bs bm hdct sn sub ab col dd k0 k1 k2 k3 k5 "ValueError.__new__"))(hn:h.Ns N mN)(hi:mN "__init__" = some (.ref fI))(hfI:h.get? fI=some oI)(hfc:oI.cls=.type "function")
  (hq:∀ h' e,(∀ b o,h.get? b=some o->h'.get? b=some o)->h.objs.size<=e->(∃ tt,h'.get? e=some (L6 C tt none)) ->
   wpAny (model prog w) A (call (.ref fI) (.ref e::rest)) (fun r s'=>r=.none/\Q (.done (.ret (.ref e))) s') E ⟨h',g,d,t,os⟩) (hrest:rest.length<=sizeLine) :
  wpAny (model prog w) A (Builtin.«type.__call__» ⟨.ref C::rest,[]⟩) Q E ⟨h,g,d,t,os⟩:=by
 have F:=PySem.F.excBase_ValueError
 repeat (first | with_reducible refine wpAny_loadPart_at hC ?_ | with_reducible refine wpAny_madeBy_exc hC ?_ | wp_step)
 refine codeAny_call_builtin_code (Code.quiet_builtin _ F.quiet) (wpAny_check_new_subT F T hC ?_);refine codeAny_exc_new_subT F T hC ?_ hrest
 show wpAny _ _ _ _ _ _
 let tp:Obj:={ cls:=.type "tuple",data:=.seq rest.toArray }
 let eo:Obj:={ cls:=.ref C,data:=.fields #[.ref h.objs.size,.none,.none,.none,.bool false,.none] }
 have kp:∀ b o,h.get? b=some o->((h.push tp).push eo).get? b=some o:=fun b o z=>Heap.get?_push_of_some _ (Heap.get?_push_of_some _ z);have C1:=kp _ _ hC;have I1:=kp _ _ hfI;have N1:((h.push tp).push eo).Ns N mN:=let ⟨o,es,ep,z,r⟩:=hn;⟨o,es,ep,kp _ _ z,r⟩
 have G1:((h.push tp).push eo).get? (h.objs.size + 1)=some eo:=by
  show((h.push { cls:=.type "tuple",data:=.seq rest.toArray }).push _).get? (h.objs.size + 1)=some _
  heap_get
 have c1:(Value.ref C::bm).contains (.ref C)=true:=by simp
 have T1:=T.keeps kp;unfold isInstance
 repeat (first | with_reducible refine wpAny_loadPart_at G1 ?_ | (with_reducible refine wpAny_isSubtype_exc C1 ?_;rw[c1]) | wp_step)
 show wpAny _ _ (typeLookup (.ref C) _) _ _ _
 refine wpAny_typeLookup_tail C1 N1 T1 F.mroIs F.init.lookup ?_;rw[hi];refine wpAny_holding (wpAny_bind ?_);unfold bindSpecial;refine wpAny_bind (wpAny_typeOf (T:="function") ⟨_,I1,hfc⟩ ?_);rw[if_pos (by decide)]
 refine wpAny_pure (wpAny_bind (wpAny_mono (hq _ (h.objs.size + 1) kp (Nat.le_succ _) ⟨_,G1⟩) (fun r s' hr=>?_) fun _ _ z=>z));obtain⟨rfl,hQ⟩:=hr
 wp_walk
 exact hQ
theorem aP2 (T:OwnTail h aC4 bm){mN:Str->Option Value}{rest:List Value}{oI:Obj}{Q:Value->Shared->Prop}
  (hC:h.get? C=some (excClassObj nm q C N bs bm hdct sn sub ab col dd k0 k1 k2 k3 k5 "ValueError.__new__"))(hn:h.Ns N mN)(hi:mN "__init__" = some (.ref fI))(hfI:h.get? fI=some oI)(hfc:oI.cls=.type "function")
  (hq:∀ h' e,(∀ b o,h.get? b=some o->h'.get? b=some o)->h.objs.size<=e->(∃ tt,h'.get? e=some (L6 C tt none)) ->
   wpAny (model prog w) (A.under (.builtin "type.__call__" ⟨.ref C::rest,[]⟩)) (call (.ref fI) (.ref e::rest)) (fun r s'=>r=.none/\Q (.ref e) s') E ⟨h',g,d,t,os⟩) (hrest:rest.length<=sizeLine) :
  wpAny (model prog w) A (call (.ref C) rest) Q E ⟨h,g,d,t,os⟩:=by
 have f1:=tc_lookup;have f2:=tc_bind (.ref C);have hT:(⟨h,g,d,t,os⟩:Shared).TypeIs (.ref C) "type":=⟨_,hC,rfl⟩;refine wpAny_call (codeAny_of_tree ?_)
 show wpAny _ _ (callAny (.ref C) _) _ _ _
 repeat (any_goals (first | assumption | with_reducible refine wpAny_loadPart_at hC ?_ | wp_step))
 refine⟨rfl,?_⟩;refine codeAny_call_builtin_at (Code.quiet_builtin _ (by decide +kernel)) entry_typeCall (wpAny_check_type_call_sub hC (aG3 T hC hn hi hfI hfc (fun h' e a1 a2 a3=>?_) hrest))
 exact hq h' e a1 a2 a3
end
section
variable {M:Model}{A:Around}{E:Value->Shared->Prop}{s:Shared}{env:Env}{C:Addr}
theorem ag7 {x:Sem Value}{Q:Flow->Shared->Prop}(hh:A.handled=none)
  (h:wpAny M A x (fun v s1=>∃ e t od fI,v=.ref e/\ClsI C fI s1.heap/\s1.heap.get? e=some (L6 C t od)/\E (.ref e) s1) E s) :
  wpAny M A (raiseStmt env (some x) none) Q E s:=by
 unfold raiseStmt;refine wpAny_bind (wpAny_mono h (fun v s1 z=>?_) fun _ _ y=>y);obtain⟨e,t,od,fI,rfl,Z,he,hE⟩:=z;obtain⟨bm,N,nm,q,bs,sn,sub,ab,col,dd,k0,k1,k2,k3,k5,mN,hC,_,_,T,_⟩:=Z.obj;have hcB:(Value.ref C::bm).contains (.type "BaseException")=true:=by rw[List.contains_cons,T.hasType PySem.F.excBase_ValueError.hasBase,Bool.or_true]
 obtain⟨hp,g,d,tk,os⟩:=s1
 repeat (first | with_reducible refine wpAny_loadPart_at he ?_ | with_reducible refine wpAny_loadPart_at hC ?_ | (with_reducible refine wpAny_isSubtype_exc hC ?_;rw[hcB]) | wp_step)
 exact wpAny_raiseNew_none hh hE
end
section
variable {prog:Program}{w:World}{A:Around}{E:Value->Shared->Prop}{s:Shared}{env:Env}{C fI:Addr}
theorem aH1 {x:Str}{np cpos pos:Pos}{args:List Expr}{Q:Flow->Shared->Prop}(hh:A.handled=none)(hplain:(backTo cpos (starEach args env)).any (·.1)=false)
  (h:wpAny (model prog w) A (eval (.Name x np) env) (fun f s1=>f=.ref C/\wpAny (model prog w) A (evalArgs (.ref C) true (backTo cpos (starEach args env)) [])
   (fun a s2=>a.kw=[]/\a.pos.length<=sizeLine/\ClsI C fI s2.heap/\(∃ oI,s2.heap.get? fI=some oI/\oI.cls=.type "function") /\
    ∀ h' e,(∀ b o,s2.heap.get? b=some o->h'.get? b=some o)->s2.heap.objs.size<=e->(∃ tt,h'.get? e=some (L6 C tt none)) ->
     wpAny (model prog w) (A.under (.builtin "type.__call__" ⟨.ref C::a.pos,[]⟩)) (call (.ref fI) (.ref e::a.pos)) (fun r s'=>r=.none/\ClsI C fI s'.heap/\(∃ t od,s'.heap.get? e=some (L6 C t od))/\E (.ref e) s') E { s2 with heap:=h' }) E s1) E s) :
  wpAny (model prog w) A (exec (.Raise (some (.Call (.Name x np) args [] cpos)) none pos) env) Q E s:=by
 rw[arm_exec_Raise]
 first
  | refine wpAny_bind (wpAny_standAt (ag7 (C:=C) hh (wpAny_bind (wpAny_mono (wpAny_Call_ofName (wpAny_mono h (fun f s1 z=>?_) fun _ _ y=>y)) (fun v s3 y3=>wpAny_bind (wpAny_standAt (wpAny_pure y3))) fun _ _ y=>y))))
  | (simp only[evalOpt,Option.map];refine wpAny_bind (wpAny_standAt (ag7 (C:=C) hh (wpAny_bind (wpAny_mono (wpAny_Call_ofName (wpAny_mono h (fun f s1 z=>?_) fun _ _ y=>y)) (fun v s3 y3=>wpAny_bind (wpAny_standAt (wpAny_pure y3))) fun _ _ y=>y)))))
  | (refine wpAny_bind (wpAny_standAt (ag7 (C:=C) hh ?_));refine wpAny_bind (wpAny_mono (wpAny_Call_ofName (wpAny_mono h (fun f s1 z=>?_) fun _ _ y=>y)) (fun v s3 y3=>wpAny_bind (wpAny_standAt (wpAny_pure y3))) fun _ _ y=>y))
 obtain⟨rfl,z⟩:=z;unfold callWith;refine wpAny_bind (wpAny_holding (wpAny_mono z (fun a s2 y=>wpAny_bind (wpAny_standAt ?_)) fun _ _ y=>y));obtain⟨apos,akw⟩:=a;obtain⟨hkw,hlen,Z,⟨oI,hfI,hfc⟩,y⟩:=y;obtain rfl:akw=[]:=hkw;obtain⟨bm,N,nm,q,bs,sn,sub,ab,col,dd,k0,k1,k2,k3,k5,mN,hC,hn,hi,T,_⟩:=Z.obj;obtain⟨hp,g,d,tk,os⟩:=s2
 simp only[hplain]
 refine wpAny_bind (wpAny_keeperOf_exc hC ?_);refine wpAny_bind (aP2 T hC hn hi hfI hfc (fun h' e a1 a2 a3=>?_) hlen);refine wpAny_mono (y h' e a1 a2 a3) (fun r s' u=>?_) fun _ _ u=>u;obtain⟨rfl,u1,⟨t,od,u2⟩,u3⟩:=u;exact⟨rfl,wpAny_bind (wpAny_holding (wpAny_point (wpAny_pure ⟨e,t,od,fI,rfl,u1,u2,u3⟩)))⟩
end
end L2
namespace L2
open PySem PySem.Spec PyProof.Rows
open PySem.W (Looks InstAt)
open PySem.Builtin PySem.Builtin.ObjectAttr
theorem aw5 (self:Value):∀{l:List Value},Q9 l=true->refuseLoop self "__setattr__" l=pure ()
 | .ref c::r,e=>by rw[refuseLoop_ref];exact aw5 self (l:=r) e
 | [],e=>by cases e
 | .none::_,e=>by cases e
 | .bool _::_,e=>by cases e
 | .int _ _::_,e=>by cases e
 | .str _ _::_,e=>by cases e
 | .bytes _ _::_,e=>by cases e
 | .float _ _::_,e=>by cases e
 | .builtin _::_,e=>by cases e
 | .type n::r,e=>by
  rw[show(Value.type n::r)=aC4 from beq_iff_eq.mp e];exact PySem.F.store_ValueError.passes self
structure ExcN (K:Frag)(C:Addr):Prop where
 cd:∃ cd,clsIn K C=some cd/\Q9 cd.mro=true/\cd.hasDict=true
 sa:findIn K (.ref C) "__setattr__" = some (some (.builtin "object.__setattr__"))
 hd:PySem.W.hasDictIn K C=true
section
variable {prog:Program}{w:World}{A:Around}{E:Value->Shared->Prop}{s:Shared}{K:Frag}{x C:Addr}{R:Result->Shared->Prop}
theorem ao7 {ox:Obj}{od:Option Obj}{name:Str}{tk:Tok}{v:Value}(X:K.In s.heap)(I:InstAt s.heap x ox C od)(Z:ExcN K C)(mo:PySem.W.mroIn K C (.type "object")=some true)(ht:findIn K (.ref C) name=some none)
  (h:∀ b,wpAny (model prog w) A.in1 (storeInOwnDict (.ref x) (.ref C) (.str name tk) name v b)
   (fun fin s'=>match fin with | .done f=>R (.ok f) s' | .again c'=>c'.quiet=true/\codeAny (model prog w) A c' R s') (fun e s'=>R (.error e) s') s) :
  codeAny (model prog w) A (.call (.builtin "object.__setattr__") ⟨[.ref x,.str name tk,v],[]⟩) R s:=by
 have SF:=PySem.F.store_object;obtain⟨cd,hc,ho,_⟩:=Z.cd;have sub:Looks (model prog w) s.heap (isInstance (.ref x) (.type "object")) true:=I.type.andThen (PySem.W.looks_mroIn X mo);refine codeAny_call_builtin SF.slot.plain SF.entry (@PySem.W.check_slot (model prog w) _ _ s "object.__setattr__" "object" "__setattr__" (.ref x) [.str name tk,v] [] _ SF.kind SF.split sub (SF.args (.ref x) (.str name tk) v) ?_);have hm:Looks (model prog w) s.heap (mroOf (.ref C)) cd.mro:=(PySem.W.looks_clsIn X hc).andThen .now;rw[PySem.W.osa_eq,refuse_eq];refine wpAny_bind (wpAny_bind (I.type.here (wpAny_bind (hm.here ?_))));rw[aw5 _ ho];refine wpAny_pure (wpAny_bind (I.type.here (wpAny_bind ((PySem.W.looks_findIn X ht).here (wpAny_bind (wpAny_pure ?_))))));exact h _
theorem aQ9 {t:Addr}{name:Str}{v:Value}{Q:Unit->Shared->Prop}(X:K.In s.heap)(hx:s.heap.get? x=some (L6 C t none))(Z:ExcN K C)(mo:PySem.W.mroIn K C (.type "object")=some true)(ht:findIn K (.ref C) name=some none)
  (h:∀ h',h'.get? x=some (L6 C t (some s.heap.objs.size))->h'.Ns1 s.heap.objs.size (fun y=>if y=name then some v else none)->(∀ b o,b≠x->s.heap.get? b=some o->h'.get? b=some o)->Q () { s with heap:=h',toks:=s.toks + 2 }) :
  wpAny (model prog w) A (setAttr (.ref x) name v) Q E s:=by
 have J:InstAt s.heap x (L6 C t none) C none:=⟨hx,rfl,rfl,trivial⟩;refine PySem.W.set_plain X J Z.sa (ao7 (s:={ s with toks:=s.toks + 1 }) X J Z mo ht fun b=>?_)
 obtain⟨cd,hc,_,hd'⟩:=Z.cd;refine wpAny_bind (wpAny_pure (wpAny_bind (wpAny_bind (wpAny_loadPart hx (wpAny_bind (Looks.here (s:={ s with toks:=s.toks + 1 }) (PySem.W.looks_clsIn X hc) ?_))))))
 rw[hd'];have x1:(s.heap.push { cls:=.type "dict",data:=.dict #[] }).get? x=some (L6 C t none):=Heap.get?_push_of_some _ hx;have nx:x≠s.heap.objs.size:=Nat.ne_of_lt (Heap.lt_size hx)
 show wpAny _ _ ((if (!true || !typeHasDict (Value.ref C))=true then _ else _)) _ _ _
 rw[if_neg (by simp[typeHasDict])]
 refine wpAny_bind (wpAny_alloc' ?_);refine wpAny_bind (wpAny_update' x1 ?_);refine wpAny_pure ?_
 show wpAny _ _ (storeInDict s.heap.objs.size (.str name s.toks) name v) _ _ _
 have gx:((s.heap.push { cls:=.type "dict",data:=.dict #[] }).update x fun o=>{ cls:=o.cls,dict:=some s.heap.objs.size,data:=o.data,slots:=o.slots }).get? x=some (L6 C t (some s.heap.objs.size)):=Heap.get?_update_self _ x1 rfl
 have gd:((s.heap.push { cls:=.type "dict",data:=.dict #[] }).update x fun o=>{ cls:=o.cls,dict:=some s.heap.objs.size,data:=o.data,slots:=o.slots }).get? s.heap.objs.size=some { cls:=.type "dict",data:=.dict #[] } :=
  (Heap.get?_update_ne _ _ _ _ nx.symm).trans (Heap.get?_push_at rfl rfl)
 have ko:∀ b o,b≠x->s.heap.get? b=some o->((s.heap.push { cls:=.type "dict",data:=.dict #[] }).update x fun o=>{ cls:=o.cls,dict:=some s.heap.objs.size,data:=o.data,slots:=o.slots }).get? b=some o:=fun b o n e=>(Heap.get?_update_ne _ _ _ _ n).trans (Heap.get?_push_of_some _ e);generalize ((s.heap.push { cls:=.type "dict",data:=.dict #[] }).update x fun o=>{ cls:=o.cls,dict:=some s.heap.objs.size,data:=o.data,slots:=o.slots })=g1 at gx gd ko ⊢;have nd:g1.Ns s.heap.objs.size (fun _=>none):=⟨_,#[],_,gd,rfl,fun e he=>absurd he (by simp),fun _=>rfl⟩
 unfold storeInDict newKeyGuard;refine wpAny_bind (wpAny_pure (wpAny_bind (wpAny_nsSet1 (Heap.Ns1.of_empty nd) fun h' hn' hs=>?_)));obtain⟨oD,esD,epD,hoD,hdD,hcD⟩:=hn'.count (PySem.Within.cons name v PySem.Within.nil);refine wpAny_bind (wpAny_lookBehind hoD (by rw[hdD];exact pastItsLine_dict (Nat.le_trans hcD (by rw[length_cons,List.length_nil,sizeLine_eq];lia))) ?_)
 exact wpAny_pure (h h' ((hs.2 x nx).trans gx) hn' fun b o n e=>(hs.2 b (Nat.ne_of_lt (Heap.lt_size e))).trans (ko b o n e))
theorem aR3 {t dx:Addr}{mA:Str->Option Value}{ns:List Str}{name:Str}{v:Value}{Q:Unit->Shared->Prop}(X:K.In s.heap)(hx:s.heap.get? x=some (L6 C t (some dx)))(hn:s.heap.Ns1 dx mA)(hw:PySem.Within mA ns)(hz:ns.length<=1000)(Z:ExcN K C)
  (mo:PySem.W.mroIn K C (.type "object")=some true)(ht:findIn K (.ref C) name=some none)
  (h:∀ h',h'.Ns1 dx (fun y=>if y=name then some v else mA y)->Heap.SameBut dx s.heap h'->Q () { s with heap:=h',toks:=s.toks + 2 }) :
  wpAny (model prog w) A (setAttr (.ref x) name v) Q E s:=by
 obtain⟨od,ho,hl⟩:=ab8 hn;have J:InstAt s.heap x (L6 C t (some dx)) C (some od):=⟨hx,rfl,rfl,ho⟩;refine PySem.W.set_plain X J Z.sa (ao7 (s:={ s with toks:=s.toks + 1 }) X J Z mo ht fun b=>?_)
 obtain⟨cd,hc,_,hd'⟩:=Z.cd;refine wpAny_bind (wpAny_pure (wpAny_bind (wpAny_bind (wpAny_loadPart hx (wpAny_bind (Looks.here (s:={ s with toks:=s.toks + 1 }) (PySem.W.looks_clsIn X hc) ?_))))))
 rw[hd'];refine wpAny_pure (a:=some dx) (wpAny_bind (wpAny_pure (wpAny_bind ?_)));refine wpAny_nsSet1 (s:={ s with toks:=s.toks + 1 }) hn fun h' hn2 hs2=>?_
 obtain⟨oD,esD,epD,hoD,hdD,hcD⟩:=hn2.count (PySem.Within.cons name v hw);refine wpAny_bind (wpAny_lookBehind hoD (by rw[hdD];exact pastItsLine_dict (Nat.le_trans hcD (by rw[length_cons,sizeLine_eq];lia))) ?_)
 exact wpAny_pure (h _ hn2 hs2)
theorem bl6 {o:Obj}{dx:Addr}{mA:Str->Option Value}{name:Str}{v:Value}{expr:Bool}{Q:Value->Shared->Prop}(X:K.In s.heap)(Z:ExcX K C)(N:ExcN K C)(hx:s.heap.get? x=some o)(hc:o.cls=.ref C)(hf:∃ fs,o.data=.fields fs)(hd:o.dict=some dx)(hn:s.heap.Ns1 dx mA)
  (ht:findIn K (.ref C) name=some none)(hv:mA name=some v)(hh:PySem.W.handedIn v=true)(h:Q v { s with toks:=s.toks + 1 }) :
  wpAny (model prog w) A (getAttr (.ref x) name expr) Q E s:=by
 obtain⟨od,ho,hl⟩:=ab8 hn;obtain⟨fs,hfs⟩:=hf;have J:InstAt s.heap x o C (some od):=⟨hx,hc,by obtain⟨a,b,c,d⟩:=o;cases hfs;rfl,by rw[hd];exact ho⟩
 have Lf:=PySem.W.looks_find (M:=model prog w) X J (PySem.W.findObj_own N.hd ht rfl (by rw[hl,hv]))
 obtain⟨hh0,g,dr,t,os⟩:=s;have L0:Looks (model prog w) hh0 (typeOf (.ref x)) (.ref C):=hc ▸ (Looks.ld hx).andThen .now;have L1:=PySem.W.looks_findIn (M:=model prog w) X Z.ga;have L2:=PySem.W.looks_findIn (M:=model prog w) X Z.gn;have L4:=PySem.W.looks_mroIn (M:=model prog w) X Z.mb;have f3:=PySem.F.attr_ValueError.ga.bind (.ref x);have hk:builtinKind "BaseException.__getattribute__" = some .slot:=by decide +kernel
 have hsplit:splitId "BaseException.__getattribute__" = some ("BaseException","__getattribute__"):=by decide +kernel
 unfold getAttr getAttrBy;refine wpAny_bind (wpAny_mkText (wpAny_holding (wpAny_bind (L0.at (wpAny_bind (L1.at ?_))))))
 show wpAny _ _ (getAttrByItsOwn _ _ _ _ _ _) _ _ _
 unfold getAttrByItsOwn;refine wpAny_bind ?_
 show wpAny _ _ (typeLookup _ _) _ _ _
 refine L2.at ?_;refine wpAny_bind (wpAny_attempt (wpAny_holding ?_));unfold callGetattribute;rw[if_neg (by simp[onTheHeap])]
 unfold boundAndCalled;refine wpAny_bind ?_;rw[f3];refine wpAny_pure ?_;refine wpAny_call (codeAny_call_builtin PySem.F.attr_ValueError.ga.plain PySem.F.entry_bexc_ga ?_);have ha:=PySem.F.args_bexc_ga (.ref x) (.str name t)
 simp only[checkBuiltinCall,hk,hsplit]
 refine wpAny_bind ?_;unfold isInstance;refine wpAny_bind (L0.at (L4.at ?_))
 simp only[Bool.not_true,Bool.false_eq_true,if_false]
 refine wpAny_mono (Q:=fun _ s1=>s1=⟨hh0,g,dr,t + 1,os⟩) (E:=fun _ _=>False) ?_ (fun _ s1 z=>?_) fun _ _ z=>z.elim
 ·cases hs:Manifest.signature? "BaseException.__getattribute__" with
  | none=>exact wpAny_pure rfl
  | some sig =>
   simp only[argsOk,hs] at ha
   have h2:Bind.checkArgs "BaseException.__getattribute__" sig ⟨[.ref x,.str name t],[]⟩=pure ():=ha
   show wpAny _ _ (Bind.checkArgs "BaseException.__getattribute__" sig ⟨[.ref x,.str name t],[]⟩) _ _ _
   rw[h2];exact wpAny_pure rfl
 subst z;unfold Builtin.«object.__getattribute__»;refine wpAny_bind (wpAny_pure (wpAny_bind (wpAny_pure (wpAny_bind (L0.at (wpAny_bind (Lf.at (wpAny_pure ?_))))))))
 show wpAny _ _ (handedOut v) _ _ _
 rw[PySem.W.handedOut_of hh];exact wpAny_pure h
end
def F6 (e C:Addr)(od:Option Addr):HO:=.ext fun h=>∃ t,h.get? e=some (L6 C t od)
def XdO (dx:Addr)(fs:List (Str×V)):HO:=.ext fun h=>∃ mA,h.Ns1 dx mA/\(∀ f,ac1 (fs.lookup f) (mA f))/\PySem.Within mA (fs.map (·.1))
def Q0 (e C:Addr)(od:Option Addr):HO:=.ext fun h=>∃ o vs,h.get? e=some o/\o.cls=.ref C/\o.data=.fields vs/\o.dict=od
theorem ar3 {P:Program}{w:World}{H:Hp}{h:Heap}{e C t:Addr}{od:Option Addr}(g:h.get? e=some (L6 C t od)):p6 P w H h e (F6 e C od):=⟨⟨t,g⟩,⟨_,g⟩,fun h1 h2 ⟨t',g'⟩ k=>⟨t',k _ g'⟩⟩
theorem bd6 {h1 h2:Heap}{d:Addr}{m:Str->Option Value}(n:h1.Ns1 d m)(k:∀ o,h1.get? d=some o->h2.get? d=some o):h2.Ns1 d m:=by
 obtain⟨o,es,ep,e,r⟩:=n;exact⟨o,es,ep,k _ e,r⟩
theorem aW1 {P:Program}{w:World}{H:Hp}{h:Heap}{dx:Addr}{fs:List (Str×V)}{mA:Str->Option Value}(n:h.Ns1 dx mA)(r:∀ f,ac1 (fs.lookup f) (mA f))(wi:PySem.Within mA (fs.map (·.1))):p6 P w H h dx (XdO dx fs):=by
 obtain⟨o,es,ep,e,r'⟩:=id n;exact⟨⟨mA,n,r,wi⟩,⟨_,e⟩,fun h1 h2 ⟨m,n1,r1,w1⟩ k=>⟨m,bd6 n1 k,r1,w1⟩⟩
section
variable {X:Cx}{o value:Expr}{ta tv:TE}{f:Str}{pos pos':Pos}
def sX0 (K:Frag)(ta tv:TE)(f:Str):TS:=fun D σ H=>tv σ H fun y H1=>ta σ H1 fun x H2=>∃ a C,x=.ref a/\H2 a=some (F6 a C none)/\ExcN K C/\PySem.W.mroIn K C (.type "object")=some true/\findIn K (.ref C) f=some none /\
 ∀ dx,H2 dx=none->D.nx σ (upd (upd H2 a (F6 a C (some dx))) dx (XdO dx [(f,y)]))
theorem ba7 (K:Frag)(ha:PE X o ta)(hv:PE X value tv)(hs:swapsWith value (some (.Attribute o f pos')) pos.line X.env=pure false)(hK:X.K=K:=by rfl):PS X (.Assign [.Attribute o f pos'] value pos) (sX0 K ta tv f):=by
 subst hK
 intro pins s σ H D I h
 refine plainObj_wpAny_Assign_Attribute (thn (hv pins s σ H _ I h) fun u s1 ⟨y,H1,I1,ry,q⟩=>thn (ha pins s1 σ H1 _ I1 q) fun ov s2 ⟨x,H2,I2,rx,a,C,ex,ea,Z,mo,nf,q2⟩=>?_) hs;subst ex;obtain rfl:ov=Value.ref a:=rx;obtain⟨⟨t,g⟩,_,_⟩:=(show p6 X.prog X.w H2 s2.heap a (F6 a C none) from I2.hok a _ ea);refine aQ9 I2.kIn g Z mo nf fun h' g' n' kp=>?_;have fr:H2 s2.heap.objs.size=none:=I2.hok.fresh (Nat.le_refl _);have na:s2.heap.objs.size≠a:=Nat.ne_of_gt (Heap.lt_size g);have mu:Mut (H2 a):=by rw[ea];exact True.intro
 have new1:p6 X.prog X.w (upd H2 a (F6 a C (some s2.heap.objs.size))) h' a (F6 a C (some s2.heap.objs.size)):=ar3 g';have ok1:=I2.hok.write (e:=a) mu (.inl rfl) (fun b u hb z=>kp b u hb z) ⟨_,g'⟩ new1;have fr1:upd H2 a (F6 a C (some s2.heap.objs.size)) s2.heap.objs.size=none:=by rw[h7 na];exact fr
 refine⟨σ,_,I2.call' (s':={ s2 with heap:=h',toks:=s2.toks + 2 }) (ch:=[]) rfl (Un.track (Un.write (e:=a) mu (.inl rfl) (fun b u hb z=>kp b u hb z) ⟨_,g'⟩) (Nat.le_refl _) fr) (HOk.track ok1 fr1 (aW1 (fs:=[(f,y)]) n' (fun g=>?_) ?_)) I2.bare (fun b z=>nomatch z),q2 _ fr⟩
 ·by_cases z:g=f
  ·subst z
   simp only[List.lookup,beq_self_eq_true,if_true]
   exact ry
  ·have z':(g == f)=false:=beq_eq_false_iff_ne.mpr z
   simp only[List.lookup,z',if_neg z]
   exact True.intro
 ·exact PySem.Within.cons f u PySem.Within.nil
def sX1 (K:Frag)(ta tv:TE)(f:Str):TS:=fun D σ H=>tv σ H fun y H1=>ta σ H1 fun x H2=>∃ a C dx fs,x=.ref a/\H2 a=some (F6 a C (some dx))/\H2 dx=some (XdO dx fs)/\ExcN K C/\PySem.W.mroIn K C (.type "object")=some true/\findIn K (.ref C) f=some none/\fs.length < 1000 /\
 D.nx σ (upd H2 dx (XdO dx ((f,y)::fs)))
theorem bi1 (K:Frag)(ha:PE X o ta)(hv:PE X value tv)(hs:swapsWith value (some (.Attribute o f pos')) pos.line X.env=pure false)(hK:X.K=K:=by rfl):PS X (.Assign [.Attribute o f pos'] value pos) (sX1 K ta tv f):=by
 subst hK
 intro pins s σ H D I h
 refine plainObj_wpAny_Assign_Attribute (thn (hv pins s σ H _ I h) fun u s1 ⟨y,H1,I1,ry,q⟩=>thn (ha pins s1 σ H1 _ I1 q) fun ov s2 ⟨x,H2,I2,rx,a,C,dx,fs,ex,ea,ed,Z,mo,nf,hl,q2⟩=>?_) hs;subst ex;obtain rfl:ov=Value.ref a:=rx;obtain⟨⟨t,g⟩,_,_⟩:=(show p6 X.prog X.w H2 s2.heap a (F6 a C (some dx)) from I2.hok a _ ea);obtain⟨⟨mA,n,r,wi⟩,_,_⟩:=(show p6 X.prog X.w H2 s2.heap dx (XdO dx fs) from I2.hok dx _ ed);refine aR3 I2.kIn g n wi (by rw[length_map];lia) Z mo nf fun h' n' sb=>?_
 have he:∃ u,h'.get? dx=some u:=by obtain⟨o,_,_,e,_⟩:=id n';exact⟨o,e⟩
 refine⟨σ,_,I2.write (x:=dx) (e:=dx) (o:=XdO dx ((f,y)::fs)) (by rw[ed];exact True.intro) (.inl rfl) (fun b u hb z=>(sb.2 b hb).trans z) he (aW1 n' (fun g=>?_) ?_),q2⟩
 ·by_cases z:g=f
  ·subst z
   simp only[List.lookup,beq_self_eq_true,if_true]
   exact ry
  ·have z':(g == f)=false:=beq_eq_false_iff_ne.mpr z
   simp only[List.lookup,z',if_neg z]
   exact r g
 ·rw[map_cons]
  exact PySem.Within.cons f u wi
def tXf (K:Frag)(ta:TE)(f:Str):TE:=fun σ H Q=>ta σ H fun x H1=>∃ a C dx fs v,x=.ref a/\H1 a=some (Q0 a C (some dx))/\H1 dx=some (XdO dx fs)/\ExcX K C/\ExcN K C/\findIn K (.ref C) f=some none/\fs.lookup f=some v/\Q v H1
theorem aX7 (K:Frag)(he:PE X o ta)(hK:X.K=K:=by rfl)(hb:attributeBase o f X.env (eval o X.env)=eval o X.env:=by rfl):PE X (.Attribute o f pos) (tXf K ta f):=by
 subst hK
 intro pins s σ H Q I h
 refine aI7 hb (thn (he pins s σ H _ I h) fun u s1 ⟨x,H1,I1,rx,a,C,dx,fs,v,ex,ea,ed,Z,N,nf,l,q⟩=>?_);subst ex;obtain rfl:u=Value.ref a:=rx;obtain⟨⟨o,vs,g,hc,hd,hdd⟩,_,_⟩:=(show p6 X.prog X.w H1 s1.heap a (Q0 a C (some dx)) from I1.hok a _ ea);obtain⟨⟨mA,n,r,wi⟩,_,_⟩:=(show p6 X.prog X.w H1 s1.heap dx (XdO dx fs) from I1.hok dx _ ed);obtain⟨u',hu,ru⟩:=ac1.some_of (v:=v) (o:=mA f) (by rw[<- l];exact r f)
 exact bl6 I1.kIn Z N g hc ⟨vs,hd⟩ hdd n nf hu (an0 ru) ⟨v,H1,I1.tok _,ru,q⟩
def aU1 (K:Frag):List V->Hp->VK->Prop:=fun xs H Q=>∃ ea C od d c b,xs=[.ref ea,d]/\(∀ u,o5 d u->u=c)/\H ea=some (Q0 ea C od)/\ExcX K C/\kitOne K (.ref C) c=some b/\Q (.bl b) H
theorem y6 (K:Frag)(h:X.K=K:=by rfl):z7 X (.builtin "isinstance") (aU1 K):=by
 subst h
 intro pins s σ H xs us Q I r h
 obtain⟨ea,C,od,d,c,b,rfl,hd,he,Z,e,q⟩:=h;obtain⟨u,u',rfl,r1,r2⟩:=ap1 r
 cases (show u=Value.ref ea from r1)
 cases hd u' r2
 obtain⟨⟨o,vs,ho,hc,_⟩,_⟩:=(show p6 X.prog X.w H s.heap ea (Q0 ea C od) from I.hok ea _ he);exact PySem.W.kia_one (aU8 Z) I.kIn ⟨o,ho,hc⟩ e (fun z=>nomatch z) fun tk=>⟨.bl b,H,I.tok _,rfl,q⟩
end
def ar4 (H:Hp)(e:Addr):Hp:=fun b=>if b=e then none else H b
theorem ap9 {H:Hp}{e:Addr}:ar4 H e e=none:=if_pos rfl
theorem B4 {H:Hp}{e b:Addr}(h:b≠e):ar4 H e b=H b:=if_neg h
def CXF (P:Program)(w:World):CXT:=fun outer H s E e s'=>∃(ea C:Addr)(a0:Value)(B:Heap)(H':Hp)(od:Option Addr),
 e=.ref ea/\s'.os=s.os/\AllBare s'.gens/\Heap.FlyingW B outer ea (.ref C) a0 s'.heap/\F0 s'.heap ea od/\Fly (frs outer) H H' s.heap B s'.heap/\HOk P w H' B/\E (.ref C) od H'
def ax5 (X:Cx)(E:St->XK):Prop:=∀(pins:List (Addr×Obj))(σ:St)(H:Hp)(s:Shared)(e:Value)(s':Shared),Inv X pins σ H s->CXF X.prog X.w X.stack H s (E σ) e s'->X.xe e s'
def aW9 (X:Cx)(E:XK):Prop:=∀(pins:List (Addr×Obj))(σ:St)(H:Hp)(s:Shared)(e C:Addr)(od:Option Addr),Inv X pins σ H s->H e=some (F6 e C od)->X.s₀.heap.get? e=none->E (.ref C) od (ar4 H e)->X.xe (.ref e) s
section
variable {P:Program}{w:World}{K:Frag}{mg:Str->Option Value}{base:Heap}{N:List Str}{qual:Str}{scope:Scope}{f:Addr}{cd:Value}{A:Around}{outer:List Env}{s:Shared}{H:Hp}{E:XK}
theorem Q3:aW9 (N5 (CXF P w) P w K mg base N qual scope f cd A outer s H E) E:=by
 intro pins σ H1 s1 e C od I he h0 hE
 show wpAny _ _ (leaving _ (.ref e)) _ _ _
 have fr:frs (N5 (CXF P w) P w K mg base N qual scope f cd A outer s H E).stack=s.heap.objs.size::frs outer:=aC3 rfl;have hin:∀ env∈(N5 (CXF P w) P w K mg base N qual scope f cd A outer s H E).stack,∀ a,env.frame=some a->a∈e::frs (N5 (CXF P w) P w K mg base N qual scope f cd A outer s H E).stack:=fun env hm b hb=>mem_cons_of_mem _ (List.mem_filterMap.mpr ⟨env,hm,hb⟩);have frees:=I.stkFree;have stk:=I.stack;obtain⟨⟨t,g⟩,_,_⟩:=(show p6 P w H1 s1.heap e (F6 e C od) from I.hok e _ he);refine al5 (B:=PySem.W.hideAll s1.heap (e::frs (N5 (CXF P w) P w K mg base N qual scope f cd A outer s H E).stack)) I.ok.frames (PySem.W.funFrames_hide stk hin) rfl g (fun b o q=>PySem.W.of_hideAll _ q) (PySem.W.hideAll_none _ (mem_cons_self ..)) rfl rfl rfl fun h'' fl up dz=>?_
 have ne:∀ b,b∈frs (N5 (CXF P w) P w K mg base N qual scope f cd A outer s H E).stack->b≠e:=fun b hb z=>by
  have:=frees b hb
  rw[z,he] at this
  cases this
 have keepB:∀ b o,s1.heap.get? b=some o->b≠e->b∉frs (N5 (CXF P w) P w K mg base N qual scope f cd A outer s H E).stack->(PySem.W.hideAll s1.heap (e::frs (N5 (CXF P w) P w K mg base N qual scope f cd A outer s H E).stack)).get? b=some o:=fun b o q n1 n2=>PySem.W.hideAll_get _ q fun z=>(mem_cons.mp z).elim n1 n2
 have n0:∀ b o,s.heap.get? b=some o->b≠e:=fun b o q z=>by
  have h0':s.heap.get? e=none:=h0;rw[z,h0'] at q
  cases q
 have nL:∀ b o,s.heap.get? b=some o->b∉frs outer->b∉frs (N5 (CXF P w) P w K mg base N qual scope f cd A outer s H E).stack:=fun b o q hb z=>by
  rw[fr] at z
  rcases mem_cons.mp z with y | y
  ·exact absurd (Heap.lt_size q) (by rw[y];exact Nat.lt_irrefl _)
  ·exact hb y
 have fly:Fly (frs outer) H (ar4 H1 e) s.heap (PySem.W.hideAll s1.heap (e::frs (N5 (CXF P w) P w K mg base N qual scope f cd A outer s H E).stack)) h'':=by
  refine⟨fun b o q hb=>?_,fun b o q hb=>?_,fun b o q n=>?_,fun b xs q=>?_,fun b o u q=>?_,fun b ps q=>?_⟩
  ·obtain⟨o1,e1⟩:=I.base.there b o q (show _∉([]:List Addr) by simp)
   refine⟨⟨o1,keepB b o1 e1 (n0 b o q) (nL b o q hb)⟩,fun n=>?_⟩;exact keepB b o (I.base.keep b o q n hb (show _∉([]:List Addr) by simp)) (n0 b o q) (nL b o q hb)
  ·obtain⟨s1',q1⟩:=I.base.slot b o q (I.ok.frf b hb) hb (show _∉([]:List Addr) by simp)
   have hb':b∈frs (N5 (CXF P w) P w K mg base N qual scope f cd A outer s H E).stack:=by rw[fr];exact mem_cons_of_mem _ hb
   obtain⟨s2',q2⟩:=up b _ q1 (by
    obtain⟨_,o',q',d⟩:=stk.mem hb';rw[q1] at q'
    cases q'
    exact d)
   exact⟨s2',q2⟩
  ·rw[B4 (n0 b o q)]
   exact I.base.free b o q n (show _∉([]:List Addr) by simp)
  ·have z:=I.base.tups b xs q
   rw[B4 (fun y=>by rw[y,he] at z;cases z)]
   exact z
  ·have z:=I.base.frzs b o u q
   rw[B4 (fun y=>by rw[y,he] at z;cases z)]
   exact z
  ·obtain⟨m,z⟩:=I.base.tbls b ps q
   exact⟨m,by rw[B4 (fun y=>by rw[y,he] at z;cases z)];exact z⟩
 refine⟨e,C,_,_,ar4 H1 e,od,rfl,I.os,I.bare,fl,dz,fly,fun b u e1=>?_,hE⟩;have nb:b≠e:=fun z=>by rw[z,ap9] at e1;cases e1
 rw[B4 nb] at e1;refine(I.hok b u e1).stay (fun c v hc q=>keepB c v q ?_ fun hm=>?_) (fun c q=>?_) fun c xs q=>?_
 ·rintro rfl
  rcases hc with z | z
  ·exact nb z.symm
  ·rw[he] at z;cases z
 ·have hn:=frees c hm
  rcases hc with z | z
  ·rw[z] at hn;rw[e1] at hn;cases hn
  ·rw[z] at hn;cases hn
 ·rw[B4 (fun y=>by rw[y,he] at q;cases q)];exact q
 ·rw[B4 (fun y=>by rw[y,he] at q;cases q)];exact q
theorem ak5 {E2:XK}(hE:∀ c d H,E2 c d H->E c d H):ax5 (N5 (CXF P w) P w K mg base N qual scope f cd A outer s H E) (fun _=>E2):=by
 intro pins σ H1 s1 e s' I c
 obtain⟨ea,C,a0,B,H2,od,rfl,os,bare,fl,dz,fy,hok,hE2⟩:=c
 show wpAny _ _ (leaving _ (.ref ea)) _ _ _
 have fr:frs (N5 (CXF P w) P w K mg base N qual scope f cd A outer s H E).stack=s.heap.objs.size::frs outer:=aC3 rfl;refine aE3 I.ok.frames rfl fl dz fun h'' fl' up dz'=>?_
 have f2:=fy.up (h3:=h'') fun b hb o e1=>up b o e1 (by
  obtain⟨_,o',q,d⟩:=fl.2.2.1.mem hb
  rw[e1] at q;cases q;exact d)
 refine⟨ea,C,a0,B,H2,od,rfl,os.trans I.os,bare,fl',dz',f2.after (u:=I.base) (fun b o e1 hb=>?_) (fun b hb=>by rw[fr];exact mem_cons_of_mem _ hb) I.ok.frf,hok,hE _ _ _ hE2⟩
 rw[fr]
 intro z
 rcases mem_cons.mp z with z | z
 ·exact absurd (Heap.lt_size e1) (by rw[z];exact Nat.lt_irrefl _)
 ·exact hb z
end
structure CalleeF (P:Program)(w:World)(K:Frag)(mg:Str->Option Value)(base:Heap)(k:Nat)(x:Str)(ps:List Str)(dvs:List V)(sp:Sp):Prop where
 ex:∃(f:Addr)(fd:FuncData),FnOk P w K mg base (CXF P w) k f fd ps sp/\(∀ m,m<=dvs.length->∃ ds,j9 (dvs.drop m) ds/\I9 K fd ps ds)/\keepIn K (.ref f)=true/\mg x=some (.ref f)
section
variable {P:Program}{w:World}{K:Frag}{mg:Str->Option Value}{base:Heap}
theorem Def.okF {x:Str}{st:Stmt}{N ps:List Str}{k:Nat}{sp:Sp}(D:Def K mg x st ps)(S:FnScope N ps (d7 st))(len:∀ vs H Q E,sp vs H Q E->vs.length=ps.length)
  (hbody:∀(f:Addr)(cdv:Value)(A:Around)(outer:List Env)(s:Shared)(H:Hp)(vs:List V)(Q:VK)(E:XK),Room k (A.deeper (envOfC x (d7 st) s.heap.objs.size f cdv))->sp vs H Q E ->
   ∃ t,PSs (N5 (CXF P w) P w K mg base N x (d7 st) f cdv A outer s H E) (i3 st) t/\t { nx:=fun _ H'=>Q .non H',rt:=Q } (start N vs) H):CalleeF P w K mg base (k + 1) x ps [] sp:=by
 obtain⟨f,fd,⟨⟨oc,od,kV,doc,pm,an,cdv,ct,osl,rfl,lk,hcd⟩,kp⟩,b,m⟩:=D.ex;refine⟨f,_,ap8 lk hcd S len fun A outer s H vs Q E hr hsp=>hbody f cdv A outer s H vs Q E hr hsp,fun j hj=>⟨[],?_,b⟩,kp,m⟩;rw[List.drop_nil];exact .nil
end
section
variable {X:Cx}{k n:Nat}{ps:List Str}{dvs:List V}{sp:Sp}{x:Str}{p pos:Pos}{e:Expr}{es:List Expr}{t:TA}{E:St->XK}
theorem a49 {f:Addr}{fd:FuncData}{ds:List Value}{pins:List (Addr×Obj)}{σ:St}{H:Hp}{s:Shared}{Q:VK}{us:List Value}{vs:List V}(F:FnOk X.prog X.w X.K X.mg X.base (CXF X.prog X.w) k f fd ps sp)(hr:Room k X.A)(hb:I9 X.K fd ps ds)(hd:j9 dvs ds)(hx:ax5 X E)
  (I:Inv X pins σ H s)(r:j9 vs us)(h:sp (vs++dvs) H Q (E σ)):wpAny (model X.prog X.w) X.A (call (.ref f) us) (EP X pins σ Q) X.xe s:=by
 have r2:j9 (vs++dvs) (us++ds):=r.append hd;have hl:(us++ds).length=ps.length:=by rw[<- r2.length];exact F.len _ _ _ _ h
 refine wpAny_call (codeAny_mono (F.run X.A X.stack s H ⟨us,[]⟩ (us++ds) (vs++dvs) Q (E σ) hr I.env0 (hb s us I.kIn hl) r2 h) fun r s' hq=>?_)
 cases r with
 | error e=>exact hx pins σ H s e s' I hq
 | ok fl =>
  cases fl with
  | ret u=>exact I.after hq
  | next=>exact False.elim hq
  | brk=>exact False.elim hq
  | cont=>exact False.elim hq
theorem X8 (m:Nat)(C:CalleeF X.prog X.w X.K X.mg X.base k x ps dvs sp)(hx:ax5 X E)(hr:Room n X.A)(hg:Gl X x)(ha:PA X (e::es) t)(hm:m<=dvs.length:=by decide)(hk:k<=n:=by decide)(hdb:(x == ("__debug__":Str))=false:=by decide)
  (he:starEach (e::es) X.env=(false,eval e X.env)::starEach es X.env:=by rfl) (hpl:(backTo pos (starEach es X.env)).any (·.1)=false:=by rfl) :
  PE X (.Call (.Name x p) (e::es) [] pos) (be3 sp (dvs.drop m) E t):=by
 obtain⟨f,fd,F,b,kp,mm⟩:=C.ex;obtain⟨ds,hv,hb⟩:=b m hm
 intro pins s σ H Q I h
 refine wpAny_Call_Name_kw (M4 I hg mm ?_ hdb);refine PySem.W.callWith_K (h₀:=X.base) I.ok.mod.kin kp (thn (ha pos pins s σ H _ I h) fun us s1 ⟨vs,H1,I1,r,q⟩=>⟨I1.kIn,?_⟩) he hpl;exact a49 F (hr.mono hk) hb hv hx I1 r q
end
structure ExcI (K:Frag)(mg:Str->Option Value)(x:Str)(C fI:Addr):Prop where
 mg:mg x=some (.ref C)
 exc:Y9 K C fI=true
 at_:findIn K (.ref C) "__init__" = some (some (.ref fI))
section
variable {X:Cx}{C:Addr}{x:Str}{E:XK}{np cpos pos:Pos}{e:Expr}{es:List Expr}{t:TA}{k n:Nat}{ps:List Str}{kb:FuncData->Prop}{sp:Sp}
def a_9 (C:Addr)(sp:Sp)(E:XK)(t:TA):TS:=fun _ σ H=>t σ H fun vs H1=>vs.length<=1000/\∀ ea,H1 ea=none->sp (.ref ea::vs) (upd H1 ea (F6 ea C none)) (fun r H2=>r=.non/\∃ od,H2 ea=some (F6 ea C od)/\E (.ref C) od (ar4 H2 ea)) E0
theorem ab5 (hl:aW9 X E)(M:∃ fI,ExcI X.K X.mg x C fI)(Z:CalleeM X.prog X.w X.K X.mg X.base k C "__init__" ps [] kb sp)(hr:Room n X.A)(hh:X.A.handled=none)(hg:Gl X x)(ha:PA X (e::es) t)(hk:k + 1<=n:=by decide)(hdb:(x == ("__debug__":Str))=false:=by decide)(hx0:X.ex=[]:=by rfl)
  (hst:starEach (e::es) X.env=(false,eval e X.env)::starEach es X.env:=by rfl) (hpl:(backTo cpos (starEach es X.env)).any (·.1)=false:=by rfl):PS X (.Raise (some (.Call (.Name x np) (e::es) [] cpos)) none pos) (a_9 C sp E t):=by
 obtain⟨fI,M⟩:=M;obtain⟨f,fd,F,mt,hkb,b⟩:=Z.ex
 have ef:f=fI:=by
  have z:=mt.at_;rw[M.at_] at z
  cases z
  rfl
 subst ef;obtain⟨ds,hv,hb⟩:=b 0 (Nat.zero_le _);rw[List.drop_zero] at hv
 cases hv
 intro pins s σ H D I h
 have hpl':(backTo cpos (starEach (e::es) X.env)).any (·.1)=false:=by rw[hst];exact hpl
 refine aH1 (C:=C) (fI:=f) hh hpl' (M4 I hg M.mg ⟨rfl,?_⟩ hdb);have hA:=ha cpos pins s σ H _ I h;rw[hst] at hA ⊢;refine Calls.evalArgs_plain ?_;refine thn hA fun us s2 ⟨vs,H2,I2,r2,hlen,q2⟩=>?_
 have hfn:∃ oI,s2.heap.get? f=some oI/\oI.cls=.type "function":=by
  have z:typeIn X.K (.ref f)=some (.type "function"):=beq_iff_eq.mp mt.fn;obtain⟨oI,h1,h2⟩:=Option.map_eq_some_iff.mp (show(X.K.lookup f).map (·.cls)=_ from z);exact⟨oI,I2.kIn _ _ h1,h2⟩
 refine⟨rfl,by rw[<- r2.length];exact Nat.le_of_lt (j6 hlen),aL8 I2.kIn M.exc,hfn,fun h' ea kp hsz ⟨tt,ge⟩=>?_⟩
 have fr:=I2.hok.fresh hsz;have I3:Inv X pins σ (upd H2 ea (F6 ea C none)) { s2 with heap:=h' }:=I2.laid (t':=s2.toks) kp hsz (ar3 ge)
 have hq:=q2 ea fr;have rr:j9 (V.ref ea::vs) (Value.ref ea::us):=.cons rfl r2;have hll:(Value.ref ea::us).length=ps.length:=by rw[<- rr.length];exact F.len _ _ _ _ hq
 have s0n:X.s₀.heap.get? ea=none:=by
  cases z:X.s₀.heap.get? ea with
  | none=>rfl
  | some o =>
   obtain⟨o',e'⟩:=I2.base.there ea o z (by rw[hx0];simp)
   exact absurd (Heap.lt_size e') (Nat.not_lt.mpr hsz)
 refine wpAny_call (codeAny_mono (F.run _ X.stack _ _ ⟨.ref ea::us,[]⟩ (.ref ea::us) _ _ E0 ((hr.mono hk).make C us []) (I3.env0.make C us []) (by have:=hb _ (.ref ea::us) I3.kIn (by rw[append_nil];exact hll);rw[append_nil] at this;exact this) rr hq) fun r s' hq'=>?_)
 cases r with
 | error e=>exact(aw7 (X:=X)) pins σ _ _ e s' I3 hq'
 | ok fl =>
  cases fl with
  | ret u =>
   obtain⟨v,H',I4,rv,ev,od,eH,hE⟩:=I3.after hq';subst ev
   cases (show u=Value.none from rv)
   obtain⟨⟨t',g'⟩,_,_⟩:=(show p6 X.prog X.w H' s'.heap ea (F6 ea C od) from I4.hok ea _ eH);exact⟨rfl,aL8 I4.kIn M.exc,⟨t',od,g'⟩,hl pins σ H' s' ea C od I4 eH s0n hE⟩
  | next=>exact False.elim hq'
  | brk=>exact False.elim hq'
  | cont=>exact False.elim hq'
end
def xeF (X:Cx)(pn:List (Addr×Obj))(E:St->XK):Value->Shared->Prop:=fun e s'=>∃(pins:List (Addr×Obj))(σ:St)(H:Hp)(s1:Shared),Inv (X.pinned pn) pins σ H s1/\CXF X.prog X.w X.stack H s1 (E σ) e s'
abbrev bk2 (X:Cx)(pn:List (Addr×Obj))(E:St->XK):Cx:=(X.pinned pn).wish (xeF X pn E)
section
variable {X:Cx}{pins:List (Addr×Obj)}{σ:St}{H:Hp}{s:Shared}
theorem Q7 {pn:List (Addr×Obj)}{E:St->XK}:ax5 (bk2 X pn E) E:=fun pins σ H s _ _ I c=>⟨pins,σ,H,s,I.unwish,c⟩
end
section
variable {X:Cx}
def bj0 (K:Frag)(c:Value)(i:Nat)(tb:(St->XK)->TS)(th:TS):TS:=fun D σ H=>∃ E:St->XK,tb E D σ H/\∀ σ' c0 d H',E σ' c0 d H'->σ'.length=σ.length/\exmOne K c0 c=some true /\
 ∀(ea C:Addr),c0=.ref C->H' ea=none->th (D.gone i) (σ'.set i (some (.ref ea))) (upd H' ea (Q0 ea C d))
theorem aK5 {x n:Str}{c:Value}{i:Nat}{body:List Stmt}{b₀:Stmt}{suite:List Stmt}{np hpos pos:Pos}{tb:(St->XK)->TS}{th:TS}(hg:Gl X x)(hm:X.mg x=some c)(hN:X.N.Nodup)(hi:X.N[i]? = some n)
  (hl:X.env.scope.names.lookup n=some .local)(hst:X.stack=X.env::X.outer)(hf:X.env.frame=some X.env.locals)(hx0:X.ex=[])
  (hb:∀(pn:List (Addr×Obj))(E:St->XK),PSs (bk2 X pn E) body (tb E))(hs:∀ ea,PSs (hcx X ea) (b₀::suite) th)(hdb:(x == ("__debug__":Str))=false:=by decide) :
  PS X (.Try body [.ExceptHandler (some (.Name x np)) (some n) (b₀::suite) hpos] [] [] pos) (bj0 X.K c i tb th):=by
 intro pins s σ H D I h
 obtain⟨E,h1,h2⟩:=h;have lenσ:=I.len;refine wpAny_Try_except ?_;refine wpAny_mono (hb (X.pn++pins) E [] s σ H D (I.toPinned.wish _) h1) (fun fl s1 q=>?_) (fun e s1 q=>?_)
 ·cases fl with
  | next=>obtain⟨σ',H',J,q⟩:=q;exact wpAny_execs_nil ⟨σ',H',J.unwish.ofPinned,q⟩
  | brk=>obtain⟨σ',H',J,q⟩:=q;exact⟨σ',H',J.unwish.ofPinned,q⟩
  | cont=>obtain⟨σ',H',J,q⟩:=q;exact⟨σ',H',J.unwish.ofPinned,q⟩
  | ret u=>obtain⟨v,σ',H',J,r,q⟩:=q;exact⟨v,σ',H',J.unwish.ofPinned,r,q⟩
 ·obtain⟨ps,σ1,H1,s0,J0,ea,C,a0,B,H2,od,rfl,os,bare,fl,dz0,fy,hok,hE⟩:=q
  have J1:Inv X pins σ1 H1 s0:=J0.ofPinned;obtain⟨lσ,hex,hth⟩:=h2 σ1 _ _ H2 hE
  have he2:H2 ea=none:=by
   cases q:H2 ea with
   | none=>rfl
   | some o=>obtain⟨u,e⟩:=(hok ea o q).at_;rw[fl.2.1] at e;cases e
  have hframes:X.A.frames=some (X.env::X.outer):=hst ▸ I.ok.frames
  have flup:∀{h3:Heap},s1.heap.UpToSlots h3->Fly (frs X.stack) H1 H2 s0.heap B h3:=fun {h3} up=>fy.up fun b hb o e1=>up b o e1 (by
   obtain⟨_,o',q,d⟩:=fl.2.2.1.mem hb
   rw[e1] at q;cases q;exact d)
  have inv:∀{h3:Heap}{t:Nat},s1.heap.UpToSlots h3->B.StaysIn h3->Inv X pins σ1 H2 { s1 with heap:=h3,toks:=t }:=fun {h3 t} up st =>
   J1.call' (s':={ s1 with heap:=h3,toks:=t }) (ch:=[]) os ((flup up).un st) (hok.kept st) bare (fun _ z=>nomatch z)
  refine aQ0 hframes hf (hst ▸ fl) dz0 fun h4 held up4 dz4=>?_;refine be2 held dz4 fun h5 fl5 up5 dz5=>?_;have up45:=up4.trans up5;have I5:Inv X pins σ1 H2 { s1 with heap:=h5 }:=inv (t:=s1.toks) up45 fl5.1
  obtain⟨ob,hob,hobc⟩:=fl5.there;refine wpAny_handleBy_cons (codeAny_handlers_test (M4 (X:=hcx X ea) (I5.toH ea) hg hm ?_ hdb)) (by intro q;cases q)
  have LT:PySem.W.Looks (model X.prog X.w) h5 (typeOf (.ref ea)) (.ref C):=hobc ▸ (PySem.W.Looks.ld hob).andThen .now;refine(PySem.W.exm_one (M:=model X.prog X.w) (K:=X.K) (h:=h5) I5.kIn LT hex).here ?_;refine codeAny_handlers_suite_as ?_;refine as2 fl5 dz5 fun h6 fl6 up6 dz6=>?_;have I6:Inv X pins σ1 H2 { s1 with heap:=h6 }:=inv (t:=s1.toks) (up45.trans up6) fl6.1
  obtain⟨oe,ws,hoe,hoec,hoed,_⟩:=fl6.first
  have hodd:oe.dict=od:=by
   obtain⟨o2,z1,z2⟩:=dz6;rw[hoe] at z1
   cases z1
   exact z2
  have new:p6 X.prog X.w (upd H2 ea (Q0 ea C od)) h6 ea (Q0 ea C od):=⟨⟨oe,ws,hoe,hoec,hoed,hodd⟩,⟨oe,hoe⟩,fun g1 g2 ⟨o,vs,e1,e2,e3,e4⟩ k=>⟨o,vs,k _ e1,e2,e3,e4⟩⟩
  have none0:X.s₀.heap.get? ea=none:=by
   cases q:X.s₀.heap.get? ea with
   | none=>rfl
   | some o =>
    exfalso
    have hx:ea∉X.ex:=by rw[hx0];simp
    obtain⟨o1,e1⟩:=J1.base.there ea o q hx
    by_cases hb:ea∈frs X.stack
    ·obtain⟨_,o',q',d⟩:=fl6.2.2.1.mem (hst ▸ hb)
     rw[hoe] at q';cases q';exact d _ hoed
    ·obtain⟨⟨o',q'⟩,_⟩:=fy.kp ea o1 e1 hb
     rw[fl.2.1] at q';cases q'
  have ne:∀{b:Addr}{u:HO},H2 b=some u->b≠ea:=fun {b u} e z=>by rw[z,he2] at e;cases e
  have nL:X.env.locals≠ea:=fun z=>by
   obtain⟨m,⟨o,es,ep,ho,hd,_⟩,_⟩:=I6.loc;rw[z] at ho;have ho2:h6.get? ea=some o:=ho;rw[hoe] at ho2;cases ho2;rw[hoed] at hd;cases hd
  have I7:Inv X pins σ1 (upd H2 ea (Q0 ea C od)) { s1 with heap:=h6 }:=by
   refine⟨I6.ok,I6.os,I6.bare,⟨I6.base.keep,I6.base.slot,fun b o e n hx=>?_,I6.base.there,fun b xs e=>?_,fun b o u e=>?_,fun b ps e=>?_⟩,I6.loc,I6.cell,?_,fun y c e=>?_,fun p hp=>?_,fun b u e=>?_,I6.len⟩
   ·rw[h7 (fun z=>by rw[z,none0] at e;cases e)];exact I6.base.free b o e n hx
   ·have q:=I6.base.tups b xs e;rw[h7 (ne q)];exact q
   ·have q:=I6.base.frzs b o u e;rw[h7 (ne q)];exact q
   ·obtain⟨m,q⟩:=I6.base.tbls b ps e;exact⟨m,by rw[h7 (ne q)];exact q⟩
   ·rw[h7 nL];exact I6.free
   ·have nC:c≠ea:=fun z=>by
     obtain⟨v,o,ho,hd⟩:=I6.cell y c e;rw[z] at ho;have ho2:h6.get? ea=some o:=ho;rw[hoe] at ho2;cases ho2;rw[hoed] at hd;cases hd
    rw[h7 nC];exact I6.freeC y c e
   ·obtain⟨e,n,ne1,nf,d⟩:=I6.pin p hp
    obtain⟨e0,n0,_,_,_⟩:=J1.pin p hp
    have np:p.1≠ea:=fun z=>by
     have hb:p.1∉frs X.stack:=fun hm=>(mem_cons.mp (J1.stkSub _ hm)).elim ne1 nf;have q:=(fy.kp p.1 p.2 e0 hb).2 n0;rw[z,fl.2.1] at q;cases q
    exact⟨e,by rw[h7 np];exact n,ne1,nf,d⟩
   ·by_cases hb:b=ea
    ·subst hb;rw[d6] at e;cases e;exact new
    ·rw[h7 hb] at e
     exact(I6.hok b u e).stay (fun c v _ q=>q) (fun c q=>by rw[h7 (ne q)];exact q) fun c xs q=>by rw[h7 (ne q)];exact q
  refine ai2 (X:=hcx X ea) (I7.toH ea) hN hi (.inl hl) (v:=.ref ea) rfl (fun s7 I8=>?_) (.inr hl);refine wpAny_mono (hs ea pins s7 _ _ (D.gone i) I8 (hth ea C rfl he2)) (fun fl8 s8 q8=>?_) fun _ _ z=>z.elim
  cases fl8 with
  | next =>
   obtain⟨σ',H',J,q⟩:=q8;exact af6 (J.ofH I.ok) hN hi hl fun s9 J9=>⟨_,H',J9,q⟩
  | brk =>
   obtain⟨σ',H',J,q⟩:=q8;exact af6 (J.ofH I.ok) hN hi hl fun s9 J9=>⟨_,H',J9,q⟩
  | cont =>
   obtain⟨σ',H',J,q⟩:=q8;exact af6 (J.ofH I.ok) hN hi hl fun s9 J9=>⟨_,H',J9,q⟩
  | ret u =>
   obtain⟨v,σ',H',J,r,q⟩:=q8;exact af6 (J.ofH I.ok) hN hi hl fun s9 J9=>⟨v,_,H',J9,r,q⟩
end
theorem aK9 {K:Frag}{C fI:Addr}(q:Y9 K C fI=true)(sa:findIn K (.ref C) "__setattr__" = some (some (.builtin "object.__setattr__"))):ExcN K C:=by
 have key:∃ cd,clsIn K C=some cd/\Q9 cd.mro=true/\cd.hasDict=true:=by
  unfold Y9 at q
  split at q
  ·rename_i dd cd sl ho
   split at q
   ·rename_i C' bm k0 k1 k2 k3 n k5 hm hs
    simp only[Bool.and_eq_true,beq_iff_eq,Bool.not_eq_true'] at q
    obtain⟨⟨⟨⟨⟨⟨⟨rfl,rfl⟩,hdel⟩,hdc⟩,ht⟩,hok⟩,hni⟩,hrf⟩:=q;refine⟨cd,?_,?_,hdc⟩
    ·unfold clsIn
     rw[ho]
    ·rw[hm]
     exact hrf
   ·cases q
  ·cases q
 refine⟨key,sa,?_⟩;obtain⟨cd,h1,_,h2⟩:=key;unfold PySem.W.hasDictIn;rw[h1];exact h2
theorem aX3 {H:Hp}{e:Addr}{o:HO}(h:H e=none):ar4 (upd H e o) e=H:=by
 funext b
 by_cases z:b=e
 ·rw[z,ap9,h]
 ·rw[B4 z,h7 z]
theorem ar2 {X:Cx}{E:XK}(hl:aW9 X E)(hx0:X.ex=[]:=by rfl):bj4 X E:=by
 intro pins σ H s C ea h' args I hm hE
 obtain⟨t,ge,_⟩:=hm.there
 have he2:H ea=none:=by
  cases q:H ea with
  | none=>rfl
  | some o=>obtain⟨u,e⟩:=(I.hok ea o q).at_;rw[hm.new] at e;cases e
 have s0n:X.s₀.heap.get? ea=none:=by
  cases z:X.s₀.heap.get? ea with
  | none=>rfl
  | some o =>
   obtain⟨o',e'⟩:=I.base.there ea o z (by rw[hx0];simp)
   rw[hm.new] at e'
   cases e'
 have I6:Inv X pins σ H { s with heap:=h' }:=I.kept (t':=s.toks) hm.keeps
 have ne:∀{b:Addr}{u:HO},H b=some u->b≠ea:=fun {b u} e z=>by rw[z,he2] at e;cases e
 have nL:X.env.locals≠ea:=fun z=>by
  obtain⟨m,⟨o,es,ep,ho,hd,_⟩,_⟩:=I.loc;rw[z,hm.new] at ho
  cases ho
 have I7:Inv X pins σ (upd H ea (F6 ea C none)) { s with heap:=h' }:=by
  refine⟨I6.ok,I6.os,I6.bare,⟨I6.base.keep,I6.base.slot,fun b o e n hx=>?_,I6.base.there,fun b xs e=>?_,fun b o u e=>?_,fun b ps e=>?_⟩,I6.loc,I6.cell,?_,fun y c e=>?_,fun p hp=>?_,fun b u e=>?_,I6.len⟩
  ·rw[h7 (fun z=>by rw[z,s0n] at e;cases e)];exact I6.base.free b o e n hx
  ·have q:=I6.base.tups b xs e;rw[h7 (ne q)];exact q
  ·have q:=I6.base.frzs b o u e;rw[h7 (ne q)];exact q
  ·obtain⟨m,q⟩:=I6.base.tbls b ps e;exact⟨m,by rw[h7 (ne q)];exact q⟩
  ·rw[h7 nL];exact I6.free
  ·have nC:c≠ea:=fun z=>by
    obtain⟨v,o,ho,hd⟩:=I.cell y c e;rw[z,hm.new] at ho
    cases ho
   rw[h7 nC];exact I6.freeC y c e
  ·obtain⟨e,n,ne1,nf,d⟩:=I6.pin p hp
   obtain⟨e0,n0,_,_,_⟩:=I.pin p hp
   have np:p.1≠ea:=fun z=>by
    rw[z,hm.new] at e0
    cases e0
   exact⟨e,by rw[h7 np];exact n,ne1,nf,d⟩
  ·by_cases hb:b=ea
   ·subst hb;rw[d6] at e;cases e;exact ar3 ge
   ·rw[h7 hb] at e
    exact(I6.hok b u e).stay (fun c v _ q=>q) (fun c q=>by rw[h7 (ne q)];exact q) fun c xs q=>by rw[h7 (ne q)];exact q
 exact hl pins σ _ _ ea C none I7 d6 s0n (by rw[aX3 he2];exact hE)
end L2
namespace L2
open PySem PyProof.Rows
section
variable {prog:Program}{w:World}{A:Around}{E:Value->Shared->Prop}{s:Shared}
set_option maxHeartbeats 3200000 in
theorem ar9 {l:Addr}{items:Array Value}{ns:List Int}{Q:Value->Shared->Prop}(hh:A.handled=none)(hl:s.heap.IsTuple l items)(hi:IntsAre items.toList ns)(hb:items.size + 1 < scanBound)
  (h:∀(h':Heap)(tk:Nat),U4 prog w (fun i=>ns.getD i 0) items.size h' s.heap.objs.size->(∀ b o,b < s.heap.objs.size->s.heap.get? b=some o->h'.get? b=some o)->Q (.ref s.heap.objs.size) { s with heap:=h',toks:=tk }) :
  wpAny (model prog w) A (call (.type "set") [.ref l]) Q E s:=by
 obtain⟨c,tl,hmro⟩:=PySem.F.called_set.mro;have hmade:=PySem.F.called_set.made;have hsub:=PySem.F.called_set.sub;refine wpAny_call (codeAny_of_tree ?_)
 show wpAny _ _ (callAny (.type "set") _) _ _ _
 refine wpAny_pure ⟨Code.quiet_builtin _ (by decide +kernel),codeAny_builtin PySem.F.entry_type_call ?_⟩
 rw[Around.under_plain (weight_type_call_type "set" [.ref l] []) rfl];have h1:=PySem.F.called_set.notType;have h2:=PySem.F.called_set.canCreate;have hct:=PySem.F.typeCall_set_1 (.ref l)
 repeat (any_goals (first | assumption | wp_step))
 refine codeAny_mono (ad6 (.ref l) (E:=E) (Q:=fun obj s₁=>obj=.ref s.heap.objs.size/\s₁ = { s with heap:=s.heap.push (K0 w) }) ⟨rfl,rfl⟩) fun r s₁ hr=>?_
 cases r with
 | error e=>exact hr
 | ok fl =>
  cases fl with
  | ret obj =>
   obtain⟨rfl,rfl⟩:=hr;have hS:(s.heap.push (K0 w)).get? s.heap.objs.size=some (K0 w):=Heap.get?_push_size _ rfl;have hT:Shared.TypeIs { s with heap:=s.heap.push (K0 w) } (.ref s.heap.objs.size) "set":=⟨_,hS,rfl⟩
   have hli:=PySem.F.called_set.init.lookup;have hbi:=PySem.F.called_set.init.bind (.ref s.heap.objs.size)
   repeat (any_goals (first | assumption | wp_step))
   refine codeAny_mono (codeAny_call_builtin (R:=wants (fun r s₂=>r=.none/\∃ h' tk,s₂ = { s with heap:=h',toks:=tk }/\U4 prog w (fun i=>ns.getD i 0) items.size h' s.heap.objs.size /\
     (∀ b o,b < s.heap.objs.size->s.heap.get? b=some o->h'.get? b=some o)) E) PySem.F.called_set.init.plain PySem.F.entry_set_init (check_set_init_1 hT ?_)) fun r₂ s₂ hr₂=>?_
   ·obtain⟨ol,hol,hcl,nl,hdl⟩:=id hl
    have hol':(s.heap.push (K0 w)).get? l=some ol:=Heap.get?_push_of_some _ hol;have hTl:Shared.TypeIs { s with heap:=s.heap.push (K0 w) } (.ref l) "tuple":=⟨ol,hol',hcl⟩
    have hsls:=PySem.F.sub_tuple_set;have hslf:=PySem.F.sub_tuple_frozenset;have hne:(Value.type "tuple" == Value.type "dict")=false:=by decide
    have hl1:(s.heap.push (K0 w)).IsTuple l items:=hl.at fun o e=>Heap.get?_push_of_some _ e;unfold Builtin.«set.__init__» noKeywords Builtin.Frozenset.updateFrom;generalize hPI:pyIter=PI
    wp_walk
    subst hPI;refine wpAny_pyIter_tuple hl1 (wpAny_bind (wpAny_runValue ?_));have hlS:l < s.heap.objs.size:=Heap.lt_size hol;have hneI:l≠(s.heap.push (K0 w)).objs.size:=by rw[Heap.size_push];exact Nat.ne_of_lt (Nat.lt_succ_of_lt hlS)
    have hSf:s.heap.objs.size∉[(s.heap.push (K0 w)).objs.size,l]:=by
     rw[Heap.size_push]
     simp only[mem_cons,not_mem_nil,or_false,not_or]
     exact⟨Nat.ne_of_lt (Nat.lt_succ_self _),Nat.ne_of_gt hlS⟩
    refine aA3 ((Walks.tuple (by simpa using hh) _ l hneI items).toS) s.heap.objs.size hSf (fun i=>ns.getD i 0) (fun i v hv=>PyProof.Rows.IntsAre.int_at hi i v (by rw[Array.getElem?_toList];exact hv)) hb (items.size - 0) 0 _ (by lia) (Nat.zero_le _)
     ⟨⟨_,Heap.get?_push_size _ rfl,rfl,rfl⟩,(hl1.at fun o e=>Heap.get?_push_of_some _ e)⟩ ?hS0 ?hR
    case hS0 =>
     exact((M9.new (knd:=intKind prog w) s.heap rfl).congr (fun _=>rfl) rfl).of_get fun o e=>Heap.get?_push_of_some _ e
    case hR =>
     intro s' m x
     obtain⟨h',g',d',tk',os'⟩:=s';have eg:g'=s.gens:=m.gens;have ed:d'=s.drawn:=m.drawn;have eo:os'=s.os:=m.os;subst eg ed eo
     show wpAny _ _ _ _ _ _
     refine wpAny_pure ?_
     show wpAny _ _ (ret Value.none) _ _ _
     refine wpAny_pure ⟨rfl,h',tk',rfl,x,fun b o q e=>?_⟩;refine m.heap b o ?_ (Heap.get?_push_of_some _ (Heap.get?_push_of_some _ e))
     simp only[mem_cons,not_mem_nil,or_false,not_or]
     refine⟨Nat.ne_of_lt q,?_⟩;rw[Heap.size_push];exact Nat.ne_of_lt (Nat.lt_succ_of_lt q)
   ·cases r₂ with
    | error e=>exact hr₂
    | ok fl₂ =>
     cases fl₂ with
     | ret r =>
      obtain⟨rfl,h',tk,rfl,x,kp⟩:=hr₂
      repeat (any_goals (first | assumption | wp_step))
      exact h _ _ x kp
     | _=>exact hr₂.elim
  | _=>exact hr.elim
end
end L2
namespace L2
open PySem PySem.Spec PyProof.Rows
section
variable {X:Cx}
def bi4 (K:Frag)(P:Program)(w:World):List V->Hp->VK->Prop:=fun xs H Q=>∃(p:Addr)(ns:List Int),xs=[.ref p]/\SqT K H p (ns.map V.int)/\ns.length < 4000/\∀ l,H l=none->Q (.ref l) (upd H l (aM9 P w l ns))
theorem aC8 (K:Frag)(P:Program)(w:World)(hc:X.calm=true)(h:X.K=K:=by rfl)(hP:X.prog=P:=by rfl)(hw:X.w=w:=by rfl):z7 X (.type "set") (bi4 K P w):=by
 subst h hP hw
 intro pins s σ H xs us Q I r h
 obtain⟨p,ns,rfl,hq,hlt,q⟩:=h;obtain⟨u,rfl,rx⟩:=K5 r
 cases rx
 obtain⟨its,r',pl,hz⟩:=I.tuple hq;have hi:IntsAre its ns:=C5 r';have hlen:its.length=ns.length:=hi.length;refine ar9 (I.ok.hd hc) (show s.heap.IsTuple p its.toArray from pl) (ns:=ns) (by simpa using hi) (by show its.toArray.size + 1 < 4096;rw[size_toArray];lia) fun h' tk x kp=>?_
 have x':M9 (intKind X.prog X.w) h' s.heap.objs.size (fun k=>decide (k∈ns)) (w9 ns).length:=x.congr (fun k=>by
  rw[size_toArray,hlen];exact R9 ns k) (by rw[size_toArray,hlen];exact Z7 ns)
 have he:∃ o,h'.get? s.heap.objs.size=some o:=let ⟨o,_,_,_,e,_⟩:=x';⟨o,e⟩;exact⟨.ref s.heap.objs.size,_,I.laid (t':=tk) (o:=aA0 X s.heap.objs.size ns) (fun b o e=>kp b o (Heap.lt_size e) e) (Nat.le_refl _) ⟨x',he,fun h1 h2 y k=>y.of_get k⟩,rfl,q _ (I.hok.fresh (Nat.le_refl _))⟩
theorem bd5 {pins:List (Addr×Obj)}{σ:St}{H:Hp}{s:Shared}{x:V}{u t:Value}(I:Inv X pins σ H s)(rx:o5 x u)(ty:TyOf X.K H x t):∃ Hh:Heap->Prop,PySem.W.KitX X.K u t Hh/\Hh s.heap/\u≠.builtin "__main__.__loader__#opaque":=by
 cases ty with
 | non=>cases (show u=Value.none from rx);exact⟨_,PySem.W.kitx_none,True.intro,fun z=>nomatch z⟩
 | bl y=>cases (show u=Value.bool y from rx);exact⟨_,PySem.W.kitx_bool,True.intro,fun z=>nomatch z⟩
 | int i=>obtain⟨t,q⟩:=(show ∃ t,u=Value.int i t from rx);cases q;exact⟨_,PySem.W.kitx_int,True.intro,fun z=>nomatch z⟩
 | str y=>obtain⟨t,q⟩:=(show ∃ t,u=Value.str y t from rx);cases q;exact⟨_,PySem.W.kitx_str,True.intro,fun z=>nomatch z⟩
 | flt y=>obtain⟨t,q⟩:=(show ∃ t,u=Value.float y t from rx);cases q;exact⟨_,PySem.W.kitx_float,True.intro,fun z=>nomatch z⟩
 | @lst a xs ea =>
  cases (show u=Value.ref a from rx)
  obtain⟨_,_,n,_,h1⟩:=(show p6 X.prog X.w H s.heap a (.lst xs) from I.hok a _ ea);exact⟨_,PySem.W.kitx_list,⟨_,h1,rfl⟩,fun z=>nomatch z⟩
 | @frz a ob xs ea =>
  cases (show u=Value.ref a from rx)
  obtain⟨_,_,_,n,_,h1⟩:=(show p6 X.prog X.w H s.heap a (.frz ob (.lst xs)) from I.hok a _ ea);exact⟨_,PySem.W.kitx_list,⟨_,h1,rfl⟩,fun z=>nomatch z⟩
 | @tup a xs ea =>
  cases (show u=Value.ref a from rx)
  obtain⟨_,_,_,p⟩:=(show p6 X.prog X.w H s.heap a (.tup xs) from I.hok a _ ea);obtain⟨o,h1,h2,_⟩:=p;exact⟨_,PySem.W.kitx_tuple,⟨o,h1,h2⟩,fun z=>nomatch z⟩
 | @dK a kvs ea =>
  cases (show u=Value.ref a from rx)
  obtain⟨_,_,vs,_,p⟩:=(show p6 X.prog X.w H s.heap a (.dK kvs) from I.hok a _ ea);obtain⟨o,es,ep,h1,h2,_⟩:=p;exact⟨_,PySem.W.kitx_dict,⟨o,h1,h2.1⟩,fun z=>nomatch z⟩
 | @dT a kvs ea =>
  cases (show u=Value.ref a from rx)
  obtain⟨_,_,xs,_,o,es,ep,h1,h2,_⟩:=(show p6 X.prog X.w H s.heap a (.dT kvs) from I.hok a _ ea);exact⟨_,PySem.W.kitx_dict,⟨o,h1,h2.1⟩,fun z=>nomatch z⟩
 | @ins a C dx fs ea cl ha hn htk hm =>
  cases (show u=Value.ref a from rx)
  obtain⟨mA,O,_⟩:=aa5 I.hok ea;obtain⟨od,J,_⟩:=O.look;exact⟨_,PySem.W.kitx_own (cl.get _) cl.hd ha hn htk hm,J,fun z=>nomatch z⟩
def aZ9 (K:Frag):List V->Hp->VK->Prop:=fun xs H Q=>∃ v p t T1 T2 b1 b2,xs=[v,.ref p]/\H p=some (.tup [.ty T1,.ty T2])/\TyOf K H v t/\kitOne K t (.type T1)=some b1/\kitOne K t (.type T2)=some b2/\Q (.bl (b1 || b2)) H
theorem al8 (K:Frag)(h:X.K=K:=by rfl):z7 X (.builtin "isinstance") (aZ9 K):=by
 subst h
 intro pins s σ H xs us Q I r h
 obtain⟨v,p,t,T1,T2,b1,b2,rfl,hp,ty,e1,e2,q⟩:=h;obtain⟨u,u',rfl,r1,r2⟩:=ap1 r
 cases r2
 obtain⟨Hh,Z,zh,hx⟩:=bd5 I r1 ty;obtain⟨_,its,rv,pl⟩:=(show p6 X.prog X.w H s.heap p (.tup [.ty T1,.ty T2]) from I.hok p _ hp);obtain⟨w1,w2,rfl,q1,q2⟩:=ap1 rv
 cases q1
 cases q2
 obtain⟨⟨oc,od,dat,sl⟩,g1,g2,n,g3⟩:=pl
 simp only at g2 g3
 subst g2 g3
 have ka:PySem.W.kitAny X.K t [.type T1,.type T2]=some (b1 || b2):=by
  unfold PySem.W.kitAny;rw[e1]
  cases b1 with
  | true=>rfl
  | false =>
   show PySem.W.kitAny X.K t [.type T2]=some b2
   unfold PySem.W.kitAny;rw[e2]
   cases b2 <;> rfl
 exact PySem.W.kia_tup Z I.kIn zh g1 ka hx fun tk=>⟨.bl (b1 || b2),H,I.tok _,rfl,q⟩
def a00:V->Bool
 | .int _ | .bl _ | .non | .ref _=>true
 | _=>false
def a43 (K:Frag):R2:=fun x y H Q=>∃(a b:Addr)(xs:List V),x=.ref a/\y=.ref b/\SqL K H a (xs)/\SqL K H b xs/\xs.all a00=true/\Q (.bl false) H
theorem a46 {A:Around}{s:Shared}{x:V}{u v:Value}(h:a00 x=true)(ru:o5 x u)(rv:o5 x v):SeqAt.EqAt A s u v true:=by
 cases x with
 | int i =>
  obtain⟨t,rfl⟩:=ru;obtain⟨t',rfl⟩:=rv
  have:=SeqAt.EqAt.int_int (A:=A) (s:=s) i t i t'
  rwa [beq_self_eq_true] at this
 | bl b=>cases ru;cases rv;exact SeqAt.EqAt.same _
 | non=>cases ru;cases rv;exact SeqAt.EqAt.same _
 | ref a=>cases ru;cases rv;exact SeqAt.EqAt.same _
 | _=>cases h
theorem ah0 (K:Frag)(hu:X.A.units < cLine)(h:X.K=K:=by rfl):OpR X (compareOp .NotEq) (a43 K):=by
 subst h
 intro pins s σ H x y v u Q I rx ry h
 obtain⟨a,b,xs,rfl,rfl,ha,hb,hr,q⟩:=h
 cases rx
 cases ry
 obtain⟨us,r1,p1,_⟩:=I.list ha;obtain⟨vs,r2,p2,_⟩:=I.list hb;have l1:=r1.length;have l2:=r2.length;refine SeqAt.RcNeAt.lists (e:=fun j=>true) p1.isList p2.isList (by simp only[size_toArray];lia) (by lia) (fun j h1 h2=>?_) X.prog X.w X.xe _ ?_
 ·rw[size_toArray] at h1 h2
  have e1:xs[j]? = some (xs[j]'(by lia)):=List.getElem?_eq_getElem _
  obtain⟨u,w1,s1⟩:=r1.get e1;obtain⟨v,w2,s2⟩:=r2.get e1;have z1:us.toArray[j]=u:=by rw[List.getElem?_eq_getElem h1] at w1;simpa using w1
  have z2:vs.toArray[j]=v:=by rw[List.getElem?_eq_getElem h2] at w2;simpa using w2
  rw[z1,z2];exact a46 (all_eq_true.mp hr _ (getElem_mem _)) s1 s2
 ·have:((List.range us.toArray.size).all fun _=>true)=true:=by simp
  rw[this];exact⟨.bl false,H,I,rfl,q⟩
end
end L2
namespace L2
open PySem PySem.Spec PyProof.Rows PySem.W
section
variable {X:Cx}{C:Addr}{x:Str}{p pos:Pos}{e:Expr}{ta tb:TE}
def be7 (C:Addr):TE:=fun _ H Q=>∀ x dx,H x=none->H dx=none->dx≠x->Q (.ref x) (upd (upd H dx (.own x)) x (.ins C dx []))
theorem Z5 (M:Made X.K X.mg x C)(hi:findIn X.K (.ref C) "__init__" = some (some (.builtin "object.__init__")))(hg:Gl X x)(hdb:(x == ("__debug__":Str))=false:=by decide) :
  PE X (.Call (.Name x p) [] [] pos) (be7 C):=by
 intro pins s σ H Q I h
 refine wpAny_Call_Name_kw (M4 I hg M.mg ?_ hdb);refine PySem.W.callWith_K0 I.kIn M.kp ?_;have hq:=h (s.heap.objs.size + 1) s.heap.objs.size (I.hok.fresh (Nat.le_succ _)) (I.hok.fresh (Nat.le_refl _)) (Nat.ne_of_lt (Nat.lt_succ_self _));have I2:=Inv.made (C:=C) I;have Y:=makes_of (M:=model X.prog X.w) I.kIn M.makes;have lf:=looks_findIn (M:=model X.prog X.w) I.kIn hi;refine wpAny_call ?_;have k:∀ b o,s.heap.get? b=some o->((s.heap.push emptyDict).push (instObj C s.heap.objs.size)).get? b=some o:=fun b o e=>Heap.get?_push_of_some _ (Heap.get?_push_of_some _ e);have hx:((s.heap.push emptyDict).push (instObj C s.heap.objs.size)).get? (s.heap.objs.size + 1)=some (instObj C s.heap.objs.size):=by heap_get
 have t1:Looks (model X.prog X.w) ((s.heap.push emptyDict).push (instObj C s.heap.objs.size)) (typeOf (.ref (s.heap.objs.size + 1))) (.ref C):=(Looks.ld hx).andThen .now;have t2:Looks (model X.prog X.w) ((s.heap.push emptyDict).push (instObj C s.heap.objs.size)) (isInstance (.ref (s.heap.objs.size + 1)) (.type "object")) true:=t1.andThen (Y.top.keeps k);obtain⟨hh,g,d,t,os⟩:=s;refine make_core Y lf (fun self=>Looks.of_pure (oi_bind self)) (.inr ⟨rfl,rfl⟩) ?_;refine codeAny_call_builtin oi_plain entry_oi (@check_slot (model X.prog X.w) _ _ _ "object.__init__" "object" "__init__" (.ref (hh.objs.size + 1)) [] [] _ oi_kind oi_split t2 (oi_args (.ref (hh.objs.size + 1))) ?_)
 show wpAny _ _ (Builtin.«object.__init__» ⟨[Value.ref (hh.objs.size + 1)],[]⟩) _ _ _
 rw[oi_run];exact wpAny_pure (And.intro rfl ⟨V.ref (hh.objs.size + 1),_,I2,rfl,hq⟩)
def bh0 (ta tb:TE):TE:=fun σ H Q=>ta σ H Q\/tb σ H Q
theorem W4 (ha:PE X e ta)(hb:PE X e tb):PE X e (bh0 ta tb):=fun pins s σ H Q I h=>h.elim (ha pins s σ H Q I) (hb pins s σ H Q I)
end
section
variable {X:Cx}{C:Addr}{x:Str}{p pos:Pos}{e:Expr}{es:List Expr}{t:TA}{k n:Nat}{ps:List Str}{dvs:List V}{kb:FuncData->Prop}{sp:Sp}
theorem a47 (Z:CalleeM X.prog X.w X.K X.mg X.base k C "__init__" ps dvs kb sp)(M:Made X.K X.mg x C)(hr:Room n X.A)(hg:Gl X x)(ha:PA X (e::es) t)(hk:k + 1<=n:=by decide)(hdb:(x == ("__debug__":Str))=false:=by decide)
  (he:starEach (e::es) X.env=(false,eval e X.env)::starEach es X.env:=by rfl) (hpl:(backTo pos (starEach es X.env)).any (·.1)=false:=by rfl) :
  PE X (.Call (.Name x p) (e::es) [] pos) (aJ2 C sp [] E0 t):=by
 obtain⟨f,fd,F,mt,hkb,b⟩:=Z.ex;obtain⟨ds,hv,hb⟩:=b dvs.length (Nat.le_refl _);rw[drop_length] at hv
 cases hv
 exact a89 ⟨M.makes,mt.at_,mt.fn,M.kp⟩ F (hr.mono hk) hg M.mg hb .nil aw7 ha hdb he hpl
end
end L2
namespace L2
open PySem PySem.Spec PyProof.Rows
section
variable {prog:Program}{w:World}{A:Around}{E:Value->Shared->Prop}{s:Shared}
theorem ax2 {it:Addr}{vs:List Value}{Q:List Value->Shared->Prop}{o:Obj}{n:Nat}(ho:s.heap.get? it=some o)(hc:o.cls=.type "tuple")(hd:o.data=.seq vs.toArray n)
  (h:Q vs { s with heap:=(s.heap.push (seqObj "list" #[] 0)).update s.heap.objs.size (Obj.mapSeq (·++vs.toArray)) })(hsz:vs.length<=sizeLine):wpAny (model prog w) A (collect (.ref it)) Q E s:=by
 unfold collect;refine wpAny_bind (wpAny_runValue (codeAny_builtin F.entry_proto_collect ?_));rw[Around.under_plainId F.plain_proto_collect _]
 show wpAny _ A.in1 (newList [] >>= fun l=>again (.builtin "list.__iadd__" ⟨[l,.ref it],[]⟩)) _ _ s
 refine wpAny_bind (wpAny_newObj_type ?_);refine wpAny_pure ⟨plainId_quiet F.plain_list_iadd _,codeAny_builtin F.entry_list_iadd ?_⟩;rw[Around.under_plainId F.plain_list_iadd _]
 show wpAny _ A.in1 (Builtin.List.listExtendWith (.ref s.heap.objs.size) (.ref it) (.ref s.heap.objs.size)) _ _ _
 have hS:(s.heap.push (seqObj "list" #[] 0)).get? s.heap.objs.size=some (seqObj "list" #[] 0):=Heap.get?_push_size _ rfl
 have fin':wpAny (model prog w) A (match Value.ref s.heap.objs.size with
   | Value.ref a=>do
    match (<- load a).data with
     | Data.seq xs _=>pure xs.toList
     | _=>unsupported "internal:collect"
   | _=>unsupported "internal:collect") Q E { s with heap:=(s.heap.push (seqObj "list" #[] 0)).update s.heap.objs.size (Obj.mapSeq (·++vs.toArray)) }:=by
  show wpAny _ A (load s.heap.objs.size >>= _) _ _ _
  refine wpAny_bind (wpAny_load (get?_update_seq hS _) ?_)
  show wpAny _ _ (pure ((#[]:Array Value)++vs.toArray).toList) Q E _
  rw[show((#[]:Array Value)++vs.toArray).toList=vs by simp]
  exact wpAny_pure h
 refine wpAny_mono (wpAny_extend_seq (hsz:=by simpa using hsz) (A:=A) (R:=fun r s'=>r=.ok (.ret (.ref s.heap.objs.size))/\s' = { s with heap:=(s.heap.push (seqObj "list" #[] 0)).update s.heap.objs.size (Obj.mapSeq (·++vs.toArray)) })
  (s:={ s with heap:=s.heap.push (seqObj "list" #[] 0) }) _ it _ 0 (.inr rfl) hS (Heap.get?_push_of_some _ ho) hc hd ⟨rfl,rfl⟩) (fun fin s' h=>?_) (fun e s' h=>?_)
 ·cases fin with
  | done f =>
   obtain⟨e,rfl⟩:=h
   cases e
   exact fin'
  | again c'=>exact⟨h.1,codeAny_mono h.2 fun r s'' hr=>by obtain⟨rfl,rfl⟩:=hr;exact fin'⟩
 ·exact absurd h.1 (by simp)
theorem av5 {l:Addr}{vs:List Value}{ns:List Int}{Q:Value->Shared->Prop}{o:Obj}{n:Nat}(ho:s.heap.get? l=some o)(hc:o.cls=.type "tuple")(hd:o.data=.seq vs.toArray n)(hI:IntsAre vs ns)(h64:vs.length < 64)
  (h:∀(out:Array Value)(ns':List Int),IntsAre out.toList ns'->ns'.Perm ns->ns'.Pairwise (·<=·)->Q (.ref (s.heap.objs.size + 1)) { s with heap:=sortedAll s.heap vs out }) :
  wpAny (model prog w) A (call (.builtin "sorted") [.ref l]) Q E s:=by
 refine Calls.call_function_entry kind_sorted plain_sorted entry_sorted (args_sorted1 _) ?_;unfold Builtin.«sorted»;refine wpAny_bind (m:=checkCount "sorted" 1 1 _) (wpAny_pure ?_);refine wpAny_bind (ax2 ho hc hd ?_ (Nat.le_trans (Nat.le_of_lt h64) (by decide)))
 refine wpAny_bind (wpAny_newList ?_ (Nat.le_trans (Nat.le_of_lt h64) (by decide)))
 have hsz:((s.heap.push (seqObj "list" #[] 0)).update s.heap.objs.size (Obj.mapSeq (·++vs.toArray))).objs.size=s.heap.objs.size + 1:=by
  rw[Heap.size_update,size_push']
 have hoL:(((s.heap.push (seqObj "list" #[] 0)).update s.heap.objs.size (Obj.mapSeq (·++vs.toArray))).push (seqObj "list" vs.toArray 0)).get? (s.heap.objs.size + 1)=some (seqObj "list" vs.toArray 0):=by
  rw[<- hsz];exact Heap.get?_push_size _ rfl
 show wpAny _ _ _ _ _ { s with heap:=((s.heap.push (seqObj "list" #[] 0)).update s.heap.objs.size (Obj.mapSeq (·++vs.toArray))).push (seqObj "list" vs.toArray 0) }
 rw[hsz];refine wpAny_bind (wpAny_holding (wpAny_call_entry slot_list_sort ⟨_,hoL,rfl⟩ entry_list_sort (list_sort_tree hoL hI h64 fun out ns' a1 a2 a3=>⟨_,rfl,?_⟩) (args_list_sort _)));exact wpAny_pure ⟨_,rfl,h out ns' a1 a2 a3⟩
end
section
variable {X:Cx}
def aZ0 (K:Frag):List V->Hp->VK->Prop:=fun xs H Q=>∃(p:Addr)(ns:List Int),xs=[.ref p]/\(SqT K H p (ns.map V.int)\/SqL K H p (ns.map V.int))/\ns.length < 64/\∀ ns':List Int,ns'.Perm ns->ns'.Pairwise (·<=·)->∀ l,H l=none->Q (.ref l) (upd H l (.lst (ns'.map V.int)))
theorem O3 (K:Frag)(h:X.K=K:=by rfl):z7 X (.builtin "sorted") (aZ0 K):=by
 subst h
 intro pins s σ H xs us Q I r h
 obtain⟨p,ns,rfl,hq,h64,q⟩:=h;obtain⟨u,rfl,rx⟩:=K5 r
 cases rx
 rcases hq with hq | hq
 ·obtain⟨its,r',pl,hz⟩:=I.tuple hq
  have hi:IntsAre its ns:=C5 r';have hlen:its.length=ns.length:=hi.length;obtain⟨ot,g1,g2,n,g3⟩:=pl;refine av5 g1 g2 g3 hi (by lia) fun out ns' a1 a2 a3=>?_
  obtain⟨e,he⟩:=sortedAll_at s.heap its out
  have hz':(ns'.map V.int).length<=sizeLine:=by
   rw[length_map,a2.length_eq];rw[length_map] at hz;exact hz
  exact⟨.ref (s.heap.objs.size + 1),_,I.laid (t':=s.toks) (o:=.lst (ns'.map V.int)) (fun b o e=>sortedAll_old e) (Nat.le_succ _) ⟨hz',out.toList,e,R3 a1,by simpa [seqObj] using he⟩,rfl,q ns' a2 a3 _ (I.hok.fresh (Nat.le_succ _))⟩
 ·exact(aq9 X.K) pins s σ H _ _ Q I r ⟨p,ns,rfl,hq,h64,q⟩
end
def aI3 (X:Cx)(q:Str)(scope:Scope)(cl:List (Str×Addr))(f c:Addr)(N:List Str)(A:Around)(s:Shared)(H:Hp):Cx where
 prog:=X.prog
 w:=X.w
 K:=X.K
 mg:=X.mg
 base:=X.base
 A:=A.deeper (PySem.W.envX q scope s.heap.objs.size f (.ref c) cl)
 N:=N
 s₀:=s
 H₀:=H
 env:=PySem.W.envX q scope s.heap.objs.size f (.ref c) cl
 outer:=X.stack
 stack:=PySem.W.envX q scope s.heap.objs.size f (.ref c) cl::X.stack
 ex:=[]
 calm:=true
 fn:=fun _=>false
 pn:=[]
 xe:=fun _ _=>False
structure LamScope (N:List Str)(osc scope:Scope)(p:Str)(fr:List (Nat×Str)):Prop where
 kind:scope.kind=.function
 co:scope.isCoroutine=false
 gen:scope.isGenerator=false
 nocell:∀ y∈scope.names,y.2≠.cell
 loc:scope.names.lookup p=some .local
 free:∀ y∈scope.names,y.2=.free->osc.names.lookup y.1=some .cell\/osc.names.lookup y.1=some .free
 slot:∀ z∈fr,N[z.1]? = some z.2/\scope.names.lookup z.2=some .free
def Z9 (x:V)(fr:List (Nat×Str))(σ:St):St:=some x::fr.map fun z=>(σ[z.1]?).join
section
variable {X:Cx}{pins:List (Addr×Obj)}{σ:St}{H:Hp}{s:Shared}{scope:Scope}{p q:Str}{fr:List (Nat×Str)}{cl:List (Str×Addr)}{f c:Addr}{A:Around}{x:V}{u:Value}
theorem a06 {h1:Heap}{t':Nat}(S:LamScope X.N X.env.scope scope p fr)(I:Inv X pins σ H s)(hA:A.frames=some X.stack)(hh:A.handled=none)
  (hcl:∀ x c,cl.lookup x=some c->X.env.cells.lookup x=some c)(hcl2:∀ x,(x,NameKind.free)∈scope.names->∃ c,cl.lookup x=some c)
  (k:∀ b o,s.heap.get? b=some o->h1.get? b=some o)(hn:h1.Ns s.heap.objs.size (fun y=>[(p,u)].reverse.lookup y))(rx:o5 x u) :
  Inv (aI3 X q scope cl f c (p::fr.map (·.2)) A s H) [] (Z9 x fr σ) H { s with heap:=h1,toks:=t' }:=by
 have okX:=I.ok
 refine⟨⟨okX.mod,S.kind,rfl,rfl,Nat.le_refl _,fun x y c e1 e2=>okX.inj x y c (hcl x c e1) (hcl y c e2),fun y hy=>?_,(fun y c z=>nomatch z),fun _=>hh,Around.frames_deeper hA,.inr ⟨rfl,rfl⟩,(fun b z=>absurd (show b∈([]:List Addr) from z) (by simp)),I.bs,Nat.le_trans okX.bsz I.sz,(fun b _ _ z=>absurd (show b∈([]:List Addr) from z) (by simp)),(fun b z=>absurd (show b∈([]:List Addr) from z) (by simp)),I.stack,I.stkFree⟩,
  rfl,I.bare,Un.kept k,⟨_,hn,fun i y v h1' h2 h3=>?_⟩,fun y c e=>?_,I.hok.fresh (Nat.le_refl _),fun y c e=>I.freeC y c (hcl y c e),(fun p hp=>absurd (show p∈([]:List (Addr×Obj)) from hp) (by simp)),I.hok.kept k,?_⟩
 ·have hy:scope.names.lookup y=some .cell\/scope.names.lookup y=some .free:=hy
  rcases hy with hy | hy
  ·exact absurd rfl (S.nocell _ (PySem.mem_of_lookup hy))
  ·exact hcl2 y (PySem.mem_of_lookup hy)
 ·cases i with
  | zero =>
   have e1:p=y:=Option.some.inj h1';have e2:x=v:=Option.some.inj (Option.some.inj h2);subst e1 e2;refine⟨u,rx,.inl ⟨S.loc,?_⟩⟩
   show List.lookup p [(p,u)]=some u
   rw[lookup_cons,beq_self_eq_true]
  | succ j =>
   have h1':(fr.map (·.2))[j]? = some y:=h1';have h2:(fr.map fun z=>(σ[z.1]?).join)[j]? = some (some v):=h2;rw[List.getElem?_map] at h1' h2
   cases e:fr[j]? with
   | none=>rw[e] at h1';cases h1'
   | some z =>
    rw[e] at h1' h2;have e1:z.2=y:=Option.some.inj h1';have e2:(σ[z.1]?).join=some v:=Option.some.inj h2;obtain⟨hs1,hs2⟩:=S.slot z (List.mem_of_getElem? e);rw[e1] at hs1 hs2
    have e3:σ[z.1]? = some (some v):=by
     cases w:σ[z.1]? with
     | none=>rw[w] at e2;cases e2
     | some w'=>rw[w] at e2;exact congrArg some e2
    obtain⟨mX,hnX,hlX⟩:=I.loc;have hfr:=S.free (y,.free) (PySem.mem_of_lookup hs2) rfl;have hvis:Vis X.env.scope y:=hfr.elim (fun z=>.inr (.inl z)) fun z=>.inr (.inr z);obtain⟨w,rw',lk⟩:=hlX z.1 y v hs1 e3 hvis;refine⟨w,rw',?_⟩
    rcases lk with⟨l1,_⟩ | ⟨_,c',l2,l3⟩
    ·have l1:X.env.scope.names.lookup y=some .local:=l1
     rcases hfr with z | z <;> (rw[l1] at z;cases z)
    ·obtain⟨c2,m1⟩:=hcl2 y (PySem.mem_of_lookup hs2)
     have:=hcl y c2 m1
     rw[l2] at this
     cases this
     obtain⟨o,ho,hd⟩:=l3;exact .inr ⟨.inr hs2,c',m1,o,k _ _ ho,hd⟩
 ·obtain⟨v,o,ho,hd⟩:=I.cell y c (hcl y c e)
  exact⟨v,o,k _ _ ho,hd⟩
 ·show(some x::fr.map fun z=>(σ[z.1]?).join).length=(p::fr.map (·.2)).length
  rw[length_cons,length_cons,length_map,length_map]
theorem ax0 {name:Str}{params:Arguments}{body:Expr}{pm ctv:Value}{te:TE}{Qy:V->Prop}(S:LamScope X.N X.env.scope scope p fr)(I:Inv X pins σ H s)(hA:A.frames=some X.stack)(hh:A.handled=none)(hroom:A.depth < recursionLimit)
  (ho:s.heap.get? f=some (PySem.W.kla_obj name q params body scope cl pm c ctv))(hc:s.heap.CodeRec (.ref c) q)
  (hb:PE (aI3 X q scope cl f c (p::fr.map (·.2)) A s H) body te)
  (hbind:∀ v:Value,bindArgs (PySem.W.kla_fn name q params body scope cl pm (.ref c) ctv) ⟨[v],[]⟩=pure [(p,v)])
  (hcl:∀ x c,cl.lookup x=some c->X.env.cells.lookup x=some c)(hcl2:∀ x,(x,NameKind.free)∈scope.names->∃ c,cl.lookup x=some c)
  (rx:o5 x u)(ht:te (Z9 x fr σ) H fun y H'=>H'=H/\Qy y) :
  wpAny (model X.prog X.w) A (call (.ref f) [u]) (fun r s'=>Inv X pins σ H s'/\∃ y,o5 y r/\Qy y) (fun _ _=>False) s:=by
 refine wpAny_call (PySem.W.kla_callFunE hroom ho rfl S.co S.gen rfl hc ?_);rw[hbind];refine wpAny_pure (wpAny_newFunctionEnv S.nocell (fun y hy=>by rw[mem_singleton.mp hy];exact S.loc) (fun h₁ hns hsb=>⟨(I.nolimit).fresh _ hsb,?_⟩) S.kind)
 have k:∀ b o,s.heap.get? b=some o->h₁.get? b=some o:=fun b o e=>hsb.extBut b o (Nat.ne_of_lt (Heap.lt_size e)) (Heap.get?_push_of_some _ e);have J:=a06 (q:=q) (f:=f) (c:=c) (A:=A) (t':=s.toks + 1) S I hA hh hcl hcl2 k hns rx;refine PySem.W.kla_codeExpr (wpAny_mono (hb [] _ _ H _ J ht) (fun r s' hs=>?_) fun e s' z=>z.elim);obtain⟨y,H',J',ry,rfl,qy⟩:=hs;obtain⟨y2,H2,I2,r2,rfl,q2⟩:=I.after (Q:=fun y' H''=>H''=H'/\Qy y') ⟨y,H',J'.os,J'.bare,J'.base,J'.hok,ry,rfl,qy⟩;exact⟨I2,y2,r2,q2⟩
end
def ab0 (c:Addr)(q:Str):HO:=.ext fun h=>h.CodeRec (.ref c) q
def au6 (H:Hp)(P:Addr)(pos:Pos)(q:Str)(c:Addr):Prop:=H P=some (.tbl #[rawInt pos.line,rawInt pos.col,.ref c])/\H c=some (ab0 c q)
def F5 (H:Hp)(P:Addr)(pos:Pos)(q:Str):Prop:=H P=some (.tbl #[])\/∃ c,au6 H P pos q c
def aB2 (P:Addr)(H H':Hp):Prop:=∀ b u,b≠P->H b=some u->H' b=some u
def U5 (mg:Str->Option Value)(h:Heap):Prop:=∃ bm ob,mg "__builtins__" = some (.ref bm)/\bm≠builtinsNs/\h.get? bm=some ob/\ob.cls=.type "module"/\ob.dict=some builtinsNs/\ob.data=.plain
section
variable {X:Cx}{pins:List (Addr×Obj)}{σ:St}{H:Hp}{s:Shared}{scope:Scope}{pos:Pos}{params:Arguments}{body:Expr}{c0 P:Addr}
theorem aY8 {P:Program}{w:World}{H:Hp}{h:Heap}{c:Addr}{q:Str}(x:h.CodeRec (.ref c) q):p6 P w H h c (ab0 c q):=by
 obtain⟨c',o,vs,t,e,g,d,r⟩:=x
 cases e
 refine⟨⟨c,o,vs,t,rfl,g,d,r⟩,⟨o,g⟩,fun h1 h2 y k=>?_⟩;obtain⟨c2,o2,vs2,t2,e2,g2,d2,r2⟩:=y
 cases e2
 exact⟨c,o2,vs2,t2,rfl,k _ g2,d2,r2⟩
theorem ab0.of {P:Program}{w:World}{H:Hp}{h:Heap}{c:Addr}{q:Str}(hok:HOk P w H h)(e:H c=some (ab0 c q)):h.CodeRec (.ref c) q:=(hok c _ e).1
set_option maxHeartbeats 4000000 in
theorem aA5 (I:Inv X pins σ H s)(hcode:X.env.code=.ref c0)(hC:PySem.W.codeHdIn X.K c0 P=true)(hB:U5 X.mg X.base)(hT:F5 H P pos (X.env.qual++"<lambda>"))
  (hdef:defaultsOf params X.env=([],[]))(hcf:∀ x,(x,NameKind.free)∈scope.names->∃ c,X.env.cells.lookup x=some c){Q:Value->Shared->Prop}
  (h:∀(f c:Addr)(cl:List (Str×Addr))(pm ctv:Value)(H':Hp)(s':Shared),aB2 P H H'->au6 H' P pos (X.env.qual++"<lambda>") c->(∀ x c,cl.lookup x=some c->X.env.cells.lookup x=some c)->(∀ x,(x,NameKind.free)∈scope.names->∃ c,cl.lookup x=some c) ->
   Inv X ((f,PySem.W.kla_obj "<lambda>" (X.env.qual++"<lambda>") params body scope cl pm c ctv)::pins) σ H' s'->Q (.ref f) s') :
  wpAny (model X.prog X.w) X.A (eval (.Lambda params body scope pos) X.env) Q X.xe s:=by
 obtain⟨cl,hcl,hcl1,hcl2⟩:=Y1 (scope:=scope) (env:=X.env) hcf;have C:PySem.W.CodeHd s.heap c0 P:=PySem.W.codeHd_of_K I.kIn hC;have hgs:s.heap.Ns mainGlobals X.mg:=I.ok.mod.glob.keeps I.bk
 have hPn:H P≠none:=by
  rcases hT with e | ⟨c,e,_⟩ <;> rw[e] <;> simp
 have neP:∀ b o,X.base.get? b=some o->b≠P:=fun b o e z=>by
  have:=(I.bs b o e).2
  rw[z] at this;exact hPn this
 have hgP:mainGlobals≠P:=by
  obtain⟨o,es,ep,e,r⟩:=I.ok.mod.glob;exact neP _ o e
 have hB2:s.heap.BuiltinsAt X.mg P:=by
  obtain⟨bm,ob,b1,b2,b3,b4,b5,b6⟩:=hB;refine⟨bm,ob,b1,b2,fun z=>?_,neP _ _ b3,I.bk _ _ b3,b4,b5,b6⟩;obtain⟨o,es,ep,e,hd,_⟩:=I.ok.mod.glob;rw[z,e] at b3
  cases b3
  rw[hd] at b6
  cases b6
 have nefs:∀{f:Addr},s.heap.objs.size<=f->f≠X.env.locals/\f∉X.fs:=fun hf=>⟨Nat.ne_of_gt (Nat.lt_of_lt_of_le I.lt hf),I.nofs hf⟩;refine PySem.W.kla_eval hdef ?_
 rcases hT with hP | ⟨c,hP,hc⟩
 ·have gP:s.heap.get? P=some (PySem.W.tabObj #[]):=I.hok P _ hP
  refine PySem.W.kla_makeFunction (mg:=X.mg) (clos:=cl) hcl I.ok.glob hgs hcode C gP trivial rfl hgP hB2 fun c' ctv h' tk hx hge hlt hrec htb=>?_;rw[Array.empty_append] at htb;have hc':H c'=none:=I.hok.fresh hge;have nPc:P≠c':=fun z=>by rw[z] at hP;rw[hP] at hc';cases hc'
  have nb:∀ b u,H b=some u->b≠c':=fun b u e z=>by rw[z,hc'] at e;cases e
  have H1P:upd (upd H P (.tbl #[rawInt pos.line,rawInt pos.col,.ref c'])) c' (ab0 c' (X.env.qual++"<lambda>")) P=some (.tbl #[rawInt pos.line,rawInt pos.col,.ref c']):=by rw[h7 nPc,d6]
  have but:aB2 P H (upd (upd H P (.tbl #[rawInt pos.line,rawInt pos.col,.ref c'])) c' (ab0 c' (X.env.qual++"<lambda>"))):=fun b u ne e=>by rw[h7 (nb b u e),h7 ne];exact e
  have J:Inv X pins σ (upd (upd H P (.tbl #[rawInt pos.line,rawInt pos.col,.ref c'])) c' (ab0 c' (X.env.qual++"<lambda>"))) { s with heap:=h'.push (PySem.W.kla_obj "<lambda>" (X.env.qual++"<lambda>") params body scope cl ((X.mg "__name__").getD .none) c' ctv),gens:=s.gens,drawn:=s.drawn,toks:=tk }:=by
   refine I.step (ch:=[]) (fun _ z=>nomatch z) (fun b o _ _ _ e n=>?_) (fun b o _ _ _ e n=>⟨o.slots,?_⟩) (fun b o _ e n=>?_) (fun b o _ e=>?_) (fun b xs e=>?_) (fun b o u e=>?_) (fun b ps e=>?_) (fun m hm=>?_) (fun b u e=>?_) I.bare
   ·exact Heap.get?_push_of_some _ (hx b o (fun z=>hPn (z ▸ n)) e)
   ·exact Heap.get?_push_of_some _ (hx b o (fun z=>hPn (z ▸ n)) e)
   ·have z:b≠P:=fun z=>hPn (z ▸ n)
    rw[h7 (Nat.ne_of_lt (Nat.lt_of_lt_of_le (Heap.lt_size e) hge)),h7 z];exact n
   ·by_cases z:b=P
    ·rw[z]
     exact⟨_,Heap.get?_push_of_some _ htb⟩
    ·exact⟨o,Heap.get?_push_of_some _ (hx b o z e)⟩
   ·exact but b _ (fun z=>by rw[z,hP] at e;cases e) e
   ·exact but b _ (fun z=>by rw[z,hP] at e;cases e) e
   ·by_cases z:b=P
    ·rw[z,hP] at e
     cases e
     rw[z];exact⟨#[rawInt pos.line,rawInt pos.col,.ref c'],by rw[H1P];simp⟩
    ·exact⟨#[],by rw[but b _ z e];simp⟩
   ·obtain⟨o,es,ep,e,r⟩:=hm
    exact⟨o,es,ep,Heap.get?_push_of_some _ (hx _ o (fun z=>hPn (by rw[<- z];exact I.free)) e),r⟩
   ·by_cases z:b=c'
    ·subst z
     rw[d6] at e
     cases e
     exact aY8 (hrec.push _)
    ·rw[h7 z] at e
     by_cases z2:b=P
     ·subst z2
      rw[d6] at e
      cases e
      exact Heap.get?_push_of_some _ htb
     ·rw[h7 z2] at e
      refine(I.hok b u e).stay (fun c v hc g=>Heap.get?_push_of_some _ (hx c v (fun y=>?_) g)) (fun c hc=>but c _ (fun y=>?_) hc) fun c xs hc=>but c _ (fun y=>?_) hc
      ·subst y
       rcases hc with rfl | hc
       ·exact z2 rfl
       ·rw[hP] at hc;cases hc
      ·rw[y,hP] at hc;cases hc
      ·rw[y,hP] at hc;cases hc
  refine h h'.objs.size c' cl ((X.mg "__name__").getD .none) ctv _ _ but ⟨H1P,d6⟩ hcl1 hcl2 (J.pins_of fun p hp=>?_)
  rcases mem_cons.mp hp with rfl | hp
  ·have hsz:s.heap.objs.size<=h'.objs.size:=Nat.le_of_lt (Nat.lt_of_le_of_lt hge hlt)
   obtain⟨n1,n2⟩:=nefs hsz;refine⟨Heap.get?_push_size _ rfl,?_,n1,n2,fun v z=>by cases z⟩
   rw[h7 (Nat.ne_of_gt hlt),h7 (fun z=>?_)]
   ·exact I.hok.fresh hsz
   ·have:=Heap.lt_size htb
    rw[<- z] at this;exact absurd this (Nat.lt_irrefl _)
  ·exact J.pin p (mem_append_right _ hp)
 ·have gP:s.heap.get? P=some (PySem.W.tabObj #[rawInt pos.line,rawInt pos.col,.ref c]):=I.hok P _ hP
  refine PySem.W.kla_makeFunctionHit (mg:=X.mg) (clos:=cl) (cv:=.ref c) hcl I.ok.glob hgs hcode C gP trivial (by simp[codeAmong,rawInt]) hB2 fun ctv h' tk hk hsz=>?_
  have J:Inv X pins σ H { s with heap:=h'.push (PySem.W.kla_obj "<lambda>" (X.env.qual++"<lambda>") params body scope cl ((X.mg "__name__").getD .none) c ctv),toks:=tk }:=I.kept fun b u e=>Heap.get?_push_of_some _ (hk b u e)
  refine h h'.objs.size c cl ((X.mg "__name__").getD .none) ctv H _ (fun b u _ e=>e) ⟨hP,hc⟩ hcl1 hcl2 (J.pins_of fun p hp=>?_)
  rcases mem_cons.mp hp with rfl | hp
  ·obtain⟨n1,n2⟩:=nefs hsz
   exact⟨Heap.get?_push_size _ rfl,I.hok.fresh hsz,n1,n2,fun v z=>by cases z⟩
  ·exact J.pin p (mem_append_right _ hp)
end
theorem Inv.turnF {X:Cx}{pins:List (Addr×Obj)}{σ:St}{H:Hp}{s:Shared}{h':Heap}{t':Nat}{it:Addr}(I:Inv X pins σ H s)(F:S9 X pins H it)(k:∀ b o,b≠it->s.heap.get? b=some o->h'.get? b=some o):Inv X pins σ H { s with heap:=h',toks:=t' } :=
 I.turned k F.1 F.2.1 F.2.2.2.1 F.2.2.2.2.1 F.2.2.2.2.2
def H9 (kf:Nat->Int)(n i:Nat):Prop:=∀ j,j < n->kf i<=kf j/\(j < i->kf i < kf j)
section
variable {X:Cx}{pins:List (Addr×Obj)}{σ:St}{H:Hp}{A:Around}{R:Result->Shared->Prop}
set_option maxHeartbeats 4000000 in
theorem aE0 {l I S f:Addr}{xs:List V}(kf:Nat->Int)(hh:A.handled=none)(hlI:l≠I)(hSI:S≠I)(fS:S9 X pins H S)(fI:S9 X pins H I)(hl:∀ s,Inv X pins σ H s->∃ its:List Value,j9 xs its/\s.heap.IsList l its.toArray)
  (turn:∀(pl:List (Addr×Obj))(i:Nat)(x:V)(v:Value)(s:Shared),xs[i]? = some x->o5 x v->Inv X (pins++pl) σ H s->wpAny (model X.prog X.w) A.in1 (call (.ref f) [v]) (fun r s'=>Inv X (pins++pl) σ H s'/\∃ t,r=.int (kf i) t) (fun _ _=>False) s)
  (hR:∀(i:Nat)(x:V)(v:Value)(s':Shared),xs[i]? = some x->o5 x v->H9 kf xs.length i->Inv X pins σ H s'->R (.ok (.ret v)) s') :
  ∀(r j i:Nat)(s:Shared)(c:Nat)(xb:V)(vb:Value)(tb:Tok),xs.length - j=r->j<=xs.length->i < j->Inv X pins σ H s->s.heap.get? S=some (seqObj "list" #[vb,.int (kf i) tb] c)->xs[i]? = some xb->o5 xb vb->H9 kf j i->s.heap.IsListIter I l j ->
   codeAny (model X.prog X.w) A (.builtin "min.loop" ⟨[.ref I,.ref f,.ref S],[]⟩) R s:=by
 have nm:(toString "min"++toString ".loop":String) = "min.loop":=by decide
 intro r
 induction r with
 | zero =>
  intro j i s c xb vb tb hr hj hij J gS exb rxb ba it
  obtain rfl:j=xs.length:=by lia
  obtain⟨its,rv,isl⟩:=hl s J;have ln:=rv.length;have W:=Walks.list (prog:=X.prog) (w:=X.w) (A:=A.in1) hh I l hlI its.toArray;have sz:its.toArray.size=xs.length:=by rw[size_toArray,ln]
  obtain⟨hp,gn,dr,tk,os⟩:=s;refine codeAny_builtin PySem.F.entry_min_loop ?_;rw[Around.under_plainId PySem.F.plain_min_loop _]
  show wpAny _ A.in1 (seqItems? (.ref S) >>= _) _ _ _
  refine wpAny_bind (wpAny_seqItems gS rfl ?_)
  show wpAny _ A.in1 (tryCatch (pyNext (.ref I)) _ >>= _) _ _ _
  refine wpAny_bind (wpAny_tryCatch (W.done _ _ _ ⟨by rw[sz];exact it,isl⟩ fun h1 tk1 k1=>?_))
  have J1:Inv X pins σ H ⟨h1,gn,dr,tk1,os⟩:=J.turnF (t':=tk1) fI fun b o nb e=>k1 b o (by rw[mem_singleton];exact nb) e
  have gS1:h1.get? S=some (seqObj "list" #[vb,.int (kf i) tb] c):=k1 S _ (by rw[mem_singleton];exact hSI) gS
  show wpAny _ A.in1 (updateSeq S (fun _=>#[]) >>= _) _ _ _
  refine wpAny_bind (wpAny_updateSeq gS1 rfl (wpAny_bind (wpAny_letGo (wpAny_pure ?_))));have sb:=Heap.SameBut.update h1 S (Obj.mapSeq fun _=>(#[]:Array Value));exact hR i xb vb _ exb rxb ba (J1.turnF (t':=tk1) fS fun b o nb e=>(sb.2 b nb).trans e)
 | succ r ih =>
  intro j i s c xb vb tb hr hj hij J gS exb rxb ba it
  have hlt:j < xs.length:=by lia
  obtain⟨its,rv,isl⟩:=hl s J;have ln:=rv.length;have W:=Walks.list (prog:=X.prog) (w:=X.w) (A:=A.in1) hh I l hlI its.toArray;have sz:its.toArray.size=xs.length:=by rw[size_toArray,ln]
  obtain⟨hp,gn,dr,tk,os⟩:=s;refine codeAny_builtin PySem.F.entry_min_loop ?_;rw[Around.under_plainId PySem.F.plain_min_loop _]
  show wpAny _ A.in1 (seqItems? (.ref S) >>= _) _ _ _
  refine wpAny_bind (wpAny_seqItems gS rfl ?_)
  show wpAny _ A.in1 (tryCatch (pyNext (.ref I)) _ >>= _) _ _ _
  refine wpAny_bind (wpAny_tryCatch (W.item j _ _ _ (by rw[sz];exact hlt) ⟨it,isl⟩ fun v h1 tk1 pv st1 k1=>?_))
  have ev:its[j]? = some v:=by simpa using pv
  have ex:xs[j]? = some (xs[j]'hlt):=List.getElem?_eq_getElem _
  have rx:o5 (xs[j]'hlt) v:=by
   obtain⟨v',w1,w2⟩:=rv.get ex;rw[ev] at w1
   cases w1
   exact w2
  have J1:Inv X pins σ H ⟨h1,gn,dr,tk1,os⟩:=J.turnF (t':=tk1) fI fun b o nb e=>k1 b o (by rw[mem_singleton];exact nb) e
  have gS1:h1.get? S=some (seqObj "list" #[vb,.int (kf i) tb] c):=k1 S _ (by rw[mem_singleton];exact hSI) gS
  obtain⟨oI,gI1,cI,dI⟩:=id st1.1
  have J2:=J1.pinned (fp:=[S,I]) (fun b hb=>by
   rcases mem_cons.mp hb with rfl | hb
   ·exact fS
   ·rw[mem_singleton.mp hb]
    exact fI) (fun b hb=>by
   rcases mem_cons.mp hb with rfl | hb
   ·exact⟨_,gS1,fun v z=>by cases z⟩
   ·rw[mem_singleton.mp hb]
    exact⟨oI,gI1,fun v z=>by rw[dI] at z;cases z⟩)
  show wpAny _ A.in1 (tryCatch (holding [v] (call (.ref f) [v])) _ >>= _) _ _ _
  refine wpAny_bind (wpAny_tryCatch (wpAny_holding (wpAny_mono (turn _ j _ v _ ex rx J2) (fun x s2 he=>?_) fun _ _ z=>z.elim)));obtain⟨J3,t2,rfl⟩:=he;have gS2:=(J3.pin _ (mem_append_right _ (mem_append_right _ (z9 (mem_cons_self ..) gS1)))).1;have gI2:=(J3.pin _ (mem_append_right _ (mem_append_right _ (z9 (mem_cons_of_mem _ (mem_cons_self ..)) gI1)))).1;have J4:Inv X pins σ H s2:=J3.unpinned;have it2:s2.heap.IsListIter I l (j + 1):=⟨oI,gI2,cI,dI⟩;obtain⟨hp2,gn2,dr2,tk2,os2⟩:=s2
  show wpAny _ A.in1 (tryCatch (holding [v,.int (kf j) t2] (richCompare .Lt (.int (kf j) t2) (.int (kf i) tb) >>= _)) _ >>= _) _ _ _
  refine wpAny_bind (wpAny_tryCatch (wpAny_holding (wpAny_bind (CmpOf.ints_lt (prog:=X.prog) (w:=X.w) (A:=A.in1) (P:=fun i v=>∃ t,v=.int (kf i) t) kf (fun i v z=>z) j i _ _ _ _ _ ⟨_,rfl⟩ ⟨_,rfl⟩ ?_))));refine wpAny_bind (wpAny_holding (wpAny_truthy_bool ?_));refine wpAny_bind (wpAny_letGo (wpAny_pure ?_))
  by_cases less:kf j < kf i
  ·simp only[less,decide_true,if_true]
   refine wpAny_bind (wpAny_updateSeq gS2 rfl (wpAny_bind (wpAny_letGo ?_)));rw[nm];have sb:=Heap.SameBut.update hp2 S (Obj.mapSeq fun _=>#[v,.int (kf j) t2]);refine wpAny_pure ⟨plainId_quiet PySem.F.plain_min_loop _,ih (j + 1) j _ _ _ v t2 (by lia) (by lia) (Nat.lt_succ_self _) (J4.turnF fS fun b o nb e=>(sb.2 b nb).trans e) (get?_update_seq gS2 _) ex rx (fun j' hj'=>?_) ⟨oI,(sb.2 I (Ne.symm hSI)).trans gI2,cI,dI⟩⟩
   by_cases e:j'=j
   ·subst e
    exact⟨by lia,fun z=>absurd z (Nat.lt_irrefl _)⟩
   ·have:=(ba j' (by lia)).1
    exact⟨by lia,fun _=>by lia⟩
  ·simp only[less,decide_false,Bool.false_eq_true,if_false]
   refine wpAny_bind (wpAny_letGo ?_);rw[nm];refine wpAny_pure ⟨plainId_quiet PySem.F.plain_min_loop _,ih (j + 1) i _ _ xb vb tb (by lia) (by lia) (by lia) J4 gS2 exb rxb (fun j' hj'=>?_) it2⟩
   by_cases e:j'=j
   ·subst e
    exact⟨by lia,fun z=>by lia⟩
   ·exact ba j' (by lia)
theorem aF6 (a v:Value):argsOk "min" ⟨[a],[(Str.ofString "key",v)]⟩:=by unfold argsOk;kernel_rfl
set_option maxHeartbeats 4000000 in
theorem a81 {s:Shared}{l f:Addr}{xs:List V}{Q:Value->Shared->Prop}{E:Value->Shared->Prop}(kf:Nat->Int)(hh:A.handled=none)(J:Inv X pins σ H s)(hl:∀ s,Inv X pins σ H s->∃ its:List Value,j9 xs its/\s.heap.IsList l its.toArray)(ne:0 < xs.length)
  (turn:∀(pl:List (Addr×Obj))(i:Nat)(x:V)(v:Value)(s:Shared),xs[i]? = some x->o5 x v->Inv X (pins++pl) σ H s->wpAny (model X.prog X.w) A.in1 (call (.ref f) [v]) (fun r s'=>Inv X (pins++pl) σ H s'/\∃ t,r=.int (kf i) t) (fun _ _=>False) s)
  (hQ:∀(i:Nat)(x:V)(v:Value)(s':Shared),xs[i]? = some x->o5 x v->H9 kf xs.length i->Inv X pins σ H s'->Q v s') :
  wpAny (model X.prog X.w) A (call (.builtin "min") [.ref l] [(Str.ofString "key",.ref f)]) Q E s:=by
 have nm:(toString "min"++toString ".loop":String) = "min.loop":=by decide
 obtain⟨its0,rv0,hls⟩:=hl s J;obtain⟨ol,gl,_⟩:=id hls;have ll:l < s.heap.objs.size:=Heap.lt_size gl;refine kmb_tree PySem.F.kind_min PySem.F.plain_min PySem.F.entry_min (aF6 _ _) ?_
 show wpAny _ A.in1 (Builtin.Builtins.bindParams "min" ["key","default"] 0 ⟨[],[(Str.ofString "key",.ref f)]⟩ >>= _) _ _ s
 refine wpAny_bind (wpAny_of_eq (show Builtin.Builtins.bindParams "min" ["key","default"] 0 ⟨[],[(Str.ofString "key",.ref f)]⟩=pure [some (.ref f),none] from rfl) ?_);refine wpAny_bind (wpAny_pure (wpAny_bind (wpAny_pyIter_list hls (wpAny_bind (wpAny_newList ?_ (Nat.zero_le _))))));rw[nm];have zS:(s.heap.push { cls:=.type "list_iterator",data:=.fields #[.ref l,.int 0 0] }).objs.size=s.heap.objs.size + 1:=size_push' ..;refine wpAny_pure ⟨plainId_quiet PySem.F.plain_min_loop _,?_⟩;obtain⟨hp,gn,dr,tk,os⟩:=s;have J0:Inv X pins σ H ⟨(hp.push { cls:=.type "list_iterator",data:=.fields #[.ref l,.int 0 0] }).push (seqObj "list" #[] 0),gn,dr,tk,os⟩:=J.kept (t':=tk) fun b u e=>Heap.get?_push_of_some _ (Heap.get?_push_of_some _ e);have fI:S9 X pins H hp.objs.size:=J.fpOk (Nat.le_refl _) (J.hok.fresh (Nat.le_refl _));have fS:S9 X pins H (hp.push { cls:=.type "list_iterator",data:=.fields #[.ref l,.int 0 0] }).objs.size:=J.fpOk (by rw[zS];exact Nat.le_succ _) (J.hok.fresh (by rw[zS];exact Nat.le_succ _))
 have gI:((hp.push { cls:=.type "list_iterator",data:=.fields #[.ref l,.int 0 0] }).push (seqObj "list" #[] 0)).get? hp.objs.size=some { cls:=.type "list_iterator",data:=.fields #[.ref l,.int 0 0] }:=Heap.get?_push_of_some _ (Heap.get?_push_size _ rfl);have gS:((hp.push { cls:=.type "list_iterator",data:=.fields #[.ref l,.int 0 0] }).push (seqObj "list" #[] 0)).get? (hp.push { cls:=.type "list_iterator",data:=.fields #[.ref l,.int 0 0] }).objs.size=some (seqObj "list" #[] 0):=Heap.get?_push_size _ rfl;have hSI:(hp.push { cls:=.type "list_iterator",data:=.fields #[.ref l,.int 0 0] }).objs.size≠hp.objs.size:=by rw[zS];exact Nat.succ_ne_self _
 have hlI:l≠hp.objs.size:=Nat.ne_of_lt ll;generalize (hp.push { cls:=.type "list_iterator",data:=.fields #[.ref l,.int 0 0] }).objs.size=S at fS gS hSI ⊢;obtain⟨its,rv,isl⟩:=hl _ J0;have ln:=rv.length;have W:=Walks.list (prog:=X.prog) (w:=X.w) (A:=A.in1) hh hp.objs.size l hlI its.toArray;have sz:its.toArray.size=xs.length:=by rw[size_toArray,ln]
 refine codeAny_builtin PySem.F.entry_min_loop ?_;rw[Around.under_plainId PySem.F.plain_min_loop _]
 show wpAny _ A.in1 (seqItems? (.ref S) >>= _) _ _ _
 refine wpAny_bind (wpAny_seqItems gS rfl ?_)
 show wpAny _ A.in1 (tryCatch (pyNext (.ref hp.objs.size)) _ >>= _) _ _ _
 refine wpAny_bind (wpAny_tryCatch (W.item 0 _ _ _ (by rw[sz];exact ne) ⟨⟨_,gI,rfl,rfl⟩,isl⟩ fun v h1 tk1 pv st1 k1=>?_))
 have ev:its[0]? = some v:=by simpa using pv
 have ex:xs[0]? = some (xs[0]'ne):=List.getElem?_eq_getElem _
 have rx:o5 (xs[0]'ne) v:=by
  obtain⟨v',w1,w2⟩:=rv.get ex;rw[ev] at w1
  cases w1
  exact w2
 have J1:Inv X pins σ H ⟨h1,gn,dr,tk1,os⟩:=J0.turnF (t':=tk1) fI fun b o nb e=>k1 b o (by rw[mem_singleton];exact nb) e
 have gS1:h1.get? S=some (seqObj "list" #[] 0):=k1 S _ (by rw[mem_singleton];exact hSI) gS
 obtain⟨oI,gI1,cI,dI⟩:=id st1.1
 have J2:=J1.pinned (fp:=[S,hp.objs.size]) (fun b hb=>by
  rcases mem_cons.mp hb with rfl | hb
  ·exact fS
  ·rw[mem_singleton.mp hb]
   exact fI) (fun b hb=>by
  rcases mem_cons.mp hb with rfl | hb
  ·exact⟨_,gS1,fun v z=>by cases z⟩
  ·rw[mem_singleton.mp hb]
   exact⟨oI,gI1,fun v z=>by rw[dI] at z;cases z⟩)
 show wpAny _ A.in1 (tryCatch (holding [v] (call (.ref f) [v])) _ >>= _) _ _ _
 refine wpAny_bind (wpAny_tryCatch (wpAny_holding (wpAny_mono (turn _ 0 _ v _ ex rx J2) (fun x s2 he=>?_) fun _ _ z=>z.elim)));obtain⟨J3,t2,rfl⟩:=he;have gS2:=(J3.pin _ (mem_append_right _ (mem_append_right _ (z9 (mem_cons_self ..) gS1)))).1;have gI2:=(J3.pin _ (mem_append_right _ (mem_append_right _ (z9 (mem_cons_of_mem _ (mem_cons_self ..)) gI1)))).1;have J4:Inv X pins σ H s2:=J3.unpinned;obtain⟨hp2,gn2,dr2,tk2,os2⟩:=s2
 show wpAny _ A.in1 (updateSeq S (fun _=>#[v,.int (kf 0) t2]) >>= _) _ _ _
 refine wpAny_bind (wpAny_updateSeq gS2 rfl ?_);rw[nm];have sb:=Heap.SameBut.update hp2 S (Obj.mapSeq fun _=>#[v,.int (kf 0) t2]);refine wpAny_pure ⟨plainId_quiet PySem.F.plain_min_loop _,aE0 kf hh hlI hSI fS fI hl turn hQ _ 1 0 _ _ _ v t2 rfl (by lia) (by decide) (J4.turnF fS fun b o nb e=>(sb.2 b nb).trans e) (get?_update_seq gS2 _) ex rx (fun j' hj'=>?_) ⟨oI,(sb.2 _ (Ne.symm hSI)).trans gI2,cI,dI⟩⟩
 obtain rfl:j'=0:=by lia
 exact⟨by lia,fun z=>absurd z (Nat.lt_irrefl _)⟩
end
section
variable {X:Cx}{e body:Expr}{t:TA}{te:TE}{pn kp pos lpos:Pos}{params:Arguments}{scope:Scope}{p:Str}{c0 P:Addr}{n:Nat}
def a_7 (K:Frag)(P:Addr)(lpos:Pos)(q:Str)(fr:List (Nat×Str))(t:TA)(te:TE):TE:=fun σ H Q=>t σ H fun vs H1=>∃(l:Addr)(xs:List V),vs=[.ref l]/\xs≠[]/\F5 H1 P lpos q /\
 ∀(H2:Hp)(c:Addr),aB2 P H1 H2->au6 H2 P lpos q c->SqL K H2 l xs/\∃ kf:Nat->Int,(∀ i x,xs[i]? = some x->te (Z9 x fr σ) H2 fun y H'=>H'=H2/\y=.int (kf i))/\∀ i x,xs[i]? = some x->H9 kf xs.length i->Q x H2
theorem aP0 (K:Frag)(fr:List (Nat×Str))(hr:Room n X.A)(hc:X.calm=true)(hg:Gl X "min")(hm:X.mg "min" = none)(hcode:X.env.code=.ref c0)(hC:PySem.W.codeHdIn X.K c0 P=true)(hB:U5 X.mg X.base)
  (S:LamScope X.N X.env.scope scope p fr)(ha:PA X [e] t)(hb:∀(q:Str)(cl:List (Str×Addr))(f c:Addr)(A:Around)(s:Shared)(H:Hp),PE (aI3 X q scope cl f c (p::fr.map (·.2)) A s H) body te)(hK:X.K=K:=by rfl)
  (hdef:defaultsOf params X.env=([],[]):=by rfl) (hbind:∀(q:Str)(cl:List (Str×Addr))(pm cv ctv v:Value),bindArgs (PySem.W.kla_fn "<lambda>" q params body scope cl pm cv ctv) ⟨[v],[]⟩=pure [(p,v)]:=by intros;rfl)
  (he:starEach [e] X.env=(false,eval e X.env)::starEach [] X.env:=by rfl) (hall:(backToKw pos (keywordEach [⟨some "key",.Lambda params body scope lpos,kp⟩] X.env)).all (·.1.isSome)=true:=by rfl)
  (hks:(backToKw pos (keywordEach [⟨some "key",.Lambda params body scope lpos,kp⟩] X.env)).filterMap (·.1)=[Str.ofString "key"]:=by rfl)
  (hkn:(backToKw pos (keywordEach [⟨some "key",.Lambda params body scope lpos,kp⟩] X.env)).any (·.1.isNone)=false:=by rfl)
  (hpl:(backTo pos (starEach [e] X.env)).any (·.1)=false:=by rfl) :
  PE X (.Call (.Name "min" pn) [e] [⟨some "key",.Lambda params body scope lpos,kp⟩] pos) (a_7 K P lpos (X.env.qual++"<lambda>") fr t te):=by
 subst hK
 intro pins s σ H Q I h
 refine wpAny_Call_Name_kw (S3 I hg hm boot_min ?_ (by decide) (by decide))
 refine callWith_builtin_kwB hpl hkn ?_;refine PyProof.Rows.evalArgs_kw2 hall (thn (ha pos pins s σ H _ I h) fun us s1 ⟨vs,H1,I1,r1,q1⟩=>?_) he;obtain⟨l,xs,rfl,ne,tab,q2⟩:=q1;obtain⟨u,rfl,rx⟩:=K5 r1
 cases rx
 refine kws_cons (aA5 I1 hcode hC hB tab hdef (fun x hx=>I1.ok.has x ?_) fun f c cl pm ctv H2 s2 but has hcl hcl2 I2=>kws_nil ?_)
 ·rcases S.free (x,.free) hx rfl with z | z
  ·exact .inl z
  ·exact .inr z
 rw[hks];obtain⟨hl,kf,hkf,qq⟩:=q2 H2 c but has
 show wpAny _ _ (call (.builtin "min") [.ref l] [(Str.ofString "key",.ref f)]) _ _ _
 refine a81 (xs:=xs) kf (I2.ok.hd hc) I2 (fun s' J=>by
  obtain⟨its,rv,pl,hz⟩:=J.list hl
  exact⟨its,rv,pl.isList⟩) (List.length_pos_iff.mpr ne) (fun pl i x v s3 ex rx J=>?_) fun i x v s3 ex rx best J=>?_
 ·have gf:=(J.pin _ (mem_append_right _ (mem_append_left _ (mem_cons_self ..)))).1
  refine wpAny_mono (ax0 S J (A:=X.A.in1) J.ok.frames (J.ok.hd hc) hr.depth gf (ab0.of J.hok has.2) (hb _ _ _ _ _ _ _) (fun v=>hbind _ _ _ _ _ v) hcl hcl2 rx (Qy:=fun y=>y=.int (kf i)) (hkf i _ ex)) (fun r s4 hs=>?_) fun _ _ z=>z;obtain⟨J4,y,ry,rfl⟩:=hs;exact⟨J4,ry⟩
 ·exact⟨_,H2,J.pins_of fun p hp=>J.pin p (mem_append_right _ (mem_cons_of_mem _ hp)),rx,qq i _ ex best⟩
end
def F7 (kf:Nat->Int)(n i:Nat):Prop:=∀ j,j < n->kf i ≥ kf j/\(j < i->kf i > kf j)
section
variable {X:Cx}{pins:List (Addr×Obj)}{σ:St}{H:Hp}{A:Around}{R:Result->Shared->Prop}
set_option maxHeartbeats 4000000 in
theorem aH3 {l I S f:Addr}{xs:List V}(kf:Nat->Int)(hh:A.handled=none)(hlI:l≠I)(hSI:S≠I)(fS:S9 X pins H S)(fI:S9 X pins H I)(hl:∀ s,Inv X pins σ H s->∃ its:List Value,j9 xs its/\s.heap.IsList l its.toArray)
  (turn:∀(pl:List (Addr×Obj))(i:Nat)(x:V)(v:Value)(s:Shared),xs[i]? = some x->o5 x v->Inv X (pins++pl) σ H s->wpAny (model X.prog X.w) A.in1 (call (.ref f) [v]) (fun r s'=>Inv X (pins++pl) σ H s'/\∃ t,r=.int (kf i) t) (fun _ _=>False) s)
  (hR:∀(i:Nat)(x:V)(v:Value)(s':Shared),xs[i]? = some x->o5 x v->F7 kf xs.length i->Inv X pins σ H s'->R (.ok (.ret v)) s') :
  ∀(r j i:Nat)(s:Shared)(c:Nat)(xb:V)(vb:Value)(tb:Tok),xs.length - j=r->j<=xs.length->i < j->Inv X pins σ H s->s.heap.get? S=some (seqObj "list" #[vb,.int (kf i) tb] c)->xs[i]? = some xb->o5 xb vb->F7 kf j i->s.heap.IsListIter I l j ->
   codeAny (model X.prog X.w) A (.builtin "max.loop" ⟨[.ref I,.ref f,.ref S],[]⟩) R s:=by
 have nm:(toString "max"++toString ".loop":String) = "max.loop":=by decide
 intro r
 induction r with
 | zero =>
  intro j i s c xb vb tb hr hj hij J gS exb rxb ba it
  obtain rfl:j=xs.length:=by lia
  obtain⟨its,rv,isl⟩:=hl s J;have ln:=rv.length;have W:=Walks.list (prog:=X.prog) (w:=X.w) (A:=A.in1) hh I l hlI its.toArray;have sz:its.toArray.size=xs.length:=by rw[size_toArray,ln]
  obtain⟨hp,gn,dr,tk,os⟩:=s;refine codeAny_builtin PySem.F.entry_max_loop ?_;rw[Around.under_plainId PySem.F.plain_max_loop _]
  show wpAny _ A.in1 (seqItems? (.ref S) >>= _) _ _ _
  refine wpAny_bind (wpAny_seqItems gS rfl ?_)
  show wpAny _ A.in1 (tryCatch (pyNext (.ref I)) _ >>= _) _ _ _
  refine wpAny_bind (wpAny_tryCatch (W.done _ _ _ ⟨by rw[sz];exact it,isl⟩ fun h1 tk1 k1=>?_))
  have J1:Inv X pins σ H ⟨h1,gn,dr,tk1,os⟩:=J.turnF (t':=tk1) fI fun b o nb e=>k1 b o (by rw[mem_singleton];exact nb) e
  have gS1:h1.get? S=some (seqObj "list" #[vb,.int (kf i) tb] c):=k1 S _ (by rw[mem_singleton];exact hSI) gS
  show wpAny _ A.in1 (updateSeq S (fun _=>#[]) >>= _) _ _ _
  refine wpAny_bind (wpAny_updateSeq gS1 rfl (wpAny_bind (wpAny_letGo (wpAny_pure ?_))));have sb:=Heap.SameBut.update h1 S (Obj.mapSeq fun _=>(#[]:Array Value));exact hR i xb vb _ exb rxb ba (J1.turnF (t':=tk1) fS fun b o nb e=>(sb.2 b nb).trans e)
 | succ r ih =>
  intro j i s c xb vb tb hr hj hij J gS exb rxb ba it
  have hlt:j < xs.length:=by lia
  obtain⟨its,rv,isl⟩:=hl s J;have ln:=rv.length;have W:=Walks.list (prog:=X.prog) (w:=X.w) (A:=A.in1) hh I l hlI its.toArray;have sz:its.toArray.size=xs.length:=by rw[size_toArray,ln]
  obtain⟨hp,gn,dr,tk,os⟩:=s;refine codeAny_builtin PySem.F.entry_max_loop ?_;rw[Around.under_plainId PySem.F.plain_max_loop _]
  show wpAny _ A.in1 (seqItems? (.ref S) >>= _) _ _ _
  refine wpAny_bind (wpAny_seqItems gS rfl ?_)
  show wpAny _ A.in1 (tryCatch (pyNext (.ref I)) _ >>= _) _ _ _
  refine wpAny_bind (wpAny_tryCatch (W.item j _ _ _ (by rw[sz];exact hlt) ⟨it,isl⟩ fun v h1 tk1 pv st1 k1=>?_))
  have ev:its[j]? = some v:=by simpa using pv
  have ex:xs[j]? = some (xs[j]'hlt):=List.getElem?_eq_getElem _
  have rx:o5 (xs[j]'hlt) v:=by
   obtain⟨v',w1,w2⟩:=rv.get ex;rw[ev] at w1
   cases w1
   exact w2
  have J1:Inv X pins σ H ⟨h1,gn,dr,tk1,os⟩:=J.turnF (t':=tk1) fI fun b o nb e=>k1 b o (by rw[mem_singleton];exact nb) e
  have gS1:h1.get? S=some (seqObj "list" #[vb,.int (kf i) tb] c):=k1 S _ (by rw[mem_singleton];exact hSI) gS
  obtain⟨oI,gI1,cI,dI⟩:=id st1.1
  have J2:=J1.pinned (fp:=[S,I]) (fun b hb=>by
   rcases mem_cons.mp hb with rfl | hb
   ·exact fS
   ·rw[mem_singleton.mp hb]
    exact fI) (fun b hb=>by
   rcases mem_cons.mp hb with rfl | hb
   ·exact⟨_,gS1,fun v z=>by cases z⟩
   ·rw[mem_singleton.mp hb]
    exact⟨oI,gI1,fun v z=>by rw[dI] at z;cases z⟩)
  show wpAny _ A.in1 (tryCatch (holding [v] (call (.ref f) [v])) _ >>= _) _ _ _
  refine wpAny_bind (wpAny_tryCatch (wpAny_holding (wpAny_mono (turn _ j _ v _ ex rx J2) (fun x s2 he=>?_) fun _ _ z=>z.elim)));obtain⟨J3,t2,rfl⟩:=he;have gS2:=(J3.pin _ (mem_append_right _ (mem_append_right _ (z9 (mem_cons_self ..) gS1)))).1;have gI2:=(J3.pin _ (mem_append_right _ (mem_append_right _ (z9 (mem_cons_of_mem _ (mem_cons_self ..)) gI1)))).1;have J4:Inv X pins σ H s2:=J3.unpinned;have it2:s2.heap.IsListIter I l (j + 1):=⟨oI,gI2,cI,dI⟩;obtain⟨hp2,gn2,dr2,tk2,os2⟩:=s2
  show wpAny _ A.in1 (tryCatch (holding [v,.int (kf j) t2] (richCompare .Gt (.int (kf j) t2) (.int (kf i) tb) >>= _)) _ >>= _) _ _ _
  refine wpAny_bind (wpAny_tryCatch (wpAny_holding (wpAny_bind (CmpOf.ints_gt (prog:=X.prog) (w:=X.w) (A:=A.in1) (P:=fun i v=>∃ t,v=.int (kf i) t) kf (fun i v z=>z) j i _ _ _ _ _ ⟨_,rfl⟩ ⟨_,rfl⟩ ?_))));refine wpAny_bind (wpAny_holding (wpAny_truthy_bool ?_));refine wpAny_bind (wpAny_letGo (wpAny_pure ?_))
  by_cases less:kf j > kf i
  ·simp only[less,decide_true,if_true]
   refine wpAny_bind (wpAny_updateSeq gS2 rfl (wpAny_bind (wpAny_letGo ?_)));rw[nm];have sb:=Heap.SameBut.update hp2 S (Obj.mapSeq fun _=>#[v,.int (kf j) t2]);refine wpAny_pure ⟨plainId_quiet PySem.F.plain_max_loop _,ih (j + 1) j _ _ _ v t2 (by lia) (by lia) (Nat.lt_succ_self _) (J4.turnF fS fun b o nb e=>(sb.2 b nb).trans e) (get?_update_seq gS2 _) ex rx (fun j' hj'=>?_) ⟨oI,(sb.2 I (Ne.symm hSI)).trans gI2,cI,dI⟩⟩
   by_cases e:j'=j
   ·subst e
    exact⟨by lia,fun z=>absurd z (Nat.lt_irrefl _)⟩
   ·have:=(ba j' (by lia)).1
    exact⟨by lia,fun _=>by lia⟩
  ·simp only[less,decide_false,Bool.false_eq_true,if_false]
   refine wpAny_bind (wpAny_letGo ?_);rw[nm];refine wpAny_pure ⟨plainId_quiet PySem.F.plain_max_loop _,ih (j + 1) i _ _ xb vb tb (by lia) (by lia) (by lia) J4 gS2 exb rxb (fun j' hj'=>?_) it2⟩
   by_cases e:j'=j
   ·subst e
    exact⟨by lia,fun z=>by lia⟩
   ·exact ba j' (by lia)
theorem aD0 (a v:Value):argsOk "max" ⟨[a],[(Str.ofString "key",v)]⟩:=by unfold argsOk;kernel_rfl
set_option maxHeartbeats 4000000 in
theorem a56 {s:Shared}{l f:Addr}{xs:List V}{Q:Value->Shared->Prop}{E:Value->Shared->Prop}(kf:Nat->Int)(hh:A.handled=none)(J:Inv X pins σ H s)(hl:∀ s,Inv X pins σ H s->∃ its:List Value,j9 xs its/\s.heap.IsList l its.toArray)(ne:0 < xs.length)
  (turn:∀(pl:List (Addr×Obj))(i:Nat)(x:V)(v:Value)(s:Shared),xs[i]? = some x->o5 x v->Inv X (pins++pl) σ H s->wpAny (model X.prog X.w) A.in1 (call (.ref f) [v]) (fun r s'=>Inv X (pins++pl) σ H s'/\∃ t,r=.int (kf i) t) (fun _ _=>False) s)
  (hQ:∀(i:Nat)(x:V)(v:Value)(s':Shared),xs[i]? = some x->o5 x v->F7 kf xs.length i->Inv X pins σ H s'->Q v s') :
  wpAny (model X.prog X.w) A (call (.builtin "max") [.ref l] [(Str.ofString "key",.ref f)]) Q E s:=by
 have nm:(toString "max"++toString ".loop":String) = "max.loop":=by decide
 obtain⟨its0,rv0,hls⟩:=hl s J;obtain⟨ol,gl,_⟩:=id hls;have ll:l < s.heap.objs.size:=Heap.lt_size gl;refine kmb_tree PySem.F.kind_max PySem.F.plain_max PySem.F.entry_max (aD0 _ _) ?_
 show wpAny _ A.in1 (Builtin.Builtins.bindParams "max" ["key","default"] 0 ⟨[],[(Str.ofString "key",.ref f)]⟩ >>= _) _ _ s
 refine wpAny_bind (wpAny_of_eq (show Builtin.Builtins.bindParams "max" ["key","default"] 0 ⟨[],[(Str.ofString "key",.ref f)]⟩=pure [some (.ref f),none] from rfl) ?_);refine wpAny_bind (wpAny_pure (wpAny_bind (wpAny_pyIter_list hls (wpAny_bind (wpAny_newList ?_ (Nat.zero_le _))))));rw[nm];have zS:(s.heap.push { cls:=.type "list_iterator",data:=.fields #[.ref l,.int 0 0] }).objs.size=s.heap.objs.size + 1:=size_push' ..;refine wpAny_pure ⟨plainId_quiet PySem.F.plain_max_loop _,?_⟩;obtain⟨hp,gn,dr,tk,os⟩:=s;have J0:Inv X pins σ H ⟨(hp.push { cls:=.type "list_iterator",data:=.fields #[.ref l,.int 0 0] }).push (seqObj "list" #[] 0),gn,dr,tk,os⟩:=J.kept (t':=tk) fun b u e=>Heap.get?_push_of_some _ (Heap.get?_push_of_some _ e);have fI:S9 X pins H hp.objs.size:=J.fpOk (Nat.le_refl _) (J.hok.fresh (Nat.le_refl _));have fS:S9 X pins H (hp.push { cls:=.type "list_iterator",data:=.fields #[.ref l,.int 0 0] }).objs.size:=J.fpOk (by rw[zS];exact Nat.le_succ _) (J.hok.fresh (by rw[zS];exact Nat.le_succ _))
 have gI:((hp.push { cls:=.type "list_iterator",data:=.fields #[.ref l,.int 0 0] }).push (seqObj "list" #[] 0)).get? hp.objs.size=some { cls:=.type "list_iterator",data:=.fields #[.ref l,.int 0 0] }:=Heap.get?_push_of_some _ (Heap.get?_push_size _ rfl);have gS:((hp.push { cls:=.type "list_iterator",data:=.fields #[.ref l,.int 0 0] }).push (seqObj "list" #[] 0)).get? (hp.push { cls:=.type "list_iterator",data:=.fields #[.ref l,.int 0 0] }).objs.size=some (seqObj "list" #[] 0):=Heap.get?_push_size _ rfl;have hSI:(hp.push { cls:=.type "list_iterator",data:=.fields #[.ref l,.int 0 0] }).objs.size≠hp.objs.size:=by rw[zS];exact Nat.succ_ne_self _
 have hlI:l≠hp.objs.size:=Nat.ne_of_lt ll;generalize (hp.push { cls:=.type "list_iterator",data:=.fields #[.ref l,.int 0 0] }).objs.size=S at fS gS hSI ⊢;obtain⟨its,rv,isl⟩:=hl _ J0;have ln:=rv.length;have W:=Walks.list (prog:=X.prog) (w:=X.w) (A:=A.in1) hh hp.objs.size l hlI its.toArray;have sz:its.toArray.size=xs.length:=by rw[size_toArray,ln]
 refine codeAny_builtin PySem.F.entry_max_loop ?_;rw[Around.under_plainId PySem.F.plain_max_loop _]
 show wpAny _ A.in1 (seqItems? (.ref S) >>= _) _ _ _
 refine wpAny_bind (wpAny_seqItems gS rfl ?_)
 show wpAny _ A.in1 (tryCatch (pyNext (.ref hp.objs.size)) _ >>= _) _ _ _
 refine wpAny_bind (wpAny_tryCatch (W.item 0 _ _ _ (by rw[sz];exact ne) ⟨⟨_,gI,rfl,rfl⟩,isl⟩ fun v h1 tk1 pv st1 k1=>?_))
 have ev:its[0]? = some v:=by simpa using pv
 have ex:xs[0]? = some (xs[0]'ne):=List.getElem?_eq_getElem _
 have rx:o5 (xs[0]'ne) v:=by
  obtain⟨v',w1,w2⟩:=rv.get ex;rw[ev] at w1
  cases w1
  exact w2
 have J1:Inv X pins σ H ⟨h1,gn,dr,tk1,os⟩:=J0.turnF (t':=tk1) fI fun b o nb e=>k1 b o (by rw[mem_singleton];exact nb) e
 have gS1:h1.get? S=some (seqObj "list" #[] 0):=k1 S _ (by rw[mem_singleton];exact hSI) gS
 obtain⟨oI,gI1,cI,dI⟩:=id st1.1
 have J2:=J1.pinned (fp:=[S,hp.objs.size]) (fun b hb=>by
  rcases mem_cons.mp hb with rfl | hb
  ·exact fS
  ·rw[mem_singleton.mp hb]
   exact fI) (fun b hb=>by
  rcases mem_cons.mp hb with rfl | hb
  ·exact⟨_,gS1,fun v z=>by cases z⟩
  ·rw[mem_singleton.mp hb]
   exact⟨oI,gI1,fun v z=>by rw[dI] at z;cases z⟩)
 show wpAny _ A.in1 (tryCatch (holding [v] (call (.ref f) [v])) _ >>= _) _ _ _
 refine wpAny_bind (wpAny_tryCatch (wpAny_holding (wpAny_mono (turn _ 0 _ v _ ex rx J2) (fun x s2 he=>?_) fun _ _ z=>z.elim)));obtain⟨J3,t2,rfl⟩:=he;have gS2:=(J3.pin _ (mem_append_right _ (mem_append_right _ (z9 (mem_cons_self ..) gS1)))).1;have gI2:=(J3.pin _ (mem_append_right _ (mem_append_right _ (z9 (mem_cons_of_mem _ (mem_cons_self ..)) gI1)))).1;have J4:Inv X pins σ H s2:=J3.unpinned;obtain⟨hp2,gn2,dr2,tk2,os2⟩:=s2
 show wpAny _ A.in1 (updateSeq S (fun _=>#[v,.int (kf 0) t2]) >>= _) _ _ _
 refine wpAny_bind (wpAny_updateSeq gS2 rfl ?_);rw[nm];have sb:=Heap.SameBut.update hp2 S (Obj.mapSeq fun _=>#[v,.int (kf 0) t2]);refine wpAny_pure ⟨plainId_quiet PySem.F.plain_max_loop _,aH3 kf hh hlI hSI fS fI hl turn hQ _ 1 0 _ _ _ v t2 rfl (by lia) (by decide) (J4.turnF fS fun b o nb e=>(sb.2 b nb).trans e) (get?_update_seq gS2 _) ex rx (fun j' hj'=>?_) ⟨oI,(sb.2 _ (Ne.symm hSI)).trans gI2,cI,dI⟩⟩
 obtain rfl:j'=0:=by lia
 exact⟨by lia,fun z=>absurd z (Nat.lt_irrefl _)⟩
end
section
variable {X:Cx}{e body:Expr}{t:TA}{te:TE}{pn kp pos lpos:Pos}{params:Arguments}{scope:Scope}{p:Str}{c0 P:Addr}{n:Nat}
def a09 (K:Frag)(P:Addr)(lpos:Pos)(q:Str)(fr:List (Nat×Str))(t:TA)(te:TE):TE:=fun σ H Q=>t σ H fun vs H1=>∃(l:Addr)(xs:List V),vs=[.ref l]/\xs≠[]/\F5 H1 P lpos q /\
 ∀(H2:Hp)(c:Addr),aB2 P H1 H2->au6 H2 P lpos q c->SqL K H2 l xs/\∃ kf:Nat->Int,(∀ i x,xs[i]? = some x->te (Z9 x fr σ) H2 fun y H'=>H'=H2/\y=.int (kf i))/\∀ i x,xs[i]? = some x->F7 kf xs.length i->Q x H2
theorem aQ4 (K:Frag)(fr:List (Nat×Str))(hr:Room n X.A)(hc:X.calm=true)(hg:Gl X "max")(hm:X.mg "max" = none)(hcode:X.env.code=.ref c0)(hC:PySem.W.codeHdIn X.K c0 P=true)(hB:U5 X.mg X.base)
  (S:LamScope X.N X.env.scope scope p fr)(ha:PA X [e] t)(hb:∀(q:Str)(cl:List (Str×Addr))(f c:Addr)(A:Around)(s:Shared)(H:Hp),PE (aI3 X q scope cl f c (p::fr.map (·.2)) A s H) body te)(hK:X.K=K:=by rfl)
  (hdef:defaultsOf params X.env=([],[]):=by rfl) (hbind:∀(q:Str)(cl:List (Str×Addr))(pm cv ctv v:Value),bindArgs (PySem.W.kla_fn "<lambda>" q params body scope cl pm cv ctv) ⟨[v],[]⟩=pure [(p,v)]:=by intros;rfl)
  (he:starEach [e] X.env=(false,eval e X.env)::starEach [] X.env:=by rfl) (hall:(backToKw pos (keywordEach [⟨some "key",.Lambda params body scope lpos,kp⟩] X.env)).all (·.1.isSome)=true:=by rfl)
  (hks:(backToKw pos (keywordEach [⟨some "key",.Lambda params body scope lpos,kp⟩] X.env)).filterMap (·.1)=[Str.ofString "key"]:=by rfl)
  (hkn:(backToKw pos (keywordEach [⟨some "key",.Lambda params body scope lpos,kp⟩] X.env)).any (·.1.isNone)=false:=by rfl)
  (hpl:(backTo pos (starEach [e] X.env)).any (·.1)=false:=by rfl) :
  PE X (.Call (.Name "max" pn) [e] [⟨some "key",.Lambda params body scope lpos,kp⟩] pos) (a09 K P lpos (X.env.qual++"<lambda>") fr t te):=by
 subst hK
 intro pins s σ H Q I h
 refine wpAny_Call_Name_kw (S3 I hg hm boot_max ?_ (by decide) (by decide))
 refine callWith_builtin_kwB hpl hkn ?_;refine PyProof.Rows.evalArgs_kw2 hall (thn (ha pos pins s σ H _ I h) fun us s1 ⟨vs,H1,I1,r1,q1⟩=>?_) he;obtain⟨l,xs,rfl,ne,tab,q2⟩:=q1;obtain⟨u,rfl,rx⟩:=K5 r1
 cases rx
 refine kws_cons (aA5 I1 hcode hC hB tab hdef (fun x hx=>I1.ok.has x ?_) fun f c cl pm ctv H2 s2 but has hcl hcl2 I2=>kws_nil ?_)
 ·rcases S.free (x,.free) hx rfl with z | z
  ·exact .inl z
  ·exact .inr z
 rw[hks];obtain⟨hl,kf,hkf,qq⟩:=q2 H2 c but has
 show wpAny _ _ (call (.builtin "max") [.ref l] [(Str.ofString "key",.ref f)]) _ _ _
 refine a56 (xs:=xs) kf (I2.ok.hd hc) I2 (fun s' J=>by
  obtain⟨its,rv,pl,hz⟩:=J.list hl
  exact⟨its,rv,pl.isList⟩) (List.length_pos_iff.mpr ne) (fun pl i x v s3 ex rx J=>?_) fun i x v s3 ex rx best J=>?_
 ·have gf:=(J.pin _ (mem_append_right _ (mem_append_left _ (mem_cons_self ..)))).1
  refine wpAny_mono (ax0 S J (A:=X.A.in1) J.ok.frames (J.ok.hd hc) hr.depth gf (ab0.of J.hok has.2) (hb _ _ _ _ _ _ _) (fun v=>hbind _ _ _ _ _ v) hcl hcl2 rx (Qy:=fun y=>y=.int (kf i)) (hkf i _ ex)) (fun r s4 hs=>?_) fun _ _ z=>z;obtain⟨J4,y,ry,rfl⟩:=hs;exact⟨J4,ry⟩
 ·exact⟨_,H2,J.pins_of fun p hp=>J.pin p (mem_append_right _ (mem_cons_of_mem _ hp)),rx,qq i _ ex best⟩
end
def aj7 (K:Frag)(ts:List Addr):Bool:=ts.all fun P=>(K.lookup P).isNone&&K.any fun p=>PySem.W.codeHdIn K p.1 P
set_option maxHeartbeats 4000000 in
theorem aN1 {P:Program}{w:World}{K:Frag}{mg mb:Str->Option Value}{CX:CXT}{k:Nat}{fa a:Addr}{fd:FuncData}{x:Str}{sp:Sp}{s₁:Shared}{vs:List Value}{ns:List Int}{ts:List Addr}
  (KX:K.In s₁.heap)(hts:∀ P∈ts,s₁.heap.get? P=some (PySem.W.tabObj #[]))(htf:aj7 K ts=true)(hbm:U5 mg s₁.heap)(hns:s₁.heap.Ns mainGlobals mg)(hb:s₁.heap.Ns builtinsNs mb)(hbb:∀ x:Str,x≠"__name__"->mb x=bootBuiltins x)(hlim:s₁.heap.NoLimit)(hg:s₁.gens=#[])
  (ha:s₁.heap.get? a=some { cls:=.type "list",data:=.seq vs.toArray })(hi:IntsAre vs ns)(hl:ns.length<=sizeLine)(hr:Room k callerA)
  (F:∀ base:Heap,K.In base->base.Ns mainGlobals mg->U5 mg base->FnOk P w K mg base CX k fa fd [x] sp) (hbind:∀(s:Shared)(u:Value),BindsTo s fd ⟨[u],[]⟩ [(x,u)])
  (hsp:∀ H:Hp,(∀ P∈ts,H P=some (.tbl #[]))->SqL K H a (ns.map V.int)->sp [.ref a] H (fun v _=>v=.bl true) fun _ _ _=>False)
  (hCX:∀ H e s',CX [] H s₁ (fun _ _ _=>False) e s'->False) :
  codeAny (model P w) callerA (.call (.ref fa) ⟨[.ref a],[]⟩) (fun r s'=>r=.ok (.ret (.bool true))/\OldK s₁.heap s'.heap/\s'.os=s₁.os/\AllBare s'.gens) s₁:=by
 have rv:=R3 hi;have lenV:=hi.length
 have naT:a∉ts:=fun z=>by
  have:=hts a z
  rw[ha] at this
  cases this
 have tK:∀ P∈ts,K.lookup P=none/\∃ c,PySem.W.codeHdIn K c P=true:=fun P hP=>by
  have:=all_eq_true.mp htf P hP
  rw[Bool.and_eq_true] at this;obtain⟨p,_,h2⟩:=any_eq_true.mp this.2;exact⟨by simpa using this.1,p.1,h2⟩
 have core:∀ H:Hp,(∀ P∈ts,H P=some (.tbl #[]))->SqL K H a (ns.map V.int)->HOk P w H s₁.heap->(∀ b u,H b=some u->(b=a/\∃ o xs,u=.frz o (.lst xs))\/(b∈ts/\u=.tbl #[]))->(H a≠none->K.lookup a=none) ->
   codeAny (model P w) callerA (.call (.ref fa) ⟨[.ref a],[]⟩) (fun r s'=>r=.ok (.ret (.bool true))/\OldK s₁.heap s'.heap/\s'.os=s₁.os/\AllBare s'.gens) s₁:=by
  intro H hT hS hok hA hK
  have base_of:∀{b:Addr}{o:Obj},s₁.heap.get? b=some o->H b=none->(al1 s₁.heap H).get? b=some o:=fun e n=>aU6 e n
  have noT:∀{b:Addr}{o:Obj},s₁.heap.get? b=some o->(∀ vs,o≠PySem.W.tabObj vs)->b≠a->H b=none:=fun {b o} e d n=>by
   cases q:H b with
   | none=>rfl
   | some u =>
    rcases hA b u q with⟨e',_⟩ | ⟨hb,_⟩
    ·exact absurd e' n
    ·have:=hts b hb
     rw[e] at this;exact absurd (Option.some.inj this) (d _)
  have noA:∀{b:Addr}{o:Obj}{es:Array DictEntry}{ep:Nat},s₁.heap.get? b=some o->o.data=.dict es ep->H b=none:=fun {b o es ep} e d=>by
   refine noT e (fun vs z=>?_) fun z=>?_
   ·rw[z] at d;cases d
   ·rw[z,ha] at e;cases e;cases d
  have nsK:∀{b:Addr}{m:Str->Option Value},s₁.heap.Ns b m->(al1 s₁.heap H).Ns b m:=fun {b m} ⟨o,es,ep,e,d,r⟩=>⟨o,es,ep,base_of e (noA e d),d,r⟩
  have hKb:K.In (al1 s₁.heap H):=fun b o e=>base_of (KX b o e) (by
   cases q:H b with
   | none=>rfl
   | some u =>
    rcases hA b u q with⟨e',_⟩ | ⟨hb,_⟩
    ·subst e'
     rw[hK (by rw[q];simp)] at e;cases e
    ·rw[(tK b hb).1] at e;cases e)
  have hBb:U5 mg (al1 s₁.heap H):=by
   obtain⟨bm,ob,b1,b2,b3,b4,b5,b6⟩:=hbm;refine⟨bm,ob,b1,b2,base_of b3 (noT b3 (fun vs z=>?_) fun z=>?_),b4,b5,b6⟩
   ·rw[z] at b4;cases b4
   ·rw[z,ha] at b3
    cases b3
    have b4:Value.type "list" = Value.type "module":=b4
    injection b4 with b4
    exact absurd b4 (by decide)
  have hM:Mod K mg (al1 s₁.heap H):=⟨hKb,nsK hns,⟨mb,nsK hb,hbb⟩,let ⟨mc,h1,h2⟩:=hlim;⟨mc,nsK h1,h2⟩⟩;have e0:Env0 P w K mg (al1 s₁.heap H) callerA [] s₁ H:=⟨rfl,hM,fun b o e=>a65 e,Nat.le_of_eq (aR8 _ _),trivial,fun b hb=>absurd (show b∈([]:List Addr) from hb) (by simp),hok,.of_eq hg⟩
  refine codeAny_mono ((F _ hKb (nsK hns) hBb).run callerA [] s₁ H ⟨[.ref a],[]⟩ [.ref a] [.ref a] _ _ hr e0 (hbind s₁ (.ref a)) (.cons rfl .nil) (hsp H hT hS)) fun r s' h=>?_
  cases r with
  | error e=>exact(hCX H e s' h).elim
  | ok fl =>
   cases fl with
   | next=>exact False.elim h
   | brk=>exact False.elim h
   | cont=>exact False.elim h
   | ret u =>
    obtain⟨v,H',os,bare,un,hok',r',q⟩:=h;have q':v=.bl true:=q;subst q';obtain rfl:u=Value.bool true:=r';have noF:∀ b:Addr,b∉frs []:=fun b z=>absurd (show b∈([]:List Addr) from z) (by simp)
    have at':∀ b o,s₁.heap.get? b=some o->b∉ts->s'.heap.get? b=some o:=fun b o e nb=>by
     cases q:H b with
     | none=>exact un.keep b o e q (noF b) (by simp)
     | some u =>
      rcases hA b u q with⟨_,ob,xs,rfl⟩ | ⟨hb,_⟩
      ·have z2:=un.frzs b ob _ q
       obtain⟨e1,_⟩:=hok b _ q;obtain⟨e2,_⟩:=hok' b _ z2;rw[e] at e1;cases e1;exact e2
      ·exact absurd hb nb
    have tb:∀ b∈ts,∃ more,s'.heap.get? b=some (PySem.W.tabObj (#[]++more)):=fun b hb=>by
     obtain⟨more,z⟩:=un.tbls b _ (hT b hb);exact⟨more,hok' b _ z⟩
    refine⟨rfl,⟨fun b o e=>?_,fun b o e=>?_⟩,os,bare⟩
    ·by_cases hb:b∈ts
     ·obtain⟨more,z⟩:=tb b hb
      have e1:=hts b hb;rw[e] at e1
      cases e1
      obtain⟨c,hc⟩:=(tK b hb).2;exact .inr (.inl ⟨((PySem.W.codeHd_of_K KX hc).tab e).isCodeTable,rfl,#[],more,rfl,z⟩)
     ·exact .inl (at' b o e hb)
    ·by_cases hb:b∈ts
     ·obtain⟨more,z⟩:=tb b hb
      exact⟨_,z⟩
     ·exact⟨o,at' b o e hb⟩
 cases hk:K.lookup a with
 | some o =>
  have e:=KX a o hk;rw[ha] at e
  cases e
  refine core (fun b=>if b∈ts then some (.tbl #[]) else none) (fun P hP=>if_pos hP) (.inr ⟨_,vs.toArray,_,hk,rfl,rfl,rfl,by rw[size_toArray,lenV];exact hl,by simpa using rv⟩) (fun b u z=>?_) (fun b u z=>?_) fun z=>absurd (if_neg naT) z
  ·by_cases hb:b∈ts
   ·have z':=(if_pos hb).symm.trans z
    cases z'
    exact hts b hb
   ·have z':=(if_neg hb).symm.trans z
    cases z'
  ·by_cases hb:b∈ts
   ·have z':=(if_pos hb).symm.trans z
    cases z'
    exact .inr ⟨hb,rfl⟩
   ·have z':=(if_neg hb).symm.trans z
    cases z'
 | none =>
  refine core (fun b=>if b∈ts then some (.tbl #[]) else if b=a then some (.frz { cls:=.type "list",data:=.seq vs.toArray } (.lst (ns.map V.int))) else none) (fun P hP=>if_pos hP) (.inl (.inr ⟨{ cls:=.type "list",data:=.seq vs.toArray },(if_neg naT).trans (if_pos rfl)⟩)) (fun b u z=>?_) (fun b u z=>?_) fun _=>hk
  ·by_cases hb:b∈ts
   ·have z':=(if_pos hb).symm.trans z
    cases z'
    exact hts b hb
   ·have z':=(if_neg hb).symm.trans z
    by_cases hb2:b=a
    ·have z'':=(if_pos hb2).symm.trans z'
     cases z''
     subst hb2;exact⟨ha,by rw[length_map];exact hl,vs,_,rv,ha⟩
    ·have z'':=(if_neg hb2).symm.trans z'
     cases z''
  ·by_cases hb:b∈ts
   ·have z':=(if_pos hb).symm.trans z
    cases z'
    exact .inr ⟨hb,rfl⟩
   ·have z':=(if_neg hb).symm.trans z
    by_cases hb2:b=a
    ·have z'':=(if_pos hb2).symm.trans z'
     cases z''
     exact .inl ⟨hb2,_,_,rfl⟩
    ·have z'':=(if_neg hb2).symm.trans z'
     cases z''
theorem aS9 {l:PySem.W.OpenLaw}{n k:Nat}{q:Program}{loose:List Str}{XP:(Str->Option Value)->Heap->Prop}{YP:World->Heap->Prop}{d:DefRec}{K:Params->Frag}{CX:World->CXT}{sp:World->Sp}{x:Str}{ts:List Addr}
  (hn:l.most=some n)(hn2:n<=sizeLine)(hdf:d.params.defaults=[])(hr:Room k callerA)
  (hY:∀(w:World)(h:Heap),YP w h->(K w.params).In h)(hYT:∀(w:World)(h:Heap),YP w h->∀ P∈ts,h.get? P=some (PySem.W.tabObj #[]))(htf:∀ p:Params,aj7 (K p) ts=true)
  (F:∀(w:World)(mg:Str->Option Value)(fa:Addr)(h:Heap),(K w.params).In h->h.Ns mainGlobals mg->mg d.name=some (.ref fa) ->
   ∃ fd:FuncData,(∀(s:Shared)(u:Value),BindsTo s fd ⟨[u],[]⟩ [(x,u)]) /\
    ∀ base:Heap,(K w.params).In base->base.Ns mainGlobals mg->U5 mg base->FnOk l.prog w (K w.params) mg base (CX w) k fa fd [x] (sp w))
  (hsp:∀(w:World)(H:Hp)(a:Addr)(ns:List Int),ns.length<=n->(∀ P∈ts,H P=some (.tbl #[]))->SqL (K w.params) H a (ns.map V.int)->sp w [.ref a] H (fun v _=>v=.bl true) fun _ _ _=>False)
  (hCX:∀(w:World)(H:Hp)(s:Shared)(e:Value)(s':Shared),CX w [] H s (fun _ _ _=>False) e s'->False) :
  PySem.W.WalkO q loose XP YP l.row.toRowW d [] (fun f vs=>PySem.call f vs):=by
 refine Att.attach_call hn hdf fun w s₀ s₁ mg mb fa o pm cd doc a vs ns G Y ho hd hcd hmg hobj hints hlen hg=>?_;have KX:=hY w _ Y;obtain⟨fd,hb,hF⟩:=F w mg fa _ KX G.T.g hmg;exact aN1 KX (hYT w _ Y) (htf _) G.T.bmain G.T.g G.T.b G.T.builtins G.T.nolimit hg hobj hints (Nat.le_trans hlen hn2) hr hF hb (fun H hT hS=>hsp w H a ns hlen hT hS) fun H e s'=>hCX w H s₁ e s'
structure DefMT (K:Frag)(C:Addr)(m qual:Str)(st:Stmt)(ps:List Str)(T:Addr):Prop where
 ex:∃(f c:Addr)(fd:FuncData),(∃(oc:Value)(od:Option Addr)(dV kV doc pm:Value)(an:Option Addr)(ct:Value)(osl:Array (Option Value)),
   fd=fnOf m qual (j2 st) (i3 st) (d7 st) dV kV doc pm an (.ref c) ct/\K.lookup f=some ⟨oc,od,.func fd,osl⟩/\codeIn K (.ref c) qual=true)/\PySem.W.codeHdIn K c T=true/\Meth K C m f/\I9 K fd ps []
theorem DefMT.ok {P:Program}{w:World}{K:Frag}{mg:Str->Option Value}{base:Heap}{C T:Addr}{m qual:Str}{st:Stmt}{N ps:List Str}{k:Nat}{sp:Sp}(D:DefMT K C m qual st ps T)(S:FnScope N ps (d7 st))(len:∀ vs H Q E,sp vs H Q E->vs.length=ps.length)
  (hbody:∀(f c:Addr)(A:Around)(outer:List Env)(s:Shared)(H:Hp)(vs:List V)(Q:VK)(E:XK),PySem.W.codeHdIn K c T=true->Room k (A.deeper (envOfC qual (d7 st) s.heap.objs.size f (.ref c)))->sp vs H Q E ->
   ∃ t,PSs (N5 CX0 P w K mg base N qual (d7 st) f (.ref c) A outer s H E).nox (i3 st) t/\t { nx:=fun _ H'=>Q .non H',rt:=Q } (start N vs) H):CalleeM P w K mg base (k + 1) C m ps [] noKw sp:=by
 obtain⟨f,c,fd,⟨oc,od,dV,kV,doc,pm,an,ct,osl,rfl,lk,hcd⟩,hc,mt,b⟩:=D.ex;refine⟨f,_,ap8 lk hcd S len fun A outer s H vs Q E hr hsp=>?_,mt,trivial,fun j hj=>?_⟩
 ·obtain⟨t,h,q⟩:=hbody f c A outer s H vs Q E hc hr hsp
  exact⟨t,h.nox,q⟩
 ·obtain rfl:j=0:=by simpa using hj
  exact⟨[],.nil,b⟩
end L2
namespace L2
open PySem
def S7 (K:Frag)(c:Addr):Addr:=match K.lookup c with
 | some ⟨_,_,.fields vs,_⟩=>(match (vs[11]?:Option Value) with | some (.ref P)=>P | _=>0)
 | _=>0
def as6 (K:Frag)(ts:List Addr):Sp:=fun vs H Q _=>∃(a:Addr)(ns:List Int),vs=[.ref a]/\SqL K H a (ns.map V.int)/\ns.length<=63/\(∀ P∈ts,H P=some (.tbl #[]))/\∀ H',Q (.bl true) H'
end L2
namespace L2
open PySem PySem.Spec PyProof.Rows
section
variable {X:Cx}
theorem az4:∀{xs:List V}{us:List Value},j9 xs us->j9 xs.reverse us.reverse
 | _,_,.nil=>.nil
 | _,_,.cons r t=>by
  rw[reverse_cons,reverse_cons];exact(az4 t).append (.cons r .nil)
end
def bk0 (K:Frag):Hp->V->Int×List Int×Int->Prop:=fun H x d=>∃ a e,x=.ref a/\SqT K H a [.int d.1,.ref e,.int d.2.2]/\SqT K H e (d.2.1.map V.int)
section
variable {X:Cx}
def eqC (d d':Int×List Int×Int)(j:Nat):Bool:=match j with
 | 0=>decide (d.1=d'.1)
 | 1=>decide (d.2.1=d'.2.1)
 | _=>decide (d.2.2=d'.2.2)
theorem a87 (d d':Int×List Int×Int):((List.range 3).all (eqC d d'))=decide (d=d'):=by
 obtain⟨a,b,c⟩:=d;obtain⟨a',b',c'⟩:=d';rw[Bool.eq_iff_iff,decide_eq_true_iff,all_eq_true]
 constructor
 ·intro q
  have h0:=of_decide_eq_true (q 0 (by decide))
  have h1:=of_decide_eq_true (q 1 (by decide))
  have h2:=of_decide_eq_true (q 2 (by decide))
  simp only at h0 h1 h2
  rw[h0,h1,h2]
 ·intro z i hi
  injection z with z1 z2
  injection z2 with z2 z3
  subst z1 z2 z3
  match i with
  | 0=>exact decide_eq_true rfl
  | 1=>exact decide_eq_true rfl
  | _ + 2=>exact decide_eq_true rfl
end
end L2
namespace L2
open PySem PySem.Spec PyProof.Rows PyProof
section
variable {X:Cx}
theorem aX0 (K:Frag)(h:X.K=K:=by rfl):EqRep X 2 (bk0 K) where
 eq:=fun H x y d d' hx hy A pins s σ u v I ru rv hu=>by
  subst h;obtain⟨a,e,rfl,ha,he⟩:=hx;obtain⟨b,e',rfl,hb,he'⟩:=hy
  cases ru
  cases rv
  by_cases hab:a=b
  ·subst hab
   have q1:=I.tuple_inj ha hb
   injection q1 with q2 q3
   injection q3 with q4 q5
   injection q5 with q6 q7
   injection q2 with q2
   injection q4 with q4
   injection q6 with q6
   subst q4;have q8:=I.tuple_inj he he';have q9:d.2.1=d'.2.1:=List.map_inj_right (fun x y z=>by injection z) |>.mp q8
   have:d=d':=by
    obtain⟨a1,a2,a3⟩:=d;obtain⟨b1,b2,b3⟩:=d'
    simp only at q2 q6 q9
    rw[q2,q6,q9]
   rw[this,decide_eq_true rfl];exact SeqAt.EqAt.same _
  ·obtain⟨us,r1,p1,_⟩:=I.tuple ha
   obtain⟨vs,r2,p2,_⟩:=I.tuple hb
   cases r1 with
   | cons r10 r1 =>
   cases r1 with
   | cons r11 r1 =>
   cases r1 with
   | cons r12 r1 =>
   cases r1
   cases r2 with
   | cons r20 r2 =>
   cases r2 with
   | cons r21 r2 =>
   cases r2 with
   | cons r22 r2 =>
   cases r2
   have:=SeqAt.RcAt.tuples (A:=A) (e:=eqC d d') p1 p2 (by lia) (fun j h1 h2=>by
    match j,h1,h2 with
    | 0,_,_=>exact aI0.eq H _ _ d.1 d'.1 rfl rfl A.in1 pins s σ _ _ I r10 r20 (by show A.units + 1 + 0 < cLine;lia)
    | 1,_,_=>exact(aF0 aI0).eq H _ _ d.2.1 d'.2.1 ⟨e,_,rfl,he,V4 _⟩ ⟨e',_,rfl,he',V4 _⟩ A.in1 pins s σ _ _ I r11 r21 (by show A.units + 1 + 1 < cLine;lia)
    | 2,_,_=>exact aI0.eq H _ _ d.2.2 d'.2.2 rfl rfl A.in1 pins s σ _ _ I r12 r22 (by show A.units + 1 + 0 < cLine;lia))
   refine SeqAt.EqAt.of_refs hab ?_;have e3:((List.range 3).all (eqC d d')&&(3 == 3))=decide (d=d'):=by rw[a87];simp
   rw[<- e3];exact this
 fn:=fun pins s σ H x d d' I hx hy=>by
  subst h;obtain⟨a,e,rfl,ha,he⟩:=hx;obtain⟨b,e',q0,hb,he'⟩:=hy
  cases q0
  have q1:=I.tuple_inj ha hb
  injection q1 with q2 q3
  injection q3 with q4 q5
  injection q5 with q6 q7
  injection q2 with q2
  injection q4 with q4
  injection q6 with q6
  subst q4;have q8:=I.tuple_inj he he';have q9:d.2.1=d'.2.1:=List.map_inj_right (fun x y z=>by injection z) |>.mp q8
  obtain⟨a1,a2,a3⟩:=d;obtain⟨b1,b2,b3⟩:=d'
  simp only at q2 q6 q9
  rw[q2,q6,q9]
theorem ac2 {α:Type}:∀ l:List α,(List.range l.length).filterMap (fun k=>l[k]?)=l
 | []=>rfl
 | a::t=>by
  rw[length_cons,List.range_succ_eq_map,filterMap_cons,List.getElem?_cons_zero,filterMap_map]
  show a::List.filterMap (fun k=>(a::t)[k + 1]?) (List.range t.length)=a::t
  have:(fun k=>(a::t)[k + 1]?)=fun k=>t[k]?:=funext fun k=>List.getElem?_cons_succ
  rw[this,ac2 t]
theorem O8 {α β:Type}{f g:α->Option β}:∀{l:List α},(∀ x∈l,f x=g x)->l.filterMap f=l.filterMap g
 | [],_=>rfl
 | x::t,h=>by rw[filterMap_cons,filterMap_cons,h x (mem_cons_self ..),O8 fun y hy=>h y (mem_cons_of_mem _ hy)]
theorem aT0 (its:List Value):slicePick its.toArray none none (some (-1))=its.reverse.toArray:=by
 have hb:sliceBounds none none (some (-1)) its.toArray.size=((its.length:Int) - 1,-1,-1):=by
  simp[sliceBounds]
 unfold slicePick;rw[hb]
 congr 1
 unfold sliceRange
 have hc:(if (its.length:Int) - 1 > -1 then ((its.length:Int) - 1 - -1 - -1 - 1) / (- -1) else 0)=(its.length:Int):=by
  by_cases h:(its.length:Int) - 1 > -1
  ·rw[if_pos h,show(- -1:Int)=1 by decide,Int.ediv_one]
   lia
  ·rw[if_neg h]
   lia
 simp only[show ¬ ((-1:Int) > 0) by decide,if_false]
 rw[hc,Int.toNat_natCast,filterMap_map]
 have e1:∀ k∈List.range its.length,(fun k:Nat=>its.toArray[((its.length:Int) - 1 + -1 * (k:Int)).toNat]?) k=its.reverse[k]?:=fun k hk=>by
  have hk':=List.mem_range.mp hk
  show its.toArray[((its.length:Int) - 1 + -1 * (k:Int)).toNat]? = _
  rw[List.getElem?_reverse hk',show((its.length:Int) - 1 + -1 * (k:Int)).toNat=its.length - 1 - k by lia]
  simp
 have:=ac2 its.reverse
 rw[length_reverse] at this;rw[<- this];exact O8 e1
def bm9 (K:Frag)(te ts:TE):TE:=fun σ H Q=>te σ H fun x H1=>ts σ H1 fun y H2=>∃ a xs,y=.int (-1)/\x=.ref a/\SqL K H2 a xs/\∀ p,H2 p=none->Q (.ref p) (upd H2 p (.lst xs.reverse))
theorem bc6 {e st:Expr}{te ts:TE}{pos p2:Pos}(K:Frag)(he:PE X e te)(hs:PE X st ts)(h:X.K=K:=by rfl):PE X (.Subscript e (.Slice none none (some st) p2) pos) (bm9 K te ts):=by
 subst h
 intro pins s σ H Q I h
 refine Subscript_ (thn (he pins s σ H _ I h) fun v s1 ⟨x,H1,I1,r1,q1⟩=>?_);refine wpAny_Slice ?_;rw[evalPart_none];refine wpAny_pure (wpAny_pure ?_);rw[evalPart_some];refine thn (hs pins s1 σ H1 _ I1 q1) fun u s2 ⟨y,H2,I2,r2,q2⟩=>?_;obtain⟨a,xs,rfl,rfl,hx,q⟩:=q2;obtain⟨t,rfl⟩:=r2
 cases r1
 have I3:Inv X pins σ H2 { s2 with heap:=s2.heap.push { cls:=.type "slice",data:=.fields #[.none,.none,.int (-1) t] } }:=I2.kept (t':=s2.toks) fun b ob q=>Heap.get?_push_of_some _ q
 obtain⟨its,r,ht,hz⟩:=I3.list hx;have hlen:=r.length
 show wpAny (model X.prog X.w) X.A (subscriptTail e (.Slice none none (some st) p2) (.ref a) (.ref s2.heap.objs.size)) (EP X pins σ Q) X.xe { s2 with heap:=s2.heap.push { cls:=.type "slice",data:=.fields #[.none,.none,.int (-1) t] } }
 refine tail_any (ops:=[.ref a,.ref s2.heap.objs.size]) ht.isList.typeIs slot_list_getitem.lookup ?_ (by with_unfolding_all rfl)
 refine wpAny_getItem_list_slice ht.isList (Heap.IsSliceOf.new ..) .none .none (.int (-1) t) (by decide) ?_ (by rw[size_toArray] <;> lia)
 rw[aT0];refine⟨.ref _,_,I3.laid (t':=s2.toks) (o:=.lst xs.reverse) (fun b ob q=>Heap.get?_push_of_some _ q) (Nat.le_refl _) ?_,rfl,q _ (I3.hok.fresh (Nat.le_refl _))⟩;exact⟨by rw[length_reverse];exact hz,_,0,az4 r,Heap.get?_push_size _ rfl⟩
end
end L2
namespace L2
open PySem PySem.Spec PyProof.Rows
def i6 {α:Type}:List α->List α
 | []=>[]
 | [a]=>[a]
 | a::_::t=>a::i6 t
theorem aS6 {α:Type}:∀(l:List α)(k:Nat),(i6 l)[k]? = l[2 * k]?
 | [],_=>by simp[i6]
 | [a],0=>rfl
 | [a],k + 1=>by simp[i6]
 | a::b::t,0=>rfl
 | a::b::t,k + 1=>by
  show(a::i6 t)[k + 1]? = (a::b::t)[2 * k + 2]?
  rw[List.getElem?_cons_succ,List.getElem?_cons_succ,List.getElem?_cons_succ];exact aS6 t k
theorem V1 {α:Type}:∀ l:List α,(i6 l).length=(l.length + 1) / 2
 | []=>by simp[i6]
 | [a]=>by simp[i6]
 | a::b::t=>by
  show(i6 t).length + 1=(t.length + 1 + 1 + 1) / 2
  rw[V1 t];lia
theorem aD2 {α β:Type}(f:α->β):∀ l:List α,i6 (l.map f)=(i6 l).map f
 | []=>rfl
 | [a]=>rfl
 | a::b::t=>congrArg (f a::·) (aD2 f t)
theorem aq8:∀{xs:List V}{us:List Value},j9 xs us->j9 (i6 xs) (i6 us)
 | [],[],.nil=>.nil
 | [_],[_],.cons h .nil=>.cons h .nil
 | _::_::_,_::_::_,.cons h (.cons _ t)=>.cons h (aq8 t)
theorem am8:∀{xs:List V}{us:List Value}(n:Nat),j9 xs us->j9 (xs.drop n) (us.drop n)
 | _,_,0,h=>h
 | [],[],n + 1,.nil=>.nil
 | _::_,_::_,n + 1,.cons _ t=>am8 n t
theorem ax6 (its:List Value)(d:Nat)(lo:Option Int)(hb:sliceBounds lo none (some 2) its.toArray.size=(((min d its.length:Nat):Int),(its.length:Int),2)):slicePick its.toArray lo none (some 2)=(i6 (its.drop d)).toArray:=by
 unfold slicePick;rw[hb]
 congr 1
 unfold sliceRange
 simp only[show((2:Int) > 0) by decide,if_true]
 have hl:(i6 (its.drop d)).length=(its.length - d + 1) / 2:=by rw[V1,length_drop]
 have hc:(if ((min d its.length:Nat):Int) < (its.length:Int) then ((its.length:Int) - ((min d its.length:Nat):Int) + 2 - 1) / 2 else 0)=(((i6 (its.drop d)).length:Nat):Int):=by
  rw[hl]
  split <;> lia
 rw[hc,Int.toNat_natCast,filterMap_map]
 have:=ac2 (i6 (its.drop d))
 refine(O8 fun k hk=>?_).trans this;have hk':=List.mem_range.mp hk
 show its.toArray[(((min d its.length:Nat):Int) + 2 * (k:Int)).toNat]? = _
 rw[aS6,List.getElem?_drop,show(((min d its.length:Nat):Int) + 2 * (k:Int)).toNat=d + 2 * k by lia]
 simp
section
variable {X:Cx}
def bj9 (K:Frag)(te ts:TE):TE:=fun σ H Q=>te σ H fun x H1=>ts σ H1 fun y H2=>∃ a xs,y=.int 2/\x=.ref a/\SqL K H2 a xs/\∀ p,H2 p=none->Q (.ref p) (upd H2 p (.lst (i6 xs)))
theorem a67 {e st:Expr}{te ts:TE}{pos p2:Pos}(K:Frag)(he:PE X e te)(hs:PE X st ts)(h:X.K=K:=by rfl):PE X (.Subscript e (.Slice none none (some st) p2) pos) (bj9 K te ts):=by
 subst h
 intro pins s σ H Q I h
 refine Subscript_ (thn (he pins s σ H _ I h) fun v s1 ⟨x,H1,I1,r1,q1⟩=>?_);refine wpAny_Slice ?_;rw[evalPart_none];refine wpAny_pure (wpAny_pure ?_);rw[evalPart_some];refine thn (hs pins s1 σ H1 _ I1 q1) fun u s2 ⟨y,H2,I2,r2,q2⟩=>?_;obtain⟨a,xs,rfl,rfl,hx,q⟩:=q2;obtain⟨t,rfl⟩:=r2
 cases r1
 have I3:Inv X pins σ H2 { s2 with heap:=s2.heap.push { cls:=.type "slice",data:=.fields #[.none,.none,.int 2 t] } }:=I2.kept (t':=s2.toks) fun b ob q=>Heap.get?_push_of_some _ q
 obtain⟨its,r,ht,hz⟩:=I3.list hx;have hlen:=r.length
 show wpAny (model X.prog X.w) X.A (subscriptTail e (.Slice none none (some st) p2) (.ref a) (.ref s2.heap.objs.size)) (EP X pins σ Q) X.xe { s2 with heap:=s2.heap.push { cls:=.type "slice",data:=.fields #[.none,.none,.int 2 t] } }
 refine tail_any (ops:=[.ref a,.ref s2.heap.objs.size]) ht.isList.typeIs slot_list_getitem.lookup ?_ (by with_unfolding_all rfl)
 refine wpAny_getItem_list_slice ht.isList (Heap.IsSliceOf.new ..) .none .none (.int 2 t) (by decide) ?_ (by rw[size_toArray] <;> lia)
 rw[ax6 its 0 none (by simp[sliceBounds]),List.drop_zero]
 refine⟨.ref _,_,I3.laid (t':=s2.toks) (o:=.lst (i6 xs)) (fun b ob q=>Heap.get?_push_of_some _ q) (Nat.le_refl _) ?_,rfl,q _ (I3.hok.fresh (Nat.le_refl _))⟩;exact⟨by rw[V1];lia,_,0,aq8 r,Heap.get?_push_size _ rfl⟩
def be4 (K:Frag)(te tl ts:TE):TE:=fun σ H Q=>te σ H fun x H1=>tl σ H1 fun z H2=>ts σ H2 fun y H3=>∃ a xs,z=.int 1/\y=.int 2/\x=.ref a/\SqL K H3 a xs/\∀ p,H3 p=none->Q (.ref p) (upd H3 p (.lst (i6 (xs.drop 1))))
theorem aU4 {e lo st:Expr}{te tl ts:TE}{pos p2:Pos}(K:Frag)(he:PE X e te)(hlo:PE X lo tl)(hs:PE X st ts)(h:X.K=K:=by rfl):PE X (.Subscript e (.Slice (some lo) none (some st) p2) pos) (be4 K te tl ts):=by
 subst h
 intro pins s σ H Q I h
 refine Subscript_ (thn (he pins s σ H _ I h) fun v s1 ⟨x,H1,I1,r1,q1⟩=>?_);refine wpAny_Slice ?_;rw[evalPart_some];refine thn (hlo pins s1 σ H1 _ I1 q1) fun u1 s2 ⟨z,H2,I2,r3,q3⟩=>?_;rw[evalPart_none];refine wpAny_pure ?_;rw[evalPart_some];refine thn (hs pins s2 σ H2 _ I2 q3) fun u s3 ⟨y,H3,I3',r2,q2⟩=>?_;obtain⟨a,xs,rfl,rfl,rfl,hx,q⟩:=q2;obtain⟨t,rfl⟩:=r2;obtain⟨t1,rfl⟩:=r3
 cases r1
 have I3:Inv X pins σ H3 { s3 with heap:=s3.heap.push { cls:=.type "slice",data:=.fields #[.int 1 t1,.none,.int 2 t] } }:=I3'.kept (t':=s3.toks) fun b ob q=>Heap.get?_push_of_some _ q
 obtain⟨its,r,ht,hz⟩:=I3.list hx;have hlen:=r.length
 show wpAny (model X.prog X.w) X.A (subscriptTail e (.Slice (some lo) none (some st) p2) (.ref a) (.ref s3.heap.objs.size)) (EP X pins σ Q) X.xe { s3 with heap:=s3.heap.push { cls:=.type "slice",data:=.fields #[.int 1 t1,.none,.int 2 t] } }
 refine tail_any (ops:=[.ref a,.ref s3.heap.objs.size]) ht.isList.typeIs slot_list_getitem.lookup ?_ (by with_unfolding_all rfl)
 refine wpAny_getItem_list_slice ht.isList (Heap.IsSliceOf.new ..) (.int 1 t1) .none (.int 2 t) (by decide) ?_ (by rw[size_toArray] <;> lia)
 rw[ax6 its 1 (some 1) (by simp[sliceBounds];lia)]
 refine⟨.ref _,_,I3.laid (t':=s3.toks) (o:=.lst (i6 (xs.drop 1))) (fun b ob q=>Heap.get?_push_of_some _ q) (Nat.le_refl _) ?_,rfl,q _ (I3.hok.fresh (Nat.le_refl _))⟩;exact⟨by rw[V1,length_drop];lia,_,0,aq8 (am8 1 r),Heap.get?_push_size _ rfl⟩
theorem am5:MtR X "list.pop" aV1:=a04
end
end L2
open PySem
namespace L2
variable {X:Cx}
end L2
namespace L2
open PySem PySem.Spec PyProof.Rows
def aU2 (K:Frag)(ps:List Str)(kw:Str)(d0:V)(fd:FuncData):Prop:=∃ u0,o5 d0 u0/\∀(s:Shared)(us:List Value)(v:Value),K.In s.heap->(us++[u0,v]).length=ps.length->BindsTo s fd ⟨us,[(kw,v)]⟩ (ps.zip (us++[u0,v]))
structure DefDK (K:Frag)(mg:Str->Option Value)(x:Str)(st:Stmt)(ps:List Str)(dvs:List V)(kw:Str)(d0:V):Prop where
 ex:∃(f:Addr)(fd:FuncData),(∃(oc:Value)(od:Option Addr)(dV kV doc pm:Value)(an:Option Addr)(cdv ct:Value)(osl:Array (Option Value)),
   fd=fnOf x x (j2 st) (i3 st) (d7 st) dV kV doc pm an cdv ct/\K.lookup f=some ⟨oc,od,.func fd,osl⟩/\codeIn K cdv x=true)/\keepIn K (.ref f)=true /\
  (∀ m,m<=dvs.length->∃ ds,j9 (dvs.drop m) ds/\I9 K fd ps ds)/\mg x=some (.ref f)/\aU2 K ps kw d0 fd
structure CalleeFK (P:Program)(w:World)(K:Frag)(mg:Str->Option Value)(base:Heap)(k:Nat)(x:Str)(ps:List Str)(dvs:List V)(kw:Str)(d0:V)(sp:Sp):Prop where
 ex:∃(f:Addr)(fd:FuncData),FnOk P w K mg base (CXF P w) k f fd ps sp/\(∀ m,m<=dvs.length->∃ ds,j9 (dvs.drop m) ds/\I9 K fd ps ds)/\keepIn K (.ref f)=true/\mg x=some (.ref f)/\aU2 K ps kw d0 fd
section
variable {P:Program}{w:World}{K:Frag}{mg:Str->Option Value}{base:Heap}
theorem CalleeFK.toF {x:Str}{ps:List Str}{dvs:List V}{kw:Str}{d0:V}{k:Nat}{sp:Sp}(C:CalleeFK P w K mg base k x ps dvs kw d0 sp):CalleeF P w K mg base k x ps dvs sp:=by
 obtain⟨f,fd,F,b,kp,m,_⟩:=C.ex;exact⟨f,fd,F,b,kp,m⟩
theorem DefDK.okF {x:Str}{st:Stmt}{N ps:List Str}{k:Nat}{dvs:List V}{kw:Str}{d0:V}{sp:Sp}(D:DefDK K mg x st ps dvs kw d0)(S:FnScope N ps (d7 st))(len:∀ vs H Q E,sp vs H Q E->vs.length=ps.length)
  (hbody:∀(f:Addr)(cdv:Value)(A:Around)(outer:List Env)(s:Shared)(H:Hp)(vs:List V)(Q:VK)(E:XK),Room k (A.deeper (envOfC x (d7 st) s.heap.objs.size f cdv))->sp vs H Q E ->
   ∃ t,PSs (N5 (CXF P w) P w K mg base N x (d7 st) f cdv A outer s H E) (i3 st) t/\t { nx:=fun _ H'=>Q .non H',rt:=Q } (start N vs) H):CalleeFK P w K mg base (k + 1) x ps dvs kw d0 sp:=by
 obtain⟨f,fd,⟨oc,od,dV,kV,doc,pm,an,cdv,ct,osl,rfl,lk,hcd⟩,kp,b,m,hk⟩:=D.ex;exact⟨f,_,ap8 lk hcd S len fun A outer s H vs Q E hr hsp=>hbody f cdv A outer s H vs Q E hr hsp,b,kp,m,hk⟩
end
section
variable {X:Cx}{k n:Nat}{ps:List Str}{dvs:List V}{sp:Sp}{x:Str}{p pos kpos:Pos}{e ev:Expr}{es:List Expr}{t:TA}{te:TE}{E:St->XK}{kw:Str}{d0:V}
def bc9 (sp:Sp)(d0:V)(E:St->XK)(t:TA)(te:TE):TE:=fun σ H Q=>t σ H fun vs H1=>te σ H1 fun z H2=>sp (vs++[d0,z]) H2 Q (E σ)
theorem a69 (C:CalleeFK X.prog X.w X.K X.mg X.base k x ps dvs kw d0 sp)(hx:ax5 X E)(hr:Room n X.A)(hg:Gl X x)(ha:PA X (e::es) t)(hv:PE X ev te)(hk:k<=n:=by decide)(hdb:(x == ("__debug__":Str))=false:=by decide)
  (hall:(backToKw pos (keywordEach [⟨some kw,ev,kpos⟩] X.env)).all (·.1.isSome)=true:=by rfl) (hks:(backToKw pos (keywordEach [⟨some kw,ev,kpos⟩] X.env)).filterMap (·.1)=[kw]:=by rfl)
  (he:starEach (e::es) X.env=(false,eval e X.env)::starEach es X.env:=by rfl)
  (hpl:((backTo pos (starEach (e::es) X.env)).any (·.1) || (backToKw pos (keywordEach [⟨some kw,ev,kpos⟩] X.env)).any (·.1.isNone))=false:=by rfl) :
  PE X (.Call (.Name x p) (e::es) [⟨some kw,ev,kpos⟩] pos) (bc9 sp d0 E t te):=by
 obtain⟨f,fd,F,b,kp,mm,u0,r0,hb⟩:=C.ex
 intro pins s σ H Q I h
 refine wpAny_Call_Name_kw (M4 I hg mm ?_ hdb);refine PySem.W.callWith_KW (h₀:=X.base) I.ok.mod.kin kp hall (thn (ha pos pins s σ H _ I h) fun us s1 ⟨vs,H1,I1,r,q⟩=>?_) hpl he;refine thn ((a97 hv bd8) pos pins s1 σ H1 (fun zs H2=>match zs with | [z]=>sp (vs++[d0,z]) H2 Q (E σ) | _=>False) I1 q) fun ws s2 ⟨zs,H2,I2,rz,q2⟩=>⟨I2.kIn,?_⟩
 obtain⟨z,rfl,q2⟩:∃ z,zs=[z]/\sp (vs++[d0,z]) H2 Q (E σ):=by
  match zs,q2 with
  | [z],q2=>exact⟨z,rfl,q2⟩
 rw[hks];obtain⟨u,rfl,ru⟩:=K5 rz;have r2:j9 (vs++[d0,z]) (us++[u0,u]):=r.append (.cons r0 (.cons ru .nil));have hl:(us++[u0,u]).length=ps.length:=by rw[<- r2.length];exact F.len _ _ _ _ q2
 show wpAny _ _ (call (.ref f) us [(kw,u)]) _ _ _
 refine wpAny_call (codeAny_mono (F.run X.A X.stack s2 H2 ⟨us,[(kw,u)]⟩ (us++[u0,u]) (vs++[d0,z]) Q (E σ) (hr.mono hk) I2.env0 (hb s2 us u I2.kIn hl) r2 q2) fun r s' hq=>?_)
 cases r with
 | error e=>exact hx pins σ H2 s2 e s' I2 hq
 | ok fl =>
  cases fl with
  | ret u=>exact I2.after hq
  | next=>exact False.elim hq
  | brk=>exact False.elim hq
  | cont=>exact False.elim hq
theorem aw2:MtR X "list.reverse" aB3:=aH9
end
end L2
namespace PySem.W.Fast
def tw8093638353597579482:=0
def tw16702410559022061197:=0
def tw9880554152572422926:=0
def tw413773097881414795:=0
def tw16124294998528365604:=0
def tw3868360057927881192:=0
def tw8550556112015686472:=0
def tw743229265259117401:=0
def tw3029335912626644917:=0
def tw13560639376135102644:=0
def tw4696868612017512633:=0
def tw1010865004551439234:=0
def tw12517668207789099730:=0
def tw12222830725708637412:=0
def tw7848761883266671472:=0
def tw13160117489993199517:=0
def tw17047213382321209763:=0
def tw8698721073277026748:=0
def tw14587890498968563832:=0
def tw8378259693090812412:=0
def tw8545242611628866477:=0
def tw8909229315899226651:=0
def tw13827469464880482286:=0
def tw520617420861203355:=0
def tw17125707116516523406:=0
def tw7054153180081966351:=0
def tw10339880063948758591:=0
def tw6690215185602878729:=0
def tw6794510412131450653:=0
def tw14959988913904819810:=0
def tw6464824119565782378:=0
def tw8257938495863997486:=0
def tw1392766255196303105:=0
def tw5749435474239979767:=0
def tw2881716090890138449:=0
def tw1967590592586031381:=0
def tw8900828360512408154:=0
def tw13860860192119748895:=0
def tw9955723793831891011:=0
def tw13680236892336284037:=0
def tw1539640033055063659:=0
def tw9391458621260451778:=0
def tw15295186224278114971:=0
def tw16772869882709415696:=0
def tw2038939323814758474:=0
def tw15616644680937112095:=0
def tw1585185773604607253:=0
def tw5681439064172176192:=0
def tw2384244238522233903:=0
def tw9560540234861962249:=0
def tw18231915854132719187:=0
def tw5004559794176151025:=0
def tw9621217317756631971:=0
def tw8730426066805016845:=0
def tw1665507707028333005:=0
def tw117144025593683049:=0
def tw1835719912158156282:=0
def tw12098595676075150336:=0
def tw15234946908602851067:=0
def tw7072895210528151859:=0
def tw10698908479006824006:=0
def tw862306307393898199:=0
def tw12477227959916017522:=0
def tw2273470675965464728:=0
def tw7801865288150345039:=0
def tw2582295813695112524:=0
def tw15386631229868174813:=0
def tw11705688667915389504:=0
def tw3433306039367196797:=0
def tw8448938082508850188:=0
def tw14159486990086912906:=0
def tw7733559724185470342:=0
def tw7721930213378502444:=0
def tw15135408371304044281:=0
def tw1007630572330670791:=0
def tw11977982744999812473:=0
def tw14299286133090807277:=0
def tw12656857324961560744:=0
def tw969250421200418031:=0
def tw4441737519427304979:=0
end PySem.W.Fast
namespace My
open PySem L2 PyProof.Rows
theorem mkF {N P:List Str}{sc:Scope}(a:sc.kind=.function:=by rfl)(b:sc.isCoroutine=false:=by rfl)(c:sc.isGenerator=false:=by rfl)(d:N.Nodup:=by decide +kernel)(e:N.take P.length=P:=by rfl)(f:∀ x∈P,sc.names.lookup x=some .local\/sc.names.lookup x=some .cell:=by decide +kernel)(g:∀ y∈sc.names,y.2≠.free:=by decide +kernel):FnScope N P sc:=⟨a,b,c,d,e,f,g⟩
seal PE PT PW PA PS PSs PG PGs PI aO9 PO OpR UnR z7 bj3 IxR SlR MtR MtM a88 bd1 PIp
def top (i:Nat):Stmt:=PySem.Challenge.pw_crossracks_k25_whole_deeds.main.body.getD i (.Pass ⟨0,0,0,0⟩)
structure Txt (K:Frag)(mg:Str->Option Value):Prop where
 cz:mg "len" = none
 ax:mg "isinstance" = none
 lL:mg "int" = none
 lM:mg "bool" = none
 eN:mg "tuple" = none
 cY:mg "list" = none
 kX:mg "set" = none
 cU:mg "sorted" = none
 jS:mg "divmod" = none
 bW:mg "range" = none
 mx:mg "abs" = none
 lN:mg "min" = none
 mP:mg "max" = none
 mQ:mg "any" = none
 my:mg "all" = none
 qa:mg "str" = none
 m_ValueError:mg "ValueError" = none
structure TxtC (K:Frag)(mg:Str->Option Value)(aw:Addr)(ah:Addr)(ae:Addr)(aj:Addr)(av:Addr)(ad:Addr)(aq:Addr)(ao:Addr)(af:Addr)(ar:Addr)(ap:Addr)(am:Addr)(aa:Addr)(au:Addr):Prop where
 nJ:mg "Rule" = some (.ref aw)
 lO:Made K mg "Rule" aw
 lZ:Cls K aw
 lP:findIn K (.ref aw) "__init__" = some (some (.builtin "object.__init__"))
 nK:∀(H:Hp)(a dx:Addr)(fs:List (Str×V)),H a=some (.ins aw dx fs)->TyOf K H (.ref a) (.ref aw)
 mD:mg "Fullest" = some (.ref ah)
 li:Made K mg "Fullest" ah
 kE:Cls K ah
 lj:findIn K (.ref ah) "__init__" = some (some (.builtin "object.__init__"))
 mE:∀(H:Hp)(a dx:Addr)(fs:List (Str×V)),H a=some (.ins ah dx fs)->TyOf K H (.ref a) (.ref ah)
 mz:mg "Emptiest" = some (.ref ae)
 kF:Made K mg "Emptiest" ae
 jT:Cls K ae
 kG:findIn K (.ref ae) "__init__" = some (some (.builtin "object.__init__"))
 mB:∀(H:Hp)(a dx:Addr)(fs:List (Str×V)),H a=some (.ins ae dx fs)->TyOf K H (.ref a) (.ref ae)
 mR:mg "Round" = some (.ref aj)
 ma:Made K mg "Round" aj
 fF:Cls K aj
 cO:T9 K aj "start"
 mS:∀(H:Hp)(a dx:Addr)(fs:List (Str×V)),H a=some (.ins aj dx fs)->TyOf K H (.ref a) (.ref aj)
 nM:mg "Told" = some (.ref av)
 mF:Made K mg "Told" av
 jE:Cls K av
 gK:T9 K av "racks"
 nN:∀(H:Hp)(a dx:Addr)(fs:List (Str×V)),H a=some (.ins av dx fs)->TyOf K H (.ref a) (.ref av)
 eO:mg "HallError" = some (.ref ad)
 lq:mg "NoHall" = some (.ref aq)
 kH:mg "NoCalls" = some (.ref ao)
 lu:mg "NoLine" = some (.ref af)
 lw:mg "NoRule" = some (.ref ar)
 md:mg "Idle" = some (.ref ap)
 mf:mg "Busy" = some (.ref am)
 kI:mg "Engaged" = some (.ref aa)
 lx:mg "NoMove" = some (.ref au)
 jU:ExcC K mg "NoLine" af
 mT:ExcX K af
 mM:kitOne K (.ref af) (.type "ValueError")=some true
 mO:exmOne K (.ref af) (.ref ad)=some true
 kD:kitOne K (.ref af) (.ref ad)=some true
 ly:kitOne K (.ref af) (.ref aq)=some false
 kY:kitOne K (.ref af) (.ref ao)=some false
 lz:kitOne K (.ref af) (.ref af)=some true
 lA:kitOne K (.ref af) (.ref ar)=some false
 lQ:kitOne K (.ref af) (.ref ap)=some false
 lR:kitOne K (.ref af) (.ref am)=some false
 kZ:kitOne K (.ref af) (.ref aa)=some false
 lB:kitOne K (.ref af) (.ref au)=some false
 mG:ExcC K mg "Idle" ap
 mH:ExcX K ap
 mh:kitOne K (.ref ap) (.type "ValueError")=some true
 mi:exmOne K (.ref ap) (.ref ad)=some true
 gL:kitOne K (.ref ap) (.ref ad)=some true
 iY:kitOne K (.ref ap) (.ref aq)=some false
 iP:kitOne K (.ref ap) (.ref ao)=some false
 iZ:kitOne K (.ref ap) (.ref af)=some false
 ja:kitOne K (.ref ap) (.ref ar)=some false
 jF:kitOne K (.ref ap) (.ref ap)=some true
 jG:kitOne K (.ref ap) (.ref am)=some false
 iQ:kitOne K (.ref ap) (.ref aa)=some false
 jb:kitOne K (.ref ap) (.ref au)=some false
 lT:∃ fI,ExcI K mg "Busy" am fI
 lU:ExcN K am
 kJ:ExcX K am
 mj:kitOne K (.ref am) (.type "ValueError")=some true
 ml:exmOne K (.ref am) (.ref ad)=some true
 gM:kitOne K (.ref am) (.ref ad)=some true
 jc:kitOne K (.ref am) (.ref aq)=some false
 iR:kitOne K (.ref am) (.ref ao)=some false
 jd:kitOne K (.ref am) (.ref af)=some false
 jf:kitOne K (.ref am) (.ref ar)=some false
 jH:kitOne K (.ref am) (.ref ap)=some false
 jI:kitOne K (.ref am) (.ref am)=some true
 iS:kitOne K (.ref am) (.ref aa)=some false
 jg:kitOne K (.ref am) (.ref au)=some false
 jh:findIn K (.ref am) "who" = some none
 lC:∃ fI,ExcI K mg "Engaged" aa fI
 eK:ExcN K aa
 dQ:ExcX K aa
 kK:kitOne K (.ref aa) (.type "ValueError")=some true
 kL:exmOne K (.ref aa) (.ref ad)=some true
 fG:kitOne K (.ref aa) (.ref ad)=some true
 gN:kitOne K (.ref aa) (.ref aq)=some false
 gv:kitOne K (.ref aa) (.ref ao)=some false
 gO:kitOne K (.ref aa) (.ref af)=some false
 gQ:kitOne K (.ref aa) (.ref ar)=some false
 iT:kitOne K (.ref aa) (.ref ap)=some false
 iU:kitOne K (.ref aa) (.ref am)=some false
 gw:kitOne K (.ref aa) (.ref aa)=some true
 gR:kitOne K (.ref aa) (.ref au)=some false
 fB:findIn K (.ref aa) "holds" = some none
 cZ:findIn K (.ref aa) "least" = some none
def cell (ns:List Int)(k:Nat):Int:=ns.getD k 0
theorem aW6 {ns:List Int}{k:Nat}(h:k < ns.length):atI (ns.map V.int) (k:Int)=some (.int (cell ns k)):=A0 (by
 rw[List.getElem?_map,List.getElem?_eq_getElem h]
 simp[cell,List.getD,h])
theorem g7 {H:Hp}{p:Addr}(h:H p=none)(o:HO):j0 H (upd H p o):=fun b u q=>by rw[h7 (h9 q h)];exact q
theorem j0.put {H H':Hp}{l:Addr}{o:HO}(s:j0 H H')(hl:H l=none):j0 H (upd H' l o):=fun b u q=>by
 rw[h7 (h9 q hl)];exact s b u q
def aE1 (K:Frag):Sp:=fun vs H Q _=>∃(a:Addr)(ns:List Int)(k:Nat),vs=[.ref a,.int k]/\SqL K H a (ns.map V.int)/\Q (.int (cell ns k)) H
structure Hall where
 i:Int
 c:Int
 m:Int
 o:Int
 e:Int
def Hall.row (h:Hall):List Int:=[h.i,h.c,h.m,h.o,h.e]
structure Hall.Ok (h:Hall):Prop where
 i:1<=h.i/\h.i<=12
 c:1<=h.c/\h.c<=12
 m:1<=h.m/\h.m<=24
 o:1<=h.o/\h.o<=12
 e:1<=h.e/\h.e<=12
theorem aX8 {a b:Int}(ha:1<=a/\a<=12)(hb:1<=b/\b<=12):1<=a * b/\a * b<=144:=by
 have h1:1 * 1<=a * b:=Int.mul_le_mul ha.1 hb.1 (by decide) (by lia)
 have h2:a * b<=12 * 12:=Int.mul_le_mul ha.2 hb.2 (by lia) (by decide)
 lia
theorem Hall.Ok.ic {h:Hall}(k:h.Ok):1<=h.i * h.c/\h.i * h.c<=144:=aX8 k.i k.c
theorem Hall.Ok.oe {h:Hall}(k:h.Ok):1<=h.o * h.e/\h.o * h.e<=144:=aX8 k.o k.e
def aU9 (K:Frag):Sp:=fun vs H Q _=>∃(a:Addr)(ns:List Int),vs=[.ref a]/\SqL K H a (ns.map V.int)/\∀(p:Addr)(h:Hall)(H':Hp),h.Ok->j0 H H'->H' p=some (.tup (h.row.map V.int))->Q (.ref p) H'
def ai9 (j:Nat):Int:=if j=2 then 24 else 12
theorem a77 {i:Nat}(hi:i < 5):(∃ m:Int,atI ([4,4,6,4,4].map V.int) (i:Int)=some (.int m)/\1<=m/\m<=ai9 i)/\∃ m:Int,atI ([12,12,24,12,12].map V.int) (i:Int)=some (.int m)/\1<=m/\m<=ai9 i:=by
 match i,hi with
 | 0,_=>exact⟨⟨_,rfl,by decide,by decide⟩,_,rfl,by decide,by decide⟩
 | 1,_=>exact⟨⟨_,rfl,by decide,by decide⟩,_,rfl,by decide,by decide⟩
 | 2,_=>exact⟨⟨_,rfl,by decide,by decide⟩,_,rfl,by decide,by decide⟩
 | 3,_=>exact⟨⟨_,rfl,by decide,by decide⟩,_,rfl,by decide,by decide⟩
 | 4,_=>exact⟨⟨_,rfl,by decide,by decide⟩,_,rfl,by decide,by decide⟩
section
variable {P:Program}{w:World}{K:Frag}{mg:Str->Option Value}{base:Heap}
theorem j0.seqT {H H':Hp}{a:Addr}{xs:List V}(e:j0 H H')(h:SqT K H a xs):SqT K H' a xs:=by
 rcases h with(h | ⟨o,h⟩) | h
 ·exact .inl (.inl (e _ _ h))
 ·exact .inl (.inr ⟨o,e _ _ h⟩)
 ·exact .inr h
theorem af0:FnScope ["_law_script","_law_k"] ["_law_script","_law_k"] (d7 (top 45)):=mkF
theorem a55 (T:Txt K mg)(D:Def K mg "_law_cell_at" (top 45) ["_law_script","_law_k"]):Callee P w K mg base 1 "_law_cell_at" ["_law_script","_law_k"] (aE1 K):=by
 refine D.ok af0 (fun vs H Q E h=>?_) (fun f cdv A outer s H vs Q E hr h=>?_)
 ·obtain⟨a,ns,k,rfl,_⟩:=h
  rfl
 obtain⟨a,ns,k,rfl,hS,q⟩:=h
 refine⟨_,(g6 (m7 (i4 aK4 (pv 1) (i8 (y0 K) rfl T.cz boot_len (b8 (pv 0) d8 b9)) (j5 _)) (g9 (i7 (j3 (m3 K) (pv 0) (pv 1) (fun _ _=>rfl)))) j7)
  (g9 (i7 d9))),?_⟩
 refine⟨_,rfl,_,rfl,a,_,rfl,.inl hS,_,_,rfl,rfl,_,rfl,?_⟩;refine z8 (fun c=>?_) (fun c=>?_)
 ·have c':(k:Int) < (((ns.map V.int).length:Nat):Int):=of_decide_eq_true c
  rw[length_map] at c';exact⟨_,rfl,_,rfl,a,_,_,_,rfl,rfl,hS,aW6 (by lia),q⟩
 ·have c':¬ (k:Int) < (((ns.map V.int).length:Nat):Int):=of_decide_eq_false (Bool.eq_false_iff.mpr c)
  rw[length_map] at c';have e:cell ns k=0:=by simp[cell,List.getD,List.getElem?_eq_none (show ns.length<=k by lia)]
  rw[e] at q;exact q
theorem C9:FnScope ["_law_script","_law_sizes","_law_k","_law_number_here","_law_most_here"] ["_law_script"] (d7 (top 46)):=mkF
theorem a08 (T:Txt K mg)(bX:Callee P w K mg base 1 "_law_cell_at" ["_law_script","_law_k"] (aE1 K))(D:Def K mg "_law_hall" (top 46) ["_law_script"]):Callee P w K mg base 2 "_law_hall" ["_law_script"] (aU9 K):=by
 refine D.ok C9 (fun vs H Q E h=>?_) (fun f cdv A outer s H vs Q E hr h=>?_)
 ·obtain⟨a,ns,rfl,_⟩:=h
  rfl
 obtain⟨a,ns,rfl,hS,q⟩:=h
 refine⟨_,(g6 (i0 (i:=1) C9.nd rfl (Or.inl rfl) (r6 d8))
  (g6 (B0 PassesOwn.never rfl (D6 rfl T.bW (b8 d9 d8 m4)) (m5 (i:=2) C9.nd rfl (Or.inl rfl))
  (g6 (i0 (i:=3) C9.nd rfl (Or.inl rfl) (i5 J6 (i5 r9 (i5 p0 (m9 bX hr rfl (b8 (pv 0) (b8 (pv 2) d8 b9) b9)) (i5 aq7 d9 d9)) (i5 J6 (i5 r9 d9 (pv 2)) d9)) (i5 r9 d9 (pv 2))))
  (g6 (i0 (i:=4) C9.nd rfl (Or.inl rfl) (j3 (m3 K) (r6 (b8 d9 (b8 d9 (b8 d9 (b8 d9 (b8 d9 d8 m4) m4) m4) m4) m4)) (pv 2) (fun _ _=>rfl)))
  (g6 (m7 (i4 B2 (i5 p0 (m9 bX hr rfl (b8 (pv 0) (b8 d9 d8 m4) b9)) d9) d9 (j5 _)) (g9 (i0 (i:=4) C9.nd rfl (Or.inl rfl) (j3 (m3 K) (r6 (b8 d9 (b8 d9 (b8 d9 (b8 d9 (b8 d9 d8 m4) m4) m4) m4) m4)) (pv 2) (fun _ _=>rfl)))) j7)
  (g9 (A4 (C4 K PySem.F.plainAttrs_list PySem.F.slot_list_append PySem.F.type_list_append x8 (pv 1) (b8 (i5 J6 d9 (i5 p0 (i5 p0 (pv 3) d9) (pv 4))) d8 L9))))))))
  (g9 (i7 (p7 (P8 K) rfl T.eN boot_tuple (b8 (pv 1) d8 b9)))))),?_⟩
 refine⟨(by show 0<=sizeLine;decide),fun l hl=>?_⟩
 have el:=d6 (H:=H) (a:=l) (o:=.lst []);have s1:=g7 hl (.lst []);generalize upd H l (.lst [])=H1 at el s1 ⊢;refine⟨_,rfl,by decide,by decide,?_⟩
 refine D8 (lo:=0) (n:=5) (fun i σ H'=>j0 H H'/\∃ xs:List Int,xs.length=i/\(∀ j x,xs[j]? = some x->1<=x/\x<=ai9 j)/\H' l=some (.lst (xs.map V.int))/\∃ v2 v3 v4,σ=[some (.ref a),some (.ref l),v2,v3,v4])
  ⟨s1,[],rfl,(fun j x hx=>by simp at hx),el,none,none,none,rfl⟩ ?_ ?_
 ·rintro i σ H' hi ⟨s2,xs,hlen,hx,el2,v2,v3,v4,rfl⟩
  rw[Int.zero_add];obtain⟨⟨m1,a1,b1,c1⟩,m2,a2,b2,c2⟩:=a77 hi
  have fin:∀(H3:Hp),j0 H' H3->∀ n m:Int,1<=m->m<=ai9 i->H3 l=some (.lst (xs.map V.int))/\(xs.map V.int).length < sizeLine/\(∃ xs':List Int,xs'.length=i + 1/\(∀ j x,xs'[j]? = some x->1<=x/\x<=ai9 j)/\upd H3 l (.lst (xs.map V.int++[.int (1 + n % 999983 % m)])) l=some (.lst (xs'.map V.int)))/\j0 H (upd H3 l (.lst (xs.map V.int++[.int (1 + n % 999983 % m)]))):=fun H3 s3 n m hm1 hm2=>by
   refine⟨s3 _ _ el2,j6 (by rw[length_map];lia),⟨xs++[1 + n % 999983 % m],by rw[length_append,hlen];rfl,fun j x hj=>?_,by rw[d6,map_append];rfl⟩,j0.put (s2.trans s3) hl⟩
   rcases Nat.lt_trichotomy j xs.length with c | c | c
   ·rw[List.getElem?_append_left c] at hj
    exact hx j x hj
   ·rw[c,List.getElem?_concat_length] at hj
    cases hj
    rw[c,hlen];have h1:=Int.emod_nonneg (n % 999983) (show m≠0 by lia)
    have h2:=Int.emod_lt_of_pos (n % 999983) (show 0 < m by lia)
    lia
   ·rw[List.getElem?_eq_none (by rw[length_append,length_singleton];lia)] at hj
    cases hj
  refine⟨_,rfl,_,rfl,a,ns,i,rfl,s2.seq hS,_,_,rfl,rfl,⟨by decide,by decide,by decide⟩,_,_,rfl,rfl,(by show(0:Int) < 10 ^ 18;decide),_,rfl,_,_,rfl,rfl,.inl ⟨by decide,by decide⟩,_,_,rfl,rfl,_,_,rfl,rfl,.inr ⟨by lia,by lia⟩,_,rfl,_,_,rfl,rfl,.inl ⟨by decide,by decide⟩,_,_,rfl,rfl,?_⟩
  refine⟨(by show 5<=sizeLine;decide),fun l1 hl1=>?_⟩
  have el1:=d6 (H:=H') (a:=l1) (o:=.lst [.int 4,.int 4,.int 6,.int 4,.int 4]);have s3:=g7 hl1 (.lst [.int 4,.int 4,.int 6,.int 4,.int 4]);refine⟨_,rfl,l1,_,_,_,rfl,rfl,SqL.of el1,a1,?_⟩;generalize upd H' l1 (.lst [.int 4,.int 4,.int 6,.int 4,.int 4])=H3 at s3 ⊢;have s23:=s2.trans s3;refine⟨_,rfl,a,ns,5,rfl,s23.seq hS,_,_,rfl,rfl,(by show(0:Int) < 5;decide),rfl,_,rfl,?_⟩
  refine z8 (fun _=>?_) (fun _=>?_)
  ·refine⟨(by show 5<=sizeLine;decide),fun l2 hl2=>?_⟩
   have el3:=d6 (H:=H3) (a:=l2) (o:=.lst [.int 12,.int 12,.int 24,.int 12,.int 12]);have s4:=s3.trans (g7 hl2 (.lst [.int 12,.int 12,.int 24,.int 12,.int 12]));refine⟨_,rfl,l2,_,_,_,rfl,rfl,SqL.of el3,a2,?_⟩;obtain⟨f1,f2,⟨xs',g1,g2,g3⟩,f4⟩:=fin _ s4 (cell ns i % 10 ^ Int.toNat 18 * (2 * (i:Int) + 48271) + 7 * (i:Int)) m2 b2 c2;exact⟨_,rfl,.inl ⟨rfl,_,SqL.of f1⟩,_,rfl,_,_,rfl,rfl,(by show(0:Int) < 999983;decide),_,rfl,_,_,rfl,rfl,(by show(0:Int) < m2;lia),_,_,rfl,rfl,l,xs.map V.int,_,rfl,rfl,f1,f2,f4,xs',g1,g2,g3,_,_,_,rfl⟩
  ·obtain⟨f1,f2,⟨xs',g1,g2,g3⟩,f4⟩:=fin _ s3 (cell ns i % 10 ^ Int.toNat 18 * (2 * (i:Int) + 48271) + 7 * (i:Int)) m1 b1 c1
   exact⟨_,rfl,.inl ⟨rfl,_,SqL.of f1⟩,_,rfl,_,_,rfl,rfl,(by show(0:Int) < 999983;decide),_,rfl,_,_,rfl,rfl,(by show(0:Int) < m1;lia),_,_,rfl,rfl,l,xs.map V.int,_,rfl,rfl,f1,f2,f4,xs',g1,g2,g3,_,_,_,rfl⟩
 ·rintro σ H' ⟨s2,xs,hlen,hx,el2,v2,v3,v4,rfl⟩
  match xs,hlen with
  | [x0,x1,x2,x3,x4],_ =>
   refine⟨_,rfl,l,_,rfl,.inl ⟨SqL.of el2,fun p hp=>?_⟩⟩;refine q p ⟨x0,x1,x2,x3,x4⟩ _ ?_ (s2.trans (g7 hp _)) d6;exact⟨hx 0 x0 rfl,hx 1 x1 rfl,hx 2 x2 rfl,hx 3 x3 rfl,hx 4 x4 rfl⟩
end
theorem R0 (es:List Int):(es.map V.int).all aa0=true:=by
 rw[all_eq_true]
 intro x hx
 obtain⟨p,_,rfl⟩:=List.mem_map.mp hx;rfl
theorem S2 (e:Int)(es:List Int):inV (.int e) (es.map V.int)=decide (e∈es):=by
 unfold inV;rw[List.any_map];rw[Bool.eq_iff_iff,any_eq_true,decide_eq_true_iff]
 constructor
 ·rintro⟨q,hq,e'⟩
  have e':(q == e)=true:=e';exact eq_of_beq e' ▸ hq
 ·intro h
  exact⟨e,h,beq_self_eq_true e⟩
structure EndsOk (h:Hall)(xs:List Int):Prop where
 nd:xs.Nodup
 es:∀ e∈xs,0<=e/\e < h.o * h.e
 some:xs≠[]
 few:xs.length<=12
theorem as7 {x d:Int}(h:0 < d):0<=x % d/\x % d < d:=⟨Int.emod_nonneg _ (by lia),Int.emod_lt_of_pos _ h⟩
def aS5 (K:Frag):Sp:=fun vs H Q _=>∃(a:Addr)(h:Hall)(n:Int),vs=[.ref a,.int n]/\SqT K H a (h.row.map V.int)/\h.Ok/\∀(l:Addr)(es:List Int)(H':Hp),j0 H H'->H l=none->H' l=some (.lst (es.map V.int))->EndsOk h es->Q (.ref l) H'
section
variable {P:Program}{w:World}{K:Frag}{mg:Str->Option Value}{base:Heap}
theorem y8:FnScope ["_law_hall_here","_law_number_here","_law_ends_here","_law_left","_law_many","_law_k","_law_mixed","_law_end_here"] ["_law_hall_here","_law_number_here"] (d7 (top 47)):=mkF
theorem a92 (T:Txt K mg)(D:Def K mg "_law_ends" (top 47) ["_law_hall_here","_law_number_here"]):Callee P w K mg base 1 "_law_ends" ["_law_hall_here","_law_number_here"] (aS5 K):=by
 refine D.ok y8 (fun vs H Q E h=>?_) (fun f cdv A outer s H vs Q E hr h=>?_)
 ·obtain⟨a,h,n,rfl,_⟩:=h
  rfl
 obtain⟨a,h,n,rfl,hH,ok,q⟩:=h;have b1:=ok.oe;have b2:=ok.o;have b3:=ok.e
 refine⟨_,(g6 (i0 (i:=2) y8.nd rfl (Or.inl rfl) (r6 d8))
  (g6 (i0 (i:=3) y8.nd rfl (Or.inl rfl) (i5 az2 (pv 1) (i5 aq7 d9 d9)))
  (g6 (i0 (i:=4) y8.nd rfl (Or.inl rfl) (i5 J6 d9 (i5 p0 (i5 p0 (i5 r9 (pv 1) d9) d9) d9)))
  (g6 (m7 (i4 B2 (i5 p0 (i5 p0 (i5 r9 (pv 1) d9) d9) d9) d9 (j5 _)) (g9 (i0 (i:=4) y8.nd rfl (Or.inl rfl) (i5 J6 d9 (i5 p0 (i5 p0 (i5 r9 (pv 1) d9) d9) d9)))) j7)
  (g6 (B0 PassesOwn.never rfl (D6 rfl T.bW (b8 (pv 4) d8 b9)) (m5 (i:=5) y8.nd rfl (Or.inl rfl))
  (g6 (i0 (i:=6) y8.nd rfl (Or.inl rfl) (i5 p0 (i5 r9 (pv 1) (i5 J6 d9 (i5 r9 (i5 r9 d9 (pv 5)) (pv 5)))) d9))
  (g6 (i0 (i:=7) y8.nd rfl (Or.inl rfl) (i5 p0 (pv 6) (i5 r9 (j3 (j1 K) (pv 0) d9 (fun _ _=>rfl)) (j3 (j1 K) (pv 0) d9 (fun _ _=>rfl)))))
  (g6 (m7 (i4 aT6 (pv 1) (i5 aq7 d9 d9) (j5 _)) (g6 (i0 (i:=7) y8.nd rfl (Or.inl rfl) (i5 p0 (pv 3) (i5 r9 (j3 (j1 K) (pv 0) d9 (fun _ _=>rfl)) (j3 (j1 K) (pv 0) d9 (fun _ _=>rfl)))))
  (g9 (i0 (i:=3) y8.nd rfl (Or.inl rfl) (i5 W9 (pv 3) (i5 r9 (j3 (j1 K) (pv 0) d9 (fun _ _=>rfl)) (j3 (j1 K) (pv 0) d9 (fun _ _=>rfl))))))) j7)
  (g9 (m7 (i4 (aQ8 K) (pv 7) (pv 2) (by with_unfolding_all rfl)) (g9 (A4 (C4 K PySem.F.plainAttrs_list PySem.F.slot_list_append PySem.F.type_list_append x8 (pv 2) (b8 (pv 7) d8 b9)))) j7))))))
  (g9 (i7 (pv 2)))))))),?_⟩
 refine⟨(by show 0<=sizeLine;decide),fun l hl=>?_⟩
 have el:=d6 (H:=H) (a:=l) (o:=.lst []);have s1:=g7 hl (.lst []);generalize upd H l (.lst [])=H1 at el s1 ⊢;refine⟨_,rfl,_,_,rfl,rfl,⟨by decide,by decide,by decide⟩,_,_,rfl,rfl,⟨by show(0:Int) < 10 ^ 18;decide,by show(10:Int) ^ 18 < 18446744073709551616;decide⟩,?_⟩
 refine⟨_,rfl,_,_,rfl,rfl,.inr ⟨by decide,by decide⟩,_,_,rfl,rfl,(by show(0:Int) < 999961;decide),_,_,rfl,rfl,(by show(0:Int) < 3;decide),_,_,rfl,rfl,?_⟩
 refine⟨_,rfl,_,_,rfl,rfl,.inr ⟨by decide,by decide⟩,_,_,rfl,rfl,(by show(0:Int) < 999863;decide),_,_,rfl,rfl,(by show(0:Int) < 6;decide),rfl,_,rfl,?_⟩
 refine z8 (fun _=>⟨_,rfl,_,_,rfl,rfl,.inr ⟨by decide,by decide⟩,_,_,rfl,rfl,(by show(0:Int) < 999961;decide),_,_,rfl,rfl,(by show(0:Int) < 12;decide),_,_,rfl,rfl,_,rfl,_,rfl,by show -(2 ^ 62)<=1 + n * 16807 % 999961 % 12;omega,by show 1 + n * 16807 % 999961 % 12 < 2 ^ 62;omega,?_⟩) (fun _=>⟨_,rfl,_,rfl,by show -(2 ^ 62)<=1 + n * 16807 % 999961 % 3;omega,by show 1 + n * 16807 % 999961 % 3 < 2 ^ 62;omega,?_⟩)
 all_goals
  refine D8 (fun i σ H'=>j0 H H'/\∃ es:List Int,es.Nodup/\(∀ e∈es,0<=e/\e < h.o * h.e)/\(i=0\/es≠[])/\es.length<=i/\H' l=some (.lst (es.map V.int))/\∃ v3 v4 v5 v6 v7,σ=[some (.ref a),some (.int n),some (.ref l),some (.int v3),v4,v5,v6,v7])
   ⟨s1,[],nodup_nil,(fun e he=>nomatch he),.inl rfl,Nat.le_refl _,el,_,_,none,none,none,rfl⟩ ?_ ?_
  ·rintro i σ H' hi ⟨s2,es,d1,d2,d3,d4,el2,v3,v4,v5,v6,v7,rfl⟩
   have hi:i < 12:=by omega
   rw[Int.zero_add];have hk2:0<=2 * (i:Int) * (i:Int)/\2 * (i:Int) * (i:Int)<=24 * 12:=⟨Int.mul_nonneg (by omega) (by omega),Int.mul_le_mul (by omega) (by omega) (by omega) (by omega)⟩
   have hH2:=j0.seqT s2 hH;refine⟨_,rfl,_,rfl,_,_,rfl,rfl,.inl ⟨by decide,by decide⟩,_,rfl,_,_,rfl,rfl,.inr ⟨by omega,by omega⟩,_,_,rfl,rfl,_,_,rfl,rfl,.inr ⟨by omega,by omega⟩,_,_,rfl,rfl,(by show(0:Int) < 999983;decide),_,rfl,_,rfl,a,_,_,_,rfl,rfl,hH2,rfl,_,rfl,a,_,_,_,rfl,rfl,hH2,rfl,_,_,rfl,rfl,.inl ⟨by omega,by omega⟩,_,_,rfl,rfl,(by show 0 < h.o * h.e;omega),?_⟩
   refine⟨_,rfl,_,_,rfl,rfl,⟨by decide,by decide,by decide⟩,_,_,rfl,rfl,_,rfl,?_⟩
   have key:∀ x:Int,(!inV (.int x) (es.map V.int))=true->¬ x∈es:=fun x c=>by rw[S2] at c;simpa using c
   have key2:∀ x:Int,¬ (!inV (.int x) (es.map V.int))=true->x∈es:=fun x c=>by rw[S2] at c;simpa using c
   have fin:∀ x:Int,0<=x/\x < h.o * h.e->¬ x∈es->(j0 H (upd H' l (.lst (es.map V.int++[.int x]))))/\∃ es':List Int,es'.Nodup/\(∀ e∈es',0<=e/\e < h.o * h.e)/\(i + 1=0\/es'≠[])/\es'.length<=i + 1/\upd H' l (.lst (es.map V.int++[.int x])) l=some (.lst (es'.map V.int)):=fun x hx hn=>by
    refine⟨j0.put s2 hl,es++[x],List.nodup_append.mpr ⟨d1,by simp,fun y hy z hz=>?_⟩,fun e he=>?_,.inr (by simp),by rw[length_append,length_singleton];omega,by rw[d6,map_append];rfl⟩
    ·rw[mem_singleton] at hz
     exact fun e=>hn (by rw[<- hz,<- e];exact hy)
    ·rcases List.mem_append.mp he with c | c
     ·exact d2 e c
     ·rw[mem_singleton] at c
      rw[c];exact hx
   refine z8 (fun _=>⟨_,rfl,_,rfl,a,_,_,_,rfl,rfl,hH2,rfl,_,rfl,a,_,_,_,rfl,rfl,hH2,rfl,_,_,rfl,rfl,.inl ⟨by omega,by omega⟩,_,_,rfl,rfl,(by show 0 < h.o * h.e;omega),_,rfl,_,rfl,a,_,_,_,rfl,rfl,hH2,rfl,_,rfl,a,_,_,_,rfl,rfl,hH2,rfl,_,_,rfl,rfl,.inl ⟨by omega,by omega⟩,_,_,rfl,rfl,⟨by show 0 < h.o * h.e;omega,by show h.o * h.e < 1073741824;omega⟩,?_⟩) (fun _=>?_)
   all_goals
    refine⟨_,rfl,_,rfl,l,_,rfl,.inl (SqL.of el2),rfl,R0 es,_,rfl,?_⟩;refine z8 (fun c=>?_) (fun c=>?_)
    ·have c':=key _ c
     obtain⟨g0,es',g1,g2,g3,g4,g5⟩:=fin _ (as7 (by omega)) c'
     exact⟨_,rfl,.inl ⟨rfl,_,SqL.of el2⟩,_,rfl,l,_,_,rfl,rfl,el2,j6 (by rw[length_map];omega),g0,es',g1,g2,g3,g4,g5,_,_,_,_,_,rfl⟩
    ·have c':=key2 _ c
     exact⟨s2,es,d1,d2,.inr (List.ne_nil_of_mem c'),by omega,el2,_,_,_,_,_,rfl⟩
  ·rintro σ H' ⟨s2,es,d1,d2,d3,d4,el2,v3,v4,v5,v6,v7,rfl⟩
   exact⟨_,rfl,q l es H' s2 hl el2 ⟨d1,d2,d3.resolve_left (by omega),by omega⟩⟩
end
def nIn (r k:Int):List Key:=[.inr "in",.inl r,.inl k]
def T0 (r k:Int):List Key:=[.inr "out",.inl r,.inl k]
def p8 (h:Hall)(k:Int)(acc:List (List Key))(e:Int):List (List Key):=if inD acc (T0 (e / h.e) k) then acc else acc++[T0 (e / h.e) k]
def A1 (h:Hall)(c:Int)(es:List Int)(k:Int):List (List Key):=es.foldl (p8 h k) [nIn (c / h.c) k]
theorem U7 (h:Hall)(k:Int)(d:List Key):∀(es:List Int)(acc:List (List Key)),d∈es.foldl (p8 h k) acc↔d∈acc\/∃ e∈es,d=T0 (e / h.e) k
 | [],acc=>by simp
 | e::t,acc=>by
  rw[List.foldl_cons,U7 h k d t]
  have st:d∈p8 h k acc e↔d∈acc\/d=T0 (e / h.e) k:=by
   unfold p8
   by_cases c:inD acc (T0 (e / h.e) k)=true
   ·rw[if_pos c]
    have c':=af5.mp c
    constructor
    ·exact .inl
    ·rintro(g | g)
     ·exact g
     ·rw[g];exact c'
   ·rw[if_neg c,List.mem_append,mem_singleton]
  rw[st]
  constructor
  ·rintro((g | g) | ⟨x,hx,g⟩)
   ·exact .inl g
   ·exact .inr ⟨e,mem_cons_self ..,g⟩
   ·exact .inr ⟨x,mem_cons_of_mem _ hx,g⟩
  ·rintro(g | ⟨x,hx,g⟩)
   ·exact .inl (.inl g)
   ·rcases mem_cons.mp hx with rfl | hx
    ·exact .inl (.inr g)
    ·exact .inr ⟨x,hx,g⟩
theorem M2 {h:Hall}{c:Int}{es:List Int}{k:Int}{d:List Key}:d∈A1 h c es k↔d=nIn (c / h.c) k\/∃ e∈es,d=T0 (e / h.e) k:=by
 unfold A1;rw[U7,mem_singleton]
theorem F9 (h:Hall)(k:Int):∀(es:List Int)(acc:List (List Key)),(es.foldl (p8 h k) acc).length<=acc.length + es.length
 | [],acc=>by simp
 | e::t,acc=>by
  have ih:=F9 h k t (p8 h k acc e)
  have:(p8 h k acc e).length<=acc.length + 1:=by
   unfold p8
   split <;> simp
  rw[List.foldl_cons,length_cons];lia
theorem aO5 (h:Hall)(c:Int)(es:List Int)(k:Int):(A1 h c es k).length<=1 + es.length:=F9 h k es _
def P4 (H:Hp)(as:List Addr)(ds:List (List Key)):Prop:=Paired (fun a d=>H a=some (.tup (d.map kV))) as ds
def av8 (H:Hp)(l:Addr)(ds:List (List Key)):Prop:=∃ as:List Addr,H l=some (.lst (as.map V.ref))/\P4 H as ds
theorem P4.same {H H':Hp}{as:List Addr}{ds:List (List Key)}(s:∀ b xs,H b=some (.tup xs)->H' b=some (.tup xs))(h:P4 H as ds):P4 H' as ds:=by
 unfold P4 at h ⊢;exact E6 h fun a d _ e=>s _ _ e
theorem av8.push {H:Hp}{l p:Addr}{as:List Addr}{ds:List (List Key)}{d:List Key}(e:H l=some (.lst (as.map V.ref)))(h:P4 H as ds)(hp:H p=some (.tup (d.map kV))) :
  av8 (upd H l (.lst (as.map V.ref++[.ref p]))) l (ds++[d]):=by
 have hpl:p≠l:=fun z=>by rw[z,e] at hp;cases hp
 refine⟨as++[p],by rw[d6,map_append];rfl,Paired.snoc (P4.same (fun b xs hb=>?_) h) ?_⟩
 ·have hbl:b≠l:=fun z=>by rw[z,e] at hb;cases hb
  rw[h7 hbl];exact hb
 ·show upd _ l _ p=_
  rw[h7 hpl];exact hp
def aK0 (K:Frag):Sp:=fun vs H Q _=>∃(a e:Addr)(h:Hall)(c k:Int)(es:List Int),vs=[.ref a,.int c,.ref e,.int k]/\SqT K H a (h.row.map V.int)/\h.Ok/\(SqT K H e (es.map V.int)\/SqL K H e (es.map V.int))/\es.length<=13 /\
 ∀(l:Addr)(as:List Addr)(H':Hp),j0 H H'->H l=none->H' l=some (.lst (as.map V.ref))->P4 H' as (A1 h c es k)->Q (.ref l) H'
section
variable {P:Program}{w:World}{K:Frag}{mg:Str->Option Value}{base:Heap}
theorem A9:FnScope ["_law_hall_here","_law_caller","_law_ends_here","_law_k","_law_lines_here","_law_end_here","_law_line"] ["_law_hall_here","_law_caller","_law_ends_here","_law_k"] (d7 (top 48)):=mkF
theorem aT5 (T:Txt K mg)(D:Def K mg "_law_lines" (top 48) ["_law_hall_here","_law_caller","_law_ends_here","_law_k"]):Callee P w K mg base 1 "_law_lines" ["_law_hall_here","_law_caller","_law_ends_here","_law_k"] (aK0 K):=by
 refine D.ok A9 (fun vs H Q E h=>?_) (fun f cdv A outer s H vs Q E hr h=>?_)
 ·obtain⟨a,e,h,c,k,es,rfl,_⟩:=h
  rfl
 obtain⟨a,e,h,c,k,es,rfl,hH,ok,hE,few,q⟩:=h;have o2:=ok.c;have o3:=ok.e
 rcases hE with hE | hE
 ·refine⟨_,(g6 (i0 (i:=4) A9.nd rfl (Or.inl rfl) (r6 (b8 (O9 (b8 Y4 (b8 (i5 W9 (pv 1) (j3 (j1 K) (pv 0) d9 (fun _ _=>rfl))) (b8 (pv 3) d8 b9) L9) m4)) d8 ah3)))
  (g6 (B0 PassesOwn.never rfl (au4 K (pv 2)) (m5 (i:=5) A9.nd rfl (Or.inl rfl))
  (g6 (i0 (i:=6) A9.nd rfl (Or.inl rfl) (O9 (b8 Y4 (b8 (i5 W9 (pv 5) (j3 (j1 K) (pv 0) d9 (fun _ _=>rfl))) (b8 (pv 3) d8 b9) L9) m4)))
  (g9 (m7 (i4 (ak8 K (Room.unitsT hr)) (pv 6) (pv 4) (by with_unfolding_all rfl)) (g9 (A4 (C4 K PySem.F.plainAttrs_list PySem.F.slot_list_append PySem.F.type_list_append x8 (pv 4) (b8 (pv 6) d8 b9)))) j7))))
  (g9 (i7 (pv 4))))),?_⟩
  refine⟨_,rfl,_,rfl,a,_,_,_,rfl,rfl,hH,rfl,_,_,rfl,rfl,⟨by lia,by lia⟩,_,rfl,(by show 3<=sizeLine;decide),fun t1 ht1=>?_⟩
  have e1:=d6 (H:=H) (a:=t1) (o:=.tup [.str "in",.int (c / h.c),.int k]);have s1:=g7 ht1 (.tup [.str "in",.int (c / h.c),.int k]);generalize upd H t1 (.tup [.str "in",.int (c / h.c),.int k])=H1 at e1 s1 ⊢;refine⟨(by show 1<=sizeLine;decide),fun l hl=>?_⟩
  have bag0:av8 (upd H1 l (.lst [.ref t1])) l [nIn (c / h.c) k]:=⟨[t1],d6,.cons (g7 hl _ _ _ e1) .nil⟩;have sl:=g7 hl (.lst [.ref t1]);generalize upd H1 l (.lst [.ref t1])=H3 at bag0 sl ⊢;have s3:=s1.trans sl;refine⟨_,rfl,e,rfl,⟨_,j0.seqT s3 hE⟩,?_⟩
  refine a84 (xs:=es.map V.int) (fun i σ H'=>j0 H1 H'/\av8 H' l ((es.take i).foldl (p8 h k) [nIn (c / h.c) k])/\∃ v5 v6,σ=[some (.ref a),some (.int c),some (.ref e),some (.int k),some (.ref l),v5,v6])
   ⟨sl,bag0,none,none,rfl⟩ (fun i σ H' _ g=>j0.seqT (s1.trans g.1) hE) ?_ ?_
  ·rintro i x σ H' hx ⟨s5,⟨as,b1,b2⟩,v5,v6,rfl⟩
   rw[List.getElem?_map] at hx;obtain⟨y,hy,rfl⟩:=Option.map_eq_some_iff.mp hx;have hlen:=F9 h k (es.take i) [nIn (c / h.c) k];have hlt:(es.take i).length<=13:=by rw[length_take];lia
   rw[length_singleton] at hlen
   have step:(es.take (i + 1)).foldl (p8 h k) [nIn (c / h.c) k]=p8 h k ((es.take i).foldl (p8 h k) [nIn (c / h.c) k]) y:=by
    rw[take_succ,hy,List.foldl_append];rfl
   rw[step];generalize (es.take i).foldl (p8 h k) [nIn (c / h.c) k]=ds at b2 hlen;have hn:=Paired.length b2;have hH5:=j0.seqT (s1.trans s5) hH;refine⟨_,rfl,_,rfl,a,_,_,_,rfl,rfl,hH5,rfl,_,_,rfl,rfl,⟨by lia,by lia⟩,_,rfl,(by show 3<=sizeLine;decide),fun u hu=>?_⟩
   have eu:=d6 (H:=H') (a:=u) (o:=.tup [.str "out",.int (y / h.e),.int k]);have s6:=g7 hu (.tup [.str "out",.int (y / h.e),.int k]);generalize upd H' u (.tup [.str "out",.int (y / h.e),.int k])=H6 at eu s6 ⊢;have c1:=s6 _ _ b1;have c2:=P4.same (fun b xs hb=>s6 _ _ hb) b2;refine⟨_,rfl,_,rfl,l,u,as,T0 (y / h.e) k,ds,rfl,rfl,SqL.of c1,SqT.of eu,E6 c2 (fun _ _ _ z=>SqT.of z),_,rfl,?_⟩;refine z8 (fun cc=>?_) (fun cc=>?_)
   ·have cc':inD ds (T0 (y / h.e) k)=false:=by simpa using cc
    refine⟨_,rfl,.inl ⟨rfl,_,SqL.of c1⟩,_,rfl,l,as.map V.ref,.ref u,rfl,rfl,c1,j6 (by rw[length_map,hn];lia),?_⟩
    refine⟨j0.put (s5.trans s6) hl,?_,_,_,rfl⟩;unfold p8;rw[if_neg (by rw[cc'];exact Bool.false_ne_true)]
    exact av8.push (d:=T0 (y / h.e) k) c1 c2 eu
   ·have cc':inD ds (T0 (y / h.e) k)=true:=by simpa using cc
    refine⟨s5.trans s6,?_,_,_,rfl⟩;unfold p8;rw[if_pos cc'];exact⟨as,c1,c2⟩
  ·rintro σ H' ⟨s5,⟨as,b1,b2⟩,v5,v6,rfl⟩
   rw[length_map,take_length] at b2;exact⟨_,rfl,q l as H' (s1.trans s5) (s1.free hl) b1 b2⟩
 ·refine⟨_,(g6 (i0 (i:=4) A9.nd rfl (Or.inl rfl) (r6 (b8 (O9 (b8 Y4 (b8 (i5 W9 (pv 1) (j3 (j1 K) (pv 0) d9 (fun _ _=>rfl))) (b8 (pv 3) d8 b9) L9) m4)) d8 ah3)))
  (g6 (B0 PassesOwn.never rfl (o4 K (pv 2)) (m5 (i:=5) A9.nd rfl (Or.inl rfl))
  (g6 (i0 (i:=6) A9.nd rfl (Or.inl rfl) (O9 (b8 Y4 (b8 (i5 W9 (pv 5) (j3 (j1 K) (pv 0) d9 (fun _ _=>rfl))) (b8 (pv 3) d8 b9) L9) m4)))
  (g9 (m7 (i4 (ak8 K (Room.unitsT hr)) (pv 6) (pv 4) (by with_unfolding_all rfl)) (g9 (A4 (C4 K PySem.F.plainAttrs_list PySem.F.slot_list_append PySem.F.type_list_append x8 (pv 4) (b8 (pv 6) d8 b9)))) j7))))
  (g9 (i7 (pv 4))))),?_⟩
  refine⟨_,rfl,_,rfl,a,_,_,_,rfl,rfl,hH,rfl,_,_,rfl,rfl,⟨by lia,by lia⟩,_,rfl,(by show 3<=sizeLine;decide),fun t1 ht1=>?_⟩
  have e1:=d6 (H:=H) (a:=t1) (o:=.tup [.str "in",.int (c / h.c),.int k]);have s1:=g7 ht1 (.tup [.str "in",.int (c / h.c),.int k]);generalize upd H t1 (.tup [.str "in",.int (c / h.c),.int k])=H1 at e1 s1 ⊢;refine⟨(by show 1<=sizeLine;decide),fun l hl=>?_⟩
  have bag0:av8 (upd H1 l (.lst [.ref t1])) l [nIn (c / h.c) k]:=⟨[t1],d6,.cons (g7 hl _ _ _ e1) .nil⟩;have sl:=g7 hl (.lst [.ref t1]);generalize upd H1 l (.lst [.ref t1])=H3 at bag0 sl ⊢;have s3:=s1.trans sl;refine⟨_,rfl,e,rfl,⟨_,j0.seq s3 hE⟩,?_⟩
  refine B8 (xs:=es.map V.int) (fun i σ H'=>j0 H1 H'/\av8 H' l ((es.take i).foldl (p8 h k) [nIn (c / h.c) k])/\∃ v5 v6,σ=[some (.ref a),some (.int c),some (.ref e),some (.int k),some (.ref l),v5,v6])
   ⟨sl,bag0,none,none,rfl⟩ (fun i σ H' _ g=>j0.seq (s1.trans g.1) hE) ?_ ?_
  ·rintro i x σ H' hx ⟨s5,⟨as,b1,b2⟩,v5,v6,rfl⟩
   rw[List.getElem?_map] at hx;obtain⟨y,hy,rfl⟩:=Option.map_eq_some_iff.mp hx;have hlen:=F9 h k (es.take i) [nIn (c / h.c) k];have hlt:(es.take i).length<=13:=by rw[length_take];lia
   rw[length_singleton] at hlen
   have step:(es.take (i + 1)).foldl (p8 h k) [nIn (c / h.c) k]=p8 h k ((es.take i).foldl (p8 h k) [nIn (c / h.c) k]) y:=by
    rw[take_succ,hy,List.foldl_append];rfl
   rw[step];generalize (es.take i).foldl (p8 h k) [nIn (c / h.c) k]=ds at b2 hlen;have hn:=Paired.length b2;have hH5:=j0.seqT (s1.trans s5) hH;refine⟨_,rfl,_,rfl,a,_,_,_,rfl,rfl,hH5,rfl,_,_,rfl,rfl,⟨by lia,by lia⟩,_,rfl,(by show 3<=sizeLine;decide),fun u hu=>?_⟩
   have eu:=d6 (H:=H') (a:=u) (o:=.tup [.str "out",.int (y / h.e),.int k]);have s6:=g7 hu (.tup [.str "out",.int (y / h.e),.int k]);generalize upd H' u (.tup [.str "out",.int (y / h.e),.int k])=H6 at eu s6 ⊢;have c1:=s6 _ _ b1;have c2:=P4.same (fun b xs hb=>s6 _ _ hb) b2;refine⟨_,rfl,_,rfl,l,u,as,T0 (y / h.e) k,ds,rfl,rfl,SqL.of c1,SqT.of eu,E6 c2 (fun _ _ _ z=>SqT.of z),_,rfl,?_⟩;refine z8 (fun cc=>?_) (fun cc=>?_)
   ·have cc':inD ds (T0 (y / h.e) k)=false:=by simpa using cc
    refine⟨_,rfl,.inl ⟨rfl,_,SqL.of c1⟩,_,rfl,l,as.map V.ref,.ref u,rfl,rfl,c1,j6 (by rw[length_map,hn];lia),?_⟩
    refine⟨j0.put (s5.trans s6) hl,?_,_,_,rfl⟩;unfold p8;rw[if_neg (by rw[cc'];exact Bool.false_ne_true)]
    exact av8.push (d:=T0 (y / h.e) k) c1 c2 eu
   ·have cc':inD ds (T0 (y / h.e) k)=true:=by simpa using cc
    refine⟨s5.trans s6,?_,_,_,rfl⟩;unfold p8;rw[if_pos cc'];exact⟨as,c1,c2⟩
  ·rintro σ H' ⟨s5,⟨as,b1,b2⟩,v5,v6,rfl⟩
   rw[length_map,take_length] at b2;exact⟨_,rfl,q l as H' (s1.trans s5) (s1.free hl) b1 b2⟩
end
structure Call where
 c:Int
 es:List Int
 k:Int
structure Call.In (k:Call)(h:Hall):Prop where
 c:0<=k.c/\k.c < h.i * h.c
 rise:k.es.Pairwise (· < ·)
 es:∀ e∈k.es,0<=e/\e < h.o * h.e
 some:k.es≠[]
 few:k.es.length<=12
 k:0<=k.k/\k.k < h.m
def B9 (H:Hp)(p:Addr)(k:Call):Prop:=∃ e:Addr,H e=some (.tup (k.es.map V.int))/\H p=some (.tup [.int k.c,.ref e,.int k.k])
theorem B9.same {H H':Hp}{p:Addr}{k:Call}(s:∀ b xs,H b=some (.tup xs)->H' b=some (.tup xs))(h:B9 H p k):B9 H' p k:=by
 obtain⟨e,h1,h2⟩:=h;exact⟨e,s _ _ h1,s _ _ h2⟩
def ba2 (t:Addr)(H H':Hp):Prop:=∀ b u,b≠t->H b=some u->H' b=some u
theorem Z8 {K:Frag}{H:Hp}:∀{as:List Addr}{ds:List (List Key)},P4 H as ds->Paired (bh8 K be5 H) (as.map V.ref) ds
 | _,_,.nil=>.nil
 | _,_,.cons h t=>.cons ⟨_,_,rfl,SqT.of h,F1 _⟩ (Z8 t)
theorem a45 {es es':List Int}(p:es'.Perm es)(s:es'.Pairwise (·<=·))(nd:es.Nodup):es'.Pairwise (· < ·):=by
 have nd':es'.Nodup:=p.nodup_iff.mpr nd;exact(s.and nd').imp fun {a b} ⟨h1,h2⟩=>by lia
def h8 (H:Hp)(as:List Addr)(ks:List Call):Prop:=Paired (B9 H) as ks
theorem h8.same {H H':Hp}{as:List Addr}{ks:List Call}(s:∀ b xs,H b=some (.tup xs)->H' b=some (.tup xs))(h:h8 H as ks):h8 H' as ks:=by
 unfold h8 at h ⊢;exact E6 h fun a d _ e=>B9.same s e
theorem ae1 {α β:Type}{R:α->β->Prop}{as:List α}{ds:List β}(a0:α)(d0:β)(h:Paired R as ds):∀(is:List Nat),(∀ i∈is,i < ds.length)->Paired R (is.map fun i=>as.getD i a0) (is.map fun i=>ds.getD i d0)
 | [],_=>.nil
 | i::t,hin=>by
  refine .cons ?_ (ae1 a0 d0 h t fun j hj=>hin j (mem_cons_of_mem _ hj));have hi:=hin i (mem_cons_self ..);have hl:as.length=ds.length:=Paired.length h;have ea:as[i]? = some (as[i]'(by lia)):=List.getElem?_eq_getElem (by lia)
  obtain⟨d,e2,hs⟩:=j8 h i _ ea
  show R (as.getD i a0) (ds.getD i d0)
  rw[show as.getD i a0=as[i]'(by lia) by rw[List.getD,ea];rfl,show ds.getD i d0=d by rw[List.getD,e2];rfl]
  exact hs
theorem ad7 {K:Frag}{H:Hp}:∀{as:List Addr}{ks:List Call},h8 H as ks->∃ its:List (List V),ac3 K H as its/\Paired (fun k xs=>∃ e,xs=[V.int k.c,V.ref e,V.int k.k]) ks its
 | _,_,.nil=>⟨[],.nil,.nil⟩
 | _,_,.cons (b:=k) ⟨e,h1,h2⟩ t=>by
  obtain⟨its,q1,q2⟩:=ad7 t;exact⟨[V.int k.c,V.ref e,V.int k.k]::its,.cons ⟨SqT.of h2,_,_,rfl⟩ q1,.cons ⟨e,rfl⟩ q2⟩
def m6 (h:Hall)(es:List Int):List Int:=w9 (es.map fun e=>e / h.e)
def aa8 (K:Frag)(d:Hall->Int):Sp:=fun vs H Q _=>∃(a:Addr)(h:Hall)(x:Int),vs=[.ref a,.int x]/\SqT K H a (h.row.map V.int)/\h.Ok/\∀ p,H p=none->Q (.ref p) (upd H p (.tup [.int (x / d h),.int (x % d h)]))
def at7 (K:Frag):Sp:=fun vs H Q _=>∃(a p:Addr)(h:Hall)(es:List Int),vs=[.ref a,.ref p]/\SqT K H a (h.row.map V.int)/\h.Ok/\(SqT K H p (es.map V.int)\/SqL K H p (es.map V.int))/\es.length < 64/\∀(l:Addr)(H':Hp),j0 H H'->H l=none->H' l=some (.lst ((m6 h es).map V.int))->Q (.ref l) H'
section
variable {P:Program}{w:World}{K:Frag}{mg:Str->Option Value}{base:Heap}
theorem aB7:FnScope ["hall","caller"] ["hall","caller"] (d7 (top 13)):=mkF
theorem aC0 (T:Txt K mg)(D:Def K mg "place_in" (top 13) ["hall","caller"]):Callee P w K mg base 1 "place_in" ["hall","caller"] (aa8 K Hall.c):=by
 refine D.ok aB7 (fun vs H Q E h=>?_) (fun f cdv A outer s H vs Q E hr h=>?_)
 ·obtain⟨a,h,x,rfl,_⟩:=h
  rfl
 obtain⟨a,h,x,rfl,hS,ok,q⟩:=h;have b:=ok.c;refine⟨_,(g9 (i7 (i8 ad9 rfl T.jS boot_divmod (b8 (pv 1) (b8 (j3 (j1 K) (pv 0) d9 (fun _ _=>rfl)) d8 x6) b9)))),?_⟩;exact⟨_,rfl,_,rfl,a,_,_,_,rfl,rfl,hS,rfl,_,_,rfl,⟨by lia,by lia⟩,q⟩
theorem at3:FnScope ["hall","end"] ["hall","end"] (d7 (top 14)):=mkF
theorem au0 (T:Txt K mg)(D:Def K mg "place_out" (top 14) ["hall","end"]):Callee P w K mg base 1 "place_out" ["hall","end"] (aa8 K Hall.e):=by
 refine D.ok at3 (fun vs H Q E h=>?_) (fun f cdv A outer s H vs Q E hr h=>?_)
 ·obtain⟨a,h,x,rfl,_⟩:=h
  rfl
 obtain⟨a,h,x,rfl,hS,ok,q⟩:=h;have b:=ok.e;refine⟨_,(g9 (i7 (i8 ad9 rfl T.jS boot_divmod (b8 (pv 1) (b8 (j3 (j1 K) (pv 0) d9 (fun _ _=>rfl)) d8 x6) b9)))),?_⟩;exact⟨_,rfl,_,rfl,a,_,_,_,rfl,rfl,hS,rfl,_,_,rfl,⟨by lia,by lia⟩,q⟩
theorem aB6:FnScope ["hall","ends"] ["hall","ends"] (d7 (top 16)):=mkF
theorem aZ8 (T:Txt K mg)(iO:Callee P w K mg base 1 "place_out" ["hall","end"] (aa8 K Hall.e))(D:Def K mg "racks_of" (top 16) ["hall","ends"]):Callee P w K mg base 2 "racks_of" ["hall","ends"] (at7 K):=by
 refine D.ok aB6 (fun vs H Q E h=>?_) (fun f cdv A outer s H vs Q E hr h=>?_)
 ·obtain⟨a,p,h,es,rfl,_⟩:=h
  rfl
 obtain⟨a,p,h,es,rfl,hH,ok,hS,h64,q⟩:=h;have hl:(es.map V.int).length=es.length:=length_map _;have sz:(es.map V.int).length<=sizeLine:=by rw[hl];exact Nat.le_of_lt (j6 (by lia))
 have fin:∀(H':Hp),j0 H H'->∀ l,H' l=none->ba1 K P w [.ref l] (upd H' l (.lst ((es.take (es.map V.int).length).map fun e=>V.int (e / h.e)))) fun x H1=>ay2 P w [x] H1 Q:=fun H' s1 l hl'=>by
  rw[hl,take_length];have e1:upd H' l (.lst (es.map fun e=>V.int (e / h.e))) l=some (.lst ((es.map fun e=>e / h.e).map V.int)):=by rw[d6,List.map_map];rfl
  have s2:=s1.trans (g7 hl' (.lst (es.map fun e=>V.int (e / h.e))));generalize upd H' l (.lst (es.map fun e=>V.int (e / h.e)))=H2 at e1 s2 ⊢;refine⟨l,_,rfl,SqL.of e1,by rw[length_map];lia,fun l2 hl2=>?_⟩
  refine⟨l2,_,rfl,d6,by rw[length_map];lia,fun l3 hl3=>?_⟩
  exact q l3 _ ((s2.trans (g7 hl2 _)).trans (g7 hl3 _)) ((s2.trans (g7 hl2 _)).free hl3) d6
 rcases hS with hS | hS
 ·refine⟨_,(g9 (i7 (i8 (X7 P w rfl) rfl T.cU boot_sorted (b8 (p7 (ad2 K P w rfl) rfl T.kX boot_set (b8 (B1 (own:=["end"]) (fr:=[(0,"hall")]) rfl (show CompScope ["hall","ends"] (d7 (top 16)) _ _ _ from⟨rfl,by decide +kernel,by decide +kernel,by decide +kernel,by decide +kernel⟩) (au4 K (pv 1)) (fun cl C s H ex=>⟨(m5 (i:=0) (show(["end","hall"]:List Str).Nodup from by decide +kernel) rfl (Or.inl rfl) (Or.inr rfl)),P7,(j3 (j1 K) (m9 iO hr rfl (b8 (pv 1) (b8 (pv 0) d8 b9) b9)) d9 (fun _ _=>rfl))⟩)) d8 P1)) d8 n6)))),?_⟩
  refine⟨_,rfl,p,rfl,⟨_,hS⟩,?_⟩
  refine aC5 (xs:=es.map V.int) (fun i acc σ H'=>j0 H H'/\acc=(es.take i).map (fun e=>V.int (e / h.e))/\∃ v,σ=[v,some (.ref a)])
   ⟨j0.refl H,rfl,none,rfl⟩ sz (fun i acc σ H' g=>?_) (fun i acc σ H' _ g=>j0.seqT g.1 hS) ?_ ?_
  ·obtain⟨_,rfl,_⟩:=g
   rw[length_map,length_take];lia
  ·rintro i y acc σ H' hy ⟨s1,rfl,v,rfl⟩
   rw[List.getElem?_map] at hy;obtain⟨e,he,rfl⟩:=Option.map_eq_some_iff.mp hy;refine⟨_,rfl,_,rfl,a,h,e,rfl,j0.seqT s1 hH,ok,fun r hr2=>⟨r,_,_,_,rfl,rfl,SqT.of d6,rfl,s1.trans (g7 hr2 _),?_,_,rfl⟩⟩;rw[take_succ,he,map_append];rfl
  ·rintro acc σ H' ⟨s1,rfl,v,rfl⟩ l hl'
   exact fin H' s1 l hl'
 ·refine⟨_,(g9 (i7 (i8 (X7 P w rfl) rfl T.cU boot_sorted (b8 (p7 (ad2 K P w rfl) rfl T.kX boot_set (b8 (B1 (own:=["end"]) (fr:=[(0,"hall")]) rfl (show CompScope ["hall","ends"] (d7 (top 16)) _ _ _ from⟨rfl,by decide +kernel,by decide +kernel,by decide +kernel,by decide +kernel⟩) (o4 K (pv 1)) (fun cl C s H ex=>⟨(m5 (i:=0) (show(["end","hall"]:List Str).Nodup from by decide +kernel) rfl (Or.inl rfl) (Or.inr rfl)),P7,(j3 (j1 K) (m9 iO hr rfl (b8 (pv 1) (b8 (pv 0) d8 b9) b9)) d9 (fun _ _=>rfl))⟩)) d8 P1)) d8 n6)))),?_⟩
  refine⟨_,rfl,p,rfl,⟨_,hS⟩,?_⟩
  refine x9 (xs:=es.map V.int) (fun i acc σ H'=>j0 H H'/\acc=(es.take i).map (fun e=>V.int (e / h.e))/\∃ v,σ=[v,some (.ref a)])
   ⟨j0.refl H,rfl,none,rfl⟩ sz (fun i acc σ H' g=>?_) (fun i acc σ H' _ g=>g.1.seq hS) ?_ ?_
  ·obtain⟨_,rfl,_⟩:=g
   rw[length_map,length_take];lia
  ·rintro i y acc σ H' hy ⟨s1,rfl,v,rfl⟩
   rw[List.getElem?_map] at hy;obtain⟨e,he,rfl⟩:=Option.map_eq_some_iff.mp hy;refine⟨_,rfl,_,rfl,a,h,e,rfl,j0.seqT s1 hH,ok,fun r hr2=>⟨r,_,_,_,rfl,rfl,SqT.of d6,rfl,s1.trans (g7 hr2 _),?_,_,rfl⟩⟩;rw[take_succ,he,map_append];rfl
  ·rintro acc σ H' ⟨s1,rfl,v,rfl⟩ l hl'
   exact fin H' s1 l hl'
end
theorem S5 {h:Hall}{es:List Int}{r:Int}:r∈m6 h es↔∃ e∈es,e / h.e=r:=by
 unfold m6;rw[F2,List.mem_map]
theorem aN0 (h:Hall)(es:List Int):(m6 h es).length<=es.length:=by
 have:=ac5 (es.map fun e=>e / h.e)
 rw[length_map] at this;exact this
inductive PartIs (K:Frag)(H:Hp):V->Prop where
 | int (i:Int):PartIs K H (.int i)
 | odd {x:V} {t:Value} {b1 b2:Bool} (ni:∀ i,x≠.int i) (ty:TyOf K H x t) (h1:kitOne K t (.type "int")=some b1) (h2:kitOne K t (.type "bool")=some b2) (hb:b1=false\/b2=true):PartIs K H x
theorem TyOf.same {K:Frag}{H H':Hp}{x:V}{t:Value}(s:j0 H H')(h:TyOf K H x t):TyOf K H' x t:=by
 cases h with
 | non=>exact .non
 | bl b=>exact .bl b
 | int i=>exact .int i
 | str y=>exact .str y
 | flt y=>exact .flt y
 | lst e=>exact .lst (s _ _ e)
 | frz e=>exact .frz (s _ _ e)
 | tup e=>exact .tup (s _ _ e)
 | dK e=>exact .dK (s _ _ e)
 | dT e=>exact .dT (s _ _ e)
 | ins e a b c d f=>exact .ins (s _ _ e) a b c d f
theorem PartIs.same {K:Frag}{H H':Hp}{x:V}(s:j0 H H')(h:PartIs K H x):PartIs K H' x:=by
 cases h with
 | int i=>exact .int i
 | odd ni ty h1 h2 hb=>exact .odd ni (TyOf.same s ty) h1 h2 hb
def m8 (x:V)(lo hi:Int):Bool:=match x with
 | .int i=>decide (lo<=i)&&decide (i<=hi)
 | _=>false
def isInt:V->Bool
 | .int _=>true
 | _=>false
def ab6 (K:Frag):Sp:=fun vs H Q _=>∃(x:V)(lo hi:Int),vs=[x,.int lo,.int hi]/\PartIs K H x/\Q (.bl (m8 x lo hi)) H
def af4 (K:Frag):Sp:=fun vs H Q _=>∃ x:V,vs=[x]/\PartIs K H x/\Q (.bl (isInt x)) H
section
variable {P:Program}{w:World}{K:Frag}{mg:Str->Option Value}{base:Heap}
theorem as5:FnScope ["thing"] ["thing"] (d7 (top 11)):=mkF
theorem aq2 (T:Txt K mg)(D:Def K mg "is_number" (top 11) ["thing"]):Callee P w K mg base 1 "is_number" ["thing"] (af4 K):=by
 refine D.ok as5 (fun vs H Q E h=>?_) (fun f cdv A outer s H vs Q E hr h=>?_)
 ·obtain⟨x,rfl,_⟩:=h
  rfl
 obtain⟨x,rfl,hp,q⟩:=h;refine⟨_,(g9 (i7 (P9 (i8 (A7 K) rfl T.ax boot_isinstance (b8 (pv 0) (b8 (L5 (v:=.ty "int") rfl T.lL boot_int rfl) d8 b9) b9)) (R6 (aZ1 (i8 (A7 K) rfl T.ax boot_isinstance (b8 (pv 0) (b8 (L5 (v:=.ty "bool") rfl T.lM boot_bool rfl) d8 b9) b9))))))),?_⟩
 cases hp with
 | int i =>
  refine⟨_,rfl,_,_,_,true,rfl,.int i,U2,_,rfl,M1 ?_⟩;exact⟨_,rfl,_,_,_,false,rfl,.int i,aa9,_,rfl,q⟩
 | @odd _ t b1 b2 ni ty h1 h2 hb =>
  have e:isInt x=false:=by
   cases x with
   | int i=>exact absurd rfl (ni i)
   | _=>rfl
  rw[e] at q;refine⟨_,rfl,_,_,_,b1,rfl,ty,h1,_,rfl,?_⟩
  cases b1 with
  | false=>exact B7 q
  | true =>
   have hb2:b2=true:=hb.elim (fun z=>nomatch z) id;subst hb2;exact M1 ⟨_,rfl,_,_,_,true,rfl,ty,h2,_,rfl,q⟩
theorem aB5:FnScope ["thing","least","most"] ["thing","least","most"] (d7 (top 12)):=mkF
theorem aA2 (T:Txt K mg)(cV:Callee P w K mg base 1 "is_number" ["thing"] (af4 K))(D:Def K mg "is_whole" (top 12) ["thing","least","most"]):Callee P w K mg base 2 "is_whole" ["thing","least","most"] (ab6 K):=by
 refine D.ok aB5 (fun vs H Q E h=>?_) (fun f cdv A outer s H vs Q E hr h=>?_)
 ·obtain⟨x,lo,hi,rfl,_⟩:=h
  rfl
 obtain⟨x,lo,hi,rfl,hp,q⟩:=h;refine⟨_,(g9 (i7 (P9 (m9 cV hr rfl (b8 (pv 0) d8 b9)) (R6 (aW4 ba6 ba6 (pv 1) (pv 0) (pv 2)))))),?_⟩;refine⟨_,rfl,x,rfl,hp,_,rfl,?_⟩
 cases hp with
 | int i =>
  refine M1 ?_;refine⟨_,rfl,_,rfl,_,_,rfl,rfl,_,rfl,?_⟩;refine z8 (fun c=>?_) (fun c=>?_)
  ·refine⟨_,rfl,_,_,rfl,rfl,?_⟩
   have e:m8 (.int i) lo hi=decide (i<=hi):=by show(decide (lo<=i)&&decide (i<=hi))=_;rw[c,Bool.true_and]
   rw[e] at q;exact q
  ·have e:m8 (.int i) lo hi=false:=by show(decide (lo<=i)&&decide (i<=hi))=_;rw[Bool.eq_false_iff.mpr c,Bool.false_and]
   rw[e] at q;exact q
 | @odd _ t b1 b2 ni ty h1 h2 hb =>
  have e0:isInt x=false:=by
   cases x with
   | int i=>exact absurd rfl (ni i)
   | _=>rfl
  have e:m8 x lo hi=false:=by
   cases x with
   | int i=>exact absurd rfl (ni i)
   | _=>rfl
  rw[e] at q;rw[e0];exact B7 q
end
def aJ9 (xs:List V):List Int:=xs.filterMap fun x=>match x with | .int i=>some i | _=>none
theorem R1 (ns:List Int):aJ9 (ns.map V.int)=ns:=by
 unfold aJ9
 induction ns with
 | nil=>rfl
 | cons i t ih=>rw[map_cons,filterMap_cons];exact congrArg (i::·) ih
def J8 (xs:List V):Bool:=decide ((w9 (aJ9 xs)).length=xs.length)
def F8 (h:Hall):Option (List V)->Bool
 | none=>false
 | some xs=>!xs.isEmpty&&(xs.all (fun x=>m8 x 0 (h.o * h.e - 1))&&J8 xs)
inductive EndTh (K:Frag)(H:Hp):V->Option (List V)->Prop where
 | lst {a:Addr} {xs:List V} (e:H a=some (.lst xs)) (h:∀ x∈xs,PartIs K H x) (hn:xs.length<=64):EndTh K H (.ref a) (some xs)
 | tup {a:Addr} {xs:List V} (e:H a=some (.tup xs)) (h:∀ x∈xs,PartIs K H x) (hn:xs.length<=64):EndTh K H (.ref a) (some xs)
 | no {x:V} {t:Value} (ty:TyOf K H x t) (h1:kitOne K t (.type "list")=some false) (h2:kitOne K t (.type "tuple")=some false):EndTh K H x none
theorem EndTh.same {K:Frag}{H H':Hp}{x:V}{o:Option (List V)}(s:j0 H H')(h:EndTh K H x o):EndTh K H' x o:=by
 cases h with
 | lst e h hn=>exact .lst (s _ _ e) (fun x hx=>(h x hx).same s) hn
 | tup e h hn=>exact .tup (s _ _ e) (fun x hx=>(h x hx).same s) hn
 | no ty h1 h2=>exact .no (TyOf.same s ty) h1 h2
theorem ae3 {x:V}{lo hi:Int}(h:m8 x lo hi=true):∃ i:Int,x=.int i/\lo<=i/\i<=hi:=by
 cases x with
 | int i =>
  have h':(decide (lo<=i)&&decide (i<=hi))=true:=h;rw[Bool.and_eq_true] at h';exact⟨i,rfl,of_decide_eq_true h'.1,of_decide_eq_true h'.2⟩
 | _=>cases h
theorem aj9 {lo hi:Int}:∀{xs:List V},xs.all (fun x=>m8 x lo hi)=true->∃ ns:List Int,xs=ns.map V.int
 | [],_=>⟨[],rfl⟩
 | x::t,h=>by
  rw[List.all_cons,Bool.and_eq_true] at h;obtain⟨i,rfl,_⟩:=ae3 h.1;obtain⟨ns,rfl⟩:=aj9 h.2;exact⟨i::ns,rfl⟩
def ah1 (K:Frag):Sp:=fun vs H Q _=>∃(a:Addr)(h:Hall)(x:V),vs=[.ref a,x]/\SqT K H a (h.row.map V.int)/\h.Ok/\PartIs K H x/\Q (.bl (m8 x 0 (h.i * h.c - 1))) H
def ap6 (K:Frag):Sp:=fun vs H Q _=>∃(a p:Addr)(h:Hall)(xs:List V),vs=[.ref a,.ref p]/\SqT K H a (h.row.map V.int)/\h.Ok/\(SqL K H p xs\/SqT K H p xs)/\(∀ x∈xs,PartIs K H x)/\xs.length<=64/\∀ H',j0 H H'->Q (.bl (xs.all fun x=>m8 x 0 (h.o * h.e - 1))) H'
def aw9 (K:Frag):Sp:=fun vs H Q _=>∃(p:Addr)(ns:List Int),vs=[.ref p]/\(SqL K H p (ns.map V.int)\/SqT K H p (ns.map V.int))/\ns.length<=64/\∀ H',j0 H H'->Q (.bl (decide ((w9 ns).length=ns.length))) H'
def aw0 (K:Frag):Sp:=fun vs H Q _=>∃(a:Addr)(h:Hall)(x:V)(o:Option (List V)),vs=[.ref a,x]/\SqT K H a (h.row.map V.int)/\h.Ok/\EndTh K H x o/\∀ H',j0 H H'->Q (.bl (F8 h o)) H'
section
variable {P:Program}{w:World}{K:Frag}{mg:Str->Option Value}{base:Heap}
theorem ar6:FnScope ["hall","thing"] ["hall","thing"] (d7 (top 29)):=mkF
theorem at2 (T:Txt K mg)(eP:Callee P w K mg base 2 "is_whole" ["thing","least","most"] (ab6 K))(D:Def K mg "is_caller" (top 29) ["hall","thing"]):Callee P w K mg base 3 "is_caller" ["hall","thing"] (ah1 K):=by
 refine D.ok ar6 (fun vs H Q E h=>?_) (fun f cdv A outer s H vs Q E hr h=>?_)
 ·obtain⟨a,h,x,rfl,_⟩:=h
  rfl
 obtain⟨a,h,x,rfl,hH,ok,hp,q⟩:=h;have o1:=ok.i;refine⟨_,(g9 (i7 (m9 eP hr rfl (b8 (pv 1) (b8 d9 (b8 (i5 at6 (i5 r9 (j3 (j1 K) (pv 0) d9 (fun _ _=>rfl)) (j3 (j1 K) (pv 0) d9 (fun _ _=>rfl))) d9) d8 L9) m4) b9)))),?_⟩;exact⟨_,rfl,_,rfl,a,_,_,_,rfl,rfl,hH,rfl,_,rfl,a,_,_,_,rfl,rfl,hH,rfl,_,_,rfl,rfl,.inl ⟨by lia,by lia⟩,_,_,rfl,rfl,x,_,_,rfl,hp,q⟩
theorem T5:FnScope ["hall","things","last"] ["hall","things"] (d7 (top 15)):=mkF
theorem az0 (T:Txt K mg)(eP:Callee P w K mg base 2 "is_whole" ["thing","least","most"] (ab6 K))(D:Def K mg "are_ends" (top 15) ["hall","things"]):Callee P w K mg base 3 "are_ends" ["hall","things"] (ap6 K):=by
 refine D.ok T5 (fun vs H Q E h=>?_) (fun f cdv A outer s H vs Q E hr h=>?_)
 ·obtain⟨a,p,h,xs,rfl,_⟩:=h
  rfl
 obtain⟨a,p,h,xs,rfl,hH,ok,hS,hx,h64,q⟩:=h;have o1:=ok.o
 rcases hS with hS | hS
 ·refine⟨_,(g6 (i0 (i:=2) T5.nd rfl (Or.inr rfl) (i5 at6 (i5 r9 (j3 (j1 K) (pv 0) d9 (fun _ _=>rfl)) (j3 (j1 K) (pv 0) d9 (fun _ _=>rfl))) d9))
  (g9 (i7 (i8 (am6 K rfl) rfl T.my boot_all (b8 (B1 (own:=["thing"]) (fr:=[(2,"last")]) rfl (show CompScope ["hall","things","last"] (d7 (top 15)) _ _ _ from⟨rfl,by decide +kernel,by decide +kernel,by decide +kernel,by decide +kernel⟩) (o4 K (pv 1)) (fun cl C s H ex=>⟨(m5 (i:=0) (show(["thing","last"]:List Str).Nodup from by decide +kernel) rfl (Or.inl rfl) (Or.inr rfl)),P7,(m9 eP hr rfl (b8 (pv 0) (b8 d9 (b8 (pv 1) d8 b9) m4) b9))⟩)) d8 P1))))),?_⟩
  refine⟨_,rfl,a,_,_,_,rfl,rfl,hH,rfl,_,rfl,a,_,_,_,rfl,rfl,hH,rfl,_,_,rfl,rfl,.inl ⟨by lia,by lia⟩,_,_,rfl,rfl,?_⟩
  refine⟨_,rfl,p,rfl,⟨_,hS⟩,?_⟩
  refine x9 (xs:=xs) (fun i acc σ H'=>H'=H/\acc=((xs.take i).map fun x=>m8 x 0 (h.o * h.e - 1)).map V.bl/\∃ v,σ=[v,some (.int (h.o * h.e - 1))])
   ⟨rfl,rfl,none,rfl⟩ (Nat.le_of_lt (j6 (by lia))) (fun i acc σ H' g=>?_) (fun i acc σ H' _ g=>by rw[g.1];exact hS) ?_ ?_
  ·obtain⟨_,rfl,_⟩:=g
   rw[length_map,length_map,length_take];lia
  ·rintro i y acc σ H' hy ⟨rfl,rfl,v,rfl⟩
   refine⟨_,rfl,_,rfl,y,_,_,rfl,hx y (List.mem_of_getElem? hy),rfl,?_,_,rfl⟩;rw[take_succ,hy,map_append,map_append];rfl
  ·rintro acc σ H' ⟨rfl,rfl,v,rfl⟩ l hl
   rw[take_length];refine⟨l,_,rfl,SqL.of d6,?_⟩
   have:=q _ (g7 hl (.lst ((xs.map fun x=>m8 x 0 (h.o * h.e - 1)).map V.bl)))
   rw[List.all_map];exact this
 ·refine⟨_,(g6 (i0 (i:=2) T5.nd rfl (Or.inr rfl) (i5 at6 (i5 r9 (j3 (j1 K) (pv 0) d9 (fun _ _=>rfl)) (j3 (j1 K) (pv 0) d9 (fun _ _=>rfl))) d9))
  (g9 (i7 (i8 (am6 K rfl) rfl T.my boot_all (b8 (B1 (own:=["thing"]) (fr:=[(2,"last")]) rfl (show CompScope ["hall","things","last"] (d7 (top 15)) _ _ _ from⟨rfl,by decide +kernel,by decide +kernel,by decide +kernel,by decide +kernel⟩) (au4 K (pv 1)) (fun cl C s H ex=>⟨(m5 (i:=0) (show(["thing","last"]:List Str).Nodup from by decide +kernel) rfl (Or.inl rfl) (Or.inr rfl)),P7,(m9 eP hr rfl (b8 (pv 0) (b8 d9 (b8 (pv 1) d8 b9) m4) b9))⟩)) d8 P1))))),?_⟩
  refine⟨_,rfl,a,_,_,_,rfl,rfl,hH,rfl,_,rfl,a,_,_,_,rfl,rfl,hH,rfl,_,_,rfl,rfl,.inl ⟨by lia,by lia⟩,_,_,rfl,rfl,?_⟩
  refine⟨_,rfl,p,rfl,⟨_,hS⟩,?_⟩
  refine aC5 (xs:=xs) (fun i acc σ H'=>H'=H/\acc=((xs.take i).map fun x=>m8 x 0 (h.o * h.e - 1)).map V.bl/\∃ v,σ=[v,some (.int (h.o * h.e - 1))])
   ⟨rfl,rfl,none,rfl⟩ (Nat.le_of_lt (j6 (by lia))) (fun i acc σ H' g=>?_) (fun i acc σ H' _ g=>by rw[g.1];exact hS) ?_ ?_
  ·obtain⟨_,rfl,_⟩:=g
   rw[length_map,length_map,length_take];lia
  ·rintro i y acc σ H' hy ⟨rfl,rfl,v,rfl⟩
   refine⟨_,rfl,_,rfl,y,_,_,rfl,hx y (List.mem_of_getElem? hy),rfl,?_,_,rfl⟩;rw[take_succ,hy,map_append,map_append];rfl
  ·rintro acc σ H' ⟨rfl,rfl,v,rfl⟩ l hl
   rw[take_length];refine⟨l,_,rfl,SqL.of d6,?_⟩
   have:=q _ (g7 hl (.lst ((xs.map fun x=>m8 x 0 (h.o * h.e - 1)).map V.bl)))
   rw[List.all_map];exact this
theorem am2:FnScope ["some"] ["some"] (d7 (top 19)):=mkF
theorem aP8 (T:Txt K mg)(D:Def K mg "are_unlike" (top 19) ["some"]):Callee P w K mg base 1 "are_unlike" ["some"] (aw9 K):=by
 refine D.ok am2 (fun vs H Q E h=>?_) (fun f cdv A outer s H vs Q E hr h=>?_)
 ·obtain⟨p,ns,rfl,_⟩:=h
  rfl
 obtain⟨p,ns,rfl,hS,h64,q⟩:=h;have ln:(ns.map V.int).length=ns.length:=length_map _
 rcases hS with hS | hS
 ·refine⟨_,(g9 (i7 (J7 B2 (i8 (ai4 P w) rfl T.cz boot_len (b8 (p7 (ad2 K P w rfl) rfl T.kX boot_set (b8 (pv 0) d8 b9)) d8 n6)) (i8 (y0 K) rfl T.cz boot_len (b8 (pv 0) d8 b9)) (j5 _)))),?_⟩
  refine⟨_,rfl,p,ns,rfl,hS,by lia,fun l hl=>?_⟩
  have s1:=g7 hl (aM9 P w l ns);refine⟨l,ns,rfl,d6,_,rfl,p,_,rfl,.inl (s1.seq hS),rfl,?_⟩
  have:=q _ s1
  rw[ln]
  have e:decide (V.int (((w9 ns).length:Nat):Int)=V.int ((ns.length:Nat):Int))=decide ((w9 ns).length=ns.length):=by
   rw[Bool.eq_iff_iff,decide_eq_true_iff,decide_eq_true_iff]
   constructor
   ·intro z
    have:=V.int.inj z
    lia
   ·intro z
    rw[z]
  rw[e];exact this
 ·refine⟨_,(g9 (i7 (J7 B2 (i8 (ai4 P w) rfl T.cz boot_len (b8 (p7 (aC8 K P w rfl) rfl T.kX boot_set (b8 (pv 0) d8 b9)) d8 n6)) (i8 (y0 K) rfl T.cz boot_len (b8 (pv 0) d8 b9)) (j5 _)))),?_⟩
  refine⟨_,rfl,p,ns,rfl,hS,by lia,fun l hl=>?_⟩
  have s1:=g7 hl (aM9 P w l ns);refine⟨l,ns,rfl,d6,_,rfl,p,_,rfl,.inr (j0.seqT s1 hS),rfl,?_⟩
  have:=q _ s1
  rw[ln]
  have e:decide (V.int (((w9 ns).length:Nat):Int)=V.int ((ns.length:Nat):Int))=decide ((w9 ns).length=ns.length):=by
   rw[Bool.eq_iff_iff,decide_eq_true_iff,decide_eq_true_iff]
   constructor
   ·intro z
    have:=V.int.inj z
    lia
   ·intro z
    rw[z]
  rw[e];exact this
theorem aI1:FnScope ["hall","thing"] ["hall","thing"] (d7 (top 30)):=mkF
theorem aE5 (T:Txt K mg)(kM:Callee P w K mg base 3 "are_ends" ["hall","things"] (ap6 K))(jJ:Callee P w K mg base 1 "are_unlike" ["some"] (aw9 K))(D:Def K mg "is_ends" (top 30) ["hall","thing"]):Callee P w K mg base 4 "is_ends" ["hall","thing"] (aw0 K):=by
 refine D.ok aI1 (fun vs H Q E h=>?_) (fun f cdv A outer s H vs Q E hr h=>?_)
 ·obtain⟨a,h,x,o,rfl,_⟩:=h
  rfl
 obtain⟨a,h,x,o,rfl,hH,ok,hT,q⟩:=h
 refine⟨_,(g6 (m7 (PW.pt (aA4 (N0 (B3 K (i8 (al8 K) rfl T.ax boot_isinstance (b8 (pv 1) (b8 (O9 (b8 (L5 (v:=.ty "list") rfl T.cY boot_list rfl) (b8 (L5 (v:=.ty "tuple") rfl T.eN boot_tuple rfl) d8 b9) b9)) d8 ah3) b9)) (fun _=>rfl))) (as9 (i4 B2 (i8 (y0 K) rfl T.cz boot_len (b8 (pv 1) d8 b9)) d9 (j5 _))))) (g9 (i7 P6)) j7)
  (g9 (i7 (P9 (m9 kM hr rfl (b8 (pv 0) (b8 (pv 1) d8 b9) b9)) (R6 (m9 jJ hr rfl (b8 (pv 1) d8 b9))))))),?_⟩
 refine⟨_,rfl,(by show 2<=sizeLine;decide),fun tp htp=>?_⟩
 have etp:=d6 (H:=H) (a:=tp) (o:=.tup [.ty "list",.ty "tuple"]);have s1:=g7 htp (.tup [.ty "list",.ty "tuple"]);generalize upd H tp (.tup [.ty "list",.ty "tuple"])=H1 at etp s1 ⊢;have hT1:=hT.same s1
 cases hT1 with
 | no ty h1 h2 =>
  refine⟨_,tp,_,_,_,_,_,rfl,etp,ty,h1,h2,_,rfl,M1 ?_⟩;exact q _ s1
 | @lst p xs e hx h64 =>
  refine⟨_,tp,_,_,_,_,_,rfl,etp,.lst e,ae0,ad4,_,rfl,B7 ?_⟩;refine⟨_,rfl,p,xs,rfl,.inl (SqL.of e),rfl,_,rfl,?_⟩;refine z8 (fun c=>?_) (fun c=>?_)
  ·have c':xs=[]:=by
    have:((xs.length:Nat):Int)=0:=by simpa using c
    exact List.length_eq_zero_iff.mp (by lia)
   have:=q _ s1
   rw[c'] at this;exact this
  ·have c':xs≠[]:=fun z=>c (by rw[z];rfl)
   have ne:(!xs.isEmpty)=true:=by cases xs with
    | nil=>exact absurd rfl c'
    | cons _ _=>rfl
   refine⟨_,rfl,_,rfl,a,p,h,xs,rfl,j0.seqT s1 hH,ok,.inl (SqL.of e),hx,h64,fun H2 s2=>⟨_,rfl,?_⟩⟩;refine z8 (fun d=>?_) (fun d=>?_)
   ·obtain⟨ns,rfl⟩:=aj9 d
    have e2:=s2 _ _ e;refine⟨_,rfl,p,ns,rfl,.inl (SqL.of e2),by rw[length_map] at h64;exact h64,fun H3 s3=>?_⟩
    have:=q _ ((s1.trans s2).trans s3)
    rw[show F8 h (some (ns.map V.int))=decide ((w9 ns).length=ns.length) by
     show(!(ns.map V.int).isEmpty&&((ns.map V.int).all (fun x=>m8 x 0 (h.o * h.e - 1))&&J8 (ns.map V.int)))=_
     rw[ne,d,Bool.true_and,Bool.true_and];unfold J8
     rw[R1,length_map]] at this
    exact this
   ·have:=q _ (s1.trans s2)
    rw[show F8 h (some xs)=false by
     show(!xs.isEmpty&&(xs.all (fun x=>m8 x 0 (h.o * h.e - 1))&&J8 xs))=_
     rw[Bool.eq_false_iff.mpr d,Bool.false_and,Bool.and_false]] at this
    exact this
 | @tup p xs e hx h64 =>
  refine⟨_,tp,_,_,_,_,_,rfl,etp,.tup e,ax3,U3,_,rfl,B7 ?_⟩;refine⟨_,rfl,p,xs,rfl,.inr (SqT.of e),rfl,_,rfl,?_⟩;refine z8 (fun c=>?_) (fun c=>?_)
  ·have c':xs=[]:=by
    have:((xs.length:Nat):Int)=0:=by simpa using c
    exact List.length_eq_zero_iff.mp (by lia)
   have:=q _ s1
   rw[c'] at this;exact this
  ·have c':xs≠[]:=fun z=>c (by rw[z];rfl)
   have ne:(!xs.isEmpty)=true:=by cases xs with
    | nil=>exact absurd rfl c'
    | cons _ _=>rfl
   refine⟨_,rfl,_,rfl,a,p,h,xs,rfl,j0.seqT s1 hH,ok,.inr (SqT.of e),hx,h64,fun H2 s2=>⟨_,rfl,?_⟩⟩;refine z8 (fun d=>?_) (fun d=>?_)
   ·obtain⟨ns,rfl⟩:=aj9 d
    have e2:=s2 _ _ e;refine⟨_,rfl,p,ns,rfl,.inr (SqT.of e2),by rw[length_map] at h64;exact h64,fun H3 s3=>?_⟩
    have:=q _ ((s1.trans s2).trans s3)
    rw[show F8 h (some (ns.map V.int))=decide ((w9 ns).length=ns.length) by
     show(!(ns.map V.int).isEmpty&&((ns.map V.int).all (fun x=>m8 x 0 (h.o * h.e - 1))&&J8 (ns.map V.int)))=_
     rw[ne,d,Bool.true_and,Bool.true_and];unfold J8
     rw[R1,length_map]] at this
    exact this
   ·have:=q _ (s1.trans s2)
    rw[show F8 h (some xs)=false by
     show(!xs.isEmpty&&(xs.all (fun x=>m8 x 0 (h.o * h.e - 1))&&J8 xs))=_
     rw[Bool.eq_false_iff.mpr d,Bool.false_and,Bool.and_false]] at this
    exact this
end
def aG4 (as:List Addr)(ks:List Call)(c:Int)(v:V):Prop:=(v=.non/\∀ k∈ks,k.c≠c)\/∃(j:Nat)(a:Addr)(k:Call),as[j]? = some a/\ks[j]? = some k/\k.c=c/\v=.ref a
def ah4 (K:Frag):Sp:=fun vs H Q _=>∃(l:Addr)(x:V)(as:List Addr)(ks:List Call),vs=[.ref l,x]/\SqL K H l (as.map V.ref)/\h8 H as ks/\PartIs K H x /\
 ((isInt x=false/\Q .non H)\/∃ c,x=.int c/\∀ v,aG4 as ks c v->Q v H)
section
variable {P:Program}{w:World}{K:Frag}{mg:Str->Option Value}{base:Heap}
theorem ai6:FnScope ["calls","caller","call"] ["calls","caller"] (d7 (top 36)):=mkF
theorem aE9 (T:Txt K mg)(cV:Callee P w K mg base 1 "is_number" ["thing"] (af4 K))(D:Def K mg "call_of" (top 36) ["calls","caller"]):Callee P w K mg base 2 "call_of" ["calls","caller"] (ah4 K):=by
 refine D.ok ai6 (fun vs H Q E h=>?_) (fun f cdv A outer s H vs Q E hr h=>?_)
 ·obtain⟨l,x,as,ks,rfl,_⟩:=h
  rfl
 obtain⟨l,x,as,ks,rfl,hL,hC,hp,q⟩:=h
 refine⟨_,(g6 (m7 (N0 (B3 K (m9 cV hr rfl (b8 (pv 1) d8 b9)) (fun _=>rfl))) (g9 (i7 t9)) j7)
  (g6 (B0 PassesOwn.never rfl (o4 K (pv 0)) (m5 (i:=2) ai6.nd rfl (Or.inl rfl))
  (g9 (m7 (i4 B2 (j3 (j1 K) (pv 2) d9 (fun _ _=>rfl)) (pv 1) (j5 _)) (g9 (i7 (pv 2))) j7)))
  (g9 (i7 t9)))),?_⟩
 refine⟨_,rfl,x,rfl,hp,_,rfl,?_⟩
 rcases q with⟨hx,q⟩ | ⟨c,rfl,q⟩
 ·rw[hx]
  exact M1 q
 refine B7 ?_;have la:=Paired.length hC;refine⟨_,rfl,l,rfl,⟨_,hL⟩,?_⟩
 refine B8 (xs:=as.map V.ref) (fun i σ H'=>H'=H/\(∀(j:Nat) k,j < i->ks[j]? = some k->k.c≠c)/\∃ v,σ=[some (.ref l),some (.int c),v])
  ⟨rfl,(fun j k hj=>absurd hj (Nat.not_lt_zero _)),none,rfl⟩ (fun i σ H' _ g=>g.1 ▸ hL) ?_ ?_
 ·rintro i x σ H' hx ⟨rfl,hno,v,rfl⟩
  rw[List.getElem?_map] at hx;obtain⟨a,ha,rfl⟩:=Option.map_eq_some_iff.mp hx;obtain⟨k,hk,ce,e1,e2⟩:=j8 hC i a ha;refine⟨_,rfl,a,_,_,_,rfl,rfl,SqT.of e2,rfl,_,rfl,rfl,_,rfl,?_⟩;refine z8 (fun cc=>?_) (fun cc=>?_)
  ·have cc':k.c=c:=by simpa using cc
   exact⟨_,rfl,q _ (.inr ⟨i,a,k,ha,hk,cc',rfl⟩)⟩
  ·have cc':k.c≠c:=by simpa using cc
   refine⟨rfl,fun j k' hj hk'=>?_,_,rfl⟩
   by_cases z:j=i
   ·subst z
    rw[hk] at hk'
    cases hk'
    exact cc'
   ·exact hno j k' (by lia) hk'
 ·rintro σ H' ⟨rfl,hno,v,rfl⟩
  refine q _ (.inl ⟨rfl,fun k hk=>?_⟩);obtain⟨j,hj⟩:=List.mem_iff_getElem?.mp hk
  have:=(List.getElem?_eq_some_iff.mp hj).1
  exact hno j k (by rw[length_map];lia) hj
end
def bh3 (ks:List Call)(e:Int)(v:V):Prop:=(v=.non/\∀ k∈ks,¬ e∈k.es)\/∃ k∈ks,e∈k.es/\v=.int k.c
def ak7 (K:Frag):Sp:=fun vs H Q _=>∃(l:Addr)(e:Int)(as:List Addr)(ks:List Call),vs=[.ref l,.int e]/\SqL K H l (as.map V.ref)/\h8 H as ks/\∀ v,bh3 ks e v->Q v H
def z6:List Addr->List Call->Int->List Addr
 | a::as,k::ks,c=>if k.c=c then z6 as ks c else a::z6 as ks c
 | _,_,_=>[]
theorem Z0:∀{as:List Addr}{ks:List Call}{a:Addr}{k:Call}{c:Int},as.length=ks.length->z6 (as++[a]) (ks++[k]) c=z6 as ks c++(if k.c=c then [] else [a])
 | [],[],a,k,c,_=>by
  show(if k.c=c then z6 [] [] c else a::z6 [] [] c)=_
  rfl
 | b::as,k'::ks,a,k,c,h=>by
  have ih:=Z0 (as:=as) (ks:=ks) (a:=a) (k:=k) (c:=c) (by simpa using h)
  show(if k'.c=c then z6 (as++[a]) (ks++[k]) c else b::z6 (as++[a]) (ks++[k]) c)=(if k'.c=c then z6 as ks c else b::z6 as ks c)++_
  by_cases e:k'.c=c
  ·rw[if_pos e,if_pos e,ih]
  ·rw[if_neg e,if_neg e,ih]
   rfl
theorem V9:∀(as:List Addr)(ks:List Call)(c:Int),(z6 as ks c).length<=ks.length
 | [],[],_=>Nat.le_refl _
 | [],_::_,_=>Nat.zero_le _
 | _::_,[],_=>Nat.le_refl _
 | a::as,k::ks,c=>by
  have ih:=V9 as ks c
  show(if k.c=c then z6 as ks c else a::z6 as ks c).length<=ks.length + 1
  split
  ·lia
  ·simp only[length_cons];lia
theorem az7 {H:Hp}:∀{as:List Addr}{ks:List Call}{c:Int},h8 H as ks->∃ ks',h8 H (z6 as ks c) ks'
 | _,_,_,.nil=>⟨[],.nil⟩
 | _,_,c,.cons (a:=a) (b:=k) h t=>by
  obtain⟨ks',q⟩:=az7 (c:=c) t
  by_cases e:k.c=c
  ·exact⟨ks',by show h8 H (if k.c=c then _ else _) ks';rw[if_pos e];exact q⟩
  ·exact⟨k::ks',by show h8 H (if k.c=c then _ else _) _;rw[if_neg e];exact .cons h q⟩
def aJ1 (K:Frag)(C:Addr):Sp:=fun vs H Q E=>∃(l:Addr)(x:V)(as:List Addr)(ks:List Call),vs=[.ref l,x]/\SqL K H l (as.map V.ref)/\h8 H as ks/\ks.length<=63/\PartIs K H x /\
 ((∃ c,x=.int c/\(∃ k∈ks,k.c=c)/\∀ f,H f=none->Q (.ref f) (upd H f (.lst ((z6 as ks c).map V.ref))))\/((∀ c,x=.int c->∀ k∈ks,k.c≠c)/\E (.ref C) none H))
section
variable {P:Program}{w:World}{K:Frag}{mg:Str->Option Value}{base:Heap}
theorem aa2:FnScope ["calls","end","call"] ["calls","end"] (d7 (top 37)):=mkF
theorem ar0 (T:Txt K mg)(cV:Callee P w K mg base 1 "is_number" ["thing"] (af4 K))(D:Def K mg "holder_of" (top 37) ["calls","end"]):Callee P w K mg base 2 "holder_of" ["calls","end"] (ak7 K):=by
 refine D.ok aa2 (fun vs H Q E h=>?_) (fun f cdv A outer s H vs Q E hr h=>?_)
 ·obtain⟨l,x,as,ks,rfl,_⟩:=h
  rfl
 obtain⟨l,e,as,ks,rfl,hL,hC,q⟩:=h
 refine⟨_,(g6 (m7 (N0 (B3 K (m9 cV hr rfl (b8 (pv 1) d8 b9)) (fun _=>rfl))) (g9 (i7 t9)) j7)
  (g6 (B0 PassesOwn.never rfl (o4 K (pv 0)) (m5 (i:=2) aa2.nd rfl (Or.inl rfl))
  (g9 (m7 (i4 (ah8 K) (pv 1) (j3 (j1 K) (pv 2) d9 (fun _ _=>rfl)) (by with_unfolding_all rfl)) (g9 (i7 (j3 (j1 K) (pv 2) d9 (fun _ _=>rfl)))) j7)))
  (g9 (i7 t9)))),?_⟩
 refine⟨_,rfl,.int e,rfl,.int e,_,rfl,B7 ?_⟩;have la:=Paired.length hC;refine⟨_,rfl,l,rfl,⟨_,hL⟩,?_⟩
 refine B8 (xs:=as.map V.ref) (fun i σ H'=>H'=H/\(∀(j:Nat) k,j < i->ks[j]? = some k->¬ e∈k.es)/\∃ v,σ=[some (.ref l),some (.int e),v])
  ⟨rfl,(fun j k hj=>absurd hj (Nat.not_lt_zero _)),none,rfl⟩ (fun i σ H' _ g=>g.1 ▸ hL) ?_ ?_
 ·rintro i x σ H' hx ⟨rfl,hno,v,rfl⟩
  rw[List.getElem?_map] at hx;obtain⟨a,ha,rfl⟩:=Option.map_eq_some_iff.mp hx;obtain⟨k,hk,ce,e1,e2⟩:=j8 hC i a ha;refine⟨_,rfl,_,rfl,a,_,_,_,rfl,rfl,SqT.of e2,rfl,ce,_,rfl,.inr (SqT.of e1),rfl,R0 k.es,_,rfl,?_⟩;rw[S2];refine z8 (fun cc=>?_) (fun cc=>?_)
  ·have cc':e∈k.es:=by simpa using cc
   exact⟨_,rfl,a,_,_,_,rfl,rfl,SqT.of e2,rfl,q _ (.inr ⟨k,List.mem_of_getElem? hk,cc',rfl⟩)⟩
  ·have cc':¬ e∈k.es:=by simpa using cc
   refine⟨rfl,fun j k' hj hk'=>?_,_,rfl⟩
   by_cases z:j=i
   ·subst z
    rw[hk] at hk'
    cases hk'
    exact cc'
   ·exact hno j k' (by lia) hk'
 ·rintro σ H' ⟨rfl,hno,v,rfl⟩
  refine q _ (.inl ⟨rfl,fun k hk=>?_⟩);obtain⟨j,hj⟩:=List.mem_iff_getElem?.mp hk
  have:=(List.getElem?_eq_some_iff.mp hj).1
  exact hno j k (by rw[length_map];lia) hj
end
def P0 (h:Hall)(s:Int)(gs:List Int)(k:Call):Bool:=decide (k.c / h.c=s) || (m6 h k.es).any fun r=>decide (r∈gs)
def E3 (h:Hall)(ks:List Call)(s:Int)(gs:List Int)(r:Nat):List Int:=(ks.filter fun k=>decide (k.k=(r:Int))&&P0 h s gs k).map Call.c
def F3 (h:Hall)(ks:List Call)(s:Int)(gs:List Int):List (List Int):=(List.range h.m.toNat).map (E3 h ks s gs)
def A6 (h:Hall)(ks:List Call)(c:Int)(es:List Int):List (List Int):=F3 h ks (c / h.c) (m6 h es)
theorem X0 (h:Hall)(ks:List Call)(s:Int)(gs:List Int)(r:Nat)(k:Call):E3 h (ks++[k]) s gs r=E3 h ks s gs r++(if (decide (k.k=(r:Int))&&P0 h s gs k)=true then [k.c] else []):=by
 unfold E3;rw[filter_append,map_append]
 have e:List.filter (fun k=>decide (k.k=(r:Int))&&P0 h s gs k) [k]=if (decide (k.k=(r:Int))&&P0 h s gs k)=true then [k] else []:=by
  rw[filter_cons];rfl
 rw[e]
 by_cases c:(decide (k.k=(r:Int))&&P0 h s gs k)=true
 ·rw[if_pos c,if_pos c]
  rfl
 ·rw[if_neg c,if_neg c]
  rfl
theorem aa1 (h:Hall)(ks:List Call)(s:Int)(gs:List Int)(r:Nat):(E3 h ks s gs r).length<=ks.length:=by
 unfold E3;rw[length_map];exact length_filter_le _ _
theorem T7 (h:Hall)(ks:List Call)(s:Int)(gs:List Int):(F3 h ks s gs).length=h.m.toNat:=by
 unfold F3;rw[length_map,length_range]
def t6 (H:Hp)(rs:List Addr)(rows:List (List Int)):Prop:=Paired (fun a row=>H a=some (.lst (row.map V.int))) rs rows
theorem t6.other {H:Hp}{a:Addr}{o:HO}:∀{rs:List Addr}{rows:List (List Int)},t6 H rs rows->¬ a∈rs->t6 (upd H a o) rs rows
 | _,_,.nil,_=>.nil
 | _,_,.cons (a:=b) h t,hn=>.cons (by
   have:b≠a:=fun z=>hn (by rw[z];exact mem_cons_self ..)
   show upd H a o b=_
   rw[h7 this];exact h) (t6.other t fun z=>hn (mem_cons_of_mem _ z))
theorem t6.set {H:Hp}{a:Addr}{row:List Int}:∀{rs:List Addr}{rows:List (List Int)}{j:Nat},t6 H rs rows->rs.Nodup->rs[j]? = some a->t6 (upd H a (.lst (row.map V.int))) rs (rows.set j row)
 | _,_,_,.nil,_,h=>by cases h
 | _,_,0,.cons (a:=b) h t,nd,hj=>by
  cases hj
  exact .cons d6 (t6.other t (List.nodup_cons.mp nd).1)
 | _,_,j + 1,.cons (a:=b) h t,nd,hj=>by
  have hj':_:=hj;rw[List.getElem?_cons_succ] at hj';have hm:=List.mem_of_getElem? hj';have hb:b≠a:=fun z=>(List.nodup_cons.mp nd).1 (by rw[z];exact hm)
  exact .cons (by
   show upd H a _ b=_
   rw[h7 hb];exact h) (t6.set t (List.nodup_cons.mp nd).2 hj')
theorem t6.same {H H':Hp}{rs:List Addr}{rows:List (List Int)}(s:j0 H H')(h:t6 H rs rows):t6 H' rs rows:=by
 unfold t6 at h ⊢;exact E6 h fun a d _ e=>s _ _ e
theorem aG0 {n j:Nat}(f:Nat->List Int)(x:List Int):((List.range n).map f).set j x=(List.range n).map fun r=>if r=j then x else f r:=by
 refine ext_getElem? fun i=>?_;rw[List.getElem?_set,List.getElem?_map,List.getElem?_map]
 by_cases hi:i < n
 ·rw[List.getElem?_range hi]
  simp only[length_map,length_range,Option.map_some]
  by_cases c:j=i
  ·subst c;simp[hi]
  ·simp[c,Ne.symm c]
 ·rw[List.getElem?_eq_none (by simpa using hi)]
  simp only[length_map,length_range,Option.map_none]
  by_cases c:j=i
  ·subst c;simp[hi]
  ·simp[c]
def ay8 (K:Frag):Sp:=fun vs H Q _=>∃(a p g:Addr)(h:Hall)(k:Call)(st:Int)(gs:List Int),vs=[.ref a,.ref p,.int st,.ref g]/\SqT K H a (h.row.map V.int)/\h.Ok/\B9 H p k/\k.In h/\SqL K H g (gs.map V.int)/\∀ H',j0 H H'->Q (.bl (P0 h st gs k)) H'
def V7 (K:Frag):Sp:=fun vs H Q _=>∃(a l e:Addr)(h:Hall)(as:List Addr)(ks:List Call)(c:Int)(es:List Int),vs=[.ref a,.ref l,.int c,.ref e]/\SqT K H a (h.row.map V.int)/\h.Ok/\SqL K H l (as.map V.ref)/\h8 H as ks/\(∀ k∈ks,k.In h)/\ks.length<=63/\(SqT K H e (es.map V.int)\/SqL K H e (es.map V.int))/\es.length < 64 /\
 ∀(f:Addr)(rs:List Addr)(H':Hp),j0 H H'->H f=none->(∀ r∈rs,H r=none)->rs.Nodup->¬ f∈rs->H' f=some (.lst (rs.map V.ref))->t6 H' rs (A6 h ks c es)->Q (.ref f) H'
section
variable {P:Program}{w:World}{K:Frag}{mg:Str->Option Value}{base:Heap}
theorem ae9:FnScope ["hall","call","start","goals"] ["hall","call","start","goals"] (d7 (top 31)):=mkF
theorem aP7 (T:Txt K mg)(gy:Callee P w K mg base 1 "place_in" ["hall","caller"] (aa8 K Hall.c))(gz:Callee P w K mg base 2 "racks_of" ["hall","ends"] (at7 K))(D:Def K mg "holds_needed" (top 31) ["hall","call","start","goals"]):Callee P w K mg base 3 "holds_needed" ["hall","call","start","goals"] (ay8 K):=by
 refine D.ok ae9 (fun vs H Q E h=>?_) (fun f cdv A outer s H vs Q E hr h=>?_)
 ·obtain⟨a,p,g,h,k,st,gs,rfl,_⟩:=h
  rfl
 obtain⟨a,p,g,h,k,st,gs,rfl,hH,ok,⟨e,ee,ep⟩,hk,hG,q⟩:=h;have few:=hk.few
 refine⟨_,(g6 (m7 (i4 B2 (j3 (j1 K) (m9 gy hr rfl (b8 (pv 0) (b8 (j3 (j1 K) (pv 1) d9 (fun _ _=>rfl)) d8 x6) b9)) d9 (fun _ _=>rfl)) (pv 2) (j5 _)) (g9 (i7 P6)) j7)
  (g9 (i7 (i8 (aN3 K rfl) rfl T.mQ boot_any (b8 (B1 (own:=["rack"]) (fr:=[(3,"goals")]) rfl (show CompScope ["hall","call","start","goals"] (d7 (top 31)) _ _ _ from⟨rfl,by decide +kernel,by decide +kernel,by decide +kernel,by decide +kernel⟩) (o4 K (m9 gz hr rfl (b8 (pv 0) (b8 (j3 (j1 K) (pv 1) d9 (fun _ _=>rfl)) d8 x6) b9))) (fun cl C s H ex=>⟨(m5 (i:=0) (show(["rack","goals"]:List Str).Nodup from by decide +kernel) rfl (Or.inl rfl) (Or.inr rfl)),P7,(J7 (ah8 K) (pv 0) (pv 1) (by with_unfolding_all rfl))⟩)) d8 P1))))),?_⟩
 refine⟨_,rfl,_,rfl,p,_,_,_,rfl,rfl,SqT.of ep,rfl,a,h,k.c,rfl,hH,ok,fun r hr1=>?_⟩;have er:=d6 (H:=H) (a:=r) (o:=.tup [.int (k.c / h.c),.int (k.c % h.c)]);have s1:=g7 hr1 (.tup [.int (k.c / h.c),.int (k.c % h.c)]);generalize upd H r (.tup [.int (k.c / h.c),.int (k.c % h.c)])=H1 at er s1 ⊢;refine⟨r,_,_,_,rfl,rfl,SqT.of er,rfl,_,rfl,rfl,_,rfl,?_⟩;refine z8 (fun c=>?_) (fun c=>?_)
 ·have c':k.c / h.c=st:=by simpa using c
  have:=q H1 s1
  rw[show P0 h st gs k=true by unfold P0;rw[decide_eq_true c'];rfl] at this
  exact this
 ·have c':¬ k.c / h.c=st:=by simpa using c
  refine⟨_,rfl,_,rfl,p,_,_,_,rfl,rfl,SqT.of (s1 _ _ ep),rfl,a,e,h,k.es,rfl,j0.seqT s1 hH,ok,.inl (SqT.of (s1 _ _ ee)),by lia,fun l H2 s2 _ el=>?_⟩
  have s12:=s1.trans s2;have rl:=aN0 h k.es;refine⟨l,rfl,⟨_,SqL.of el⟩,?_⟩
  refine x9 (xs:=(m6 h k.es).map V.int) (fun i acc σ H'=>H'=H2/\acc=(((m6 h k.es).take i).map fun r=>decide (r∈gs)).map V.bl/\∃ v,σ=[v,some (.ref g)])
   ⟨rfl,rfl,none,rfl⟩ (Nat.le_of_lt (j6 (by rw[length_map];lia))) (fun i acc σ H' gg=>?_) (fun i acc σ H' _ gg=>by rw[gg.1];exact SqL.of el) ?_ ?_
  ·obtain⟨_,rfl,_⟩:=gg
   rw[length_map,length_map,length_take];lia
  ·rintro i y acc σ H' hy ⟨rfl,rfl,v,rfl⟩
   rw[List.getElem?_map] at hy;obtain⟨x,hx,rfl⟩:=Option.map_eq_some_iff.mp hy;refine⟨_,rfl,_,rfl,g,_,rfl,.inl (s12.seq hG),rfl,R0 gs,rfl,?_,_,rfl⟩;rw[take_succ,hx,map_append,map_append]
   show _=_++[V.bl _]
   rw[S2];rfl
  ·rintro acc σ H' ⟨rfl,rfl,v,rfl⟩ l2 hl2
   rw[length_map,take_length];refine⟨l2,_,rfl,SqL.of d6,?_⟩
   have:=q _ (s12.trans (g7 hl2 (.lst (((m6 h k.es).map fun r=>decide (r∈gs)).map V.bl))))
   rw[show P0 h st gs k=((m6 h k.es).map fun r=>decide (r∈gs)).any id by
    unfold P0;rw[decide_eq_false c',Bool.false_or,List.any_map]
    rfl] at this
   exact this
theorem O5:FnScope ["hall","calls","caller","ends","start","goals","found","call"] ["hall","calls","caller","ends"] (d7 (top 32)):=mkF
theorem aD7 (T:Txt K mg)(gy:Callee P w K mg base 1 "place_in" ["hall","caller"] (aa8 K Hall.c))(gz:Callee P w K mg base 2 "racks_of" ["hall","ends"] (at7 K))(ji:Callee P w K mg base 3 "holds_needed" ["hall","call","start","goals"] (ay8 K))(D:Def K mg "holders" (top 32) ["hall","calls","caller","ends"]):Callee P w K mg base 4 "holders" ["hall","calls","caller","ends"] (V7 K):=by
 refine D.ok O5 (fun vs H Q E h=>?_) (fun f cdv A outer s H vs Q E hr h=>?_)
 ·obtain⟨a,l,e,h,as,ks,c,es,rfl,_⟩:=h
  rfl
 obtain⟨a,l,e,h,as,ks,c,es,rfl,hH,ok,hL,hC,hin,h63,hE,h64,q⟩:=h;have b3:=ok.m;have la:=Paired.length hC
 refine⟨_,(g6 (i0 (i:=4) O5.nd rfl (Or.inl rfl) (j3 (j1 K) (m9 gy hr rfl (b8 (pv 0) (b8 (pv 2) d8 b9) b9)) d9 (fun _ _=>rfl)))
  (g6 (i0 (i:=5) O5.nd rfl (Or.inl rfl) (m9 gz hr rfl (b8 (pv 0) (b8 (pv 3) d8 b9) b9)))
  (g6 (aq6 (i:=6) (own:=["k"]) (fr:=[]) rfl O5.nd rfl rfl (show CompScope ["hall","calls","caller","ends","start","goals","found","call"] (d7 (top 32)) _ _ _ from⟨rfl,by decide +kernel,by decide +kernel,by decide +kernel,by decide +kernel⟩) (D6 rfl T.bW (b8 (j3 (j1 K) (pv 0) d9 (fun _ _=>rfl)) d8 x6)) (fun cl C s H ex=>⟨(m5 (i:=0) (show(["k"]:List Str).Nodup from by decide +kernel) rfl (Or.inl rfl) (Or.inr rfl)),P7,(r6 d8)⟩) rfl)
  (g6 (B0 PassesOwn.never rfl (o4 K (pv 1)) (m5 (i:=7) O5.nd rfl (Or.inl rfl))
  (g9 (m7 (B3 K (m9 ji hr rfl (b8 (pv 0) (b8 (pv 7) (b8 (pv 4) (b8 (pv 5) d8 b9) b9) b9) b9)) (fun _=>rfl)) (g9 (A4 (C4 K PySem.F.plainAttrs_list PySem.F.slot_list_append PySem.F.type_list_append x8 (j3 (m3 K) (pv 6) (j3 (j1 K) (pv 7) d9 (fun _ _=>rfl)) (fun _ _=>rfl)) (b8 (j3 (j1 K) (pv 7) d9 (fun _ _=>rfl)) d8 x6)))) j7)))
  (g9 (i7 (pv 6))))))),?_⟩
 refine⟨_,rfl,_,rfl,a,h,c,rfl,hH,ok,fun r hr1=>?_⟩;have er:=d6 (H:=H) (a:=r) (o:=.tup [.int (c / h.c),.int (c % h.c)]);have s1:=g7 hr1 (.tup [.int (c / h.c),.int (c % h.c)]);generalize upd H r (.tup [.int (c / h.c),.int (c % h.c)])=H1 at er s1 ⊢;refine⟨r,_,_,_,rfl,rfl,SqT.of er,rfl,?_⟩;refine⟨_,rfl,_,rfl,a,e,h,es,rfl,j0.seqT s1 hH,ok,hE.imp (fun z=>j0.seqT s1 z) (fun z=>s1.seq z),h64,fun g H2 s2 _ eg=>?_⟩;have s12:=s1.trans s2;refine⟨_,rfl,a,_,_,_,rfl,rfl,j0.seqT s12 hH,rfl,_,rfl,by show -(2 ^ 62)<=h.m;lia,by show h.m < 2 ^ 62;lia,?_⟩
 refine aj8 (fun i acc σ H'=>j0 H2 H'/\(∃ rs:List Addr,acc=rs.map V.ref/\rs.length=i/\rs.Nodup/\(∀ r∈rs,H2 r=none)/\t6 H' rs (List.replicate i []))/\∃ v,σ=[v])
  ⟨j0.refl _,⟨[],rfl,rfl,nodup_nil,(fun r hr=>nomatch hr),.nil⟩,none,rfl⟩ (by show h.m.toNat<=16777216;lia) (fun i acc σ H' gg=>?_) ?_ ?_
 ·obtain⟨_,⟨rs,rfl,hl,_⟩,_⟩:=gg
  rw[length_map,hl];exact Nat.le_refl _
 ·rintro i acc σ H' hi ⟨g1,⟨rs,rfl,hl,nd,hn,hr⟩,v,rfl⟩
  refine⟨(by show 0<=sizeLine;decide),fun u hu=>⟨g1.trans (g7 hu _),⟨rs++[u],by rw[map_append];rfl,by rw[length_append,hl];rfl,?_,?_,?_⟩,_,rfl⟩⟩
  ·refine List.nodup_append.mpr ⟨nd,by simp,fun x hx y hy=>?_⟩
   rw[mem_singleton] at hy
   rintro rfl
   have:H' x≠none:=by
    obtain⟨j,hj⟩:=List.mem_iff_getElem?.mp hx;obtain⟨row,_,e2⟩:=j8 hr j x hj;exact fun z=>by rw[e2] at z;cases z
   exact this (by rw[hy];exact hu)
  ·intro x hx
   rcases List.mem_append.mp hx with z | z
   ·exact hn x z
   ·rw[mem_singleton] at z
    rw[z];exact g1.free hu
  ·rw[List.replicate_succ']
   exact Paired.snoc (t6.same (g7 hu _) hr) d6
 ·rintro acc σ H3 ⟨s3,⟨rs,rfl,hl,nd,hn,hr⟩,v,rfl⟩ F hF
  have eF:=d6 (H:=H3) (a:=F) (o:=.lst (rs.map V.ref));have s4:=s3.trans (g7 hF (.lst (rs.map V.ref)));have hr4:=t6.same (g7 hF (.lst (rs.map V.ref))) hr
  have hFn:¬ F∈rs:=fun z=>by
   obtain⟨j,hj⟩:=List.mem_iff_getElem?.mp z;obtain⟨row,_,e2⟩:=j8 hr j F hj;rw[hF] at e2
   cases e2
  generalize upd H3 F (.lst (rs.map V.ref))=H4 at eF s4 hr4 ⊢;have hF2:H2 F=none:=s3.free hF
  have e0:List.replicate h.m.toNat []=F3 h (ks.take 0) (c / h.c) (m6 h es):=by
   unfold F3 E3;rw[List.take_zero];refine ext_getElem? fun i=>?_;rw[List.getElem?_map,List.getElem?_replicate]
   by_cases hi:i < h.m.toNat
   ·rw[if_pos hi,List.getElem?_range hi]
    rfl
   ·rw[if_neg hi,List.getElem?_eq_none (by simpa using hi)]
    rfl
  rw[e0] at hr4;refine⟨_,rfl,l,rfl,⟨_,(s12.trans s4).seq hL⟩,?_⟩
  refine B8 (xs:=as.map V.ref) (fun i σ H'=>j0 H2 H'/\H' F=some (.lst (rs.map V.ref))/\t6 H' rs (F3 h (ks.take i) (c / h.c) (m6 h es))/\∃ v7,σ=[some (.ref a),some (.ref l),some (.int c),some (.ref e),some (.int (c / h.c)),some (.ref g),some (.ref F),v7])
   ⟨s4,eF,hr4,none,rfl⟩ (fun i σ H' _ gg=>(s12.trans gg.1).seq hL) ?_ ?_
  ·rintro i x σ H' hx ⟨s5,eF5,hr5,v7,rfl⟩
   rw[List.getElem?_map] at hx;obtain⟨p,hp,rfl⟩:=Option.map_eq_some_iff.mp hx;obtain⟨k,hk1,hk2⟩:=j8 hC i p hp;have hkI:=hin k (List.mem_of_getElem? hk1);have hkk:=hkI.k;have tk:ks.take (i + 1)=ks.take i++[k]:=by rw[take_succ,hk1];rfl
   have s25:=s12.trans s5;have hk5:B9 H' p k:=B9.same (fun b xs z=>s25 _ _ z) hk2;refine⟨_,rfl,_,rfl,_,rfl,_,rfl,a,p,g,h,k,c / h.c,m6 h es,rfl,j0.seqT s25 hH,ok,hk5,hkI,SqL.of (s5 _ _ eg),fun H6 s6=>?_⟩;refine⟨_,rfl,?_⟩;have hr6:=t6.same s6 hr5;have eF6:=s6 _ _ eF5;refine z8 (fun cc=>?_) (fun cc=>?_)
   ·obtain⟨ce,e1,e2⟩:=B9.same (fun b xs z=>s6 _ _ z) hk5
    obtain⟨n,hnk⟩:∃ n:Nat,k.k=(n:Int):=⟨k.k.toNat,by lia⟩
    have hn1:n < h.m.toNat:=by lia
    have lr:=Paired.length hr6;rw[T7] at lr;have ea:rs[n]? = some (rs[n]'(by lia)):=List.getElem?_eq_getElem _
    generalize rs[n]'(by lia)=ra at ea
    obtain⟨row,w1,w2⟩:=j8 hr6 n ra ea
    have w1':row=E3 h (ks.take i) (c / h.c) (m6 h es) n:=by
     unfold F3 at w1;rw[List.getElem?_map,List.getElem?_range hn1] at w1;exact(Option.some.inj w1).symm
    have hat:atI (rs.map V.ref) k.k=some (.ref ra):=by rw[hnk];exact A0 (by rw[List.getElem?_map,ea];rfl)
    have rlen:row.length<=63:=by
     rw[w1'];have h1:=aa1 h (ks.take i) (c / h.c) (m6 h es) n;have h2:(ks.take i).length<=ks.length:=by rw[length_take];lia
     lia
    refine⟨_,rfl,_,rfl,p,_,_,_,rfl,rfl,SqT.of e2,rfl,F,_,_,_,rfl,rfl,SqL.of eF6,hat,.inl ⟨rfl,_,SqL.of w2⟩,_,rfl,p,_,_,_,rfl,rfl,SqT.of e2,rfl,ra,row.map V.int,_,rfl,rfl,w2,j6 (by rw[length_map];lia),?_⟩
    have hra:=List.mem_of_getElem? ea;have hFra:F≠ra:=fun z=>hFn (by rw[z];exact hra)
    refine⟨j0.put (s5.trans s6) (hn ra hra),by rw[h7 hFra];exact eF6,?_,_,rfl⟩
    have em:(F3 h (ks.take i) (c / h.c) (m6 h es)).set n (row++[k.c])=F3 h (ks.take (i + 1)) (c / h.c) (m6 h es):=by
     unfold F3;rw[aG0];refine map_congr_left fun r hr=>?_;rw[tk,X0]
     by_cases z:r=n
     ·subst z
      rw[if_pos rfl,if_pos (by rw[decide_eq_true hnk,cc];rfl),w1']
     ·rw[if_neg z,if_neg (by rw[decide_eq_false (fun y=>z (by lia))];exact Bool.false_ne_true),append_nil]
    rw[<- em,show row.map V.int++[V.int k.c]=(row++[k.c]).map V.int by rw[map_append];rfl]
    exact t6.set hr6 nd ea
   ·refine⟨s5.trans s6,eF6,?_,_,rfl⟩
    have em:F3 h (ks.take (i + 1)) (c / h.c) (m6 h es)=F3 h (ks.take i) (c / h.c) (m6 h es):=by
     unfold F3;refine map_congr_left fun r hr=>?_;rw[tk,X0,if_neg (fun z=>cc (Bool.and_eq_true_iff.mp z).2),append_nil]
    rw[em];exact hr6
  ·rintro σ H' ⟨s5,eF5,hr5,v7,rfl⟩
   rw[length_map,la,take_length] at hr5;exact⟨_,rfl,q F rs H' (s12.trans s5) (s12.free hF2) (fun r hr=>s12.free (hn r hr)) nd hFn eF5 hr5⟩
end
def D9 (sh:Int)(k:Nat):Bool:=decide (Builtin.bitAnd (sh / 2 ^ k) 1=0)
def w5 (h:Hall)(sh:Int):List Nat:=(List.range h.m.toNat).filter (D9 sh)
def B5 (ks:List Nat):List V:=ks.map fun(k:Nat)=>V.int k
theorem az6 (ks:List Nat):B5 ks=(ks.map fun(k:Nat)=>(k:Int)).map V.int:=by
 unfold B5;rw[List.map_map];rfl
theorem aj6 (h:Hall)(sh:Int):(w5 h sh).length<=h.m.toNat:=by
 have:=length_filter_le (D9 sh) (List.range h.m.toNat)
 rw[length_range] at this;exact this
theorem S1 {h:Hall}{sh:Int}{k:Nat}(hk:k∈w5 h sh):k < h.m.toNat:=List.mem_range.mp (List.mem_filter.mp hk).1
def aE7 (K:Frag):Sp:=fun vs H Q _=>∃(a:Addr)(h:Hall)(sh:Int),vs=[.ref a,.int sh]/\SqT K H a (h.row.map V.int)/\h.Ok/\∀ l,H l=none->Q (.ref l) (upd H l (.lst (B5 (w5 h sh))))
section
variable {P:Program}{w:World}{K:Frag}{mg:Str->Option Value}{base:Heap}
theorem ar7:FnScope ["hall","shut"] ["hall","shut"] (d7 (top 18)):=mkF
theorem a85 (T:Txt K mg)(D:Def K mg "left_open" (top 18) ["hall","shut"]):Callee P w K mg base 1 "left_open" ["hall","shut"] (aE7 K):=by
 refine D.ok ar7 (fun vs H Q E h=>?_) (fun f cdv A outer s H vs Q E hr h=>?_)
 ·obtain⟨a,h,sh,rfl,_⟩:=h
  rfl
 obtain⟨a,h,sh,rfl,hH,ok,q⟩:=h;have b3:=ok.m;refine⟨_,(g9 (i7 (B1 (own:=["k"]) (fr:=[(1,"shut")]) rfl (show CompScope ["hall","shut"] (d7 (top 18)) _ _ _ from⟨rfl,by decide +kernel,by decide +kernel,by decide +kernel,by decide +kernel⟩) (D6 rfl T.bW (b8 (j3 (j1 K) (pv 0) d9 (fun _ _=>rfl)) d8 x6)) (fun cl C s H ex=>⟨(m5 (i:=0) (show(["k","shut"]:List Str).Nodup from by decide +kernel) rfl (Or.inl rfl) (Or.inr rfl)),(L7 (i4 B2 (i5 aH8 (i5 aF9 (pv 1) (pv 0)) d9) d9 (j5 _))),(pv 0)⟩)))),?_⟩
 refine⟨_,rfl,a,_,_,_,rfl,rfl,hH,rfl,_,rfl,by show -(2 ^ 62)<=h.m;lia,by show h.m < 2 ^ 62;lia,?_⟩
 refine aj8 (fun i acc σ H'=>H'=H/\acc=B5 ((List.range i).filter (D9 sh))/\∃ v,σ=[v,some (.int sh)])
  ⟨rfl,rfl,none,rfl⟩ (by show h.m.toNat<=16777216;lia) (fun i acc σ H' g=>?_) ?_ ?_
 ·obtain⟨_,rfl,_⟩:=g
  unfold B5;rw[length_map]
  have:=length_filter_le (D9 sh) (List.range i)
  rw[length_range] at this;exact this
 ·rintro i acc σ H' hi ⟨rfl,rfl,v,rfl⟩
  rw[Int.zero_add]
  have step:B5 ((List.range (i + 1)).filter (D9 sh))=B5 ((List.range i).filter (D9 sh))++(if D9 sh i=true then [V.int (i:Int)] else []):=by
   unfold B5;rw[range_succ,filter_append,map_append]
   by_cases c:D9 sh i=true
   ·rw[if_pos c]
    simp[c]
   ·rw[if_neg c]
    simp[c]
  refine⟨_,rfl,_,rfl,_,_,rfl,rfl,by lia,_,_,rfl,rfl,rfl,_,rfl,?_⟩
  refine z8 (fun c=>?_) (fun c=>?_)
  ·have c':D9 sh i=true:=by
    unfold D9
    simpa using c
   refine⟨_,rfl,rfl,?_,_,rfl⟩;rw[step,if_pos c']
  ·have c':¬ D9 sh i=true:=by
    unfold D9
    simpa using c
   refine⟨rfl,?_,_,rfl⟩;rw[step,if_neg c',append_nil]
 ·rintro acc σ H' ⟨rfl,rfl,v,rfl⟩ l hl
  exact q l hl
end
structure Asked (K:Frag)(H:Hp)(a l e:Addr)(h:Hall)(as:List Addr)(ks:List Call)(es:List Int):Prop where
 a:SqT K H a (h.row.map V.int)
 ok:h.Ok
 l:SqL K H l (as.map V.ref)
 c:h8 H as ks
 hin:∀ k∈ks,k.In h
 few:ks.length<=63
 e:SqT K H e (es.map V.int)\/SqL K H e (es.map V.int)
 len:es.length < 64
theorem Asked.same {K:Frag}{H H':Hp}{a l e:Addr}{h:Hall}{as:List Addr}{ks:List Call}{es:List Int}(s:j0 H H')(k:Asked K H a l e h as ks es):Asked K H' a l e h as ks es :=
 ⟨j0.seqT s k.a,k.ok,s.seq k.l,h8.same (fun b xs z=>s _ _ z) k.c,k.hin,k.few,k.e.imp (fun z=>j0.seqT s z) (fun z=>s.seq z),k.len⟩
def N7 (h:Hall)(ks:List Call)(c:Int)(es:List Int)(k:Nat):Bool:=decide (E3 h ks (c / h.c) (m6 h es) k=[])
def w4 (h:Hall)(ks:List Call)(c:Int)(es:List Int)(sh:Int):List Nat:=(w5 h sh).filter (N7 h ks c es)
theorem ay1 (h:Hall)(ks:List Call)(c:Int)(es:List Int)(sh:Int):(w4 h ks c es sh).length<=h.m.toNat:=Nat.le_trans (length_filter_le _ _) (aj6 h sh)
def aW5 (K:Frag):Sp:=fun vs H Q _=>∃(a l e:Addr)(h:Hall)(as:List Addr)(ks:List Call)(c:Int)(es:List Int)(sh:Int),vs=[.ref a,.ref l,.int c,.ref e,.int sh]/\Asked K H a l e h as ks es /\
 ∀(f:Addr)(H':Hp),j0 H H'->H f=none->H' f=some (.lst (B5 (w4 h ks c es sh)))->Q (.ref f) H'
section
variable {P:Program}{w:World}{K:Frag}{mg:Str->Option Value}{base:Heap}
theorem aL7:FnScope ["hall","calls","caller","ends","shut","held"] ["hall","calls","caller","ends","shut"] (d7 (top 33)):=mkF
theorem a86 (T:Txt K mg)(eL:Callee P w K mg base 4 "holders" ["hall","calls","caller","ends"] (V7 K))(fH:Callee P w K mg base 1 "left_open" ["hall","shut"] (aE7 K))(D:DefD K mg "ways" (top 33) ["hall","calls","caller","ends","shut"] [.int 0]):CalleeD P w K mg base 5 "ways" ["hall","calls","caller","ends","shut"] [.int 0] (aW5 K):=by
 refine D.ok aL7 (fun vs H Q E h=>?_) (fun f cdv A outer s H vs Q E hr h=>?_)
 ·obtain⟨a,l,e,h,as,ks,c,es,sh,rfl,_⟩:=h
  rfl
 obtain⟨a,l,e,h,as,ks,c,es,sh,rfl,ask,q⟩:=h;have b3:=ask.ok.m
 refine⟨_,(g6 (i0 (i:=5) aL7.nd rfl (Or.inr rfl) (m9 eL hr rfl (b8 (pv 0) (b8 (pv 1) (b8 (pv 2) (b8 (pv 3) d8 b9) b9) b9) b9)))
  (g9 (i7 (B1 (own:=["k"]) (fr:=[(5,"held")]) rfl (show CompScope ["hall","calls","caller","ends","shut","held"] (d7 (top 33)) _ _ _ from⟨rfl,by decide +kernel,by decide +kernel,by decide +kernel,by decide +kernel⟩) (o4 K (m9 fH hr rfl (b8 (pv 0) (b8 (pv 4) d8 b9) b9))) (fun cl C s H ex=>⟨(m5 (i:=0) (show(["k","held"]:List Str).Nodup from by decide +kernel) rfl (Or.inl rfl) (Or.inr rfl)),(L7 (i4 (a60 K (Room.units0 hr)) (j3 (m3 K) (pv 1) (pv 0) (fun _ _=>rfl)) (r6 d8) (j5 _))),(pv 0)⟩))))),?_⟩
 refine⟨_,rfl,_,rfl,_,rfl,_,rfl,a,l,e,h,as,ks,c,es,rfl,ask.a,ask.ok,ask.l,ask.c,ask.hin,ask.few,ask.e,ask.len,fun F rs H1 s1 hF hrs nd hFn eF hrows=>?_⟩;refine⟨_,rfl,_,rfl,a,h,sh,rfl,j0.seqT s1 ask.a,ask.ok,fun lo hlo=>?_⟩;have elo:=d6 (H:=H1) (a:=lo) (o:=.lst (B5 (w5 h sh)));have s2:=g7 hlo (.lst (B5 (w5 h sh)));generalize upd H1 lo (.lst (B5 (w5 h sh)))=H2 at elo s2 ⊢;have ol:=aj6 h sh;refine⟨lo,rfl,⟨_,SqL.of elo⟩,?_⟩
 refine x9 (xs:=B5 (w5 h sh)) (fun i acc σ H'=>j0 H2 H'/\acc=B5 (((w5 h sh).take i).filter (N7 h ks c es))/\∃ v,σ=[v,some (.ref F)])
  ⟨j0.refl _,rfl,none,rfl⟩ (Nat.le_of_lt (j6 (by unfold B5;rw[length_map];lia))) (fun i acc σ H' g=>?_) (fun i acc σ H' _ g=>SqL.of (g.1 _ _ elo)) ?_ ?_
 ·obtain⟨_,rfl,_⟩:=g
  unfold B5;rw[length_map];exact Nat.le_trans (length_filter_le _ _) (by rw[length_take];lia)
 ·rintro i y acc σ H' hy ⟨s3,rfl,v,rfl⟩
  unfold B5 at hy;rw[List.getElem?_map] at hy;obtain⟨k,hk,rfl⟩:=Option.map_eq_some_iff.mp hy;have hkm:=S1 (List.mem_of_getElem? hk)
  have step:B5 (((w5 h sh).take (i + 1)).filter (N7 h ks c es))=B5 (((w5 h sh).take i).filter (N7 h ks c es))++(if N7 h ks c es k=true then [V.int (k:Int)] else []):=by
   unfold B5;rw[take_succ,hk,filter_append,map_append]
   by_cases cc:N7 h ks c es k=true
   ·rw[if_pos cc]
    simp[cc]
   ·rw[if_neg cc]
    simp[cc]
  have s13:=s2.trans s3;have hr3:=t6.same s13 hrows;have lr:=Paired.length hr3;unfold A6 at lr;rw[T7] at lr;have ea:rs[k]? = some (rs[k]'(by lia)):=List.getElem?_eq_getElem _
  generalize rs[k]'(by lia)=ra at ea
  obtain⟨row,w1,w2⟩:=j8 hr3 k ra ea
  have w1':row=E3 h ks (c / h.c) (m6 h es) k:=by
   unfold A6 F3 at w1;rw[List.getElem?_map,List.getElem?_range hkm] at w1;exact(Option.some.inj w1).symm
  have hat:atI (rs.map V.ref) (k:Int)=some (.ref ra):=A0 (by rw[List.getElem?_map,ea];rfl)
  refine⟨_,rfl,_,rfl,F,_,_,_,rfl,rfl,SqL.of (s13 _ _ eF),hat,(by show 0<=sizeLine;decide),fun o ho=>?_⟩
  have s4:=g7 ho (.lst []);refine⟨ra,o,row,[],rfl,rfl,SqL.of (s4 _ _ w2),SqL.of d6,_,rfl,?_⟩;refine z8 (fun cc=>?_) (fun cc=>?_)
  ·refine⟨_,rfl,s3.trans s4,?_,_,rfl⟩
   have c':N7 h ks c es k=true:=by
    unfold N7;rw[<- w1'];exact cc
   rw[step,if_pos c']
  ·refine⟨s3.trans s4,?_,_,rfl⟩
   have c':¬ N7 h ks c es k=true:=by
    unfold N7;rw[<- w1'];exact cc
   rw[step,if_neg c',append_nil]
 ·rintro acc σ H' ⟨s3,rfl,v,rfl⟩ l2 hl2
  have ln:(B5 (w5 h sh)).length=(w5 h sh).length:=by unfold B5;rw[length_map]
  rw[ln,take_length];have s13:=s1.trans (s2.trans s3);exact q l2 _ (s13.trans (g7 hl2 _)) (s13.free hl2) d6
end
def X1 (h:Hall)(ks:List Call)(c:Int)(es:List Int)(k:Nat):Nat:=(E3 h ks (c / h.c) (m6 h es) k).length
def ac7 (h:Hall)(ks:List Call)(c:Int)(es:List Int)(sh:Int)(k:Nat):Prop:=k∈w5 h sh/\∀ k'∈w5 h sh,X1 h ks c es k<=X1 h ks c es k'/\(k' < k->X1 h ks c es k < X1 h ks c es k')
theorem ac7.uniq {h:Hall}{ks:List Call}{c:Int}{es:List Int}{sh:Int}{k k':Nat}(a:ac7 h ks c es sh k)(b:ac7 h ks c es sh k'):k=k':=by
 rcases Nat.lt_trichotomy k k' with z | z | z
 ·have h1:=(b.2 k a.1).2 z
  have h2:=(a.2 k' b.1).1;lia
 ·exact z
 ·have h1:=(a.2 k' b.1).2 z
  have h2:=(b.2 k a.1).1;lia
theorem aP3 (h:Hall)(sh:Int):(w5 h sh).Pairwise (· < ·):=List.Pairwise.filter _ List.pairwise_lt_range
def aL9 (K:Frag):Sp:=fun vs H Q _=>∃(a l e:Addr)(h:Hall)(as:List Addr)(ks:List Call)(c:Int)(es:List Int)(sh:Int),vs=[.ref a,.ref l,.int c,.ref e,.int sh]/\Asked K H a l e h as ks es /\
 (∀ H',j0 H H'->w5 h sh=[]->Q .non H')/\∀(r:Addr)(k:Nat)(H':Hp),j0 H H'->ac7 h ks c es sh k->H' r=some (.lst ((E3 h ks (c / h.c) (m6 h es) k).map V.int))->Q (.ref r) H'
section
variable {P:Program}{w:World}{K:Frag}{mg:Str->Option Value}{base:Heap}
theorem U9:FnScope ["hall","calls","caller","ends","shut","held"] ["hall","calls","caller","ends","shut"] (d7 (top 34)):=mkF
theorem aY3 (T:Txt K mg)(eL:Callee P w K mg base 4 "holders" ["hall","calls","caller","ends"] (V7 K))(fH:Callee P w K mg base 1 "left_open" ["hall","shut"] (aE7 K))(D:DefD K mg "least_ended" (top 34) ["hall","calls","caller","ends","shut"] [.int 0]):CalleeD P w K mg base 5 "least_ended" ["hall","calls","caller","ends","shut"] [.int 0] (aL9 K):=by
 refine D.ok U9 (fun vs H Q E h=>?_) (fun f cdv A outer s H vs Q E hr h=>?_)
 ·obtain⟨a,l,e,h,as,ks,c,es,sh,rfl,_⟩:=h
  rfl
 obtain⟨a,l,e,h,as,ks,c,es,sh,rfl,ask,qN,q⟩:=h;have b3:=ask.ok.m
 refine⟨_,(g6 (i0 (i:=5) U9.nd rfl (Or.inr rfl) (m9 eL hr rfl (b8 (pv 0) (b8 (pv 1) (b8 (pv 2) (b8 (pv 3) d8 b9) b9) b9) b9)))
  (g9 (i7 (aR7 K rfl rfl T.lN rfl T.cz (b8 (B1 (own:=["k"]) (fr:=[(5,"held")]) rfl (show CompScope ["hall","calls","caller","ends","shut","held"] (d7 (top 34)) _ _ _ from⟨rfl,by decide +kernel,by decide +kernel,by decide +kernel,by decide +kernel⟩) (o4 K (m9 fH hr rfl (b8 (pv 0) (b8 (pv 4) d8 b9) b9))) (fun cl C s H ex=>⟨(m5 (i:=0) (show(["k","held"]:List Str).Nodup from by decide +kernel) rfl (Or.inl rfl) (Or.inr rfl)),P7,(j3 (m3 K) (pv 1) (pv 0) (fun _ _=>rfl))⟩)) d8 P1))))),?_⟩
 refine⟨_,rfl,_,rfl,_,rfl,_,rfl,a,l,e,h,as,ks,c,es,rfl,ask.a,ask.ok,ask.l,ask.c,ask.hin,ask.few,ask.e,ask.len,fun F rs H1 s1 hF hrs nd hFn eF hrows=>?_⟩;refine⟨_,rfl,_,rfl,a,h,sh,rfl,j0.seqT s1 ask.a,ask.ok,fun lo hlo=>?_⟩;have elo:=d6 (H:=H1) (a:=lo) (o:=.lst (B5 (w5 h sh)));have s2:=g7 hlo (.lst (B5 (w5 h sh)));generalize upd H1 lo (.lst (B5 (w5 h sh)))=H2 at elo s2 ⊢;have ol:=aj6 h sh;have lno:(B5 (w5 h sh)).length=(w5 h sh).length:=by unfold B5;rw[length_map]
 have rowAt:∀ k,k∈w5 h sh->∃ ra,rs[k]? = some ra/\H2 ra=some (.lst ((E3 h ks (c / h.c) (m6 h es) k).map V.int)):=fun k hk=>by
  have hkm:=S1 hk;have hr3:=t6.same s2 hrows;have lr:=Paired.length hr3;unfold A6 at lr;rw[T7] at lr;have ea:rs[k]? = some (rs[k]'(by lia)):=List.getElem?_eq_getElem _
  obtain⟨row,w1,w2⟩:=j8 hr3 k _ ea
  have w1':row=E3 h ks (c / h.c) (m6 h es) k:=by
   unfold A6 F3 at w1;rw[List.getElem?_map,List.getElem?_range hkm] at w1;exact(Option.some.inj w1).symm
  rw[w1'] at w2;exact⟨_,ea,w2⟩
 refine⟨lo,rfl,⟨_,SqL.of elo⟩,?_⟩
 refine x9 (xs:=B5 (w5 h sh)) (fun i acc σ H'=>H'=H2/\(∃ bs:List Addr,acc=bs.map V.ref/\Paired (fun b k=>H2 b=some (.lst ((E3 h ks (c / h.c) (m6 h es) k).map V.int))) bs ((w5 h sh).take i))/\∃ v,σ=[v,some (.ref F)])
  ⟨rfl,⟨[],rfl,.nil⟩,none,rfl⟩ (Nat.le_of_lt (j6 (by lia))) (fun i acc σ H' g=>?_) (fun i acc σ H' _ g=>by rw[g.1];exact SqL.of elo) ?_ ?_
 ·obtain⟨_,⟨bs,rfl,hb⟩,_⟩:=g
  have:=Paired.length hb
  rw[length_map,this,length_take];lia
 ·rintro i y acc σ H' hy ⟨rfl,⟨bs,rfl,hb⟩,v,rfl⟩
  unfold B5 at hy;rw[List.getElem?_map] at hy;obtain⟨k,hk,rfl⟩:=Option.map_eq_some_iff.mp hy;obtain⟨ra,e1,e2⟩:=rowAt k (List.mem_of_getElem? hk);have hat:atI (rs.map V.ref) (k:Int)=some (.ref ra):=A0 (by rw[List.getElem?_map,e1];rfl)
  refine⟨_,rfl,_,rfl,F,_,_,_,rfl,rfl,SqL.of (s2 _ _ eF),hat,rfl,⟨bs++[ra],by rw[map_append];rfl,?_⟩,_,rfl⟩
  rw[take_succ,hk];exact Paired.snoc hb e2
 ·rintro acc σ H' ⟨rfl,⟨bs,rfl,hb⟩,v,rfl⟩ lm hlm
  rw[lno,take_length] at hb;have elm:=d6 (H:=H') (a:=lm) (o:=.lst (bs.map V.ref));have s3:=g7 hlm (.lst (bs.map V.ref));generalize upd H' lm (.lst (bs.map V.ref))=H3 at elm s3 ⊢;have s13:=s1.trans (s2.trans s3);have lb:=Paired.length hb
  have rowsL:∀{bs:List Addr}{os:List Nat},Paired (fun b k=>H' b=some (.lst ((E3 h ks (c / h.c) (m6 h es) k).map V.int))) bs os->ba3 K H3 bs (os.map fun k=>(E3 h ks (c / h.c) (m6 h es) k).map V.int):=by
   intro bs os hp
   induction hp with
   | nil=>exact .nil
   | cons h1 _ ih=>exact .cons (SqL.of (s3 _ _ h1)) ih
  have lenAt:∀ j k,(w5 h sh)[j]? = some k->T4 ((w5 h sh).map fun k=>(E3 h ks (c / h.c) (m6 h es) k).map V.int) j=((X1 h ks c es k:Nat):Int):=fun j k hj=>by
   unfold T4 X1;rw[List.getD,List.getElem?_map,hj]
   simp
  refine⟨lm,bs,_,rfl,SqL.of elm,rowsL hb,fun z=>qN H3 s13 ?_,fun i r hi hbest=>?_⟩
  ·rw[z] at lb
   exact List.length_eq_zero_iff.mp lb.symm
  ·obtain⟨k,k1,k2⟩:=j8 hb i r hi
   refine q r k H3 s13 ⟨List.mem_of_getElem? k1,fun k' hk'=>?_⟩ (s3 _ _ k2);obtain⟨j,hj⟩:=List.mem_iff_getElem?.mp hk';have hjl:=(List.getElem?_eq_some_iff.mp hj).1
   have:=hbest j (by lia)
   rw[lenAt i k k1,lenAt j k' hj] at this;refine⟨by lia,fun z=>?_⟩
   have hji:j < i:=by
    rcases Nat.lt_trichotomy j i with y | y | y
    ·exact y
    ·subst y
     rw[k1] at hj
     cases hj
     lia
    ·obtain⟨q1,z1⟩:=List.getElem?_eq_some_iff.mp k1
     obtain⟨q2,z2⟩:=List.getElem?_eq_some_iff.mp hj
     have:=(List.pairwise_iff_getElem.mp (aP3 h sh)) i j q1 q2 y
     lia
   have:=this.2 hji
   lia
end
def ad0 (n:Int)(xs:List Int):List Int:=xs.filter fun k=>decide (n<=k)
def C6 (n:Int)(xs:List Int):Int:=(ad0 n xs++xs).headD 0
def E1 (n:Int):List (Str×V):=[("start",.int n)]
theorem aN2 (n:Int):(E1 n).lookup ("start":Str)=some (.int n):=rfl
theorem ai3 (n m:Int):T3 "start" (.int m) (E1 n)=E1 m:=by
 unfold E1 T3;rw[if_pos rfl]
def aV9 (C:Addr):Sp:=fun vs H Q _=>∃(p dx:Addr)(n:Int),vs=[.ref p,.int n]/\H p=some (.ins C dx [])/\Q .non (upd H p (.ins C dx (E1 n)))
def az5 (K:Frag)(C:Addr):Sp:=fun vs H Q _=>∃(p dx fl:Addr)(v1 v2:V)(n:Int)(xs:List Int),vs=[.ref p,v1,v2,.ref fl]/\H p=some (.ins C dx (E1 n))/\H fl=some (.lst (xs.map V.int))/\xs≠[]/\xs.length<=24 /\
 ∀ H',ba2 p H H'->H' p=some (.ins C dx (E1 (C6 n xs + 1)))->Q (.int (C6 n xs)) H'
theorem ac8 {n:Int}{xs:List Int}{i:Nat}{x:Int}(h:xs[i]? = some x):(xs.take (i + 1)).filter (fun k=>decide (n<=k))=(xs.take i).filter (fun k=>decide (n<=k))++(if n<=x then [x] else []):=by
 rw[take_succ,h,filter_append]
 congr 1
 show List.filter _ [x]=_
 rw[filter_cons]
 by_cases c:n<=x
 ·rw[if_pos (decide_eq_true c),if_pos c]
  rfl
 ·rw[if_neg (fun z=>c (of_decide_eq_true z)),if_neg c]
  rfl
section
variable {P:Program}{w:World}{K:Frag}{mg:Str->Option Value}{base:Heap}{aw ah ae aj av ad aq ao af ar ap am aa au:Addr}
theorem Z6:FnScope ["self","start"] ["self","start"] (d7 (j4 (top 26) 0)):=mkF
theorem a57 (T:Txt K mg)(Z:TxtC K mg aw ah ae aj av ad aq ao af ar ap am aa au)(D:DefM K aj "__init__" "Round.__init__" (j4 (top 26) 0) ["self","start"] [.int 0] (aM2 K "start")):CalleeM P w K mg base 1 aj "__init__" ["self","start"] [.int 0] (aM2 K "start") (aV9 aj):=by
 refine D.ok Z6 (fun vs H Q E h=>?_) (fun f cdv A outer s H vs Q E hr h=>?_)
 ·obtain⟨p,dx,n,rfl,_⟩:=h
  rfl
 obtain⟨p,dx,n,rfl,hp,q⟩:=h;refine⟨_,(g9 (aD5 (pv 0) (pv 1) rfl)),?_⟩;exact⟨_,rfl,_,rfl,p,aj,dx,_,rfl,hp,Z.fF,Z.cO,(by show 0 < 1000;decide),q⟩
theorem N4:FnScope ["self","hall","calls","free","further","chosen"] ["self","hall","calls","free"] (d7 (j4 (top 26) 1)):=mkF
theorem aR1 (T:Txt K mg)(Z:TxtC K mg aw ah ae aj av ad aq ao af ar ap am aa au)(D:DefM K aj "choose" "Round.choose" (j4 (top 26) 1) ["self","hall","calls","free"] [] noKw):CalleeM P w K mg base 1 aj "choose" ["self","hall","calls","free"] [] noKw (az5 K aj):=by
 refine D.ok N4 (fun vs H Q E h=>?_) (fun f cdv A outer s H vs Q E hr h=>?_)
 ·obtain⟨p,dx,fl,v1,v2,n,xs,rfl,_⟩:=h
  rfl
 obtain⟨p,dx,fl,v1,v2,n,xs,rfl,hp,hl,hne,h24,q⟩:=h
 refine⟨_,(g6 (aq6 (i:=4) (own:=["k"]) (fr:=[(0,"self")]) rfl N4.nd rfl rfl (show CompScope ["self","hall","calls","free","further","chosen"] (d7 (j4 (top 26) 1)) _ _ _ from⟨rfl,by decide +kernel,by decide +kernel,by decide +kernel,by decide +kernel⟩) (o4 K (pv 3)) (fun cl C s H ex=>⟨(m5 (i:=0) (show(["k","self"]:List Str).Nodup from by decide +kernel) rfl (Or.inl rfl) (Or.inr rfl)),(L7 (i4 aT6 (pv 0) (aI2 K (pv 1)) (j5 _))),(pv 0)⟩) rfl)
  (g6 (i0 (i:=5) N4.nd rfl (Or.inl rfl) (ah9 (i4 (aM3 K (Room.units0 hr)) (pv 4) (r6 d8) (j5 _)) (j3 (m3 K) (pv 4) d9 (fun _ _=>rfl)) (j3 (m3 K) (pv 3) d9 (fun _ _=>rfl))))
  (g6 (aD5 (pv 0) (i5 J6 (pv 5) d9) rfl)
  (g9 (i7 (pv 5)))))),?_⟩
 have ln:(xs.map V.int).length=xs.length:=length_map _;refine⟨_,rfl,fl,rfl,⟨_,SqL.of hl⟩,?_⟩
 refine x9 (xs:=xs.map V.int) (fun i acc σ H'=>H'=H/\acc=((xs.take i).filter fun k=>decide (n<=k)).map V.int/\∃ v,σ=[v,some (.ref p)])
  ⟨rfl,rfl,none,rfl⟩ (Nat.le_of_lt (j6 (by lia))) (fun i acc σ H' g=>?_) (fun i acc σ H' _ g=>by rw[g.1];exact SqL.of hl) ?_ ?_
 ·obtain⟨_,rfl,_⟩:=g
  rw[length_map];exact Nat.le_trans (length_filter_le _ _) (by rw[length_take];lia)
 ·rintro i y acc σ H' hy ⟨rfl,rfl,v,rfl⟩
  rw[List.getElem?_map] at hy;obtain⟨x,hx,rfl⟩:=Option.map_eq_some_iff.mp hy;refine⟨_,rfl,_,rfl,p,aj,dx,_,_,rfl,hp,Z.fF,Z.cO,aN2 n,_,_,rfl,rfl,_,rfl,?_⟩;refine z8 (fun c=>?_) (fun c=>?_)
  ·have c':n<=x:=of_decide_eq_true c
   refine⟨_,rfl,rfl,?_,_,rfl⟩;rw[ac8 hx,if_pos c',map_append];rfl
  ·have c':¬ n<=x:=fun z=>c (decide_eq_true z)
   refine⟨rfl,?_,_,rfl⟩;rw[ac8 hx,if_neg c',append_nil]
 rintro acc σ H' ⟨rfl,rfl,v,rfl⟩ l2 hl2
 rw[ln,take_length];have el2:=d6 (H:=H') (a:=l2) (o:=.lst ((ad0 n xs).map V.int));have s1:=g7 hl2 (.lst ((ad0 n xs).map V.int));unfold ad0 at el2 s1;generalize upd H' l2 _=H1 at el2 s1 ⊢
 change H1 l2=some (.lst ((ad0 n xs).map V.int)) at el2
 refine⟨_,rfl,(by show 0<=sizeLine;decide),fun o ho=>?_⟩
 have eo:=d6 (H:=H1) (a:=o) (o:=.lst []);have s2:=g7 ho (.lst []);generalize upd H1 o (.lst [])=H2 at eo s2 ⊢;have s12:=s1.trans s2;have hp2:=s12 _ _ hp;refine⟨l2,o,ad0 n xs,[],rfl,rfl,SqL.of (s2 _ _ el2),SqL.of eo,_,rfl,?_⟩
 have fin:∀ c:Int,c=C6 n xs->ba2 p H' (upd H2 p (.ins aj dx (E1 (c + 1))))/\upd H2 p (.ins aj dx (E1 (c + 1))) p=some (.ins aj dx (E1 (C6 n xs + 1))):=fun c e=>by
  subst e;exact⟨fun b u hb z=>by rw[h7 hb];exact s12 _ _ z,d6⟩
 have lf:(E1 n).length < 1000:=by show 1 < 1000;decide
 refine z8 (fun c=>?_) (fun c=>?_)
 ·have c':ad0 n xs≠[]:=by simpa using c
  obtain⟨y,t,hy⟩:=exists_cons_of_ne_nil c';have ch:y=C6 n xs:=by unfold C6;rw[hy];rfl
  rw[hy] at el2;refine⟨_,rfl,l2,_,_,_,rfl,rfl,SqL.of (s2 _ _ el2),(show atI ((y::t).map V.int) 0=some (.int y) from A0 (j:=0) rfl),?_⟩;refine⟨_,rfl,_,_,rfl,rfl,_,rfl,p,aj,dx,_,rfl,hp2,Z.fF,Z.cO,lf,?_⟩;rw[ai3];refine⟨_,rfl,?_⟩;obtain⟨f1,f2⟩:=fin y ch
  have:=q _ f1 f2
  rw[<- ch] at this;exact this
 ·have c':ad0 n xs=[]:=by simpa using c
  obtain⟨y,t,hy⟩:=exists_cons_of_ne_nil hne;have ch:y=C6 n xs:=by unfold C6;rw[c',hy];rfl
  have hl2':=s12 _ _ hl;rw[hy] at hl2';refine⟨_,rfl,fl,_,_,_,rfl,rfl,SqL.of hl2',(show atI ((y::t).map V.int) 0=some (.int y) from A0 (j:=0) rfl),?_⟩;refine⟨_,rfl,_,_,rfl,rfl,_,rfl,p,aj,dx,_,rfl,hp2,Z.fF,Z.cO,lf,?_⟩;rw[ai3];refine⟨_,rfl,?_⟩;obtain⟨f1,f2⟩:=fin y ch
  have:=q _ f1 f2
  rw[<- ch] at this;exact this
end
theorem M5 {α β:Type}{R R':α->β->Prop}:∀{as:List α}{bs:List β},Paired R as bs->(∀ a b,a∈as->R a b->R' a b)->Paired R' as bs
 | _,_,.nil,_=>.nil
 | _,_,.cons h t,k=>.cons (k _ _ (mem_cons_self ..) h) (M5 t fun a b ha=>k a b (mem_cons_of_mem _ ha))
def au2 (C:Addr):Sp:=fun vs H Q _=>∃(e:Addr)(v:V),vs=[.ref e,v]/\H e=some (F6 e C none)/\∀(dx:Addr)(H':Hp),H dx=none->dx≠e->(∀ b,b≠e->b≠dx->H' b=H b)->H' e=some (F6 e C (some dx))->H' dx=some (XdO dx [("who",v)])->Q .non H'
structure EngAt (H:Hp)(dx:Addr)(rows:List (List Int))(lst:Option (List Int))(nh:Addr)(nas:List Addr)(lv:V):Prop where
 d:H dx=some (XdO dx [("least",lv),("holds",.ref nh)])
 h:H nh=some (.lst (nas.map V.ref))
 rows:t6 H nas rows
 nd:nas.Nodup
 l:match lst with
  | none=>lv=.non
  | some ms=>∃ m,lv=.ref m/\¬ m∈nas/\m≠nh/\H m=some (.lst (ms.map V.int))
def ac9 (H:Hp)(nas:List Addr)(nlv:V):Prop:=(∀ a∈nas,H a=none)/\∀ m,nlv=.ref m->H m=none
theorem ac9.back {H H':Hp}{nas:List Addr}{nlv:V}(s:j0 H H')(f:ac9 H' nas nlv):ac9 H nas nlv:=⟨fun a ha=>s.free (f.1 a ha),fun m e=>s.free (f.2 m e)⟩
def aG1 (K:Frag)(C:Addr):Sp:=fun vs H Q _=>∃(e f:Addr)(rs:List Addr)(rows:List (List Int))(lv:V)(lst:Option (List Int)),vs=[.ref e,.ref f,lv]/\H e=some (F6 e C none)/\SqL K H f (rs.map V.ref)/\t6 H rs rows/\rows.length<=64/\(match lst with | none=>lv=.non | some ms=>∃ m,lv=.ref m/\H m=some (.lst (ms.map V.int))) /\
 ∀(dx nh:Addr)(nas:List Addr)(nlv:V)(H':Hp),(∀ b u,b≠e->H b=some u->H' b=some u)->H' e=some (F6 e C (some dx))->H dx=none->dx≠e->EngAt H' dx rows lst nh nas nlv->ac9 H nas nlv->nh≠e->(∀ a∈nas,a≠e)->(∀ m,nlv=.ref m->m≠e)->Q .non H'
section
variable {P:Program}{w:World}{K:Frag}{mg:Str->Option Value}{base:Heap}{aw ah ae aj av ad aq ao af ar ap am aa au:Addr}
theorem ab9:FnScope ["self","who"] ["self","who"] (d7 (j4 (top 7) 0)):=mkF
theorem aV7 (T:Txt K mg)(Z:TxtC K mg aw ah ae aj av ad aq ao af ar ap am aa au)(D:DefM K am "__init__" "Busy.__init__" (j4 (top 7) 0) ["self","who"] [] noKw):CalleeM P w K mg base 1 am "__init__" ["self","who"] [] noKw (au2 am):=by
 refine D.ok ab9 (fun vs H Q E h=>?_) (fun f cdv A outer s H vs Q E hr h=>?_)
 ·obtain⟨e,v,rfl,_⟩:=h
  rfl
 obtain⟨e,v,rfl,he,q⟩:=h;refine⟨_,(g9 (ba7 K (pv 0) (pv 1) rfl)),?_⟩;refine⟨_,rfl,_,rfl,e,am,rfl,he,Z.lU,Z.kJ.mo,Z.jh,fun dx hdx=>?_⟩;have ne:dx≠e:=fun z=>by rw[z,he] at hdx;cases hdx
 exact q dx _ hdx ne (fun b n1 n2=>by rw[h7 n2,h7 n1]) (by rw[h7 (Ne.symm ne),d6]) d6
theorem X2:FnScope ["self","holds","least"] ["self","holds","least"] (d7 (j4 (top 8) 0)):=mkF
theorem a93 (T:Txt K mg)(Z:TxtC K mg aw ah ae aj av ad aq ao af ar ap am aa au)(D:DefM K aa "__init__" "Engaged.__init__" (j4 (top 8) 0) ["self","holds","least"] [] noKw):CalleeM P w K mg base 1 aa "__init__" ["self","holds","least"] [] noKw (aG1 K aa):=by
 refine D.ok X2 (fun vs H Q E h=>?_) (fun f cdv A outer s H vs Q E hr h=>?_)
 ·obtain⟨e,f,rs,rows,lv,lst,rfl,_⟩:=h
  rfl
 obtain⟨e,f,rs,rows,lv,lst,rfl,he,hf,hR,few,hlv,q⟩:=h;have ln:rs.length=rows.length:=Paired.length hR
 refine⟨_,(g6 (ba7 K (pv 0) (B1 (own:=["callers"]) (fr:=[]) rfl (show CompScope ["self","holds","least"] (d7 (j4 (top 8) 0)) _ _ _ from⟨rfl,by decide +kernel,by decide +kernel,by decide +kernel,by decide +kernel⟩) (o4 K (pv 1)) (fun cl C s H ex=>⟨(m5 (i:=0) (show(["callers"]:List Str).Nodup from by decide +kernel) rfl (Or.inl rfl) (Or.inr rfl)),P7,(p7 (B6 K) rfl T.cY boot_list (b8 (pv 0) d8 b9))⟩)) rfl)
  (g9 (bi1 K (pv 0) (ah9 (i4 O7 (pv 2) t9 (j5 _)) t9 (p7 (B6 K) rfl T.cY boot_list (b8 (pv 2) d8 b9))) rfl))),?_⟩
 refine⟨_,rfl,f,rfl,⟨_,hf⟩,?_⟩
 refine x9 (xs:=rs.map V.ref) (fun i acc σ H'=>j0 H H'/\(∃ nas:List Addr,acc=nas.map V.ref/\nas.length=i/\t6 H' nas (rows.take i)/\nas.Nodup/\∀ a∈nas,H a=none)/\∃ v0,σ=[v0])
  ⟨fun b u z=>z,⟨[],rfl,rfl,.nil,nodup_nil,fun a ha=>nomatch ha⟩,none,rfl⟩ (Nat.le_of_lt (j6 (by rw[length_map];lia))) (fun i acc σ H' g=>by
   obtain⟨_,⟨nas,rfl,hl,_⟩,_⟩:=g;rw[length_map]
   lia) (fun i acc σ H' _ g=>g.1.seq hf) ?_ ?_
 ·rintro i x acc σ H' hx ⟨s1,⟨nas,rfl,hl,hN,nd,fr⟩,v0,rfl⟩
  rw[List.getElem?_map] at hx;obtain⟨a,ha,rfl⟩:=Option.map_eq_some_iff.mp hx;obtain⟨row,E3,ea⟩:=j8 hR i a ha;refine⟨_,rfl,a,_,rfl,.inl (SqL.of (s1 _ _ ea)),fun p hp=>?_⟩;have s2:=g7 hp (.lst (row.map V.int))
  have pn:¬ p∈nas:=fun z=>by
   obtain⟨j,hj⟩:=List.mem_iff_getElem?.mp z;obtain⟨r,_,e⟩:=j8 hN j p hj;rw[hp] at e
   cases e
  refine⟨s1.trans s2,⟨nas++[p],by rw[map_append];rfl,by rw[length_append,hl];rfl,?_,aI4 nd pn,fun b hb=>?_⟩,_,rfl⟩
  ·rw[take_add_one,E3]
   exact Paired.snoc (Paired.mapP hN fun a r z=>s2 _ _ z) d6
  ·rcases List.mem_append.mp hb with z | z
   ·exact fr b z
   ·rw[mem_singleton.mp z]
    exact s1.free hp
 ·rintro acc σ H' ⟨s1,⟨nas,rfl,hl,hN,nd,fr⟩,v0,rfl⟩ nh hnh
  rw[length_map] at hl hN;rw[ln,take_length] at hN;have s2:=g7 hnh (.lst (nas.map V.ref));have enh:=d6 (H:=H') (a:=nh) (o:=.lst (nas.map V.ref));have hN2:t6 (upd H' nh (.lst (nas.map V.ref))) nas rows:=Paired.mapP hN fun a r z=>s2 _ _ z;have fnh:=s1.free hnh;have s3:=s1.trans s2;generalize upd H' nh (.lst (nas.map V.ref))=H2 at s2 enh hN2 s3 ⊢;refine⟨_,rfl,e,aa,rfl,s3 _ _ he,Z.eK,Z.dQ.mo,Z.fB,fun dx hdx=>?_⟩;have fdx:=s3.free hdx;have ne:dx≠e:=fun z=>by rw[z,he] at fdx;cases fdx
  have old:∀ b u,b≠e->H2 b=some u->upd (upd H2 e (F6 e aa (some dx))) dx (XdO dx [("holds",.ref nh)]) b=some u:=fun b u n1 z=>by rw[h7 (h9 z hdx),h7 n1];exact z
  have e1:upd (upd H2 e (F6 e aa (some dx))) dx (XdO dx [("holds",.ref nh)]) e=some (F6 e aa (some dx)):=by rw[h7 (Ne.symm ne),d6]
  have e2:=d6 (H:=upd H2 e (F6 e aa (some dx))) (a:=dx) (o:=XdO dx [("holds",.ref nh)]);generalize upd (upd H2 e (F6 e aa (some dx))) dx (XdO dx [("holds",.ref nh)])=H3 at old e1 e2 ⊢;have nhe:nh≠e:=fun z=>by rw[z,he] at fnh;cases fnh
  have nae:∀ a∈nas,a≠e:=fun a ha z=>by have:=fr a ha;rw[z,he] at this;cases this
  have old0:∀ b u,b≠e->H b=some u->H3 b=some u:=fun b u n1 z=>old b u n1 (s3 _ _ z);have ndx:nh≠dx:=fun z=>by rw[z] at enh;rw[enh] at hdx;cases hdx
  have adx:∀ a∈nas,a≠dx:=fun a ha z=>by
   obtain⟨j,hj⟩:=List.mem_iff_getElem?.mp ha;obtain⟨r,_,y⟩:=j8 hN2 j a hj;rw[z,hdx] at y
   cases y
  have rows3:t6 H3 nas rows:=by
   refine M5 hN2 fun a r ha z=>old a _ (nae a ha) z
  refine⟨_,rfl,rfl,_,rfl,?_⟩
  cases lst with
  | none =>
   subst hlv;refine M1 ⟨_,rfl,e,aa,dx,_,rfl,e1,e2,Z.eK,Z.dQ.mo,Z.cZ,(by show 1 < 1000;decide),?_⟩
   refine q dx nh nas .non _ (fun b u n1 z=>by rw[h7 (h9 z fdx)];exact old0 b u n1 z) (by rw[h7 (Ne.symm ne)];exact e1) fdx ne ⟨d6,by rw[h7 ndx];exact old nh _ nhe enh,M5 rows3 fun a r ha z=>by rw[h7 (adx a ha)];exact z,nd,rfl⟩ ⟨fr,fun m z=>nomatch z⟩ nhe nae (fun m z=>nomatch z)
  | some ms =>
   obtain⟨m,rfl,em⟩:=hlv;have mne:m≠e:=fun z=>by rw[z,he] at em;cases em
   refine B7 ⟨_,rfl,m,_,rfl,.inl (SqL.of (old0 m _ mne em)),fun q2 hq2=>?_⟩;have s4:=g7 hq2 (.lst (ms.map V.int));have eq2:=d6 (H:=H3) (a:=q2) (o:=.lst (ms.map V.int));have e1':=s4 _ _ e1;have e2':=s4 _ _ e2;have hq2e:q2≠e:=fun z=>by rw[z,e1] at hq2;cases hq2
   have hq2d:q2≠dx:=fun z=>by rw[z,e2] at hq2;cases hq2
   have hq2n:q2≠nh:=fun z=>by rw[z,old nh _ nhe enh] at hq2;cases hq2
   have hq2a:¬ q2∈nas:=fun ha=>by
    obtain⟨j,hj⟩:=List.mem_iff_getElem?.mp ha;obtain⟨r,_,y⟩:=j8 rows3 j q2 hj;rw[hq2] at y
    cases y
   generalize upd H3 q2 (.lst (ms.map V.int))=H4 at s4 eq2 e1' e2' ⊢;refine⟨_,rfl,e,aa,dx,_,rfl,e1',e2',Z.eK,Z.dQ.mo,Z.cZ,(by show 1 < 1000;decide),?_⟩
   refine q dx nh nas (.ref q2) _ (fun b u n1 z=>by rw[h7 (h9 z fdx)];exact s4 _ _ (old0 b u n1 z)) (by rw[h7 (Ne.symm ne)];exact e1') fdx ne ⟨d6,by rw[h7 ndx];exact s4 _ _ (old nh _ nhe enh),M5 rows3 fun a r ha z=>by rw[h7 (adx a ha)];exact s4 _ _ z,nd,q2,rfl,hq2a,hq2n,by rw[h7 hq2d];exact eq2⟩ ⟨fr,fun m z=>by
    cases z
    cases y:H q2 with
    | none=>rfl
    | some u=>rw[old0 q2 u hq2e y] at hq2;cases hq2⟩ nhe nae (fun m z=>by cases z;exact hq2e)
end
theorem Z3 {K:Frag}{H:Hp}{l:Addr}{as:List Addr}{ks:List Call}{Q:VK}(el:H l=some (.lst (as.map V.ref)))(hC:h8 H as ks)(h64:ks.length < 64)(ne:ks.Pairwise fun k k'=>k.c≠k'.c)
  (q:∀ l2 as' ks',H l2=none->h8 H as' ks'->ks'.Perm ks->ks'.Pairwise (fun k k'=>k.c < k'.c)->Q (.ref l2) (upd H l2 (.lst (as'.map V.ref)))):aA6 K [.ref l] H Q:=by
 obtain⟨its,t1,t2⟩:=ad7 (K:=K) hC;have la:=Paired.length hC;have lk:=Paired.length t2;have gd:∀(i:Nat) k,ks[i]? = some k->ks.getD i ⟨0,[],0⟩=k:=fun i k e=>by rw[List.getD,e];rfl
 have uniq:∀(i j:Nat) k k',ks[i]? = some k->ks[j]? = some k'->k.c=k'.c->i=j:=fun i j k k' e1 e2 hc=>by
  obtain⟨q1,z1⟩:=List.getElem?_eq_some_iff.mp e1;obtain⟨q2,z2⟩:=List.getElem?_eq_some_iff.mp e2
  rcases Nat.lt_trichotomy i j with hij | hij | hij
  ·have:=(List.pairwise_iff_getElem.mp ne) i j q1 q2 hij
   rw[z1,z2] at this;exact absurd hc this
  ·exact hij
  ·have:=(List.pairwise_iff_getElem.mp ne) j i q2 q1 hij
   rw[z1,z2] at this;exact absurd hc.symm this
 have back:∀(i:Nat) x,its[i]? = some x->∃ k e,ks[i]? = some k/\x=[V.int k.c,V.ref e,V.int k.k]:=fun i x hx=>by
  have hi:=(List.getElem?_eq_some_iff.mp hx).1;have ek:ks[i]? = some (ks[i]'(by lia)):=List.getElem?_eq_getElem (by lia)
  obtain⟨x',e1,e,e2⟩:=j8 t2 i _ ek;rw[hx] at e1
  cases e1
  exact⟨_,e,ek,e2⟩
 refine⟨l,as,its,fun i=>(ks.getD i ⟨0,[],0⟩).c,rfl,SqL.of el,t1,by lia,fun i j x y hx hy=>?_,fun pq pm up l2 hl2=>?_⟩
 ·obtain⟨k,e,e1,rfl⟩:=back i x hx
  obtain⟨k',e',e2,rfl⟩:=back j y hy
  show(if k.c=k'.c then S6 [V.ref e,V.int k.k] [V.ref e',V.int k'.k] else some (decide (k.c < k'.c)))=some (decide ((ks.getD i ⟨0,[],0⟩).c < (ks.getD j ⟨0,[],0⟩).c))
  rw[gd i k e1,gd j k' e2]
  by_cases c:k.c=k'.c
  ·obtain rfl:=uniq i j k k' e1 e2 c
   rw[hx] at hy;rw[e1] at e2
   cases e2
   cases hy
   rw[if_pos rfl]
   show(if e=e then (if k.k=k.k then S6 [] [] else some (decide (k.k < k.k))) else none)=_
   rw[if_pos rfl,if_pos rfl,decide_eq_false (Int.lt_irrefl _)];rfl
  ·rw[if_neg c]
 ·rw[la] at pm up
  obtain⟨g1,g2⟩:=aU5 (xs:=ks) pm up ⟨0,[],0⟩ Call.c fun i _=>rfl
  have hin:∀ i∈pq.toList,i < ks.length:=fun i hi=>by
   have:=(Array.Perm.mem_iff pm (a:=i)).mp (by simpa using hi)
   simpa using this
  have cs:=ae1 0 ⟨0,[],0⟩ hC pq.toList hin;generalize (pq.toList.map fun i=>ks.getD i ⟨0,[],0⟩)=ks' at g1 g2 cs;have ne':ks'.Pairwise fun k k'=>k.c≠k'.c:=(List.Perm.pairwise_iff (fun q=>Ne.symm q) g1).mpr ne;exact q l2 _ ks' hl2 cs g1 ((g2.and ne').imp fun {k k'} ⟨q1,q2⟩=>by lia)
def aK1 (K:Frag)(C:Addr):Sp:=fun vs H Q E=>∃(a:Addr)(h:Hall)(x y:V)(o:Option (List V)),vs=[.ref a,x,y]/\SqT K H a (h.row.map V.int)/\h.Ok/\PartIs K H x/\EndTh K H y o /\
 (∀ H',j0 H H'->m8 x 0 (h.i * h.c - 1)=true->F8 h o=true->Q .non H')/\∀ H',j0 H H'->(m8 x 0 (h.i * h.c - 1)&&F8 h o)=false->E (.ref C) none H'
def E9 (ks:List Call)(c:Int)(es:List Int)(w:Int):Prop:=((∃ k∈ks,k.c=c)/\w=c)\/((∀ k∈ks,k.c≠c)/\∃ e∈es,(∃ k∈ks,e∈k.es/\w=k.c)/\∀ e'∈es,e' < e->∀ k∈ks,¬ e'∈k.es)
def N6 (ks:List Call)(c:Int)(es:List Int):Prop:=(∀ k∈ks,k.c≠c)/\∀ e∈es,∀ k∈ks,¬ e∈k.es
def ao6 (K:Frag)(C:Addr):Sp:=fun vs H Q E=>∃(l e:Addr)(as:List Addr)(ks:List Call)(c:Int)(es:List Int),vs=[.ref l,.int c,.ref e]/\SqL K H l (as.map V.ref)/\h8 H as ks/\(SqT K H e (es.map V.int)\/SqL K H e (es.map V.int))/\es.length < 64 /\
 (∀ H',j0 H H'->N6 ks c es->Q .non H')/\∀(w:Int)(dx:Addr)(H':Hp),j0 H H'->E9 ks c es w->H' dx=some (XdO dx [("who",.int w)])->E (.ref C) (some dx) H'
def N3 (h:Hall)(ks:List Call)(c:Int)(es:List Int)(sh:Int):Option (List Int)->Prop
 | none=>w5 h sh=[]
 | some ms=>∃ k,ac7 h ks c es sh k/\ms=E3 h ks (c / h.c) (m6 h es) k
def av2 (K:Frag)(C:Addr):Sp:=fun vs H Q E=>∃(a l e:Addr)(h:Hall)(as:List Addr)(ks:List Call)(c:Int)(es:List Int)(sh:Int),vs=[.ref a,.ref l,.int c,.ref e,.int sh]/\Asked K H a l e h as ks es /\
 ∀(dx nh:Addr)(nas:List Addr)(nlv:V)(o:Option (List Int))(H':Hp),j0 H H'->N3 h ks c es sh o->EngAt H' dx (A6 h ks c es) o nh nas nlv->ac9 H nas nlv->E (.ref C) (some dx) H'
def aG6 (K:Frag):Sp:=fun vs H Q _=>∃(l e:Addr)(as:List Addr)(ks:List Call)(c k:Int)(es:List Int),vs=[.ref l,.int c,.ref e,.int k]/\H l=some (.lst (as.map V.ref))/\h8 H as ks/\ks.length < 63/\(ks.Pairwise fun k k'=>k.c≠k'.c)/\(∀ k∈ks,k.c≠c)/\(SqT K H e (es.map V.int)\/SqL K H e (es.map V.int))/\es.length < 64 /\
 ∀(r:Addr)(bs:List Addr)(ks':List Call)(es':List Int)(H':Hp),j0 H H'->H' r=some (.lst (bs.map V.ref))->H r=none->h8 H' bs ks'->es'.Perm es->es'.Pairwise (·<=·)->ks'.Perm (ks++[⟨c,es',k⟩])->ks'.Pairwise (fun k k'=>k.c < k'.c)->Q (.ref r) H'
theorem aG4.yes {as:List Addr}{ks:List Call}{c:Int}{v:V}(h:aG4 as ks c v)(n:v≠.non):∃ k∈ks,k.c=c:=by
 rcases h with⟨rfl,_⟩ | ⟨j,a,k,_,h2,h3,_⟩
 ·exact absurd rfl n
 ·exact⟨k,List.mem_of_getElem? h2,h3⟩
section
variable {P:Program}{w:World}{K:Frag}{mg:Str->Option Value}{base:Heap}{aw ah ae aj av ad aq ao af ar ap am aa au:Addr}
theorem af2:FnScope ["hall","caller","ends"] ["hall","caller","ends"] (d7 (top 38)):=mkF
theorem aU3 (T:Txt K mg)(Z:TxtC K mg aw ah ae aj av ad aq ao af ar ap am aa au)(jV:Callee P w K mg base 3 "is_caller" ["hall","thing"] (ah1 K))(lD:Callee P w K mg base 4 "is_ends" ["hall","thing"] (aw0 K))(D:Def K mg "refuse_wrong" (top 38) ["hall","caller","ends"]):CalleeF P w K mg base 5 "refuse_wrong" ["hall","caller","ends"] [] (aK1 K af):=by
 refine D.okF af2 (fun vs H Q E h=>?_) (fun f cdv A outer s H vs Q E hr h=>?_)
 ·obtain⟨a,h,x,y,o,rfl,_⟩:=h
  rfl
 obtain⟨a,h,x,y,o,rfl,hH,ok,px,ey,q,qE⟩:=h
 refine⟨_,(g6 (m7 (N0 (B3 K (m9 jV hr rfl (b8 (pv 0) (b8 (pv 1) d8 b9) b9)) (fun _=>rfl))) (g9 (aj2 (ar2 Q3) Z.jU hr.hd rfl Y4)) j7)
  (g9 (m7 (N0 (B3 K (m9 lD hr rfl (b8 (pv 0) (b8 (pv 2) d8 b9) b9)) (fun _=>rfl))) (g9 (aj2 (ar2 Q3) Z.jU hr.hd rfl Y4)) j7))),?_⟩
 refine⟨_,rfl,_,rfl,a,h,x,rfl,hH,ok,px,_,rfl,?_⟩
 cases c1:m8 x 0 (h.i * h.c - 1) with
 | false=>exact M1 (qE H (fun b u z=>z) (by rw[c1];rfl))
 | true =>
  refine B7 ⟨_,rfl,_,rfl,a,h,y,o,rfl,hH,ok,ey,fun H1 s1=>⟨_,rfl,?_⟩⟩
  cases c2:F8 h o with
  | false=>exact M1 (qE H1 s1 (by rw[c2,Bool.and_false]))
  | true=>exact B7 (q H1 s1 c1 c2)
theorem O4:FnScope ["calls","caller","ends","end","who"] ["calls","caller","ends"] (d7 (top 39)):=mkF
theorem aE2 (T:Txt K mg)(Z:TxtC K mg aw ah ae aj av ad aq ao af ar ap am aa au)(hO:Callee P w K mg base 2 "call_of" ["calls","caller"] (ah4 K))(jW:Callee P w K mg base 2 "holder_of" ["calls","end"] (ak7 K))(fC:CalleeM P w K mg base 1 am "__init__" ["self","who"] [] noKw (au2 am))(D:Def K mg "refuse_busy" (top 39) ["calls","caller","ends"]):CalleeF P w K mg base 4 "refuse_busy" ["calls","caller","ends"] [] (ao6 K am):=by
 refine D.okF O4 (fun vs H Q E h=>?_) (fun f cdv A outer s H vs Q E hr h=>?_)
 ·obtain⟨l,e,as,ks,c,es,rfl,_⟩:=h
  rfl
 obtain⟨l,e,as,ks,c,es,rfl,hl,hC,he,h64,q,qE⟩:=h
 refine⟨_,(g6 (m7 (i4 Z2 (m9 hO hr rfl (b8 (pv 0) (b8 (pv 1) d8 b9) b9)) t9 (j5 _)) (g9 (ab5 Q3 Z.lT fC hr hr.hd rfl (b8 (pv 1) d8 b9))) j7)
  (g9 (B0 PassesOwn.leaving rfl (o4 K (i8 (O3 K) rfl T.cU boot_sorted (b8 (pv 2) d8 b9))) (m5 (i:=3) O4.nd rfl (Or.inl rfl))
  (g6 (i0 (i:=4) O4.nd rfl (Or.inl rfl) (m9 jW hr rfl (b8 (pv 0) (b8 (pv 3) d8 b9) b9)))
  (g9 (m7 (i4 Z2 (pv 4) t9 (j5 _)) (g9 (ab5 Q3 Z.lT fC hr hr.hd rfl (b8 (pv 4) d8 b9))) j7)))))),?_⟩
 have fly:∀{G:Hp}{ea:Addr}{w:Int}(s:j0 H G)(b:E9 ks c es w)(hea:G ea=none),au2 am [.ref ea,.int w] (upd G ea (F6 ea am none)) (fun r H2=>r=.non/\∃ od,H2 ea=some (F6 ea am od)/\E (.ref am) od (ar4 H2 ea)) E0:=by
  intro G ea w s b hea
  refine⟨ea,.int w,rfl,d6,fun dx H4 hdx ne oth e1 e2=>⟨rfl,some dx,e1,?_⟩⟩;rw[h7 ne] at hdx;refine qE w dx _ (s.trans fun b u z=>?_) b (by rw[B4 ne];exact e2)
  have nb:b≠ea:=fun y=>by rw[y,hea] at z;cases z
  have nd':b≠dx:=fun y=>by rw[y,hdx] at z;cases z
  rw[B4 nb,oth b nb nd',h7 nb];exact z
 refine⟨_,rfl,_,rfl,l,.int c,as,ks,rfl,hl,hC,.int c,.inr ⟨c,rfl,fun v mine=>⟨rfl,_,rfl,?_⟩⟩⟩
 by_cases hv:v=.non
 ·rw[hv]
  refine B7 ?_
  have no:∀ k∈ks,k.c≠c:=by
   rcases mine with⟨_,z⟩ | ⟨j,a,k,_,_,_,z⟩
   ·exact z
   ·rw[hv] at z;cases z
  refine⟨_,rfl,e,es,rfl,he,h64,fun ns' pm srt sl hsl=>?_⟩;have s1:=g7 hsl (.lst (ns'.map V.int));have esl:=d6 (H:=H) (a:=sl) (o:=.lst (ns'.map V.int));generalize upd H sl (.lst (ns'.map V.int))=H1 at s1 esl ⊢;refine⟨sl,rfl,⟨_,SqL.of esl⟩,?_⟩
  refine B8 (xs:=ns'.map V.int) (fun i σ H'=>H'=H1/\(∀ e∈ns'.take i,∀ k∈ks,¬ e∈k.es)/\∃ v3 v4,σ=[some (.ref l),some (.int c),some (.ref e),v3,v4])
   ⟨rfl,(fun e z=>nomatch z),none,none,rfl⟩ (fun i σ H' _ g=>by rw[g.1];exact SqL.of esl) ?_ ?_
  ·rintro i x σ G hx ⟨rfl,low,v3,v4,rfl⟩
   rw[List.getElem?_map] at hx;obtain⟨en,hen,rfl⟩:=Option.map_eq_some_iff.mp hx;refine⟨_,rfl,_,rfl,l,en,as,ks,rfl,s1.seq hl,h8.same (fun b xs z=>s1 _ _ z) hC,fun v who=>?_⟩;refine⟨_,rfl,rfl,_,rfl,?_⟩
   rcases who with⟨rfl,none⟩ | ⟨k,hk,ek,rfl⟩
   ·refine B7 ⟨rfl,fun e' he'=>?_,_,_,rfl⟩
    rw[take_add_one,hen] at he'
    rcases List.mem_append.mp he' with z | z
    ·exact low e' z
    ·rw[mem_singleton.mp z]
     exact none
   ·refine M1 ⟨_,rfl,(by show 1<=1000;decide),fun ea hea=>fly s1 (.inr ⟨no,en,pm.mem_iff.mp (List.mem_of_getElem? hen),⟨k,hk,ek,rfl⟩,fun e' he' lt=>?_⟩) hea⟩
    refine low e' ?_;obtain⟨j,hj,ej⟩:=getElem_of_mem (pm.mem_iff.mpr he');have hi:=List.getElem?_eq_some_iff.mp hen
    by_cases z:j < i
    ·rw[List.mem_take_iff_getElem]
     exact⟨j,by lia,ej⟩
    ·by_cases y:j=i
     ·subst y
      rw[hi.2] at ej;lia
     ·have:=(List.pairwise_iff_getElem.mp srt) i j hi.1 hj (by lia)
      rw[hi.2,ej] at this;lia
  ·rintro σ G ⟨rfl,low,v3,v4,rfl⟩
   rw[length_map,take_length] at low;exact q _ s1 ⟨no,fun e he=>low e (pm.mem_iff.mpr he)⟩
 ·have dv:decide (v=V.non)=false:=decide_eq_false hv
  rw[dv];exact M1 ⟨_,rfl,(by show 1<=1000;decide),fun ea hea=>fly (fun b u z=>z) (.inl ⟨mine.yes hv,rfl⟩) hea⟩
theorem Z1:FnScope ["hall","calls","caller","ends","shut"] ["hall","calls","caller","ends","shut"] (d7 (top 40)):=mkF
theorem aM6 (T:Txt K mg)(Z:TxtC K mg aw ah ae aj av ad aq ao af ar ap am aa au)(eL:Callee P w K mg base 4 "holders" ["hall","calls","caller","ends"] (V7 K))(jq:CalleeD P w K mg base 5 "least_ended" ["hall","calls","caller","ends","shut"] [.int 0] (aL9 K))(gA:CalleeM P w K mg base 1 aa "__init__" ["self","holds","least"] [] noKw (aG1 K aa))(D:Def K mg "refuse_engaged" (top 40) ["hall","calls","caller","ends","shut"]):CalleeF P w K mg base 6 "refuse_engaged" ["hall","calls","caller","ends","shut"] [] (av2 K aa):=by
 refine D.okF Z1 (fun vs H Q E h=>?_) (fun f cdv A outer s H vs Q E hr h=>?_)
 ·obtain⟨a,l,e,h,as,ks,c,es,sh,rfl,_⟩:=h
  rfl
 obtain⟨a,l,e,h,as,ks,c,es,sh,rfl,ask,qE⟩:=h;refine⟨_,(g9 (ab5 Q3 Z.lC gA hr hr.hd rfl (b8 (m9 eL hr rfl (b8 (pv 0) (b8 (pv 1) (b8 (pv 2) (b8 (pv 3) d8 b9) b9) b9) b9)) (b8 (m9 jq.all hr rfl (b8 (pv 0) (b8 (pv 1) (b8 (pv 2) (b8 (pv 3) (b8 (pv 4) d8 b9) b9) b9) b9) b9)) d8 n6) n6))),?_⟩;refine⟨_,rfl,_,rfl,_,rfl,_,rfl,a,l,e,h,as,ks,c,es,rfl,ask.a,ask.ok,ask.l,ask.c,ask.hin,ask.few,ask.e,ask.len,fun f rs H1 s1 hf0 hrs nd nf ef hR=>?_⟩
 have rl:(A6 h ks c es).length<=64:=by
  have:=ask.ok.m
  unfold A6 F3;rw[length_map,length_range];lia
 have go:∀(lv:V)(o:Option (List Int))(H2:Hp),j0 H1 H2->N3 h ks c es sh o->(match o with | none=>lv=.non | some ms=>∃ m,lv=.ref m/\H2 m=some (.lst (ms.map V.int)))->∀ ea,H2 ea=none->aG1 K aa [.ref ea,.ref f,lv] (upd H2 ea (F6 ea aa none)) (fun r H3=>r=.non/\∃ od,H3 ea=some (F6 ea aa od)/\E (.ref aa) od (ar4 H3 ea)) E0:=by
  intro lv o H2 s2 ho hlv ea hea
  have s3:=g7 hea (F6 ea aa none);refine⟨ea,f,rs,A6 h ks c es,lv,o,rfl,d6,SqL.of (s3 _ _ (s2 _ _ ef)),Paired.mapP hR fun a r z=>s3 _ _ (s2 _ _ z),rl,?_,fun dx nh nas nlv H4 old e1 hdx ne eng frs nhe nae nme=>⟨rfl,some dx,e1,?_⟩⟩
  ·cases o with
   | none=>exact hlv
   | some ms =>
    obtain⟨m,e1,e2⟩:=hlv;exact⟨m,e1,s3 _ _ e2⟩
  ·refine qE dx nh nas nlv o _ (s1.trans (s2.trans fun b u z=>?_)) ho ⟨by rw[B4 ne];exact eng.d,by rw[B4 nhe];exact eng.h,M5 eng.rows fun a r ha z=>by rw[B4 (nae a ha)];exact z,eng.nd,?_⟩ (frs.back ((s1.trans s2).trans s3))
   ·have nb:b≠ea:=fun y=>by rw[y,hea] at z;cases z
    rw[B4 nb];exact old b u nb (s3 _ _ z)
   ·have:=eng.l
    cases o with
    | none=>exact this
    | some ms =>
     obtain⟨m,y1,y2,y3,y4⟩:=this;exact⟨m,y1,y2,y3,by rw[B4 (nme m y1)];exact y4⟩
 refine⟨_,rfl,_,rfl,_,rfl,_,rfl,_,rfl,a,l,e,h,as,ks,c,es,sh,rfl,ask.same s1,fun H2 s2 hno=>⟨(by show 2<=1000;decide),go _ none H2 s2 hno rfl⟩,fun r k H2 s2 lk er=>⟨(by show 2<=1000;decide),go _ (some _) H2 s2 ⟨k,lk,rfl⟩ ⟨r,rfl,er⟩⟩⟩
end
theorem bc7 {n:Nat}{i:Int}(h0:0<=i)(h1:i < n):ixN n i=some i.toNat:=by
 unfold ixN;rw[if_pos h0,if_pos h1]
theorem aN9 {α:Type}{n j:Nat}{v:α}{f:Nat->α}:((List.range n).map f).set j v=(List.range n).map fun r=>if r=j then v else f r:=by
 refine ext_getElem? fun r=>?_;rw[List.getElem?_set,List.getElem?_map,List.getElem?_map]
 by_cases c:j=r
 ·subst c
  rw[if_pos rfl];rw[length_map,length_range]
  by_cases d:j < n
  ·rw[if_pos d,List.getElem?_range d]
   simp
  ·rw[if_neg d,List.getElem?_eq_none (by rw[length_range];lia)]
   rfl
 ·rw[if_neg c]
  by_cases d:r < n
  ·rw[List.getElem?_range d]
   simp[Ne.symm c]
  ·rw[List.getElem?_eq_none (by rw[length_range];lia)]
   rfl
def ab1 (ks:List Call)(r:Nat):Nat:=(ks.filter fun k=>decide (k.k=(r:Int))).length
def L8 (h:Hall)(ks:List Call):List Int:=(List.range h.m.toNat).map fun r=>((ab1 ks r:Nat):Int)
theorem am4 (ks:List Call)(k:Call)(r:Nat):ab1 (ks++[k]) r=ab1 ks r + (if k.k=(r:Int) then 1 else 0):=by
 unfold ab1;rw[filter_append,length_append]
 by_cases c:k.k=(r:Int)
 ·rw[if_pos c]
  simp[c]
 ·rw[if_neg c]
  simp[c]
theorem aR9 (h:Hall)(ks:List Call):(L8 h ks).length=h.m.toNat:=by unfold L8;rw[length_map,length_range]
def aq5 (K:Frag):Sp:=fun vs H Q _=>∃(a b:Addr)(h:Hall)(as:List Addr)(ks:List Call),vs=[.ref a,.ref b]/\SqT K H a (h.row.map V.int)/\h.Ok/\SqL K H b (as.map V.ref)/\h8 H as ks/\(∀ k∈ks,k.In h)/\ks.length<=63 /\
 ∀(l:Addr)(H':Hp),j0 H H'->H l=none->H' l=some (.lst ((L8 h ks).map V.int))->Q (.ref l) H'
theorem aV6 (n:Nat):(List.replicate n [V.int 0]).flatten=(List.range n).map fun(_:Nat)=>V.int 0:=by
 induction n with
 | zero=>rfl
 | succ n ih =>
  rw[range_succ,map_append,List.replicate_succ',List.flatten_append,ih];rfl
section
variable {P:Program}{w:World}{K:Frag}{mg:Str->Option Value}{base:Heap}
theorem ak2:FnScope ["hall","calls","found","call"] ["hall","calls"] (d7 (top 21)):=mkF
theorem aX6 (T:Txt K mg)(D:Def K mg "loads" (top 21) ["hall","calls"]):Callee P w K mg base 1 "loads" ["hall","calls"] (aq5 K):=by
 refine D.ok ak2 (fun vs H Q E h=>?_) (fun f cdv A outer s H vs Q E hr h=>?_)
 ·obtain⟨a,b,h,as,ks,rfl,_⟩:=h
  rfl
 obtain⟨a,b,h,as,ks,rfl,hH,ok,hB,hC,hin,h63,q⟩:=h;have o3:=ok.m
 refine⟨_,(g6 (i0 (i:=2) ak2.nd rfl (Or.inl rfl) (i5 be8 (r6 (b8 d9 d8 m4)) (j3 (j1 K) (pv 0) d9 (fun _ _=>rfl))))
  (g6 (B0 PassesOwn.never rfl (o4 K (pv 1)) (m5 (i:=3) ak2.nd rfl (Or.inl rfl))
  (g9 (a70 (pv 2) (j3 (j1 K) (pv 3) d9 (fun _ _=>rfl)) (aQ6 K) d9 a72 aa3)))
  (g9 (i7 (pv 2))))),?_⟩
 refine⟨(by show 1<=sizeLine;decide),fun l0 hl0=>?_⟩
 have s0:=g7 hl0 (.lst [.int 0]);have e0:=d6 (H:=H) (a:=l0) (o:=.lst [.int 0]);generalize upd H l0 (.lst [.int 0])=H0 at s0 e0 ⊢;refine⟨_,rfl,a,_,_,_,rfl,rfl,j0.seqT s0 hH,rfl,l0,h.m,_,rfl,rfl,e0,by lia,by lia,Nat.le_of_lt (j6 (by show 1 * h.m.toNat<=1000;lia)),fun l hl=>?_⟩
 have start:(List.replicate h.m.toNat [V.int 0]).flatten=(L8 h (ks.take 0)).map V.int:=by
  rw[List.take_zero,aV6];unfold L8;rw[List.map_map];rfl
 rw[start];have hlH:H l=none:=s0.free hl;refine⟨_,rfl,b,rfl,⟨_,(s0.trans (g7 hl _)).seq hB⟩,?_⟩;refine B8 (xs:=as.map V.ref) (fun i σ H'=>j0 H H'/\H' l=some (.lst ((L8 h (ks.take i)).map V.int))/\∃ v3,σ=[some (.ref a),some (.ref b),some (.ref l),v3]) ⟨s0.trans (g7 hl _),d6,none,rfl⟩ (fun i σ H' _ g=>g.1.seq hB) ?_ ?_
 ·rintro i x σ H' hx ⟨s1,e1,v3,rfl⟩
  rw[List.getElem?_map] at hx;obtain⟨p,hp,rfl⟩:=Option.map_eq_some_iff.mp hx;obtain⟨k,hk,e,ee,ep⟩:=j8 hC i p hp;have hkI:=hin k (List.mem_of_getElem? hk);have ep1:=s1 _ _ ep;have k2:=hkI.k;obtain⟨n,hn⟩:∃ n:Nat,k.k=(n:Int):=⟨k.k.toNat,by lia⟩
  have hn1:n < h.m.toNat:=by lia
  have at1:((L8 h (ks.take i)).map V.int)[k.k.toNat]? = some (V.int ((ab1 (ks.take i) n:Nat):Int)):=by
   unfold L8;rw[hn,Int.toNat_natCast,List.getElem?_map,List.getElem?_map,List.getElem?_range hn1];rfl
  refine⟨_,rfl,_,rfl,p,_,_,_,rfl,rfl,SqT.of ep1,rfl,l,_,k.k,_,rfl,rfl,SqL.of e1,k2.1,at1,?_⟩;refine⟨_,_,rfl,rfl,l,_,k.k,_,rfl,rfl,e1,bc7 k2.1 (by rw[length_map,aR9];lia),?_⟩
  refine⟨j0.put s1 hlH,?_,_,rfl⟩;rw[d6]
  congr 2
  have tk:ks.take (i + 1)=ks.take i++[k]:=by rw[take_succ,hk];rfl
  dsimp only
  unfold L8;rw[List.map_map,List.map_map,aN9];refine map_congr_left fun r hr=>?_;rw[hn,Int.toNat_natCast]
  show(if r=n then _ else V.int ((ab1 (ks.take i) r:Nat):Int))=V.int ((ab1 (ks.take (i + 1)) r:Nat):Int)
  rw[tk,am4]
  by_cases c:r=n
  ·subst c
   rw[if_pos rfl,if_pos hn];rfl
  ·rw[if_neg c,if_neg (fun z=>c (by lia)),Nat.add_zero]
 ·rintro σ H' ⟨s1,e1,v3,rfl⟩
  have hl2:ks.take (as.map V.ref).length=ks:=by rw[length_map,Paired.length hC,take_length]
  rw[hl2] at e1;exact⟨_,rfl,q l H' s1 hlH e1⟩
end
def aO3 (x:Str):Str:=x++".<locals>."++"<lambda>"
theorem Q6 {H H':Hp}{P:Addr}{pos:Pos}{q:Str}(s:j0 H H')(h:F5 H P pos q):F5 H' P pos q:=by
 rcases h with h | ⟨c,h1,h2⟩
 ·exact .inl (s _ _ h)
 ·exact .inr ⟨c,s _ _ h1,s _ _ h2⟩
theorem aI8 {H H':Hp}{P P':Addr}{pos:Pos}{q:Str}(s:aB2 P' H H')(n:P≠P')(h':∃ ps,H P'=some (.tbl ps))(h:F5 H P pos q):F5 H' P pos q:=by
 rcases h with h | ⟨c,h1,h2⟩
 ·exact .inl (s _ _ n h)
 ·refine .inr ⟨c,s _ _ n h1,s _ _ (fun z=>?_) h2⟩
  obtain⟨ps,h'⟩:=h';rw[z,h'] at h2
  cases h2
theorem C0 {H:Hp}{P:Addr}{pos:Pos}{q:Str}(h:F5 H P pos q):∃ ps,H P=some (.tbl ps):=by
 rcases h with h | ⟨c,h1,_⟩
 ·exact⟨_,h⟩
 ·exact⟨_,h1⟩
def E7 (ks:List Call)(x:Int):Int:=((ab1 ks x.toNat:Nat):Int)
def bf0:Pos:=(⟨59,29,59,46⟩:Pos)
def bd4:Pos:=(⟨64,29,64,46⟩:Pos)
def W7 (K:Frag)(T:Addr)(best:(Nat->Int)->Nat->Nat->Prop)(pos:Pos)(q:Str):Sp:=fun vs H Q _=>∃(v0:V)(a b fl:Addr)(h:Hall)(as:List Addr)(ks:List Call)(xs:List Int),vs=[v0,.ref a,.ref b,.ref fl]/\SqT K H a (h.row.map V.int)/\h.Ok/\SqL K H b (as.map V.ref)/\h8 H as ks/\(∀ k∈ks,k.In h)/\ks.length<=63/\H fl=some (.lst (xs.map V.int))/\xs≠[]/\(∀ x∈xs,0<=x/\x < h.m)/\F5 H T pos q /\
 ∀(i:Nat)(x:Int)(H':Hp),xs[i]? = some x->best (fun j=>E7 ks (xs.getD j 0)) xs.length i->aB2 T H H'->F5 H' T pos q->Q (.int x) H'
theorem aw4 {P:Addr}{H H1 H2:Hp}(s:j0 H H1)(b:aB2 P H1 H2):aB2 P H H2:=fun x u n e=>b x u n (s _ _ e)
section
variable {P:Program}{w:World}{K:Frag}{mg:Str->Option Value}{base:Heap}{aw ah ae aj av ad aq ao af ar ap am aa au:Addr}{ak ag:Addr}
theorem P3:FnScope ["self","hall","calls","free","load"] ["self","hall","calls","free"] (d7 (j4 (top 24) 0)):=mkF
theorem aD9 (T:Txt K mg)(hB:U5 mg base)(fV:Callee P w K mg base 1 "loads" ["hall","calls"] (aq5 K))(D:DefMT K ah "choose" "Fullest.choose" (j4 (top 24) 0) ["self","hall","calls","free"] ak):CalleeM P w K mg base 2 ah "choose" ["self","hall","calls","free"] [] noKw (W7 K ak F7 bf0 (aO3 "Fullest.choose")):=by
 refine D.ok P3 (fun vs H Q E h=>?_) (fun f c A outer s H vs Q E hC hr h=>?_)
 ·obtain⟨v0,a,b,fl,h,as,ks,xs,rfl,_⟩:=h
  rfl
 obtain⟨v0,a,b,fl,h,as,ks,xs,rfl,hH,ok,hB',hCa,hin,h63,hfl,ne,hx,tab,q⟩:=h;have om:=ok.m
 refine⟨_,(g6 (i0 (i:=4) P3.nd rfl (Or.inr rfl) (m9 fV hr rfl (b8 (pv 1) (b8 (pv 2) d8 b9) b9)))
  (g9 (i7 (aQ4 K [(4,"load")] hr rfl rfl T.mP rfl hC hB (show LamScope ["self","hall","calls","free","load"] (d7 (j4 (top 24) 0)) _ "k" [(4,"load")] from⟨rfl,rfl,rfl,by decide +kernel,rfl,by decide +kernel,by decide +kernel⟩) (b8 (pv 3) d8 b9) (fun q cl f c A s H=>(j3 (m3 K) (pv 1) (pv 0) (fun _ _=>rfl))))))),?_⟩
 refine⟨_,rfl,_,rfl,a,b,h,as,ks,rfl,hH,ok,hB',hCa,hin,h63,fun l H1 s1 hl0 el=>?_⟩;refine⟨_,rfl,fl,xs.map V.int,rfl,fun z=>ne (List.map_eq_nil_iff.mp z),Q6 s1 tab,fun H2 c' but has=>?_⟩
 have nt:∀ b xs,H1 b=some (.lst xs)->H2 b=some (.lst xs):=fun b xs e=>but _ _ (fun z=>by
  obtain⟨ps,e'⟩:=C0 (Q6 s1 tab);rw[z,e'] at e
  cases e) e
 refine⟨SqL.of (nt _ _ (s1 _ _ hfl)),fun j=>E7 ks (xs.getD j 0),fun i x hxi=>?_,fun i x hxi best=>?_⟩
 ·rw[List.getElem?_map] at hxi
  obtain⟨n,hn,rfl⟩:=Option.map_eq_some_iff.mp hxi;have hb:=hx n (List.mem_of_getElem? hn);have e1:xs.getD i 0=n:=by rw[List.getD,hn];rfl
  obtain⟨m,rfl⟩:=Int.eq_ofNat_of_zero_le hb.1
  have at1:atI ((L8 h ks).map V.int) ((m:Nat):Int)=some (.int (E7 ks ((m:Nat):Int))):=A0 (by
   unfold L8 E7;rw[List.getElem?_map,List.getElem?_map,List.getElem?_range (by lia)]
   rfl)
  refine⟨_,rfl,_,rfl,l,_,_,_,rfl,rfl,SqL.of (nt _ _ el),at1,rfl,?_⟩
  show V.int _=V.int (E7 ks (xs.getD i 0))
  rw[e1]
 ·rw[List.getElem?_map] at hxi
  obtain⟨n,hn,rfl⟩:=Option.map_eq_some_iff.mp hxi;rw[length_map] at best;exact q i n H2 hn best (aw4 s1 but) (.inr ⟨c',has⟩)
theorem O6:FnScope ["self","hall","calls","free","load"] ["self","hall","calls","free"] (d7 (j4 (top 25) 0)):=mkF
theorem aw1 (T:Txt K mg)(hB:U5 mg base)(fV:Callee P w K mg base 1 "loads" ["hall","calls"] (aq5 K))(D:DefMT K ae "choose" "Emptiest.choose" (j4 (top 25) 0) ["self","hall","calls","free"] ag):CalleeM P w K mg base 2 ae "choose" ["self","hall","calls","free"] [] noKw (W7 K ag H9 bd4 (aO3 "Emptiest.choose")):=by
 refine D.ok O6 (fun vs H Q E h=>?_) (fun f c A outer s H vs Q E hC hr h=>?_)
 ·obtain⟨v0,a,b,fl,h,as,ks,xs,rfl,_⟩:=h
  rfl
 obtain⟨v0,a,b,fl,h,as,ks,xs,rfl,hH,ok,hB',hCa,hin,h63,hfl,ne,hx,tab,q⟩:=h;have om:=ok.m
 refine⟨_,(g6 (i0 (i:=4) O6.nd rfl (Or.inr rfl) (m9 fV hr rfl (b8 (pv 1) (b8 (pv 2) d8 b9) b9)))
  (g9 (i7 (aP0 K [(4,"load")] hr rfl rfl T.lN rfl hC hB (show LamScope ["self","hall","calls","free","load"] (d7 (j4 (top 25) 0)) _ "k" [(4,"load")] from⟨rfl,rfl,rfl,by decide +kernel,rfl,by decide +kernel,by decide +kernel⟩) (b8 (pv 3) d8 b9) (fun q cl f c A s H=>(j3 (m3 K) (pv 1) (pv 0) (fun _ _=>rfl))))))),?_⟩
 refine⟨_,rfl,_,rfl,a,b,h,as,ks,rfl,hH,ok,hB',hCa,hin,h63,fun l H1 s1 hl0 el=>?_⟩;refine⟨_,rfl,fl,xs.map V.int,rfl,fun z=>ne (List.map_eq_nil_iff.mp z),Q6 s1 tab,fun H2 c' but has=>?_⟩
 have nt:∀ b xs,H1 b=some (.lst xs)->H2 b=some (.lst xs):=fun b xs e=>but _ _ (fun z=>by
  obtain⟨ps,e'⟩:=C0 (Q6 s1 tab);rw[z,e'] at e
  cases e) e
 refine⟨SqL.of (nt _ _ (s1 _ _ hfl)),fun j=>E7 ks (xs.getD j 0),fun i x hxi=>?_,fun i x hxi best=>?_⟩
 ·rw[List.getElem?_map] at hxi
  obtain⟨n,hn,rfl⟩:=Option.map_eq_some_iff.mp hxi;have hb:=hx n (List.mem_of_getElem? hn);have e1:xs.getD i 0=n:=by rw[List.getD,hn];rfl
  obtain⟨m,rfl⟩:=Int.eq_ofNat_of_zero_le hb.1
  have at1:atI ((L8 h ks).map V.int) ((m:Nat):Int)=some (.int (E7 ks ((m:Nat):Int))):=A0 (by
   unfold L8 E7;rw[List.getElem?_map,List.getElem?_map,List.getElem?_range (by lia)]
   rfl)
  refine⟨_,rfl,_,rfl,l,_,_,_,rfl,rfl,SqL.of (nt _ _ el),at1,rfl,?_⟩
  show V.int _=V.int (E7 ks (xs.getD i 0))
  rw[e1]
 ·rw[List.getElem?_map] at hxi
  obtain⟨n,hn,rfl⟩:=Option.map_eq_some_iff.mp hxi;rw[length_map] at best;exact q i n H2 hn best (aw4 s1 but) (.inr ⟨c',has⟩)
end
def Z4 (ws xs:List Int):Int:=(ws.filter (fun k=>decide (k∈xs))++xs).headD 0
def aL3 (K:Frag)(C:Addr):Sp:=fun vs H Q _=>∃(p dx wl:Addr)(ws:List Int),vs=[.ref p,.ref wl]/\H p=some (.ins C dx [])/\H wl=some (.lst (ws.map V.int))/\∀(rl:Addr)(H':Hp),H rl=none->(∀ b u,b≠p->H b=some u->H' b=some u)->H' rl=some (.lst (ws.map V.int))->H' p=some (.ins C dx [("racks",.ref rl)])->Q .non H'
def aL6 (K:Frag)(C:Addr):Sp:=fun vs H Q _=>∃(p dx rl fl:Addr)(v1 v2:V)(ws xs:List Int),vs=[.ref p,v1,v2,.ref fl]/\H p=some (.ins C dx [("racks",.ref rl)])/\H rl=some (.lst (ws.map V.int))/\H fl=some (.lst (xs.map V.int))/\xs≠[]/\Q (.int (Z4 ws xs)) H
def ao2:Sp:=fun vs H Q _=>∃(v0 v1 v2:V)(fl:Addr)(xs:List Int),vs=[v0,v1,v2,.ref fl]/\H fl=some (.lst (xs.map V.int))/\xs≠[]/\Q (.int (xs.headD 0)) H
section
variable {P:Program}{w:World}{K:Frag}{mg:Str->Option Value}{base:Heap}{aw ah ae aj av ad aq ao af ar ap am aa au:Addr}
theorem aj0:FnScope ["self","hall","calls","free"] ["self","hall","calls","free"] (d7 (j4 (top 23) 0)):=mkF
theorem aH0 (T:Txt K mg)(Z:TxtC K mg aw ah ae aj av ad aq ao af ar ap am aa au)(D:DefM K aw "choose" "Rule.choose" (j4 (top 23) 0) ["self","hall","calls","free"] [] noKw):CalleeM P w K mg base 1 aw "choose" ["self","hall","calls","free"] [] noKw ao2:=by
 refine D.ok aj0 (fun vs H Q E h=>?_) (fun f cdv A outer s H vs Q E hr h=>?_)
 ·obtain⟨v0,v1,v2,fl,xs,rfl,_⟩:=h
  rfl
 obtain⟨v0,v1,v2,fl,xs,rfl,hl,ne,q⟩:=h;obtain⟨x,t,rfl⟩:=exists_cons_of_ne_nil ne;refine⟨_,(g9 (i7 (j3 (m3 K) (pv 3) d9 (fun _ _=>rfl)))),?_⟩;exact⟨_,rfl,fl,_,_,_,rfl,rfl,SqL.of hl,(show atI _ ((0:Nat):Int)=_ from A0 rfl),q⟩
theorem ac0:FnScope ["self","listed"] ["self","listed"] (d7 (j4 (top 27) 0)):=mkF
theorem aU0 (T:Txt K mg)(Z:TxtC K mg aw ah ae aj av ad aq ao af ar ap am aa au)(D:DefM K av "__init__" "Told.__init__" (j4 (top 27) 0) ["self","listed"] [] noKw):CalleeM P w K mg base 1 av "__init__" ["self","listed"] [] noKw (aL3 K av):=by
 refine D.ok ac0 (fun vs H Q E h=>?_) (fun f cdv A outer s H vs Q E hr h=>?_)
 ·obtain⟨p,dx,wl,ws,rfl,_⟩:=h
  rfl
 obtain⟨p,dx,wl,ws,rfl,hp,hw,q⟩:=h;refine⟨_,(g9 (aD5 (pv 0) (p7 (B6 K) rfl T.cY boot_list (b8 (pv 1) d8 b9)) rfl)),?_⟩;refine⟨_,rfl,wl,_,rfl,.inl (SqL.of hw),fun rl hrl=>?_⟩;have npr:p≠rl:=fun z=>by rw[<- z,hp] at hrl;cases hrl
 refine⟨_,rfl,p,av,dx,_,rfl,by rw[h7 npr];exact hp,Z.jE,Z.gK,(by show 0 < 1000;decide),?_⟩
 refine q rl _ hrl (fun b u nb z=>?_) ?_ d6
 ·rw[h7 nb,h7 (h9 z hrl)]
  exact z
 ·rw[h7 (Ne.symm npr),d6]
theorem V2:FnScope ["self","hall","calls","free","k"] ["self","hall","calls","free"] (d7 (j4 (top 27) 1)):=mkF
theorem aS8 (T:Txt K mg)(Z:TxtC K mg aw ah ae aj av ad aq ao af ar ap am aa au)(D:DefM K av "choose" "Told.choose" (j4 (top 27) 1) ["self","hall","calls","free"] [] noKw):CalleeM P w K mg base 1 av "choose" ["self","hall","calls","free"] [] noKw (aL6 K av):=by
 refine D.ok V2 (fun vs H Q E h=>?_) (fun f cdv A outer s H vs Q E hr h=>?_)
 ·obtain⟨p,dx,rl,fl,v1,v2,ws,xs,rfl,_⟩:=h
  rfl
 obtain⟨p,dx,rl,fl,v1,v2,ws,xs,rfl,hp,hw,hf,ne,q⟩:=h
 refine⟨_,(g6 (B0 PassesOwn.never rfl (o4 K (aI2 K (pv 0))) (m5 (i:=4) V2.nd rfl (Or.inl rfl))
  (g9 (m7 (i4 (ah8 K) (pv 4) (pv 3) (by with_unfolding_all rfl)) (g9 (i7 (pv 4))) j7)))
  (g9 (i7 (j3 (m3 K) (pv 3) d9 (fun _ _=>rfl))))),?_⟩
 refine⟨_,rfl,p,av,dx,_,_,rfl,hp,Z.jE,Z.gK,rfl,rl,rfl,⟨_,SqL.of hw⟩,?_⟩
 refine B8 (xs:=ws.map V.int) (fun i σ G=>G=H/\(ws.take i).filter (fun k=>decide (k∈xs))=[]/\∃ v4,σ=[some (.ref p),some v1,some v2,some (.ref fl),v4])
  ⟨rfl,rfl,none,rfl⟩ (fun i σ G _ g=>by rw[g.1];exact SqL.of hw) ?_ ?_
 ·rintro i y σ G hy ⟨rfl,no,v4,rfl⟩
  rw[List.getElem?_map] at hy;obtain⟨k,hk,rfl⟩:=Option.map_eq_some_iff.mp hy;refine⟨_,rfl,_,rfl,fl,_,rfl,.inl (SqL.of hf),rfl,R0 xs,_,rfl,?_⟩;refine z8 (fun c0=>?_) (fun c0=>?_)
  ·have c:inV (.int k) (xs.map V.int)=true:=c0
   rw[S2] at c
   have e:Z4 ws xs=k:=by
    unfold Z4
    have:ws=ws.take i++k::ws.drop (i + 1):=by
     have h1:=(List.getElem?_eq_some_iff.mp hk);rw[<- h1.2,<- List.drop_eq_getElem_cons h1.1,List.take_append_drop]
    rw[this,filter_append,no,filter_cons,if_pos c];rfl
   rw[e] at q;exact⟨_,rfl,q⟩
  ·have c:¬ inV (.int k) (xs.map V.int)=true:=c0
   rw[S2] at c;refine⟨rfl,?_,_,rfl⟩;rw[take_add_one,hk,filter_append,no,List.nil_append]
   show List.filter (fun k=>decide (k∈xs)) [k]=[]
   rw[filter_cons,if_neg c];rfl
 ·rintro σ G ⟨rfl,no,v4,rfl⟩
  rw[length_map,take_length] at no;obtain⟨x,t,rfl⟩:=exists_cons_of_ne_nil ne
  have e:Z4 ws (x::t)=x:=by
   unfold Z4;rw[no];rfl
  rw[e] at q;exact⟨_,rfl,fl,_,_,_,rfl,rfl,SqL.of hf,(show atI _ ((0:Nat):Int)=_ from A0 rfl),q⟩
end
structure Tabs (T1 T2:Addr)(H:Hp):Prop where
 ne:T1≠T2
 f:F5 H T1 bf0 (aO3 "Fullest.choose")
 e:F5 H T2 bd4 (aO3 "Emptiest.choose")
theorem Tabs.same {T1 T2:Addr}{H H':Hp}(t:Tabs T1 T2 H)(s:j0 H H'):Tabs T1 T2 H':=⟨t.ne,Q6 s t.f,Q6 s t.e⟩
theorem Tabs.no {T1 T2:Addr}{H:Hp}(t:Tabs T1 T2 H){b:Addr}{u:HO}(e:H b=some u)(n:∀ ps,u≠.tbl ps):b≠T1/\b≠T2:=by
 refine⟨fun z=>?_,fun z=>?_⟩
 ·obtain⟨ps,h⟩:=C0 t.f
  rw[z,h] at e
  cases e
  exact n _ rfl
 ·obtain⟨ps,h⟩:=C0 t.e
  rw[z,h] at e
  cases e
  exact n _ rfl
theorem R5 {H:Hp}{C r dx:Addr}(hr:H r=none)(hd:H dx=none):j0 H (upd (upd H dx (.own r)) r (.ins C dx [])):=fun b u z=>by rw[h7 (h9 z hr),h7 (h9 z hd)];exact z
theorem Q5 (as:List Addr):(as.map V.ref).all a00=true:=by
 rw[all_eq_true]
 intro x hx
 obtain⟨c,_,rfl⟩:=List.mem_map.mp hx;rfl
theorem a94 {K:Frag}{H:Hp}{y:V}{o:Option (List V)}{h:Hall}(ey:EndTh K H y o)(w:F8 h o=true):∃(e:Addr)(es:List Int),y=.ref e/\o=some (es.map V.int)/\(SqT K H e (es.map V.int)\/SqL K H e (es.map V.int)):=by
 cases ey with
 | lst e hp hn =>
  rename_i a xs
  have w':(!xs.isEmpty&&(xs.all (fun x=>m8 x 0 (h.o * h.e - 1))&&J8 xs))=true:=w;rw[Bool.and_eq_true,Bool.and_eq_true] at w';obtain⟨ns,rfl⟩:=aj9 w'.2.1;exact⟨a,ns,rfl,rfl,.inr (SqL.of e)⟩
 | tup e hp hn =>
  rename_i a xs
  have w':(!xs.isEmpty&&(xs.all (fun x=>m8 x 0 (h.o * h.e - 1))&&J8 xs))=true:=w;rw[Bool.and_eq_true,Bool.and_eq_true] at w';obtain⟨ns,rfl⟩:=aj9 w'.2.1;exact⟨a,ns,rfl,rfl,.inl (SqT.of e)⟩
 | no=>cases w
theorem aD1 {n:Int}{xs:List Int}(h:xs≠[]):C6 n xs∈xs:=by
 unfold C6
 cases e:ad0 n xs with
 | nil =>
  cases xs with
  | nil=>exact absurd rfl h
  | cons x t=>exact mem_cons_self ..
 | cons y t =>
  have:y∈ad0 n xs:=by rw[e];exact mem_cons_self ..
  exact(List.mem_filter.mp this).1
def Q2 (T1 T2 ro:Addr)(H H':Hp):Prop:=∀ b u,b≠T1->b≠T2->b≠ro->H b=some u->H' b=some u
structure Rul (CN:Addr)(T1 T2 ro:Addr)(H:Hp):Prop where
 t:Tabs T1 T2 H
 r:∃ dx n,H ro=some (.ins CN dx (E1 n))
theorem Rul.same {CN T1 T2 ro:Addr}{H H':Hp}(t:Rul CN T1 T2 ro H)(s:j0 H H'):Rul CN T1 T2 ro H':=⟨t.t.same s,by
 obtain⟨dx,n,h⟩:=t.r
 exact⟨dx,n,s _ _ h⟩⟩
theorem Q2.keep {CN T1 T2 ro:Addr}{H H':Hp}(t:Rul CN T1 T2 ro H)(s:Q2 T1 T2 ro H H'){b:Addr}{u:HO}(e:H b=some u)(n:∀ ps,u≠.tbl ps)(n':∀ C dx fs,u≠.ins C dx fs):H' b=some u:=by
 refine s b u (t.t.no e n).1 (t.t.no e n).2 (fun z=>?_) e;obtain⟨dx,m,h⟩:=t.r;rw[z,h] at e
 cases e
 exact n' _ _ _ rfl
theorem Q2.lst {CN T1 T2 ro:Addr}{H H':Hp}(t:Rul CN T1 T2 ro H)(s:Q2 T1 T2 ro H H'){b:Addr}{xs:List V}(e:H b=some (.lst xs)):H' b=some (.lst xs):=s.keep t e (fun _ z=>nomatch z) (fun _ _ _ z=>nomatch z)
theorem Q2.tup {CN T1 T2 ro:Addr}{H H':Hp}(t:Rul CN T1 T2 ro H)(s:Q2 T1 T2 ro H H'){b:Addr}{xs:List V}(e:H b=some (.tup xs)):H' b=some (.tup xs):=s.keep t e (fun _ z=>nomatch z) (fun _ _ _ z=>nomatch z)
theorem Q2.seq {K:Frag}{CN T1 T2 ro:Addr}{H H':Hp}(t:Rul CN T1 T2 ro H)(s:Q2 T1 T2 ro H H'){a:Addr}{xs:List V}(h:SqL K H a xs):SqL K H' a xs:=by
 rcases h with(h | ⟨o,h⟩) | h
 ·exact .inl (.inl (s.lst t h))
 ·exact .inl (.inr ⟨o,s.keep t h (fun _ z=>nomatch z) (fun _ _ _ z=>nomatch z)⟩)
 ·exact .inr h
theorem Q2.trans {T1 T2 ro:Addr}{H H1 H2:Hp}(a:Q2 T1 T2 ro H H1)(b:Q2 T1 T2 ro H1 H2):Q2 T1 T2 ro H H2:=fun x u n1 n2 n3 e=>b x u n1 n2 n3 (a x u n1 n2 n3 e)
theorem C8 {T1 T2 ro:Addr}{H H':Hp}(s:j0 H H'):Q2 T1 T2 ro H H':=fun b u _ _ _ e=>s b u e
inductive Kind where
 | non | first | full | empt | round
 | told (ws:List Int)
inductive RuleIs (CR CF CE CT ro:Addr)(H:Hp):V->Kind->Prop where
 | non:RuleIs CR CF CE CT ro H .non .non
 | round:RuleIs CR CF CE CT ro H (.ref ro) .round
 | first {p dx:Addr} (h:H p=some (.ins CR dx [])):RuleIs CR CF CE CT ro H (.ref p) .first
 | full {p dx:Addr} (h:H p=some (.ins CF dx [])):RuleIs CR CF CE CT ro H (.ref p) .full
 | empt {p dx:Addr} (h:H p=some (.ins CE dx [])):RuleIs CR CF CE CT ro H (.ref p) .empt
 | told {p dx tr:Addr} {ws:List Int} (h:H p=some (.ins CT dx [("racks",.ref tr)])) (ht:H tr=some (.lst (ws.map V.int))):RuleIs CR CF CE CT ro H (.ref p) (.told ws)
theorem aX5 {ws xs:List Int}(h:xs≠[]):Z4 ws xs∈xs:=by
 unfold Z4
 cases e:ws.filter (fun k=>decide (k∈xs)) with
 | nil =>
  cases xs with
  | nil=>exact absurd rfl h
  | cons x t=>exact mem_cons_self ..
 | cons y t =>
  have:y∈ws.filter (fun k=>decide (k∈xs)):=by rw[e];exact mem_cons_self ..
  exact of_decide_eq_true (List.mem_filter.mp this).2
inductive Chosen (n:Int)(ks:List Call)(xs:List Int):Kind->Int->Int->Prop where
 | non:Chosen n ks xs .non (xs.headD 0) n
 | first:Chosen n ks xs .first (xs.headD 0) n
 | full {i:Nat} {x:Int} (hi:xs[i]? = some x) (b:F7 (fun j=>E7 ks (xs.getD j 0)) xs.length i):Chosen n ks xs .full x n
 | empt {i:Nat} {x:Int} (hi:xs[i]? = some x) (b:H9 (fun j=>E7 ks (xs.getD j 0)) xs.length i):Chosen n ks xs .empt x n
 | round:Chosen n ks xs .round (C6 n xs) (C6 n xs + 1)
 | told {ws:List Int}:Chosen n ks xs (.told ws) (Z4 ws xs) n
def A2 (CN ro:Addr)(H:Hp)(n:Int):Prop:=∃ dx,H ro=some (.ins CN dx (E1 n))
def aj1 (K:Frag)(CR CF CE CT CN T1 T2 CL CB CG:Addr):Sp:=fun vs H Q E=>∃(a l e:Addr)(h:Hall)(as:List Addr)(ks:List Call)(c:Int)(es:List Int)(rv:V)(sh:Int)(ro:Addr)(n:Int)(kd:Kind),vs=[.ref a,.ref l,.int c,.ref e,rv,.int sh]/\SqT K H a (h.row.map V.int)/\h.Ok/\H l=some (.lst (as.map V.ref))/\h8 H as ks/\(∀ k∈ks,k.In h)/\(ks.Pairwise fun k k'=>k.c≠k'.c)/\ks.length < 63/\EndTh K H (.ref e) (some (es.map V.int))/\es.length < 64/\m8 (.int c) 0 (h.i * h.c - 1)=true/\F8 h (some (es.map V.int))=true/\RuleIs CR CF CE CT ro H rv kd/\Tabs T1 T2 H/\A2 CN ro H n /\
 (∀(w:Int)(dx:Addr)(H':Hp),j0 H H'->E9 ks c es w->H' dx=some (XdO dx [("who",.int w)])->E (.ref CB) (some dx) H') /\
 (N6 ks c es->w4 h ks c es sh=[]->∀(dx nh:Addr)(nas:List Addr)(nlv:V)(o:Option (List Int))(H':Hp),j0 H H'->N3 h ks c es sh o->EngAt H' dx (A6 h ks c es) o nh nas nlv->ac9 H nas nlv->E (.ref CG) (some dx) H') /\
 (N6 ks c es->∀(k:Nat)(n2:Int),k∈w4 h ks c es sh->Chosen n ks ((w4 h ks c es sh).map fun(k:Nat)=>(k:Int)) kd (k:Int) n2->∀(r:Addr)(bs:List Addr)(ks':List Call)(es':List Int)(H':Hp),Q2 T1 T2 ro H H'->Tabs T1 T2 H'->A2 CN ro H' n2->H' r=some (.lst (bs.map V.ref))->H r=none->h8 H' bs ks'->es'.Perm es->es'.Pairwise (·<=·)->ks'.Perm (ks++[⟨c,es',k⟩])->ks'.Pairwise (fun k k'=>k.c < k'.c)->Q (.ref r) H')
theorem Q2.back {CN T1 T2 ro:Addr}{H G:Hp}{n:Int}(k:Q2 T1 T2 ro H G)(tG:Tabs T1 T2 G)(rG:A2 CN ro G n){r:Addr}(fr:G r=none):H r=none:=by
 cases y:H r with
 | none=>rfl
 | some u =>
  have:=k r u (fun z=>by obtain⟨ps,e⟩:=C0 tG.f;rw[<- z,fr] at e;cases e) (fun z=>by obtain⟨ps,e⟩:=C0 tG.e;rw[<- z,fr] at e;cases e) (fun z=>by obtain⟨dx,e⟩:=rG;rw[<- z,fr] at e;cases e) y
  rw[fr] at this
  cases this
section
variable {P:Program}{w:World}{K:Frag}{mg:Str->Option Value}{base:Heap}{aw ah ae aj av ad aq ao af ar ap am aa au:Addr}{ak ag:Addr}
theorem au1:FnScope ["calls","caller","ends","k"] ["calls","caller","ends","k"] (d7 (top 41)):=mkF
theorem a62 (T:Txt K mg)(D:Def K mg "with_call" (top 41) ["calls","caller","ends","k"]):Callee P w K mg base 1 "with_call" ["calls","caller","ends","k"] (aG6 K):=by
 refine D.ok au1 (fun vs H Q E h=>?_) (fun f cdv A outer s H vs Q E hr h=>?_)
 ·obtain⟨l,e,as,ks,c,k,es,rfl,_⟩:=h
  rfl
 obtain⟨l,e,as,ks,c,k,es,rfl,el,hC,h63,nc,no,he,h64,q⟩:=h;have ln:as.length=ks.length:=Paired.length hC;refine⟨_,(g9 (i7 (i8 (X3 K) rfl T.cU boot_sorted (b8 (i5 U0 (pv 0) (r6 (b8 (O9 (b8 (pv 1) (b8 (p7 (P8 K) rfl T.eN boot_tuple (b8 (i8 (O3 K) rfl T.cU boot_sorted (b8 (pv 2) d8 b9)) d8 n6)) (b8 (pv 3) d8 b9) n6) b9)) d8 ah3))) d8 L9)))),?_⟩;refine⟨_,rfl,_,rfl,_,rfl,e,es,rfl,he,h64,fun es' pm srt sl hsl=>?_⟩;have s1:=g7 hsl (.lst (es'.map V.int));have e1:=d6 (H:=H) (a:=sl) (o:=.lst (es'.map V.int));generalize upd H sl (.lst (es'.map V.int))=H1 at s1 e1 ⊢;refine⟨sl,_,rfl,.inl ⟨SqL.of e1,fun t ht=>?_⟩⟩;have s2:=s1.trans (g7 ht (.tup (es'.map V.int)));have e2:=d6 (H:=H1) (a:=t) (o:=.tup (es'.map V.int));generalize upd H1 t (.tup (es'.map V.int))=H2 at s2 e2 ⊢;refine⟨_,rfl,(by show 3<=sizeLine;decide),fun p hp=>?_⟩
 have s3':=g7 hp (.tup [.int c,.ref t,.int k]);have s3:=s2.trans s3';have e3:B9 (upd H2 p (.tup [.int c,.ref t,.int k])) p ⟨c,es',k⟩:=⟨t,s3' _ _ e2,d6⟩;generalize upd H2 p (.tup [.int c,.ref t,.int k])=H3 at s3 e3 ⊢;refine⟨(by show 1<=sizeLine;decide),fun nl hnl=>?_⟩
 have s4':=g7 hnl (.lst [.ref p]);have s4:=s3.trans s4';have e4:=d6 (H:=H3) (a:=nl) (o:=.lst [.ref p]);have c4:=B9.same (fun b xs z=>s4' _ _ z) e3;generalize upd H3 nl (.lst [.ref p])=H4 at s4 e4 c4 ⊢;refine⟨l,nl,_,_,rfl,rfl,s4 _ _ el,e4,Nat.le_of_lt (j6 (by rw[length_map];show as.length + 1<=1000;lia)),fun cl hcl=>?_⟩
 have s5':=g7 hcl (.lst (as.map V.ref++[.ref p]));have s5:=s4.trans s5';have e5:upd H4 cl (.lst (as.map V.ref++[.ref p])) cl=some (.lst ((as++[p]).map V.ref)):=by rw[d6,map_append];rfl
 have c5:=B9.same (fun b xs z=>s5' _ _ z) c4;generalize upd H4 cl (.lst (as.map V.ref++[.ref p]))=H5 at s5 e5 c5 ⊢;have hC5:h8 H5 (as++[p]) (ks++[⟨c,es',k⟩]):=Paired.snoc (h8.same (fun b xs z=>s5 _ _ z) hC) c5;refine Z3 e5 hC5 (by rw[length_append,length_singleton];lia) (List.pairwise_append.mpr ⟨nc,List.pairwise_singleton ..,fun k1 h1 k2 h2=>?_⟩) fun l2 as' ks' h1 h2 h3 h4=>?_
 ·rw[mem_singleton.mp h2]
  exact no k1 h1
 ·exact q l2 as' ks' es' _ (s5.trans (g7 h1 _)) d6 (s5.free h1) (h8.same (fun b xs z=>g7 h1 _ _ _ z) h2) pm srt h3 h4
theorem W5:FnScope ["hall","calls","caller","ends","rule","shut","free","hunter","k"] ["hall","calls","caller","ends","rule","shut"] (d7 (top 42)):=mkF
set_option maxHeartbeats 4000000 in
theorem aR6 (T:Txt K mg)(Z:TxtC K mg aw ah ae aj av ad aq ao af ar ap am aa au)(jj:CalleeF P w K mg base 5 "refuse_wrong" ["hall","caller","ends"] [] (aK1 K af))(jr:CalleeF P w K mg base 4 "refuse_busy" ["calls","caller","ends"] [] (ao6 K am))(mI:CalleeD P w K mg base 5 "ways" ["hall","calls","caller","ends","shut"] [.int 0] (aW5 K))(hU:CalleeF P w K mg base 6 "refuse_engaged" ["hall","calls","caller","ends","shut"] [] (av2 K aa))(js:CalleeM P w K mg base 1 aw "choose" ["self","hall","calls","free"] [] noKw ao2)(hV:CalleeM P w K mg base 2 ah "choose" ["self","hall","calls","free"] [] noKw (W7 K ak F7 bf0 (aO3 "Fullest.choose")))(gT:CalleeM P w K mg base 2 ae "choose" ["self","hall","calls","free"] [] noKw (W7 K ag H9 bd4 (aO3 "Emptiest.choose")))(jk:CalleeM P w K mg base 1 aj "choose" ["self","hall","calls","free"] [] noKw (az5 K aj))(jt:CalleeM P w K mg base 1 av "choose" ["self","hall","calls","free"] [] noKw (aL6 K av))(jX:Callee P w K mg base 1 "with_call" ["calls","caller","ends","k"] (aG6 K))(D:DefDK K mg "joined" (top 42) ["hall","calls","caller","ends","rule","shut"] [.non,.int 0] "shut" (.non)):CalleeFK P w K mg base 7 "joined" ["hall","calls","caller","ends","rule","shut"] [.non,.int 0] "shut" (.non) (aj1 K aw ah ae av aj ak ag af am aa):=by
 refine D.okF W5 (fun vs H Q E h=>?_) (fun f cdv A outer s H vs Q E hr h=>?_)
 ·obtain⟨a,l,e,h,as,ks,c,es,rv,sh,ro,n,kd,rfl,_⟩:=h
  rfl
 obtain⟨a,l,e,h,as,ks,c,es,rv,sh,ro,n,kd,rfl,hH,ok,el,hC,hin,nc,h63,ey,l64,w1,w2,hrv,tabs,hro,qB,qG,qR⟩:=h;have ru:Rul aj ak ag ro H:=⟨tabs,hro.imp fun dx z=>⟨n,z⟩⟩
 refine⟨_,(g6 (A4 (X8 0 jj (ak5 fun _ _ _ z=>z) hr rfl (b8 (pv 0) (b8 (pv 2) (b8 (pv 3) d8 b9) b9) b9)))
  (g6 (A4 (X8 0 jr (ak5 fun _ _ _ z=>z) hr rfl (b8 (pv 1) (b8 (pv 2) (b8 (pv 3) d8 b9) b9) b9)))
  (g6 (i0 (i:=6) W5.nd rfl (Or.inl rfl) (m9 mI.all hr rfl (b8 (pv 0) (b8 (pv 1) (b8 (pv 2) (b8 (pv 3) (b8 (pv 5) d8 b9) b9) b9) b9) b9)))
  (g6 (m7 (i4 (W3 K (Room.units0 hr)) (pv 6) (r6 d8) (j5 _)) (g9 (A4 (X8 0 hU (ak5 fun _ _ _ z=>z) hr rfl (b8 (pv 0) (b8 (pv 1) (b8 (pv 2) (b8 (pv 3) (b8 (pv 5) d8 b9) b9) b9) b9) b9)))) j7)
  (g6 (i0 (i:=7) W5.nd rfl (Or.inl rfl) (ah9 (i4 O7 (pv 4) t9 (j5 _)) (Z5 Z.lO Z.lP rfl) (pv 4)))
  (g6 (i0 (i:=8) W5.nd rfl (Or.inl rfl) (W4 (aW3 Z.lZ js hr (pv 7) (b8 (pv 0) (b8 (pv 1) (b8 (pv 6) d8 b9) b9) b9)) (W4 (aW3 Z.kE hV hr (pv 7) (b8 (pv 0) (b8 (pv 1) (b8 (pv 6) d8 b9) b9) b9)) (W4 (aW3 Z.jT gT hr (pv 7) (b8 (pv 0) (b8 (pv 1) (b8 (pv 6) d8 b9) b9) b9)) (W4 (aW3 Z.fF jk hr (pv 7) (b8 (pv 0) (b8 (pv 1) (b8 (pv 6) d8 b9) b9) b9)) (aW3 Z.jE jt hr (pv 7) (b8 (pv 0) (b8 (pv 1) (b8 (pv 6) d8 b9) b9) b9)))))))
  (g9 (i7 (m9 jX hr rfl (b8 (pv 1) (b8 (pv 2) (b8 (pv 3) (b8 (pv 8) d8 b9) b9) b9) b9)))))))))),?_⟩
 refine⟨_,rfl,_,rfl,_,rfl,a,h,.int c,.ref e,_,rfl,hH,ok,.int c,ey,fun H1 s1 _ _=>?_,fun H1 s1 z=>by rw[w1,w2] at z;cases z⟩
 have he:SqT K H e (es.map V.int)\/SqL K H e (es.map V.int):=by
  cases ey with
  | lst e1 _ _=>exact .inr (SqL.of e1)
  | tup e1 _ _=>exact .inl (SqT.of e1)
 have ask:∀{G:Hp},j0 H G->Asked K G a l e h as ks es:=fun s=>Asked.same s ⟨hH,ok,SqL.of el,hC,hin,by lia,he,l64⟩
 have k1:=ask s1;refine⟨_,rfl,_,rfl,_,rfl,l,e,as,ks,c,es,rfl,k1.l,k1.c,k1.e,l64,fun H2 s2 idle=>?_,fun w dx H2 s2 b ed=>qB w dx H2 (s1.trans s2) b ed⟩;have s12:=s1.trans s2;refine⟨_,rfl,_,rfl,_,rfl,_,rfl,_,rfl,a,l,e,h,as,ks,c,es,sh,rfl,ask s12,fun fl H3 s3 hf0 ef=>?_⟩;have s13:=s12.trans s3;refine⟨_,rfl,(by show 0<=sizeLine;decide),fun nl hnl=>?_⟩
 have s4':=g7 hnl (.lst []);have s14:=s13.trans s4';have e4:=d6 (H:=H3) (a:=nl) (o:=.lst []);have ef4:=s4' _ _ ef;generalize upd H3 nl (.lst [])=H4 at s14 e4 ef4 ⊢;refine⟨fl,nl,_,rfl,rfl,SqL.of ef4,SqL.of e4,_,rfl,?_⟩;refine z8 (fun z=>?_) (fun z=>?_)
 ·have z':w4 h ks c es sh=[]:=by
   have:=of_decide_eq_true z
   unfold B5 at this;exact List.map_eq_nil_iff.mp this
  exact⟨_,rfl,_,rfl,_,rfl,_,rfl,_,rfl,a,l,e,h,as,ks,c,es,sh,rfl,ask s14,fun dx nh nas nlv o H5 s5 lo eng fr=>qG idle z' dx nh nas nlv o H5 (s14.trans s5) lo eng (fr.back s14)⟩
 have z':w4 h ks c es sh≠[]:=fun y=>z (decide_eq_true (by rw[y];rfl))
 have few:=ay1 h ks c es sh;have m24:=ok.m;have ru4:=ru.same s14;have wne:(w4 h ks c es sh).map (fun(k:Nat)=>(k:Int))≠[]:=fun y=>z' (List.map_eq_nil_iff.mp y)
 have wmem:∀{x:Int},x∈(w4 h ks c es sh).map (fun(k:Nat)=>(k:Int))->∃ k,k∈w4 h ks c es sh/\x=((k:Nat):Int):=fun hx=>by
  obtain⟨k,hk,e⟩:=List.mem_map.mp hx;exact⟨k,hk,e.symm⟩
 have ef5:H4 fl=some (.lst (((w4 h ks c es sh).map fun(k:Nat)=>(k:Int)).map V.int)):=by rw[ef4,az6]
 have last:∀{G:Hp}(x n2:Int),x∈(w4 h ks c es sh).map (fun(k:Nat)=>(k:Int))->Chosen n ks ((w4 h ks c es sh).map fun(k:Nat)=>(k:Int)) kd x n2->Q2 ak ag ro H4 G->Tabs ak ag G->A2 aj ro G n2->aG6 K [.ref l,.int c,.ref e,.int x] G Q E0:=by
  intro G x n2 hx ch kp tG rG
  obtain⟨k,hk,rfl⟩:=wmem hx;refine⟨l,e,as,ks,c,(k:Nat),es,rfl,kp.lst ru4 (s14 _ _ el),h8.same (fun b xs z=>kp.tup ru4 (s14 _ _ z)) hC,h63,nc,idle.1,?_,l64,fun r bs ks' es' H' s' er fr cs pm srt pk up=>qR idle k n2 hk ch r bs ks' es' H' ((C8 s14).trans (kp.trans (C8 s'))) (tG.same s') (rG.imp fun dx y=>s' _ _ y) er (s14.free (kp.back tG rG fr)) cs pm srt pk up⟩
  cases ey with
  | lst e1 _ _=>exact .inr (SqL.of (kp.lst ru4 (s14 _ _ e1)))
  | tup e1 _ _=>exact .inl (SqT.of (kp.tup ru4 (s14 _ _ e1)))
 have hb:∀ x∈(w4 h ks c es sh).map (fun(k:Nat)=>(k:Int)),0<=x/\x < h.m:=fun x hx=>by
  obtain⟨k,hk,rfl⟩:=wmem hx
  have:=List.mem_filter.mp hk
  have:=S1 this.1
  lia
 have ro4:A2 aj ro H4 n:=hro.imp fun dx y=>s14 _ _ y;refine⟨_,rfl,rfl,_,rfl,?_⟩;have asG:∀{G:Hp},j0 H4 G->SqT K G a (h.row.map V.int)/\SqL K G l (as.map V.ref)/\h8 G as ks:=fun s=>⟨j0.seqT (s14.trans s) hH,SqL.of (s _ _ (s14 _ _ el)),h8.same (fun b xs z=>s _ _ (s14 _ _ z)) hC⟩
 have hd0:((w4 h ks c es sh).map fun(k:Nat)=>(k:Int)).headD 0∈(w4 h ks c es sh).map fun(k:Nat)=>(k:Int):=by
  cases y:(w4 h ks c es sh).map (fun(k:Nat)=>(k:Int)) with
  | nil=>exact absurd y wne
  | cons x t=>exact mem_cons_self ..
 cases hrv with
 | non =>
  refine M1 (fun ro' dro hro' hdro ne=>?_);have s5:=R5 (C:=aw) hro' hdro;have e5:=d6 (H:=upd H4 dro (.own ro')) (a:=ro') (o:=.ins aw dro []);generalize upd (upd H4 dro (.own ro')) ro' (.ins aw dro [])=H5 at s5 e5 ⊢;exact .inl ⟨_,rfl,ro',dro,[],rfl,e5,rfl,_,rfl,_,rfl,_,rfl,.ref ro',.ref a,.ref l,fl,_,rfl,s5 _ _ ef5,wne,⟨_,rfl,_,rfl,_,rfl,_,rfl,last _ _ hd0 .non (C8 s5) (ru4.t.same s5) (ro4.imp fun dx y=>s5 _ _ y)⟩⟩
 | round =>
  obtain⟨rdx,er0⟩:=hro;have er4:=s14 _ _ er0;refine B7 ⟨_,rfl,?_⟩;refine .inr (.inr (.inr (.inl ⟨_,rfl,ro,rdx,_,rfl,er4,rfl,_,rfl,_,rfl,_,rfl,ro,rdx,fl,.ref a,.ref l,n,(w4 h ks c es sh).map fun(k:Nat)=>(k:Int),rfl,er4,ef5,wne,by rw[length_map];lia,fun H5 s5 er5=>?_⟩)))
  have ntr:∀{T:Addr},(∃ ps,H4 T=some (.tbl ps))->T≠ro:=fun⟨ps,hp⟩ y=>by rw[y,er4] at hp;cases hp
  have sT:∀{T:Addr}{pos:Pos}{qn:Str},F5 H4 T pos qn->F5 H5 T pos qn:=fun {T pos qn} t=>by
   have nt:=ntr (C0 t)
   rcases t with t | ⟨c',t1,t2⟩
   ·exact .inl (s5 _ _ nt t)
   ·exact .inr ⟨c',s5 _ _ nt t1,s5 _ _ (fun y=>by rw[y,er4] at t2;cases t2) t2⟩
  exact⟨_,rfl,_,rfl,_,rfl,_,rfl,last _ _ (aD1 wne) .round (fun b u _ _ n3 z=>s5 b u n3 z) ⟨ru4.t.ne,sT ru4.t.f,sT ru4.t.e⟩ ⟨_,er5⟩⟩
 | first er =>
  rename_i p dx
  refine B7 ⟨_,rfl,?_⟩;exact .inl ⟨_,rfl,p,dx,[],rfl,s14 _ _ er,rfl,_,rfl,_,rfl,_,rfl,.ref p,.ref a,.ref l,fl,_,rfl,ef5,wne,⟨_,rfl,_,rfl,_,rfl,_,rfl,last _ _ hd0 .first (fun b u _ _ _ z=>z) ru4.t ro4⟩⟩
 | full er =>
  rename_i p dx
  refine B7 ⟨_,rfl,?_⟩;obtain⟨g1,g2,g3⟩:=asG (G:=H4) (fun b u z=>z);refine .inr (.inl ⟨_,rfl,p,dx,[],rfl,s14 _ _ er,rfl,_,rfl,_,rfl,_,rfl,.ref p,a,l,fl,h,as,ks,_,rfl,g1,ok,g2,g3,hin,by lia,ef5,wne,hb,ru4.t.f,fun j x G' hj bst but tab=>?_⟩)
  refine⟨_,rfl,_,rfl,_,rfl,_,rfl,last x _ (List.mem_of_getElem? hj) (.full hj bst) (fun b u n1 _ _ z=>but b u n1 z) ⟨ru4.t.ne,tab,aI8 but (Ne.symm ru4.t.ne) (C0 ru4.t.f) ru4.t.e⟩ ?_⟩;exact ro4.imp fun rdx er4=>but _ _ (fun y=>by obtain⟨ps,h'⟩:=C0 ru4.t.f;rw[<- y,er4] at h';cases h') er4
 | empt er =>
  rename_i p dx
  refine B7 ⟨_,rfl,?_⟩;obtain⟨g1,g2,g3⟩:=asG (G:=H4) (fun b u z=>z);refine .inr (.inr (.inl ⟨_,rfl,p,dx,[],rfl,s14 _ _ er,rfl,_,rfl,_,rfl,_,rfl,.ref p,a,l,fl,h,as,ks,_,rfl,g1,ok,g2,g3,hin,by lia,ef5,wne,hb,ru4.t.e,fun j x G' hj bst but tab=>?_⟩))
  refine⟨_,rfl,_,rfl,_,rfl,_,rfl,last x _ (List.mem_of_getElem? hj) (.empt hj bst) (fun b u _ n2 _ z=>but b u n2 z) ⟨ru4.t.ne,aI8 but ru4.t.ne (C0 ru4.t.e) ru4.t.f,tab⟩ ?_⟩;exact ro4.imp fun rdx er4=>but _ _ (fun y=>by obtain⟨ps,h'⟩:=C0 ru4.t.e;rw[<- y,er4] at h';cases h') er4
 | told er et =>
  rename_i p dx tr ws
  refine B7 ⟨_,rfl,?_⟩;exact .inr (.inr (.inr (.inr ⟨_,rfl,p,dx,_,rfl,s14 _ _ er,rfl,_,rfl,_,rfl,_,rfl,p,dx,tr,fl,.ref a,.ref l,ws,_,rfl,s14 _ _ er,s14 _ _ et,ef5,wne,⟨_,rfl,_,rfl,_,rfl,_,rfl,last _ _ (aX5 wne) .told (fun b u _ _ _ z=>z) ru4.t ro4⟩⟩)))
end
def Q1 (x y:V):Prop:=(x=.non/\y=.non)\/∃ i:Int,x=.int i/\y=.int i
def O0 (H:Hp):Nat->V->V->Prop
 | 0,x,y=>Q1 x y
 | n + 1,x,y=>Q1 x y\/∃(p q:Addr)(xs ys:List V),x=.ref p/\y=.ref q/\((H p=some (.lst xs)/\H q=some (.lst ys))\/(H p=some (.tup xs)/\H q=some (.tup ys)))/\Paired (O0 H n) xs ys/\xs.length<=1000
def W8 (n:Nat):Sp:=fun vs H Q _=>∃ x y,vs=[x,y]/\O0 H n x y/\Q (.bl true) H
theorem Q1.at {H:Hp}{n:Nat}{x y:V}(h:Q1 x y):O0 H n x y:=by
 cases n with
 | zero=>exact h
 | succ n=>exact .inl h
theorem S4 {H:Hp}{n:Nat}:∀ ns:List Int,Paired (O0 H n) (ns.map V.int) (ns.map V.int)
 | []=>.nil
 | i::t=>.cons (Q1.at (.inr ⟨i,rfl,rfl⟩)) (S4 t)
section
variable {P:Program}{w:World}{K:Frag}{mg:Str->Option Value}{base:Heap}
theorem as8 {x:Str}{st:Stmt}{ps:List Str}(D:Def K mg x st ps)(k:Nat):Callee P w K mg base k x ps (fun _ _ _ _=>False):=by
 obtain⟨f,fd,F,b,m⟩:=D.ex;exact⟨f,fd,⟨fun _ _ _ _ h=>h.elim,fun _ _ _ _ _ _ _ _ _ _ _ _ _ h=>h.elim⟩,b,F.kp,m⟩
theorem X6:FnScope ["_law_found","_law_due_here","_law_k"] ["_law_found","_law_due_here"] (d7 (top 50)):=mkF
theorem ag8 (T:Txt K mg)(n:Nat)(sp:Sp)(aI:Callee P w K mg base n "_law_alike" ["_law_found","_law_due_here"] sp)(D:Def K mg "_law_alike" (top 50) ["_law_found","_law_due_here"])(hsp:∀ m,n=m + 1->sp=W8 m):Callee P w K mg base (n+1) "_law_alike" ["_law_found","_law_due_here"] (W8 n):=by
 refine D.ok X6 (fun vs H Q E h=>?_) (fun f cdv A outer s H vs Q E hr h=>?_)
 ·obtain⟨x,y,rfl,_⟩:=h
  rfl
 obtain⟨x,y,rfl,hA,q⟩:=h
 refine⟨_,(g6 (m7 (i4 O7 (pv 1) t9 (j5 _)) (g9 (i7 (J7 O7 (pv 0) t9 (j5 _)))) j7)
  (g6 (m7 (B3 K (i8 (A7 K) rfl T.ax boot_isinstance (b8 (pv 1) (b8 (L5 (v:=.ty "int") rfl T.lL boot_int rfl) d8 b9) b9)) (fun _=>rfl)) (g9 (i7 (P9 (i8 (A7 K) rfl T.ax boot_isinstance (b8 (pv 0) (b8 (L5 (v:=.ty "int") rfl T.lL boot_int rfl) d8 b9) b9)) (P9 (aZ1 (i8 (A7 K) rfl T.ax boot_isinstance (b8 (pv 0) (b8 (L5 (v:=.ty "bool") rfl T.lM boot_bool rfl) d8 b9) b9))) (R6 (J7 B2 (pv 0) (pv 1) (j5 _))))))) j7)
  (g6 (m7 (B3 K (i8 (A7 K) rfl T.ax boot_isinstance (b8 (pv 1) (b8 (L5 (v:=.ty "tuple") rfl T.eN boot_tuple rfl) d8 b9) b9)) (fun _=>rfl)) (g9 (m7 (N0 (B3 K (i8 (A7 K) rfl T.ax boot_isinstance (b8 (pv 0) (b8 (L5 (v:=.ty "tuple") rfl T.eN boot_tuple rfl) d8 b9) b9)) (fun _=>rfl))) (g9 (i7 P6)) j7)) (g9 (m7 (N0 (B3 K (i8 (A7 K) rfl T.ax boot_isinstance (b8 (pv 0) (b8 (L5 (v:=.ty "list") rfl T.cY boot_list rfl) d8 b9) b9)) (fun _=>rfl))) (g9 (i7 P6)) j7)))
  (g6 (m7 (i4 ap3 (i8 (y0 K) rfl T.cz boot_len (b8 (pv 0) d8 b9)) (i8 (y0 K) rfl T.cz boot_len (b8 (pv 1) d8 b9)) (j5 _)) (g9 (i7 P6)) j7)
  (g6 (B0 PassesOwn.never rfl (D6 rfl T.bW (b8 (i8 (y0 K) rfl T.cz boot_len (b8 (pv 1) d8 b9)) d8 n6)) (m5 (i:=2) X6.nd rfl (Or.inl rfl))
  (g9 (m7 (N0 (B3 K (m9 aI hr rfl (b8 (j3 aV2 (pv 0) (pv 2) (fun _ _=>rfl)) (b8 (j3 aV2 (pv 1) (pv 2) (fun _ _=>rfl)) d8 x6) x6) (Nat.le_refl _)) (fun _=>rfl))) (g9 (i7 P6)) j7)))
  (g9 (i7 P6))))))),?_⟩
 have hB:Q1 x y\/∃ m,n=m + 1/\∃(p q:Addr)(xs ys:List V),x=.ref p/\y=.ref q/\((H p=some (.lst xs)/\H q=some (.lst ys))\/(H p=some (.tup xs)/\H q=some (.tup ys)))/\Paired (O0 H m) xs ys/\xs.length<=1000:=by
  cases n with
  | zero=>exact .inl hA
  | succ m=>exact hA.imp id fun z=>⟨m,rfl,z⟩
 rcases hB with(⟨rfl,rfl⟩ | ⟨i,rfl,rfl⟩) | ⟨m,rfl,p,r,xs,ys,rfl,rfl,hk,hp,h1000⟩
 ·exact⟨_,rfl,rfl,_,rfl,M1 ⟨_,rfl,rfl,q⟩⟩
 ·refine⟨_,rfl,rfl,_,rfl,B7 ?_⟩
  refine⟨_,rfl,_,_,_,true,rfl,.int i,U2,true,rfl,M1 ?_⟩;refine⟨_,rfl,_,_,_,true,rfl,.int i,U2,_,rfl,M1 ?_⟩;refine⟨_,rfl,_,_,_,false,rfl,.int i,aa9,_,rfl,_,rfl,M1 ?_⟩;refine⟨_,rfl,_,rfl,rfl,?_⟩;rw[decide_eq_true rfl];exact q
 ·obtain rfl:=hsp m rfl
  have ln:=Paired.length hp;refine⟨_,rfl,rfl,_,rfl,B7 ?_⟩
  rcases hk with⟨k1,k2⟩ | ⟨k1,k2⟩
  ·refine⟨_,rfl,_,_,_,false,rfl,.lst k2,az1,false,rfl,B7 ?_⟩
   refine⟨_,rfl,_,_,_,false,rfl,.lst k2,ad4,false,rfl,B7 ?_⟩;refine⟨_,rfl,_,_,_,true,rfl,.lst k1,ae0,true,rfl,B7 ?_⟩;refine⟨_,rfl,p,_,rfl,.inl (SqL.of k1),_,rfl,r,_,rfl,.inl (SqL.of k2),rfl,_,rfl,ab7 (by simp[ln]) ?_⟩
   refine⟨_,rfl,r,_,rfl,.inl (SqL.of k2),_,rfl,by lia,by lia,?_⟩
   rw[Int.toNat_natCast];refine D8 (fun i σ H'=>H'=H/\∃ v,σ=[some (.ref p),some (.ref r),v]) ⟨rfl,_,rfl⟩ ?_ ?_
   ·rintro i σ H' hi ⟨rfl,v,rfl⟩
    rw[Int.zero_add];have ex:xs[i]? = some (xs[i]'(by lia)):=List.getElem?_eq_getElem (by lia)
    obtain⟨y,ey,al⟩:=j8 hp i _ ex;refine⟨_,rfl,_,rfl,.inl ⟨p,_,_,_,rfl,rfl,SqL.of k1,A0 ex,_,rfl,_,rfl,.inl ⟨r,_,_,_,rfl,rfl,SqL.of k2,A0 ey,_,_,rfl,al,_,rfl,B7 ⟨rfl,_,rfl⟩⟩⟩⟩
   ·rintro σ H' ⟨rfl,v,rfl⟩
    exact q
  ·refine⟨_,rfl,_,_,_,false,rfl,.tup k2,av6,false,rfl,B7 ?_⟩
   refine⟨_,rfl,_,_,_,true,rfl,.tup k2,U3,true,rfl,M1 ?_⟩;refine⟨_,rfl,_,_,_,true,rfl,.tup k1,U3,true,rfl,B7 ?_⟩;refine⟨_,rfl,p,_,rfl,.inr (SqT.of k1),_,rfl,r,_,rfl,.inr (SqT.of k2),rfl,_,rfl,ab7 (by simp[ln]) ?_⟩
   refine⟨_,rfl,r,_,rfl,.inr (SqT.of k2),_,rfl,by lia,by lia,?_⟩
   rw[Int.toNat_natCast];refine D8 (fun i σ H'=>H'=H/\∃ v,σ=[some (.ref p),some (.ref r),v]) ⟨rfl,_,rfl⟩ ?_ ?_
   ·rintro i σ H' hi ⟨rfl,v,rfl⟩
    rw[Int.zero_add];have ex:xs[i]? = some (xs[i]'(by lia)):=List.getElem?_eq_getElem (by lia)
    obtain⟨y,ey,al⟩:=j8 hp i _ ex;refine⟨_,rfl,_,rfl,.inr (.inl ⟨p,_,_,_,rfl,rfl,SqT.of k1,A0 ex,_,rfl,_,rfl,.inr (.inl ⟨r,_,_,_,rfl,rfl,SqT.of k2,A0 ey,_,_,rfl,al,_,rfl,B7 ⟨rfl,_,rfl⟩⟩)⟩)⟩
   ·rintro σ H' ⟨rfl,v,rfl⟩
    exact q
theorem ai8 (T:Txt K mg)(D:Def K mg "_law_alike" (top 50) ["_law_found","_law_due_here"]):∀ n,Callee P w K mg base (n+1) "_law_alike" ["_law_found","_law_due_here"] (W8 n)
 | 0=>ag8 T 0 _ (as8 D 0) D fun m h=>nomatch h
 | n + 1=>ag8 T (n + 1) _ (ai8 T D n) D fun m h=>by cases h;rfl
end
theorem ay0 {h:Hall}{k:Call}{c:Int}{es:List Int}:(A1 h k.c k.es k.k).filter (fun d=>inD (A1 h c es k.k) d)≠[]↔P0 h (c / h.c) (m6 h es) k=true:=by
 unfold P0;rw[Bool.or_eq_true,decide_eq_true_iff,any_eq_true]
 constructor
 ·intro z
  obtain⟨d,hd⟩:=List.exists_mem_of_ne_nil _ z;obtain⟨h1,h2⟩:=List.mem_filter.mp hd;rw[af5] at h2
  rcases M2.mp h1 with rfl | ⟨e,he,rfl⟩
  ·rcases M2.mp h2 with q | ⟨e',he',q⟩
   ·left
    unfold nIn at q
    simp only[List.cons.injEq,Sum.inl.injEq] at q
    exact q.2.1
   ·unfold nIn T0 at q
    simp at q
    exact absurd q.1 (by decide)
  ·rcases M2.mp h2 with q | ⟨e',he',q⟩
   ·unfold nIn T0 at q
    simp at q
    exact absurd q.1 (by decide)
   ·right
    unfold T0 at q
    simp only[List.cons.injEq,Sum.inl.injEq] at q
    exact⟨e / h.e,S5.mpr ⟨e,he,rfl⟩,decide_eq_true (S5.mpr ⟨e',he',q.2.1.symm⟩)⟩
 ·intro z
  have:∃ d,d∈A1 h k.c k.es k.k/\d∈A1 h c es k.k:=by
   rcases z with z | ⟨r,h1,h2⟩
   ·exact⟨nIn (k.c / h.c) k.k,M2.mpr (.inl rfl),M2.mpr (.inl (by rw[z]))⟩
   ·obtain⟨e,he,q1⟩:=S5.mp h1
    obtain⟨e',he',q2⟩:=S5.mp (of_decide_eq_true h2);exact⟨T0 r k.k,M2.mpr (.inr ⟨e,he,by rw[q1]⟩),M2.mpr (.inr ⟨e',he',by rw[q2]⟩)⟩
  obtain⟨d,h1,h2⟩:=this;exact List.ne_nil_of_mem (List.mem_filter.mpr ⟨h1,af5.mpr h2⟩)
theorem al2 {H:Hp}{F:Addr}{rs:List Addr}{rows:List (List Int)}(h:t6 H rs rows)(e:H F=some (.lst (rs.map V.ref)))(hm:F∈rs):False:=by
 obtain⟨m,hm'⟩:=List.mem_iff_getElem?.mp hm;obtain⟨row,_,e2⟩:=j8 h m F hm';have e2:H F=some (.lst (row.map V.int)):=e2;rw[e] at e2
 have e3:rs.map V.ref=row.map V.int:=by
  have:=Option.some.inj e2
  exact HO.lst.inj this
 match rs,row,e3,hm with
 | x::_,[],e3,_=>simp at e3
 | x::_,y::_,e3,_=>simp at e3
def ay5 (K:Frag):Sp:=fun vs H Q _=>∃(a l e:Addr)(h:Hall)(as:List Addr)(ks:List Call)(c:Int)(es:List Int),vs=[.ref a,.ref l,.int c,.ref e]/\SqT K H a (h.row.map V.int)/\h.Ok/\SqL K H l (as.map V.ref)/\h8 H as ks/\(∀ k∈ks,k.In h)/\ks.length<=63/\(SqT K H e (es.map V.int)\/SqL K H e (es.map V.int))/\es.length<=13 /\
 ∀(f:Addr)(rs:List Addr)(H':Hp),j0 H H'->H' f=some (.lst (rs.map V.ref))->t6 H' rs (A6 h ks c es)->Q (.ref f) H'
section
variable {P:Program}{w:World}{K:Frag}{mg:Str->Option Value}{base:Heap}
theorem A8:FnScope ["_law_hall_here","_law_calls","_law_caller","_law_ends_here","_law_due_here","_law_k","_law_need","_law_held","_law_call","_law_lines_here"] ["_law_hall_here","_law_calls","_law_caller","_law_ends_here"] (d7 (top 52)):=mkF
theorem aO6 (T:Txt K mg)(gU:Callee P w K mg base 1 "_law_lines" ["_law_hall_here","_law_caller","_law_ends_here","_law_k"] (aK0 K))(D:Def K mg "_law_holds" (top 52) ["_law_hall_here","_law_calls","_law_caller","_law_ends_here"]):Callee P w K mg base 2 "_law_holds" ["_law_hall_here","_law_calls","_law_caller","_law_ends_here"] (ay5 K):=by
 refine D.ok A8 (fun vs H Q E h=>?_) (fun f cdv A outer s H vs Q E hr h=>?_)
 ·obtain⟨a,l,e,h,as,ks,c,es,rfl,_⟩:=h
  rfl
 obtain⟨a,l,e,h,as,ks,c,es,rfl,hH,ok,hL,hC,hin,h63,hE,few,q⟩:=h;have b3:=ok.m;have la:=Paired.length hC
 refine⟨_,(g6 (i0 (i:=4) A8.nd rfl (Or.inl rfl) (r6 d8))
  (g6 (B0 PassesOwn.never rfl (D6 rfl T.bW (b8 (j3 (j1 K) (pv 0) d9 (fun _ _=>rfl)) d8 x6)) (m5 (i:=5) A8.nd rfl (Or.inl rfl))
  (g6 (i0 (i:=6) A8.nd rfl (Or.inr rfl) (m9 gU hr rfl (b8 (pv 0) (b8 (pv 2) (b8 (pv 3) (b8 (pv 5) d8 b9) b9) b9) b9)))
  (g6 (i0 (i:=7) A8.nd rfl (Or.inl rfl) (r6 d8))
  (g6 (B0 PassesOwn.never rfl (o4 K (pv 1)) (m5 (i:=8) A8.nd rfl (Or.inl rfl))
  (g6 (i0 (i:=9) A8.nd rfl (Or.inl rfl) (m9 gU hr rfl (b8 (pv 0) (b8 (j3 (j1 K) (pv 8) d9 (fun _ _=>rfl)) (b8 (j3 (j1 K) (pv 8) d9 (fun _ _=>rfl)) (b8 (j3 (j1 K) (pv 8) d9 (fun _ _=>rfl)) d8 x6) x6) x6) b9)))
  (g9 (m7 (PW.pt (ar1 (i4 B2 (j3 (j1 K) (pv 8) d9 (fun _ _=>rfl)) (pv 5) (j5 _)) (ag1 (i4 (aJ7 K (aF0 aT8) (Room.units2 hr)) (B1 (own:=["_law_line"]) (fr:=[(6,"_law_need")]) rfl (show CompScope ["_law_hall_here","_law_calls","_law_caller","_law_ends_here","_law_due_here","_law_k","_law_need","_law_held","_law_call","_law_lines_here"] (d7 (top 52)) _ _ _ from⟨rfl,by decide +kernel,by decide +kernel,by decide +kernel,by decide +kernel⟩) (o4 K (pv 9)) (fun cl C s H ex=>⟨(m5 (i:=0) (show(["_law_line","_law_need"]:List Str).Nodup from by decide +kernel) rfl (Or.inl rfl) (Or.inr rfl)),(L7 (i4 (a54 K (Room.unitsT hr)) (pv 0) (pv 1) (by with_unfolding_all rfl))),(pv 0)⟩)) (r6 d8) (j5 _))))) (g9 (A4 (C4 K PySem.F.plainAttrs_list PySem.F.slot_list_append PySem.F.type_list_append x8 (pv 7) (b8 (j3 (j1 K) (pv 8) d9 (fun _ _=>rfl)) d8 x6)))) j7))))
  (g9 (A4 (C4 K PySem.F.plainAttrs_list PySem.F.slot_list_append PySem.F.type_list_append x8 (pv 4) (b8 (pv 7) d8 b9))))))))
  (g9 (i7 (pv 4))))),?_⟩
 refine⟨(by show 0<=sizeLine;decide),fun F hF=>?_⟩
 have eF:=d6 (H:=H) (a:=F) (o:=.lst []);have s1:=g7 hF (.lst []);generalize upd H F (.lst [])=H1 at eF s1 ⊢;refine⟨_,rfl,a,_,_,_,rfl,rfl,j0.seqT s1 hH,rfl,_,rfl,by show -(2 ^ 62)<=h.m;lia,by show h.m < 2 ^ 62;lia,?_⟩
 refine D8 (fun i σ H'=>j0 H H'/\(∃ rs:List Addr,H' F=some (.lst (rs.map V.ref))/\t6 H' rs ((List.range i).map (E3 h ks (c / h.c) (m6 h es))))/\∃ v5 v6 v7 v8 v9,σ=[some (.ref a),some (.ref l),some (.int c),some (.ref e),some (.ref F),v5,v6,v7,v8,v9])
  ⟨s1,⟨[],eF,.nil⟩,none,none,none,none,none,rfl⟩ ?_ ?_
 ·rintro i σ H' hi ⟨s2,⟨rs,eF2,hr2⟩,v5,v6,v7,v8,v9,rfl⟩
  rw[Int.zero_add];refine⟨_,rfl,_,rfl,_,rfl,_,rfl,a,e,h,c,(i:Int),es,rfl,j0.seqT s2 hH,ok,(hE.imp (fun z=>j0.seqT s2 z) fun z=>s2.seq z),few,fun nl nas H3 s3 hnl enl tnl=>?_⟩;refine⟨(by show 0<=sizeLine;decide),fun hd hhd=>?_⟩
  have ehd:=d6 (H:=H3) (a:=hd) (o:=.lst []);have s4:=g7 hhd (.lst []);generalize upd H3 hd (.lst [])=H4 at ehd s4 ⊢;have s24:=(s2.trans s3).trans s4;have lr:=Paired.length hr2;rw[length_map,length_range] at lr;refine⟨_,rfl,l,rfl,⟨_,s24.seq hL⟩,?_⟩
  refine B8 (xs:=as.map V.ref) (fun j σ H'=>j0 H3 H'/\H' hd=some (.lst ((E3 h (ks.take j) (c / h.c) (m6 h es) i).map V.int))/\∃ v8 v9,σ=[some (.ref a),some (.ref l),some (.int c),some (.ref e),some (.ref F),some (.int i),some (.ref nl),some (.ref hd),v8,v9])
   ⟨s4,ehd,_,_,rfl⟩ (fun j σ H' _ gg=>((s2.trans s3).trans gg.1).seq hL) ?_ ?_
  ·rintro j x σ H' hx ⟨s5,ehd5,v8,v9,rfl⟩
   rw[List.getElem?_map] at hx;obtain⟨p,hp,rfl⟩:=Option.map_eq_some_iff.mp hx;obtain⟨k,hk1,hk2⟩:=j8 hC j p hp;have hkI:=hin k (List.mem_of_getElem? hk1);have tk:ks.take (j + 1)=ks.take j++[k]:=by rw[take_succ,hk1];rfl
   have s25:=(s2.trans s3).trans s5;obtain⟨ce,e1,e2⟩:=B9.same (fun b xs z=>s25 _ _ z) hk2;have kf:=hkI.few;refine⟨_,rfl,_,rfl,p,_,_,_,rfl,rfl,SqT.of e2,rfl,_,rfl,p,_,_,_,rfl,rfl,SqT.of e2,rfl,_,rfl,p,_,_,_,rfl,rfl,SqT.of e2,rfl,a,ce,h,k.c,k.k,k.es,rfl,j0.seqT s25 hH,ok,.inl (SqT.of e1),Nat.le_succ_of_le kf,fun ll las H6 s6 hll ell tll=>?_⟩;have e26:=s6 _ _ e2;refine⟨_,rfl,p,_,_,_,rfl,rfl,SqT.of e26,rfl,_,rfl,rfl,_,rfl,?_⟩;have ehd6:=s6 _ _ ehd5;have s36:=s5.trans s6;have lnl:=Paired.length tll;have ll2:=aO5 h k.c k.es k.k;have tn6:=P4.same (fun b xs z=>s36 _ _ z) tnl
   have skip:(decide (k.k=(i:Int))&&P0 h (c / h.c) (m6 h es) k)=false->E3 h (ks.take (j + 1)) (c / h.c) (m6 h es) i=E3 h (ks.take j) (c / h.c) (m6 h es) i:=fun z=>by
    rw[tk,X0,if_neg (by rw[z];exact Bool.false_ne_true),append_nil]
   refine z8 (fun cc=>?_) (fun cc=>?_)
   ·have cc':k.k=(i:Int):=by simpa using cc
    rw[<- cc'] at tn6;refine⟨_,rfl,ll,rfl,⟨_,SqL.of ell⟩,?_⟩
    refine x9 (xs:=las.map V.ref) (fun m acc σ H''=>H''=H6/\(∃ bs,acc=bs.map V.ref/\P4 H6 bs (((A1 h k.c k.es k.k).take m).filter fun d=>inD (A1 h c es k.k) d))/\∃ v,σ=[v,some (.ref nl)])
     ⟨rfl,⟨[],rfl,.nil⟩,none,rfl⟩ (Nat.le_of_lt (j6 (by rw[length_map];lia))) (fun m acc σ H'' g=>?_) (fun m acc σ H'' _ g=>by rw[g.1];exact SqL.of ell) ?_ ?_
    ·obtain⟨_,⟨bs,rfl,hb⟩,_⟩:=g
     have:=Paired.length hb
     rw[length_map,this];exact Nat.le_trans (length_filter_le _ _) (by rw[length_take];lia)
    ·rintro m y acc σ H'' hy ⟨rfl,⟨bs,rfl,hb⟩,v,rfl⟩
     rw[List.getElem?_map] at hy;obtain⟨x,hx,rfl⟩:=Option.map_eq_some_iff.mp hy;obtain⟨d,hd1,hd2⟩:=j8 tll m x hx
     have step:((A1 h k.c k.es k.k).take (m + 1)).filter (fun d=>inD (A1 h c es k.k) d)=((A1 h k.c k.es k.k).take m).filter (fun d=>inD (A1 h c es k.k) d)++(if inD (A1 h c es k.k) d=true then [d] else []):=by
      rw[take_succ,hd1,filter_append]
      by_cases c:inD (A1 h c es k.k) d=true
      ·rw[if_pos c]
       simp[c]
      ·rw[if_neg c]
       simp[c]
     refine⟨_,rfl,_,rfl,nl,x,nas,d,A1 h c es k.k,rfl,rfl,SqL.of (s36 _ _ enl),SqT.of hd2,E6 tn6 (fun _ _ _ z=>SqT.of z),_,rfl,?_⟩;refine z8 (fun cd=>?_) (fun cd=>?_)
     ·refine⟨_,rfl,rfl,⟨bs++[_],by rw[map_append];rfl,?_⟩,_,rfl⟩
      rw[step,if_pos (show inD (A1 h c es k.k) d=true from cd)];exact Paired.snoc hb hd2
     ·refine⟨rfl,⟨bs,rfl,?_⟩,_,rfl⟩
      rw[step,if_neg (show ¬ inD (A1 h c es k.k) d=true from cd),append_nil];exact hb
    rintro acc σ H'' ⟨rfl,⟨bs,rfl,hb⟩,v,rfl⟩ l5 hl5
    rw[length_map,lnl,take_length] at hb;have el5:=d6 (H:=H'') (a:=l5) (o:=.lst (bs.map V.ref));have s10:=g7 hl5 (.lst (bs.map V.ref));generalize upd H'' l5 (.lst (bs.map V.ref))=H10 at el5 s10 ⊢;refine⟨(by show 0<=sizeLine;decide),fun o ho=>?_⟩
    have eo:=d6 (H:=H10) (a:=o) (o:=.lst []);have s11:=g7 ho (.lst []);generalize upd H10 o (.lst [])=H11 at eo s11 ⊢;have sA:=s10.trans s11;have ehdA:=sA _ _ ehd6;have e2A:=sA _ _ e26;refine⟨_,[],⟨l5,_,rfl,SqL.of (s11 _ _ el5),Z8 (P4.same (fun b xs q=>sA _ _ q) hb)⟩,⟨o,[],rfl,SqL.of eo,.nil⟩,_,rfl,?_⟩;refine z8 (fun c2=>?_) (fun c2=>?_)
    ·have c3:(A1 h k.c k.es k.k).filter (fun d=>inD (A1 h c es k.k) d)≠[]:=by simpa using c2
     have c4:=ay0.mp c3;have hlen:=aa1 h (ks.take j) (c / h.c) (m6 h es) i;have hl2:(ks.take j).length<=ks.length:=by rw[length_take];lia
     refine⟨_,rfl,.inl ⟨rfl,_,SqL.of ehdA⟩,_,rfl,p,_,_,_,rfl,rfl,SqT.of e2A,rfl,hd,_,_,rfl,rfl,ehdA,j6 (by rw[length_map];lia),?_⟩
     refine⟨j0.put (s36.trans sA) hhd,?_,_,_,rfl⟩;rw[d6,tk,X0,if_pos (by rw[decide_eq_true cc',c4];rfl),map_append]
     rfl
    ·have c3:(A1 h k.c k.es k.k).filter (fun d=>inD (A1 h c es k.k) d)=[]:=by simpa using c2
     have c4:P0 h (c / h.c) (m6 h es) k=false:=Bool.eq_false_iff.mpr fun z=>ay0.mpr z c3;refine⟨s36.trans sA,?_,_,_,rfl⟩;rw[skip (by rw[c4,Bool.and_false])]
     exact ehdA
   ·have cc':¬ k.k=(i:Int):=by simpa using cc
    refine⟨s36,?_,_,_,rfl⟩;rw[skip (by rw[decide_eq_false cc'];rfl)]
    exact ehd6
  ·rintro σ H' ⟨s5,ehd5,v8,v9,rfl⟩
   rw[length_map,la,take_length] at ehd5;have s25:=(s2.trans s3).trans s5;have eF5:=s5 _ _ (s3 _ _ eF2);refine⟨_,rfl,.inl ⟨rfl,_,SqL.of eF5⟩,_,rfl,F,_,_,rfl,rfl,eF5,j6 (by rw[length_map,lr];lia),?_⟩
   have hFd:hd≠F:=fun z=>by rw[z] at hhd;rw[s3 _ _ eF2] at hhd;cases hhd
   refine⟨j0.put s25 hF,⟨rs++[hd],by rw[d6,map_append];rfl,?_⟩,_,_,_,_,_,rfl⟩
   rw[range_succ,map_append];refine Paired.snoc (t6.other (t6.same (s3.trans s5) hr2) fun z=>?_) ?_
   ·exact al2 (t6.same (s3.trans s5) hr2) eF5 z
   ·show upd H' F _ hd=_
    rw[h7 hFd];exact ehd5
 ·rintro σ H' ⟨s2,⟨rs,eF2,hr2⟩,v5,v6,v7,v8,v9,rfl⟩
  exact⟨_,rfl,q F rs H' s2 eF2 hr2⟩
end
structure KindOk (K:Frag)(C CH:Addr)(cs:List Addr)(bs:List Bool)(j:Nat):Prop where
 x:ExcX K C
 hall:kitOne K (.ref C) (.ref CH)=some true
 val:kitOne K (.ref C) (.type "ValueError")=some true
 each:Paired (fun D b=>kitOne K (.ref C) (.ref D)=some b) cs bs
 one:bs.count true=1
 at_:bs[j]? = some true
 no:∀ m < j,bs[m]? = some (!true)
 few:j<=1000
def aD3 (K:Frag)(CH:Addr)(cs:List Addr):Sp:=fun vs H Q _=>∃(ea C:Addr)(od:Option Addr)(bs:List Bool)(j:Nat),vs=[.ref ea]/\H ea=some (Q0 ea C od)/\KindOk K C CH cs bs j/\∀ H',j0 H H'->Q (.int (j:Nat)) H'
section
variable {P:Program}{w:World}{K:Frag}{mg:Str->Option Value}{base:Heap}{aw ah ae aj av ad aq ao af ar ap am aa au:Addr}
theorem O2:FnScope ["_law_e","_law_some"] ["_law_e"] (d7 (top 51)):=mkF
theorem a05 (T:Txt K mg)(Z:TxtC K mg aw ah ae aj av ad aq ao af ar ap am aa au)(D:Def K mg "_law_kind" (top 51) ["_law_e"]):Callee P w K mg base 1 "_law_kind" ["_law_e"] (aD3 K ad [af,am,aa,ap,ar,au,aq,ao]):=by
 refine D.ok O2 (fun vs H Q E h=>?_) (fun f cdv A outer s H vs Q E hr h=>?_)
 ·obtain⟨ea,C,od,bs,j,rfl,_⟩:=h
  rfl
 obtain⟨ea,C,od,bs,j,rfl,he,ko,q⟩:=h
 obtain⟨b0,b1,b2,b3,b4,b5,b6,b7,rfl,k0,k1,k2,k3,k4,k5,k6,k7⟩:∃ b0 b1 b2 b3 b4 b5 b6 b7,bs=[b0,b1,b2,b3,b4,b5,b6,b7]/\kitOne K (.ref C) (.ref af)=some b0/\kitOne K (.ref C) (.ref am)=some b1/\kitOne K (.ref C) (.ref aa)=some b2/\kitOne K (.ref C) (.ref ap)=some b3 /\
   kitOne K (.ref C) (.ref ar)=some b4/\kitOne K (.ref C) (.ref au)=some b5/\kitOne K (.ref C) (.ref aq)=some b6/\kitOne K (.ref C) (.ref ao)=some b7:=by
  have:=ko.each
  match bs,this with
  | _,.cons a0 (.cons a1 (.cons a2 (.cons a3 (.cons a4 (.cons a5 (.cons a6 (.cons a7 .nil)))))))=>exact⟨_,_,_,_,_,_,_,_,rfl,a0,a1,a2,a3,a4,a5,a6,a7⟩
 have rr:∀{D:Addr}(u:Value),o5 (.ref D) u->u=.ref D:=fun {D} u h=>h
 refine⟨_,(g6 (i0 (i:=1) O2.nd rfl (Or.inl rfl) (r6 (b8 (i8 (y6 K) rfl T.ax boot_isinstance (b8 (pv 0) (b8 (O1 (v:=.ref af) rfl Z.lu rfl) d8 b9) b9)) (b8 (i8 (y6 K) rfl T.ax boot_isinstance (b8 (pv 0) (b8 (O1 (v:=.ref am) rfl Z.mf rfl) d8 b9) b9)) (b8 (i8 (y6 K) rfl T.ax boot_isinstance (b8 (pv 0) (b8 (O1 (v:=.ref aa) rfl Z.kI rfl) d8 b9) b9)) d8 n6) n6) n6)))
  (g6 (i0 (i:=1) O2.nd rfl (Or.inl rfl) (i5 U0 (pv 1) (r6 (b8 (i8 (y6 K) rfl T.ax boot_isinstance (b8 (pv 0) (b8 (O1 (v:=.ref ap) rfl Z.md rfl) d8 b9) b9)) (b8 (i8 (y6 K) rfl T.ax boot_isinstance (b8 (pv 0) (b8 (O1 (v:=.ref ar) rfl Z.lw rfl) d8 b9) b9)) (b8 (i8 (y6 K) rfl T.ax boot_isinstance (b8 (pv 0) (b8 (O1 (v:=.ref au) rfl Z.lx rfl) d8 b9) b9)) d8 n6) n6) n6))))
  (g6 (i0 (i:=1) O2.nd rfl (Or.inl rfl) (i5 U0 (pv 1) (r6 (b8 (i8 (y6 K) rfl T.ax boot_isinstance (b8 (pv 0) (b8 (O1 (v:=.ref aq) rfl Z.lq rfl) d8 b9) b9)) (b8 (i8 (y6 K) rfl T.ax boot_isinstance (b8 (pv 0) (b8 (O1 (v:=.ref ao) rfl Z.kH rfl) d8 b9) b9)) d8 n6) n6))))
  (g6 (m7 (PW.pt (aA4 (N0 (B3 K (i8 (y6 K) rfl T.ax boot_isinstance (b8 (pv 0) (b8 (O1 (v:=.ref ad) rfl Z.eO rfl) d8 b9) b9)) (fun _=>rfl))) (aA4 (N0 (B3 K (i8 (y6 K) rfl T.ax boot_isinstance (b8 (pv 0) (b8 (L5 (v:=.ty "ValueError") rfl T.m_ValueError ae8 rfl) d8 b9) b9)) (fun _=>rfl))) (as9 (i4 ap3 (C4 K PySem.F.plainAttrs_list PySem.F.slot_list_count PySem.F.type_list_count aS0 (pv 1) (b8 P6 d8 m4)) d9 (j5 _)))))) (g9 (i7 (aW8 aH4 d9))) j7)
  (g9 (i7 (C4 K PySem.F.plainAttrs_list PySem.F.slot_list_index PySem.F.type_list_index aP5 (pv 1) (b8 P6 d8 m4)))))))),?_⟩
 refine⟨_,rfl,ea,C,od,_,_,b0,rfl,rr,he,ko.x,k0,?_⟩;refine⟨_,rfl,ea,C,od,_,_,b1,rfl,rr,he,ko.x,k1,?_⟩;refine⟨_,rfl,ea,C,od,_,_,b2,rfl,rr,he,ko.x,k2,?_⟩;refine⟨(by show 3<=sizeLine;decide),fun p1 hp1=>?_⟩
 have s1:=g7 hp1 (.lst [.bl b0,.bl b1,.bl b2]);have e1:=d6 (H:=H) (a:=p1) (o:=.lst [.bl b0,.bl b1,.bl b2]);generalize upd H p1 (.lst [.bl b0,.bl b1,.bl b2])=H1 at s1 e1 ⊢;have he1:=s1 _ _ he;refine⟨_,rfl,?_⟩;refine⟨_,rfl,ea,C,od,_,_,b3,rfl,rr,he1,ko.x,k3,?_⟩;refine⟨_,rfl,ea,C,od,_,_,b4,rfl,rr,he1,ko.x,k4,?_⟩;refine⟨_,rfl,ea,C,od,_,_,b5,rfl,rr,he1,ko.x,k5,?_⟩;refine⟨(by show 3<=sizeLine;decide),fun p2 hp2=>?_⟩
 have s2:=g7 hp2 (.lst [.bl b3,.bl b4,.bl b5]);have e2:=d6 (H:=H1) (a:=p2) (o:=.lst [.bl b3,.bl b4,.bl b5]);generalize upd H1 p2 (.lst [.bl b3,.bl b4,.bl b5])=H2 at s2 e2 ⊢;refine⟨p1,p2,_,_,rfl,rfl,s2 _ _ e1,e2,(by show 6<=sizeLine;decide),fun p3 hp3=>?_⟩
 have s3:=g7 hp3 (.lst ([.bl b0,.bl b1,.bl b2]++[.bl b3,.bl b4,.bl b5]));have e3:=d6 (H:=H2) (a:=p3) (o:=.lst ([.bl b0,.bl b1,.bl b2]++[.bl b3,.bl b4,.bl b5]));generalize upd H2 p3 (.lst ([.bl b0,.bl b1,.bl b2]++[.bl b3,.bl b4,.bl b5]))=H3 at s3 e3 ⊢;have he3:=s3 _ _ (s2 _ _ he1);refine⟨_,rfl,?_⟩;refine⟨_,rfl,ea,C,od,_,_,b6,rfl,rr,he3,ko.x,k6,?_⟩;refine⟨_,rfl,ea,C,od,_,_,b7,rfl,rr,he3,ko.x,k7,?_⟩;refine⟨(by show 2<=sizeLine;decide),fun p4 hp4=>?_⟩
 have s4:=g7 hp4 (.lst [.bl b6,.bl b7]);have e4:=d6 (H:=H3) (a:=p4) (o:=.lst [.bl b6,.bl b7]);generalize upd H3 p4 (.lst [.bl b6,.bl b7])=H4 at s4 e4 ⊢;refine⟨p3,p4,_,_,rfl,rfl,s4 _ _ e3,e4,(by show 8<=sizeLine;decide),fun p5 hp5=>?_⟩
 have s5:=g7 hp5 (.lst (([.bl b0,.bl b1,.bl b2]++[.bl b3,.bl b4,.bl b5])++[.bl b6,.bl b7]));have e5:=d6 (H:=H4) (a:=p5) (o:=.lst (([.bl b0,.bl b1,.bl b2]++[.bl b3,.bl b4,.bl b5])++[.bl b6,.bl b7]));generalize upd H4 p5 (.lst (([.bl b0,.bl b1,.bl b2]++[.bl b3,.bl b4,.bl b5])++[.bl b6,.bl b7]))=H5 at s5 e5 ⊢;have he5:=s5 _ _ (s4 _ _ he3);have s15:=s1.trans (s2.trans (s3.trans (s4.trans s5)));have e5':H5 p5=some (.lst ([b0,b1,b2,b3,b4,b5,b6,b7].map V.bl)):=e5;refine⟨_,rfl,ea,C,od,_,_,true,rfl,rr,he5,ko.x,ko.hall,_,rfl,B7 ?_⟩;refine⟨_,rfl,ea,C,od,_,_,true,rfl,(fun u h=>h),he5,ko.x,ko.val,_,rfl,B7 ?_⟩;refine⟨_,rfl,.inl ⟨rfl,_,SqL.of e5'⟩,p5,true,_,rfl,rfl,e5',rfl,_,rfl,ab7 (by rw[ko.one];decide) ?_⟩
 exact⟨_,rfl,.inl ⟨rfl,_,SqL.of e5'⟩,p5,true,_,j,rfl,rfl,e5',ko.at_,ko.no,ko.few,q _ s15⟩
end
def aK6 (h:Hall)(ks:List Call)(c:Int)(es:List Int)(sh:Int)(i:Nat)(v:V):Prop :=
 (v=.non/\∀ k∈w5 h sh,¬ k < i)\/∃ k:Nat,v=.int (k:Int)/\k < i/\k∈w5 h sh/\∀ k'∈w5 h sh,k' < i->X1 h ks c es k<=X1 h ks c es k'/\(k' < k->X1 h ks c es k < X1 h ks c es k')
def aZ3 (K:Frag):Sp:=fun vs H Q _=>∃(a L:Addr)(rs:List Addr)(h:Hall)(ks:List Call)(c:Int)(es:List Int)(sh:Int),vs=[.ref a,.ref L,.int sh]/\SqT K H a (h.row.map V.int)/\h.Ok/\H L=some (.lst (rs.map V.ref))/\t6 H rs (A6 h ks c es) /\
 (w5 h sh=[]->Q .non H)/\∀ k ra,ac7 h ks c es sh k->H ra=some (.lst ((E3 h ks (c / h.c) (m6 h es) k).map V.int))->Q (.ref ra) H
def aM4 (K:Frag):Sp:=fun vs H Q _=>∃(l e:Addr)(as:List Addr)(ks:List Call)(c:Int)(es:List Int),vs=[.ref l,.int c,.ref e]/\SqL K H l (as.map V.ref)/\h8 H as ks/\(SqT K H e (es.map V.int)\/SqL K H e (es.map V.int))/\es.length < 64 /\
 (∀ H',j0 H H'->N6 ks c es->Q .non H')/\∀(w:Int)(H':Hp),j0 H H'->E9 ks c es w->Q (.int w) H'
section
variable {P:Program}{w:World}{K:Frag}{mg:Str->Option Value}{base:Heap}{aw ah ae aj av ad aq ao af ar ap am aa au:Addr}
theorem N8:FnScope ["_law_hall_here","_law_kept","_law_halted","_law_best_here","_law_k"] ["_law_hall_here","_law_kept","_law_halted"] (d7 (top 53)):=mkF
theorem a71 (T:Txt K mg)(D:Def K mg "_law_best" (top 53) ["_law_hall_here","_law_kept","_law_halted"]):Callee P w K mg base 1 "_law_best" ["_law_hall_here","_law_kept","_law_halted"] (aZ3 K):=by
 refine D.ok N8 (fun vs H Q E h=>?_) (fun f cdv A outer s H vs Q E hr h=>?_)
 ·obtain⟨a,L,rs,h,ks,c,es,sh,rfl,_⟩:=h
  rfl
 obtain⟨a,L,rs,h,ks,c,es,sh,rfl,hH,ok,hL,hrows,qN,q⟩:=h;have b3:=ok.m
 refine⟨_,(g6 (i0 (i:=3) N8.nd rfl (Or.inl rfl) t9)
  (g6 (B0 PassesOwn.never rfl (D6 rfl T.bW (b8 (j3 (j1 K) (pv 0) d9 (fun _ _=>rfl)) d8 x6)) (m5 (i:=4) N8.nd rfl (Or.inl rfl))
  (g9 (m7 (i4 B2 (i5 aH8 (i5 aF9 (pv 2) (pv 4)) d9) d9 (j5 _)) (g9 (m7 (PW.pt (aA4 (i4 O7 (pv 3) t9 (j5 _)) (as9 (i4 aK4 (i8 (y0 K) rfl T.cz boot_len (b8 (j3 (m3 K) (pv 1) (pv 4) (fun _ _=>rfl)) d8 x6)) (i8 (y0 K) rfl T.cz boot_len (b8 (j3 (m3 K) (pv 1) (pv 3) (fun _ _=>rfl)) d8 x6)) (j5 _))))) (g9 (i0 (i:=3) N8.nd rfl (Or.inl rfl) (pv 4))) j7)) j7)))
  (g6 (m7 (i4 O7 (pv 3) t9 (j5 _)) (g9 (i7 t9)) j7)
  (g9 (i7 (j3 (m3 K) (pv 1) (pv 3) (fun _ _=>rfl))))))),?_⟩
 have lr:=Paired.length hrows;unfold A6 at lr;rw[T7] at lr
 have rowAt:∀ k:Nat,k < h.m.toNat->∃ ra,atI (rs.map V.ref) (k:Int)=some (.ref ra)/\H ra=some (.lst ((E3 h ks (c / h.c) (m6 h es) k).map V.int)):=fun k hk=>by
  have ea:rs[k]? = some (rs[k]'(by lia)):=List.getElem?_eq_getElem _
  obtain⟨row,w1,w2⟩:=j8 hrows k _ ea
  have w1':row=E3 h ks (c / h.c) (m6 h es) k:=by
   unfold A6 F3 at w1;rw[List.getElem?_map,List.getElem?_range hk] at w1;exact(Option.some.inj w1).symm
  rw[w1'] at w2;exact⟨_,A0 (by rw[List.getElem?_map,ea];rfl),w2⟩
 have lenE:∀ k:Nat,((((E3 h ks (c / h.c) (m6 h es) k).map V.int).length:Nat):Int)=((X1 h ks c es k:Nat):Int):=fun k=>by
  unfold X1;rw[length_map]
 have memO:∀ i:Nat,i < h.m.toNat->(i∈w5 h sh↔D9 sh i=true):=fun i hi=>by
  unfold w5;rw[List.mem_filter,List.mem_range];exact⟨fun z=>z.2,fun z=>⟨hi,z⟩⟩
 refine⟨_,rfl,a,_,_,_,rfl,rfl,hH,rfl,_,rfl,by show -(2 ^ 62)<=h.m;lia,by show h.m < 2 ^ 62;lia,?_⟩
 refine D8 (fun i σ H'=>H'=H/\∃ v3 v4,aK6 h ks c es sh i v3/\σ=[some (.ref a),some (.ref L),some (.int sh),some v3,v4])
  ⟨rfl,.non,none,.inl ⟨rfl,fun k _ z=>absurd z (Nat.not_lt_zero _)⟩,rfl⟩ ?_ ?_
 ·rintro i σ H' hi ⟨rfl,v3,v4,ht,rfl⟩
  rw[Int.zero_add];refine⟨_,rfl,_,rfl,_,_,rfl,rfl,by lia,_,_,rfl,rfl,rfl,_,rfl,?_⟩
  have stay:¬ i∈w5 h sh->aK6 h ks c es sh (i + 1) v3:=fun hn=>by
   rcases ht with⟨rfl,z⟩ | ⟨k,rfl,k1,k2,k3⟩
   ·refine .inl ⟨rfl,fun k hk y=>?_⟩
    by_cases e:k=i
    ·exact hn (e ▸ hk)
    ·exact z k hk (by lia)
   ·refine .inr ⟨k,rfl,by lia,k2,fun k' hk' y=>?_⟩
    by_cases e:k'=i
    ·exact absurd (e ▸ hk') hn
    ·exact k3 k' hk' (by lia)
  refine z8 (fun c1=>?_) (fun c1=>?_)
  ·have c1':i∈w5 h sh:=(memO i hi).mpr (by unfold D9;simpa using c1)
   rcases ht with⟨rfl,z⟩ | ⟨k,rfl,k1,k2,k3⟩
   ·refine⟨_,rfl,rfl,_,rfl,M1 ?_⟩
    refine⟨_,rfl,rfl,_,_,.inr ⟨i,rfl,by lia,c1',fun k' hk' y=>?_⟩,rfl⟩
    have e:k'=i:=by
     have:=z k' hk'
     lia
    subst e;exact⟨Nat.le_refl _,fun z=>absurd z (Nat.lt_irrefl _)⟩
   ·refine⟨_,rfl,rfl,_,rfl,B7 ?_⟩
    obtain⟨ra,a1,a2⟩:=rowAt i hi;obtain⟨rb,b1,b2⟩:=rowAt k (by lia)
    refine⟨_,rfl,_,rfl,L,_,_,_,rfl,rfl,SqL.of hL,a1,ra,_,rfl,.inl (SqL.of a2),_,rfl,_,rfl,L,_,_,_,rfl,rfl,SqL.of hL,b1,rb,_,rfl,.inl (SqL.of b2),_,_,rfl,rfl,_,rfl,?_⟩;rw[lenE,lenE];refine z8 (fun c2=>?_) (fun c2=>?_)
    ·have c2':((X1 h ks c es i:Nat):Int) < ((X1 h ks c es k:Nat):Int):=of_decide_eq_true c2
     refine⟨_,rfl,rfl,_,_,.inr ⟨i,rfl,by lia,c1',fun k' hk' y=>?_⟩,rfl⟩
     by_cases e:k'=i
     ·subst e
      exact⟨Nat.le_refl _,fun z=>absurd z (Nat.lt_irrefl _)⟩
     ·have:=(k3 k' hk' (by lia)).1
      exact⟨by lia,fun _=>by lia⟩
    ·have c2':¬ ((X1 h ks c es i:Nat):Int) < ((X1 h ks c es k:Nat):Int):=fun z=>c2 (decide_eq_true z)
     refine⟨rfl,_,_,.inr ⟨k,rfl,by lia,k2,fun k' hk' y=>?_⟩,rfl⟩
     by_cases e:k'=i
     ·subst e
      exact⟨by lia,fun z=>by lia⟩
     ·exact k3 k' hk' (by lia)
  ·have c1':¬ i∈w5 h sh:=fun z=>c1 (by
    have:=(memO i hi).mp z
    unfold D9 at this
    simpa using this)
   exact⟨rfl,_,_,stay c1',rfl⟩
 ·rintro σ H' ⟨rfl,v3,v4,ht,rfl⟩
  rcases ht with⟨rfl,z⟩ | ⟨k,rfl,k1,k2,k3⟩
  ·refine⟨_,rfl,rfl,_,rfl,M1 (qN ?_)⟩
   refine List.eq_nil_iff_forall_not_mem.mpr fun k hk=>z k hk (S1 hk)
  ·obtain⟨ra,a1,a2⟩:=rowAt k (S1 k2)
   exact⟨_,rfl,rfl,_,rfl,B7 ⟨_,rfl,_,rfl,L,_,_,_,rfl,rfl,SqL.of hL,a1,q k ra ⟨k2,fun k' hk'=>k3 k' hk' (S1 hk')⟩ a2⟩⟩
theorem N9:FnScope ["_law_calls","_law_caller","_law_ends_here","_law_call","_law_end_here"] ["_law_calls","_law_caller","_law_ends_here"] (d7 (top 54)):=mkF
theorem aY6 (T:Txt K mg)(D:Def K mg "_law_busy" (top 54) ["_law_calls","_law_caller","_law_ends_here"]):Callee P w K mg base 1 "_law_busy" ["_law_calls","_law_caller","_law_ends_here"] (aM4 K):=by
 refine D.ok N9 (fun vs H Q E h=>?_) (fun f cdv A outer s H vs Q E hr h=>?_)
 ·obtain⟨l,e,as,ks,c,es,rfl,_⟩:=h
  rfl
 obtain⟨l,e,as,ks,c,es,rfl,hl,hC,he,h64,q,qB⟩:=h;have la:=Paired.length hC
 refine⟨_,(g6 (B0 PassesOwn.never rfl (o4 K (pv 0)) (m5 (i:=3) N9.nd rfl (Or.inl rfl))
  (g9 (m7 (i4 B2 (j3 (j1 K) (pv 3) d9 (fun _ _=>rfl)) (pv 1) (j5 _)) (g9 (i7 (pv 1))) j7)))
  (g6 (B0 PassesOwn.never rfl (o4 K (i8 (O3 K) rfl T.cU boot_sorted (b8 (pv 2) d8 b9))) (m5 (i:=4) N9.nd rfl (Or.inl rfl))
  (g9 (B0 PassesOwn.never rfl (o4 K (pv 0)) (m5 (i:=3) N9.nd rfl (Or.inl rfl))
  (g9 (m7 (i4 (ah8 K) (pv 4) (j3 (j1 K) (pv 3) d9 (fun _ _=>rfl)) (by with_unfolding_all rfl)) (g9 (i7 (j3 (j1 K) (pv 3) d9 (fun _ _=>rfl)))) j7)))))
  (g9 (i7 t9)))),?_⟩
 refine⟨_,rfl,l,rfl,⟨_,hl⟩,?_⟩
 refine B8 (xs:=as.map V.ref) (fun i σ H'=>H'=H/\(∀ k∈ks.take i,k.c≠c)/\∃ v3,σ=[some (.ref l),some (.int c),some (.ref e),v3,none])
  ⟨rfl,(fun k z=>nomatch z),none,rfl⟩ (fun i σ H' _ g=>by rw[g.1];exact hl) ?_ ?_
 ·rintro i x σ G hx ⟨rfl,no,v3,rfl⟩
  rw[List.getElem?_map] at hx;obtain⟨p,hp,rfl⟩:=Option.map_eq_some_iff.mp hx;obtain⟨k,hk,ce,e1,e2⟩:=j8 hC i p hp;refine⟨_,rfl,p,_,_,_,rfl,rfl,SqT.of e2,rfl,_,rfl,rfl,_,rfl,?_⟩;refine z8 (fun z=>?_) (fun z=>?_)
  ·have z':k.c=c:=V.int.inj (of_decide_eq_true z)
   exact⟨_,rfl,qB c _ (fun b u y=>y) (.inl ⟨⟨k,List.mem_of_getElem? hk,z'⟩,rfl⟩)⟩
  ·have z':¬ k.c=c:=fun y=>z (decide_eq_true (by rw[y]))
   refine⟨rfl,fun k' hk'=>?_,_,rfl⟩;rw[take_add_one,hk] at hk'
   rcases List.mem_append.mp hk' with y | y
   ·exact no k' y
   ·rw[mem_singleton.mp y]
    exact z'
 ·rintro σ G ⟨rfl,no,v3,rfl⟩
  rw[length_map,la,take_length] at no;refine⟨_,rfl,e,es,rfl,he,h64,fun ns' pm srt sl hsl=>?_⟩;have s1:=g7 hsl (.lst (ns'.map V.int));have esl:=d6 (H:=G) (a:=sl) (o:=.lst (ns'.map V.int));generalize upd G sl (.lst (ns'.map V.int))=H1 at s1 esl ⊢;refine⟨sl,rfl,⟨_,SqL.of esl⟩,?_⟩
  refine B8 (xs:=ns'.map V.int) (fun i σ H'=>H'=H1/\(∀ e∈ns'.take i,∀ k∈ks,¬ e∈k.es)/\∃ v3 v4,σ=[some (.ref l),some (.int c),some (.ref e),v3,v4])
   ⟨rfl,(fun e z=>nomatch z),_,_,rfl⟩ (fun i σ H' _ g=>by rw[g.1];exact SqL.of esl) ?_ ?_
  ·rintro i x σ G2 hx ⟨rfl,low,v3,v4,rfl⟩
   rw[List.getElem?_map] at hx;obtain⟨en,hen,rfl⟩:=Option.map_eq_some_iff.mp hx;refine⟨_,rfl,l,rfl,⟨_,s1.seq hl⟩,?_⟩
   refine B8 (xs:=as.map V.ref) (fun j σ H'=>H'=G2/\(∀ k∈ks.take j,¬ en∈k.es)/\∃ v3,σ=[some (.ref l),some (.int c),some (.ref e),v3,some (.int en)])
    ⟨rfl,(fun k z=>nomatch z),_,rfl⟩ (fun j σ H' _ g=>by rw[g.1];exact s1.seq hl) ?_ ?_
   ·rintro j x σ G3 hx ⟨rfl,lo2,v3,rfl⟩
    rw[List.getElem?_map] at hx;obtain⟨p,hp,rfl⟩:=Option.map_eq_some_iff.mp hx;obtain⟨k,hk,ce,e1,e2⟩:=j8 hC j p hp;refine⟨_,rfl,_,rfl,p,_,_,_,rfl,rfl,SqT.of (s1 _ _ e2),rfl,ce,_,rfl,.inr (SqT.of (s1 _ _ e1)),rfl,R0 k.es,_,rfl,?_⟩;rw[S2];refine z8 (fun z=>?_) (fun z=>?_)
    ·have z':en∈k.es:=by simpa using z
     refine⟨_,rfl,p,_,_,_,rfl,rfl,SqT.of (s1 _ _ e2),rfl,qB k.c _ s1 (.inr ⟨no,en,pm.mem_iff.mp (List.mem_of_getElem? hen),⟨k,List.mem_of_getElem? hk,z',rfl⟩,fun e' he' lt=>?_⟩)⟩;refine low e' ?_;obtain⟨j',hj,ej⟩:=getElem_of_mem (pm.mem_iff.mpr he');have hi:=List.getElem?_eq_some_iff.mp hen
     by_cases z:j' < i
     ·rw[List.mem_take_iff_getElem]
      exact⟨j',by lia,ej⟩
     ·by_cases y:j'=i
      ·subst y
       rw[hi.2] at ej;lia
      ·have:=(List.pairwise_iff_getElem.mp srt) i j' hi.1 hj (by lia)
       rw[hi.2,ej] at this;lia
    ·have z':¬ en∈k.es:=by simpa using z
     refine⟨rfl,fun k' hk'=>?_,_,rfl⟩;rw[take_add_one,hk] at hk'
     rcases List.mem_append.mp hk' with y | y
     ·exact lo2 k' y
     ·rw[mem_singleton.mp y]
      exact z'
   ·rintro σ G3 ⟨rfl,lo2,v3,rfl⟩
    rw[length_map,la,take_length] at lo2;refine⟨rfl,fun e' he'=>?_,_,_,rfl⟩;rw[take_add_one,hen] at he'
    rcases List.mem_append.mp he' with y | y
    ·exact low e' y
    ·rw[mem_singleton.mp y]
     exact lo2
  ·rintro σ G2 ⟨rfl,low,v3,v4,rfl⟩
   rw[length_map,take_length] at low;exact q _ s1 ⟨no,fun e he=>low e (pm.mem_iff.mpr he)⟩
end
theorem bg0 {H:Hp}{rs:List Addr}{h:Hall}{ks:List Call}{c:Int}{es:List Int}(hrows:t6 H rs (A6 h ks c es)){k:Nat}(hk:k < h.m.toNat):∃ ra,atI (rs.map V.ref) (k:Int)=some (.ref ra)/\H ra=some (.lst ((E3 h ks (c / h.c) (m6 h es) k).map V.int)):=by
 have lr:=Paired.length hrows;unfold A6 at lr;rw[T7] at lr;have ea:rs[k]? = some (rs[k]'(by lia)):=List.getElem?_eq_getElem _
 obtain⟨row,w1,w2⟩:=j8 hrows k _ ea
 have w1':row=E3 h ks (c / h.c) (m6 h es) k:=by
  unfold A6 F3 at w1;rw[List.getElem?_map,List.getElem?_range hk] at w1;exact(Option.some.inj w1).symm
 rw[w1'] at w2;exact⟨_,A0 (by rw[List.getElem?_map,ea];rfl),w2⟩
inductive DueAt (h:Hall)(ks:List Call)(x:V)(o:Option (List V))(sh:Int)(H:Hp)(t:Addr):Prop where
 | wrong (b:(m8 x 0 (h.i * h.c - 1)&&F8 h o)=false) (e:H t=some (.tup [.int 0,.non,.non])):DueAt h ks x o sh H t
 | busy (c:Int) (es:List Int) (w:Int) (ex:x=.int c) (eo:o=some (es.map V.int)) (w1:m8 x 0 (h.i * h.c - 1)=true) (w2:F8 h o=true) (b:E9 ks c es w) (e:H t=some (.tup [.int 1,.int w,.non])):DueAt h ks x o sh H t
 | eng (c:Int) (es:List Int) (kf:Addr) (rs:List Addr) (lv:V) (lo:Option (List Int)) (ex:x=.int c) (eo:o=some (es.map V.int)) (w1:m8 x 0 (h.i * h.c - 1)=true) (w2:F8 h o=true) (i:N6 ks c es) (n:w4 h ks c es sh=[]) (e:H t=some (.tup [.int 2,.ref kf,lv])) (ek:H kf=some (.lst (rs.map V.ref))) (er:t6 H rs (A6 h ks c es)) (hl:N3 h ks c es sh lo) (el:match (generalizing:=false) lo with | none=>lv=.non | some ms=>∃ m,lv=.ref m/\H m=some (.lst (ms.map V.int))):DueAt h ks x o sh H t
 | way (c:Int) (es:List Int) (fl:Addr) (ex:x=.int c) (eo:o=some (es.map V.int)) (w1:m8 x 0 (h.i * h.c - 1)=true) (w2:F8 h o=true) (i:N6 ks c es) (n:w4 h ks c es sh≠[]) (e:H t=some (.tup [.int 9,.ref fl,.non])) (ef:H fl=some (.lst (B5 (w4 h ks c es sh)))):DueAt h ks x o sh H t
def aK3 (K:Frag):Sp:=fun vs H Q _=>∃(a l:Addr)(h:Hall)(as:List Addr)(ks:List Call)(x y:V)(o:Option (List V))(sh:Int),vs=[.ref a,.ref l,x,y,.int sh]/\SqT K H a (h.row.map V.int)/\h.Ok/\SqL K H l (as.map V.ref)/\h8 H as ks/\(∀ k∈ks,k.In h)/\ks.length<=63/\PartIs K H x/\EndTh K H y o/\(∀ xs,o=some xs->xs.length<=13)/\(m8 x 0 (h.i * h.c - 1)&&F8 h o)=true/\∀(t:Addr)(H':Hp),j0 H H'->DueAt h ks x o sh H' t->Q (.ref t) H'
def Y8 (h:Hall)(ks:List Call)(c:Int)(es:List Int)(sh:Int)(i:Nat):List Nat:=((List.range i).filter (D9 sh)).filter (N7 h ks c es)
theorem T6 (h:Hall)(ks:List Call)(c:Int)(es:List Int)(sh:Int)(i:Nat):Y8 h ks c es sh (i + 1)=Y8 h ks c es sh i++(if (D9 sh i&&N7 h ks c es i)=true then [i] else []):=by
 unfold Y8;rw[range_succ,filter_append,filter_append]
 congr 1
 rw[filter_cons]
 cases D9 sh i with
 | false=>rfl
 | true =>
  rw[if_pos rfl,filter_cons]
  cases N7 h ks c es i <;> rfl
section
variable {P:Program}{w:World}{K:Frag}{mg:Str->Option Value}{base:Heap}{aw ah ae aj av ad aq ao af ar ap am aa au:Addr}
theorem M7:FnScope ["_law_hall_here","_law_calls","_law_caller","_law_ends_here","_law_halted","_law_busy_here","_law_kept","_law_free","_law_k"] ["_law_hall_here","_law_calls","_law_caller","_law_ends_here","_law_halted"] (d7 (top 55)):=mkF
set_option maxHeartbeats 4000000 in
theorem aY0 (T:Txt K mg)(jY:Callee P w K mg base 1 "_law_busy" ["_law_calls","_law_caller","_law_ends_here"] (aM4 K))(jK:Callee P w K mg base 2 "_law_holds" ["_law_hall_here","_law_calls","_law_caller","_law_ends_here"] (ay5 K))(jZ:Callee P w K mg base 1 "_law_best" ["_law_hall_here","_law_kept","_law_halted"] (aZ3 K))(D:Def K mg "_law_due" (top 55) ["_law_hall_here","_law_calls","_law_caller","_law_ends_here","_law_halted"]):Callee P w K mg base 3 "_law_due" ["_law_hall_here","_law_calls","_law_caller","_law_ends_here","_law_halted"] (aK3 K):=by
 refine D.ok M7 (fun vs H Q E h=>?_) (fun f cdv A outer s H vs Q E hr h=>?_)
 ·obtain⟨a,l,h,as,ks,x,y,o,sh,rfl,_⟩:=h
  rfl
 obtain⟨a,l,h,as,ks,x,y,o,sh,rfl,hH,ok,hl,hC,hin,h63,px,ey,l13,cb,q⟩:=h;have b3:=ok.m
 refine⟨_,(g6 (i0 (i:=5) M7.nd rfl (Or.inl rfl) (m9 jY hr rfl (b8 (pv 1) (b8 (pv 2) (b8 (pv 3) d8 b9) b9) b9)))
  (g6 (m7 (i4 Z2 (pv 5) t9 (j5 _)) (g9 (i7 (O9 (b8 d9 (b8 (pv 5) (b8 t9 d8 m4) b9) m4)))) j7)
  (g6 (i0 (i:=6) M7.nd rfl (Or.inl rfl) (m9 jK hr rfl (b8 (pv 0) (b8 (pv 1) (b8 (pv 2) (b8 (pv 3) d8 b9) b9) b9) b9)))
  (g6 (i0 (i:=7) M7.nd rfl (Or.inl rfl) (r6 d8))
  (g6 (B0 PassesOwn.never rfl (D6 rfl T.bW (b8 (j3 (j1 K) (pv 0) d9 (fun _ _=>rfl)) d8 x6)) (m5 (i:=8) M7.nd rfl (Or.inl rfl))
  (g9 (m7 (PW.pt (ar1 (i4 (W3 K (Room.units0 hr)) (j3 (m3 K) (pv 6) (pv 8) (fun _ _=>rfl)) (r6 d8) (j5 _)) (ag1 (i4 B2 (i5 aH8 (i5 aF9 (pv 4) (pv 8)) d9) d9 (j5 _))))) (g9 (A4 (C4 K PySem.F.plainAttrs_list PySem.F.slot_list_append PySem.F.type_list_append x8 (pv 7) (b8 (pv 8) d8 b9)))) j7)))
  (g6 (m7 (i4 (W3 K (Room.units0 hr)) (pv 7) (r6 d8) (j5 _)) (g9 (i7 (O9 (b8 d9 (b8 (pv 6) (b8 (m9 jZ hr rfl (b8 (pv 0) (b8 (pv 6) (b8 (pv 4) d8 b9) b9) b9)) d8 n6) b9) m4)))) j7)
  (g9 (i7 (O9 (b8 d9 (b8 (pv 7) (b8 t9 d8 m4) b9) m4)))))))))),?_⟩
 have s1:j0 H H:=j0.refl H;rw[Bool.and_eq_true] at cb;obtain⟨w1,w2⟩:=cb;obtain⟨c,rfl,c0,c1⟩:=ae3 w1;obtain⟨e,es,rfl,rfl,he⟩:=a94 ey w2;have le13:es.length<=13:=by have:=l13 _ rfl;rwa [length_map] at this
 have he':∀{G:Hp},j0 H G->(SqT K G e (es.map V.int)\/SqL K G e (es.map V.int)):=fun s=>he.imp (fun z=>j0.seqT s z) fun z=>s.seq z;have hC':∀{G:Hp},j0 H G->h8 G as ks:=fun s=>h8.same (fun b xs z=>s _ _ z) hC;refine⟨_,rfl,_,rfl,_,rfl,l,e,as,ks,c,es,rfl,s1.seq hl,hC' s1,he' s1,by lia,fun H2 s2 idle=>?_,fun w H2 s2 b=>?_⟩
 rotate_left
 ·refine⟨_,rfl,rfl,_,rfl,M1 ⟨_,rfl,(by show 3<=sizeLine;decide),fun t ht=>q t _ (s1.trans (s2.trans (g7 ht _))) (.busy c es w rfl rfl w1 w2 b d6)⟩⟩
 have s12:=s1.trans s2;refine⟨_,rfl,rfl,_,rfl,B7 ?_⟩;refine⟨_,rfl,_,rfl,_,rfl,_,rfl,a,l,e,h,as,ks,c,es,rfl,j0.seqT s12 hH,ok,s12.seq hl,hC' s12,hin,h63,he' s12,le13,fun kf rs H3 s3 ekf hR=>?_⟩;have s13:=s12.trans s3;refine⟨(by show 0<=sizeLine;decide),fun fl hfl=>?_⟩
 have s4:=g7 hfl (.lst []);have efl:=d6 (H:=H3) (a:=fl) (o:=.lst []);generalize upd H3 fl (.lst [])=H4 at s4 efl ⊢;have hH4:=j0.seqT (s13.trans s4) hH;refine⟨_,rfl,a,_,_,_,rfl,rfl,hH4,rfl,_,rfl,by show -(2 ^ 62)<=h.m;lia,by show h.m < 2 ^ 62;lia,?_⟩
 refine D8 (fun i σ G=>j0 H3 G/\G fl=some (.lst (B5 (Y8 h ks c es sh i)))/\∃ v8,σ=[some (.ref a),some (.ref l),some (.int c),some (.ref e),some (.int sh),some .non,some (.ref kf),some (.ref fl),v8])
  ⟨s4,efl,none,rfl⟩ ?_ ?_
 ·rintro i σ G hi ⟨s5,ef5,v8,rfl⟩
  rw[Int.zero_add];obtain⟨ra,a1,a2⟩:=bg0 hR hi;refine⟨_,rfl,_,rfl,kf,_,_,_,rfl,rfl,SqL.of (s5 _ _ ekf),a1,(by show 0<=sizeLine;decide),fun nl hnl=>?_⟩
  have s6':=g7 hnl (.lst []);have s6:=s5.trans s6';have enl:=d6 (H:=G) (a:=nl) (o:=.lst []);have ef6:=s6' _ _ ef5;generalize upd G nl (.lst [])=G6 at s6 enl ef6 ⊢;refine⟨ra,nl,_,rfl,rfl,SqL.of (s6 _ _ a2),SqL.of enl,_,rfl,?_⟩
  have fb:N7 h ks c es i=decide ((E3 h ks (c / h.c) (m6 h es) i).map V.int=[]):=by
   unfold N7;exact decide_eq_decide.mpr List.map_eq_nil_iff.symm
  rw[<- fb];refine z8 (fun z1=>?_) (fun z1=>?_)
  ·refine⟨_,rfl,_,rfl,_,_,rfl,rfl,by lia,_,_,rfl,rfl,rfl,_,rfl,?_⟩
   refine z8 (fun z2=>?_) (fun z2=>?_)
   ·have ob:D9 sh i=true:=by unfold D9;simpa using z2
    have wl:(B5 (Y8 h ks c es sh i)).length<=24:=by
     unfold B5 Y8;rw[length_map];refine Nat.le_trans (length_filter_le ..) (Nat.le_trans (length_filter_le ..) ?_);rw[length_range];lia
    refine⟨_,rfl,.inl ⟨rfl,_,SqL.of ef6⟩,_,rfl,fl,_,_,rfl,rfl,ef6,j6 (by lia),?_⟩
    refine⟨fun b u zb=>?_,?_,_,rfl⟩
    ·rw[h7 (h9 zb hfl)]
     exact s6 _ _ zb
    ·rw[d6,T6,ob,z1]
     unfold B5;rw[map_append];rfl
   ·have ob:D9 sh i=false:=by
     refine Bool.eq_false_iff.mpr fun y=>z2 ?_;unfold D9 at y
     simpa using y
    refine⟨s6,?_,_,rfl⟩;rw[T6,ob,Bool.false_and,if_neg (by decide),append_nil]
    exact ef6
  ·have zf:N7 h ks c es i=false:=Bool.eq_false_iff.mpr z1
   refine⟨s6,?_,_,rfl⟩;rw[T6,zf,Bool.and_false,if_neg (by decide),append_nil]
   exact ef6
 ·rintro σ G ⟨s5,ef5,v8,rfl⟩
  have ew:Y8 h ks c es sh h.m.toNat=w4 h ks c es sh:=rfl;have ef5:G fl=some (.lst (B5 (w4 h ks c es sh))):=ef5;refine⟨_,rfl,(by show 0<=sizeLine;decide),fun nl hnl=>?_⟩
  have s6':=g7 hnl (.lst []);have s6:=s5.trans s6';have enl:=d6 (H:=G) (a:=nl) (o:=.lst []);have ef6:=s6' _ _ ef5;generalize upd G nl (.lst [])=G6 at s6 enl ef6 ⊢;have sAll:=s13.trans s6;refine⟨fl,nl,_,rfl,rfl,SqL.of ef6,SqL.of enl,_,rfl,?_⟩;refine z8 (fun z=>?_) (fun z=>?_)
  ·have z':w4 h ks c es sh=[]:=by
    have:=of_decide_eq_true z
    unfold B5 at this;exact List.map_eq_nil_iff.mp this
   have hR6:t6 G6 rs (A6 h ks c es):=Paired.mapP hR fun a r z=>s6 _ _ z;refine⟨_,rfl,_,rfl,_,rfl,_,rfl,a,kf,rs,h,ks,c,es,sh,rfl,j0.seqT sAll hH,ok,s6 _ _ ekf,hR6,fun hno=>?_,fun k ra lk ea=>?_⟩
   ·refine⟨(by show 3<=sizeLine;decide),fun t ht=>?_⟩
    have sT:=g7 ht (.tup [.int 2,.ref kf,.non]);exact q t _ (sAll.trans sT) (.eng c es kf rs .non none rfl rfl w1 w2 idle z' d6 (sT _ _ (s6 _ _ ekf)) (Paired.mapP hR6 fun a r z=>sT _ _ z) hno rfl)
   ·refine⟨(by show 3<=sizeLine;decide),fun t ht=>?_⟩
    have sT:=g7 ht (.tup [.int 2,.ref kf,.ref ra]);exact q t _ (sAll.trans sT) (.eng c es kf rs (.ref ra) (some _) rfl rfl w1 w2 idle z' d6 (sT _ _ (s6 _ _ ekf)) (Paired.mapP hR6 fun a r z=>sT _ _ z) ⟨k,lk,rfl⟩ ⟨ra,rfl,sT _ _ ea⟩)
  ·have z':w4 h ks c es sh≠[]:=fun y=>z (decide_eq_true (by rw[y];rfl))
   refine⟨_,rfl,(by show 3<=sizeLine;decide),fun t ht=>?_⟩
   have sT:=g7 ht (.tup [.int 9,.ref fl,.non]);exact q t _ (sAll.trans sT) (.way c es fl rfl rfl w1 w2 idle z' d6 (sT _ _ ef6))
end
def kfL (ks:List Call)(xs:List Int)(j:Nat):Int:=E7 ks (xs.getD j 0)
theorem aB8 {kf:Nat->Int}{n i j:Nat}(hi:i < n)(hj:j < n)(a:F7 kf n i)(b:F7 kf n j):i=j:=by
 rcases Nat.lt_trichotomy i j with z | z | z
 ·have h1:=(b i hi).2 z
  have h2:=(a j hj).1;lia
 ·exact z
 ·have h1:=(a j hj).2 z
  have h2:=(b i hi).1;lia
theorem ax1 {kf:Nat->Int}{n i j:Nat}(hi:i < n)(hj:j < n)(a:H9 kf n i)(b:H9 kf n j):i=j:=by
 rcases Nat.lt_trichotomy i j with z | z | z
 ·have h1:=(b i hi).2 z
  have h2:=(a j hj).1;lia
 ·exact z
 ·have h1:=(a j hj).2 z
  have h2:=(b i hi).1;lia
def aK7 (sg:Int)(kf:Nat->Int)(n i:Nat):Prop:=∀ j,j < n->sg * kf j<=sg * kf i/\(j < i->sg * kf j < sg * kf i)
theorem aO8 {kf:Nat->Int}{n i:Nat}(h:aK7 1 kf n i):F7 kf n i:=fun j hj=>by
 have:=h j hj
 rw[Int.one_mul,Int.one_mul] at this;exact⟨this.1,this.2⟩
theorem aM8 {kf:Nat->Int}{n i:Nat}(h:aK7 (-1) kf n i):H9 kf n i:=fun j hj=>by
 have:=h j hj
 exact⟨by lia,fun z=>by have:=this.2 z;lia⟩
theorem W6 {ks:List Call}{i:Nat}{k:Call}(hk:ks[i]? = some k)(r:Nat):ab1 (ks.take (i + 1)) r=ab1 (ks.take i) r + (if k.k=(r:Int) then 1 else 0):=by
 rw[take_add_one,hk];exact am4 _ _ _
def ay7 (K:Frag):Sp:=fun vs H Q _=>∃(b fl:Addr)(h:Hall)(as:List Addr)(ks:List Call)(xs:List Int)(sg:Int),vs=[.ref b,.ref fl,.int sg]/\SqL K H b (as.map V.ref)/\h8 H as ks/\(∀ k∈ks,k.In h)/\ks.length<=63/\H fl=some (.lst (xs.map V.int))/\xs≠[]/\(∀ x∈xs,0<=x/\x < h.m)/\(sg=1\/sg = -1) /\
 ∀(i:Nat)(x:Int)(H':Hp),j0 H H'->xs[i]? = some x->aK7 sg (kfL ks xs) xs.length i->Q (.int x) H'
section
variable {P:Program}{w:World}{K:Frag}{mg:Str->Option Value}{base:Heap}{aw ah ae aj av ad aq ao af ar ap am aa au:Addr}
theorem C7:FnScope ["_law_calls","_law_free","_law_sign","_law_best_here","_law_k","_law_one","_law_other"] ["_law_calls","_law_free","_law_sign"] (d7 (top 57)):=mkF
set_option maxHeartbeats 4000000 in
theorem a_4 (T:Txt K mg)(D:Def K mg "_law_most" (top 57) ["_law_calls","_law_free","_law_sign"]):Callee P w K mg base 1 "_law_most" ["_law_calls","_law_free","_law_sign"] (ay7 K):=by
 refine D.ok C7 (fun vs H Q E h=>?_) (fun f cdv A outer s H vs Q E hr h=>?_)
 ·obtain⟨b,fl,h,as,ks,xs,sg,rfl,_⟩:=h
  rfl
 obtain⟨b,fl,h,as,ks,xs,sg,rfl,hB,hC,hin,h63,hfl,ne,hx,hsg,q⟩:=h;have hpos:0 < xs.length:=List.length_pos_iff.mpr ne;have ln:as.length=ks.length:=Paired.length hC
 refine⟨_,(g6 (i0 (i:=3) C7.nd rfl (Or.inr rfl) (j3 (m3 K) (pv 1) d9 (fun _ _=>rfl)))
  (g6 (B0 PassesOwn.never rfl (o4 K (pv 1)) (m5 (i:=4) C7.nd rfl (Or.inr rfl))
  (g6 (i0 (i:=5) C7.nd rfl (Or.inl rfl) (i8 (y0 K) rfl T.cz boot_len (b8 (B1 (own:=["_law_call"]) (fr:=[(4,"_law_k")]) rfl (show CompScope ["_law_calls","_law_free","_law_sign","_law_best_here","_law_k","_law_one","_law_other"] (d7 (top 57)) _ _ _ from⟨rfl,by decide +kernel,by decide +kernel,by decide +kernel,by decide +kernel⟩) (o4 K (pv 0)) (fun cl C s H ex=>⟨(m5 (i:=0) (show(["_law_call","_law_k"]:List Str).Nodup from by decide +kernel) rfl (Or.inl rfl) (Or.inr rfl)),(L7 (i4 B2 (j3 (j1 K) (pv 0) d9 (fun _ _=>rfl)) (pv 1) (j5 _))),(pv 0)⟩)) d8 P1)))
  (g6 (i0 (i:=6) C7.nd rfl (Or.inl rfl) (i8 (y0 K) rfl T.cz boot_len (b8 (B1 (own:=["_law_call"]) (fr:=[(3,"_law_best_here")]) rfl (show CompScope ["_law_calls","_law_free","_law_sign","_law_best_here","_law_k","_law_one","_law_other"] (d7 (top 57)) _ _ _ from⟨rfl,by decide +kernel,by decide +kernel,by decide +kernel,by decide +kernel⟩) (o4 K (pv 0)) (fun cl C s H ex=>⟨(m5 (i:=0) (show(["_law_call","_law_best_here"]:List Str).Nodup from by decide +kernel) rfl (Or.inl rfl) (Or.inr rfl)),(L7 (i4 B2 (j3 (j1 K) (pv 0) d9 (fun _ _=>rfl)) (pv 1) (j5 _))),(pv 0)⟩)) d8 P1)))
  (g9 (m7 (i4 ba8 (i5 r9 (pv 2) (pv 5)) (i5 r9 (pv 2) (pv 6)) (j5 _)) (g9 (i0 (i:=3) C7.nd rfl (Or.inr rfl) (pv 4))) j7)))))
  (g9 (i7 (pv 3))))),?_⟩
 have at0:atI (xs.map V.int) 0=some (.int (xs[0]'hpos)):=A0 (j:=0) (by rw[List.getElem?_map,List.getElem?_eq_getElem hpos];rfl)
 refine⟨_,rfl,fl,_,_,_,rfl,rfl,SqL.of hfl,at0,?_⟩;refine⟨_,rfl,fl,rfl,⟨_,SqL.of hfl⟩,?_⟩
 refine B8 (xs:=xs.map V.int) (fun i σ G=>j0 H G/\∃(j:Nat)(v4 v5 v6:Option V),j < xs.length/\(j < i\/j=0)/\aK7 sg (kfL ks xs) i j/\σ=[some (.ref b),some (.ref fl),some (.int sg),some (.int (xs.getD j 0)),v4,v5,v6])
  ⟨fun b u z=>z,0,none,none,none,hpos,.inr rfl,(fun j hj=>absurd hj (Nat.not_lt_zero _)),by rw[List.getD,List.getElem?_eq_getElem hpos];rfl⟩ (fun i σ G _ g=>SqL.of (g.1 _ _ hfl)) ?_ ?_
 ·rintro i y σ G hy ⟨s0,j,v4,v5,v6,hj,hji,bs,rfl⟩
  rw[List.getElem?_map] at hy;obtain⟨x,hxi,rfl⟩:=Option.map_eq_some_iff.mp hy;have xi:=(List.getElem?_eq_some_iff.mp hxi).1;have e1:xs.getD i 0=x:=by rw[List.getD,hxi];rfl
  have bx:=hx x (List.mem_of_getElem? hxi);have bj:=hx (xs.getD j 0) (by rw[List.getD,List.getElem?_eq_getElem hj];exact getElem_mem hj)
  refine⟨_,rfl,b,rfl,⟨_,s0.seq hB⟩,?_⟩;refine x9 (xs:=as.map V.ref) (fun i acc σ G'=>G'=G/\acc.length=ab1 (ks.take i) x.toNat/\∃ v,σ=[v,some (.int x)]) ⟨rfl,rfl,none,rfl⟩ (Nat.le_of_lt (j6 (by rw[length_map];lia))) (fun i acc σ G' g=>?_) (fun i acc σ G' _ g=>by rw[g.1];exact s0.seq hB) ?_ ?_
  ·rw[g.2.1]
   unfold ab1;exact Nat.le_trans (length_filter_le _ _) (by rw[length_take];lia)
  ·rintro i y acc σ G' hy ⟨rfl,hl,v,rfl⟩
   rw[List.getElem?_map] at hy;obtain⟨p,hp,rfl⟩:=Option.map_eq_some_iff.mp hy;obtain⟨k,hk,ce,e1,e2⟩:=j8 hC i p hp;refine⟨_,rfl,p,_,_,_,rfl,rfl,SqT.of (s0 _ _ e2),rfl,_,rfl,rfl,_,rfl,?_⟩;refine z8 (fun c=>?_) (fun c=>?_)
   ·have c':k.k=((x.toNat:Nat):Int):=(V.int.inj (of_decide_eq_true c)).trans (by lia)
    refine⟨_,rfl,rfl,?_,_,rfl⟩;rw[length_append,hl,W6 hk,if_pos c'];rfl
   ·have c':¬ k.k=((x.toNat:Nat):Int):=fun z=>c (decide_eq_true (by rw[z];exact congrArg V.int (by lia)))
    refine⟨rfl,?_,_,rfl⟩;rw[hl,W6 hk,if_neg c'];rfl
  rintro vs1 σ G' ⟨rfl,hl,v,rfl⟩ l1 hl0
  rw[length_map,ln,take_length] at hl;have t1:=s0.trans (g7 hl0 (.lst vs1));have w1:=d6 (H:=G') (a:=l1) (o:=.lst vs1);generalize upd G' l1 (.lst vs1)=G1 at t1 w1 ⊢;have z1:=hl;clear hl;refine⟨l1,_,rfl,.inl (SqL.of w1),?_⟩;refine⟨_,rfl,b,rfl,⟨_,t1.seq hB⟩,?_⟩;refine x9 (xs:=as.map V.ref) (fun i acc σ G'=>G'=G1/\acc.length=ab1 (ks.take i) (xs.getD j 0).toNat/\∃ v,σ=[v,some (.int (xs.getD j 0))]) ⟨rfl,rfl,none,rfl⟩ (Nat.le_of_lt (j6 (by rw[length_map];lia))) (fun i acc σ G' g=>?_) (fun i acc σ G' _ g=>by rw[g.1];exact t1.seq hB) ?_ ?_
  ·rw[g.2.1]
   unfold ab1;exact Nat.le_trans (length_filter_le _ _) (by rw[length_take];lia)
  ·rintro i y acc σ G' hy ⟨rfl,hl,v,rfl⟩
   rw[List.getElem?_map] at hy;obtain⟨p,hp,rfl⟩:=Option.map_eq_some_iff.mp hy;obtain⟨k,hk,ce,e1,e2⟩:=j8 hC i p hp;refine⟨_,rfl,p,_,_,_,rfl,rfl,SqT.of (t1 _ _ e2),rfl,_,rfl,rfl,_,rfl,?_⟩;refine z8 (fun c=>?_) (fun c=>?_)
   ·have c':k.k=(((xs.getD j 0).toNat:Nat):Int):=(V.int.inj (of_decide_eq_true c)).trans (by lia)
    refine⟨_,rfl,rfl,?_,_,rfl⟩;rw[length_append,hl,W6 hk,if_pos c'];rfl
   ·have c':¬ k.k=(((xs.getD j 0).toNat:Nat):Int):=fun z=>c (decide_eq_true (by rw[z];exact congrArg V.int (by lia)))
    refine⟨rfl,?_,_,rfl⟩;rw[hl,W6 hk,if_neg c'];rfl
  rintro vs2 σ G' ⟨rfl,hl,v,rfl⟩ l2 hl0
  rw[length_map,ln,take_length] at hl;have t2:=t1.trans (g7 hl0 (.lst vs2));have w2:=d6 (H:=G') (a:=l2) (o:=.lst vs2);generalize upd G' l2 (.lst vs2)=G2 at t2 w2 ⊢;have z2:=hl;clear hl;refine⟨l2,_,rfl,.inl (SqL.of w2),?_⟩;have k1:(((vs1.length:Nat):Int))=kfL ks xs i:=by rw[z1];unfold kfL E7;rw[e1]
  have k2:(((vs2.length:Nat):Int))=kfL ks xs j:=by rw[z2];rfl
  have sm:-(2 ^ 64) < sg/\sg < 2 ^ 64:=by rcases hsg with rfl | rfl <;> decide
  refine⟨_,rfl,_,rfl,_,_,rfl,rfl,.inl sm,_,rfl,_,rfl,_,_,rfl,rfl,.inl sm,_,_,rfl,rfl,_,rfl,?_⟩;rw[k1,k2];refine z8 (fun c=>?_) (fun c=>?_)
  ·have c':sg * kfL ks xs i > sg * kfL ks xs j:=of_decide_eq_true c
   refine⟨_,rfl,t2,i,_,_,_,xi,.inl (Nat.lt_succ_self _),fun j' hj'=>?_,by rw[e1];rfl⟩
   by_cases z:j'=i
   ·subst z
    exact⟨Int.le_refl _,fun y=>absurd y (Nat.lt_irrefl _)⟩
   ·have:=(bs j' (by lia)).1
    exact⟨by lia,fun _=>by lia⟩
  ·have c':¬ sg * kfL ks xs i > sg * kfL ks xs j:=fun z=>c (decide_eq_true z)
   refine⟨t2,j,_,_,_,hj,hji.imp (fun z=>Nat.lt_succ_of_lt z) id,fun j' hj'=>?_,rfl⟩
   by_cases z:j'=i
   ·subst z
    refine⟨by lia,fun y=>?_⟩
    rcases hji with z | z <;> lia
   ·exact bs j' (by lia)
 ·rintro σ G ⟨s0,j,v4,v5,v6,hj,hji,bs,rfl⟩
  rw[length_map] at bs;exact⟨_,rfl,q j (xs.getD j 0) G s0 (by rw[List.getD,List.getElem?_eq_getElem hj];rfl) bs⟩
end
theorem a90 {b:Bool}{H:Hp}{tt:TS}{D:Ends}{σ:L2.St}(R:L2.St->Hp->Prop)(hr:∀ σ' G,R σ' G->D.nx σ' G)(h1:b=true->(∀ σ' G,R σ' G->D.nx σ' G)->tt D σ H)(h2:b=false->R σ H):(fun(b:Bool) H1=>if b=true then tt D σ H1 else ap5 D σ H1) b H:=by
 cases b
 ·exact hr _ _ (h2 rfl)
 ·exact h1 rfl hr
def aA1 (K:Frag):Sp:=fun vs H Q _=>∃(a:Addr)(h:Hall)(n:Int),vs=[.ref a,.int n]/\SqT K H a (h.row.map V.int)/\h.Ok/\0<=n/\∀(l:Addr)(xs:List Int)(H':Hp),j0 H H'->H l=none->H' l=some (.lst (xs.map V.int))->xs.length<=24->Q (.ref l) H'
theorem bg1 (xs:List V)(a:Nat):(N2 xs (some (a:Int)) none++N2 xs none (some (a:Int))).length=xs.length/\∀ ys:List Int,xs=ys.map V.int->N2 xs (some (a:Int)) none++N2 xs none (some (a:Int))=(ys.drop a++ys.take a).map V.int:=by
 have e1:N2 xs (some (a:Int)) none=xs.drop a:=by
  unfold N2;rw[HT.sIx_none,show HT.sIx xs.length 0 (some (a:Int))=min a xs.length from HT.sIx_nat _ _ a]
  rcases Nat.le_total a xs.length with h | h
  ·rw[Nat.min_eq_left h]
   exact List.take_of_length_le (by rw[length_drop];lia)
  ·rw[Nat.min_eq_right h,drop_length,List.drop_eq_nil_of_le h,List.take_nil]
 have e2:N2 xs none (some (a:Int))=xs.take a:=by
  unfold N2;rw[HT.sIx_none,show HT.sIx xs.length xs.length (some (a:Int))=min a xs.length from HT.sIx_nat _ _ a,List.drop_zero,Nat.sub_zero];exact List.take_eq_take_iff.mpr (by lia)
 rw[e1,e2];refine⟨by rw[length_append,length_drop,length_take];lia,fun ys z=>?_⟩
 rw[z,map_append,List.map_drop,List.map_take]
theorem a03 {bs:List Int}{i:Nat}(hi:i < bs.length):seqIndex? (i:Int) (bs.map V.int).length=some i/\(bs.map V.int)[i]? = some (.int (bs[i]'hi))/\(bs.map V.int).eraseIdx i=(bs.eraseIdx i).map V.int:=by
 refine⟨?_,by rw[List.getElem?_map,List.getElem?_eq_getElem hi];rfl,?_⟩
 ·unfold seqIndex?
  rw[length_map]
  simp
  lia
 ·rw[List.eraseIdx_eq_take_drop_succ,List.eraseIdx_eq_take_drop_succ,map_append,List.map_take,List.map_drop]
section
variable {P:Program}{w:World}{K:Frag}{mg:Str->Option Value}{base:Heap}{aw ah ae aj av ad aq ao af ar ap am aa au:Addr}
theorem t7:FnScope ["_law_hall_here","_law_number_here","_law_base","_law_at","_law_left","_law_found","_law_k"] ["_law_hall_here","_law_number_here"] (d7 (top 58)):=mkF
set_option maxHeartbeats 4000000 in
theorem aP4 (T:Txt K mg)(D:Def K mg "_law_wanted" (top 58) ["_law_hall_here","_law_number_here"]):Callee P w K mg base 1 "_law_wanted" ["_law_hall_here","_law_number_here"] (aA1 K):=by
 refine D.ok t7 (fun vs H Q E h=>?_) (fun f cdv A outer s H vs Q E hr h=>?_)
 ·obtain⟨a,h,n,rfl,_⟩:=h
  rfl
 obtain⟨a,h,n,rfl,hH,ok,n0,q⟩:=h;have om:=ok.m
 refine⟨_,(g6 (i0 (i:=2) t7.nd rfl (Or.inl rfl) (p7 (al4 rfl) rfl T.cY boot_list (b8 (p7 ah2 rfl T.bW boot_range (b8 (j3 (j1 K) (pv 0) d9 (fun _ _=>rfl)) d8 x6)) d8 n6)))
  (g6 (i0 (i:=3) t7.nd rfl (Or.inl rfl) (i5 p0 (i5 p0 (i5 r9 (pv 1) d9) d9) (j3 (j1 K) (pv 0) d9 (fun _ _=>rfl))))
  (g6 (i0 (i:=2) t7.nd rfl (Or.inl rfl) (i5 U0 (ay6 (av1 K) (pv 2) (aI6 (pv 3)) aJ8) (ay6 (av1 K) (pv 2) aJ8 (aI6 (pv 3)))))
  (g6 (m7 (i4 B2 (i5 p0 (pv 1) d9) d9 (j5 _)) (g9 (i0 (i:=2) t7.nd rfl (Or.inl rfl) (bc6 K (pv 2) (aW8 aH4 d9)))) j7)
  (g6 (i0 (i:=2) t7.nd rfl (Or.inl rfl) (i5 U0 (a67 K (pv 2) d9) (aU4 K (pv 2) d9 d9)))
  (g6 (i0 (i:=4) t7.nd rfl (Or.inl rfl) (i5 az2 (pv 1) (i5 aq7 d9 d9)))
  (g6 (i0 (i:=5) t7.nd rfl (Or.inl rfl) (r6 d8))
  (g6 (B0 PassesOwn.never rfl (D6 rfl T.bW (b8 (i5 p0 (i5 p0 (i5 r9 (pv 1) d9) d9) (i5 J6 (j3 (j1 K) (pv 0) d9 (fun _ _=>rfl)) d9)) d8 L9)) (m5 (i:=6) t7.nd rfl (Or.inl rfl))
  (g9 (m7 (i4 ba8 (pv 4) d9 (j5 _)) (g6 (A4 (C4 K PySem.F.plainAttrs_list PySem.F.slot_list_append PySem.F.type_list_append x8 (pv 5) (b8 (C4 K PySem.F.plainAttrs_list PySem.F.slot_list_pop PySem.F.type_list_pop am5 (pv 2) (b8 (i5 p0 (pv 4) (i8 (y0 K) rfl T.cz boot_len (b8 (pv 2) d8 b9))) d8 L9)) d8 n6)))
  (g9 (i0 (i:=4) t7.nd rfl (Or.inl rfl) (i5 W9 (pv 4) (i5 J6 (i8 (y0 K) rfl T.cz boot_len (b8 (pv 2) d8 b9)) d9))))) (g9 (A4 (C4 K PySem.F.plainAttrs_list PySem.F.slot_list_append PySem.F.type_list_append x8 (pv 5) (b8 (C4 K PySem.F.plainAttrs_list PySem.F.slot_list_pop PySem.F.type_list_pop am5 (pv 2) (b8 d9 d8 m4)) d8 n6)))))))
  (g9 (i7 (pv 5))))))))))),?_⟩
 refine⟨_,rfl,a,_,_,_,rfl,rfl,hH,rfl,_,rfl,fun r hr1=>?_⟩;have s1:=g7 hr1 (ae7 r h.m);have er:upd H r (ae7 r h.m) r=some (ae7 r (h.m.toNat:Nat)):=by rw[d6,Int.toNat_of_nonneg (by lia)]
 change upd H r (ae7 r h.m) r=_ at er
 refine⟨r,h.m.toNat,rfl,er,by lia,fun l0 hl0=>?_⟩
 have s2:=s1.trans (g7 hl0 (.lst ((List.range h.m.toNat).map fun(k:Nat)=>V.int k)));have e2:=d6 (H:=upd H r (ae7 r h.m)) (a:=l0) (o:=.lst ((List.range h.m.toNat).map fun(k:Nat)=>V.int k))
 change j0 H (upd (upd H r (ae7 r h.m)) l0 (.lst ((List.range h.m.toNat).map fun(k:Nat)=>V.int k))) at s2
 generalize upd (upd H r (ae7 r h.m)) l0 (.lst ((List.range h.m.toNat).map fun(k:Nat)=>V.int k))=H2 at s2 e2 ⊢;have e2':H2 l0=some (.lst (((List.range h.m.toNat).map fun(k:Nat)=>(k:Int)).map V.int)):=by rw[e2,List.map_map];rfl
 have b0:((List.range h.m.toNat).map fun(k:Nat)=>(k:Int)).length=h.m.toNat:=by rw[length_map,length_range]
 generalize ((List.range h.m.toNat).map fun(k:Nat)=>(k:Int))=ys0 at e2' b0;clear e2;refine⟨_,rfl,_,_,rfl,rfl,.inr ⟨by decide,by decide⟩,_,_,rfl,rfl,(by show(0:Int) < 999953;decide),_,rfl,a,_,_,_,rfl,rfl,j0.seqT s2 hH,rfl,_,_,rfl,rfl,(by show 0 < h.m;lia),?_⟩
 obtain⟨at1,hat1⟩:∃ at1:Nat,n * 39373 % 999953 % h.m=(at1:Int):=⟨_,(Int.toNat_of_nonneg (Int.emod_nonneg _ (by lia))).symm⟩
 dsimp only
 rw[show n * 39373 % 999953 % h.m=(at1:Int) from hat1];refine⟨_,rfl,_,rfl,_,rfl,l0,_,rfl,SqL.of e2',fun la hla=>?_⟩;have s3:=s2.trans (g7 hla (.lst (N2 (ys0.map V.int) (some (at1:Int)) none)));have ea:=d6 (H:=H2) (a:=la) (o:=.lst (N2 (ys0.map V.int) (some (at1:Int)) none));have e3:=g7 hla (.lst (N2 (ys0.map V.int) (some (at1:Int)) none)) _ _ e2';generalize upd H2 la (.lst (N2 (ys0.map V.int) (some (at1:Int)) none))=H3 at s3 ea e3 ⊢;refine⟨_,rfl,_,rfl,_,rfl,l0,_,rfl,SqL.of e3,fun lb hlb=>?_⟩;have s4':=g7 hlb (.lst (N2 (ys0.map V.int) none (some (at1:Int))));have s4:=s3.trans s4';have eb:=d6 (H:=H3) (a:=lb) (o:=.lst (N2 (ys0.map V.int) none (some (at1:Int))));have ea4:=s4' _ _ ea;generalize upd H3 lb (.lst (N2 (ys0.map V.int) none (some (at1:Int))))=H4 at s4 eb ea4 ⊢;obtain⟨c1,c2⟩:=bg1 (ys0.map V.int) at1;rw[length_append,length_map,b0] at c1;refine⟨la,lb,_,_,rfl,rfl,ea4,eb,Nat.le_of_lt (j6 (by rw[c1];lia)),fun lc hlc=>?_⟩
 have s5:=s4.trans (g7 hlc (.lst (N2 (ys0.map V.int) (some (at1:Int)) none++N2 (ys0.map V.int) none (some (at1:Int)))));have ec:=d6 (H:=H4) (a:=lc) (o:=.lst (N2 (ys0.map V.int) (some (at1:Int)) none++N2 (ys0.map V.int) none (some (at1:Int))));generalize upd H4 lc (.lst (N2 (ys0.map V.int) (some (at1:Int)) none++N2 (ys0.map V.int) none (some (at1:Int))))=H5 at s5 ec ⊢;rw[c2 ys0 rfl] at ec;have b1:(ys0.drop at1++ys0.take at1).length=h.m.toNat:=by rw[length_append,length_drop,length_take];lia
 generalize ys0.drop at1++ys0.take at1=ys1 at ec b1;clear ea4 eb e3 ea c1 c2 e2' hlb hla hlc;refine⟨_,rfl,_,_,rfl,rfl,(by show(0:Int) < 2;decide),rfl,_,rfl,?_⟩
 refine a90 (fun σ' G=>j0 H G/\∃(lc:Addr)(ys:List Int),G lc=some (.lst (ys.map V.int))/\ys.length=h.m.toNat/\σ'=[some (.ref a),some (.int n),some (.ref lc),some (.int (at1:Int)),none,none,none]) ?_ ?_ ?_
 rotate_left
 ·intro _ last
  refine⟨_,rfl,_,rfl,lc,_,rfl,rfl,SqL.of ec,fun ld hld=>last _ _ ⟨s5.trans (g7 hld _),ld,ys1.reverse,by rw[d6,List.map_reverse],by rw[length_reverse,b1],rfl⟩⟩
 ·intro _
  exact⟨s5,lc,ys1,ec,b1,rfl⟩
 rintro σ' G ⟨s6,lc,ys,el,bl,rfl⟩
 refine⟨_,rfl,lc,_,rfl,rfl,SqL.of el,fun ld hld=>?_⟩;have s7':=g7 hld (.lst (i6 (ys.map V.int)));have s7:=s6.trans s7';have ed:=d6 (H:=G) (a:=ld) (o:=.lst (i6 (ys.map V.int)));have el7:=s7' _ _ el;generalize upd G ld (.lst (i6 (ys.map V.int)))=G1 at s7 ed el7 ⊢;refine⟨_,rfl,lc,_,rfl,rfl,rfl,SqL.of el7,fun le hle=>?_⟩;have s8':=g7 hle (.lst (i6 ((ys.map V.int).drop 1)));have s8:=s7.trans s8';have ee:=d6 (H:=G1) (a:=le) (o:=.lst (i6 ((ys.map V.int).drop 1)));have ed8:=s8' _ _ ed;generalize upd G1 le (.lst (i6 ((ys.map V.int).drop 1)))=G2 at s8 ee ed8 ⊢;refine⟨ld,le,_,_,rfl,rfl,ed8,ee,Nat.le_of_lt (j6 (by rw[V1,V1,length_drop,length_map];lia)),fun lf hlf=>?_⟩
 have hlf0:H lf=none:=s8.free hlf;have s9:=s8.trans (g7 hlf (.lst (i6 (ys.map V.int)++i6 ((ys.map V.int).drop 1))));have ef:=d6 (H:=G2) (a:=lf) (o:=.lst (i6 (ys.map V.int)++i6 ((ys.map V.int).drop 1)));generalize upd G2 lf (.lst (i6 (ys.map V.int)++i6 ((ys.map V.int).drop 1)))=G3 at s9 ef ⊢;have ef':G3 lf=some (.lst ((i6 ys++i6 (ys.drop 1)).map V.int)):=by rw[ef,map_append,aD2,<- List.map_drop,aD2]
 have b2:(i6 ys++i6 (ys.drop 1)).length=h.m.toNat:=by rw[length_append,V1,V1,length_drop];lia
 generalize i6 ys++i6 (ys.drop 1)=zs at ef' b2;clear ef ed8 ee el7 ed el;refine⟨_,rfl,_,_,rfl,rfl,⟨by decide,by decide,by decide⟩,_,_,rfl,rfl,⟨by show(0:Int) < 10 ^ 18;decide,by show(10:Int) ^ 18 < 18446744073709551616;decide⟩,?_⟩
 dsimp only
 generalize n / 10 ^ Int.toNat 18=left0;refine⟨(by show 0<=sizeLine;decide),fun lg hlg=>?_⟩
 have hlg0:H lg=none:=s9.free hlg;have nfg:lf≠lg:=fun z=>by rw[z,hlg] at ef';cases ef'
 have s10:=s9.trans (g7 hlg (.lst []));have eg:=d6 (H:=G3) (a:=lg) (o:=.lst []);have ef10:=g7 hlg (.lst []) _ _ ef';generalize upd G3 lg (.lst [])=G4 at s10 eg ef10 ⊢;refine⟨_,rfl,_,_,rfl,rfl,.inr ⟨by decide,by decide⟩,_,_,rfl,rfl,(by show(0:Int) < 999931;decide),_,rfl,a,_,_,_,rfl,rfl,j0.seqT s10 hH,rfl,_,_,rfl,rfl,_,_,rfl,rfl,(by show 0 < h.m + 1;lia),?_⟩
 have k1:=Int.emod_nonneg (n * 62089911 % 999931) (show h.m + 1≠0 by lia)
 have k2:=Int.emod_lt_of_pos (n * 62089911 % 999931) (show 0 < h.m + 1 by lia)
 refine⟨_,rfl,by show -(2 ^ 62)<=n * 62089911 % 999931 % (h.m + 1);lia,by show n * 62089911 % 999931 % (h.m + 1) < 2 ^ 62;lia,?_⟩
 refine D8 (lo:=0) (n:=(n * 62089911 % 999931 % (h.m + 1)).toNat) (fun i σ G=>j0 H G/\(∃ bs:List Int,G lf=some (.lst (bs.map V.int))/\bs.length=h.m.toNat - i)/\(∃ fs:List Int,G lg=some (.lst (fs.map V.int))/\fs.length=i)/\∃(lft:Int)(v6:Option V),σ=[some (.ref a),some (.int n),some (.ref lf),some (.int (at1:Int)),some (.int lft),some (.ref lg),v6])
  ⟨s10,⟨zs,ef10,b2⟩,⟨[],eg,rfl⟩,left0,none,rfl⟩ ?_ ?_
 ·rintro i σ G5 hi ⟨t1,⟨bs,eb,lb⟩,⟨fs,ef,lfs⟩,lft,v6,rfl⟩
  have hpos:0 < bs.length:=by lia
  have go:∀(j:Nat)(hj:j < bs.length)(lft:Int)(v6:Option V),(j0 H (upd (upd G5 lf (.lst ((bs.eraseIdx j).map V.int))) lg (.lst (fs.map V.int++[.int (bs[j]'hj)])))/\(∃ bs':List Int,upd (upd G5 lf (.lst ((bs.eraseIdx j).map V.int))) lg (.lst (fs.map V.int++[.int (bs[j]'hj)])) lf=some (.lst (bs'.map V.int))/\bs'.length=h.m.toNat - (i + 1))/\(∃ fs':List Int,upd (upd G5 lf (.lst ((bs.eraseIdx j).map V.int))) lg (.lst (fs.map V.int++[.int (bs[j]'hj)])) lg=some (.lst (fs'.map V.int))/\fs'.length=i + 1)):=fun j hj lft v6=>by
   refine⟨fun b u z=>?_,⟨bs.eraseIdx j,?_,?_⟩,⟨fs++[bs[j]'hj],?_,?_⟩⟩
   ·rw[h7 (h9 z hlg0),h7 (h9 z hlf0)]
    exact t1 _ _ z
   ·rw[h7 nfg,d6]
   ·rw[List.length_eraseIdx_of_lt hj]
    lia
   ·rw[d6,map_append]
    rfl
   ·rw[length_append,lfs]
    rfl
  refine⟨_,rfl,_,_,rfl,rfl,_,rfl,?_⟩;refine z8 (fun c=>?_) (fun c=>?_)
  ·obtain⟨j,hj⟩:∃ j:Nat,lft % (((bs.map V.int).length:Nat):Int)=(j:Int):=⟨_,(Int.toNat_of_nonneg (Int.emod_nonneg _ (by rw[length_map];lia))).symm⟩
   have hj2:j < bs.length:=by
    have:=Int.emod_lt_of_pos lft (show(0:Int) < (((bs.map V.int).length:Nat):Int) by rw[length_map];lia)
    rw[length_map] at this hj;lia
   obtain⟨p1,p2,p3⟩:=a03 hj2;refine⟨_,rfl,.inl ⟨rfl,_,SqL.of ef⟩,_,rfl,.inl ⟨rfl,_,SqL.of eb⟩,_,rfl,_,rfl,lf,_,rfl,.inl (SqL.of eb),_,_,rfl,rfl,(by show(0:Int) < (((bs.map V.int).length:Nat):Int);rw[length_map];lia),lf,_,_,j,_,rfl,(by rw[<- hj]),eb,by lia,by lia,p1,p2,?_⟩
   rw[p3];refine⟨lg,fs.map V.int,_,rfl,rfl,by rw[h7 (Ne.symm nfg)];exact ef,j6 (by rw[length_map];lia),?_⟩
   obtain⟨g1,⟨bs',g2,g3⟩,g4⟩:=go j hj2 lft v6;refine⟨_,rfl,_,rfl,lf,_,rfl,.inl (SqL.of g2),_,_,rfl,rfl,_,_,rfl,rfl,⟨by rw[length_map];lia,by rw[length_map];lia⟩,g1,⟨bs',g2,g3⟩,g4,_,_,rfl⟩
  ·obtain⟨p1,p2,p3⟩:=a03 hpos
   refine⟨_,rfl,.inl ⟨rfl,_,SqL.of ef⟩,_,rfl,.inl ⟨rfl,_,SqL.of eb⟩,lf,_,_,0,_,rfl,rfl,eb,by decide,by decide,p1,p2,?_⟩
   rw[p3];refine⟨lg,fs.map V.int,_,rfl,rfl,by rw[h7 (Ne.symm nfg)];exact ef,j6 (by rw[length_map];lia),?_⟩
   obtain⟨g1,g2,g4⟩:=go 0 hpos lft v6;exact⟨g1,g2,g4,_,_,rfl⟩
 ·rintro σ G5 ⟨t1,_,⟨fs,ef,lfs⟩,lft,v6,rfl⟩
  exact⟨_,rfl,q lg fs _ t1 hlg0 ef (by lia)⟩
end
inductive Pick (ks:List Call)(xs ws:List Int)(st:Int):Int->Int->Prop where
 | first {w:Int} (h:w < 2):Pick ks xs ws st w (xs.headD 0)
 | full {i:Nat} {x:Int} (hi:xs[i]? = some x) (b:F7 (fun j=>E7 ks (xs.getD j 0)) xs.length i):Pick ks xs ws st 2 x
 | empt {i:Nat} {x:Int} (hi:xs[i]? = some x) (b:H9 (fun j=>E7 ks (xs.getD j 0)) xs.length i):Pick ks xs ws st 3 x
 | round:Pick ks xs ws st 4 (C6 st xs)
 | told:Pick ks xs ws st 5 (Z4 ws xs)
def ag2 (K:Frag):Sp:=fun vs H Q _=>∃(l fl wl:Addr)(h:Hall)(as:List Addr)(ks:List Call)(xs ws:List Int)(w st:Int),vs=[.ref l,.ref fl,.int w,.int st,.ref wl]/\SqL K H l (as.map V.ref)/\h8 H as ks/\(∀ k∈ks,k.In h)/\ks.length<=63/\H fl=some (.lst (xs.map V.int))/\xs≠[]/\xs.length<=24/\(∀ x∈xs,0<=x/\x < h.m)/\H wl=some (.lst (ws.map V.int))/\ws.length<=24/\0<=w/\w < 6 /\
 ∀(x:Int)(H':Hp),j0 H H'->Pick ks xs ws st w x->Q (.int x) H'
theorem aI5 {xs:List Int}(ne:xs≠[]):atI (xs.map V.int) 0=some (.int (xs.headD 0)):=by
 cases xs with
 | nil=>exact absurd rfl ne
 | cons x t=>exact A0 (j:=0) rfl
section
variable {P:Program}{w:World}{K:Frag}{mg:Str->Option Value}{base:Heap}{aw ah ae aj av ad aq ao af ar ap am aa au:Addr}
theorem ak3:FnScope ["_law_calls","_law_free","_law_which","_law_start","_law_wanted_here"] ["_law_calls","_law_free","_law_which","_law_start","_law_wanted_here"] (d7 (top 59)):=mkF
set_option maxHeartbeats 2000000 in
theorem az3 (T:Txt K mg)(kc:Callee P w K mg base 1 "_law_most" ["_law_calls","_law_free","_law_sign"] (ay7 K))(D:Def K mg "_law_chosen" (top 59) ["_law_calls","_law_free","_law_which","_law_start","_law_wanted_here"]):Callee P w K mg base 2 "_law_chosen" ["_law_calls","_law_free","_law_which","_law_start","_law_wanted_here"] (ag2 K):=by
 refine D.ok ak3 (fun vs H Q E h=>?_) (fun f cdv A outer s H vs Q E hr h=>?_)
 ·obtain⟨l,fl,wl,h,as,ks,xs,ws,w,st,rfl,_⟩:=h
  rfl
 obtain⟨l,fl,wl,h,as,ks,xs,ws,w,st,rfl,hl,hC,hin,h63,efl,ne,x24,hx,ewl,w24,w0,w6,q⟩:=h
 refine⟨_,(g6 (m7 (i4 aK4 (pv 2) d9 (j5 _)) (g9 (i7 (j3 (m3 K) (pv 1) d9 (fun _ _=>rfl)))) j7)
  (g6 (m7 (i4 aK4 (pv 2) d9 (j5 _)) (g9 (i7 (m9 kc hr rfl (b8 (pv 0) (b8 (pv 1) (b8 (j3 (m3 K) (r6 (b8 d9 (b8 (aW8 aH4 d9) d8 bg9) m4)) (i5 at6 (pv 2) d9) (fun _ _=>rfl)) d8 x6) b9) b9)))) j7)
  (g6 (m7 (i4 B2 (pv 2) d9 (j5 _)) (g9 (i7 (j3 (m3 K) (i5 U0 (B1 (own:=["_law_k"]) (fr:=[(3,"_law_start")]) rfl (show CompScope ["_law_calls","_law_free","_law_which","_law_start","_law_wanted_here"] (d7 (top 59)) _ _ _ from⟨rfl,by decide +kernel,by decide +kernel,by decide +kernel,by decide +kernel⟩) (o4 K (pv 1)) (fun cl C s H ex=>⟨(m5 (i:=0) (show(["_law_k","_law_start"]:List Str).Nodup from by decide +kernel) rfl (Or.inl rfl) (Or.inr rfl)),(L7 (i4 aT6 (pv 0) (pv 1) (j5 _))),(pv 0)⟩)) (pv 1)) d9 (fun _ _=>rfl)))) j7)
  (g9 (i7 (j3 (m3 K) (i5 U0 (B1 (own:=["_law_k"]) (fr:=[(1,"_law_free")]) rfl (show CompScope ["_law_calls","_law_free","_law_which","_law_start","_law_wanted_here"] (d7 (top 59)) _ _ _ from⟨rfl,by decide +kernel,by decide +kernel,by decide +kernel,by decide +kernel⟩) (o4 K (pv 4)) (fun cl C s H ex=>⟨(m5 (i:=0) (show(["_law_k","_law_free"]:List Str).Nodup from by decide +kernel) rfl (Or.inl rfl) (Or.inr rfl)),(L7 (i4 (ah8 K) (pv 0) (pv 1) (by with_unfolding_all rfl))),(pv 0)⟩)) (pv 1)) d9 (fun _ _=>rfl))))))),?_⟩
 refine⟨_,rfl,_,_,rfl,rfl,_,rfl,z8 (fun z=>?_) (fun z=>?_)⟩
 ·exact⟨_,rfl,fl,_,_,_,rfl,rfl,SqL.of efl,aI5 ne,q _ H (fun b u z=>z) (.first (of_decide_eq_true z))⟩
 have z2:¬ w < 2:=fun y=>z (decide_eq_true y);refine⟨_,rfl,_,_,rfl,rfl,_,rfl,z8 (fun z=>?_) (fun z=>?_)⟩
 ·have z4:w < 4:=of_decide_eq_true z
  obtain rfl | rfl:w=2\/w=3:=by lia
  ·refine⟨_,rfl,_,rfl,_,rfl,(by show 2<=sizeLine;decide),fun dl hdl=>?_⟩
   have s1:=g7 hdl (.lst [.int 1,.int (-1)]);have edl:=d6 (H:=H) (a:=dl) (o:=.lst [.int 1,.int (-1)]);exact⟨_,rfl,_,_,rfl,rfl,dl,_,_,_,rfl,rfl,SqL.of edl,rfl,l,fl,h,as,ks,xs,1,rfl,s1.seq hl,h8.same (fun b xs z=>s1 _ _ z) hC,hin,h63,s1 _ _ efl,ne,hx,.inl rfl,fun i x H2 s2 hi b=>q x H2 (s1.trans s2) (.full hi (aO8 b))⟩
  ·refine⟨_,rfl,_,rfl,_,rfl,(by show 2<=sizeLine;decide),fun dl hdl=>?_⟩
   have s1:=g7 hdl (.lst [.int 1,.int (-1)]);have edl:=d6 (H:=H) (a:=dl) (o:=.lst [.int 1,.int (-1)]);exact⟨_,rfl,_,_,rfl,rfl,dl,_,_,_,rfl,rfl,SqL.of edl,rfl,l,fl,h,as,ks,xs,-1,rfl,s1.seq hl,h8.same (fun b xs z=>s1 _ _ z) hC,hin,h63,s1 _ _ efl,ne,hx,.inr rfl,fun i x H2 s2 hi b=>q x H2 (s1.trans s2) (.empt hi (aM8 b))⟩
 have z4:¬ w < 4:=fun y=>z (decide_eq_true y)
 have fin:∀{G:Hp}{g:Addr}{ys:List Int},j0 H G->G g=some (.lst (ys.map V.int))->ys.length<=24->Pick ks xs ws st w ((ys++xs).headD 0)->bh5 (.ref g) (.ref fl) G (fun v H'=>a61 K v (.int 0) H' Q):=by
  intro G g ys s1 eg l24 pk
  refine⟨g,fl,_,_,rfl,rfl,eg,s1 _ _ efl,Nat.le_of_lt (j6 (by rw[length_map,length_map];lia)),fun cl hcl=>?_⟩
  have s2:=g7 hcl (.lst (ys.map V.int++xs.map V.int));refine⟨cl,_,_,_,rfl,rfl,SqL.of d6,?_,q _ _ (s1.trans s2) pk⟩;rw[<- map_append];exact aI5 fun y=>ne (List.append_eq_nil_iff.mp y).2
 refine⟨_,rfl,rfl,_,rfl,z8 (fun z=>?_) (fun z=>?_)⟩
 ·have z5:w=4:=V.int.inj (of_decide_eq_true z)
  refine⟨_,rfl,fl,rfl,⟨_,SqL.of efl⟩,?_⟩
  refine x9 (xs:=xs.map V.int) (fun i acc σ G=>G=H/\acc=(ad0 st (xs.take i)).map V.int/\∃ v,σ=[v,some (.int st)])
   ⟨rfl,rfl,none,rfl⟩ (Nat.le_of_lt (j6 (by rw[length_map];lia))) (fun i acc σ G g=>?_) (fun i acc σ G _ g=>by rw[g.1];exact SqL.of efl) ?_ ?_
  ·obtain⟨_,rfl,_⟩:=g
   rw[length_map];exact Nat.le_trans (length_filter_le _ _) (by rw[length_take];lia)
  ·rintro i y acc σ G hy ⟨rfl,rfl,v,rfl⟩
   rw[List.getElem?_map] at hy;obtain⟨x,hx',rfl⟩:=Option.map_eq_some_iff.mp hy;refine⟨_,rfl,_,rfl,_,_,rfl,rfl,_,rfl,?_⟩;have stp:=ac8 (n:=st) hx';refine z8 (fun c0=>?_) (fun c0=>?_)
   ·have c:st<=x:=of_decide_eq_true c0
    refine⟨_,rfl,rfl,?_,_,rfl⟩;unfold ad0;rw[stp,if_pos c,map_append];rfl
   ·have c:¬ st<=x:=fun y=>c0 (decide_eq_true y)
    refine⟨rfl,?_,_,rfl⟩;unfold ad0;rw[stp,if_neg c,append_nil]
  ·rintro acc σ G ⟨rfl,rfl,v,rfl⟩ g hg
   rw[length_map,take_length];exact⟨_,rfl,fin (g7 hg _) d6 (Nat.le_trans (length_filter_le _ _) x24) (by rw[z5];exact .round)⟩
 ·have z5:w=5:=by
   have:¬ w=4:=fun y=>z (decide_eq_true (by rw[y]))
   lia
  refine⟨_,rfl,wl,rfl,⟨_,SqL.of ewl⟩,?_⟩
  refine x9 (xs:=ws.map V.int) (fun i acc σ G=>G=H/\acc=((ws.take i).filter fun k=>decide (k∈xs)).map V.int/\∃ v,σ=[v,some (.ref fl)])
   ⟨rfl,rfl,none,rfl⟩ (Nat.le_of_lt (j6 (by rw[length_map];lia))) (fun i acc σ G g=>?_) (fun i acc σ G _ g=>by rw[g.1];exact SqL.of ewl) ?_ ?_
  ·obtain⟨_,rfl,_⟩:=g
   rw[length_map];exact Nat.le_trans (length_filter_le _ _) (by rw[length_take];lia)
  ·rintro i y acc σ G hy ⟨rfl,rfl,v,rfl⟩
   rw[List.getElem?_map] at hy;obtain⟨k,hk,rfl⟩:=Option.map_eq_some_iff.mp hy;refine⟨_,rfl,_,rfl,fl,_,rfl,.inl (SqL.of efl),rfl,R0 xs,_,rfl,?_⟩
   have stp:(ws.take (i + 1)).filter (fun k=>decide (k∈xs))=(ws.take i).filter (fun k=>decide (k∈xs))++(if decide (k∈xs)=true then [k] else []):=by
    rw[take_add_one,hk,filter_append]
    congr 1
    show List.filter (fun k=>decide (k∈xs)) [k]=_
    rw[filter_cons]
    split <;> rfl
   refine z8 (fun c0=>?_) (fun c0=>?_)
   ·have c:inV (.int k) (xs.map V.int)=true:=c0
    rw[S2] at c;exact⟨_,rfl,rfl,by rw[stp,if_pos c,map_append];rfl,_,rfl⟩
   ·have c:¬ inV (.int k) (xs.map V.int)=true:=c0
    rw[S2] at c;exact⟨rfl,by rw[stp,if_neg c,append_nil],_,rfl⟩
  ·rintro acc σ G ⟨rfl,rfl,v,rfl⟩ g hg
   rw[length_map,take_length];exact⟨_,rfl,fin (g7 hg _) d6 (Nat.le_trans (length_filter_le _ _) w24) (by rw[z5];exact .told)⟩
end
theorem bb6 {i j:Int}{A B:Prop}(h:i≠j)(b:B):if decide (V.int i=V.int j)=true then A else B:=by
 rw[if_neg fun z=>h (V.int.inj (of_decide_eq_true z))];exact b
theorem aS7 {i:Int}{A B:Prop}(a:A):if decide (V.int i=V.int i)=true then A else B:=by
 rw[if_pos (decide_eq_true rfl)];exact a
theorem ag4 {H:Hp}:∀{rs1 rs2:List Addr}{rows:List (List Int)},t6 H rs1 rows->t6 H rs2 rows->(∀ row∈rows,row.length<=1000)->Paired (O0 H 1) (rs1.map V.ref) (rs2.map V.ref)
 | _,_,_,.nil,.nil,_=>.nil
 | _,_,_,.cons (a:=a) (b:=row) h t,.cons h' t',hl=>.cons (.inr ⟨_,_,_,_,rfl,rfl,.inl ⟨h,h'⟩,S4 row,by rw[length_map];exact hl row (mem_cons_self ..)⟩) (ag4 t t' fun r hr=>hl r (mem_cons_of_mem _ hr))
inductive Paper25 (CB CE:Addr)(H:Hp)(ea t:Addr):Prop where
 | busy (dx:Addr) (w:Int) (e:H ea=some (Q0 ea CB (some dx))) (x:H dx=some (XdO dx [("who",.int w)])) (d:H t=some (.tup [.int 1,.int w,.non])):Paper25 CB CE H ea t
 | eng (dx nh kf:Addr) (nas rs:List Addr) (nlv lv:V) (rows:List (List Int)) (lo:Option (List Int)) (e:H ea=some (Q0 ea CE (some dx))) (g:EngAt H dx rows lo nh nas nlv) (few:rows.length<=64) (fe:∀ row∈rows,row.length<=99) (fl:∀ ms,lo=some ms->ms.length<=99) (d:H t=some (.tup [.int 2,.ref kf,lv])) (ek:H kf=some (.lst (rs.map V.ref))) (er:t6 H rs rows) (el:match (generalizing:=false) lo with | none=>lv=.non | some ms=>∃ m,lv=.ref m/\H m=some (.lst (ms.map V.int))):Paper25 CB CE H ea t
def ap4 (CB CE:Addr):Sp:=fun vs H Q _=>∃(ea t:Addr),vs=[.ref ea,.ref t]/\Paper25 CB CE H ea t/\∀ H',j0 H H'->Q (.bl true) H'
section
variable {P:Program}{w:World}{K:Frag}{mg:Str->Option Value}{base:Heap}{aw ah ae aj av ad aq ao af ar ap am aa au:Addr}
theorem aS1 (Z:TxtC K mg aw ah ae aj av ad aq ao af ar ap am aa au):KindOk K am ad [af,am,aa,ap,ar,au,aq,ao] [false,true,false,false,false,false,false,false] 1 :=
 ⟨Z.kJ,Z.gM,Z.mj,.cons Z.jd (.cons Z.jI (.cons Z.iS (.cons Z.jH (.cons Z.jf (.cons Z.jg (.cons Z.jc (.cons Z.iR .nil))))))),by decide,rfl,(fun m hm=>by match m,hm with | 0,_=>rfl),by decide⟩
theorem as1 (Z:TxtC K mg aw ah ae aj av ad aq ao af ar ap am aa au):KindOk K aa ad [af,am,aa,ap,ar,au,aq,ao] [false,false,true,false,false,false,false,false] 2 :=
 ⟨Z.dQ,Z.fG,Z.kK,.cons Z.gO (.cons Z.iU (.cons Z.gw (.cons Z.iT (.cons Z.gQ (.cons Z.gR (.cons Z.gN (.cons Z.gv .nil))))))),by decide,rfl,(fun m hm=>by match m,hm with | 0,_=>rfl | 1,_=>rfl),by decide⟩
theorem am3:FnScope ["_law_e","_law_due_here"] ["_law_e","_law_due_here"] (d7 (top 56)):=mkF
theorem aE4 (T:Txt K mg)(Z:TxtC K mg aw ah ae aj av ad aq ao af ar ap am aa au)(fJ:Callee P w K mg base 1 "_law_kind" ["_law_e"] (aD3 K ad [af,am,aa,ap,ar,au,aq,ao]))(aI:Callee P w K mg base 3 "_law_alike" ["_law_found","_law_due_here"] (W8 2))(D:Def K mg "_law_paper" (top 56) ["_law_e","_law_due_here"]):Callee P w K mg base 4 "_law_paper" ["_law_e","_law_due_here"] (ap4 am aa):=by
 refine D.ok am3 (fun vs H Q E h=>?_) (fun f cdv A outer s H vs Q E hr h=>?_)
 ·obtain⟨ea,t,rfl,_⟩:=h
  rfl
 obtain⟨ea,t,rfl,pi,q⟩:=h
 refine⟨_,(g6 (m7 (i4 ap3 (m9 fJ hr rfl (b8 (pv 0) d8 b9)) (j3 (j1 K) (pv 1) d9 (fun _ _=>rfl)) (j5 _)) (g9 (i7 P6)) j7)
  (g6 (m7 (i4 B2 (j3 (j1 K) (pv 1) d9 (fun _ _=>rfl)) d9 (j5 _)) (g9 (i7 (m9 aI hr rfl (b8 (aX7 K (pv 0)) (b8 (j3 (j1 K) (pv 1) d9 (fun _ _=>rfl)) d8 x6) at8)))) j7)
  (g9 (i7 (P9 (m9 aI hr rfl (b8 (aX7 K (pv 0)) (b8 (j3 (j1 K) (pv 1) d9 (fun _ _=>rfl)) d8 x6) at8)) (R6 (m9 aI hr rfl (b8 (aX7 K (pv 0)) (b8 (j3 (j1 K) (pv 1) d9 (fun _ _=>rfl)) d8 x6) at8)))))))),?_⟩
 cases pi with
 | busy dx w he hx ht =>
  refine⟨_,rfl,ea,am,some dx,_,1,rfl,he,aS1 Z,fun H1 s1=>?_⟩;have ht1:=s1 _ _ ht;refine⟨_,rfl,t,_,_,_,rfl,rfl,SqT.of ht1,rfl,rfl,_,rfl,ab7 (by simp) ?_⟩
  refine⟨_,rfl,t,_,_,_,rfl,rfl,SqT.of ht1,rfl,rfl,_,rfl,aS7 ?_⟩;refine⟨_,rfl,ea,am,dx,_,.int w,rfl,s1 _ _ he,s1 _ _ hx,Z.kJ,Z.lU,Z.jh,rfl,_,rfl,t,_,_,_,rfl,rfl,SqT.of ht1,rfl,_,_,rfl,Q1.at (.inr ⟨w,rfl,rfl⟩),q _ s1⟩
 | eng dx nh kf nas rs nlv lv rows lo he g few fe fl ht ek er el =>
  refine⟨_,rfl,ea,aa,some dx,_,2,rfl,he,as1 Z,fun H1 s1=>?_⟩;have ht1:=s1 _ _ ht;have he1:=s1 _ _ he;have gd:=s1 _ _ g.d;have gh:=s1 _ _ g.h;have gr:t6 H1 nas rows:=Paired.mapP g.rows fun a r z=>s1 _ _ z;have ek1:=s1 _ _ ek;have er1:t6 H1 rs rows:=Paired.mapP er fun a r z=>s1 _ _ z;have ln:nas.length=rows.length:=Paired.length gr;have l99:∀ row∈rows,row.length<=1000:=fun row hr=>Nat.le_trans (fe row hr) (by decide)
  refine⟨_,rfl,t,_,_,_,rfl,rfl,SqT.of ht1,rfl,rfl,_,rfl,ab7 (by simp) ?_⟩
  refine⟨_,rfl,t,_,_,_,rfl,rfl,SqT.of ht1,rfl,rfl,_,rfl,bb6 (by decide) ?_⟩
  have alL:O0 H1 2 nlv lv:=by
   have gl:=g.l
   cases lo with
   | none =>
    have e1:nlv=.non:=gl;have e2:lv=.non:=el;rw[e1,e2];exact Q1.at (.inl ⟨rfl,rfl⟩)
   | some ms =>
    obtain⟨m,rfl,_,_,em⟩:=gl;obtain⟨m',rfl,em'⟩:=el;exact .inr ⟨m,m',_,_,rfl,rfl,.inl ⟨s1 _ _ em,s1 _ _ em'⟩,S4 ms,by rw[length_map];exact Nat.le_trans (fl ms rfl) (by decide)⟩
  refine⟨_,rfl,ea,aa,dx,_,.ref nh,rfl,he1,gd,Z.dQ,Z.eK,Z.fB,rfl,_,rfl,t,_,_,_,rfl,rfl,SqT.of ht1,rfl,_,_,rfl,.inr ⟨nh,kf,_,_,rfl,rfl,.inl ⟨gh,ek1⟩,ag4 gr er1 l99,by rw[length_map];lia⟩,_,rfl,M1 ?_⟩
  exact⟨_,rfl,ea,aa,dx,_,nlv,rfl,he1,gd,Z.dQ,Z.eK,Z.cZ,rfl,_,rfl,t,_,_,_,rfl,rfl,SqT.of ht1,rfl,_,_,rfl,alL,q _ s1⟩
theorem aV3:FnScope ["calls","caller"] ["calls","caller"] (d7 (top 43)):=mkF
theorem aY2 (T:Txt K mg)(Z:TxtC K mg aw ah ae aj av ad aq ao af ar ap am aa au)(hO:Callee P w K mg base 2 "call_of" ["calls","caller"] (ah4 K))(D:Def K mg "ended" (top 43) ["calls","caller"]):CalleeF P w K mg base 3 "ended" ["calls","caller"] [] (aJ1 K ap):=by
 refine D.okF aV3 (fun vs H Q E h=>?_) (fun f cdv A outer s H vs Q E hr h=>?_)
 ·obtain⟨l,x,as,ks,rfl,_⟩:=h
  rfl
 obtain⟨l,x,as,ks,rfl,hL,hC,h63,hp,q⟩:=h;have la:=Paired.length hC
 refine⟨_,(g6 (m7 (i4 O7 (m9 hO hr rfl (b8 (pv 0) (b8 (pv 1) d8 b9) b9)) t9 (j5 _)) (g9 (aj2 (ar2 Q3) Z.mG hr.hd rfl Y4)) j7)
  (g9 (i7 (B1 (own:=["call"]) (fr:=[(1,"caller")]) rfl (show CompScope ["calls","caller"] (d7 (top 43)) _ _ _ from⟨rfl,by decide +kernel,by decide +kernel,by decide +kernel,by decide +kernel⟩) (o4 K (pv 0)) (fun cl C s H ex=>⟨(m5 (i:=0) (show(["call","caller"]:List Str).Nodup from by decide +kernel) rfl (Or.inl rfl) (Or.inr rfl)),(L7 (i4 ap3 (j3 (j1 K) (pv 0) d9 (fun _ _=>rfl)) (pv 1) (j5 _))),(pv 0)⟩))))),?_⟩
 refine⟨_,rfl,_,rfl,l,x,as,ks,rfl,hL,hC,hp,?_⟩
 rcases q with⟨c,rfl,⟨k0,hk0,hc0⟩,q⟩ | ⟨hno,q⟩
 ·refine .inr ⟨c,rfl,fun v hv=>?_⟩
  obtain⟨j,a,k,ha,hk,hkc,rfl⟩:∃(j:Nat)(a:Addr)(k:Call),as[j]? = some a/\ks[j]? = some k/\k.c=c/\v=.ref a:=by
   rcases hv with⟨_,z⟩ | z
   ·exact absurd hc0 (z k0 hk0)
   ·exact z
  refine⟨rfl,_,rfl,B7 ?_⟩;refine⟨_,rfl,l,rfl,⟨_,hL⟩,?_⟩
  refine x9 (xs:=as.map V.ref) (fun i acc σ H'=>H'=H/\acc=(z6 (as.take i) (ks.take i) c).map V.ref/\∃ v,σ=[v,some (.int c)])
   ⟨rfl,rfl,none,rfl⟩ (Nat.le_of_lt (j6 (by rw[length_map];lia))) (fun i acc σ H' g=>?_) (fun i acc σ H' _ g=>g.1 ▸ hL) ?_ ?_
  ·obtain⟨_,rfl,_⟩:=g
   have:=V9 (as.take i) (ks.take i) c
   rw[length_map];rw[length_take] at this;lia
  ·rintro i y acc σ H' hy ⟨rfl,rfl,v,rfl⟩
   rw[List.getElem?_map] at hy;obtain⟨a',ha',rfl⟩:=Option.map_eq_some_iff.mp hy;obtain⟨k',hk',ce,e1,e2⟩:=j8 hC i a' ha'
   have st:z6 (as.take (i + 1)) (ks.take (i + 1)) c=z6 (as.take i) (ks.take i) c++(if k'.c=c then [] else [a']):=by
    rw[take_succ,take_succ,ha',hk'];exact Z0 (by rw[length_take,length_take,la])
   refine⟨_,rfl,a',_,_,_,rfl,rfl,SqT.of e2,rfl,_,rfl,rfl,_,rfl,?_⟩;refine z8 (fun cc=>?_) (fun cc=>?_)
   ·have cc':¬ k'.c=c:=by simpa using cc
    refine⟨_,rfl,rfl,?_,_,rfl⟩;rw[st,if_neg cc',map_append];rfl
   ·have cc':k'.c=c:=by simpa using cc
    refine⟨rfl,?_,_,rfl⟩;rw[st,if_pos cc',append_nil]
  ·rintro acc σ H' ⟨rfl,rfl,v,rfl⟩ f hf
   rw[length_map,take_length,la,take_length];exact q f hf
 ·cases x with
  | int c =>
   refine .inr ⟨c,rfl,fun v hv=>?_⟩
   obtain rfl:v=.non:=by
    rcases hv with⟨z,_⟩ | ⟨j,a,k,ha,hk,hkc,_⟩
    ·exact z
    ·exact absurd hkc (hno c rfl k (List.mem_of_getElem? hk))
   exact⟨rfl,_,rfl,M1 q⟩
  | _=>exact .inl ⟨rfl,rfl,_,rfl,M1 q⟩
end
theorem aG9 (ns:List Int):(w9 ns).length=ns.length↔ns.Nodup:=by
 have n2:=M3 (M0 ns)
 constructor
 ·intro h
  have:=F4 (w9 ns) ns n2 (fun x hx=>(F2 x ns).mp hx) (by lia)
  exact this.nodup_iff.mp n2
 ·intro h
  have:=F4 ns (w9 ns) h (fun x hx=>(F2 x ns).mpr hx) (ac5 ns)
  exact this.length_eq.symm
theorem aP1 {h:Hall}{es:List Int}(eo:EndsOk h es):F8 h (some (es.map V.int))=true:=by
 show(!(es.map V.int).isEmpty&&((es.map V.int).all (fun x=>m8 x 0 (h.o * h.e - 1))&&J8 (es.map V.int)))=true
 have h1:(!(es.map V.int).isEmpty)=true:=by
  have:=eo.some
  cases es with
  | nil=>exact absurd rfl this
  | cons _ _=>rfl
 have h2:(es.map V.int).all (fun x=>m8 x 0 (h.o * h.e - 1))=true:=by
  rw[all_eq_true]
  intro x hx
  obtain⟨e,he,rfl⟩:=List.mem_map.mp hx
  have:=eo.es e he
  show(decide (0<=e)&&decide (e<=h.o * h.e - 1))=true
  rw[decide_eq_true this.1,decide_eq_true (by lia)]
  rfl
 rw[h1,h2];unfold J8;rw[R1,length_map,decide_eq_true ((aG9 es).mpr eo.nd)];rfl
def tri (k:Call):Int×List Int×Int:=(k.c,k.es,k.k)
theorem a96 {k k':Call}(h:tri k=tri k'):k=k':=by
 obtain⟨c,es,r⟩:=k;obtain⟨c',es',r'⟩:=k';unfold tri at h
 cases h
 rfl
theorem aX9 {ks ks':List Call}(h:ks.map tri=ks'.map tri):ks=ks':=List.map_inj_right (fun _ _=>a96) |>.mp h
theorem S0 {K:Frag}{H:Hp}:∀{as:List Addr}{ks:List Call},h8 H as ks->Paired (bk0 K H) (as.map V.ref) (ks.map tri)
 | _,_,.nil=>.nil
 | _,_,.cons (a:=p) ⟨e,h1,h2⟩ t=>.cons ⟨p,e,rfl,SqT.of h2,SqT.of h1⟩ (S0 t)
theorem aW7 {l1 l2:List Int}(p:l1.Perm l2)(s1:l1.Pairwise (·<=·))(s2:l2.Pairwise (·<=·)):l1=l2:=p.eq_of_pairwise (fun a b _ _ h1 h2=>Int.le_antisymm h1 h2) s1 s2
theorem aQ5 {l1 l2:List Call}(p:l1.Perm l2)(s1:l1.Pairwise fun k k'=>k.c < k'.c)(s2:l2.Pairwise fun k k'=>k.c < k'.c):l1=l2:=p.eq_of_pairwise (fun a b _ _ h1 h2=>absurd h1 (by lia)) s1 s2
theorem aH5 {H:Hp}{p p':Addr}{κ:Call}(h:B9 H p κ)(h':B9 H p' κ)(few:κ.es.length<=1000):O0 H 2 (.ref p) (.ref p'):=by
 obtain⟨t,t1,t2⟩:=h;obtain⟨t',t1',t2'⟩:=h';exact .inr ⟨p,p',_,_,rfl,rfl,.inr ⟨t2,t2'⟩,.cons (Q1.at (.inr ⟨_,rfl,rfl⟩)) (.cons (.inr ⟨t,t',_,_,rfl,rfl,.inr ⟨t1,t1'⟩,S4 κ.es,by rw[length_map];exact few⟩) (.cons (Q1.at (.inr ⟨_,rfl,rfl⟩)) .nil)),by show 3<=1000;decide⟩
theorem U8 {H:Hp}:∀{bs as':List Addr}{ks:List Call},h8 H bs ks->h8 H as' ks->(∀ κ∈ks,κ.es.length<=1000)->Paired (O0 H 2) (bs.map V.ref) (as'.map V.ref)
 | _,_,[],.nil,.nil,_=>.nil
 | _,_,κ::_,.cons h t,.cons h' t',few=>.cons (aH5 h h' (few _ (mem_cons_self ..))) (U8 t t' fun κ hκ=>few κ (mem_cons_of_mem _ hκ))
theorem aJ6 {H:Hp}:∀{as:List Addr}{ks:List Call}{c:Int},h8 H as ks->h8 H (z6 as ks c) (ks.filter fun k=>decide (k.c≠c))
 | _,_,_,.nil=>.nil
 | _,_,c,.cons (a:=a) (b:=k) h t=>by
  have q:=aJ6 (c:=c) t
  by_cases e:k.c=c
  ·show h8 H (if k.c=c then _ else _) (List.filter _ (k::_))
   rw[if_pos e,filter_cons,if_neg (by simp[e])]
   exact q
  ·show h8 H (if k.c=c then _ else _) (List.filter _ (k::_))
   rw[if_neg e,filter_cons,if_pos (by simp[e])]
   exact .cons h q
def M8 (S F T1 T2 ro:Addr)(H H':Hp):Prop:=∀ b u,b≠S->b≠F->b≠T1->b≠T2->b≠ro->H b=some u->H' b=some u
def aL5 (S F:Addr)(H:Hp)(p:Addr):Prop:=∃(f1 f2:Addr)(as bs:List Addr)(ks:List Call),(p≠S/\p≠F)/\(f1≠S/\f1≠F)/\(f2≠S/\f2≠F)/\H p=some (.lst [.ref f1,.ref f2])/\H f1=some (.lst (as.map V.ref))/\H f2=some (.lst (bs.map V.ref))/\h8 H as ks/\h8 H bs ks
structure Dyn (CN T1 T2 S F ro lc:Addr)(h:Hall)(n:Int)(as ps:List Addr)(ks:List Call)(m:Nat)(H:Hp):Prop where
 s:H S=some (.lst [.ref lc,.int n,.ref F,.int (h.i * h.c)])
 f:H F=some (.lst (ps.map V.ref))
 pl:ps.length<=m
 l:H lc=some (.lst (as.map V.ref))
 lS:lc≠S
 lF:lc≠F
 FS:F≠S
 c:h8 H as ks
 hin:∀ k∈ks,k.In h
 up:ks.Pairwise fun k k'=>k.c < k'.c
 one:∀ k∈ks,∀ k'∈ks,∀ e,e∈k.es->e∈k'.es->k=k'
 kl:ks.length<=m
 pr:∀ x∈ps,aL5 S F H x
 r:A2 CN ro H n
 t:Tabs T1 T2 H
section
variable {CN T1 T2 S F ro lc:Addr}{h:Hall}{n:Int}{as ps:List Addr}{ks:List Call}{m:Nat}{H H':Hp}
theorem M8.trans {H'':Hp}(a:M8 S F T1 T2 ro H H')(b:M8 S F T1 T2 ro H' H''):M8 S F T1 T2 ro H H'':=fun x u n1 n2 n3 n4 n5 e=>b x u n1 n2 n3 n4 n5 (a x u n1 n2 n3 n4 n5 e)
theorem C3 (s:j0 H H'):M8 S F T1 T2 ro H H':=fun b u _ _ _ _ _ e=>s b u e
theorem Dyn.rul (D:Dyn CN T1 T2 S F ro lc h n as ps ks m H):Rul CN T1 T2 ro H:=⟨D.t,D.r.imp fun dx z=>⟨n,z⟩⟩
theorem Dyn.keep (D:Dyn CN T1 T2 S F ro lc h n as ps ks m H)(k:M8 S F T1 T2 ro H H'){b:Addr}{u:HO}(e:H b=some u)(nS:b≠S)(nF:b≠F)(nr:b≠ro)(nt:∀ ps,u≠.tbl ps):H' b=some u :=
 k b u nS nF (D.t.no e nt).1 (D.t.no e nt).2 nr e
theorem Dyn.nro (D:Dyn CN T1 T2 S F ro lc h n as ps ks m H){b:Addr}{u:HO}(e:H b=some u)(nt:∀ C dx fs,u≠.ins C dx fs):b≠ro:=fun z=>by
 obtain⟨dx,h1⟩:=D.r;rw[z,h1] at e
 cases e
 exact nt _ _ _ rfl
theorem Dyn.nS (D:Dyn CN T1 T2 S F ro lc h n as ps ks m H){b:Addr}{u:HO}(e:H b=some u)(nt:∀ xs,u≠.lst xs):b≠S/\b≠F:=by
 refine⟨fun z=>?_,fun z=>?_⟩
 ·rw[z,D.s] at e
  cases e
  exact nt _ rfl
 ·rw[z,D.f] at e
  cases e
  exact nt _ rfl
theorem Dyn.lst (D:Dyn CN T1 T2 S F ro lc h n as ps ks m H)(k:M8 S F T1 T2 ro H H'){b:Addr}{xs:List V}(nS:b≠S)(nF:b≠F)(e:H b=some (.lst xs)):H' b=some (.lst xs) :=
 D.keep k e nS nF (D.nro e fun _ _ _ z=>nomatch z) fun _ z=>nomatch z
theorem Dyn.tup (D:Dyn CN T1 T2 S F ro lc h n as ps ks m H)(k:M8 S F T1 T2 ro H H'){b:Addr}{xs:List V}(e:H b=some (.tup xs)):H' b=some (.tup xs) :=
 D.keep k e (D.nS e fun _ z=>nomatch z).1 (D.nS e fun _ z=>nomatch z).2 (D.nro e fun _ _ _ z=>nomatch z) fun _ z=>nomatch z
theorem Dyn.ins (D:Dyn CN T1 T2 S F ro lc h n as ps ks m H)(k:M8 S F T1 T2 ro H H'){b C dx:Addr}{fs:List (Str×V)}(e:H b=some (.ins C dx fs))(nr:b≠ro):H' b=some (.ins C dx fs) :=
 D.keep k e (D.nS e fun _ z=>nomatch z).1 (D.nS e fun _ z=>nomatch z).2 nr fun _ z=>nomatch z
theorem Dyn.pair (D:Dyn CN T1 T2 S F ro lc h n as ps ks m H)(k:M8 S F T1 T2 ro H H'){p:Addr}(q:aL5 S F H p):aL5 S F H' p:=by
 obtain⟨f1,f2,as',bs',ks',n1,n2,n3,e1,e2,e3,c1,c2⟩:=q;exact⟨f1,f2,as',bs',ks',n1,n2,n3,D.lst k n1.1 n1.2 e1,D.lst k n2.1 n2.2 e2,D.lst k n3.1 n3.2 e3,h8.same (fun b xs z=>D.tup k z) c1,h8.same (fun b xs z=>D.tup k z) c2⟩
theorem Dyn.same (D:Dyn CN T1 T2 S F ro lc h n as ps ks m H)(s:j0 H H'):Dyn CN T1 T2 S F ro lc h n as ps ks m H' :=
 ⟨s _ _ D.s,s _ _ D.f,D.pl,s _ _ D.l,D.lS,D.lF,D.FS,h8.same (fun b xs z=>s _ _ z) D.c,D.hin,D.up,D.one,D.kl,fun x hx=>D.pair (C3 s) (D.pr x hx),D.r.imp fun dx z=>s _ _ z,D.t.same s⟩
theorem Dyn.next (D:Dyn CN T1 T2 S F ro lc h n as ps ks m H):Dyn CN T1 T2 S F ro lc h n as ps ks (m + 1) H :=
 ⟨D.s,D.f,Nat.le_succ_of_le D.pl,D.l,D.lS,D.lF,D.FS,D.c,D.hin,D.up,D.one,Nat.le_succ_of_le D.kl,D.pr,D.r,D.t⟩
theorem Dyn.new (D:Dyn CN T1 T2 S F ro lc h n as ps ks m H){H1:Hp}(s:j0 H H1){b:Addr}(e:H1 b=none):b≠S/\b≠F :=
 ⟨fun z=>(h9 (s _ _ D.s) e) z.symm,fun z=>(h9 (s _ _ D.f) e) z.symm⟩
theorem Dyn.fin (D:Dyn CN T1 T2 S F ro lc h n as ps ks m H)(k:M8 S F T1 T2 ro H H'){lc' pr:Addr}{n':Int}{as':List Addr}{ks':List Call}(hs:H' S=some (.lst [.ref lc',.int n',.ref F,.int (h.i * h.c)]))(hf:H' F=some (.lst ((ps++[pr]).map V.ref)))
  (hl:H' lc'=some (.lst (as'.map V.ref)))(nl:lc'≠S/\lc'≠F)(hc:h8 H' as' ks')(hin:∀ k∈ks',k.In h)(up:ks'.Pairwise fun k k'=>k.c < k'.c)(one:∀ k∈ks',∀ k'∈ks',∀ e,e∈k.es->e∈k'.es->k=k')(kl:ks'.length<=m + 1)
  (hp:aL5 S F H' pr)(hr:A2 CN ro H' n')(ht:Tabs T1 T2 H'):Dyn CN T1 T2 S F ro lc' h n' as' (ps++[pr]) ks' (m + 1) H':=by
 refine⟨hs,hf,?_,hl,nl.1,nl.2,D.FS,hc,hin,up,one,kl,fun x hx=>?_,hr,ht⟩
 ·have:=D.pl
  rw[length_append,length_singleton];lia
 ·rcases List.mem_append.mp hx with z | z
  ·exact D.pair k (D.pr x z)
  ·rw[mem_singleton.mp z]
   exact hp
end
def aL0 (CN T1 T2:Addr):Sp:=fun vs H Q _=>∃(S F ro lc:Addr)(h:Hall)(n n0:Int)(as ps:List Addr)(ks:List Call)(m:Nat),vs=[.ref S,.int n0]/\Dyn CN T1 T2 S F ro lc h n as ps ks m H/\h.Ok/\m < 60 /\
 ∀(lc':Addr)(as' ps':List Addr)(ks':List Call)(H':Hp),M8 S F T1 T2 ro H H'->Dyn CN T1 T2 S F ro lc' h n as' ps' ks' (m + 1) H'->Q (.bl true) H'
theorem aL1 {T:Addr}{pos:Pos}{q:Str}{G:Hp}{S:Addr}{xs ys:List V}(e:G S=some (.lst xs))(t:F5 G T pos q):F5 (upd G S (.lst ys)) T pos q:=by
 obtain⟨ps,ht⟩:=C0 t;have nt:T≠S:=fun z=>by rw[z,e] at ht;cases ht
 rcases t with t | ⟨c',t1,t2⟩
 ·exact .inl (by rw[h7 nt];exact t)
 ·exact .inr ⟨c',by rw[h7 nt];exact t1,by rw[h7 (fun z=>by rw[z,e] at t2;cases t2)];exact t2⟩
theorem ab2 {T1 T2:Addr}{G:Hp}{S:Addr}{xs ys:List V}(e:G S=some (.lst xs))(t:Tabs T1 T2 G):Tabs T1 T2 (upd G S (.lst ys)):=⟨t.ne,aL1 e t.f,aL1 e t.e⟩
theorem W2 {CN ro:Addr}{n:Int}{G:Hp}{S:Addr}{xs ys:List V}(e:G S=some (.lst xs))(t:A2 CN ro G n):A2 CN ro (upd G S (.lst ys)) n:=t.imp fun dx z=>by
 rw[h7 (fun y=>by rw[y,e] at z;cases z)]
 exact z
section
variable {P:Program}{w:World}{K:Frag}{mg:Str->Option Value}{base:Heap}{aw ah ae aj av ad aq ao af ar ap am aa au:Addr}{ak ag:Addr}
theorem aQ3 (Z:TxtC K mg aw ah ae aj av ad aq ao af ar ap am aa au):KindOk K ap ad [af,am,aa,ap,ar,au,aq,ao] [false,false,false,true,false,false,false,false] 3 :=
 ⟨Z.mH,Z.gL,Z.mh,.cons Z.iZ (.cons Z.jG (.cons Z.iQ (.cons Z.jF (.cons Z.ja (.cons Z.jb (.cons Z.iY (.cons Z.iP .nil))))))),by decide,rfl,(fun m hm=>by match m,hm with | 0,_=>rfl | 1,_=>rfl | 2,_=>rfl),by decide⟩
theorem y9:FnScope ["_law_state","_law_number_here","_law_calls","_law_caller","_law_left","_law_handed","_law_refused","_law_found","_law_e"] ["_law_state","_law_number_here"] (d7 (top 60)):=mkF
set_option maxHeartbeats 4000000 in
theorem aT2 (T:Txt K mg)(Z:TxtC K mg aw ah ae aj av ad aq ao af ar ap am aa au)(mn:CalleeF P w K mg base 3 "ended" ["calls","caller"] [] (aJ1 K ap))(fJ:Callee P w K mg base 1 "_law_kind" ["_law_e"] (aD3 K ad [af,am,aa,ap,ar,au,aq,ao]))(aI:Callee P w K mg base 4 "_law_alike" ["_law_found","_law_due_here"] (W8 3))(D:Def K mg "_law_end" (top 60) ["_law_state","_law_number_here"]):Callee P w K mg base 5 "_law_end" ["_law_state","_law_number_here"] (aL0 aj ak ag):=by
 refine D.ok y9 (fun vs H Q E h=>?_) (fun f cdv A outer s H vs Q E hr h=>?_)
 ·obtain⟨S,F,ro,lc,h,n,n0,as,ps,ks,m,rfl,_⟩:=h
  rfl
 obtain⟨S,F,ro,lc,h,n,n0,as,ps,ks,m,rfl,D0,ok,m60,q⟩:=h;have la:as.length=ks.length:=Paired.length D0.c;have kl:=D0.kl;have oi:=ok.ic
 refine⟨_,(g6 (i0 (i:=2) y9.nd rfl (Or.inl rfl) (j3 (m3 K) (pv 0) d9 (fun _ _=>rfl)))
  (g6 (i0 (i:=3) y9.nd rfl (Or.inr rfl) (i5 p0 (i5 p0 (i5 r9 (pv 1) d9) d9) (j3 (m3 K) (pv 0) d9 (fun _ _=>rfl))))
  (g6 (m7 (PW.pt (ar1 (i4 B2 (i5 p0 (pv 1) d9) d9 (j5 _)) (ag1 (i4 (aS2 K (Room.units0 hr)) (pv 2) (r6 d8) (j5 _))))) (g9 (i0 (i:=3) y9.nd rfl (Or.inr rfl) (j3 (j1 K) (j3 (m3 K) (pv 2) (i5 p0 (i5 p0 (i5 r9 (pv 1) d9) d9) (i8 (y0 K) rfl T.cz boot_len (b8 (pv 2) d8 b9))) (fun _ _=>rfl)) d9 (fun _ _=>rfl)))) j7)
  (g6 (aq6 (i:=4) (own:=["_law_call"]) (fr:=[(3,"_law_caller")]) rfl y9.nd rfl rfl (show CompScope ["_law_state","_law_number_here","_law_calls","_law_caller","_law_left","_law_handed","_law_refused","_law_found","_law_e"] (d7 (top 60)) _ _ _ from⟨rfl,by decide +kernel,by decide +kernel,by decide +kernel,by decide +kernel⟩) (o4 K (pv 2)) (fun cl C s H ex=>⟨(m5 (i:=0) (show(["_law_call","_law_caller"]:List Str).Nodup from by decide +kernel) rfl (Or.inl rfl) (Or.inr rfl)),(L7 (i4 ap3 (j3 (j1 K) (pv 0) d9 (fun _ _=>rfl)) (pv 1) (j5 _))),(pv 0)⟩) rfl)
  (g6 (i0 (i:=5) y9.nd rfl (Or.inl rfl) (p7 (B6 K) rfl T.cY boot_list (b8 (pv 2) d8 b9)))
  (g6 (i0 (i:=6) y9.nd rfl (Or.inl rfl) t9)
  (g6 (i0 (i:=7) y9.nd rfl (Or.inl rfl) t9)
  (g6 (aK5 (c:=.ref ad) (i:=8) rfl Z.eO y9.nd rfl rfl rfl rfl rfl (fun pn E =>
  (g9 (i0 (i:=7) y9.nd rfl (Or.inl rfl) (X8 0 mn Q7 hr rfl (b8 (pv 5) (b8 (pv 3) d8 b9) b9))))) (fun ea =>
  (g9 (i0 (i:=6) y9.nd rfl (Or.inl rfl) (pv 8)))))
  (g6 (m7 (i4 (ah0 K (Room.units0 hr)) (pv 5) (pv 2) (j5 _)) (g9 (i7 P6)) j7)
  (g6 (m7 (i4 (a07 K (aX0 K) (Room.units3 hr)) (pv 4) (pv 2) (j5 _)) (g9 (i7 (P9 (J7 Z2 (pv 6) t9 (j5 _)) (R6 (J7 B2 (m9 fJ hr rfl (b8 (pv 6) d8 b9)) d9 (j5 _)))))) j7)
  (g6 (aq4 (pv 4) (aF7 (pv 0) d9 aa3))
  (g6 (A4 (C4 K PySem.F.plainAttrs_list PySem.F.slot_list_append PySem.F.type_list_append x8 (j3 (m3 K) (pv 0) d9 (fun _ _=>rfl)) (b8 (r6 (b8 (pv 7) (b8 (p7 (B6 K) rfl T.cY boot_list (b8 (pv 4) d8 b9)) d8 n6) b9)) d8 ag0)))
  (g9 (i7 (P9 (J7 O7 (pv 6) t9 (j5 _)) (R6 (m9 aI hr rfl (b8 (pv 7) (b8 (pv 4) d8 b9) b9)))))))))))))))))),?_⟩
 refine⟨_,rfl,S,_,_,_,rfl,rfl,SqL.of D0.s,rfl,?_⟩;refine⟨_,rfl,_,_,rfl,rfl,.inr ⟨by decide,by decide⟩,_,_,rfl,rfl,(by show(0:Int) < 999953;decide),_,rfl,S,_,_,_,rfl,rfl,SqL.of D0.s,rfl,_,_,rfl,rfl,(by show(0:Int) < h.i * h.c;lia),?_⟩
 dsimp only[Q4,ap5]
 refine aa4 (fun σ' G=>j0 H G/\∃ c:Int,σ'=[some (.ref S),some (.int n0),some (.ref lc),some (.int c),none,none,none,none,none]) (fun R rest=>?_) ?_
 ·refine⟨_,rfl,_,_,rfl,rfl,(by show(0:Int) < 2;decide),rfl,_,rfl,?_⟩
  refine z8 (fun z=>?_) (fun z=>rest _ _ ⟨j0.refl _,_,rfl⟩);refine⟨_,rfl,(by show 0<=sizeLine;decide),fun nl hnl=>?_⟩
  have s1:=g7 hnl (.lst []);have e1:=d6 (H:=H) (a:=nl) (o:=.lst []);generalize upd H nl (.lst [])=H1 at s1 e1 ⊢;refine⟨lc,nl,_,rfl,rfl,SqL.of (s1 _ _ D0.l),SqL.of e1,_,rfl,?_⟩;refine z8 (fun z2=>?_) (fun z2=>rest _ _ ⟨s1,_,rfl⟩)
  have hpos:0 < as.length:=by
   cases as with
   | nil=>exact absurd z2 (by decide)
   | cons x t=>exact Nat.succ_pos _
  have hm:=as7 (x:=n0 * 742938285 % 999959) (d:=(as.length:Int)) (by lia)
  have hlt:(n0 * 742938285 % 999959 % (as.length:Int)).toNat < as.length:=by lia
  have ea:as[(n0 * 742938285 % 999959 % (as.length:Int)).toNat]? = some (as[(n0 * 742938285 % 999959 % (as.length:Int)).toNat]'hlt):=List.getElem?_eq_getElem hlt;obtain⟨k,hk,ce,c1,c2⟩:=j8 D0.c _ _ ea
  have at1:atI (as.map V.ref) (n0 * 742938285 % 999959 % (as.length:Int))=some (.ref (as[(n0 * 742938285 % 999959 % (as.length:Int)).toNat]'hlt)):=by
   have:=A0 (xs:=as.map V.ref) (j:=(n0 * 742938285 % 999959 % (as.length:Int)).toNat) (v:=.ref (as[(n0 * 742938285 % 999959 % (as.length:Int)).toNat]'hlt)) (by rw[List.getElem?_map,ea];rfl)
   rwa [Int.toNat_of_nonneg hm.1] at this
  refine⟨_,rfl,_,rfl,_,_,rfl,rfl,.inr ⟨by decide,by decide⟩,_,_,rfl,rfl,(by show(0:Int) < 999959;decide),_,rfl,lc,_,rfl,.inl (SqL.of (s1 _ _ D0.l)),_,_,rfl,rfl,?_,lc,_,_,_,rfl,rfl,SqL.of (s1 _ _ D0.l),?_,_,_,_,_,rfl,rfl,SqT.of (s1 _ _ c2),rfl,rest _ _ ⟨s1,_,rfl⟩⟩
  ·rw[length_map]
   show(0:Int) < ((as.length:Nat):Int)
   lia
  ·rw[length_map]
   exact at1
 rintro σ' G ⟨s1,c,rfl⟩
 have D1:=D0.same s1;refine⟨_,rfl,lc,rfl,⟨_,SqL.of D1.l⟩,?_⟩
 refine x9 (xs:=as.map V.ref) (fun i acc σ H'=>H'=G/\acc=(z6 (as.take i) (ks.take i) c).map V.ref/\∃ v,σ=[v,some (.int c)])
  ⟨rfl,rfl,none,rfl⟩ (Nat.le_of_lt (j6 (by rw[length_map];lia))) (fun i acc σ H' g=>?_) (fun i acc σ H' _ g=>g.1 ▸ SqL.of D1.l) ?_ ?_
 ·obtain⟨_,rfl,_⟩:=g
  have:=V9 (as.take i) (ks.take i) c
  rw[length_map];rw[length_take] at this;lia
 ·rintro i y acc σ H' hy ⟨rfl,rfl,v,rfl⟩
  rw[List.getElem?_map] at hy;obtain⟨a',ha',rfl⟩:=Option.map_eq_some_iff.mp hy;obtain⟨k',hk',hca⟩:=j8 D1.c i a' ha';obtain⟨ce,e1,e2⟩:=hca
  have st:z6 (as.take (i + 1)) (ks.take (i + 1)) c=z6 (as.take i) (ks.take i) c++(if k'.c=c then [] else [a']):=by
   rw[take_succ,take_succ,ha',hk'];exact Z0 (by rw[length_take,length_take,la])
  refine⟨_,rfl,a',_,_,_,rfl,rfl,SqT.of e2,rfl,_,rfl,rfl,_,rfl,?_⟩;refine z8 (fun cc=>?_) (fun cc=>?_)
  ·have cc':¬ k'.c=c:=by simpa using cc
   refine⟨_,rfl,rfl,?_,_,rfl⟩;rw[st,if_neg cc',map_append];rfl
  ·have cc':k'.c=c:=by simpa using cc
   refine⟨rfl,?_,_,rfl⟩;rw[st,if_pos cc',append_nil]
 rintro acc σ H' ⟨rfl,rfl,v,rfl⟩ le hle
 rw[length_map,take_length,la,take_length];have nle:=D1.new (j0.refl _) hle;have ele:=d6 (H:=H') (a:=le) (o:=.lst ((z6 as ks c).map V.ref));have s2:=g7 hle (.lst ((z6 as ks c).map V.ref));generalize upd H' le (.lst ((z6 as ks c).map V.ref))=H2 at ele s2 ⊢;have s12:=s1.trans s2;have D2:=D1.same s2;have cl2:=aJ6 (c:=c) D2.c;have ll:=V9 as ks c;refine⟨_,rfl,lc,_,rfl,.inl (SqL.of D2.l),fun hd hhd=>?_⟩;have ehd:=d6 (H:=H2) (a:=hd) (o:=.lst (as.map V.ref));have s3:=g7 hhd (.lst (as.map V.ref));generalize upd H2 hd (.lst (as.map V.ref))=H3 at ehd s3 ⊢;have D3:=D2.same s3;have ele3:=s3 _ _ ele;have cl3:h8 H3 (z6 as ks c) (ks.filter fun k=>decide (k.c≠c)):=h8.same (fun b xs z=>s3 _ _ z) cl2;have s13:=s12.trans s3
 by_cases hin:∃ k∈ks,k.c=c
 ·refine⟨fun _ _ _ _=>False,?_,fun σ' c0 d H' z=>z.elim⟩
  refine⟨_,rfl,_,rfl,hd,.int c,as,ks,rfl,SqL.of ehd,D3.c,by lia,.int c,.inl ⟨c,rfl,hin,fun fo hfo=>?_⟩⟩
  have nfo:=D3.new (j0.refl _) hfo;have efo:=d6 (H:=H3) (a:=fo) (o:=.lst ((z6 as ks c).map V.ref));have s4:=g7 hfo (.lst ((z6 as ks c).map V.ref));generalize upd H3 fo (.lst ((z6 as ks c).map V.ref))=H4 at efo s4 ⊢;have D4:=D3.same s4;have ele4:=s4 _ _ ele3;have s14:=s13.trans s4;have cl4:h8 H4 (z6 as ks c) (ks.filter fun k=>decide (k.c≠c)):=h8.same (fun b xs z=>s4 _ _ z) cl3;refine⟨_,rfl,_,rfl,hd,lc,_,rfl,rfl,SqL.of (s4 _ _ ehd),SqL.of D4.l,Q5 as,_,rfl,B7 ?_⟩;refine⟨_,rfl,_,rfl,_,_,⟨le,_,rfl,SqL.of ele4,S0 cl4⟩,⟨lc,_,rfl,SqL.of D4.l,S0 D4.c⟩,_,rfl,ab7 ?_ ?_⟩
  ·intro z
   have z':=aX9 (of_decide_eq_true z);obtain⟨k,hk,hc⟩:=hin;have hk2:=hk;rw[<- z'] at hk2
   have:=(List.mem_filter.mp hk2).2
   exact absurd hc (of_decide_eq_true this)
  refine⟨_,rfl,_,rfl,S,_,0,0,rfl,rfl,D4.s,rfl,?_⟩;have u5:∀ b u,b≠S->H4 b=some u->upd H4 S (.lst ([V.ref lc,.int n,.ref F,.int (h.i * h.c)].set 0 (.ref le))) b=some u:=fun b u nb z=>by rw[h7 nb];exact z
  have es5:upd H4 S (.lst ([V.ref lc,.int n,.ref F,.int (h.i * h.c)].set 0 (.ref le))) S=some (.lst [.ref le,.int n,.ref F,.int (h.i * h.c)]):=d6;have t5:Tabs ak ag (upd H4 S (.lst ([V.ref lc,.int n,.ref F,.int (h.i * h.c)].set 0 (.ref le)))):=ab2 D4.s D4.t;have r5:A2 aj ro (upd H4 S (.lst ([V.ref lc,.int n,.ref F,.int (h.i * h.c)].set 0 (.ref le)))) n:=W2 D4.s D4.r;generalize upd H4 S (.lst ([V.ref lc,.int n,.ref F,.int (h.i * h.c)].set 0 (.ref le)))=H5 at u5 es5 t5 r5 ⊢;have ele5:=u5 _ _ nle.1 ele4;have efo5:=u5 _ _ nfo.1 efo;have ef5:=u5 _ _ D0.FS D4.f;refine⟨_,rfl,S,_,_,_,rfl,rfl,SqL.of es5,rfl,.inl ⟨rfl,_,SqL.of ef5⟩,_,rfl,_,rfl,le,_,rfl,.inl (SqL.of ele5),fun cp hcp=>?_⟩;have ncp:cp≠S/\cp≠F:=⟨fun z=>(h9 es5 hcp) z.symm,fun z=>(h9 ef5 hcp) z.symm⟩;have ecp:=d6 (H:=H5) (a:=cp) (o:=.lst ((z6 as ks c).map V.ref));have s6:=g7 hcp (.lst ((z6 as ks c).map V.ref));generalize upd H5 cp (.lst ((z6 as ks c).map V.ref))=H6 at ecp s6 ⊢;refine⟨(by show 2<=sizeLine;decide),fun pr hpr=>?_⟩
  have es6:=s6 _ _ es5;have ef6:=s6 _ _ ef5;have npr:pr≠S/\pr≠F:=⟨fun z=>(h9 es6 hpr) z.symm,fun z=>(h9 ef6 hpr) z.symm⟩;have epr:=d6 (H:=H6) (a:=pr) (o:=.lst [.ref fo,.ref cp]);have s7':=g7 hpr (.lst [.ref fo,.ref cp]);generalize upd H6 pr (.lst [.ref fo,.ref cp])=H7 at epr s7' ⊢;have s7:=s6.trans s7';have es7:=s7 _ _ es5;have ef7:=s7 _ _ ef5;have pl:=D0.pl;refine⟨F,ps.map V.ref,.ref pr,rfl,rfl,ef7,j6 (by rw[length_map];lia),?_⟩
  have ef8:upd H7 F (.lst (ps.map V.ref++[.ref pr])) F=some (.lst ((ps++[pr]).map V.ref)):=by rw[d6,map_append];rfl
  have u8:∀ b u,b≠F->H7 b=some u->upd H7 F (.lst (ps.map V.ref++[.ref pr])) b=some u:=fun b u nb z=>by rw[h7 nb];exact z
  have t8:Tabs ak ag (upd H7 F (.lst (ps.map V.ref++[.ref pr]))):=ab2 ef7 (t5.same s7);have r8:A2 aj ro (upd H7 F (.lst (ps.map V.ref++[.ref pr]))) n:=W2 ef7 (r5.imp fun dx z=>s7 _ _ z);generalize upd H7 F (.lst (ps.map V.ref++[.ref pr]))=H8 at ef8 u8 t8 r8 ⊢;have all:M8 S F ak ag ro H4 H8:=fun b u nS nF _ _ _ z=>u8 b u nF (s7 b u (u5 b u nS z));have tt:∀ b xs,H4 b=some (.tup xs)->H8 b=some (.tup xs):=fun b xs z=>D4.tup all z;have efo8:=u8 _ _ nfo.2 (s7 _ _ efo5);have ele8:=u8 _ _ nle.2 (s7 _ _ ele5);have ecp8:=u8 _ _ ncp.2 (s7' _ _ ecp);have epr8:=u8 _ _ npr.2 epr;have es8:=u8 _ _ (Ne.symm D0.FS) es7;have cl8:=h8.same tt cl4
  have few:∀ κ∈ks.filter (fun k=>decide (k.c≠c)),κ.es.length<=1000:=fun κ hκ=>by
   have:=(D0.hin κ (List.mem_filter.mp hκ).1).few
   lia
  refine⟨_,rfl,rfl,_,rfl,M1 ?_⟩;refine⟨_,rfl,_,rfl,_,_,rfl,.inr ⟨fo,le,_,_,rfl,rfl,.inl ⟨efo8,ele8⟩,U8 cl8 cl8 few,by rw[length_map];lia⟩,?_⟩
  refine q le _ _ _ H8 ((C3 s14).trans all) (D4.fin all es8 ef8 ele8 nle cl8 (fun k hk=>D0.hin k (List.mem_filter.mp hk).1) (D0.up.filter _) (fun k hk k' hk'=>D0.one k (List.mem_filter.mp hk).1 k' (List.mem_filter.mp hk').1) ?_ ⟨fo,cp,_,_,_,npr,nfo,ncp,epr8,efo8,ecp8,cl8,cl8⟩ r8 t8)
  have:=length_filter_le (fun k:Call=>decide (k.c≠c)) ks
  lia
 ·have hno:∀ k∈ks,k.c≠c:=fun k hk z=>hin ⟨k,hk,z⟩
  have fl:ks.filter (fun k=>decide (k.c≠c))=ks:=List.filter_eq_self.mpr fun k hk=>decide_eq_true (hno k hk);refine⟨fun σ' c0 d H'=>c0=.ref ap/\d=none/\H'=H3/\σ'=[some (.ref S),some (.int n0),some (.ref lc),some (.int c),some (.ref le),some (.ref hd),some .non,some .non,none],?_,?_⟩
  ·exact⟨_,rfl,_,rfl,hd,.int c,as,ks,rfl,SqL.of ehd,D3.c,by lia,.int c,.inr ⟨fun c' z k hk=>by cases z;exact hno k hk,rfl,rfl,rfl,rfl⟩⟩
  ·rintro σ' c0 d G' ⟨rfl,rfl,rfl,rfl⟩
   refine⟨rfl,Z.mi,fun ea C hc hea=>?_⟩
   cases hc
   have s4:=g7 hea (Q0 ea ap none);have eea:=d6 (H:=G') (a:=ea) (o:=Q0 ea ap none);generalize upd G' ea (Q0 ea ap none)=H4 at s4 eea ⊢;have D4:=D3.same s4;have cl4:h8 H4 (z6 as ks c) (ks.filter fun k=>decide (k.c≠c)):=h8.same (fun b xs z=>s4 _ _ z) cl3;refine⟨_,rfl,?_⟩;refine⟨_,rfl,_,rfl,hd,lc,_,rfl,rfl,SqL.of (s4 _ _ ehd),SqL.of D4.l,Q5 as,_,rfl,B7 ?_⟩;refine⟨_,rfl,_,rfl,_,_,⟨le,_,rfl,SqL.of (s4 _ _ ele3),S0 cl4⟩,⟨lc,_,rfl,SqL.of D4.l,S0 D4.c⟩,_,rfl,aV8 (decide_eq_true (by rw[fl])) ?_⟩
   refine⟨_,rfl,rfl,_,rfl,M1 ⟨_,rfl,ea,ap,none,_,3,rfl,eea,aQ3 Z,fun H5 s5=>⟨rfl,?_⟩⟩⟩;rw[show decide (V.int ((3:Nat):Int)=V.int 3)=true from decide_eq_true rfl];exact q lc as ps ks H5 (C3 (s13.trans (s4.trans s5))) (D4.same s5).next
end
def aJ3 (K:Frag)(CR CF CE CT CN T1 T2 CB CG:Addr):Sp:=fun vs H Q _=>∃(a l e:Addr)(h:Hall)(as:List Addr)(ks:List Call)(c:Int)(es:List Int)(rv:V)(sh:Int)(ro:Addr)(n:Int)(kd:Kind),vs=[.ref a,.ref l,.int c,.ref e,rv,.int sh]/\SqT K H a (h.row.map V.int)/\h.Ok/\H l=some (.lst (as.map V.ref))/\h8 H as ks/\(∀ k∈ks,k.In h)/\(ks.Pairwise fun k k'=>k.c≠k'.c)/\ks.length < 63/\EndTh K H (.ref e) (some (es.map V.int))/\es.length < 64/\m8 (.int c) 0 (h.i * h.c - 1)=true/\F8 h (some (es.map V.int))=true/\RuleIs CR CF CE CT ro H rv kd/\Tabs T1 T2 H/\A2 CN ro H n /\
 (∀(w:Int)(dx ea t:Addr)(H':Hp),j0 H H'->E9 ks c es w->H' dx=some (XdO dx [("who",.int w)])->H' ea=some (Q0 ea CB (some dx))->H' t=some (.tup [.non,.ref ea])->Q (.ref t) H') /\
 (N6 ks c es->w4 h ks c es sh=[]->∀(dx nh ea t:Addr)(nas:List Addr)(nlv:V)(o:Option (List Int))(H':Hp),j0 H H'->N3 h ks c es sh o->EngAt H' dx (A6 h ks c es) o nh nas nlv->H' ea=some (Q0 ea CG (some dx))->H' t=some (.tup [.non,.ref ea])->Q (.ref t) H') /\
 (N6 ks c es->∀(k:Nat)(n2:Int),k∈w4 h ks c es sh->Chosen n ks ((w4 h ks c es sh).map fun(k:Nat)=>(k:Int)) kd (k:Int) n2->∀(r t:Addr)(bs:List Addr)(ks':List Call)(es':List Int)(H':Hp),Q2 T1 T2 ro H H'->Tabs T1 T2 H'->A2 CN ro H' n2->H' r=some (.lst (bs.map V.ref))->H r=none->h8 H' bs ks'->es'.Perm es->es'.Pairwise (·<=·)->ks'.Perm (ks++[⟨c,es',k⟩])->ks'.Pairwise (fun k k'=>k.c < k'.c)->H' t=some (.tup [.ref r,.non])->Q (.ref t) H')
theorem EngAt.same {H H':Hp}{dx:Addr}{rows:List (List Int)}{o:Option (List Int)}{nh:Addr}{nas:List Addr}{nlv:V}(s:j0 H H')(g:EngAt H dx rows o nh nas nlv):EngAt H' dx rows o nh nas nlv:=by
 refine⟨s _ _ g.d,s _ _ g.h,Paired.mapP g.rows fun a r z=>s _ _ z,g.nd,?_⟩
 have:=g.l
 cases o with
 | none=>exact this
 | some ms =>
  obtain⟨m,y1,y2,y3,y4⟩:=this;exact⟨m,y1,y2,y3,s _ _ y4⟩
theorem RuleIs.ref {CR CF CE CT ro:Addr}{H:Hp}{rv:V}{kd:Kind}(h:RuleIs CR CF CE CT ro H rv kd):rv=.non\/∃ p,rv=.ref p:=by
 cases h with
 | non=>exact .inl rfl
 | _=>exact .inr ⟨_,rfl⟩
section
variable {P:Program}{w:World}{K:Frag}{mg:Str->Option Value}{base:Heap}{aw ah ae aj av ad aq ao af ar ap am aa au:Addr}{ak ag:Addr}
theorem y7:FnScope ["_law_hall_here","_law_handed","_law_caller","_law_ends_here","_law_rule","_law_halted","_law_refused","_law_found","_law_e"] ["_law_hall_here","_law_handed","_law_caller","_law_ends_here","_law_rule","_law_halted"] (d7 (top 61)):=mkF
set_option maxHeartbeats 4000000 in
theorem aT3 (T:Txt K mg)(Z:TxtC K mg aw ah ae aj av ad aq ao af ar ap am aa au)(gW:CalleeFK P w K mg base 7 "joined" ["hall","calls","caller","ends","rule","shut"] [.non,.int 0] "shut" (.non) (aj1 K aw ah ae av aj ak ag af am aa))(D:Def K mg "_law_asked" (top 61) ["_law_hall_here","_law_handed","_law_caller","_law_ends_here","_law_rule","_law_halted"]):Callee P w K mg base 8 "_law_asked" ["_law_hall_here","_law_handed","_law_caller","_law_ends_here","_law_rule","_law_halted"] (aJ3 K aw ah ae av aj ak ag am aa):=by
 refine D.ok y7 (fun vs H Q E h=>?_) (fun f cdv A outer s H vs Q E hr h=>?_)
 ·obtain⟨a,l,e,h,as,ks,c,es,rv,sh,ro,n,kd,rfl,_⟩:=h
  rfl
 obtain⟨a,l,e,h,as,ks,c,es,rv,sh,ro,n,kd,rfl,hH,ok,el,hC,hin,nc,h63,ey,l64,w1,w2,hrv,tabs,hro,qB,qG,qR⟩:=h
 refine⟨_,(g6 (i0 (i:=6) y7.nd rfl (Or.inl rfl) t9)
  (g6 (i0 (i:=7) y7.nd rfl (Or.inl rfl) t9)
  (g6 (aK5 (c:=.ref ad) (i:=8) rfl Z.eO y7.nd rfl rfl rfl rfl rfl (fun pn E =>
  (g9 (m7 (PW.pt (ar1 (i4 O7 (pv 4) t9 (j5 _)) (ag1 (i4 B2 (pv 5) d9 (j5 _))))) (g9 (i0 (i:=7) y7.nd rfl (Or.inl rfl) (X8 0 gW.toF Q7 hr rfl (b8 (pv 0) (b8 (pv 1) (b8 (pv 2) (b8 (pv 3) d8 b9) b9) b9) b9)))) (g9 (m7 (i4 O7 (pv 4) t9 (j5 _)) (g9 (i0 (i:=7) y7.nd rfl (Or.inl rfl) (a69 gW Q7 hr rfl (b8 (pv 0) (b8 (pv 1) (b8 (pv 2) (b8 (pv 3) d8 b9) b9) b9) b9) (pv 5)))) (g9 (m7 (i4 B2 (pv 5) d9 (j5 _)) (g9 (i0 (i:=7) y7.nd rfl (Or.inl rfl) (X8 1 gW.toF Q7 hr rfl (b8 (pv 0) (b8 (pv 1) (b8 (pv 2) (b8 (pv 3) (b8 (pv 4) d8 b9) b9) b9) b9) b9)))) (g9 (i0 (i:=7) y7.nd rfl (Or.inl rfl) (X8 2 gW.toF Q7 hr rfl (b8 (pv 0) (b8 (pv 1) (b8 (pv 2) (b8 (pv 3) (b8 (pv 4) (b8 (pv 5) d8 b9) b9) b9) b9) b9) b9))))))))))) (fun ea =>
  (g9 (i0 (i:=6) y7.nd rfl (Or.inl rfl) (pv 8)))))
  (g9 (i7 (O9 (b8 (pv 7) (b8 (pv 6) d8 b9) b9))))))),?_⟩
 refine⟨fun σ' c0 d H'=>σ'=[some (.ref a),some (.ref l),some (.int c),some (.ref e),some rv,some (.int sh),some .non,some .non,none]/\j0 H H'/\((c0=.ref am/\∃ w dx,d=some dx/\E9 ks c es w/\H' dx=some (XdO dx [("who",.int w)]))\/(c0=.ref aa/\N6 ks c es/\w4 h ks c es sh=[]/\∃(dx nh:Addr)(nas:List Addr)(nlv:V)(o:Option (List Int)),d=some dx/\N3 h ks c es sh o/\EngAt H' dx (A6 h ks c es) o nh nas nlv)),?_,?_⟩
 ·have key:∀{rv':V}{sh':Int}(Q':VK)(E':XK),rv'=rv->sh'=sh->(∀ c0 d H',j0 H H'/\((c0=.ref am/\∃ w dx,d=some dx/\E9 ks c es w/\H' dx=some (XdO dx [("who",.int w)]))\/(c0=.ref aa/\N6 ks c es/\w4 h ks c es sh=[]/\∃(dx nh:Addr)(nas:List Addr)(nlv:V)(o:Option (List Int)),d=some dx/\N3 h ks c es sh o/\EngAt H' dx (A6 h ks c es) o nh nas nlv))->E' c0 d H')->(N6 ks c es->∀(k:Nat)(n2:Int),k∈w4 h ks c es sh->Chosen n ks ((w4 h ks c es sh).map fun(k:Nat)=>(k:Int)) kd (k:Int) n2->∀(r:Addr)(bs:List Addr)(ks':List Call)(es':List Int)(H':Hp),Q2 ak ag ro H H'->Tabs ak ag H'->A2 aj ro H' n2->H' r=some (.lst (bs.map V.ref))->H r=none->h8 H' bs ks'->es'.Perm es->es'.Pairwise (·<=·)->ks'.Perm (ks++[⟨c,es',k⟩])->ks'.Pairwise (fun k k'=>k.c < k'.c)->Q' (.ref r) H') ->
    aj1 K aw ah ae av aj ak ag af am aa [.ref a,.ref l,.int c,.ref e,rv',.int sh'] H Q' E':=by
   intro rv' sh' Q' E' e1 e2 hE hq
   subst e1;subst e2;exact⟨a,l,e,h,as,ks,c,es,rv',sh',ro,n,kd,rfl,hH,ok,el,hC,hin,nc,h63,ey,l64,w1,w2,hrv,tabs,hro,fun w dx H' s' b ed=>hE _ _ _ ⟨s',.inl ⟨rfl,w,dx,rfl,b,ed⟩⟩,fun i z dx nh nas nlv o H' s' lo g f=>hE _ _ _ ⟨s',.inr ⟨rfl,i,z,dx,nh,nas,nlv,o,rfl,lo,g⟩⟩,fun i k n2 hk ch r bs ks' es' H' kp tb ra er fr cs pm srt pk up=>hq i k n2 hk ch r bs ks' es' H' kp tb ra er fr cs pm srt pk up⟩
  rcases hrv.ref with z | ⟨p,z⟩
  ·refine⟨_,rfl,rfl,_,rfl,aV8 (decide_eq_true z) ?_⟩
   refine⟨_,rfl,rfl,_,rfl,z8 (fun y=>?_) (fun y=>?_)⟩
   ·have y':sh=0:=V.int.inj (of_decide_eq_true y)
    refine⟨_,rfl,_,rfl,_,rfl,_,rfl,?_⟩
    dsimp only[aq1]
    exact key _ _ z.symm y'.symm (fun c0 d H2 hh=>⟨rfl,hh⟩) fun i k n2 hk ch r bs ks' es' H' kp tb ra er fr cs pm srt pk up=>⟨_,rfl,_,rfl,(by show 2<=sizeLine;decide),fun t ht=>qR i k n2 hk ch r t bs ks' es' _ (kp.trans (C8 (g7 ht _))) (tb.same (g7 ht _)) (ra.imp fun dx y=>g7 ht _ _ _ y) (g7 ht _ _ _ er) fr (h8.same (fun b xs y=>g7 ht _ _ _ y) cs) pm srt pk up d6⟩
   ·refine⟨_,rfl,rfl,_,rfl,aV8 (decide_eq_true z) ⟨_,rfl,_,rfl,_,rfl,_,rfl,_,rfl,?_⟩⟩
    dsimp only[aq1]
    exact key _ _ z.symm rfl (fun c0 d H2 hh=>⟨rfl,hh⟩) fun i k n2 hk ch r bs ks' es' H' kp tb ra er fr cs pm srt pk up=>⟨_,rfl,_,rfl,(by show 2<=sizeLine;decide),fun t ht=>qR i k n2 hk ch r t bs ks' es' _ (kp.trans (C8 (g7 ht _))) (tb.same (g7 ht _)) (ra.imp fun dx y=>g7 ht _ _ _ y) (g7 ht _ _ _ er) fr (h8.same (fun b xs y=>g7 ht _ _ _ y) cs) pm srt pk up d6⟩
  ·have z':¬ (decide (rv=V.non)=true):=fun y=>by rw[z] at y;exact absurd (of_decide_eq_true y) (fun u=>nomatch u)
   refine⟨_,rfl,rfl,_,rfl,ab7 z' ?_⟩;refine⟨_,rfl,rfl,_,rfl,ab7 z' ?_⟩;refine⟨_,rfl,rfl,_,rfl,z8 (fun y=>?_) (fun y=>?_)⟩
   ·have y':sh=0:=V.int.inj (of_decide_eq_true y)
    refine⟨_,rfl,_,rfl,_,rfl,_,rfl,_,rfl,?_⟩
    dsimp only[aq1]
    exact key _ _ rfl y'.symm (fun c0 d H2 hh=>⟨rfl,hh⟩) fun i k n2 hk ch r bs ks' es' H' kp tb ra er fr cs pm srt pk up=>⟨_,rfl,_,rfl,(by show 2<=sizeLine;decide),fun t ht=>qR i k n2 hk ch r t bs ks' es' _ (kp.trans (C8 (g7 ht _))) (tb.same (g7 ht _)) (ra.imp fun dx y=>g7 ht _ _ _ y) (g7 ht _ _ _ er) fr (h8.same (fun b xs y=>g7 ht _ _ _ y) cs) pm srt pk up d6⟩
   ·refine⟨_,rfl,_,rfl,_,rfl,_,rfl,_,rfl,_,rfl,?_⟩
    dsimp only[aq1]
    exact key _ _ rfl rfl (fun c0 d H2 hh=>⟨rfl,hh⟩) fun i k n2 hk ch r bs ks' es' H' kp tb ra er fr cs pm srt pk up=>⟨_,rfl,_,rfl,(by show 2<=sizeLine;decide),fun t ht=>qR i k n2 hk ch r t bs ks' es' _ (kp.trans (C8 (g7 ht _))) (tb.same (g7 ht _)) (ra.imp fun dx y=>g7 ht _ _ _ y) (g7 ht _ _ _ er) fr (h8.same (fun b xs y=>g7 ht _ _ _ y) cs) pm srt pk up d6⟩
 ·rintro σ' c0 d H6 ⟨rfl,s6,hf⟩
  have hkh:exmOne K c0 (.ref ad)=some true:=by
   rcases hf with⟨rfl,_⟩ | ⟨rfl,_⟩
   ·exact Z.ml
   ·exact Z.kL
  refine⟨rfl,hkh,fun ea C hc hea=>?_⟩;have s7:=g7 hea (Q0 ea C d);have eea:=d6 (H:=H6) (a:=ea) (o:=Q0 ea C d);generalize upd H6 ea (Q0 ea C d)=H7 at s7 eea ⊢;refine⟨_,rfl,?_⟩;refine⟨_,rfl,_,rfl,(by show 2<=sizeLine;decide),fun t ht=>?_⟩
  have s8:=g7 ht (.tup [.non,.ref ea]);have et:=d6 (H:=H7) (a:=t) (o:=.tup [.non,.ref ea]);generalize upd H7 t (.tup [.non,.ref ea])=H8 at s8 et ⊢;have s68:=s7.trans s8;have sA:=s6.trans s68
  rcases hf with⟨h1,w,dx,rfl,b,ed⟩ | ⟨h1,i,nw,dx,nh,nas,nlv,o,rfl,lo,g⟩
  ·have ec:C=am:=by rw[h1] at hc;cases hc;rfl
   subst ec;exact qB w dx ea t H8 sA b (s68 _ _ ed) (s8 _ _ eea) et
  ·have ec:C=aa:=by rw[h1] at hc;cases hc;rfl
   subst ec;exact qG i nw dx nh ea t nas nlv o H8 sA lo (g.same s68) (s8 _ _ eea) et
end
structure Stat (CR CF CE CT S F ro p R W:Addr)(h:Hall)(ws:List Int)(H:Hp):Prop where
 p:H p=some (.tup (h.row.map V.int))
 ok:h.Ok
 w:H W=some (.lst (ws.map V.int))
 wS:W≠S/\W≠F
 w24:ws.length<=24
 rs:∃ r1 r2 r3 r5:Addr,H R=some (.lst [.non,.ref r1,.ref r2,.ref r3,.ref ro,.ref r5])/\(r1≠ro/\r2≠ro/\r3≠ro/\r5≠ro)/\(∃ d,H r1=some (.ins CR d []))/\(∃ d,H r2=some (.ins CF d []))/\(∃ d,H r3=some (.ins CE d []))/\∃ d tr,H r5=some (.ins CT d [("racks",.ref tr)])/\H tr=some (.lst (ws.map V.int))/\tr≠S/\tr≠F
 rS:R≠S/\R≠F
theorem Stat.keep {CR CF CE CT CN T1 T2 S F ro lc p R W:Addr}{h:Hall}{n:Int}{as ps:List Addr}{ks:List Call}{m:Nat}{ws:List Int}{H H':Hp}(t:Stat CR CF CE CT S F ro p R W h ws H)(D:Dyn CN T1 T2 S F ro lc h n as ps ks m H)(k:M8 S F T1 T2 ro H H'):Stat CR CF CE CT S F ro p R W h ws H':=by
 obtain⟨r1,r2,r3,r5,eR,⟨n1,n2,n3,n5⟩,⟨d1,e1⟩,⟨d2,e2⟩,⟨d3,e3⟩,d5,tr,e5,et,tS,tF⟩:=t.rs;exact⟨D.tup k t.p,t.ok,D.lst k t.wS.1 t.wS.2 t.w,t.wS,t.w24,⟨r1,r2,r3,r5,D.lst k t.rS.1 t.rS.2 eR,⟨n1,n2,n3,n5⟩,⟨d1,D.ins k e1 n1⟩,⟨d2,D.ins k e2 n2⟩,⟨d3,D.ins k e3 n3⟩,d5,tr,D.ins k e5 n5,D.lst k tS tF et,tS,tF⟩,t.rS⟩
def kindOf (w:Int)(ws:List Int):Kind:=if w=0 then .non else if w=1 then .first else if w=2 then .full else if w=3 then .empt else if w=4 then .round else .told ws
theorem Stat.rule {CR CF CE CT S F ro p R W:Addr}{h:Hall}{ws:List Int}{H:Hp}(t:Stat CR CF CE CT S F ro p R W h ws H){w:Int}(w0:0<=w)(w6:w < 6):∃(xs:List V)(rv:V),H R=some (.lst xs)/\atI xs w=some rv/\RuleIs CR CF CE CT ro H rv (kindOf w ws):=by
 obtain⟨r1,r2,r3,r5,eR,⟨n1,n2,n3,n5⟩,⟨d1,e1⟩,⟨d2,e2⟩,⟨d3,e3⟩,d5,tr,e5,et,tS,tF⟩:=t.rs;obtain rfl | rfl | rfl | rfl | rfl | rfl:w=0\/w=1\/w=2\/w=3\/w=4\/w=5:=by lia
 ·exact⟨_,_,eR,rfl,.non⟩
 ·exact⟨_,_,eR,rfl,.first e1⟩
 ·exact⟨_,_,eR,rfl,.full e2⟩
 ·exact⟨_,_,eR,rfl,.empt e3⟩
 ·exact⟨_,_,eR,rfl,.round⟩
 ·exact⟨_,_,eR,rfl,.told e5 et⟩
theorem aA7 {ks:List Call}{xs ws:List Int}{n w x x' n2:Int}(w0:0<=w)(pk:Pick ks xs ws n w x)(ch:Chosen n ks xs (kindOf w ws) x' n2):x'=x/\n2=if w=4 then x + 1 else n:=by
 cases pk with
 | first h =>
  obtain rfl | rfl:w=0\/w=1:=by lia
  ·have ch':Chosen n ks xs .non x' n2:=ch
   cases ch'
   exact⟨rfl,rfl⟩
  ·have ch':Chosen n ks xs .first x' n2:=ch
   cases ch'
   exact⟨rfl,rfl⟩
 | full hi b =>
  have ch':Chosen n ks xs .full x' n2:=ch
  cases ch' with
  | full hi' b' =>
   obtain rfl:=aB8 (List.getElem?_eq_some_iff.mp hi).1 (List.getElem?_eq_some_iff.mp hi').1 b b';rw[hi] at hi'
   cases hi'
   exact⟨rfl,rfl⟩
 | empt hi b =>
  have ch':Chosen n ks xs .empt x' n2:=ch
  cases ch' with
  | empt hi' b' =>
   obtain rfl:=ax1 (List.getElem?_eq_some_iff.mp hi).1 (List.getElem?_eq_some_iff.mp hi').1 b b';rw[hi] at hi'
   cases hi'
   exact⟨rfl,rfl⟩
 | round =>
  have ch':Chosen n ks xs .round x' n2:=ch
  cases ch'
  exact⟨rfl,rfl⟩
 | told =>
  have ch':Chosen n ks xs (.told ws) x' n2:=ch
  cases ch'
  exact⟨rfl,rfl⟩
theorem E9.one {ks:List Call}(fr:∀ k∈ks,∀ k'∈ks,∀ e,e∈k.es->e∈k'.es->k=k'){c:Int}{es:List Int}{w w':Int}(a:E9 ks c es w)(b:E9 ks c es w'):w=w':=by
 rcases a with⟨⟨k,hk,ek⟩,rfl⟩ | ⟨no,e,he,⟨k,hk,ek,rfl⟩,low⟩
 ·rcases b with⟨_,rfl⟩ | ⟨no,_⟩
  ·rfl
  ·exact absurd ek (no k hk)
 ·rcases b with⟨⟨k',hk',ek'⟩,rfl⟩ | ⟨_,e',he',⟨k',hk',ek',rfl⟩,low'⟩
  ·exact absurd ek' (no k' hk')
  ·have ee:e=e':=by
    rcases Int.lt_trichotomy e e' with z | z | z
    ·exact absurd ek (low' e he z k hk)
    ·exact z
    ·exact absurd ek' (low e' he' z k' hk')
   subst ee;rw[fr k hk k' hk' e ek ek']
theorem E9.not_idle {ks:List Call}{c:Int}{es:List Int}{w:Int}(a:E9 ks c es w)(i:N6 ks c es):False:=by
 rcases a with⟨⟨k,hk,ek⟩,_⟩ | ⟨_,e,he,⟨k,hk,ek,_⟩,_⟩
 ·exact i.1 k hk ek
 ·exact i.2 e he k hk ek
theorem N3.one {h:Hall}{ks:List Call}{c:Int}{es:List Int}{sh:Int}{o o':Option (List Int)}(a:N3 h ks c es sh o)(b:N3 h ks c es sh o'):o=o':=by
 cases o with
 | none =>
  cases o' with
  | none=>rfl
  | some ms =>
   obtain⟨k,lk,_⟩:=b;have a':w5 h sh=[]:=a
   have:=lk.1
   rw[a'] at this
   cases this
 | some ms =>
  obtain⟨k,lk,rfl⟩:=a
  cases o' with
  | none =>
   have b':w5 h sh=[]:=b
   have:=lk.1
   rw[b'] at this
   cases this
  | some ms' =>
   obtain⟨k',lk',rfl⟩:=b;rw[lk.uniq lk']
theorem at4 {es es':List Int}(h':some (es.map V.int)=some (es'.map V.int)):es=es':=by
 have:=congrArg aJ9 (Option.some.inj h')
 rwa [R1,R1] at this
inductive Due25 (h:Hall)(ks:List Call)(c:Int)(es:List Int)(sh:Int)(H:Hp)(t:Addr):Prop where
 | busy (w:Int) (b:E9 ks c es w) (e:H t=some (.tup [.int 1,.int w,.non])):Due25 h ks c es sh H t
 | eng (kf:Addr) (rs:List Addr) (lv:V) (lo:Option (List Int)) (i:N6 ks c es) (n:w4 h ks c es sh=[]) (e:H t=some (.tup [.int 2,.ref kf,lv])) (ek:H kf=some (.lst (rs.map V.ref))) (er:t6 H rs (A6 h ks c es)) (hl:N3 h ks c es sh lo) (el:match (generalizing:=false) lo with | none=>lv=.non | some ms=>∃ m,lv=.ref m/\H m=some (.lst (ms.map V.int))):Due25 h ks c es sh H t
 | way (fl:Addr) (i:N6 ks c es) (n:w4 h ks c es sh≠[]) (e:H t=some (.tup [.int 9,.ref fl,.non])) (ef:H fl=some (.lst (B5 (w4 h ks c es sh)))):Due25 h ks c es sh H t
theorem DueAt.due {h:Hall}{ks:List Call}{c:Int}{es:List Int}{sh:Int}{H:Hp}{t:Addr}(w:(m8 (.int c) 0 (h.i * h.c - 1)&&F8 h (some (es.map V.int)))=true)(d:DueAt h ks (.int c) (some (es.map V.int)) sh H t):Due25 h ks c es sh H t:=by
 cases d with
 | wrong b e=>rw[w] at b;cases b
 | busy c' es' w ex eo w1 w2 b e =>
  cases ex
  obtain rfl:=at4 eo;exact .busy w b e
 | eng c' es' kf rs lv lo ex eo w1 w2 i n e ek er hl el =>
  cases ex
  obtain rfl:=at4 eo;exact .eng kf rs lv lo i n e ek er hl el
 | way c' es' fl ex eo w1 w2 i n e ef =>
  cases ex
  obtain rfl:=at4 eo;exact .way fl i n e ef
theorem aG8 {h:Hall}{ks:List Call}{c:Int}{es:List Int}{sh:Int}{H H':Hp}{t ea dx CB CG:Addr}{w:Int}(one:∀ k∈ks,∀ k'∈ks,∀ e,e∈k.es->e∈k'.es->k=k')(due:Due25 h ks c es sh H t)(s:j0 H H')(b:E9 ks c es w)(ed:H' dx=some (XdO dx [("who",.int w)]))(eea:H' ea=some (Q0 ea CB (some dx))):Paper25 CB CG H' ea t:=by
 cases due with
 | busy w' b' e =>
  obtain rfl:=b.one one b';exact .busy dx w eea ed (s _ _ e)
 | eng kf rs lv lo i=>exact(b.not_idle i).elim
 | way fl i=>exact(b.not_idle i).elim
theorem aN7 {h:Hall}{ks:List Call}{c:Int}{es:List Int}{sh:Int}{H H':Hp}{t ea dx nh CB CG:Addr}{nas:List Addr}{nlv:V}{o:Option (List Int)}(ok:h.Ok)(few:ks.length<=63)(due:Due25 h ks c es sh H t)(s:j0 H H')(i:N6 ks c es)(nw:w4 h ks c es sh=[])(lo:N3 h ks c es sh o)(g:EngAt H' dx (A6 h ks c es) o nh nas nlv)(eea:H' ea=some (Q0 ea CG (some dx))):Paper25 CB CG H' ea t:=by
 cases due with
 | busy w' b' e=>exact(b'.not_idle i).elim
 | way fl i n=>exact absurd nw n
 | eng kf rs lv lo' i' n e ek er hl el =>
  obtain rfl:=lo.one hl
  have lr:∀ row∈A6 h ks c es,row.length<=99:=fun row hr=>by
   unfold A6 F3 at hr;obtain⟨k,_,rfl⟩:=List.mem_map.mp hr
   have:=aa1 h ks (c / h.c) (m6 h es) k
   lia
  have lh:(A6 h ks c es).length=h.m.toNat:=by
   unfold A6 F3;rw[length_map,length_range]
  have m1:=ok.m
  have fl9:∀ ms,o=some ms->ms.length<=99:=fun ms z=>by
   subst z;obtain⟨k,_,rfl⟩:=hl
   have:=aa1 h ks (c / h.c) (m6 h es) k
   lia
  have ll:match (generalizing:=false) o with | none=>lv=.non | some ms=>∃ m,lv=.ref m/\H' m=some (.lst (ms.map V.int)):=by
   cases o with
   | none=>exact el
   | some ms =>
    obtain⟨m,y1,y2⟩:=el;exact⟨m,y1,s _ _ y2⟩
  exact .eng dx nh kf nas rs nlv lv (A6 h ks c es) o eea g (by lia) lr fl9 (s _ _ e) (s _ _ ek) (Paired.mapP er fun a r z=>s _ _ z) ll
theorem Due25.no9 {h:Hall}{ks:List Call}{c:Int}{es:List Int}{sh:Int}{H:Hp}{t:Addr}(d:Due25 h ks c es sh H t)(z:¬ N6 ks c es\/w4 h ks c es sh=[]):∃(i:Int)(u v:V),H t=some (.tup [.int i,u,v])/\i≠9:=by
 cases d with
 | busy w b e=>exact⟨_,_,_,e,by decide⟩
 | eng kf rs lv lo i n e=>exact⟨_,_,_,e,by decide⟩
 | way fl i n e =>
  rcases z with z | z
  ·exact absurd i z
  ·exact absurd z n
def aZ5 (CR CF CE CT CN T1 T2:Addr):Sp:=fun vs H Q _=>∃(p S F ro lc R W:Addr)(h:Hall)(n n0:Int)(as ps:List Addr)(ks:List Call)(m:Nat)(ws:List Int),vs=[.ref p,.ref S,.ref R,.ref W,.int n0]/\Stat CR CF CE CT S F ro p R W h ws H/\Dyn CN T1 T2 S F ro lc h n as ps ks m H/\m < 60 /\
 ∀(lc':Addr)(n':Int)(as' ps':List Addr)(ks':List Call)(H':Hp),M8 S F T1 T2 ro H H'->Dyn CN T1 T2 S F ro lc' h n' as' ps' ks' (m + 1) H'->Q (.bl true) H'
theorem Dyn.joined {CN T1 T2 S F ro lc:Addr}{h:Hall}{n n2:Int}{as ps:List Addr}{ks:List Call}{m:Nat}{H H':Hp}(D:Dyn CN T1 T2 S F ro lc h n as ps ks m H)(k:Q2 T1 T2 ro H H')(t:Tabs T1 T2 H'):H' S=some (.lst [.ref lc,.int n,.ref F,.int (h.i * h.c)])/\H' F=some (.lst (ps.map V.ref))/\H' lc=some (.lst (as.map V.ref))/\h8 H' as ks :=
 ⟨k.lst D.rul D.s,k.lst D.rul D.f,k.lst D.rul D.l,h8.same (fun b xs z=>k.tup D.rul z) D.c⟩
section
variable {P:Program}{w:World}{K:Frag}{mg:Str->Option Value}{base:Heap}{aw ah ae aj av ad aq ao af ar ap am aa au:Addr}{ak ag:Addr}
theorem o8:FnScope ["_law_hall_here","_law_state","_law_rules","_law_wanted_here","_law_number_here","_law_calls","_law_caller","_law_ends_here","_law_which","_law_halted","_law_due_here","_law_handed","_law_some","_law_rule","_law_found","_law_refused","_law_k"] ["_law_hall_here","_law_state","_law_rules","_law_wanted_here","_law_number_here"] (d7 (top 62)):=mkF
set_option maxHeartbeats 8000000 in
theorem a44 (T:Txt K mg)(Z:TxtC K mg aw ah ae aj av ad aq ao af ar ap am aa au)(ke:Callee P w K mg base 1 "_law_ends" ["_law_hall_here","_law_number_here"] (aS5 K))(kN:Callee P w K mg base 3 "_law_due" ["_law_hall_here","_law_calls","_law_caller","_law_ends_here","_law_halted"] (aK3 K))(jL:Callee P w K mg base 8 "_law_asked" ["_law_hall_here","_law_handed","_law_caller","_law_ends_here","_law_rule","_law_halted"] (aJ3 K aw ah ae av aj ak ag am aa))(jM:Callee P w K mg base 4 "_law_paper" ["_law_e","_law_due_here"] (ap4 am aa))(ju:Callee P w K mg base 2 "_law_chosen" ["_law_calls","_law_free","_law_which","_law_start","_law_wanted_here"] (ag2 K))(aI:Callee P w K mg base 4 "_law_alike" ["_law_found","_law_due_here"] (W8 3))(D:Def K mg "_law_join" (top 62) ["_law_hall_here","_law_state","_law_rules","_law_wanted_here","_law_number_here"]):Callee P w K mg base 9 "_law_join" ["_law_hall_here","_law_state","_law_rules","_law_wanted_here","_law_number_here"] (aZ5 aw ah ae av aj ak ag):=by
 refine D.ok o8 (fun vs H Q E h=>?_) (fun f cdv A outer s H vs Q E hr h=>?_)
 ·obtain⟨p,S,F,ro,lc,R,W,h,n,n0,as,ps,ks,m,ws,rfl,_⟩:=h
  rfl
 obtain⟨p,S,F,ro,lc,R,W,h,n,n0,as,ps,ks,m,ws,rfl,t0,D0,m60,q⟩:=h;have la:as.length=ks.length:=Paired.length D0.c;have kl:=D0.kl;have ok:=t0.ok;have oi:=ok.ic;have om:=ok.m
 refine⟨_,(g6 (i0 (i:=5) o8.nd rfl (Or.inl rfl) (j3 (m3 K) (pv 1) d9 (fun _ _=>rfl)))
  (g6 (i0 (i:=6) o8.nd rfl (Or.inl rfl) (i5 p0 (i5 p0 (i5 r9 (pv 4) d9) d9) (j3 (m3 K) (pv 1) d9 (fun _ _=>rfl))))
  (g6 (i0 (i:=7) o8.nd rfl (Or.inl rfl) (m9 ke hr rfl (b8 (pv 0) (b8 (i5 J6 (i5 r9 (pv 4) d9) d9) d8 L9) b9)))
  (g6 (i0 (i:=8) o8.nd rfl (Or.inl rfl) (i5 p0 (i5 p0 (i5 r9 (pv 4) d9) d9) d9))
  (g6 (i0 (i:=9) o8.nd rfl (Or.inl rfl) d9)
  (g6 (m7 (i4 B2 (i5 p0 (i5 p0 (i5 r9 (pv 4) d9) d9) d9) d9 (j5 _)) (g9 (i0 (i:=9) o8.nd rfl (Or.inl rfl) (i5 p0 (i5 p0 (i5 r9 (pv 4) d9) d9) (i5 be6 d9 (j3 (j1 K) (pv 0) d9 (fun _ _=>rfl)))))) j7)
  (g6 (i0 (i:=10) o8.nd rfl (Or.inl rfl) (m9 kN hr rfl (b8 (pv 0) (b8 (pv 5) (b8 (pv 6) (b8 (pv 7) (b8 (pv 9) d8 b9) b9) b9) b9) b9)))
  (g6 (i0 (i:=11) o8.nd rfl (Or.inl rfl) (p7 (B6 K) rfl T.cY boot_list (b8 (pv 5) d8 b9)))
  (g6 (i0 (i:=12) o8.nd rfl (Or.inl rfl) (pv 7))
  (g6 (m7 (i4 B2 (i5 p0 (pv 4) d9) d9 (j5 _)) (g9 (i0 (i:=12) o8.nd rfl (Or.inl rfl) (p7 (P8 K) rfl T.eN boot_tuple (b8 (pv 7) d8 b9)))) j7)
  (g6 (i0 (i:=13) o8.nd rfl (Or.inl rfl) (j3 (m3 K) (pv 2) (pv 8) (fun _ _=>rfl)))
  (g6 (aq4 (m9 jL hr rfl (b8 (pv 0) (b8 (pv 11) (b8 (pv 6) (b8 (pv 12) (b8 (pv 13) (b8 (pv 9) d8 b9) b9) b9) b9) b9) b9)) (bm6 K rfl o8.nd (Nm.mk (i:=14) rfl (Or.inl rfl) (Or.inl rfl)) (Nm.mk (i:=15) rfl (Or.inl rfl) (Or.inl rfl))))
  (g6 (m7 (PW.pt (aA4 (i4 (ah0 K (Room.units0 hr)) (pv 11) (pv 5) (j5 _)) (as9 (i4 (aM3 K (Room.units0 hr)) (p7 (B6 K) rfl T.cY boot_list (b8 (pv 12) d8 b9)) (pv 7) (j5 _))))) (g9 (i7 P6)) j7)
  (g6 (m7 (i4 ap3 (j3 (j1 K) (pv 10) d9 (fun _ _=>rfl)) d9 (j5 _)) (g9 (i7 (P9 (J7 Z2 (pv 15) t9 (j5 _)) (R6 (m9 jM hr rfl (b8 (pv 15) (b8 (pv 10) d8 b9) b9)))))) j7)
  (g6 (i0 (i:=16) o8.nd rfl (Or.inl rfl) (m9 ju hr rfl (b8 (pv 5) (b8 (j3 (j1 K) (pv 10) d9 (fun _ _=>rfl)) (b8 (pv 8) (b8 (j3 (m3 K) (pv 1) d9 (fun _ _=>rfl)) (b8 (pv 3) d8 b9) x6) b9) x6) b9)))
  (g6 (m7 (i4 B2 (pv 8) d9 (j5 _)) (g9 (aq4 (i5 J6 (pv 16) d9) (aF7 (pv 1) d9 aa3))) j7)
  (g6 (aq4 (i8 (X3 K) rfl T.cU boot_sorted (b8 (i5 U0 (pv 5) (r6 (b8 (O9 (b8 (pv 6) (b8 (p7 (P8 K) rfl T.eN boot_tuple (b8 (i8 (O3 K) rfl T.cU boot_sorted (b8 (pv 7) d8 b9)) d8 n6)) (b8 (pv 16) d8 b9) n6) b9)) d8 ah3))) d8 L9)) (aF7 (pv 1) d9 aa3))
  (g6 (A4 (C4 K PySem.F.plainAttrs_list PySem.F.slot_list_append PySem.F.type_list_append x8 (j3 (m3 K) (pv 1) d9 (fun _ _=>rfl)) (b8 (r6 (b8 (pv 14) (b8 (p7 (B6 K) rfl T.cY boot_list (b8 (j3 (m3 K) (pv 1) d9 (fun _ _=>rfl)) d8 x6)) d8 n6) b9)) d8 ag0)))
  (g9 (i7 (P9 (J7 O7 (pv 15) t9 (j5 _)) (R6 (m9 aI hr rfl (b8 (pv 14) (b8 (j3 (m3 K) (pv 1) d9 (fun _ _=>rfl)) d8 x6) b9)))))))))))))))))))))))),?_⟩
 refine⟨_,rfl,S,_,_,_,rfl,rfl,SqL.of D0.s,rfl,?_⟩;refine⟨_,rfl,_,_,rfl,rfl,.inr ⟨by decide,by decide⟩,_,_,rfl,rfl,(by show(0:Int) < 1000003;decide),_,rfl,S,_,_,_,rfl,rfl,SqL.of D0.s,rfl,_,_,rfl,rfl,(by show(0:Int) < h.i * h.c;lia),?_⟩
 have hc:=as7 (x:=n0 * 48271 % 1000003) (d:=h.i * h.c) (by lia)
 dsimp only
 generalize n0 * 48271 % 1000003 % (h.i * h.c)=c at hc ⊢;refine⟨_,rfl,_,rfl,_,_,rfl,rfl,.inr ⟨by decide,by decide⟩,_,_,rfl,rfl,p,h,_,rfl,SqT.of t0.p,ok,fun el es H1 s1 hel ee eo=>?_⟩
 have nel:=D0.new (j0.refl _) hel;have lf:=eo.few;refine⟨_,rfl,_,_,rfl,rfl,.inr ⟨by decide,by decide⟩,_,_,rfl,rfl,(by show(0:Int) < 999979;decide),_,_,rfl,rfl,(by show(0:Int) < 6;decide),?_⟩
 have hw:=as7 (x:=n0 * 16807 % 999979) (d:=6) (by decide)
 dsimp only
 generalize n0 * 16807 % 999979 % 6=wh at hw ⊢;have p1:=s1 _ _ t0.p
 dsimp only[Q4,ap5]
 refine aa4 (fun σ' G=>G=H1/\σ'=[some (.ref p),some (.ref S),some (.ref R),some (.ref W),some (.int n0),some (.ref lc),some (.int c),some (.ref el),some (.int wh),some (.int 0),none,none,none,none,none,none,none]) (fun R' rest=>rest _ _ ⟨rfl,rfl⟩) ?_
 rintro σ' G ⟨rfl,rfl⟩
 refine aa4 (fun σ' G'=>G'=G/\∃ sh:Int,σ'=[some (.ref p),some (.ref S),some (.ref R),some (.ref W),some (.int n0),some (.ref lc),some (.int c),some (.ref el),some (.int wh),some (.int sh),none,none,none,none,none,none,none]) (fun R' rest=>?_) ?_
 ·refine⟨_,rfl,_,_,rfl,rfl,.inr ⟨by decide,by decide⟩,_,_,rfl,rfl,(by show(0:Int) < 999931;decide),_,_,rfl,rfl,(by show(0:Int) < 2;decide),rfl,_,rfl,?_⟩
  refine z8 (fun z=>?_) (fun z=>rest _ _ ⟨rfl,_,rfl⟩);exact⟨_,rfl,_,_,rfl,rfl,.inr ⟨by decide,by decide⟩,_,_,rfl,rfl,(by show(0:Int) < 16777213;decide),_,rfl,p,_,_,_,rfl,rfl,SqT.of p1,rfl,_,_,rfl,rfl,⟨by show 0<=h.m;lia,by show h.m<=1000000;lia,by decide⟩,_,_,rfl,rfl,(by show(0:Int) < 1 * 2 ^ h.m.toNat;rw[Int.one_mul];exact Int.pow_pos (by decide)),rest _ _ ⟨rfl,_,rfl⟩⟩
 rintro σ' H1 ⟨rfl,sh,rfl⟩
 have D1:=D0.same s1;have t1:=t0.keep D0 (C3 s1)
 have prt:∀(H':Hp),∀ x∈es.map V.int,PartIs K H' x:=fun H' x hx=>by
  obtain⟨i,_,rfl⟩:=List.mem_map.mp hx;exact .int i
 have l64:(es.map V.int).length<=64:=by rw[length_map];lia
 have w1:m8 (.int c) 0 (h.i * h.c - 1)=true:=by
  show(decide (0<=c)&&decide (c<=h.i * h.c - 1))=true
  rw[decide_eq_true hc.1,decide_eq_true (by lia)]
  rfl
 have w2:=aP1 eo;have w12:(m8 (.int c) 0 (h.i * h.c - 1)&&F8 h (some (es.map V.int)))=true:=by rw[w1,w2];rfl
 refine⟨_,rfl,_,rfl,_,rfl,_,rfl,_,rfl,p,lc,h,as,ks,.int c,.ref el,some (es.map V.int),sh,rfl,SqT.of p1,ok,SqL.of D1.l,D1.c,D0.hin,by lia,.int c,.lst ee (prt _) l64,(fun xs z=>by cases z;rw[length_map];lia),w12,fun t H2 s2 due0=>?_⟩
 have due2:=due0.due w12;clear due0;have D2:=D1.same s2;refine⟨_,rfl,lc,_,rfl,.inl (SqL.of D2.l),fun hd hhd=>?_⟩;have nhd:=D2.new (j0.refl _) hhd;have ehd:=d6 (H:=H2) (a:=hd) (o:=.lst (as.map V.ref));have s3:=g7 hhd (.lst (as.map V.ref));generalize upd H2 hd (.lst (as.map V.ref))=H3 at ehd s3 ⊢;have s23:=s2.trans s3;have ee3:=s23 _ _ ee;refine⟨_,rfl,?_⟩
 dsimp only[Q4,ap5]
 refine aa4 (fun σ' G=>j0 H3 G/\∃ e:Addr,(G e=some (.lst (es.map V.int))\/G e=some (.tup (es.map V.int)))/\σ'=[some (.ref p),some (.ref S),some (.ref R),some (.ref W),some (.int n0),some (.ref lc),some (.int c),some (.ref el),some (.int wh),some (.int sh),some (.ref t),some (.ref hd),some (.ref e),none,none,none,none]) (fun R' rest=>?_) ?_
 ·refine⟨_,rfl,_,_,rfl,rfl,(by show(0:Int) < 2;decide),rfl,_,rfl,?_⟩
  refine z8 (fun z=>?_) (fun z=>rest _ _ ⟨j0.refl _,el,.inl ee3,rfl⟩);exact⟨_,rfl,el,_,rfl,.inl ⟨SqL.of ee3,fun e he=>rest _ _ ⟨g7 he _,e,.inr d6,rfl⟩⟩⟩
 rintro σ' H4 ⟨s4',e,ee4,rfl⟩
 have s24:=s3.trans s4';have s14:=s2.trans s24;have s04:=s1.trans s14;have D4:=D1.same s14;have t4:=t1.keep D1 (C3 s14);have el4:=s14 _ _ ee;have ehd4:=s4' _ _ ehd;obtain⟨xs,rv,eR,hat,hrv⟩:=t4.rule hw.1 hw.2;refine⟨_,rfl,_,rfl,R,_,_,_,rfl,rfl,SqL.of eR,hat,?_⟩
 have ey:EndTh K H4 (.ref e) (some (es.map V.int)):=by
  rcases ee4 with z | z
  ·exact .lst z (prt _) l64
  ·exact .tup z (prt _) l64
 have nc:ks.Pairwise fun k k'=>k.c≠k'.c:=D0.up.imp fun z=>by lia
 have me:∀{G:Hp},(∀ b xs,H4 b=some (.lst xs)->b=hd\/b=el\/b=lc\/b=e->G b=some (.lst xs))->(∀ b xs,H4 b=some (.tup xs)->G b=some (.tup xs))->(G e=some (.lst (es.map V.int))\/G e=some (.tup (es.map V.int))):=fun h1 h2=>ee4.imp (fun z=>h1 _ _ z (.inr (.inr (.inr rfl)))) fun z=>h2 _ _ z;have same2:∀{G:Hp},(G e=some (.lst (es.map V.int))\/G e=some (.tup (es.map V.int)))->(SqL K G e (es.map V.int)\/SqT K G e (es.map V.int)):=fun z=>z.imp SqL.of SqT.of;refine⟨_,rfl,_,rfl,_,rfl,_,rfl,_,rfl,_,rfl,p,hd,e,h,as,ks,c,es,rv,sh,ro,n,kindOf wh ws,rfl,SqT.of t4.p,ok,ehd4,D4.c,D0.hin,nc,by lia,ey,by lia,w1,w2,hrv,D4.t,D4.r,fun w dx ea t2 H5 s5 b ed eea et=>?_,fun i nw dx nh ea t2 nas nlv o H5 s5 lo g eea et=>?_,fun idle k n2 hk ch r t2 bs ks' es' H5 kp tb ra er fr cs pm srt pk up et=>?_⟩
 ·refine⟨t2,[.non,.ref ea],rfl,SqT.of et,rfl,.non,[.ref ea],rfl,.ref ea,[],rfl,rfl,?_⟩
  have D5:=D4.same s5;refine⟨_,rfl,_,rfl,hd,lc,_,rfl,rfl,SqL.of (s5 _ _ ehd4),SqL.of D5.l,Q5 as,_,rfl,B7 ?_⟩;refine⟨_,rfl,e,_,rfl,same2 (ee4.imp (s5 _ _) (s5 _ _)),fun cp hcp=>?_⟩;have s6:=g7 hcp (.lst (es.map V.int));have ecp:=d6 (H:=H5) (a:=cp) (o:=.lst (es.map V.int));generalize upd H5 cp (.lst (es.map V.int))=H6 at s6 ecp ⊢;have s56:=s5.trans s6;refine⟨_,rfl,cp,el,es,es,rfl,rfl,SqL.of ecp,SqL.of (s56 _ _ el4),_,rfl,ab7 (by simp) ?_⟩
  obtain⟨i9,u9,v9,et9,n9⟩:=due2.no9 (.inl fun z=>b.not_idle z);refine⟨_,rfl,t,_,_,_,rfl,rfl,SqT.of (s56 _ _ (s24 _ _ et9)),rfl,rfl,_,rfl,aV8 (by simpa using n9) ?_⟩
  refine⟨_,rfl,rfl,_,rfl,M1 ⟨_,rfl,_,rfl,ea,t,rfl,aG8 D0.one due2 (s24.trans s56) b (s6 _ _ ed) (s6 _ _ eea),fun H7 s7=>?_⟩⟩;exact q lc n as ps ks H7 (C3 (s04.trans (s56.trans s7))) ((D4.same (s56.trans s7)).next)
 ·refine⟨t2,[.non,.ref ea],rfl,SqT.of et,rfl,.non,[.ref ea],rfl,.ref ea,[],rfl,rfl,?_⟩
  have D5:=D4.same s5;refine⟨_,rfl,_,rfl,hd,lc,_,rfl,rfl,SqL.of (s5 _ _ ehd4),SqL.of D5.l,Q5 as,_,rfl,B7 ?_⟩;refine⟨_,rfl,e,_,rfl,same2 (ee4.imp (s5 _ _) (s5 _ _)),fun cp hcp=>?_⟩;have s6:=g7 hcp (.lst (es.map V.int));have ecp:=d6 (H:=H5) (a:=cp) (o:=.lst (es.map V.int));generalize upd H5 cp (.lst (es.map V.int))=H6 at s6 ecp ⊢;have s56:=s5.trans s6;refine⟨_,rfl,cp,el,es,es,rfl,rfl,SqL.of ecp,SqL.of (s56 _ _ el4),_,rfl,ab7 (by simp) ?_⟩
  obtain⟨i9,u9,v9,et9,n9⟩:=due2.no9 (.inr nw);refine⟨_,rfl,t,_,_,_,rfl,rfl,SqT.of (s56 _ _ (s24 _ _ et9)),rfl,rfl,_,rfl,aV8 (by simpa using n9) ?_⟩
  refine⟨_,rfl,rfl,_,rfl,M1 ⟨_,rfl,_,rfl,ea,t,rfl,aN7 ok (by lia) due2 (s24.trans s56) i nw lo (g.same s6) (s6 _ _ eea),fun H7 s7=>?_⟩⟩
  exact q lc n as ps ks H7 (C3 (s04.trans (s56.trans s7))) ((D4.same (s56.trans s7)).next)
 ·refine⟨t2,[.ref r,.non],rfl,SqT.of et,rfl,.ref r,[.non],rfl,.non,[],rfl,rfl,?_⟩
  have ru4:=D4.rul;obtain⟨eS5,eF5,el5,hC5⟩:=D4.joined (n2:=n2) kp tb;have nr:=D4.new (j0.refl _) fr;refine⟨_,rfl,_,rfl,hd,lc,_,rfl,rfl,SqL.of (kp.lst ru4 ehd4),SqL.of el5,Q5 as,_,rfl,B7 ?_⟩;refine⟨_,rfl,e,_,rfl,same2 (ee4.imp (kp.lst ru4) (kp.tup ru4)),fun cp hcp=>?_⟩;have s6:=g7 hcp (.lst (es.map V.int));have ecp:=d6 (H:=H5) (a:=cp) (o:=.lst (es.map V.int));generalize upd H5 cp (.lst (es.map V.int))=H6 at s6 ecp ⊢;have ee6:=s6 _ _ (kp.lst ru4 el4);refine⟨_,rfl,cp,el,es,es,rfl,rfl,SqL.of ecp,SqL.of ee6,_,rfl,ab7 (by simp) ?_⟩
  obtain⟨fl,et9,ef9⟩:∃ fl,H2 t=some (.tup [.int 9,.ref fl,.non])/\H2 fl=some (.lst (B5 (w4 h ks c es sh))):=by
   cases due2 with
   | busy w b=>exact(b.not_idle idle).elim
   | eng kf rs lv lo i n=>rw[n] at hk;cases hk
   | way fl i n e ef=>exact⟨fl,e,ef⟩
  have et6:=s6 _ _ (kp.tup ru4 (s24 _ _ et9));have ef6:H6 fl=some (.lst (((w4 h ks c es sh).map fun(k:Nat)=>(k:Int)).map V.int)):=by rw[<- az6];exact s6 _ _ (kp.lst ru4 (s24 _ _ ef9))
  refine⟨_,rfl,t,_,_,_,rfl,rfl,SqT.of et6,rfl,rfl,_,rfl,ab7 (by simp) ?_⟩
  have few:=ay1 h ks c es sh;have wne:(w4 h ks c es sh).map (fun(k:Nat)=>(k:Int))≠[]:=fun y=>by rw[List.map_eq_nil_iff.mp y] at hk;cases hk
  have hb:∀ x∈(w4 h ks c es sh).map (fun(k:Nat)=>(k:Int)),0<=x/\x < h.m:=fun x hx=>by
   obtain⟨k,hk,rfl⟩:=List.mem_map.mp hx
   have:=List.mem_filter.mp hk
   have:=S1 this.1
   lia
  have kp6:=kp.trans (C8 s6);have eW6:=kp6.lst ru4 t4.w;have eS6:=s6 _ _ eS5;refine⟨_,rfl,_,rfl,t,_,_,_,rfl,rfl,SqT.of et6,rfl,_,rfl,_,rfl,S,_,_,_,rfl,rfl,SqL.of eS6,rfl,_,rfl,lc,fl,W,h,as,ks,_,ws,wh,n,rfl,SqL.of (s6 _ _ el5),h8.same (fun b xs z=>s6 _ _ z) hC5,D0.hin,by lia,ef6,wne,by rw[length_map];lia,hb,eW6,t4.w24,hw.1,hw.2,fun x H7 s7 pick=>?_⟩
  obtain⟨ex,en2⟩:=aA7 hw.1 pick ch;subst ex;have s67:=s6.trans s7;have kp7:=kp.trans (C8 s67);have tb7:=tb.same s67;have ra7:A2 aj ro H7 n2:=ra.imp fun dx z=>s67 _ _ z;have eS7:=s67 _ _ eS5;have eF7:=s67 _ _ eF5;have el7:=s67 _ _ el5;have hC7:h8 H7 as ks:=h8.same (fun b xs z=>s67 _ _ z) hC5;have ee7:=s7 _ _ ee6;have er7:=s67 _ _ er;have cs7:h8 H7 bs ks':=h8.same (fun b xs z=>s67 _ _ z) cs
  dsimp only[Q4,ap5]
  refine aa4 (fun σ' G=>(∀ b u,b≠S->H7 b=some u->G b=some u)/\G S=some (.lst [.ref lc,.int n2,.ref F,.int (h.i * h.c)])/\σ'=[some (.ref p),some (.ref S),some (.ref R),some (.ref W),some (.int n0),some (.ref lc),some (.int c),some (.ref el),some (.int wh),some (.int sh),some (.ref t),some (.ref hd),some (.ref e),some rv,some (.ref r),some .non,some (.int (k:Int))]) (fun R' rest=>?_) ?_
  ·refine⟨_,rfl,rfl,_,rfl,z8 (fun z=>?_) (fun z=>?_)⟩
   ·have z':wh=4:=V.int.inj (of_decide_eq_true z)
    rw[if_pos z'] at en2;refine⟨_,rfl,_,_,rfl,rfl,_,rfl,S,_,1,1,rfl,rfl,eS7,rfl,rest _ _ ⟨fun b u nb y=>by rw[h7 nb];exact y,by rw[d6,en2];rfl,rfl⟩⟩
   ·have z':¬ wh=4:=fun y=>z (decide_eq_true (by rw[y]))
    rw[if_neg z'] at en2;exact rest _ _ ⟨fun b u _ y=>y,by rw[en2];exact eS7,rfl⟩
  rintro σ' H8 ⟨s8,eS8,rfl⟩
  have tt8:∀ b xs,H7 b=some (.tup xs)->H8 b=some (.tup xs):=fun b xs z=>s8 _ _ (fun y=>by rw[y,eS7] at z;cases z) z
  have el8:=s8 _ _ D0.lS el7;have ee8:=s8 _ _ nel.1 ee7;have eF8:=s8 _ _ D0.FS eF7;have er8:=s8 _ _ nr.1 er7;have hC8:=h8.same tt8 hC7;have cs8:=h8.same tt8 cs7
  have tab8:∀{T:Addr}{pos:Pos}{qn:Str},F5 H7 T pos qn->F5 H8 T pos qn:=fun {T pos qn} y=>by
   obtain⟨ps,ht⟩:=C0 y;have nt:T≠S:=fun z=>by rw[z,eS7] at ht;cases ht
   rcases y with y | ⟨c',y1,y2⟩
   ·exact .inl (s8 _ _ nt y)
   ·exact .inr ⟨c',s8 _ _ nt y1,s8 _ _ (fun z=>by rw[z,eS7] at y2;cases y2) y2⟩
  have tb8:Tabs ak ag H8:=⟨tb7.ne,tab8 tb7.f,tab8 tb7.e⟩;have ra8:A2 aj ro H8 n2:=ra7.imp fun dx z=>s8 _ _ (fun y=>by rw[y,eS7] at z;cases z) z
  refine⟨_,rfl,_,rfl,_,rfl,el,es,rfl,.inr (SqL.of ee8),by lia,fun es2 pm2 srt2 sl hsl=>?_⟩
  obtain rfl:es2=es':=aW7 (pm2.trans pm.symm) srt2 srt;have u1:=g7 hsl (.lst (es2.map V.int));have f1:=d6 (H:=H8) (a:=sl) (o:=.lst (es2.map V.int));generalize upd H8 sl (.lst (es2.map V.int))=G1 at u1 f1 ⊢;refine⟨sl,_,rfl,.inl ⟨SqL.of f1,fun tp htp=>?_⟩⟩;have u2:=u1.trans (g7 htp (.tup (es2.map V.int)));have f2:=d6 (H:=G1) (a:=tp) (o:=.tup (es2.map V.int));generalize upd G1 tp (.tup (es2.map V.int))=G2 at u2 f2 ⊢;refine⟨_,rfl,(by show 3<=sizeLine;decide),fun np hnp=>?_⟩
  have u3':=g7 hnp (.tup [.int c,.ref tp,.int (k:Int)]);have u3:=u2.trans u3';have f3:B9 (upd G2 np (.tup [.int c,.ref tp,.int (k:Int)])) np ⟨c,es2,(k:Int)⟩:=⟨tp,u3' _ _ f2,d6⟩;generalize upd G2 np (.tup [.int c,.ref tp,.int (k:Int)])=G3 at u3 f3 ⊢;refine⟨(by show 1<=sizeLine;decide),fun nl hnl=>?_⟩
  have u4':=g7 hnl (.lst [.ref np]);have u4:=u3.trans u4';have f4:=d6 (H:=G3) (a:=nl) (o:=.lst [.ref np]);have c4:=B9.same (fun b xs z=>u4' _ _ z) f3;generalize upd G3 nl (.lst [.ref np])=G4 at u4 f4 c4 ⊢;refine⟨lc,nl,_,_,rfl,rfl,u4 _ _ el8,f4,Nat.le_of_lt (j6 (by rw[length_map];show as.length + 1<=1000;lia)),fun cl hcl=>?_⟩
  have u5':=g7 hcl (.lst (as.map V.ref++[.ref np]));have u5:=u4.trans u5';have f5:upd G4 cl (.lst (as.map V.ref++[.ref np])) cl=some (.lst ((as++[np]).map V.ref)):=by rw[d6,map_append];rfl
  have c5:=B9.same (fun b xs z=>u5' _ _ z) c4;generalize upd G4 cl (.lst (as.map V.ref++[.ref np]))=G5 at u5 f5 c5 ⊢;have hC9:h8 G5 (as++[np]) (ks++[⟨c,es2,(k:Int)⟩]):=Paired.snoc (h8.same (fun b xs z=>u5 _ _ z) hC8) c5
  dsimp only[aq1]
  refine Z3 f5 hC9 (by rw[length_append,length_singleton];lia) (List.pairwise_append.mpr ⟨nc,List.pairwise_singleton ..,fun k1 h1 k2 h2=>?_⟩) fun l2 as' ks2 h1 h2 h3 h4=>?_
  ·rw[mem_singleton.mp h2]
   exact idle.1 k1 h1
  obtain rfl:ks2=ks':=aQ5 (h3.trans pk.symm) h4 up;have eS10:=u5 _ _ eS8;have eF10:=u5 _ _ eF8;have nl2:l2≠S/\l2≠F:=⟨fun z=>(h9 eS10 h1) z.symm,fun z=>(h9 eF10 h1) z.symm⟩;have u6':=g7 h1 (.lst (as'.map V.ref));have u6:=u5.trans u6';have f6:=d6 (H:=G5) (a:=l2) (o:=.lst (as'.map V.ref));have a6:h8 (upd G5 l2 (.lst (as'.map V.ref))) as' ks2:=h8.same (fun b xs z=>u6' _ _ z) h2;generalize upd G5 l2 (.lst (as'.map V.ref))=G6 at u6 f6 a6 ⊢;have eS11:=u6 _ _ eS8;refine⟨_,rfl,S,_,0,0,rfl,rfl,eS11,rfl,?_⟩;have v7:∀ b u,b≠S->G6 b=some u->upd G6 S (.lst ([V.ref lc,.int n2,.ref F,.int (h.i * h.c)].set 0 (.ref l2))) b=some u:=fun b u nb z=>by rw[h7 nb];exact z
  have eS12:upd G6 S (.lst ([V.ref lc,.int n2,.ref F,.int (h.i * h.c)].set 0 (.ref l2))) S=some (.lst [.ref l2,.int n2,.ref F,.int (h.i * h.c)]):=d6;have tb12:Tabs ak ag (upd G6 S (.lst ([V.ref lc,.int n2,.ref F,.int (h.i * h.c)].set 0 (.ref l2)))):=ab2 eS11 (tb8.same u6);have ra12:A2 aj ro (upd G6 S (.lst ([V.ref lc,.int n2,.ref F,.int (h.i * h.c)].set 0 (.ref l2)))) n2:=W2 eS11 (ra8.imp fun dx z=>u6 _ _ z);generalize upd G6 S (.lst ([V.ref lc,.int n2,.ref F,.int (h.i * h.c)].set 0 (.ref l2)))=G7 at v7 eS12 tb12 ra12 ⊢;have eF12:=v7 _ _ D0.FS (u6 _ _ eF8);have f12:=v7 _ _ nl2.1 f6;refine⟨_,rfl,S,_,_,_,rfl,rfl,SqL.of eS12,rfl,.inl ⟨rfl,_,SqL.of eF12⟩,_,rfl,_,rfl,S,_,_,_,rfl,rfl,SqL.of eS12,rfl,l2,_,rfl,.inl (SqL.of f12),fun cp2 hcp2=>?_⟩;have ncp:cp2≠S/\cp2≠F:=⟨fun z=>(h9 eS12 hcp2) z.symm,fun z=>(h9 eF12 hcp2) z.symm⟩;have ecp2:=d6 (H:=G7) (a:=cp2) (o:=.lst (as'.map V.ref));have v8:=g7 hcp2 (.lst (as'.map V.ref));generalize upd G7 cp2 (.lst (as'.map V.ref))=G8 at ecp2 v8 ⊢;refine⟨(by show 2<=sizeLine;decide),fun pr hpr=>?_⟩
  have npr:pr≠S/\pr≠F:=⟨fun z=>(h9 (v8 _ _ eS12) hpr) z.symm,fun z=>(h9 (v8 _ _ eF12) hpr) z.symm⟩;have epr:=d6 (H:=G8) (a:=pr) (o:=.lst [.ref r,.ref cp2]);have v9':=g7 hpr (.lst [.ref r,.ref cp2]);generalize upd G8 pr (.lst [.ref r,.ref cp2])=G9 at epr v9' ⊢;have v9:=v8.trans v9';have eF13:=v9 _ _ eF12;have pl:=D0.pl;refine⟨F,ps.map V.ref,.ref pr,rfl,rfl,eF13,j6 (by rw[length_map];lia),?_⟩
  have eF14:upd G9 F (.lst (ps.map V.ref++[.ref pr])) F=some (.lst ((ps++[pr]).map V.ref)):=by rw[d6,map_append];rfl
  have v10:∀ b u,b≠F->G9 b=some u->upd G9 F (.lst (ps.map V.ref++[.ref pr])) b=some u:=fun b u nb z=>by rw[h7 nb];exact z
  have tb14:Tabs ak ag (upd G9 F (.lst (ps.map V.ref++[.ref pr]))):=ab2 eF13 (tb12.same v9);have ra14:A2 aj ro (upd G9 F (.lst (ps.map V.ref++[.ref pr]))) n2:=W2 eF13 (ra12.imp fun dx z=>v9 _ _ z);generalize upd G9 F (.lst (ps.map V.ref++[.ref pr]))=Ge at eF14 v10 tb14 ra14 ⊢;have lst8:∀ b u,b≠S->b≠F->H8 b=some u->Ge b=some u:=fun b u nS nF z=>v10 b u nF (v9 b u (v7 b u nS (u6 b u z)));have all:M8 S F ak ag ro H4 Ge:=fun b u nS nF n1 n2 n3 z=>lst8 b u nS nF (s8 b u nS (kp7 b u n1 n2 n3 z));have tup8:∀ b xs,H8 b=some (.tup xs)->Ge b=some (.tup xs):=fun b xs z=>lst8 b _ (fun y=>by rw[y,eS8] at z;cases z) (fun y=>by rw[y,eF8] at z;cases z) z
  have tup6:∀ b xs,G6 b=some (.tup xs)->Ge b=some (.tup xs):=fun b xs z=>v10 _ _ (fun y=>by rw[y,u6 _ _ eF8] at z;cases z) (v9 _ _ (v7 _ _ (fun y=>by rw[y,eS11] at z;cases z) z))
  have er14:=lst8 _ _ nr.1 nr.2 er8;have cs14:=h8.same tup8 cs8;have a14:=h8.same tup6 a6;have f14:=v10 _ _ nl2.2 (v9 _ _ f12);have ecp14:=v10 _ _ ncp.2 (v9' _ _ ecp2);have epr14:=v10 _ _ npr.2 epr;have eS14:=v10 _ _ (Ne.symm D0.FS) (v9 _ _ eS12)
  have kIn:(⟨c,es2,(k:Int)⟩:Call).In h:=by
   refine⟨hc,a45 pm srt eo.nd,fun e' he'=>eo.es e' (pm.mem_iff.mp he'),fun z=>?_,by show es2.length<=12;rw[pm.length_eq];exact lf,hb _ (List.mem_map.mpr ⟨k,hk,rfl⟩)⟩
   have:=pm.length_eq
   have z':es2=[]:=z;rw[z'] at this;exact eo.some (List.length_eq_zero_iff.mp this.symm)
  have mem':∀ κ∈ks2,κ∈ks\/κ=⟨c,es2,(k:Int)⟩:=fun κ hκ=>by
   rcases List.mem_append.mp (pk.mem_iff.mp hκ) with z | z
   ·exact .inl z
   ·exact .inr (mem_singleton.mp z)
  have hin':∀ κ∈ks2,κ.In h:=fun κ hκ=>by
   rcases mem' κ hκ with z | rfl
   ·exact D0.hin κ z
   ·exact kIn
  have few':∀ κ∈ks2,κ.es.length<=1000:=fun κ hκ=>by
   have:=(hin' κ hκ).few
   lia
  have one':∀ κ∈ks2,∀ κ'∈ks2,∀ e,e∈κ.es->e∈κ'.es->κ=κ':=fun κ hκ κ' hκ' e' z1 z2=>by
   rcases mem' κ hκ with y | rfl
   ·rcases mem' κ' hκ' with y' | rfl
    ·exact D0.one κ y κ' y' e' z1 z2
    ·exact absurd z1 (idle.2 e' (pm.mem_iff.mp z2) κ y)
   ·rcases mem' κ' hκ' with y' | rfl
    ·exact absurd z2 (idle.2 e' (pm.mem_iff.mp z1) κ' y')
    ·rfl
  have lk:ks2.length=ks.length + 1:=by rw[pk.length_eq,length_append,length_singleton]
  have lb:bs.length=ks2.length:=Paired.length cs14;refine⟨_,rfl,rfl,_,rfl,M1 ?_⟩;refine⟨_,rfl,_,rfl,S,_,_,_,rfl,rfl,SqL.of eS14,rfl,_,_,rfl,.inr ⟨r,l2,_,_,rfl,rfl,.inl ⟨er14,f14⟩,U8 cs14 a14 few',by rw[length_map];lia⟩,?_⟩
  exact q l2 n2 as' _ ks2 Ge ((C3 s04).trans all) (D4.fin all eS14 eF14 f14 nl2 a14 hin' up one' (by lia) ⟨r,cp2,_,_,_,npr,nr,ncp,epr14,er14,ecp14,cs14,a14⟩ ra14 tb14)
end
def ba9:Sp:=fun vs H Q _=>∃(c:Int)(i:Nat),vs=[.int c,.int i]/\i < 64/\∀ n:Int,0<=n->Q (.int n) H
theorem a02 {H:Hp}{C x dx:Addr}{n:Int}(hx:H x=none)(hdx:H dx=none):j0 H (upd (upd (upd H dx (.own x)) x (.ins C dx [])) x (.ins C dx (E1 n))):=fun b u z=>by
 rw[h7 (h9 z hx),h7 (h9 z hx),h7 (h9 z hdx)];exact z
theorem a_2 {T1 T2:Addr}{H:Hp}{ts:List Addr}(n:(T1 == T2)=false)(h1:T1∈ts)(h2:T2∈ts)(h:∀ P∈ts,H P=some (.tbl #[])):Tabs T1 T2 H:=⟨fun z=>by rw[z] at n;simp at n,.inl (h _ h1),.inl (h _ h2)⟩
section
variable {P:Program}{w:World}{K:Frag}{mg:Str->Option Value}{base:Heap}{aw ah ae aj av ad aq ao af ar ap am aa au:Addr}{ak ag:Addr}
theorem Dyn.seq {CN T1 T2 S F ro lc:Addr}{h:Hall}{n:Int}{as ps:List Addr}{ks:List Call}{m:Nat}{H H':Hp}(D:Dyn CN T1 T2 S F ro lc h n as ps ks m H)(k:M8 S F T1 T2 ro H H'){a:Addr}{xs:List V}(na:(a≠S/\a≠F)\/∀ G,SqL K G a xs)(q:SqL K H a xs):SqL K H' a xs:=by
 rcases na with na | na
 ·rcases q with(q | ⟨o,q⟩) | q
  ·exact .inl (.inl (D.lst k na.1 na.2 q))
  ·exact .inl (.inr ⟨o,D.keep k q na.1 na.2 (D.nro q fun _ _ _ z=>nomatch z) fun _ z=>nomatch z⟩)
  ·exact .inr q
 ·exact na H'
theorem ag5:FnScope ["_law_cell","_law_at"] ["_law_cell","_law_at"] (d7 (top 49)):=mkF
theorem aR0 (T:Txt K mg)(D:Def K mg "_law_number" (top 49) ["_law_cell","_law_at"]):Callee P w K mg base 1 "_law_number" ["_law_cell","_law_at"] ba9:=by
 refine D.ok ag5 (fun vs H Q E h=>?_) (fun f cdv A outer s H vs Q E hr h=>?_)
 ·obtain⟨c,i,rfl,_⟩:=h
  rfl
 obtain⟨c,i,rfl,hi,q⟩:=h;refine⟨_,(g9 (i7 (i5 J6 (i5 r9 (i8 aB1 rfl T.mx boot_abs (b8 (pv 0) d8 b9)) (i5 J6 (i5 r9 d9 (pv 1)) d9)) (i5 r9 (pv 1) (pv 1))))),?_⟩;refine⟨_,rfl,_,rfl,_,rfl,_,_,rfl,rfl,.inl ⟨by decide,by decide⟩,_,_,rfl,rfl,_,_,rfl,rfl,.inr ⟨by lia,by lia⟩,_,rfl,_,rfl,_,_,rfl,rfl,.inl ⟨by lia,by lia⟩,_,_,rfl,rfl,?_⟩
 refine q _ (Int.add_nonneg (Int.mul_nonneg ?_ (by lia)) (Int.mul_nonneg (by lia) (by lia)))
 split <;> lia
theorem V3:FnScope ["_law_script","_law_hall_here","_law_wanted_here","_law_handed","_law_rules","_law_state","_law_at","_law_number_here"] ["_law_script"] (d7 (top 63)):=mkF
set_option maxHeartbeats 8000000 in
theorem bg4 (T:Txt K mg)(Z:TxtC K mg aw ah ae aj av ad aq ao af ar ap am aa au){ts:List Addr}(n12:(ak == ag)=false)(hT1:ak∈ts)(hT2:ag∈ts)(kg:Callee P w K mg base 2 "_law_hall" ["_law_script"] (aU9 K))(bX:Callee P w K mg base 1 "_law_cell_at" ["_law_script","_law_k"] (aE1 K))(jv:Callee P w K mg base 1 "_law_wanted" ["_law_hall_here","_law_number_here"] (aA1 K))(jw:Callee P w K mg base 1 "_law_number" ["_law_cell","_law_at"] ba9)(hX:CalleeM P w K mg base 1 aj "__init__" ["self","start"] [.int 0] (aM2 K "start") (aV9 aj))(iV:CalleeM P w K mg base 1 av "__init__" ["self","listed"] [] noKw (aL3 K av))(kO:Callee P w K mg base 5 "_law_end" ["_law_state","_law_number_here"] (aL0 aj ak ag))(kh:Callee P w K mg base 9 "_law_join" ["_law_hall_here","_law_state","_law_rules","_law_wanted_here","_law_number_here"] (aZ5 aw ah ae av aj ak ag)){f:Addr}{fd:FuncData}(F:Fun K "law" "law" (top 63) f fd):FnOk P w K mg base CX0 10 f fd ["_law_script"] (as6 K ts):=by
 refine F.ok V3 (fun vs H Q E h=>?_) (fun cdv A outer s H vs Q E hr h=>?_)
 ·obtain⟨a,ns,rfl,_⟩:=h
  rfl
 obtain⟨a,ns,rfl,hS,h63,hT,q⟩:=h;have tabs:=a_2 n12 hT1 hT2 hT
 refine⟨_,(g6 (i0 (i:=1) V3.nd rfl (Or.inl rfl) (m9 kg hr rfl (b8 (pv 0) d8 b9)))
  (g6 (i0 (i:=2) V3.nd rfl (Or.inl rfl) (m9 jv hr rfl (b8 (pv 1) (b8 (i5 J6 (i5 r9 (i8 aB1 rfl T.mx boot_abs (b8 (m9 bX hr rfl (b8 (pv 0) (b8 d9 d8 m4) b9)) d8 n6)) d9) d9) d8 L9) b9)))
  (g6 (i0 (i:=3) V3.nd rfl (Or.inl rfl) (p7 (B6 K) rfl T.cY boot_list (b8 (pv 2) d8 b9)))
  (g6 (i0 (i:=4) V3.nd rfl (Or.inl rfl) (r6 (b8 t9 (b8 (Z5 Z.lO Z.lP rfl) (b8 (Z5 Z.li Z.lj rfl) (b8 (Z5 Z.kF Z.kG rfl) (b8 (a59 hX Z.ma hr rfl) (b8 (a47 iV Z.mF hr rfl (b8 (pv 3) d8 b9)) d8 n6) n6) n6) n6) n6) m4)))
  (g6 (A4 (C4 K PySem.F.plainAttrs_list PySem.F.slot_list_append PySem.F.type_list_append x8 (pv 3) (b8 d9 d8 m4)))
  (g6 (A4 (bc3 PySem.F.plainAttrs_list PySem.F.slot_list_reverse PySem.F.type_list_reverse aw2 (pv 3)))
  (g6 (i0 (i:=5) V3.nd rfl (Or.inl rfl) (r6 (b8 (r6 d8) (b8 d9 (b8 (r6 d8) (b8 (i5 r9 (j3 (j1 K) (pv 1) d9 (fun _ _=>rfl)) (j3 (j1 K) (pv 1) d9 (fun _ _=>rfl))) d8 L9) ag0) m4) ag0)))
  (g6 (B0 PassesOwn.never rfl (aQ7 rfl T.bW (b8 d9 (b8 (i8 (aO1 rfl) rfl T.lN boot_min (b8 (i8 (y0 K) rfl T.cz boot_len (b8 (pv 0) d8 b9)) (b8 d9 d8 m4) n6)) d8 n6) m4)) (m5 (i:=6) V3.nd rfl (Or.inl rfl))
  (g6 (i0 (i:=7) V3.nd rfl (Or.inl rfl) (m9 jw hr rfl (b8 (j3 (m3 K) (pv 0) (pv 6) (fun _ _=>rfl)) (b8 (pv 6) d8 b9) x6)))
  (g9 (m7 (i4 B2 (i5 p0 (i5 p0 (i5 r9 (pv 7) d9) d9) d9) d9 (j5 _)) (g9 (m7 (N0 (B3 K (m9 kO hr rfl (b8 (pv 5) (b8 (pv 7) d8 b9) b9)) (fun _=>rfl))) (g9 (i7 P6)) j7)) (g9 (m7 (N0 (B3 K (m9 kh hr rfl (b8 (pv 1) (b8 (pv 5) (b8 (pv 4) (b8 (pv 2) (b8 (pv 7) d8 b9) b9) b9) b9) b9)) (fun _=>rfl))) (g9 (i7 P6)) j7))))))
  (g9 (i7 (J7 (W3 K (Room.units0 hr)) (B1 (own:=["_law_pair"]) (fr:=[]) rfl (show CompScope ["_law_script","_law_hall_here","_law_wanted_here","_law_handed","_law_rules","_law_state","_law_at","_law_number_here"] (d7 (top 63)) _ _ _ from⟨rfl,by decide +kernel,by decide +kernel,by decide +kernel,by decide +kernel⟩) (o4 K (j3 (m3 K) (pv 5) d9 (fun _ _=>rfl))) (fun cl C s H ex=>⟨(m5 (i:=0) (show(["_law_pair"]:List Str).Nodup from by decide +kernel) rfl (Or.inl rfl) (Or.inr rfl)),(L7 (i4 (aJ7 K (aX0 K) (Room.units3 hr)) (j3 (m3 K) (pv 0) d9 (fun _ _=>rfl)) (j3 (m3 K) (pv 0) d9 (fun _ _=>rfl)) (j5 _))),(pv 0)⟩)) (r6 d8) (j5 _)))))))))))),?_⟩
 refine⟨_,rfl,a,ns,rfl,hS,fun p h H1 ok s1 ep=>?_⟩;have oi:=ok.ic;have ai:=ok.i;have ac:=ok.c;refine⟨_,rfl,_,rfl,a,ns,5,rfl,s1.seq hS,_,rfl,_,_,rfl,rfl,.inr ⟨by decide,by decide⟩,_,_,rfl,rfl,p,h,_,rfl,SqT.of ep,ok,?_,fun W ws H2 s2 hW eW w24=>?_⟩
 ·split <;> lia
 have s12:=s1.trans s2;refine⟨_,rfl,W,_,rfl,.inl (SqL.of eW),fun hd hhd=>?_⟩;have s3:=g7 hhd (.lst (ws.map V.int));have ehd:=d6 (H:=H2) (a:=hd) (o:=.lst (ws.map V.int));generalize upd H2 hd (.lst (ws.map V.int))=H3 at s3 ehd ⊢;have s13:=s12.trans s3;refine fun r1 d1 hr1 hd1 _=>?_;have u1:=R5 (C:=aw) hr1 hd1;have f1:=d6 (H:=upd H3 d1 (.own r1)) (a:=r1) (o:=.ins aw d1 []);generalize upd (upd H3 d1 (.own r1)) r1 (.ins aw d1 [])=K1 at u1 f1 ⊢;refine fun r2 d2 hr2 hd2 _=>?_;have u2:=R5 (C:=ah) hr2 hd2;have f2:=d6 (H:=upd K1 d2 (.own r2)) (a:=r2) (o:=.ins ah d2 []);generalize upd (upd K1 d2 (.own r2)) r2 (.ins ah d2 [])=K2 at u2 f2 ⊢;refine fun r3 d3 hr3 hd3 _=>?_;have u3:=R5 (C:=ae) hr3 hd3;have f3:=d6 (H:=upd K2 d3 (.own r3)) (a:=r3) (o:=.ins ae d3 []);generalize upd (upd K2 d3 (.own r3)) r3 (.ins ae d3 [])=K3 at u3 f3 ⊢;refine fun ro dr hro hdr _=>⟨ro,dr,0,rfl,d6,rfl,?_⟩;have u4:=a02 (C:=aj) (n:=0) hro hdr;have f4:=d6 (H:=upd (upd K3 dr (.own ro)) ro (.ins aj dr [])) (a:=ro) (o:=.ins aj dr (E1 0));generalize upd (upd (upd K3 dr (.own ro)) ro (.ins aj dr [])) ro (.ins aj dr (E1 0))=K4 at u4 f4 ⊢;have n1:r1≠ro:=fun z=>by rw[<- z,u3 _ _ (u2 _ _ f1)] at hro;cases hro
 have n2:r2≠ro:=fun z=>by rw[<- z,u3 _ _ f2] at hro;cases hro
 have n3:r3≠ro:=fun z=>by rw[<- z,f3] at hro;cases hro
 have u14:=u1.trans (u2.trans (u3.trans u4));have sK4:=s13.trans u14;have f14:=u4 _ _ (u3 _ _ (u2 _ _ f1));have f24:=u4 _ _ (u3 _ _ f2);have f34:=u4 _ _ f3;have ehd4:=u14 _ _ ehd;clear u1 u2 u3 u4 f1 f2 f3 hr1 hr2 hr3 hd1 hd2 hd3;refine⟨_,rfl,fun to dto hto hdto nto=>⟨to,dto,hd,ws,rfl,d6,?_,fun tr K6 htr oth etr eto=>⟨rfl,?_⟩⟩⟩
 ·rw[h7 (h9 ehd4 hto),h7 (h9 ehd4 hdto)]
  exact ehd4
 have u6:j0 K4 K6:=fun b u z=>oth b u (h9 z hto) (by rw[h7 (h9 z hto),h7 (h9 z hdto)];exact z)
 have nto':to≠ro:=fun z=>by rw[z,f4] at hto;cases hto
 have ntr:tr≠hd:=fun z=>by
  rw[z,h7 (h9 ehd4 hto),h7 (h9 ehd4 hdto),ehd4] at htr
  cases htr
 refine⟨(by show 6<=sizeLine;decide),fun rl hrl=>?_⟩
 have u7:=g7 hrl (.lst [.non,.ref r1,.ref r2,.ref r3,.ref ro,.ref to]);have erl:=d6 (H:=K6) (a:=rl) (o:=.lst [.non,.ref r1,.ref r2,.ref r3,.ref ro,.ref to]);generalize upd K6 rl (.lst [.non,.ref r1,.ref r2,.ref r3,.ref ro,.ref to])=K7 at u7 erl ⊢;have u47:=u6.trans u7;have sH7:=sK4.trans u47;have ehd7:=u47 _ _ ehd4;have nrl:rl≠hd:=fun z=>by rw[z,u6 _ _ ehd4] at hrl;cases hrl
 have nWh:W≠hd:=fun z=>by rw[<- z,eW] at hhd;cases hhd
 have eW7:K7 W=some (.lst (ws.map V.int)):=u47 _ _ (u14 _ _ (s3 _ _ eW));have ep7:K7 p=some (.tup (h.row.map V.int)):=u47 _ _ (u14 _ _ (s3 _ _ (s2 _ _ ep)));refine⟨_,rfl,.inl ⟨rfl,_,SqL.of ehd7⟩,hd,_,_,rfl,rfl,ehd7,j6 (by rw[length_map];lia),?_⟩
 have e8:=d6 (H:=K7) (a:=hd) (o:=.lst (ws.map V.int++[.int 0]));have k8:∀ b u,b≠hd->K7 b=some u->upd K7 hd (.lst (ws.map V.int++[.int 0])) b=some u:=fun b u nb z=>by rw[h7 nb];exact z
 generalize upd K7 hd (.lst (ws.map V.int++[.int 0]))=K8 at e8 k8 ⊢;refine⟨_,rfl,.inl ⟨rfl,_,SqL.of e8⟩,hd,_,rfl,rfl,e8,?_⟩;have e9:=d6 (H:=K8) (a:=hd) (o:=.lst (ws.map V.int++[V.int 0]).reverse);have k9:∀ b u,b≠hd->K7 b=some u->upd K8 hd (.lst (ws.map V.int++[V.int 0]).reverse) b=some u:=fun b u nb z=>by rw[h7 nb];exact k8 b u nb z
 generalize upd K8 hd (.lst (ws.map V.int++[V.int 0]).reverse)=K9 at e9 k9 ⊢;have nk:∀{b:Addr}{u:HO},K7 b=some u->(∀ xs,u≠.lst xs)->K9 b=some u:=fun {b u} z nu=>k9 b u (fun y=>by rw[y,ehd7] at z;exact nu _ (Option.some.inj z).symm) z
 have sq9:∀{b:Addr}{xs:List V},SqL K H b xs->SqL K K9 b xs:=fun {b xs} z=>by
  have nb:∀ u,H b=some u->b≠hd:=fun u y e=>by rw[e] at y;rw[s12 _ _ y] at hhd;cases hhd
  rcases z with(z | ⟨o,z⟩) | z
  ·exact .inl (.inl (k9 _ _ (nb _ z) (sH7 _ _ z)))
  ·exact .inl (.inr ⟨o,k9 _ _ (nb _ z) (sH7 _ _ z)⟩)
  ·exact .inr z
 have hS9:=sq9 hS;have f19:=nk (u47 _ _ f14) (fun _ z=>nomatch z);have f29:=nk (u47 _ _ f24) (fun _ z=>nomatch z);have f39:=nk (u47 _ _ f34) (fun _ z=>nomatch z);have f49:=nk (u47 _ _ f4) (fun _ z=>nomatch z);have f59:=nk (u7 _ _ eto) (fun _ z=>nomatch z);have etr9:=k9 _ _ ntr (u7 _ _ etr);have erl9:=k9 _ _ nrl erl;have eW9:=k9 _ _ nWh eW7;have ep9:=nk ep7 (fun _ z=>nomatch z)
 have tab9:∀{T:Addr}{pos:Pos}{qn:Str},F5 K7 T pos qn->F5 K9 T pos qn:=fun {T pos qn} y=>by
  obtain⟨ps,ht⟩:=C0 y;have nt:T≠hd:=fun z=>by rw[z,ehd7] at ht;cases ht
  rcases y with y | ⟨c',y1,y2⟩
  ·exact .inl (k9 _ _ nt y)
  ·exact .inr ⟨c',k9 _ _ nt y1,k9 _ _ (fun z=>by rw[z,ehd7] at y2;cases y2) y2⟩
 have tb7:=tabs.same sH7;have tb9:Tabs ak ag K9:=⟨tb7.ne,tab9 tb7.f,tab9 tb7.e⟩;clear u6 u7 u47 u14 oth k8;refine⟨(by show 0<=sizeLine;decide),fun lc hlc=>?_⟩
 have v1:=g7 hlc (.lst []);have elc:=d6 (H:=K9) (a:=lc) (o:=.lst []);generalize upd K9 lc (.lst [])=L1 at v1 elc ⊢;refine⟨(by show 0<=sizeLine;decide),fun Fp hF=>?_⟩
 have v2':=g7 hF (.lst []);have eF:=d6 (H:=L1) (a:=Fp) (o:=.lst []);generalize upd L1 Fp (.lst [])=L2' at v2' eF ⊢;have v2:=v1.trans v2';have ep10:=v2 _ _ ep9;refine⟨_,rfl,p,_,_,_,rfl,rfl,SqT.of ep10,rfl,_,rfl,p,_,_,_,rfl,rfl,SqT.of ep10,rfl,_,_,rfl,rfl,.inl ⟨by lia,by lia⟩,(by show 4<=sizeLine;decide),fun S hSn=>?_⟩
 dsimp only
 have v3':=g7 hSn (.lst [.ref lc,.int 0,.ref Fp,.int (h.i * h.c)]);have eS:=d6 (H:=L2') (a:=S) (o:=.lst [.ref lc,.int 0,.ref Fp,.int (h.i * h.c)]);generalize upd L2' S (.lst [.ref lc,.int 0,.ref Fp,.int (h.i * h.c)])=L3 at v3' eS ⊢;have v3:=v2.trans v3';have nSF:∀{b:Addr}{u:HO},K9 b=some u->b≠S/\b≠Fp:=fun {b u} z=>⟨h9 (v2 _ _ z) hSn,h9 (v1 _ _ z) hF⟩;have D0:Dyn aj ak ag S Fp ro lc h 0 [] [] [] 0 L3:=⟨eS,v3' _ _ eF,Nat.le_refl _,v3' _ _ (v2' _ _ elc),h9 (v2' _ _ elc) hSn,h9 elc hF,h9 eF hSn,.nil,(fun k hk=>nomatch hk),.nil,(fun k hk=>nomatch hk),Nat.le_refl _,(fun x hx=>nomatch hx),⟨_,v3 _ _ f49⟩,tb9.same v3⟩;have t0:Stat aw ah ae av S Fp ro p rl W h ws L3:=⟨v3 _ _ ep9,ok,v3 _ _ eW9,nSF eW9,w24,⟨r1,r2,r3,to,v3 _ _ erl9,⟨n1,n2,n3,nto'⟩,⟨_,v3 _ _ f19⟩,⟨_,v3 _ _ f29⟩,⟨_,v3 _ _ f39⟩,_,tr,v3 _ _ f59,v3 _ _ etr9,(nSF etr9).1,(nSF etr9).2⟩,nSF erl9⟩;have hS10:=v3.seq hS9
 have na:(a≠S/\a≠Fp)\/∀ G,SqL K G a (ns.map V.int):=by
  rcases hS9 with(z | ⟨o,z⟩) | z
  ·exact .inl (nSF z)
  ·exact .inl (nSF z)
  ·exact .inr fun G=>.inr z
 refine⟨_,rfl,a,_,rfl,.inl hS10,_,_,rfl,_,_,rfl,⟨by decide,by decide,?_,?_⟩,?_⟩
 ·show -(2 ^ 62)<=(if (70:Int) < (((ns.map V.int).length:Nat):Int) then 70 else (((ns.map V.int).length:Nat):Int))
  split <;> lia
 ·rw[length_map]
  show(if (70:Int) < ((ns.length:Nat):Int) then 70 else ((ns.length:Nat):Int)) < 2 ^ 62
  split <;> lia
 rw[length_map]
 have bnd:∀ i:Nat,i < ((if (70:Int) < ((ns.length:Nat):Int) then (70:Int) else ((ns.length:Nat):Int)) - 6).toNat->6 + i < ns.length/\i < 58:=fun i hi=>by
  split at hi <;> lia
 refine D8 (lo:=6) (fun i σ G=>SqL K G a (ns.map V.int)/\Stat aw ah ae av S Fp ro p rl W h ws G/\i < 59/\∃(lc:Addr)(n:Int)(as ps:List Addr)(ks:List Call)(v6 v7:Option V),Dyn aj ak ag S Fp ro lc h n as ps ks i G/\σ=[some (.ref a),some (.ref p),some (.ref W),some (.ref hd),some (.ref rl),some (.ref S),v6,v7])
  ⟨hS10,t0,by decide,lc,0,[],[],[],none,none,D0,rfl⟩ ?_ ?_
 ·rintro i σ G hi ⟨b1,b2,b0,lc,n,as,ps,ks,v6,v7,D,rfl⟩
  obtain⟨hi1,hi2⟩:=bnd i hi;have e6:(6 + (i:Int))=((6 + i:Nat):Int):=by lia
  rw[e6];refine⟨_,rfl,_,rfl,a,_,_,_,rfl,rfl,b1,aW6 hi1,_,rfl,_,6 + i,rfl,by lia,fun n0 hn0=>?_⟩
  refine⟨_,rfl,_,_,rfl,rfl,.inr ⟨by decide,by decide⟩,_,_,rfl,rfl,(by show(0:Int) < 999917;decide),_,_,rfl,rfl,(by show(0:Int) < 7;decide),rfl,_,rfl,z8 (fun z=>?_) (fun z=>?_)⟩
  ·exact⟨_,rfl,_,rfl,S,Fp,ro,lc,h,n,n0,as,ps,ks,i,rfl,D,ok,by lia,fun lc' as' ps' ks' G2 k2 D2=>⟨_,rfl,B7 ⟨D.seq k2 na b1,b2.keep D k2,by lia,lc',n,as',ps',ks',_,_,D2,rfl⟩⟩⟩
  ·exact⟨_,rfl,_,rfl,_,rfl,_,rfl,_,rfl,p,S,Fp,ro,lc,rl,W,h,n,n0,as,ps,ks,i,ws,rfl,b2,D,by lia,fun lc' n' as' ps' ks' G2 k2 D2=>⟨_,rfl,B7 ⟨D.seq k2 na b1,b2.keep D k2,by lia,lc',n',as',ps',ks',_,_,D2,rfl⟩⟩⟩
 ·rintro σ G ⟨b1,b2,b0,lc,n,as,ps,ks,v6,v7,D,rfl⟩
  have pl:=D.pl;refine⟨_,rfl,S,_,_,_,rfl,rfl,SqL.of D.s,rfl,Fp,rfl,⟨_,SqL.of D.f⟩,?_⟩
  refine x9 (xs:=ps.map V.ref) (fun j acc σ G'=>G'=G/\acc=[]/\∃ v,σ=[v])
   ⟨rfl,rfl,none,rfl⟩ (Nat.le_of_lt (j6 (by rw[length_map];lia))) (fun j acc σ G' g=>by obtain⟨_,rfl,_⟩:=g;exact Nat.zero_le _) (fun j acc σ G' _ g=>by rw[g.1];exact SqL.of D.f) ?_ ?_
  ·rintro j y acc σ G' hy ⟨rfl,rfl,v,rfl⟩
   rw[List.getElem?_map] at hy;obtain⟨x,hx,rfl⟩:=Option.map_eq_some_iff.mp hy;obtain⟨f1,f2,as',bs',ks',_,_,_,d1,d2,d3,c1,c2⟩:=D.pr x (List.mem_of_getElem? hx);exact⟨_,rfl,x,_,_,_,rfl,rfl,SqL.of d1,rfl,_,rfl,x,_,_,_,rfl,rfl,SqL.of d1,rfl,_,_,⟨f1,_,rfl,SqL.of d2,S0 c1⟩,⟨f2,_,rfl,SqL.of d3,S0 c2⟩,_,rfl,ab7 (by simp) ⟨rfl,rfl,_,rfl⟩⟩
  rintro acc σ G' ⟨rfl,rfl,v,rfl⟩ l9 hl9
  have el9:=d6 (H:=G') (a:=l9) (o:=.lst []);generalize upd G' l9 (.lst [])=G6 at el9 ⊢;refine⟨(by show 0<=sizeLine;decide),fun o ho=>?_⟩
  have eo:=d6 (H:=G6) (a:=o) (o:=.lst []);have el9':=g7 ho (.lst []) _ _ el9;generalize upd G6 o (.lst [])=G7 at eo el9' ⊢;exact⟨l9,o,[],rfl,rfl,SqL.of el9',SqL.of eo,q G7⟩
end
section
variable {l:PySem.W.OpenLaw}{w:World}{K:Frag}{h:Heap}{mg:Str->Option Value}
theorem o7 {x:Str}{st:Stmt}{ps:List Str}{f:Addr}{oc:Value}{od an:Option Addr}{sl:Array (Option Value)}{kV dc pm cd ct:Value}(X:K.In h)(G:h.Ns mainGlobals mg)(a:nsIn K mainGlobals x=some (some (.ref f)))
  (l:K.lookup f=some ⟨oc,od,.func (fnOf x x (j2 st) (i3 st) (d7 st) .none kV dc pm an cd ct),sl⟩)(c:codeIn K cd x=true)(k:keepIn K (.ref f)=true)
  (b:∀ us:List Value,us.length=ps.length->bindArgs (fnOf x x (j2 st) (i3 st) (d7 st) .none kV dc pm an cd ct) ⟨us,[]⟩=pure (ps.zip us)):Def K mg x st ps :=
 ⟨f,_,aX1 l c k,.all b,PySem.W.mg_of X G a⟩
theorem bf8 {ts:List Addr}{fa f1 f2 f3 f4 f5 f6 f7 f8 f9 f10 f11 f12 f13 f14 f15 f16 f17 f18 f19 f20 f21 f22 f23 f24 f25 f26 f27 f28 f29 f30 f31 f32 f33 f34 f35 f36 f37 f38 f39 f40 f41 f42  aw ah ae aj av ad aq ao af ar ap am aa au aX aN aK aO aV aR aY aJ aH:Addr}(X:K.In h)(G:h.Ns mainGlobals mg)(hfa:mg "law" = some (.ref fa))
  {od1 an1 od2 an2 od3 an3 od4 an4 od5 an5 od6 an6 od7 an7 od8 an8 od9 an9 nO an10 nP an11 nQ an12 nR an13 nU an14 nV an15 nW an16 nX an17 nY an18 nZ an19 oa an20 og an21 oh an22 oj an23 oo an24 oq an25 ou an26 ow an27 oy an28 oz an29 oA an30 oB an31 oC an32 oE an33 oF an34 oG an35 oH an36 oJ an37 oK an38 oM an39 oN an40 oO an41 oP an42:Option Addr}{sl1 sl2 sl3 sl4 sl5 sl6 sl7 sl8 sl9 oQ oR oS oU oV oW oX oY oZ pb pc pd pf ph pp pA pB pC pE pF pG pH pI pJ pK pL pM pN pO pP pQ pR pS:Array (Option Value)}{oc1 kV1 dc1 pm1 cd1 ct1 oc2 kV2 dc2 pm2 cd2 ct2 oc3 kV3 dc3 pm3 cd3 ct3 oc4 kV4 dc4 pm4 cd4 ct4 oc5 kV5 dc5 pm5 cd5 ct5 oc6 kV6 dc6 pm6 cd6 ct6 oc7 kV7 dc7 pm7 cd7 ct7 oc8 kV8 dc8 pm8 cd8 ct8 oc9 kV9 dc9 pm9 cd9 ct9 oc10 kV10 dc10 pm10 cd10 ct10 oc11 kV11 dc11 pm11 cd11 ct11 oc12 kV12 dc12 pm12 cd12 ct12 oc13 kV13 dc13 pm13 cd13 ct13 oc14 kV14 dc14 pm14 cd14 ct14 oc15 kV15 dc15 pm15 cd15 ct15 oc16 kV16 dc16 pm16 cd16 ct16 oc17 kV17 dc17 pm17 cd17 ct17 oc18 kV18 dc18 pm18 cd18 ct18 oc19 kV19 dc19 pm19 cd19 ct19 oc20 kV20 dc20 pm20 cd20 ct20 oc21 kV21 dc21 pm21 cd21 ct21 oc22 kV22 dc22 pm22 cd22 ct22 oc23 kV23 dc23 pm23 cd23 ct23 oc24 kV24 dc24 pm24 cd24 ct24 oc25 kV25 dc25 pm25 cd25 ct25 oc26 kV26 dc26 pm26 cd26 ct26 oc27 kV27 dc27 pm27 cd27 ct27 oc28 kV28 dc28 pm28 cd28 ct28 oc29 kV29 dc29 pm29 cd29 ct29 oc30 kV30 dc30 pm30 cd30 ct30 oc31 kV31 dc31 pm31 cd31 ct31 oc32 kV32 dc32 pm32 cd32 ct32 oc33 kV33 dc33 pm33 cd33 ct33 oc34 kV34 dc34 pm34 cd34 ct34 oc35 kV35 dc35 pm35 cd35 ct35 oc36 kV36 dc36 pm36 cd36 ct36 oc37 kV37 dc37 pm37 cd37 ct37 oc38 kV38 dc38 pm38 cd38 ct38 oc39 kV39 dc39 pm39 cd39 ct39 oc40 kV40 dc40 pm40 cd40 ct40 oc41 kV41 dc41 pm41 cd41 ct41 oc42 kV42 dc42 pm42 cd42 ct42:Value}
  {dv14:Addr}{mU:Option Addr}{mV:Array (Option Value)}{nv14:Nat}{td14_0:Tok}
  {dv15:Addr}{mW:Option Addr}{mY:Array (Option Value)}{nv15:Nat}{td15_0:Tok}
  {dv22:Addr}{mZ:Option Addr}{ng:Array (Option Value)}{nv22:Nat}{td22_1:Tok}
  (a1:nsIn K mainGlobals "is_number" = some (some (.ref f1)))(l1:K.lookup f1=some ⟨oc1,od1,.func (fnOf "is_number" "is_number" (j2 (top 11)) (i3 (top 11)) (d7 (top 11)) .none kV1 dc1 pm1 an1 cd1 ct1),sl1⟩)(c1:codeIn K cd1 "is_number" = true)(k1:keepIn K (.ref f1)=true)
  (a2:nsIn K mainGlobals "is_whole" = some (some (.ref f2)))(l2:K.lookup f2=some ⟨oc2,od2,.func (fnOf "is_whole" "is_whole" (j2 (top 12)) (i3 (top 12)) (d7 (top 12)) .none kV2 dc2 pm2 an2 cd2 ct2),sl2⟩)(c2:codeIn K cd2 "is_whole" = true)(k2:keepIn K (.ref f2)=true)
  (a3:nsIn K mainGlobals "place_in" = some (some (.ref f3)))(l3:K.lookup f3=some ⟨oc3,od3,.func (fnOf "place_in" "place_in" (j2 (top 13)) (i3 (top 13)) (d7 (top 13)) .none kV3 dc3 pm3 an3 cd3 ct3),sl3⟩)(c3:codeIn K cd3 "place_in" = true)(k3:keepIn K (.ref f3)=true)
  (a4:nsIn K mainGlobals "place_out" = some (some (.ref f4)))(l4:K.lookup f4=some ⟨oc4,od4,.func (fnOf "place_out" "place_out" (j2 (top 14)) (i3 (top 14)) (d7 (top 14)) .none kV4 dc4 pm4 an4 cd4 ct4),sl4⟩)(c4:codeIn K cd4 "place_out" = true)(k4:keepIn K (.ref f4)=true)
  (a5:nsIn K mainGlobals "are_ends" = some (some (.ref f5)))(l5:K.lookup f5=some ⟨oc5,od5,.func (fnOf "are_ends" "are_ends" (j2 (top 15)) (i3 (top 15)) (d7 (top 15)) .none kV5 dc5 pm5 an5 cd5 ct5),sl5⟩)(c5:codeIn K cd5 "are_ends" = true)(k5:keepIn K (.ref f5)=true)
  (a6:nsIn K mainGlobals "racks_of" = some (some (.ref f6)))(l6:K.lookup f6=some ⟨oc6,od6,.func (fnOf "racks_of" "racks_of" (j2 (top 16)) (i3 (top 16)) (d7 (top 16)) .none kV6 dc6 pm6 an6 cd6 ct6),sl6⟩)(c6:codeIn K cd6 "racks_of" = true)(k6:keepIn K (.ref f6)=true)
  (a7:nsIn K mainGlobals "left_open" = some (some (.ref f7)))(l7:K.lookup f7=some ⟨oc7,od7,.func (fnOf "left_open" "left_open" (j2 (top 18)) (i3 (top 18)) (d7 (top 18)) .none kV7 dc7 pm7 an7 cd7 ct7),sl7⟩)(c7:codeIn K cd7 "left_open" = true)(k7:keepIn K (.ref f7)=true)
  (a8:nsIn K mainGlobals "are_unlike" = some (some (.ref f8)))(l8:K.lookup f8=some ⟨oc8,od8,.func (fnOf "are_unlike" "are_unlike" (j2 (top 19)) (i3 (top 19)) (d7 (top 19)) .none kV8 dc8 pm8 an8 cd8 ct8),sl8⟩)(c8:codeIn K cd8 "are_unlike" = true)(k8:keepIn K (.ref f8)=true)
  (a9:nsIn K mainGlobals "loads" = some (some (.ref f9)))(l9:K.lookup f9=some ⟨oc9,od9,.func (fnOf "loads" "loads" (j2 (top 21)) (i3 (top 21)) (d7 (top 21)) .none kV9 dc9 pm9 an9 cd9 ct9),sl9⟩)(c9:codeIn K cd9 "loads" = true)(k9:keepIn K (.ref f9)=true)
  (a10:nsIn K mainGlobals "is_caller" = some (some (.ref f10)))(l10:K.lookup f10=some ⟨oc10,nO,.func (fnOf "is_caller" "is_caller" (j2 (top 29)) (i3 (top 29)) (d7 (top 29)) .none kV10 dc10 pm10 an10 cd10 ct10),oQ⟩)(c10:codeIn K cd10 "is_caller" = true)(k10:keepIn K (.ref f10)=true)
  (a11:nsIn K mainGlobals "is_ends" = some (some (.ref f11)))(l11:K.lookup f11=some ⟨oc11,nP,.func (fnOf "is_ends" "is_ends" (j2 (top 30)) (i3 (top 30)) (d7 (top 30)) .none kV11 dc11 pm11 an11 cd11 ct11),oR⟩)(c11:codeIn K cd11 "is_ends" = true)(k11:keepIn K (.ref f11)=true)
  (a12:nsIn K mainGlobals "holds_needed" = some (some (.ref f12)))(l12:K.lookup f12=some ⟨oc12,nQ,.func (fnOf "holds_needed" "holds_needed" (j2 (top 31)) (i3 (top 31)) (d7 (top 31)) .none kV12 dc12 pm12 an12 cd12 ct12),oS⟩)(c12:codeIn K cd12 "holds_needed" = true)(k12:keepIn K (.ref f12)=true)
  (a13:nsIn K mainGlobals "holders" = some (some (.ref f13)))(l13:K.lookup f13=some ⟨oc13,nR,.func (fnOf "holders" "holders" (j2 (top 32)) (i3 (top 32)) (d7 (top 32)) .none kV13 dc13 pm13 an13 cd13 ct13),oU⟩)(c13:codeIn K cd13 "holders" = true)(k13:keepIn K (.ref f13)=true)
  (dl14:K.lookup dv14=some ⟨.type "tuple",mU,.seq #[.int 0 td14_0] nv14,mV⟩)
  (a14:nsIn K mainGlobals "ways" = some (some (.ref f14)))(l14:K.lookup f14=some ⟨oc14,nU,.func (fnOf "ways" "ways" (j2 (top 33)) (i3 (top 33)) (d7 (top 33)) (.ref dv14) kV14 dc14 pm14 an14 cd14 ct14),oV⟩)(c14:codeIn K cd14 "ways" = true)(k14:keepIn K (.ref f14)=true)
  (dl15:K.lookup dv15=some ⟨.type "tuple",mW,.seq #[.int 0 td15_0] nv15,mY⟩)
  (a15:nsIn K mainGlobals "least_ended" = some (some (.ref f15)))(l15:K.lookup f15=some ⟨oc15,nV,.func (fnOf "least_ended" "least_ended" (j2 (top 34)) (i3 (top 34)) (d7 (top 34)) (.ref dv15) kV15 dc15 pm15 an15 cd15 ct15),oW⟩)(c15:codeIn K cd15 "least_ended" = true)(k15:keepIn K (.ref f15)=true)
  (a16:nsIn K mainGlobals "call_of" = some (some (.ref f16)))(l16:K.lookup f16=some ⟨oc16,nW,.func (fnOf "call_of" "call_of" (j2 (top 36)) (i3 (top 36)) (d7 (top 36)) .none kV16 dc16 pm16 an16 cd16 ct16),oX⟩)(c16:codeIn K cd16 "call_of" = true)(k16:keepIn K (.ref f16)=true)
  (a17:nsIn K mainGlobals "holder_of" = some (some (.ref f17)))(l17:K.lookup f17=some ⟨oc17,nX,.func (fnOf "holder_of" "holder_of" (j2 (top 37)) (i3 (top 37)) (d7 (top 37)) .none kV17 dc17 pm17 an17 cd17 ct17),oY⟩)(c17:codeIn K cd17 "holder_of" = true)(k17:keepIn K (.ref f17)=true)
  (a18:nsIn K mainGlobals "refuse_wrong" = some (some (.ref f18)))(l18:K.lookup f18=some ⟨oc18,nY,.func (fnOf "refuse_wrong" "refuse_wrong" (j2 (top 38)) (i3 (top 38)) (d7 (top 38)) .none kV18 dc18 pm18 an18 cd18 ct18),oZ⟩)(c18:codeIn K cd18 "refuse_wrong" = true)(k18:keepIn K (.ref f18)=true)
  (a19:nsIn K mainGlobals "refuse_busy" = some (some (.ref f19)))(l19:K.lookup f19=some ⟨oc19,nZ,.func (fnOf "refuse_busy" "refuse_busy" (j2 (top 39)) (i3 (top 39)) (d7 (top 39)) .none kV19 dc19 pm19 an19 cd19 ct19),pb⟩)(c19:codeIn K cd19 "refuse_busy" = true)(k19:keepIn K (.ref f19)=true)
  (a20:nsIn K mainGlobals "refuse_engaged" = some (some (.ref f20)))(l20:K.lookup f20=some ⟨oc20,oa,.func (fnOf "refuse_engaged" "refuse_engaged" (j2 (top 40)) (i3 (top 40)) (d7 (top 40)) .none kV20 dc20 pm20 an20 cd20 ct20),pc⟩)(c20:codeIn K cd20 "refuse_engaged" = true)(k20:keepIn K (.ref f20)=true)
  (a21:nsIn K mainGlobals "with_call" = some (some (.ref f21)))(l21:K.lookup f21=some ⟨oc21,og,.func (fnOf "with_call" "with_call" (j2 (top 41)) (i3 (top 41)) (d7 (top 41)) .none kV21 dc21 pm21 an21 cd21 ct21),pd⟩)(c21:codeIn K cd21 "with_call" = true)(k21:keepIn K (.ref f21)=true)
  (dl22:K.lookup dv22=some ⟨.type "tuple",mZ,.seq #[.none,.int 0 td22_1] nv22,ng⟩)
  (a22:nsIn K mainGlobals "joined" = some (some (.ref f22)))(l22:K.lookup f22=some ⟨oc22,oh,.func (fnOf "joined" "joined" (j2 (top 42)) (i3 (top 42)) (d7 (top 42)) (.ref dv22) kV22 dc22 pm22 an22 cd22 ct22),pf⟩)(c22:codeIn K cd22 "joined" = true)(k22:keepIn K (.ref f22)=true)
  (a23:nsIn K mainGlobals "ended" = some (some (.ref f23)))(l23:K.lookup f23=some ⟨oc23,oj,.func (fnOf "ended" "ended" (j2 (top 43)) (i3 (top 43)) (d7 (top 43)) .none kV23 dc23 pm23 an23 cd23 ct23),ph⟩)(c23:codeIn K cd23 "ended" = true)(k23:keepIn K (.ref f23)=true)
  (a24:nsIn K mainGlobals "_law_cell_at" = some (some (.ref f24)))(l24:K.lookup f24=some ⟨oc24,oo,.func (fnOf "_law_cell_at" "_law_cell_at" (j2 (top 45)) (i3 (top 45)) (d7 (top 45)) .none kV24 dc24 pm24 an24 cd24 ct24),pp⟩)(c24:codeIn K cd24 "_law_cell_at" = true)(k24:keepIn K (.ref f24)=true)
  (a25:nsIn K mainGlobals "_law_hall" = some (some (.ref f25)))(l25:K.lookup f25=some ⟨oc25,oq,.func (fnOf "_law_hall" "_law_hall" (j2 (top 46)) (i3 (top 46)) (d7 (top 46)) .none kV25 dc25 pm25 an25 cd25 ct25),pA⟩)(c25:codeIn K cd25 "_law_hall" = true)(k25:keepIn K (.ref f25)=true)
  (a26:nsIn K mainGlobals "_law_ends" = some (some (.ref f26)))(l26:K.lookup f26=some ⟨oc26,ou,.func (fnOf "_law_ends" "_law_ends" (j2 (top 47)) (i3 (top 47)) (d7 (top 47)) .none kV26 dc26 pm26 an26 cd26 ct26),pB⟩)(c26:codeIn K cd26 "_law_ends" = true)(k26:keepIn K (.ref f26)=true)
  (a27:nsIn K mainGlobals "_law_lines" = some (some (.ref f27)))(l27:K.lookup f27=some ⟨oc27,ow,.func (fnOf "_law_lines" "_law_lines" (j2 (top 48)) (i3 (top 48)) (d7 (top 48)) .none kV27 dc27 pm27 an27 cd27 ct27),pC⟩)(c27:codeIn K cd27 "_law_lines" = true)(k27:keepIn K (.ref f27)=true)
  (a28:nsIn K mainGlobals "_law_number" = some (some (.ref f28)))(l28:K.lookup f28=some ⟨oc28,oy,.func (fnOf "_law_number" "_law_number" (j2 (top 49)) (i3 (top 49)) (d7 (top 49)) .none kV28 dc28 pm28 an28 cd28 ct28),pE⟩)(c28:codeIn K cd28 "_law_number" = true)(k28:keepIn K (.ref f28)=true)
  (a29:nsIn K mainGlobals "_law_alike" = some (some (.ref f29)))(l29:K.lookup f29=some ⟨oc29,oz,.func (fnOf "_law_alike" "_law_alike" (j2 (top 50)) (i3 (top 50)) (d7 (top 50)) .none kV29 dc29 pm29 an29 cd29 ct29),pF⟩)(c29:codeIn K cd29 "_law_alike" = true)(k29:keepIn K (.ref f29)=true)
  (a30:nsIn K mainGlobals "_law_kind" = some (some (.ref f30)))(l30:K.lookup f30=some ⟨oc30,oA,.func (fnOf "_law_kind" "_law_kind" (j2 (top 51)) (i3 (top 51)) (d7 (top 51)) .none kV30 dc30 pm30 an30 cd30 ct30),pG⟩)(c30:codeIn K cd30 "_law_kind" = true)(k30:keepIn K (.ref f30)=true)
  (a31:nsIn K mainGlobals "_law_holds" = some (some (.ref f31)))(l31:K.lookup f31=some ⟨oc31,oB,.func (fnOf "_law_holds" "_law_holds" (j2 (top 52)) (i3 (top 52)) (d7 (top 52)) .none kV31 dc31 pm31 an31 cd31 ct31),pH⟩)(c31:codeIn K cd31 "_law_holds" = true)(k31:keepIn K (.ref f31)=true)
  (a32:nsIn K mainGlobals "_law_best" = some (some (.ref f32)))(l32:K.lookup f32=some ⟨oc32,oC,.func (fnOf "_law_best" "_law_best" (j2 (top 53)) (i3 (top 53)) (d7 (top 53)) .none kV32 dc32 pm32 an32 cd32 ct32),pI⟩)(c32:codeIn K cd32 "_law_best" = true)(k32:keepIn K (.ref f32)=true)
  (a33:nsIn K mainGlobals "_law_busy" = some (some (.ref f33)))(l33:K.lookup f33=some ⟨oc33,oE,.func (fnOf "_law_busy" "_law_busy" (j2 (top 54)) (i3 (top 54)) (d7 (top 54)) .none kV33 dc33 pm33 an33 cd33 ct33),pJ⟩)(c33:codeIn K cd33 "_law_busy" = true)(k33:keepIn K (.ref f33)=true)
  (a34:nsIn K mainGlobals "_law_due" = some (some (.ref f34)))(l34:K.lookup f34=some ⟨oc34,oF,.func (fnOf "_law_due" "_law_due" (j2 (top 55)) (i3 (top 55)) (d7 (top 55)) .none kV34 dc34 pm34 an34 cd34 ct34),pK⟩)(c34:codeIn K cd34 "_law_due" = true)(k34:keepIn K (.ref f34)=true)
  (a35:nsIn K mainGlobals "_law_paper" = some (some (.ref f35)))(l35:K.lookup f35=some ⟨oc35,oG,.func (fnOf "_law_paper" "_law_paper" (j2 (top 56)) (i3 (top 56)) (d7 (top 56)) .none kV35 dc35 pm35 an35 cd35 ct35),pL⟩)(c35:codeIn K cd35 "_law_paper" = true)(k35:keepIn K (.ref f35)=true)
  (a36:nsIn K mainGlobals "_law_most" = some (some (.ref f36)))(l36:K.lookup f36=some ⟨oc36,oH,.func (fnOf "_law_most" "_law_most" (j2 (top 57)) (i3 (top 57)) (d7 (top 57)) .none kV36 dc36 pm36 an36 cd36 ct36),pM⟩)(c36:codeIn K cd36 "_law_most" = true)(k36:keepIn K (.ref f36)=true)
  (a37:nsIn K mainGlobals "_law_wanted" = some (some (.ref f37)))(l37:K.lookup f37=some ⟨oc37,oJ,.func (fnOf "_law_wanted" "_law_wanted" (j2 (top 58)) (i3 (top 58)) (d7 (top 58)) .none kV37 dc37 pm37 an37 cd37 ct37),pN⟩)(c37:codeIn K cd37 "_law_wanted" = true)(k37:keepIn K (.ref f37)=true)
  (a38:nsIn K mainGlobals "_law_chosen" = some (some (.ref f38)))(l38:K.lookup f38=some ⟨oc38,oK,.func (fnOf "_law_chosen" "_law_chosen" (j2 (top 59)) (i3 (top 59)) (d7 (top 59)) .none kV38 dc38 pm38 an38 cd38 ct38),pO⟩)(c38:codeIn K cd38 "_law_chosen" = true)(k38:keepIn K (.ref f38)=true)
  (a39:nsIn K mainGlobals "_law_end" = some (some (.ref f39)))(l39:K.lookup f39=some ⟨oc39,oM,.func (fnOf "_law_end" "_law_end" (j2 (top 60)) (i3 (top 60)) (d7 (top 60)) .none kV39 dc39 pm39 an39 cd39 ct39),pP⟩)(c39:codeIn K cd39 "_law_end" = true)(k39:keepIn K (.ref f39)=true)
  (a40:nsIn K mainGlobals "_law_asked" = some (some (.ref f40)))(l40:K.lookup f40=some ⟨oc40,oN,.func (fnOf "_law_asked" "_law_asked" (j2 (top 61)) (i3 (top 61)) (d7 (top 61)) .none kV40 dc40 pm40 an40 cd40 ct40),pQ⟩)(c40:codeIn K cd40 "_law_asked" = true)(k40:keepIn K (.ref f40)=true)
  (a41:nsIn K mainGlobals "_law_join" = some (some (.ref f41)))(l41:K.lookup f41=some ⟨oc41,oO,.func (fnOf "_law_join" "_law_join" (j2 (top 62)) (i3 (top 62)) (d7 (top 62)) .none kV41 dc41 pm41 an41 cd41 ct41),pR⟩)(c41:codeIn K cd41 "_law_join" = true)(k41:keepIn K (.ref f41)=true)
  (a42:nsIn K mainGlobals "law" = some (some (.ref f42)))(l42:K.lookup f42=some ⟨oc42,oP,.func (fnOf "law" "law" (j2 (top 63)) (i3 (top 63)) (d7 (top 63)) .none kV42 dc42 pm42 an42 cd42 ct42),pS⟩)(c42:codeIn K cd42 "law" = true)(k42:keepIn K (.ref f42)=true)
  (fW:nsIn K mainGlobals "Rule" = some (some (.ref aw)))
  (fX:PySem.W.plainGet K aw Str.empty=true)(fY:PySem.W.hasDictIn K aw=true)(fZ:PySem.W.plainOver K aw=true)(gb:findIn K (.ref aw) "__setattr__" = some (some (.builtin "object.__setattr__")))(hZ:PySem.W.makesIn K aw=true)(ia:keepIn K (.ref aw)=true)
  (ib:findIn K (.ref aw) "__class__" = some (some (.builtin "object.__class__")))(ie:PySem.W.specialIn K (.builtin "object.__class__") "__get__" = some (some (.builtin "getset_descriptor.__get__")))(ig:PySem.W.takesIn K (.builtin "object.__class__")=some true)(ii:PySem.W.mroIn K aw (.type "object")=some true)
  (ij:findIn K (.ref aw) "__init__" = some (some (.builtin "object.__init__")))
  (dH:nsIn K mainGlobals "Fullest" = some (some (.ref ah)))
  (dJ:PySem.W.plainGet K ah Str.empty=true)(dL:PySem.W.hasDictIn K ah=true)(dM:PySem.W.plainOver K ah=true)(dN:findIn K (.ref ah) "__setattr__" = some (some (.builtin "object.__setattr__")))(eQ:PySem.W.makesIn K ah=true)(eT:keepIn K (.ref ah)=true)
  (eU:findIn K (.ref ah) "__class__" = some (some (.builtin "object.__class__")))(eV:PySem.W.specialIn K (.builtin "object.__class__") "__get__" = some (some (.builtin "getset_descriptor.__get__")))(eX:PySem.W.takesIn K (.builtin "object.__class__")=some true)(eY:PySem.W.mroIn K ah (.type "object")=some true)
  (eZ:findIn K (.ref ah) "__init__" = some (some (.builtin "object.__init__")))
  (cP:nsIn K mainGlobals "Emptiest" = some (some (.ref ae)))
  (cQ:PySem.W.plainGet K ae Str.empty=true)(cR:PySem.W.hasDictIn K ae=true)(cS:PySem.W.plainOver K ae=true)(cT:findIn K (.ref ae) "__setattr__" = some (some (.builtin "object.__setattr__")))(ei:PySem.W.makesIn K ae=true)(ez:keepIn K (.ref ae)=true)
  (eA:findIn K (.ref ae) "__class__" = some (some (.builtin "object.__class__")))(eB:PySem.W.specialIn K (.builtin "object.__class__") "__get__" = some (some (.builtin "getset_descriptor.__get__")))(eC:PySem.W.takesIn K (.builtin "object.__class__")=some true)(eD:PySem.W.mroIn K ae (.type "object")=some true)
  (eE:findIn K (.ref ae) "__init__" = some (some (.builtin "object.__init__")))
  (fc:nsIn K mainGlobals "Round" = some (some (.ref aj)))
  (ff:PySem.W.plainGet K aj Str.empty=true)(fg:PySem.W.hasDictIn K aj=true)(fh:PySem.W.plainOver K aj=true)(fi:findIn K (.ref aj) "__setattr__" = some (some (.builtin "object.__setattr__")))(gB:PySem.W.makesIn K aj=true)(gC:keepIn K (.ref aj)=true)
  (gE:findIn K (.ref aj) "__class__" = some (some (.builtin "object.__class__")))(gF:PySem.W.specialIn K (.builtin "object.__class__") "__get__" = some (some (.builtin "getset_descriptor.__get__")))(gG:PySem.W.takesIn K (.builtin "object.__class__")=some true)(gH:PySem.W.mroIn K aj (.type "object")=some true)
  (da:findIn K (.ref aj) "start" = some none)
  (gc:nsIn K mainGlobals "Told" = some (some (.ref av)))
  (gi:PySem.W.plainGet K av Str.empty=true)(gj:PySem.W.hasDictIn K av=true)(gk:PySem.W.plainOver K av=true)(gm:findIn K (.ref av) "__setattr__" = some (some (.builtin "object.__setattr__")))(il:PySem.W.makesIn K av=true)(io:keepIn K (.ref av)=true)
  (ip:findIn K (.ref av) "__class__" = some (some (.builtin "object.__class__")))(iq:PySem.W.specialIn K (.builtin "object.__class__") "__get__" = some (some (.builtin "getset_descriptor.__get__")))(ir:PySem.W.takesIn K (.builtin "object.__class__")=some true)(iu:PySem.W.mroIn K av (.type "object")=some true)
  (dU:findIn K (.ref av) "racks" = some none)
  (dW:nsIn K mainGlobals "HallError" = some (some (.ref ad)))
  (fK:nsIn K mainGlobals "NoHall" = some (some (.ref aq)))
  (fj:nsIn K mainGlobals "NoCalls" = some (some (.ref ao)))
  (dY:nsIn K mainGlobals "NoLine" = some (some (.ref af)))
  (fL:nsIn K mainGlobals "NoRule" = some (some (.ref ar)))
  (gp:nsIn K mainGlobals "Idle" = some (some (.ref ap)))
  (gq:nsIn K mainGlobals "Busy" = some (some (.ref am)))
  (dO:nsIn K mainGlobals "Engaged" = some (some (.ref aa)))
  (fM:nsIn K mainGlobals "NoMove" = some (some (.ref au)))
  (aC:isClsIn K ad=true)(aD:typeIn K (.ref ad)=some (.type "type"))
  (bP:isClsIn K aq=true)(bQ:typeIn K (.ref aq)=some (.type "type"))
  (bh:isClsIn K ao=true)(bi:typeIn K (.ref ao)=some (.type "type"))
  (aZ:isClsIn K af=true)(bR:typeIn K (.ref af)=some (.type "type"))
  (bS:isClsIn K ar=true)(bT:typeIn K (.ref ar)=some (.type "type"))
  (cA:isClsIn K ap=true)(dR:typeIn K (.ref ap)=some (.type "type"))
  (cB:isClsIn K am=true)(dS:typeIn K (.ref am)=some (.type "type"))
  (aS:isClsIn K aa=true)(bn:typeIn K (.ref aa)=some (.type "type"))
  (bU:isClsIn K au=true)(bV:typeIn K (.ref au)=some (.type "type"))
  (lE:subIn K (.ref ad) (.type "BaseException")=some true)(lG:PySem.W.specialIn K (.builtin "object.__class__") "__get__" = some (some (.builtin "getset_descriptor.__get__")))(lH:PySem.W.takesIn K (.builtin "object.__class__")=some true)
  (fN:PySem.W.excIn K af [.type "ValueError",.type "Exception",.type "BaseException",.type "object"] "ValueError.__new__" = true)
  (fO:findIn K (.ref af) "__getattribute__" = some (some (.builtin "BaseException.__getattribute__")))(fP:findIn K (.ref af) "__getattr__" = some none)(fQ:findIn K (.ref af) "__class__" = some (some (.builtin "object.__class__")))(fR:PySem.W.mroIn K af (.type "object")=some true)(fT:PySem.W.mroIn K af (.type "BaseException")=some true)(fU:subIn K (.ref af) (.type "ValueError")=some true)
  (aP:subIn K (.ref af) (.ref ad)=some true)
  (bY:subIn K (.ref af) (.ref aq)=some false)
  (bz:subIn K (.ref af) (.ref ao)=some false)
  (aB:subIn K (.ref af) (.ref af)=some true)
  (bZ:subIn K (.ref af) (.ref ar)=some false)
  (db:subIn K (.ref af) (.ref ap)=some false)
  (de:subIn K (.ref af) (.ref am)=some false)
  (bA:subIn K (.ref af) (.ref aa)=some false)
  (cf:subIn K (.ref af) (.ref au)=some false)
  (iw:PySem.W.excIn K ap [.type "ValueError",.type "Exception",.type "BaseException",.type "object"] "ValueError.__new__" = true)
  (ix:findIn K (.ref ap) "__getattribute__" = some (some (.builtin "BaseException.__getattribute__")))(iy:findIn K (.ref ap) "__getattr__" = some none)(iz:findIn K (.ref ap) "__class__" = some (some (.builtin "object.__class__")))(iA:PySem.W.mroIn K ap (.type "object")=some true)(iB:PySem.W.mroIn K ap (.type "BaseException")=some true)(iC:subIn K (.ref ap) (.type "ValueError")=some true)
  (aT:subIn K (.ref ap) (.ref ad)=some true)
  (df:subIn K (.ref ap) (.ref aq)=some false)
  (cC:subIn K (.ref ap) (.ref ao)=some false)
  (dg:subIn K (.ref ap) (.ref af)=some false)
  (dh:subIn K (.ref ap) (.ref ar)=some false)
  (aF:subIn K (.ref ap) (.ref ap)=some true)
  (eG:subIn K (.ref ap) (.ref am)=some false)
  (cD:subIn K (.ref ap) (.ref aa)=some false)
  (di:subIn K (.ref ap) (.ref au)=some false)
  (iD:findIn K (.ref am) "__setattr__" = some (some (.builtin "object.__setattr__")))
  (fk:findIn K (.ref am) "who" = some none)
  (iE:findIn K (.ref am) "__getattribute__" = some (some (.builtin "BaseException.__getattribute__")))(iF:findIn K (.ref am) "__getattr__" = some none)(iG:findIn K (.ref am) "__class__" = some (some (.builtin "object.__class__")))(iH:PySem.W.mroIn K am (.type "object")=some true)(iI:PySem.W.mroIn K am (.type "BaseException")=some true)(iJ:subIn K (.ref am) (.type "ValueError")=some true)
  (aU:subIn K (.ref am) (.ref ad)=some true)
  (dj:subIn K (.ref am) (.ref aq)=some false)
  (cE:subIn K (.ref am) (.ref ao)=some false)
  (dk:subIn K (.ref am) (.ref af)=some false)
  (dm:subIn K (.ref am) (.ref ar)=some false)
  (eJ:subIn K (.ref am) (.ref ap)=some false)
  (aG:subIn K (.ref am) (.ref am)=some true)
  (cF:subIn K (.ref am) (.ref aa)=some false)
  (dn:subIn K (.ref am) (.ref au)=some false)
  (fm:findIn K (.ref aa) "__setattr__" = some (some (.builtin "object.__setattr__")))
  (cg:findIn K (.ref aa) "holds" = some none)
  (ci:findIn K (.ref aa) "least" = some none)
  (fq:findIn K (.ref aa) "__getattribute__" = some (some (.builtin "BaseException.__getattribute__")))(fu:findIn K (.ref aa) "__getattr__" = some none)(fv:findIn K (.ref aa) "__class__" = some (some (.builtin "object.__class__")))(fw:PySem.W.mroIn K aa (.type "object")=some true)(fz:PySem.W.mroIn K aa (.type "BaseException")=some true)(fA:subIn K (.ref aa) (.type "ValueError")=some true)
  (aM:subIn K (.ref aa) (.ref ad)=some true)
  (bB:subIn K (.ref aa) (.ref aq)=some false)
  (bo:subIn K (.ref aa) (.ref ao)=some false)
  (bC:subIn K (.ref aa) (.ref af)=some false)
  (bD:subIn K (.ref aa) (.ref ar)=some false)
  (cG:subIn K (.ref aa) (.ref ap)=some false)
  (cH:subIn K (.ref aa) (.ref am)=some false)
  (ay:subIn K (.ref aa) (.ref aa)=some true)
  (bE:subIn K (.ref aa) (.ref au)=some false)
  {odm_Rule_choose anm_Rule_choose:Option Addr}{slm_Rule_choose:Array (Option Value)}{ocm_Rule_choose kvm_Rule_choose dcm_Rule_choose pmm_Rule_choose ctm_Rule_choose fD:Value}
  (dq:findIn K (.ref aw) "choose" = some (some (.ref aX)))(du:PySem.W.isFn K (.ref aX)=true)(dw:K.lookup aX=some ⟨ocm_Rule_choose,odm_Rule_choose,.func (fnOf "choose" "Rule.choose" (j2 (j4 (top 23) 0)) (i3 (j4 (top 23) 0)) (d7 (j4 (top 23) 0)) .none kvm_Rule_choose dcm_Rule_choose pmm_Rule_choose anm_Rule_choose fD ctm_Rule_choose),slm_Rule_choose⟩)(dA:codeIn K fD "Rule.choose" = true)(dB:keepIn K (.ref aX)=true)
  {odm_Fullest_choose anm_Fullest_choose:Option Addr}{slm_Fullest_choose:Array (Option Value)}{ocm_Fullest_choose kvm_Fullest_choose dcm_Fullest_choose pmm_Fullest_choose ctm_Fullest_choose:Value}{aA:Addr}
  (bF:findIn K (.ref ah) "choose" = some (some (.ref aN)))(bG:PySem.W.isFn K (.ref aN)=true)(bH:K.lookup aN=some ⟨ocm_Fullest_choose,odm_Fullest_choose,.func (fnOf "choose" "Fullest.choose" (j2 (j4 (top 24) 0)) (i3 (j4 (top 24) 0)) (d7 (j4 (top 24) 0)) .none kvm_Fullest_choose dcm_Fullest_choose pmm_Fullest_choose anm_Fullest_choose (.ref aA) ctm_Fullest_choose),slm_Fullest_choose⟩)(bI:codeIn K (.ref aA) "Fullest.choose" = true)(bJ:keepIn K (.ref aN)=true)
  (bp:PySem.W.codeHdIn K aA (S7 K aA)=true)(bq:ts.contains (S7 K aA)=true)
  {odm_Emptiest_choose anm_Emptiest_choose:Option Addr}{slm_Emptiest_choose:Array (Option Value)}{ocm_Emptiest_choose kvm_Emptiest_choose dcm_Emptiest_choose pmm_Emptiest_choose ctm_Emptiest_choose:Value}{az:Addr}
  (br:findIn K (.ref ae) "choose" = some (some (.ref aK)))(bt:PySem.W.isFn K (.ref aK)=true)(bu:K.lookup aK=some ⟨ocm_Emptiest_choose,odm_Emptiest_choose,.func (fnOf "choose" "Emptiest.choose" (j2 (j4 (top 25) 0)) (i3 (j4 (top 25) 0)) (d7 (j4 (top 25) 0)) .none kvm_Emptiest_choose dcm_Emptiest_choose pmm_Emptiest_choose anm_Emptiest_choose (.ref az) ctm_Emptiest_choose),slm_Emptiest_choose⟩)(bv:codeIn K (.ref az) "Emptiest.choose" = true)(bw:keepIn K (.ref aK)=true)
  (bb:PySem.W.codeHdIn K az (S7 K az)=true)(bc:ts.contains (S7 K az)=true)
  {odm_Round___init__ anm_Round___init__:Option Addr}{slm_Round___init__:Array (Option Value)}{ocm_Round___init__ kvm_Round___init__ dcm_Round___init__ pmm_Round___init__ ctm_Round___init__ dX:Value}
  {dvm_Round___init__:Addr}{odd_Round___init__:Option Addr}{sld_Round___init__:Array (Option Value)}{nd_Round___init__:Nat}{cW:Tok}
  (bK:findIn K (.ref aj) "__init__" = some (some (.ref aO)))(bL:PySem.W.isFn K (.ref aO)=true)(bM:K.lookup aO=some ⟨ocm_Round___init__,odm_Round___init__,.func (fnOf "__init__" "Round.__init__" (j2 (j4 (top 26) 0)) (i3 (j4 (top 26) 0)) (d7 (j4 (top 26) 0)) (.ref dvm_Round___init__) kvm_Round___init__ dcm_Round___init__ pmm_Round___init__ anm_Round___init__ dX ctm_Round___init__),slm_Round___init__⟩)(bN:codeIn K dX "Round.__init__" = true)(bO:keepIn K (.ref aO)=true)
  (aL:K.lookup dvm_Round___init__=some ⟨.type "tuple",odd_Round___init__,.seq #[.int 0 cW] nd_Round___init__,sld_Round___init__⟩)
  {odm_Round_choose anm_Round_choose:Option Addr}{slm_Round_choose:Array (Option Value)}{ocm_Round_choose kvm_Round_choose dcm_Round_choose pmm_Round_choose ctm_Round_choose eM:Value}
  (cJ:findIn K (.ref aj) "choose" = some (some (.ref aV)))(cK:PySem.W.isFn K (.ref aV)=true)(cL:K.lookup aV=some ⟨ocm_Round_choose,odm_Round_choose,.func (fnOf "choose" "Round.choose" (j2 (j4 (top 26) 1)) (i3 (j4 (top 26) 1)) (d7 (j4 (top 26) 1)) .none kvm_Round_choose dcm_Round_choose pmm_Round_choose anm_Round_choose eM ctm_Round_choose),slm_Round_choose⟩)(cM:codeIn K eM "Round.choose" = true)(cN:keepIn K (.ref aV)=true)
  {odm_Told___init__ anm_Told___init__:Option Addr}{slm_Told___init__:Array (Option Value)}{ocm_Told___init__ kvm_Told___init__ dcm_Told___init__ pmm_Told___init__ ctm_Told___init__ dZ:Value}
  (cj:findIn K (.ref av) "__init__" = some (some (.ref aR)))(ck:PySem.W.isFn K (.ref aR)=true)(cm:K.lookup aR=some ⟨ocm_Told___init__,odm_Told___init__,.func (fnOf "__init__" "Told.__init__" (j2 (j4 (top 27) 0)) (i3 (j4 (top 27) 0)) (d7 (j4 (top 27) 0)) .none kvm_Told___init__ dcm_Told___init__ pmm_Told___init__ anm_Told___init__ dZ ctm_Told___init__),slm_Told___init__⟩)(cn:codeIn K dZ "Told.__init__" = true)(cr:keepIn K (.ref aR)=true)
  {odm_Told_choose anm_Told_choose:Option Addr}{slm_Told_choose:Array (Option Value)}{ocm_Told_choose kvm_Told_choose dcm_Told_choose pmm_Told_choose ctm_Told_choose fE:Value}
  (dC:findIn K (.ref av) "choose" = some (some (.ref aY)))(dD:PySem.W.isFn K (.ref aY)=true)(dE:K.lookup aY=some ⟨ocm_Told_choose,odm_Told_choose,.func (fnOf "choose" "Told.choose" (j2 (j4 (top 27) 1)) (i3 (j4 (top 27) 1)) (d7 (j4 (top 27) 1)) .none kvm_Told_choose dcm_Told_choose pmm_Told_choose anm_Told_choose fE ctm_Told_choose),slm_Told_choose⟩)(dF:codeIn K fE "Told.choose" = true)(dG:keepIn K (.ref aY)=true)
  {odm_Busy___init__ anm_Busy___init__:Option Addr}{slm_Busy___init__:Array (Option Value)}{ocm_Busy___init__ kvm_Busy___init__ dcm_Busy___init__ pmm_Busy___init__ ctm_Busy___init__ eh:Value}
  (aW:findIn K (.ref am) "__init__" = some (some (.ref aJ)))(cu:PySem.W.isFn K (.ref aJ)=true)(cw:K.lookup aJ=some ⟨ocm_Busy___init__,odm_Busy___init__,.func (fnOf "__init__" "Busy.__init__" (j2 (j4 (top 7) 0)) (i3 (j4 (top 7) 0)) (d7 (j4 (top 7) 0)) .none kvm_Busy___init__ dcm_Busy___init__ pmm_Busy___init__ anm_Busy___init__ eh ctm_Busy___init__),slm_Busy___init__⟩)(cx:codeIn K eh "Busy.__init__" = true)(cy:keepIn K (.ref aJ)=true)
  {odm_Engaged___init__ anm_Engaged___init__:Option Addr}{slm_Engaged___init__:Array (Option Value)}{ocm_Engaged___init__ kvm_Engaged___init__ dcm_Engaged___init__ pmm_Engaged___init__ ctm_Engaged___init__ cX:Value}
  (aQ:findIn K (.ref aa) "__init__" = some (some (.ref aH)))(bd:PySem.W.isFn K (.ref aH)=true)(be:K.lookup aH=some ⟨ocm_Engaged___init__,odm_Engaged___init__,.func (fnOf "__init__" "Engaged.__init__" (j2 (j4 (top 8) 0)) (i3 (j4 (top 8) 0)) (d7 (j4 (top 8) 0)) .none kvm_Engaged___init__ dcm_Engaged___init__ pmm_Engaged___init__ anm_Engaged___init__ cX ctm_Engaged___init__),slm_Engaged___init__⟩)(bf:codeIn K cX "Engaged.__init__" = true)(bg:keepIn K (.ref aH)=true)
  (gu:Y9 K am aJ=true)
  (dP:Y9 K aa aH=true)
  (aE:(S7 K aA == S7 K az)=false)
  (z_len:nsIn K mainGlobals "len" = some none)(z_isinstance:nsIn K mainGlobals "isinstance" = some none)(z_int:nsIn K mainGlobals "int" = some none)(z_bool:nsIn K mainGlobals "bool" = some none)(z_tuple:nsIn K mainGlobals "tuple" = some none)(z_list:nsIn K mainGlobals "list" = some none)(z_set:nsIn K mainGlobals "set" = some none)(z_sorted:nsIn K mainGlobals "sorted" = some none)(z_divmod:nsIn K mainGlobals "divmod" = some none)(z_range:nsIn K mainGlobals "range" = some none)(z_abs:nsIn K mainGlobals "abs" = some none)(z_min:nsIn K mainGlobals "min" = some none)(z_max:nsIn K mainGlobals "max" = some none)(z_any:nsIn K mainGlobals "any" = some none)(z_all:nsIn K mainGlobals "all" = some none)(z_str:nsIn K mainGlobals "str" = some none)(z_ValueError:nsIn K mainGlobals "ValueError" = some none) :
  ∃ fd:FuncData,(∀(s:Shared)(v:Value),BindsTo s fd ⟨[v],[]⟩ [("_law_script",v)])/\∀ base:Heap,K.In base->base.Ns mainGlobals mg->U5 mg base->FnOk l.prog w K mg base CX0 10 fa fd ["_law_script"] (as6 K ts):=by
 have e:=hfa.symm.trans (PySem.W.mg_of X G a42)
 cases e
 have T:Txt K mg:=⟨PySem.W.mg_none_of X G z_len,PySem.W.mg_none_of X G z_isinstance,PySem.W.mg_none_of X G z_int,PySem.W.mg_none_of X G z_bool,PySem.W.mg_none_of X G z_tuple,PySem.W.mg_none_of X G z_list,PySem.W.mg_none_of X G z_set,PySem.W.mg_none_of X G z_sorted,PySem.W.mg_none_of X G z_divmod,PySem.W.mg_none_of X G z_range,PySem.W.mg_none_of X G z_abs,PySem.W.mg_none_of X G z_min,PySem.W.mg_none_of X G z_max,PySem.W.mg_none_of X G z_any,PySem.W.mg_none_of X G z_all,PySem.W.mg_none_of X G z_str,PySem.W.mg_none_of X G z_ValueError⟩;have Z:TxtC K mg aw ah ae aj av ad aq ao af ar ap am aa au:=⟨PySem.W.mg_of X G fW,⟨hZ,ia,PySem.W.mg_of X G fW⟩,⟨fX,fY,fZ,gb⟩,ij,fun H a dx fs e=>.ins e ⟨fX,fY,fZ,gb⟩ ib ie ig ii,PySem.W.mg_of X G dH,⟨eQ,eT,PySem.W.mg_of X G dH⟩,⟨dJ,dL,dM,dN⟩,eZ,fun H a dx fs e=>.ins e ⟨dJ,dL,dM,dN⟩ eU eV eX eY,PySem.W.mg_of X G cP,⟨ei,ez,PySem.W.mg_of X G cP⟩,⟨cQ,cR,cS,cT⟩,eE,fun H a dx fs e=>.ins e ⟨cQ,cR,cS,cT⟩ eA eB eC eD,PySem.W.mg_of X G fc,⟨gB,gC,PySem.W.mg_of X G fc⟩,⟨ff,fg,fh,fi⟩,da,fun H a dx fs e=>.ins e ⟨ff,fg,fh,fi⟩ gE gF gG gH,PySem.W.mg_of X G gc,⟨il,io,PySem.W.mg_of X G gc⟩,⟨gi,gj,gk,gm⟩,dU,fun H a dx fs e=>.ins e ⟨gi,gj,gk,gm⟩ ip iq ir iu,PySem.W.mg_of X G dW,PySem.W.mg_of X G fK,PySem.W.mg_of X G fj,PySem.W.mg_of X G dY,PySem.W.mg_of X G fL,PySem.W.mg_of X G gp,PySem.W.mg_of X G gq,PySem.W.mg_of X G dO,PySem.W.mg_of X G fM,⟨PySem.W.mg_of X G dY,fN⟩,⟨fO,fP,fQ,lG,lH,fR,fT,aZ⟩,af7 fU,af8 aC aD aP lE,P5 aC aD aP,o9 bP bQ bY aB,o9 bh bi bz aB,P5 aZ bR aB,o9 bS bT bZ aB,o9 cA dR db aB,o9 cB dS de aB,o9 aS bn bA aB,o9 bU bV cf aB,⟨PySem.W.mg_of X G gp,iw⟩,⟨ix,iy,iz,lG,lH,iA,iB,cA⟩,af7 iC,af8 aC aD aT lE,P5 aC aD aT,o9 bP bQ df aF,o9 bh bi cC aF,o9 aZ bR dg aF,o9 bS bT dh aF,P5 cA dR aF,o9 cB dS eG aF,o9 aS bn cD aF,o9 bU bV di aF,⟨_,PySem.W.mg_of X G gq,gu,aW⟩,aK9 gu iD,⟨iE,iF,iG,lG,lH,iH,iI,cB⟩,af7 iJ,af8 aC aD aU lE,P5 aC aD aU,o9 bP bQ dj aG,o9 bh bi cE aG,o9 aZ bR dk aG,o9 bS bT dm aG,o9 cA dR eJ aG,P5 cB dS aG,o9 aS bn cF aG,o9 bU bV dn aG,fk,⟨_,PySem.W.mg_of X G dO,dP,aQ⟩,aK9 dP fm,⟨fq,fu,fv,lG,lH,fw,fz,aS⟩,af7 fA,af8 aC aD aM lE,P5 aC aD aM,o9 bP bQ bB ay,o9 bh bi bo ay,o9 aZ bR bC ay,o9 bS bT bD ay,o9 cA dR cG ay,o9 cB dS cH ay,P5 aS bn ay,o9 bU bV bE ay,cg,ci⟩;have jx:DefM K aw "choose" "Rule.choose" (j4 (top 23) 0) ["self","hall","calls","free"] [] noKw:=⟨aX,_,⟨⟨_,_,_,_,_,_,_,_,_,_,rfl,dw,dA⟩⟩,⟨dq,du,dB⟩,trivial,fun m hm=>match m,hm with | 0,_=>⟨[],.nil,.all fun us hl=>match us,hl with | [_,_,_,_],_=>rfl⟩ | _ + 1,h=>absurd h (by simp)⟩
 have iK:DefMT K ah "choose" "Fullest.choose" (j4 (top 24) 0) ["self","hall","calls","free"] (S7 K aA):=⟨aN,aA,_,⟨_,_,_,_,_,_,_,_,_,rfl,bH,bI⟩,bp,⟨bF,bG,bJ⟩,.all fun us hl=>match us,hl with | [_,_,_,_],_=>rfl⟩
 have iL:S7 K aA∈ts:=by simpa using bq
 have gX:DefMT K ae "choose" "Emptiest.choose" (j4 (top 25) 0) ["self","hall","calls","free"] (S7 K az):=⟨aK,az,_,⟨_,_,_,_,_,_,_,_,_,rfl,bu,bv⟩,bb,⟨br,bt,bw⟩,.all fun us hl=>match us,hl with | [_,_,_,_],_=>rfl⟩
 have gY:S7 K az∈ts:=by simpa using bc
 have iM:DefM K aj "__init__" "Round.__init__" (j4 (top 26) 0) ["self","start"] [.int 0] (aM2 K "start"):=⟨aO,_,⟨⟨_,_,_,_,_,_,_,_,_,_,rfl,bM,bN⟩⟩,⟨bK,bL,bO⟩,(fun s u v X=>BindsTo.of_defaults rfl (X _ _ aL) rfl rfl rfl),fun m hm=>match m,hm with | 0,_=>⟨[.int 0 cW],(.cons ⟨_,rfl⟩ .nil),fun s us X hl=>match us,(show us.length=1 from by simpa using hl) with | [_],_=>BindsTo.of_defaults rfl (X _ _ aL) rfl rfl rfl⟩ | 1,_=>⟨[],.nil,fun s us X hl=>match us,(show us.length=2 from by simpa using hl) with | [_,_],_=>BindsTo.of_defaults rfl (X _ _ aL) rfl rfl rfl⟩ | _ + 2,h=>absurd h (by simp)⟩
 have jm:DefM K aj "choose" "Round.choose" (j4 (top 26) 1) ["self","hall","calls","free"] [] noKw:=⟨aV,_,⟨⟨_,_,_,_,_,_,_,_,_,_,rfl,cL,cM⟩⟩,⟨cJ,cK,cN⟩,trivial,fun m hm=>match m,hm with | 0,_=>⟨[],.nil,.all fun us hl=>match us,hl with | [_,_,_,_],_=>rfl⟩ | _ + 1,h=>absurd h (by simp)⟩
 have iW:DefM K av "__init__" "Told.__init__" (j4 (top 27) 0) ["self","listed"] [] noKw:=⟨aR,_,⟨⟨_,_,_,_,_,_,_,_,_,_,rfl,cm,cn⟩⟩,⟨cj,ck,cr⟩,trivial,fun m hm=>match m,hm with | 0,_=>⟨[],.nil,.all fun us hl=>match us,hl with | [_,_],_=>rfl⟩ | _ + 1,h=>absurd h (by simp)⟩
 have jy:DefM K av "choose" "Told.choose" (j4 (top 27) 1) ["self","hall","calls","free"] [] noKw:=⟨aY,_,⟨⟨_,_,_,_,_,_,_,_,_,_,rfl,dE,dF⟩⟩,⟨dC,dD,dG⟩,trivial,fun m hm=>match m,hm with | 0,_=>⟨[],.nil,.all fun us hl=>match us,hl with | [_,_,_,_],_=>rfl⟩ | _ + 1,h=>absurd h (by simp)⟩
 have iX:DefM K am "__init__" "Busy.__init__" (j4 (top 7) 0) ["self","who"] [] noKw:=⟨aJ,_,⟨⟨_,_,_,_,_,_,_,_,_,_,rfl,cw,cx⟩⟩,⟨aW,cu,cy⟩,trivial,fun m hm=>match m,hm with | 0,_=>⟨[],.nil,.all fun us hl=>match us,hl with | [_,_],_=>rfl⟩ | _ + 1,h=>absurd h (by simp)⟩
 have gJ:DefM K aa "__init__" "Engaged.__init__" (j4 (top 8) 0) ["self","holds","least"] [] noKw:=⟨aH,_,⟨⟨_,_,_,_,_,_,_,_,_,_,rfl,be,bf⟩⟩,⟨aQ,bd,bg⟩,trivial,fun m hm=>match m,hm with | 0,_=>⟨[],.nil,.all fun us hl=>match us,hl with | [_,_,_],_=>rfl⟩ | _ + 1,h=>absurd h (by simp)⟩
 have ki:Def K mg "is_number" (top 11) ["thing"]:=o7 X G a1 l1 c1 k1 fun us hl=>match us,hl with | [_],_=>rfl
 have kP:Def K mg "is_whole" (top 12) ["thing","least","most"]:=o7 X G a2 l2 c2 k2 fun us hl=>match us,hl with | [_,_,_],_=>rfl
 have kQ:Def K mg "place_in" (top 13) ["hall","caller"]:=o7 X G a3 l3 c3 k3 fun us hl=>match us,hl with | [_,_],_=>rfl
 have kj:Def K mg "place_out" (top 14) ["hall","end"]:=o7 X G a4 l4 c4 k4 fun us hl=>match us,hl with | [_,_],_=>rfl
 have kR:Def K mg "are_ends" (top 15) ["hall","things"]:=o7 X G a5 l5 c5 k5 fun us hl=>match us,hl with | [_,_],_=>rfl
 have kS:Def K mg "racks_of" (top 16) ["hall","ends"]:=o7 X G a6 l6 c6 k6 fun us hl=>match us,hl with | [_,_],_=>rfl
 have km:Def K mg "left_open" (top 18) ["hall","shut"]:=o7 X G a7 l7 c7 k7 fun us hl=>match us,hl with | [_,_],_=>rfl
 have jN:Def K mg "are_unlike" (top 19) ["some"]:=o7 X G a8 l8 c8 k8 fun us hl=>match us,hl with | [_],_=>rfl
 have mq:Def K mg "loads" (top 21) ["hall","calls"]:=o7 X G a9 l9 c9 k9 fun us hl=>match us,hl with | [_,_],_=>rfl
 have kn:Def K mg "is_caller" (top 29) ["hall","thing"]:=o7 X G a10 l10 c10 k10 fun us hl=>match us,hl with | [_,_],_=>rfl
 have lI:Def K mg "is_ends" (top 30) ["hall","thing"]:=o7 X G a11 l11 c11 k11 fun us hl=>match us,hl with | [_,_],_=>rfl
 have jn:Def K mg "holds_needed" (top 31) ["hall","call","start","goals"]:=o7 X G a12 l12 c12 k12 fun us hl=>match us,hl with | [_,_,_,_],_=>rfl
 have lJ:Def K mg "holders" (top 32) ["hall","calls","caller","ends"]:=o7 X G a13 l13 c13 k13 fun us hl=>match us,hl with | [_,_,_,_],_=>rfl
 have mJ:DefD K mg "ways" (top 33) ["hall","calls","caller","ends","shut"] [.int 0]:=⟨f14,_,⟨_,_,_,_,_,_,_,_,_,_,rfl,l14,c14⟩,k14,fun m hm=>match m,hm with | 0,_=>⟨[.int 0 td14_0],(.cons ⟨_,rfl⟩ .nil),fun s us X hl=>match us,(show us.length=4 from by simpa using hl) with | [_,_,_,_],_=>BindsTo.of_defaults rfl (X _ _ dl14) rfl rfl rfl⟩ | 1,_=>⟨[],.nil,fun s us X hl=>match us,(show us.length=5 from by simpa using hl) with | [_,_,_,_,_],_=>BindsTo.of_defaults rfl (X _ _ dl14) rfl rfl rfl⟩ | _ + 2,h=>absurd h (by simp),PySem.W.mg_of X G a14⟩
 have jz:DefD K mg "least_ended" (top 34) ["hall","calls","caller","ends","shut"] [.int 0]:=⟨f15,_,⟨_,_,_,_,_,_,_,_,_,_,rfl,l15,c15⟩,k15,fun m hm=>match m,hm with | 0,_=>⟨[.int 0 td15_0],(.cons ⟨_,rfl⟩ .nil),fun s us X hl=>match us,(show us.length=4 from by simpa using hl) with | [_,_,_,_],_=>BindsTo.of_defaults rfl (X _ _ dl15) rfl rfl rfl⟩ | 1,_=>⟨[],.nil,fun s us X hl=>match us,(show us.length=5 from by simpa using hl) with | [_,_,_,_,_],_=>BindsTo.of_defaults rfl (X _ _ dl15) rfl rfl rfl⟩ | _ + 2,h=>absurd h (by simp),PySem.W.mg_of X G a15⟩
 have lK:Def K mg "call_of" (top 36) ["calls","caller"]:=o7 X G a16 l16 c16 k16 fun us hl=>match us,hl with | [_,_],_=>rfl
 have kq:Def K mg "holder_of" (top 37) ["calls","end"]:=o7 X G a17 l17 c17 k17 fun us hl=>match us,hl with | [_,_],_=>rfl
 have jo:Def K mg "refuse_wrong" (top 38) ["hall","caller","ends"]:=o7 X G a18 l18 c18 k18 fun us hl=>match us,hl with | [_,_,_],_=>rfl
 have jA:Def K mg "refuse_busy" (top 39) ["calls","caller","ends"]:=o7 X G a19 l19 c19 k19 fun us hl=>match us,hl with | [_,_,_],_=>rfl
 have iN:Def K mg "refuse_engaged" (top 40) ["hall","calls","caller","ends","shut"]:=o7 X G a20 l20 c20 k20 fun us hl=>match us,hl with | [_,_,_,_,_],_=>rfl
 have kr:Def K mg "with_call" (top 41) ["calls","caller","ends","k"]:=o7 X G a21 l21 c21 k21 fun us hl=>match us,hl with | [_,_,_,_],_=>rfl
 have lV:DefDK K mg "joined" (top 42) ["hall","calls","caller","ends","rule","shut"] [.non,.int 0] "shut" (.non):=⟨f22,_,⟨_,_,_,_,_,_,_,_,_,_,rfl,l22,c22⟩,k22,fun m hm=>match m,hm with | 0,_=>⟨[.none,.int 0 td22_1],(.cons rfl (.cons ⟨_,rfl⟩ .nil)),fun s us X hl=>match us,(show us.length=4 from by simpa using hl) with | [_,_,_,_],_=>BindsTo.of_defaults rfl (X _ _ dl22) rfl rfl rfl⟩ | 1,_=>⟨[.int 0 td22_1],(.cons ⟨_,rfl⟩ .nil),fun s us X hl=>match us,(show us.length=5 from by simpa using hl) with | [_,_,_,_,_],_=>BindsTo.of_defaults rfl (X _ _ dl22) rfl rfl rfl⟩ | 2,_=>⟨[],.nil,fun s us X hl=>match us,(show us.length=6 from by simpa using hl) with | [_,_,_,_,_,_],_=>BindsTo.of_defaults rfl (X _ _ dl22) rfl rfl rfl⟩ | _ + 3,h=>absurd h (by simp),PySem.W.mg_of X G a22,⟨.none,rfl,fun s us v X hl=>match us,(show us.length=4 from by simpa using hl) with | [_,_,_,_],_=>BindsTo.of_defaults rfl (X _ _ dl22) rfl rfl rfl⟩⟩
 have mr:Def K mg "ended" (top 43) ["calls","caller"]:=o7 X G a23 l23 c23 k23 fun us hl=>match us,hl with | [_,_],_=>rfl
 have jp:Def K mg "_law_cell_at" (top 45) ["_law_script","_law_k"]:=o7 X G a24 l24 c24 k24 fun us hl=>match us,hl with | [_,_],_=>rfl
 have kt:Def K mg "_law_hall" (top 46) ["_law_script"]:=o7 X G a25 l25 c25 k25 fun us hl=>match us,hl with | [_],_=>rfl
 have ku:Def K mg "_law_ends" (top 47) ["_law_hall_here","_law_number_here"]:=o7 X G a26 l26 c26 k26 fun us hl=>match us,hl with | [_,_],_=>rfl
 have jO:Def K mg "_law_lines" (top 48) ["_law_hall_here","_law_caller","_law_ends_here","_law_k"]:=o7 X G a27 l27 c27 k27 fun us hl=>match us,hl with | [_,_,_,_],_=>rfl
 have jB:Def K mg "_law_number" (top 49) ["_law_cell","_law_at"]:=o7 X G a28 l28 c28 k28 fun us hl=>match us,hl with | [_,_],_=>rfl
 have gZ:Def K mg "_law_alike" (top 50) ["_law_found","_law_due_here"]:=o7 X G a29 l29 c29 k29 fun us hl=>match us,hl with | [_,_],_=>rfl
 have kv:Def K mg "_law_kind" (top 51) ["_law_e"]:=o7 X G a30 l30 c30 k30 fun us hl=>match us,hl with | [_],_=>rfl
 have jP:Def K mg "_law_holds" (top 52) ["_law_hall_here","_law_calls","_law_caller","_law_ends_here"]:=o7 X G a31 l31 c31 k31 fun us hl=>match us,hl with | [_,_,_,_],_=>rfl
 have kz:Def K mg "_law_best" (top 53) ["_law_hall_here","_law_kept","_law_halted"]:=o7 X G a32 l32 c32 k32 fun us hl=>match us,hl with | [_,_,_],_=>rfl
 have kA:Def K mg "_law_busy" (top 54) ["_law_calls","_law_caller","_law_ends_here"]:=o7 X G a33 l33 c33 k33 fun us hl=>match us,hl with | [_,_,_],_=>rfl
 have kT:Def K mg "_law_due" (top 55) ["_law_hall_here","_law_calls","_law_caller","_law_ends_here","_law_halted"]:=o7 X G a34 l34 c34 k34 fun us hl=>match us,hl with | [_,_,_,_,_],_=>rfl
 have jQ:Def K mg "_law_paper" (top 56) ["_law_e","_law_due_here"]:=o7 X G a35 l35 c35 k35 fun us hl=>match us,hl with | [_,_],_=>rfl
 have kB:Def K mg "_law_most" (top 57) ["_law_calls","_law_free","_law_sign"]:=o7 X G a36 l36 c36 k36 fun us hl=>match us,hl with | [_,_,_],_=>rfl
 have jC:Def K mg "_law_wanted" (top 58) ["_law_hall_here","_law_number_here"]:=o7 X G a37 l37 c37 k37 fun us hl=>match us,hl with | [_,_],_=>rfl
 have jD:Def K mg "_law_chosen" (top 59) ["_law_calls","_law_free","_law_which","_law_start","_law_wanted_here"]:=o7 X G a38 l38 c38 k38 fun us hl=>match us,hl with | [_,_,_,_,_],_=>rfl
 have kU:Def K mg "_law_end" (top 60) ["_law_state","_law_number_here"]:=o7 X G a39 l39 c39 k39 fun us hl=>match us,hl with | [_,_],_=>rfl
 have jR:Def K mg "_law_asked" (top 61) ["_law_hall_here","_law_handed","_law_caller","_law_ends_here","_law_rule","_law_halted"]:=o7 X G a40 l40 c40 k40 fun us hl=>match us,hl with | [_,_,_,_,_,_],_=>rfl
 have kC:Def K mg "_law_join" (top 62) ["_law_hall_here","_law_state","_law_rules","_law_wanted_here","_law_number_here"]:=o7 X G a41 l41 c41 k41 fun us hl=>match us,hl with | [_,_,_,_,_],_=>rfl
 have F:=aX1 (st:=top 63) l42 c42 k42;refine⟨fnOf "law" "law" (j2 (top 63)) (i3 (top 63)) (d7 (top 63)) .none kV42 dc42 pm42 an42 cd42 ct42,fun s v=>.of_eq rfl,fun base _ _ hB=>?_⟩;have lW:=a55 (P:=l.prog) (w:=w) (base:=base) T jp;have mv:=aT5 (P:=l.prog) (w:=w) (base:=base) T jO;have mK:=a92 (P:=l.prog) (w:=w) (base:=base) T ku;have nj:=aR0 (P:=l.prog) (w:=w) (base:=base) T jB;have fV:=aX6 (P:=l.prog) (w:=w) (base:=base) T mq;have mL:=aD9 T hB fV iK;have nn:=aw1 T hB fV gX;have nq:=aC0 (P:=l.prog) (w:=w) (base:=base) T kQ;have nv:=aZ8 (P:=l.prog) (w:=w) (base:=base) T (au0 T kj) kS;have kW:=aD7 T nq nv (aP7 T nq nv jn) lJ;have lX:=a85 (P:=l.prog) (w:=w) (base:=base) T km;have mw:=aY3 T kW lX jz;have lY:=aq2 (P:=l.prog) (w:=w) (base:=base) T ki;have mC:=aA2 T lY kP;have ny:=aE5 T (az0 T mC kR) (aP8 T jN) lI;have nz:=aE9 T lY lK;have pT:=ar0 T lY kq;have pU:=aU3 T Z (at2 T mC kn) ny jo;have pV:=aE2 T Z nz pT (aV7 T Z iX) jA;have pW:=aM6 T Z kW mw (a93 T Z gJ) iN;have pX:=aR6 T Z pU pV (a86 T kW lX mJ) pW (aH0 T Z jx) mL nn (aR1 T Z jm) (aS8 T Z jy) (a62 T kr) lV;have pY:=aY2 (P:=l.prog) (w:=w) (base:=base) T Z nz mr;have nA:=ai8 (P:=l.prog) (w:=w) (base:=base) T gZ 3;have nB:=a05 (P:=l.prog) (w:=w) (base:=base) T Z kv;have nE:=aY0 T (aY6 T kA) (aO6 T mv jP) (a71 T kz) kT;have nG:=aE4 (P:=l.prog) (w:=w) (base:=base) T Z nB (ai8 T gZ 2) jQ;have pZ:=az3 T (a_4 (P:=l.prog) (w:=w) (base:=base) T kB) jD;have nH:=aT2 (ak:=S7 K aA) (ag:=S7 K az) T Z pY nB nA kU;have nI:=aT3 T Z pX jR;have C_j:=a44 T Z mK nE nI nG pZ nA kC;exact bg4 T Z aE iL gY (a08 T lW kt) lW (aP4 T jC) nj (a57 T Z iM) (aU0 T Z iW) nH C_j F
end
theorem walk {l:PySem.W.OpenLaw}{q:Program}{loose:List Str}{XP:(Str->Option Value)->Heap->Prop}{YP:World->Heap->Prop}{d:DefRec}{K:Params->Frag}{ts:List Addr}(hn:l.most=some 63)(hdf:d.params.defaults=[])
  (hY:∀(w:World)(h:Heap),YP w h->(K w.params).In h)(hYT:∀(w:World)(h:Heap),YP w h->∀ P∈ts,h.get? P=some (PySem.W.tabObj #[]))(htf:∀ p:Params,aj7 (K p) ts=true)
  (F:∀(w:World)(mg:Str->Option Value)(fa:Addr)(h:Heap),(K w.params).In h->h.Ns mainGlobals mg->mg d.name=some (.ref fa) ->
   ∃ fd:FuncData,(∀(s:Shared)(u:Value),BindsTo s fd ⟨[u],[]⟩ [("_law_script",u)])/\∀ base:Heap,(K w.params).In base->base.Ns mainGlobals mg->U5 mg base->FnOk l.prog w (K w.params) mg base CX0 10 fa fd ["_law_script"] (as6 (K w.params) ts)) :
  PySem.W.WalkO q loose XP YP l.row.toRowW d [] (fun f vs=>PySem.call f vs) :=
 L2.aS9 (n:=63) (k:=10) (x:="_law_script") (CX:=fun _=>CX0) (sp:=fun w=>as6 (K w.params) ts) hn (by decide) hdf ⟨rfl,by decide,by decide⟩ hY hYT htf F (fun _ _ a ns hl hT hS=>⟨a,ns,rfl,hS,hl,hT,fun _=>rfl⟩) fun _ _ _ _ _ z=>z
end My
open PySem PySem.W PyProof.Rows
set_option maxRecDepth 100000 in
set_option maxHeartbeats 0 in
theorem PySem.Challenge.cw_crossracks_k25_whole_deeds_holds : PySem.Challenge.rw_crossracks_k25_whole_deeds.Holds := by
 w_on;o_law;k_head;(case hw=>w_witness2)
 k_fill
 refine My.walk (l:=PySem.Challenge.rw_crossracks_k25_whole_deeds) rfl rfl (fun w h Y=>PySem.W.km_in_of Y) (fun w h Y=>PySem.W.km_tabs_of Y) (fun p=>by kernel_rfl) ?F
 case F =>
  intro w mg fa h KX G hmg
  refine' My.bf8 KX G hmg ?a1 ?l1 ?c1 ?k1 ?a2 ?l2 ?c2 ?k2 ?a3 ?l3 ?c3 ?k3 ?a4 ?l4 ?c4 ?k4 ?a5 ?l5 ?c5 ?k5 ?a6 ?l6 ?c6 ?k6 ?a7 ?l7 ?c7 ?k7 ?a8 ?l8 ?c8 ?k8 ?a9 ?l9 ?c9 ?k9 ?a10 ?l10 ?c10 ?k10 ?a11 ?l11 ?c11 ?k11 ?a12 ?l12 ?c12 ?k12 ?a13 ?l13 ?c13 ?k13 ?dl14 ?a14 ?l14 ?c14 ?k14 ?dl15 ?a15 ?l15 ?c15 ?k15 ?a16 ?l16 ?c16 ?k16 ?a17 ?l17 ?c17 ?k17 ?a18 ?l18 ?c18 ?k18 ?a19 ?l19 ?c19 ?k19 ?a20 ?l20 ?c20 ?k20 ?a21 ?l21 ?c21 ?k21 ?dl22 ?a22 ?l22 ?c22 ?k22 ?a23 ?l23 ?c23 ?k23 ?a24 ?l24 ?c24 ?k24 ?a25 ?l25 ?c25 ?k25 ?a26 ?l26 ?c26 ?k26 ?a27 ?l27 ?c27 ?k27 ?a28 ?l28 ?c28 ?k28 ?a29 ?l29 ?c29 ?k29 ?a30 ?l30 ?c30 ?k30 ?a31 ?l31 ?c31 ?k31 ?a32 ?l32 ?c32 ?k32 ?a33 ?l33 ?c33 ?k33 ?a34 ?l34 ?c34 ?k34 ?a35 ?l35 ?c35 ?k35 ?a36 ?l36 ?c36 ?k36 ?a37 ?l37 ?c37 ?k37 ?a38 ?l38 ?c38 ?k38 ?a39 ?l39 ?c39 ?k39 ?a40 ?l40 ?c40 ?k40 ?a41 ?l41 ?c41 ?k41 ?a42 ?l42 ?c42 ?k42   ?fW ?fX ?fY ?fZ ?gb ?hZ ?ia ?ib ?ie ?ig ?ii ?ij ?dH ?dJ ?dL ?dM ?dN ?eQ ?eT ?eU ?eV ?eX ?eY ?eZ ?cP ?cQ ?cR ?cS ?cT ?ei ?ez ?eA ?eB ?eC ?eD ?eE ?fc ?ff ?fg ?fh ?fi ?gB ?gC ?gE ?gF ?gG ?gH ?da ?gc ?gi ?gj ?gk ?gm ?il ?io ?ip ?iq ?ir ?iu ?dU ?dW ?fK ?fj ?dY ?fL ?gp ?gq ?dO ?fM ?aC ?aD ?bP ?bQ ?bh ?bi ?aZ ?bR ?bS ?bT ?cA ?dR ?cB ?dS ?aS ?bn ?bU ?bV ?lE ?lG ?lH ?fN ?fO ?fP ?fQ ?fR ?fT ?fU ?aP ?bY ?bz ?aB ?bZ ?db ?de ?bA ?cf ?iw ?ix ?iy ?iz ?iA ?iB ?iC ?aT ?df ?cC ?dg ?dh ?aF ?eG ?cD ?di ?iD ?fk ?iE ?iF ?iG ?iH ?iI ?iJ ?aU ?dj ?cE ?dk ?dm ?eJ ?aG ?cF ?dn ?fm ?cg ?ci ?fq ?fu ?fv ?fw ?fz ?fA ?aM ?bB ?bo ?bC ?bD ?cG ?cH ?ay ?bE ?dq ?du ?dw ?dA ?dB ?bF ?bG ?bH ?bI ?bJ ?bp ?bq ?br ?bt ?bu ?bv ?bw ?bb ?bc ?bK ?bL ?bM ?bN ?bO ?aL ?cJ ?cK ?cL ?cM ?cN ?cj ?ck ?cm ?cn ?cr ?dC ?dD ?dE ?dF ?dG ?aW ?cu ?cw ?cx ?cy ?aQ ?bd ?be ?bf ?bg ?gu ?dP ?aE ?z_len ?z_isinstance ?z_int ?z_bool ?z_tuple ?z_list ?z_set ?z_sorted ?z_divmod ?z_range ?z_abs ?z_min ?z_max ?z_any ?z_all ?z_str ?z_ValueError
  (case a1=>k_is);(case l1=>k_is);(case c1=>k_is);(case k1=>k_is)
  (case a2=>k_is);(case l2=>k_is);(case c2=>k_is);(case k2=>k_is)
  (case a3=>k_is);(case l3=>k_is);(case c3=>k_is);(case k3=>k_is)
  (case a4=>k_is);(case l4=>k_is);(case c4=>k_is);(case k4=>k_is)
  (case a5=>k_is);(case l5=>k_is);(case c5=>k_is);(case k5=>k_is)
  (case a6=>k_is);(case l6=>k_is);(case c6=>k_is);(case k6=>k_is)
  (case a7=>k_is);(case l7=>k_is);(case c7=>k_is);(case k7=>k_is)
  (case a8=>k_is);(case l8=>k_is);(case c8=>k_is);(case k8=>k_is)
  (case a9=>k_is);(case l9=>k_is);(case c9=>k_is);(case k9=>k_is)
  (case a10=>k_is);(case l10=>k_is);(case c10=>k_is);(case k10=>k_is)
  (case a11=>k_is);(case l11=>k_is);(case c11=>k_is);(case k11=>k_is)
  (case a12=>k_is);(case l12=>k_is);(case c12=>k_is);(case k12=>k_is)
  (case a13=>k_is);(case l13=>k_is);(case c13=>k_is);(case k13=>k_is)
  (case a14=>k_is);(case l14=>k_is);(case dl14=>k_is);(case c14=>k_is);(case k14=>k_is)
  (case a15=>k_is);(case l15=>k_is);(case dl15=>k_is);(case c15=>k_is);(case k15=>k_is)
  (case a16=>k_is);(case l16=>k_is);(case c16=>k_is);(case k16=>k_is)
  (case a17=>k_is);(case l17=>k_is);(case c17=>k_is);(case k17=>k_is)
  (case a18=>k_is);(case l18=>k_is);(case c18=>k_is);(case k18=>k_is)
  (case a19=>k_is);(case l19=>k_is);(case c19=>k_is);(case k19=>k_is)
  (case a20=>k_is);(case l20=>k_is);(case c20=>k_is);(case k20=>k_is)
  (case a21=>k_is);(case l21=>k_is);(case c21=>k_is);(case k21=>k_is)
  (case a22=>k_is);(case l22=>k_is);(case dl22=>k_is);(case c22=>k_is);(case k22=>k_is)
  (case a23=>k_is);(case l23=>k_is);(case c23=>k_is);(case k23=>k_is)
  (case a24=>k_is);(case l24=>k_is);(case c24=>k_is);(case k24=>k_is)
  (case a25=>k_is);(case l25=>k_is);(case c25=>k_is);(case k25=>k_is)
  (case a26=>k_is);(case l26=>k_is);(case c26=>k_is);(case k26=>k_is)
  (case a27=>k_is);(case l27=>k_is);(case c27=>k_is);(case k27=>k_is)
  (case a28=>k_is);(case l28=>k_is);(case c28=>k_is);(case k28=>k_is)
  (case a29=>k_is);(case l29=>k_is);(case c29=>k_is);(case k29=>k_is)
  (case a30=>k_is);(case l30=>k_is);(case c30=>k_is);(case k30=>k_is)
  (case a31=>k_is);(case l31=>k_is);(case c31=>k_is);(case k31=>k_is)
  (case a32=>k_is);(case l32=>k_is);(case c32=>k_is);(case k32=>k_is)
  (case a33=>k_is);(case l33=>k_is);(case c33=>k_is);(case k33=>k_is)
  (case a34=>k_is);(case l34=>k_is);(case c34=>k_is);(case k34=>k_is)
  (case a35=>k_is);(case l35=>k_is);(case c35=>k_is);(case k35=>k_is)
  (case a36=>k_is);(case l36=>k_is);(case c36=>k_is);(case k36=>k_is)
  (case a37=>k_is);(case l37=>k_is);(case c37=>k_is);(case k37=>k_is)
  (case a38=>k_is);(case l38=>k_is);(case c38=>k_is);(case k38=>k_is)
  (case a39=>k_is);(case l39=>k_is);(case c39=>k_is);(case k39=>k_is)
  (case a40=>k_is);(case l40=>k_is);(case c40=>k_is);(case k40=>k_is)
  (case a41=>k_is);(case l41=>k_is);(case c41=>k_is);(case k41=>k_is)
  (case a42=>k_is);(case l42=>k_is);(case c42=>k_is);(case k42=>k_is)
  (case fW=>k_is)
  (case fX=>k_is)
  (case fY=>k_is)
  (case fZ=>k_is)
  (case gb=>k_is)
  (case hZ=>k_is)
  (case ia=>k_is)
  (case ib=>k_is)
  (case ie=>k_is)
  (case ig=>k_is)
  (case ii=>k_is)
  (case ij=>k_is)
  (case dH=>k_is)
  (case dJ=>k_is)
  (case dL=>k_is)
  (case dM=>k_is)
  (case dN=>k_is)
  (case eQ=>k_is)
  (case eT=>k_is)
  (case eU=>k_is)
  (case eV=>k_is)
  (case eX=>k_is)
  (case eY=>k_is)
  (case eZ=>k_is)
  (case cP=>k_is)
  (case cQ=>k_is)
  (case cR=>k_is)
  (case cS=>k_is)
  (case cT=>k_is)
  (case ei=>k_is)
  (case ez=>k_is)
  (case eA=>k_is)
  (case eB=>k_is)
  (case eC=>k_is)
  (case eD=>k_is)
  (case eE=>k_is)
  (case fc=>k_is)
  (case ff=>k_is)
  (case fg=>k_is)
  (case fh=>k_is)
  (case fi=>k_is)
  (case gB=>k_is)
  (case gC=>k_is)
  (case gE=>k_is)
  (case gF=>k_is)
  (case gG=>k_is)
  (case gH=>k_is)
  (case da=>k_is)
  (case gc=>k_is)
  (case gi=>k_is)
  (case gj=>k_is)
  (case gk=>k_is)
  (case gm=>k_is)
  (case il=>k_is)
  (case io=>k_is)
  (case ip=>k_is)
  (case iq=>k_is)
  (case ir=>k_is)
  (case iu=>k_is)
  (case dU=>k_is)
  (case dW=>k_is)
  (case fK=>k_is)
  (case fj=>k_is)
  (case dY=>k_is)
  (case fL=>k_is)
  (case gp=>k_is)
  (case gq=>k_is)
  (case dO=>k_is)
  (case fM=>k_is)
  (case aC=>k_is)
  (case aD=>k_is)
  (case bP=>k_is)
  (case bQ=>k_is)
  (case bh=>k_is)
  (case bi=>k_is)
  (case aZ=>k_is)
  (case bR=>k_is)
  (case bS=>k_is)
  (case bT=>k_is)
  (case cA=>k_is)
  (case dR=>k_is)
  (case cB=>k_is)
  (case dS=>k_is)
  (case aS=>k_is)
  (case bn=>k_is)
  (case bU=>k_is)
  (case bV=>k_is)
  (case lE=>k_is)
  (case lG=>k_is)
  (case lH=>k_is)
  (case fN=>k_exc)
  (case fO=>k_is)
  (case fP=>k_is)
  (case fQ=>k_is)
  (case fR=>k_is)
  (case fT=>k_is)
  (case fU=>k_is)
  (case aP=>k_is)
  (case bY=>k_is)
  (case bz=>k_is)
  (case aB=>k_is)
  (case bZ=>k_is)
  (case db=>k_is)
  (case de=>k_is)
  (case bA=>k_is)
  (case cf=>k_is)
  (case iw=>k_exc)
  (case ix=>k_is)
  (case iy=>k_is)
  (case iz=>k_is)
  (case iA=>k_is)
  (case iB=>k_is)
  (case iC=>k_is)
  (case aT=>k_is)
  (case df=>k_is)
  (case cC=>k_is)
  (case dg=>k_is)
  (case dh=>k_is)
  (case aF=>k_is)
  (case eG=>k_is)
  (case cD=>k_is)
  (case di=>k_is)
  (case iD=>k_is)
  (case fk=>k_is)
  (case iE=>k_is)
  (case iF=>k_is)
  (case iG=>k_is)
  (case iH=>k_is)
  (case iI=>k_is)
  (case iJ=>k_is)
  (case aU=>k_is)
  (case dj=>k_is)
  (case cE=>k_is)
  (case dk=>k_is)
  (case dm=>k_is)
  (case eJ=>k_is)
  (case aG=>k_is)
  (case cF=>k_is)
  (case dn=>k_is)
  (case fm=>k_is)
  (case cg=>k_is)
  (case ci=>k_is)
  (case fq=>k_is)
  (case fu=>k_is)
  (case fv=>k_is)
  (case fw=>k_is)
  (case fz=>k_is)
  (case fA=>k_is)
  (case aM=>k_is)
  (case bB=>k_is)
  (case bo=>k_is)
  (case bC=>k_is)
  (case bD=>k_is)
  (case cG=>k_is)
  (case cH=>k_is)
  (case ay=>k_is)
  (case bE=>k_is)
  (case dq=>k_is)
  (case du=>k_is)
  (case dw=>k_is)
  (case dA=>k_is)
  (case dB=>k_is)
  (case bF=>k_is)
  (case bG=>k_is)
  (case bH=>k_is)
  (case bI=>k_is)
  (case bJ=>k_is)
  (case bp=>kernel_rfl)
  (case bq=>kernel_rfl)
  (case br=>k_is)
  (case bt=>k_is)
  (case bu=>k_is)
  (case bv=>k_is)
  (case bw=>k_is)
  (case bb=>kernel_rfl)
  (case bc=>kernel_rfl)
  (case bK=>k_is)
  (case bL=>k_is)
  (case bM=>k_is)
  (case bN=>k_is)
  (case bO=>k_is)
  (case aL=>k_is)
  (case cJ=>k_is)
  (case cK=>k_is)
  (case cL=>k_is)
  (case cM=>k_is)
  (case cN=>k_is)
  (case cj=>k_is)
  (case ck=>k_is)
  (case cm=>k_is)
  (case cn=>k_is)
  (case cr=>k_is)
  (case dC=>k_is)
  (case dD=>k_is)
  (case dE=>k_is)
  (case dF=>k_is)
  (case dG=>k_is)
  (case aW=>k_is)
  (case cu=>k_is)
  (case cw=>k_is)
  (case cx=>k_is)
  (case cy=>k_is)
  (case aQ=>k_is)
  (case bd=>k_is)
  (case be=>k_is)
  (case bf=>k_is)
  (case bg=>k_is)
  (case gu=>kernel_rfl)
  (case dP=>kernel_rfl)
  (case aE=>kernel_rfl)
  (case z_len=>k_is)
  (case z_isinstance=>k_is)
  (case z_int=>k_is)
  (case z_bool=>k_is)
  (case z_tuple=>k_is)
  (case z_list=>k_is)
  (case z_set=>k_is)
  (case z_sorted=>k_is)
  (case z_divmod=>k_is)
  (case z_range=>k_is)
  (case z_abs=>k_is)
  (case z_min=>k_is)
  (case z_max=>k_is)
  (case z_any=>k_is)
  (case z_all=>k_is)
  (case z_str=>k_is)
  (case z_ValueError=>k_is)
