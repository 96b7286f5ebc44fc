import PyProof.Rows.All
import Wide.All
import OpenK.AllK
import Wide.FinOn
import Lean
import PyProof.EqAt
import PyProof.EqKinds
import PyProof.TupleCall
import PySem.SetOps
import PyProof.SetKind
import PyProof.CollectWalk
import PyProof.FactsAll.set
import PyProof.ForAny
import PyProof.Rows.SortWalk
import PyProof.Rows.SetFrom
import KE.KSortAsk
import KE.KSortTup
import KE.KDictList
import KE.KMinBuiltin
import PyProof.EnumMake
import PyProof.NsDelKeeps
import PyProof.ExcInit
import PyProof.ExcClass2
import PyProof.WalksMore
import PyProof.TupleOfSeq
import PyProof.TupleKey
import PyProof.IsRules
import KE.KRevIter
import PyProof.AttrMissHeap
import KE.KDictOf
import PyProof.Rows.MinMaxN
import PySem.Challenge.RW_crossracks_k36_turning_refused
set_option Elab.async false
set_option linter.all false
set_option maxRecDepth 100000
open PySem.W (Frag kitOne findIn keepIn nsIn codeIn fnOf subIn exmOne typeIn clsIn isClsIn)
open List (filterMap_cons mem_cons_self mem_cons_of_mem mem_append_left mem_append_right size_toArray length_cons length_nil append_nil length_take take_sublist length_append length_map length_drop map_nil map_cons all_cons any_cons replicate_succ flatten_cons foldl_cons length_singleton cons_append nodup_nil lookup_cons mem_singleton all_eq_true getElem_of_mem getElem_mem any_eq_true ext_getElem mem_cons not_mem_nil pairwise_cons eq_nil_of_length_eq_zero nodup_append ext_getElem? map_congr_left drop_zero take_length take_append_drop pairwise_map length_range range_succ take_succ mem_map_of_mem mem_append map_append mem_map length_filter_le filter_append take_zero take_add_one)
open PySem PySem.Spec PyProof.Rows in
def w_:type_of% @wpAny_bind:=@wpAny_bind
open PySem PySem.Spec PyProof.Rows in
def u_:type_of% @wpAny_pure:=@wpAny_pure
namespace L2
open PySem PySem.Spec PyProof.Rows
abbrev Key:=Sum Int Str
def fL:Key->Value->Bool
 | .inl k,v=>Value.isInt k v
 | .inr x,v=>Value.isStrOf x v
def yv (w:World):Key->Int
 | .inl k=>hashInt k
 | .inr x=>hashStr w x
theorem D2:∀{k:Key}{v:Value},fL k v=true->(∃i t,k=Sum.inl i/\v=Value.int i t)\/(∃x t,k=Sum.inr x/\v=Value.str x t)
 | .inl i,v,h=>by
  obtain⟨t,e⟩:=Value.isInt_shape (k:=i) (v:=v) h;exact .inl ⟨i,t,rfl,e⟩
 | .inr x,v,h=>by
  obtain⟨t,e⟩:=Value.isStrOf_shape (x:=x) (v:=v) h;exact .inr ⟨x,t,rfl,e⟩
def pF (i:Int)(t:Tok):fL (.inl i) (.int i t)=true:=by simp[fL,Value.isInt]
def qa (x:Str)(t:Tok):fL (.inr x) (.str x t)=true:=by simp[fL,Value.isStrOf]
def xg (a b:Int):decide ((Sum.inl a:Key)=Sum.inl b)=(a==b):=by
 by_cases e:a=b
 ·subst e;simp
 ·have h:¬(Sum.inl a:Key)=Sum.inl b:=λq=>e (Sum.inl.inj q)
  rw[decide_eq_false h];exact(beq_eq_false_iff_ne.mpr e).symm
def wU (a b:Str):decide ((Sum.inr a:Key)=Sum.inr b)=decide (a=b):=by
 by_cases e:a=b
 ·subst e;simp
 ·have h:¬(Sum.inr a:Key)=Sum.inr b:=λq=>e (Sum.inr.inj q)
  rw[decide_eq_false h,decide_eq_false e]
def vV (a:Int)(b:Str):decide ((Sum.inl a:Key)=Sum.inr b)=false:=decide_eq_false (λq=>nomatch q)
def wv (a:Str)(b:Int):decide ((Sum.inr a:Key)=Sum.inl b)=false:=decide_eq_false (λq=>nomatch q)
def E1 (prog:Program)(w:World):PySem.KeyKind prog w Key where
 is:=fL
 hash:=yv w
 inj:=λv a b ha hb=>by
  rcases D2 ha with⟨i,t,rfl,rfl⟩|⟨x,t,rfl,rfl⟩
  ·rcases D2 hb with⟨j,u,rfl,e⟩|⟨y,u,rfl,e⟩
   ·injection e with e1 _;rw[e1]
   ·exact nomatch e
  ·rcases D2 hb with⟨j,u,rfl,e⟩|⟨y,u,rfl,e⟩
   ·exact nomatch e
   ·injection e with e1 _;rw[e1]
 byValue:=λk v h=>by
  rcases D2 h with⟨i,t,rfl,rfl⟩|⟨x,t,rfl,rfl⟩<;>rfl
 pyHash:=λhv h=>by
  rcases D2 hv with⟨i,t,rfl,rfl⟩|⟨x,t,rfl,rfl⟩
  ·exact wpAny_pyHash_int h
  ·exact wpAny_pyHash_str h
 eqBool:=λhu hv h=>by
  rcases D2 hu with⟨i,t,rfl,rfl⟩|⟨x,t,rfl,rfl⟩
  ·rcases D2 hv with⟨j,u,rfl,rfl⟩|⟨y,u,rfl,rfl⟩
   ·rw[xg] at h;exact wpAny_eqBool_int h
   ·rw[vV] at h;exact SeqAt.EqAt.int_str i t y u _ _ _ _ h
  ·rcases D2 hv with⟨j,u,rfl,rfl⟩|⟨y,u,rfl,rfl⟩
   ·rw[wv] at h;exact SeqAt.EqAt.str_int x t j u _ _ _ _ h
   ·rw[wU] at h;exact wpAny_eqBool_str h
 «strs»:=λk x t v h=>by
  rcases D2 h with⟨i,u,rfl,e⟩|⟨y,u,rfl,e⟩
  ·exact nomatch e
  ·injection e with e1 _
   subst e1
   cases v<;>rfl
def jw (prog:Program)(w:World)(i:Int)(t:Tok):(E1 prog w).is (.inl i) (.int i t)=true:=pF i t
def js (prog:Program)(w:World)(x:Str)(t:Tok):(E1 prog w).is (.inr x) (.str x t)=true:=qa x t
inductive V where
 | non | bl (b:Bool) | int (i:Int) | str (x:Str) | byt (b:Array UInt8) | flt (b:UInt64) | ref (a:Addr) | ty (n:String)
 deriving DecidableEq
def u7:V->Value->Prop
 | .non,u=>u=Value.none
 | .bl b,u=>u=Value.bool b
 | .int i,u=>∃t,u=Value.int i t
 | .str x,u=>∃t,u=Value.str x t
 | .byt b,u=>∃t,u=Value.bytes b t
 | .flt b,u=>∃t,u=Value.float b t
 | .ref a,u=>u=Value.ref a
 | .ty n,u=>u=Value.type n
abbrev o9:List V->List Value->Prop:=Paired u7
theorem o9.length {xs:List V}{us:List Value}(r:o9 xs us):xs.length=us.length:=Paired.length r
theorem o9.get:∀{xs:List V}{us:List Value}{i:Nat}{x:V},o9 xs us->xs[i]? = some x->∃u,us[i]? = some u/\u7 x u
 | _,_,_,_,.nil,e=>by simp at e
 | _,_,0,_,.cons r _,e=>by simp at e;subst e;exact⟨_,rfl,r⟩
 | _,_,i+1,x,.cons _ t,e=>by
  obtain⟨u,h1,h2⟩:=o9.get (i:=i) (x:=x) t (by simpa using e)
  exact⟨u,by simpa using h1,h2⟩
theorem o9.set {x:V}{u:Value}(r:u7 x u):∀{xs:List V}{us:List Value}(i:Nat),o9 xs us->o9 (xs.set i x) (us.set i u)
 | _,_,_,.nil=>.nil
 | _,_,0,.cons _ t=>.cons r t
 | _,_,i+1,.cons q t=>.cons q (o9.set r i t)
theorem o9.append:∀{xs ys:List V}{us ws:List Value},o9 xs us->o9 ys ws->o9 (xs++ys) (us++ws)
 | _,_,_,_,.nil,s=>s
 | _,_,_,_,.cons r t,s=>.cons r (o9.append t s)
theorem o9.take:∀{xs:List V}{us:List Value}(n:Nat),o9 xs us->o9 (xs.take n) (us.take n)
 | _,_,0,_=>.nil
 | _,_,_+1,.nil=>.nil
 | _,_,n+1,.cons r t=>.cons r (o9.take n t)
theorem o9.drop:∀{xs:List V}{us:List Value}(n:Nat),o9 xs us->o9 (xs.drop n) (us.drop n)
 | _,_,0,r=>r
 | _,_,_+1,.nil=>.nil
 | _,_,n+1,.cons _ t=>o9.drop n t
def aZ:Option V->Option Value->Prop
 | some v,some u=>u7 v u
 | none,none=>True
 | _,_=>False
def KV {κ:Type}:List (κ×V)->List (κ×Value)->Prop:=Paired λ(p:κ×V) (q:κ×Value)=>p.1=q.1/\u7 p.2 q.2
def kV:Key->V
 | .inl i=>.int i
 | .inr x=>.str x
inductive HO where
  | lst (xs:List V)
  | tup (xs:List V)
  | dK (kvs:List (Key×V)) | dT (kvs:List (List Key×V))
  | set (S:Int->Bool) (n:Nat)
  | ins (C dx:Addr) (fs:List (Str×V))
  | own (x:Addr)
  | xd (fs:List (Str×V))
  | met (f x:Addr)
  | rng (lo hi:Int)
  | frz (o:Obj) (u:HO)
  | tbl (ps:Array Value)
  | ext (φ:Heap->Prop)
abbrev Hp:=Addr->Option HO
def upd (H:Hp)(a:Addr)(o:HO):Hp:=λb=>if b=a then some o else H b
def c6 {H:Hp}{a:Addr}{o:HO}:upd H a o a=some o:=by unfold upd;rw[if_pos rfl]
def j2 {H:Hp}{a b:Addr}{o:HO}(h:b≠a):upd H a o b=H b:=by unfold upd;rw[if_neg h]
def xB {H:Hp}{a b:Addr}{o u:HO}(h:H a=some o)(h':H b=some u)(d:o≠u):a≠b:=by
 intro e;subst e;rw[h] at h';exact d (Option.some.inj h')
def n9 {H:Hp}{a b:Addr}{o:HO}(h:H a=some o)(h':H b=none):a≠b:=by
 intro e;subst e;rw[h] at h';cases h'
section
variable (P:Program)(w:World)
def r9 (H:Hp)(h:Heap)(a:Addr):HO->Prop
 | .lst xs=>xs.length<=sizeLine/\∃(its:List Value)(n:Nat),o9 xs its/\h.get? a=some { cls:=.type "list",data:=.seq its.toArray n }
 | .tup xs=>xs.length<=sizeLine/\∃its:List Value,o9 xs its/\IsTup h a its.toArray
 | .dK kvs=>kvs.length<=sizeLine/\(a==sysModules)=false/\∃vs,KV kvs vs/\h.DictOf (E1 P w) a vs
 | .dT kvs=>kvs.length<=sizeLine/\(a==sysModules)=false/\∃xs:List (List Key×Addr×Value),
   Paired (λ(p:List Key×V) (q:List Key×Addr×Value)=>p.1=q.1/\H q.2.1=some (.tup (p.1.map kV))/\u7 p.2 q.2.2) kvs xs /\
   ∃o es ep,h.get? a=some o/\o.ExactDict/\o.data=.dict es ep/\es.toList=xs.map (entryOfKey (tupleKind (E1 P w)))/\(xs.map (·.1)).Nodup
 | .set S n=>h.SetOf (intKind P w) a S n
 | .ins C dx fs=>H dx=some (.own a)/\fs.length<=1000/\dx≠a/\h.get? a=some (PySem.W.instObj C dx) /\
   ∃mA,h.Ns1 dx mA/\(∀f,aZ (fs.lookup f) (mA f))/\PySem.Within mA (fs.map (·.1))
 | .own _=>∃o,h.get? a=some o
 | .xd fs=>∃mA,h.Ns1 a mA/\∀f,aZ (fs.lookup f) (mA f)
 | .rng lo hi=>∃t u v,h.get? a=some { cls:=.type "range",data:=.fields #[.int lo t,.int hi u,.int 1 v] }
 | .frz o u=>h.get? a=some o/\r9 H h a u
 | .tbl ps=>h.get? a=some { cls:=.none,data:=.fields ps }
 | .met f x=>h.get? a=some (PySem.W.methodObj (.ref f) (.ref x))
 | .ext φ=>φ h/\(∃o,h.get? a=some o)/\∀h1 h2:Heap,φ h1->(∀o,h1.get? a=some o->h2.get? a=some o)->φ h2
def HOk (H:Hp)(h:Heap):Prop:=∀a o,H a=some o->r9 P w H h a o
end
section
variable {P:Program}{w:World}{H H':Hp}{h h':Heap}{a:Addr}{o:HO}
theorem r9.lt (x:r9 P w H h a o):a<h.objs.size:=by
 cases o with
 | lst xs=>obtain⟨_,_,_,_,e⟩:=x;exact Heap.lt_size e
 | tup xs=>obtain⟨_,_,_,p⟩:=x;exact p.lt
 | dK kvs=>obtain⟨_,_,_,_,o,_,_,e,_⟩:=x;exact Heap.lt_size e
 | dT kvs=>obtain⟨_,_,_,_,o,_,_,e,_⟩:=x;exact Heap.lt_size e
 | set S n=>obtain⟨o,_,_,_,e,_⟩:=x;exact Heap.lt_size e
 | ins C dx fs=>obtain⟨_,_,_,e,_⟩:=x;exact Heap.lt_size e
 | own y=>obtain⟨_,e⟩:=x;exact Heap.lt_size e
 | xd fs=>obtain⟨_,⟨_,_,_,e,_⟩,_⟩:=x;exact Heap.lt_size e
 | rng lo hi=>obtain⟨_,_,_,e⟩:=x;exact Heap.lt_size e
 | frz ob u=>obtain⟨e,_⟩:=x;exact Heap.lt_size e
 | tbl ps=>exact Heap.lt_size (show h.get? a=some _ from x)
 | met f y=>exact Heap.lt_size (show h.get? a=some _ from x)
 | ext φ=>obtain⟨_,⟨_,e⟩,_⟩:=x;exact Heap.lt_size e
theorem Paired.mapP {α β:Type}{F G:α->β->Prop}:∀{l₁:List α}{l₂:List β},Paired F l₁ l₂->(∀a b,F a b->G a b)->Paired G l₁ l₂
 | _,_,.nil,_=>.nil
 | _,_,.cons r t,f=>.cons (f _ _ r) (Paired.mapP t f)
theorem r9.stay (x:r9 P w H h a o)(k:∀b u,(b=a\/H b=some (.own a))->h.get? b=some u->h'.get? b=some u)
  (ho:∀b,H b=some (.own a)->H' b=some (.own a))(ht:∀b xs,H b=some (.tup xs)->H' b=some (.tup xs)):r9 P w H' h' a o:=by
 induction o with
 | lst xs=>obtain⟨z,its,n,r,e⟩:=x;exact⟨z,its,n,r,k _ _ (.inl rfl) e⟩
 | tup xs=>obtain⟨z,its,r,ob,e,c⟩:=x;exact⟨z,its,r,ob,k _ _ (.inl rfl) e,c⟩
 | dK kvs=>obtain⟨z,y,vs,r,ob,es,ep,e,c⟩:=x;exact⟨z,y,vs,r,ob,es,ep,k _ _ (.inl rfl) e,c⟩
 | dT kvs =>
  obtain⟨z,y,xs,r,ob,es,ep,e,c⟩:=x;exact⟨z,y,xs,Paired.mapP r λp q z=>⟨z.1,ht _ _ z.2.1,z.2.2⟩,ob,es,ep,k _ _ (.inl rfl) e,c⟩
 | set S n=>obtain⟨ob,es,ep,t,e,c⟩:=x;exact⟨ob,es,ep,t,k _ _ (.inl rfl) e,c⟩
 | ins C dx fs =>
  obtain⟨d,z,ne,e,mA,⟨od,es,ep,e2,c⟩,r⟩:=x;exact⟨ho _ d,z,ne,k _ _ (.inl rfl) e,mA,⟨od,es,ep,k _ _ (.inr d) e2,c⟩,r⟩
 | own y=>obtain⟨ob,e⟩:=x;exact⟨ob,k _ _ (.inl rfl) e⟩
 | xd fs=>obtain⟨mA,⟨od,es,ep,e,c⟩,r⟩:=x;exact⟨mA,⟨od,es,ep,k _ _ (.inl rfl) e,c⟩,r⟩
 | rng lo hi=>obtain⟨t,u,v,e⟩:=x;exact⟨t,u,v,k _ _ (.inl rfl) e⟩
 | frz ob u ih=>obtain⟨e,q⟩:=x;exact⟨k _ _ (.inl rfl) e,ih q⟩
 | tbl ps =>
  have e:h.get? a=some { cls:=.none,data:=.fields ps }:=x
  show h'.get? a=some { cls:=.none,data:=.fields ps }
  exact k a _ (.inl rfl) e
 | met f y =>
  have e:h.get? a=some (PySem.W.methodObj (.ref f) (.ref y)):=x
  show h'.get? a=some (PySem.W.methodObj (.ref f) (.ref y))
  exact k a _ (.inl rfl) e
 | ext φ=>obtain⟨p,⟨o,e⟩,st⟩:=x;exact⟨st _ _ p λo q=>k _ _ (.inl rfl) q,⟨o,k _ _ (.inl rfl) e⟩,st⟩
theorem HOk.lt (x:HOk P w H h)(e:H a=some o):a<h.objs.size:=(x a o e).lt
theorem HOk.fresh (x:HOk P w H h)(e:h.objs.size<=a):H a=none:=by
 cases q:H a with
 | none=>rfl
 | some u=>exact absurd (Nat.lt_of_lt_of_le (x.lt q) e) (Nat.lt_irrefl _)
theorem HOk.kept (x:HOk P w H h)(k:∀b u,h.get? b=some u->h'.get? b=some u):HOk P w H h':=λa o e =>
 (x a o e).stay (λb u _ q=>k b u q) (λ_ q=>q) λ_ _ q=>q
theorem HOk.laid (x:HOk P w H h)(k:∀b u,h.get? b=some u->h'.get? b=some u)(hp:h.objs.size<=a)(new:r9 P w (upd H a o) h' a o):HOk P w (upd H a o) h':=λb u e=>by
 have hn:=x.fresh hp
 by_cases hb:b=a
 ·subst hb;rw[c6] at e;cases e;exact new
 ·rw[j2 hb] at e
  exact(x b u e).stay (λc v _ q=>k c v q) (λc q=>by rw[j2 (n9 q hn)];exact q) λc xs q=>by rw[j2 (n9 q hn)];exact q
end
def Rd (H:Hp)(a:Addr)(u:HO):Prop:=H a=some u\/∃o,H a=some (.frz o u)
theorem Rd.ok {P:Program}{w:World}{H:Hp}{h:Heap}{a:Addr}{u:HO}(r:Rd H a u)(x:HOk P w H h):r9 P w H h a u:=by
 rcases r with r|⟨o,r⟩
 ·exact x a u r
 ·obtain⟨_,q⟩:=x a _ r
  exact q
def Mut:Option HO->Prop
 | some (.lst _)=>True
 | some (.dK _)=>True
 | some (.dT _)=>True
 | some (.set _ _)=>True
 | some (.ins _ _ _)=>True
 | some (.ext _)=>True
 | _=>False
section
variable {P:Program}{w:World}{H:Hp}{h h':Heap}{x e:Addr}{o':HO}
theorem HOk.write (ok:HOk P w H h)(mu:Mut (H x))(he:e=x\/H e=some (.own x))(k:∀b u,b≠e->h.get? b=some u->h'.get? b=some u)(heo:∃u,h'.get? e=some u)
  (new:r9 P w (upd H x o') h' x o'):HOk P w (upd H x o') h':=λb u q=>by
 have nown:∀c y,H c=some (.own y)->c≠x:=λc y r z=>by subst z;rw[r] at mu;exact mu
 have ntup:∀c xs,H c=some (.tup xs)->c≠x:=λc xs r z=>by subst z;rw[r] at mu;exact mu
 by_cases hb:b=x
 ·subst hb;rw[c6] at q;cases q;exact new
 ·rw[j2 hb] at q
  by_cases hbe:b=e
  ·have q':H b=some (.own x):=by
    rcases he with z|z
    ·exact absurd (hbe.trans z) hb
    ·rw[hbe];exact z
   rw[q] at q';cases q';obtain⟨v,hv⟩:=heo;exact⟨v,by rw[hbe];exact hv⟩
  ·refine(ok b u q).stay (λc v hc r=>k c v ?_ r) (λc r=>by rw[j2 (nown c b r)];exact r) λc xs r=>by rw[j2 (ntup c xs r)];exact r
   rcases hc with rfl|hc
   ·exact hbe
   ·rintro rfl
    rcases he with z|z
    ·exact nown c b hc z
    ·rw[hc] at z;cases z;exact hb rfl
end
structure Un (fs ex:List Addr)(H H':Hp)(h h':Heap):Prop where
 keep:∀b o,h.get? b=some o->H b=none->b∉fs->b∉ex->h'.get? b=some o
 slot:∀b o,h.get? b=some o->H b=none->b∈fs->b∉ex->∃sl,h'.get? b=some { o with slots:=sl }
 free:∀b o,h.get? b=some o->H b=none->b∉ex->H' b=none
 there:∀b o,h.get? b=some o->b∉ex->∃o',h'.get? b=some o'
 tups:∀b xs,H b=some (.tup xs)->H' b=some (.tup xs)
 frzs:∀b o u,H b=some (.frz o u)->H' b=some (.frz o u)
 tbls:∀b ps,H b=some (.tbl ps)->∃more,H' b=some (.tbl (ps++more))
section
variable {fs fs' ex ex':List Addr}{H H1 H2:Hp}{h h1 h2 h':Heap}{a x e:Addr}{o:HO}
theorem Un.any (u:Un fs ex H H1 h h1){b:Addr}{ob:Obj}(q:h.get? b=some ob)(n:H b=none)(hx:b∉ex):∃sl,h1.get? b=some { ob with slots:=sl }:=by
 by_cases hb:b∈fs
 ·exact u.slot b ob q n hb hx
 ·exact⟨ob.slots,u.keep b ob q n hb hx⟩
theorem Un.kept (k:∀b u,h.get? b=some u->h'.get? b=some u):Un fs ex H H h h' :=
 ⟨λb ob q _ _ _=>k b ob q,λb ob q _ _ _=>⟨ob.slots,k b ob q⟩,λ_ _ _ n _=>n,λb ob q _=>⟨ob,k b ob q⟩,λ_ _ q=>q,λ_ _ _ q=>q,λ_ ps q=>⟨#[],by rw[q];simp⟩⟩
theorem Un.refl:Un fs ex H H h h:=Un.kept λ_ _ q=>q
theorem Un.laid (k:∀b u,h.get? b=some u->h'.get? b=some u)(hp:h.objs.size<=a)(hn:H a=none):Un fs ex H (upd H a o) h h' where
 keep:=λb u q _ _ _=>k b u q
 slot:=λb u q _ _ _=>⟨u.slots,k b u q⟩
 free:=λb u q n _=>by rw[j2 (Nat.ne_of_lt (Nat.lt_of_lt_of_le (Heap.lt_size q) hp))];exact n
 there:=λb u q _=>⟨u,k b u q⟩
 tups:=λb xs q=>by rw[j2 (n9 q hn)];exact q
 frzs:=λb u xs q=>by rw[j2 (n9 q hn)];exact q
 tbls:=λb ps q=>⟨#[],by rw[j2 (n9 q hn),q];simp⟩
theorem Un.write (mu:Mut (H x))(he:e=x\/H e=some (.own x))(k:∀b u,b≠e->h.get? b=some u->h'.get? b=some u)(heo:∃u,h'.get? e=some u):Un fs ex H (upd H x o) h h':=by
 have hx:∀b,H b=none->b≠x:=λb n z=>by subst z;rw[n] at mu;exact mu
 have hb:∀b,H b=none->b≠e:=λb n z=>by
  subst z
  rcases he with r|r
  ·exact hx b n r
  ·rw[n] at r;cases r
 have hm:∀b u,H b=some u->¬Mut (some u)->b≠x:=λb u q nm z=>by subst z;rw[q] at mu;exact nm mu
 refine⟨λb u q n _ _=>k b u (hb b n) q,λb u q n _ _=>⟨u.slots,k b u (hb b n) q⟩,λb u q n _=>by rw[j2 (hx b n)];exact n,λb u q _=>?_,
  λb xs q=>by rw[j2 (hm b _ q λz=>z)];exact q,λb u xs q=>by rw[j2 (hm b _ q λz=>z)];exact q,λb ps q=>⟨#[],by rw[j2 (hm b _ q λz=>z),q];simp⟩⟩
 by_cases hbe:b=e
 ·subst hbe;exact heo
 ·exact⟨u,k b u hbe q⟩
end
def trk (h:Heap)(H:Hp):List Addr:=(List.range h.objs.size).filter λa=>(H a).isSome
def ir (h:Heap)(H:Hp):Heap:=PySem.W.hideAll h (trk h H)
def qz (h:Heap)(H:Hp):(ir h H).objs.size=h.objs.size:=PySem.W.hideAll_size _ _
def tq {h:Heap}{H:Hp}{b:Addr}{o:Obj}(e:h.get? b=some o)(n:H b=none):(ir h H).get? b=some o :=
 PySem.W.hideAll_get _ e λhm=>by
  have q:(H b).isSome=true:=(List.mem_filter.mp hm).2;rw[n] at q;simp at q
theorem ul {h:Heap}{H:Hp}{b:Addr}{o:Obj}(e:(ir h H).get? b=some o):h.get? b=some o/\H b=none:=by
 have e':h.get? b=some o:=PySem.W.of_hideAll (trk h H) e;refine⟨e',?_⟩
 cases q:H b with
 | none=>rfl
 | some x =>
  have hm:b∈trk h H:=List.mem_filter.mpr ⟨List.mem_range.mpr (Heap.lt_size e'),by simp[q]⟩
  have z:(ir h H).get? b=none:=PySem.W.hideAll_none (trk h H) hm;rw[z] at e;cases e
structure Mod (K:Frag)(mg:Str->Option Value)(base:Heap):Prop where
 kin:K.In base
 glob:base.Ns mainGlobals mg
 blt:∃mb,base.Ns builtinsNs mb/\∀x:Str,x≠"__name__"->mb x=bootBuiltins x
 nolimit:base.NoLimit
structure Cx where
 prog:Program
 w:World
 K:Frag
 mg:Str->Option Value
 base:Heap
 A:Around
 N:List Str
 s₀:Shared
 H₀:Hp
 env:Env
 outer:List Env
 stack:List Env
 ex:List Addr
 fn:Str->Bool
 calm:Bool
 pn:List (Addr×Obj)
 xe:Value->Shared->Prop
def frs (l:List Env):List Addr:=l.filterMap (·.frame)
abbrev Cx.fs (X:Cx):List Addr:=frs X.outer
def Vis (sc:Scope)(x:Str):Prop:=sc.names.lookup x=some .local\/sc.names.lookup x=some .cell\/sc.names.lookup x=some .free
def Loc (sc:Scope)(x:Str):Prop:=sc.names.lookup x=some .local\/sc.names.lookup x=some .cell
def yd (env:Env)(h:Heap)(m:Str->Option Value)(x:Str)(u:Value):Prop :=
 (env.kindOf x=some .local/\m x=some u)\/((env.kindOf x=some .cell\/env.kindOf x=some .free)/\∃c,env.cells.lookup x=some c/\h.IsCell c (some u))
structure Cx.Ok (X:Cx):Prop where
 mod:Mod X.K X.mg X.base
 kind:X.env.scope.kind=.function
 glob:X.env.globals=mainGlobals
 blt:X.env.builtins=builtinsNs
 above:X.s₀.heap.objs.size<=X.env.locals
 inj:∀x y c,X.env.cells.lookup x=some c->X.env.cells.lookup y=some c->x=y
 has:∀x,(X.env.kindOf x=some .cell\/X.env.kindOf x=some .free)->∃c,X.env.cells.lookup x=some c
 cab:∀x c,X.fn x=true->X.env.cells.lookup x=some c->X.s₀.heap.objs.size<=c
 hd:X.calm=true->X.A.handled=none
 frames:X.A.frames=some X.stack
 stk:X.stack=X.outer\/(X.stack=X.env::X.outer/\X.env.frame=some X.env.locals)
 exf:∀b∈X.ex,b≠X.env.locals/\∀x c,X.env.cells.lookup x=some c->c≠b
 bs:∀b o,X.base.get? b=some o->X.s₀.heap.get? b=some o/\X.H₀ b=none
 bsz:X.base.objs.size<=X.s₀.heap.objs.size
 noex:∀b o,X.base.get? b=some o->b∉X.ex
 exfs:∀b∈X.ex,b∉X.fs
 funs:X.s₀.heap.FunFrames X.base X.outer
 frf:∀b∈X.fs,X.H₀ b=none
structure Inv (X:Cx)(pins:List (Addr×Obj))(σ:List (Option V))(H:Hp)(s:Shared):Prop where
 ok:X.Ok
 os:s.os=X.s₀.os
 bare:AllBare s.gens
 base:Un X.fs X.ex X.H₀ H X.s₀.heap s.heap
 loc:∃m,s.heap.Ns X.env.locals m/\∀(i:Nat)(x:Str)(v:V),X.N[i]? = some x->σ[i]? = some (some v)->Vis X.env.scope x->∃u,u7 v u/\yd X.env s.heap m x u
 cell:∀x c,X.env.cells.lookup x=some c->∃v,s.heap.IsCell c v
 free:H X.env.locals=none
 freeC:∀x c,X.env.cells.lookup x=some c->H c=none
 pin:∀p∈X.pn++pins,s.heap.get? p.1=some p.2/\H p.1=none/\p.1≠X.env.locals/\p.1∉X.fs/\∀v,p.2.data≠.cell v
 hok:HOk X.prog X.w H s.heap
 len:σ.length=X.N.length
section
variable {X:Cx}{pins:List (Addr×Obj)}{σ:List (Option V)}{H H':Hp}{s:Shared}{h':Heap}
theorem Cx.Ok.nofr (ok:X.Ok){b:Addr}{o:Obj}(e:X.base.get? b=some o):b∉X.fs:=λhb=>by
 have:=(ok.funs.mem hb).1
 rw[e] at this;cases this
theorem Inv.bs (I:Inv X pins σ H s):∀b o,X.base.get? b=some o->s.heap.get? b=some o/\H b=none:=λb o e =>
 ⟨I.base.keep b o (I.ok.bs b o e).1 (I.ok.bs b o e).2 (I.ok.nofr e) (I.ok.noex b o e),I.base.free b o (I.ok.bs b o e).1 (I.ok.bs b o e).2 (I.ok.noex b o e)⟩
theorem Inv.bk (I:Inv X pins σ H s):∀b o,X.base.get? b=some o->s.heap.get? b=some o:=λb o e=>(I.bs b o e).1
theorem Inv.mod (I:Inv X pins σ H s):Mod X.K X.mg X.base:=I.ok.mod
theorem Inv.kIn (I:Inv X pins σ H s):X.K.In s.heap:=I.ok.mod.kin.keeps I.bk
theorem Inv.lt (I:Inv X pins σ H s):X.env.locals<s.heap.objs.size:=let ⟨_,hn,_⟩:=I.loc;hn.lt
theorem Inv.sz (I:Inv X pins σ H s):X.s₀.heap.objs.size<=s.heap.objs.size:=Nat.le_trans I.ok.above (Nat.le_of_lt I.lt)
theorem Inv.nofs (I:Inv X pins σ H s){a:Addr}(h:s.heap.objs.size<=a):a∉X.fs:=λhb=>by
 obtain⟨_,o,ho,_⟩:=I.ok.funs.mem hb;exact absurd (Nat.lt_of_lt_of_le (Heap.lt_size ho) (Nat.le_trans I.sz h)) (Nat.lt_irrefl _)
theorem Inv.cne (I:Inv X pins σ H s):∀x c,X.env.cells.lookup x=some c->c≠X.env.locals:=λx c e z=>by
 obtain⟨v,o,ho,hd⟩:=I.cell x c e;obtain⟨m,⟨o',es,ep,ho',hd',_⟩,_⟩:=I.loc;rw[z,ho'] at ho;cases ho;rw[hd'] at hd;cases hd
theorem Inv.funs (I:Inv X pins σ H s):s.heap.FunFrames X.base X.outer:=by
 have all:∀(l:List Env),(∀b∈frs l,b∈X.fs)->X.s₀.heap.FunFrames X.base l->s.heap.FunFrames X.base l:=by
  intro l
  induction l with
  | nil=>intro _ _;trivial
  | cons env r ih =>
   intro hs hl
   obtain⟨hk,⟨L,o,hf,hn,ho,hd⟩,hr⟩:=hl;have hL:L∈X.fs:=hs L (by unfold frs;rw[filterMap_cons,hf];exact mem_cons_self)
   obtain⟨sl,e⟩:=I.base.slot L o ho (I.ok.frf L hL) hL λz=>I.ok.exfs L z hL;exact⟨hk,⟨L,_,hf,hn,e,hd⟩,ih (λb hb=>hs b (by unfold frs;rw[filterMap_cons,hf];exact mem_cons_of_mem _ hb)) hr⟩
 exact all X.outer (λ_ hb=>hb) I.ok.funs
theorem Inv.stack (I:Inv X pins σ H s):s.heap.FunFrames X.base X.stack:=by
 rcases I.ok.stk with e|⟨e,hf⟩
 ·rw[e];exact I.funs
 ·rw[e]
  obtain⟨m,hn,_⟩:=I.loc;refine .cons (by rw[I.ok.kind];decide) hf hn ?_ I.funs
  exact Heap.get?_none_of_le (Nat.le_trans I.ok.bsz I.ok.above)
theorem Inv.stkSub (I:Inv X pins σ H s):∀b∈frs X.stack,b∈X.env.locals::X.fs:=λb hb=>by
 rcases I.ok.stk with e|⟨e,hf⟩
 ·rw[e] at hb;exact mem_cons_of_mem _ hb
 ·rw[e] at hb
  unfold frs at hb;rw[filterMap_cons,hf] at hb;exact hb
theorem Inv.stkFree (I:Inv X pins σ H s):∀b∈frs X.stack,H b=none:=λb hb=>by
 rcases mem_cons.mp (I.stkSub b hb) with e|hb
 ·rw[e];exact I.free
 ·obtain⟨_,o,ho,_⟩:=I.ok.funs.mem hb
  exact I.base.free b o ho (I.ok.frf b hb) λz=>I.ok.exfs b z hb
theorem Inv.step {g':Array GenState}{t':Nat}{d':Drawn}{ch:List Addr}(I:Inv X pins σ H s)
  (hch:∀b∈ch,(b∈X.ex\/X.s₀.heap.objs.size<=b)/\b≠X.env.locals/\(∀x c,X.env.cells.lookup x=some c->c≠b)/\∀p∈X.pn++pins,p.1≠b)
  (keep:∀b o,b≠X.env.locals->b∉X.fs->b∉ch->s.heap.get? b=some o->H b=none->h'.get? b=some o)
  (slot:∀b o,b≠X.env.locals->b∈X.fs->b∉ch->s.heap.get? b=some o->H b=none->∃sl,h'.get? b=some { o with slots:=sl })(free:∀b o,b∉ch->s.heap.get? b=some o->H b=none->H' b=none)
  (there:∀b o,b∉ch->s.heap.get? b=some o->∃o',h'.get? b=some o')
  (tups:∀b xs,H b=some (.tup xs)->H' b=some (.tup xs)) (frzs:∀b o u,H b=some (.frz o u)->H' b=some (.frz o u)) (tbls:∀b ps,H b=some (.tbl ps)->∃more,H' b=some (.tbl (ps++more)))
  (ns:∀m,s.heap.Ns X.env.locals m->h'.Ns X.env.locals m) (hok:HOk X.prog X.w H' h') (hg:AllBare g') :
  Inv X pins σ H' { s with heap:=h',gens:=g',drawn:=d',toks:=t' }:=by
 have neL:∀b o,X.s₀.heap.get? b=some o->b≠X.env.locals:=λb o e=>Nat.ne_of_lt (Nat.lt_of_lt_of_le (Heap.lt_size e) I.ok.above)
 have neC:∀b o,X.s₀.heap.get? b=some o->b∉X.ex->b∉ch:=λb o e hx hb=>by
  rcases(hch b hb).1 with z|z
  ·exact hx z
  ·exact absurd (Nat.lt_of_lt_of_le (Heap.lt_size e) z) (Nat.lt_irrefl _)
 have cellK:∀x c,X.env.cells.lookup x=some c->∀v,s.heap.IsCell c v->h'.IsCell c v:=λx c e v ⟨o,ho,hd⟩=>by
  have nch:c∉ch:=λz=>(hch c z).2.2.1 x c e rfl
  by_cases hc:c∈X.fs
  ·obtain⟨sl,q⟩:=slot c o (I.cne x c e) hc nch ho (I.freeC x c e)
   exact⟨_,q,hd⟩
  ·exact⟨o,keep c o (I.cne x c e) hc nch ho (I.freeC x c e),hd⟩
 refine⟨I.ok,I.os,hg,⟨λb o e n hb hx=>?_,λb o e n hb hx=>?_,λb o e n hx=>?_,λb o e hx=>?_,λb xs e=>tups b xs (I.base.tups b xs e),λb o xs e=>frzs b o xs (I.base.frzs b o xs e),λb ps e=>?_⟩,?_,λx c e=>?_,?_,λx c e=>?_,λp hp=>?_,hok,I.len⟩
 ·exact keep b o (neL b o e) hb (neC b o e hx) (I.base.keep b o e n hb hx) (I.base.free b o e n hx)
 ·obtain⟨sl,e1⟩:=I.base.slot b o e n hb hx
  obtain⟨sl',e2⟩:=slot b _ (neL b o e) hb (neC b o e hx) e1 (I.base.free b o e n hx);exact⟨sl',e2⟩
 ·obtain⟨o',e1⟩:=I.base.there b o e hx
  exact free b o' (neC b o e hx) e1 (I.base.free b o e n hx)
 ·obtain⟨o',e1⟩:=I.base.there b o e hx
  exact there b o' (neC b o e hx) e1
 ·obtain⟨m1,e1⟩:=I.base.tbls b ps e
  obtain⟨m2,e2⟩:=tbls b _ e1;exact⟨m1++m2,by rw[e2,Array.append_assoc]⟩
 ·obtain⟨m,hn,hl⟩:=I.loc
  refine⟨m,ns m hn,λi x v e1 e2 e3=>?_⟩;obtain⟨u,r,l⟩:=hl i x v e1 e2 e3;refine⟨u,r,?_⟩
  rcases l with l|⟨k,c,e,z⟩
  ·exact .inl l
  ·exact .inr ⟨k,c,e,cellK x c e _ z⟩
 ·obtain⟨v,z⟩:=I.cell x c e
  exact⟨v,cellK x c e v z⟩
 ·obtain⟨m,⟨o,_,_,ho,_⟩,_⟩:=I.loc
  exact free _ o (λz=>(hch _ z).2.1 rfl) ho I.free
 ·obtain⟨v,o,ho,hd⟩:=I.cell x c e
  exact free c o (λz=>(hch c z).2.2.1 x c e rfl) ho (I.freeC x c e)
 ·obtain⟨e,n,ne,nf,d⟩:=I.pin p hp
  have nch:p.1∉ch:=λz=>(hch p.1 z).2.2.2 p hp rfl;exact⟨keep p.1 p.2 ne nf nch e n,free p.1 p.2 nch e n,ne,nf,d⟩
theorem Inv.un {t':Nat}(I:Inv X pins σ H s)(u:Un X.fs [] H H' s.heap h')(hok:HOk X.prog X.w H' h'):Inv X pins σ H' { s with heap:=h',toks:=t' }:=by
 obtain⟨m,⟨o,es,ep,ho,r⟩,_⟩:=id I.loc;obtain⟨sl,hL⟩:=u.any ho I.free (by simp)
 exact I.step (g':=s.gens) (d':=s.drawn) (ch:=[]) (λ_ z=>nomatch z) (λb o _ hb _ e n=>u.keep b o e n hb (by simp)) (λb o _ hb _ e n=>u.slot b o e n hb (by simp)) (λb o _ e n=>u.free b o e n (by simp)) (λb o _ e=>u.there b o e (by simp)) u.tups u.frzs u.tbls (λm' hm=>by
  obtain⟨o',es',ep',ho',r'⟩:=hm;rw[ho] at ho';cases ho'
  exact⟨_,es',ep',hL,r'⟩) hok I.bare
theorem Inv.call {g':Array GenState}{t':Nat}{d':Drawn}{ch:List Addr}(I:Inv X pins σ H s)(u:Un (frs X.stack) ch H H' s.heap h')(hok:HOk X.prog X.w H' h')(hg:AllBare g')
  (hch:∀b∈ch,(b∈X.ex\/X.s₀.heap.objs.size<=b)/\b≠X.env.locals/\(∀x c,X.env.cells.lookup x=some c->c≠b)/\∀p∈X.pn++pins,p.1≠b) :
  Inv X pins σ H' { s with heap:=h',gens:=g',drawn:=d',toks:=t' }:=by
 obtain⟨m,⟨o,es,ep,ho,r⟩,_⟩:=id I.loc;obtain⟨sl,hL⟩:=u.any ho I.free λz=>(hch _ z).2.1 rfl
 exact I.step (ch:=ch) hch (λb o hL hb hc e n=>u.keep b o e n (λz=>(mem_cons.mp (I.stkSub b z)).elim hL hb) hc) (λb o _ _ hc e n=>u.any e n hc) (λb o hc e n=>u.free b o e n hc) (λb o hc e=>u.there b o e hc) u.tups u.frzs u.tbls (λm' hm=>by
  obtain⟨o',es',ep',ho',r'⟩:=hm;rw[ho] at ho';cases ho'
  exact⟨_,es',ep',hL,r'⟩) hok hg
theorem Inv.turned {t':Nat}{it:Addr}(I:Inv X pins σ H s)(k:∀b o,b≠it->s.heap.get? b=some o->h'.get? b=some o)(hn:H it=none)(hL:it≠X.env.locals)
  (h1:it∈X.ex\/X.s₀.heap.objs.size<=it)(h2:∀x c,X.env.cells.lookup x=some c->c≠it)(h3:∀p∈X.pn++pins,p.1≠it):Inv X pins σ H { s with heap:=h',toks:=t' }:=by
 have nit:∀b u,H b=some u->b≠it:=λb u e z=>by rw[z,hn] at e;cases e
 refine I.step (g':=s.gens) (d':=s.drawn) (ch:=[it]) (λb hb=>?_) (λb o _ _ hc e _=>k b o (λz=>hc (by simp[z])) e) (λb o _ _ hc e _=>⟨o.slots,k b o (λz=>hc (by simp[z])) e⟩) (λ_ _ _ _ n=>n)
  (λb o hc e=>⟨o,k b o (λz=>hc (by simp[z])) e⟩) (λ_ _ e=>e) (λ_ _ _ e=>e) (λb ps e=>⟨#[],by rw[e];simp⟩) (λm hm=>?_) (λb u e=>?_) I.bare
 ·have e:b=it:=by simpa using hb
  subst e;exact⟨h1,hL,h2,h3⟩
 ·obtain⟨o,es,ep,ho,r⟩:=hm
  exact⟨o,es,ep,k _ o (Ne.symm hL) ho,r⟩
 ·refine(I.hok b u e).stay (λc v hc q=>k c v ?_ q) (λ_ q=>q) λ_ _ q=>q
  rcases hc with z|z
  ·rw[z];exact nit b u e
  ·exact nit c _ z
theorem Inv.tok (I:Inv X pins σ H s)(t:Nat):Inv X pins σ H { s with toks:=t }:=I.un (h':=s.heap) (t':=t) Un.refl I.hok
theorem Inv.kept {t':Nat}(I:Inv X pins σ H s)(k:∀b u,s.heap.get? b=some u->h'.get? b=some u):Inv X pins σ H { s with heap:=h',toks:=t' }:=I.un (Un.kept k) (I.hok.kept k)
theorem Inv.laid {a:Addr}{o:HO}{t':Nat}(I:Inv X pins σ H s)(k:∀b u,s.heap.get? b=some u->h'.get? b=some u)(hp:s.heap.objs.size<=a)(new:r9 X.prog X.w (upd H a o) h' a o) :
  Inv X pins σ (upd H a o) { s with heap:=h',toks:=t' }:=I.un (Un.laid k hp (I.hok.fresh hp)) (I.hok.laid k hp new)
theorem Inv.write {x e:Addr}{o:HO}{t':Nat}(I:Inv X pins σ H s)(mu:Mut (H x))(he:e=x\/H e=some (.own x))(k:∀b u,b≠e->s.heap.get? b=some u->h'.get? b=some u)(heo:∃u,h'.get? e=some u)
  (new:r9 X.prog X.w (upd H x o) h' x o):Inv X pins σ (upd H x o) { s with heap:=h',toks:=t' }:=I.un (Un.write mu he k heo) (I.hok.write mu he k heo new)
theorem Inv.pins_of {pins':List (Addr×Obj)}(I:Inv X pins σ H s)(h:∀p∈pins',s.heap.get? p.1=some p.2/\H p.1=none/\p.1≠X.env.locals/\p.1∉X.fs/\∀v,p.2.data≠.cell v):Inv X pins' σ H s :=
 ⟨I.ok,I.os,I.bare,I.base,I.loc,I.cell,I.free,I.freeC,λp hp=>(mem_append.mp hp).elim (λz=>I.pin p (mem_append_left _ z)) (h p),I.hok,I.len⟩
def cX {N:List Str}(hN:N.Nodup){i j:Nat}{x:Str}(a:N[i]? = some x)(b:N[j]? = some x):i=j:=by
 obtain⟨h1,e1⟩:=List.getElem?_eq_some_iff.mp a;obtain⟨h2,e2⟩:=List.getElem?_eq_some_iff.mp b;exact(List.getElem_inj hN).mp (e1.trans e2.symm)
def fg {M:Model}{A:Around}{E:Value->Shared->Prop}{i:Nat}{x:Str}{v:V}{u:Value}{Q:Unit->Shared->Prop}(I:Inv X pins σ H s)(hN:X.N.Nodup)(hi:X.N[i]? = some x)(hx:Loc X.env.scope x)(r:u7 v u)
  (h:∀s',Inv X pins (σ.set i (some v)) H s'->(∃a,Heap.SameBut a s.heap s'.heap/\(a=X.env.locals\/X.env.cells.lookup x=some a))->Q () s')(hf:X.fn x=true\/X.env.scope.names.lookup x=some .local:=by first|exact .inl rfl|exact .inr rfl|assumption):wpAny M A (storeName X.env x u) Q E s:=by
 obtain⟨m,hn,hl⟩:=id I.loc;have hcls:(X.env.scope.kind==.class || (X.env.scope.kind==.module&&X.env.locals != X.env.globals))=false:=by rw[I.ok.kind];rfl
 have hiσ:i<σ.length:=by rw[I.len];exact(List.getElem?_eq_some_iff.mp hi).1
 have cne:=I.cne
 have tracked:∀{a:Addr}{h':Heap},(∃o,s.heap.get? a=some o/\H a=none)->Heap.SameBut a s.heap h'->HOk X.prog X.w H h':=λ{a h'} ha hs b ob e=>by
  obtain⟨_,_,hfree⟩:=ha;refine(I.hok b ob e).stay (λc w' hc q=>(hs.2 c ?_).trans q) (λ_ q=>q) λ_ _ q=>q
  rintro rfl
  rcases hc with rfl|hc
  ·rw[hfree] at e;cases e
  ·rw[hfree] at hc;cases hc
 rcases hx with hk|hk
 ·refine wpAny_storeName_local hk hn (λh' hn' hs=>?_) hcls
  obtain⟨oL,_,_,hoL,_⟩:=id hn;refine h _ ⟨I.ok,I.os,I.bare,⟨λb o e n hb hx=>?_,λb o e n hb hx=>?_,I.base.free,λb o e hx=>?_,I.base.tups,I.base.frzs,I.base.tbls⟩,⟨_,hn',λj y v' e1 e2 e3=>?_⟩,λy c e=>?_,I.free,I.freeC,λp hp=>?_,tracked ⟨oL,hoL,I.free⟩ hs,by simpa using I.len⟩ ⟨_,hs,.inl rfl⟩
  ·exact(hs.2 b (Nat.ne_of_lt (Nat.lt_of_lt_of_le (Heap.lt_size e) I.ok.above))).trans (I.base.keep b o e n hb hx)
  ·obtain⟨sl,e1⟩:=I.base.slot b o e n hb hx
   exact⟨sl,(hs.2 b (Nat.ne_of_lt (Nat.lt_of_lt_of_le (Heap.lt_size e) I.ok.above))).trans e1⟩
  ·obtain⟨o',e1⟩:=I.base.there b o e hx
   exact⟨o',(hs.2 b (Nat.ne_of_lt (Nat.lt_of_lt_of_le (Heap.lt_size e) I.ok.above))).trans e1⟩
  ·by_cases hj:j=i
   ·subst hj
    rw[hi] at e1;cases e1;rw[List.getElem?_set_self hiσ] at e2
    cases e2
    exact⟨u,r,.inl ⟨hk,by simp⟩⟩
   ·rw[List.getElem?_set_ne (Ne.symm hj)] at e2
    obtain⟨u',r',q⟩:=hl j y v' e1 e2 e3;refine⟨u',r',?_⟩
    rcases q with⟨k,e⟩|⟨k,c,e,z⟩
    ·refine .inl ⟨k,?_⟩
     have:y≠x:=λe=>hj (cX hN e1 (e▸hi))
     simp[this,e]
    ·exact .inr ⟨k,c,e,z.sameBut hs (cne y c e)⟩
  ·obtain⟨w',z⟩:=I.cell y c e
   exact⟨w',z.sameBut hs (cne y c e)⟩
  ·obtain⟨e,n,ne,nf,d⟩:=I.pin p hp
   exact⟨(hs.2 p.1 ne).trans e,n,ne,nf,d⟩
 ·have hfn:X.fn x=true:=by
   rcases hf with z|z
   ·exact z
   ·rw[z] at hk;cases hk
  obtain⟨c,hc⟩:=I.ok.has x (.inl hk);obtain⟨w',z⟩:=I.cell x c hc;refine wpAny_storeName_cell I.ok.kind hk hc z (λh' hc' hs=>?_);obtain⟨oc,hoc,hocd⟩:=id z;refine h { s with heap:=h' } ⟨I.ok,I.os,I.bare,⟨λb o e n hb hx=>?_,λb o e n hb hx=>?_,I.base.free,λb o e hx=>?_,I.base.tups,I.base.frzs,I.base.tbls⟩,⟨m,hn.sameBut hs (Ne.symm (cne x c hc)),λj y v' e1 e2 e3=>?_⟩,λy c' e=>?_,I.free,I.freeC,λp hp=>?_,tracked ⟨oc,hoc,I.freeC x c hc⟩ hs,by simpa using I.len⟩ ⟨c,hs,.inr hc⟩
  ·exact(hs.2 b (Nat.ne_of_lt (Nat.lt_of_lt_of_le (Heap.lt_size e) (I.ok.cab x c hfn hc)))).trans (I.base.keep b o e n hb hx)
  ·obtain⟨sl,e1⟩:=I.base.slot b o e n hb hx
   exact⟨sl,(hs.2 b (Nat.ne_of_lt (Nat.lt_of_lt_of_le (Heap.lt_size e) (I.ok.cab x c hfn hc)))).trans e1⟩
  ·obtain⟨o',e1⟩:=I.base.there b o e hx
   exact⟨o',(hs.2 b (Nat.ne_of_lt (Nat.lt_of_lt_of_le (Heap.lt_size e) (I.ok.cab x c hfn hc)))).trans e1⟩
  ·by_cases hj:j=i
   ·subst hj
    rw[hi] at e1;cases e1;rw[List.getElem?_set_self hiσ] at e2
    cases e2
    exact⟨u,r,.inr ⟨.inl hk,c,hc,hc'⟩⟩
   ·rw[List.getElem?_set_ne (Ne.symm hj)] at e2
    obtain⟨u',r',q⟩:=hl j y v' e1 e2 e3;refine⟨u',r',?_⟩
    rcases q with q|⟨k,c',e,z'⟩
    ·exact .inl q
    ·refine .inr ⟨k,c',e,z'.sameBut hs ?_⟩
     rintro rfl
     exact hj (cX hN e1 (I.ok.inj _ _ _ e hc▸hi))
  ·by_cases hcc:c'=c
   ·subst hcc;exact⟨_,hc'⟩
   ·obtain⟨w2,z2⟩:=I.cell y c' e
    exact⟨w2,z2.sameBut hs hcc⟩
  ·obtain⟨e,n,ne,nf,d⟩:=I.pin p hp
   refine⟨(hs.2 p.1 ?_).trans e,n,ne,nf,d⟩
   intro q
   rw[q,hoc] at e;have q':oc=p.2:=Option.some.inj e;exact d w' (by rw[<- q'];exact hocd)
def cO {M:Model}{A:Around}{E:Value->Shared->Prop}{i:Nat}{x:Str}{v:V}{u:Value}{Q:Unit->Shared->Prop}(I:Inv X pins σ H s)(hN:X.N.Nodup)(hi:X.N[i]? = some x)(hx:Loc X.env.scope x)(r:u7 v u)
  (h:∀s',Inv X pins (σ.set i (some v)) H s'->Q () s')(hf:X.fn x=true\/X.env.scope.names.lookup x=some .local:=by first|exact .inl rfl|exact .inr rfl|assumption):wpAny M A (storeName X.env x u) Q E s :=
 fg I hN hi hx r (λs' I' _=>h s' I') hf
theorem Inv.call' {s':Shared}{ch:List Addr}(I:Inv X pins σ H s)(ho:s'.os=s.os)(u:Un (frs X.stack) ch H H' s.heap s'.heap)(hok:HOk X.prog X.w H' s'.heap)(hg:AllBare s'.gens)
  (hch:∀b∈ch,(b∈X.ex\/X.s₀.heap.objs.size<=b)/\b≠X.env.locals/\(∀x c,X.env.cells.lookup x=some c->c≠b)/\∀p∈X.pn++pins,p.1≠b):Inv X pins σ H' s':=by
 obtain⟨h',g',d',t',o'⟩:=s';have e:o'=s.os:=ho;subst e;exact I.call (g':=g') (t':=t') (d':=d') u hok hg hch
end
abbrev XK:=Value->Option Addr->Hp->Prop
abbrev St:=List (Option V)
abbrev VK:=V->Hp->Prop
abbrev TE:=St->Hp->VK->Prop
abbrev TT:=St->Hp->(Bool->Hp->Prop)->Prop
abbrev TA:=St->Hp->(List V->Hp->Prop)->Prop
structure aI where
 nx:St->Hp->Prop
 rt:VK
 bk:St->Hp->Prop:=λ_ _=>False
 ct:St->Hp->Prop:=λ_ _=>False
abbrev TS:=aI->St->Hp->Prop
def EP (X:Cx)(pins:List (Addr×Obj))(σ:St)(Q:VK)(u:Value)(s':Shared):Prop:=∃v H',Inv X pins σ H' s'/\u7 v u/\Q v H'
def TP (X:Cx)(pins:List (Addr×Obj))(σ:St)(Q:Bool->Hp->Prop)(b:Bool)(s':Shared):Prop:=∃H',Inv X pins σ H' s'/\Q b H'
def AP (X:Cx)(pins:List (Addr×Obj))(σ:St)(Q:List V->Hp->Prop)(us:List Value)(s':Shared):Prop:=∃vs H',Inv X pins σ H' s'/\o9 vs us/\Q vs H'
def SP (X:Cx)(pins:List (Addr×Obj))(D:aI)(f:Flow)(s':Shared):Prop :=
 match f with
 | .next=>∃σ' H',Inv X pins σ' H' s'/\D.nx σ' H'
 | .brk=>∃σ' H',Inv X pins σ' H' s'/\D.bk σ' H'
 | .cont=>∃σ' H',Inv X pins σ' H' s'/\D.ct σ' H'
 | .ret u=>∃v σ' H',Inv X pins σ' H' s'/\u7 v u/\D.rt v H'
def PE (X:Cx)(e:Expr)(t:TE):Prop :=
 ∀(pins:List (Addr×Obj))(s:Shared)(σ:St)(H:Hp)(Q:VK),Inv X pins σ H s->t σ H Q->wpAny (model X.prog X.w) X.A (eval e X.env) (EP X pins σ Q) X.xe s
def PT (X:Cx)(e:Expr)(t:TT):Prop :=
 ∀(pins:List (Addr×Obj))(s:Shared)(σ:St)(H:Hp)(Q:Bool->Hp->Prop),Inv X pins σ H s->t σ H Q->wpAny (model X.prog X.w) X.A (isTrue e X.env (eval e X.env)) (TP X pins σ Q) X.xe s
def PW (X:Cx)(e:Expr)(t:TT):Prop :=
 ∀(whole:Sem Value)(pins:List (Addr×Obj))(s:Shared)(σ:St)(H:Hp)(Q:Bool->Hp->Prop),Inv X pins σ H s->t σ H Q->wpAny (model X.prog X.w) X.A (isTrue e X.env whole) (TP X pins σ Q) X.xe s
theorem PW.pt {X:Cx}{e:Expr}{t:TT}(h:PW X e t):PT X e t:=h _
def PA (X:Cx)(es:List Expr)(t:TA):Prop :=
 ∀(pos:Pos)(pins:List (Addr×Obj))(s:Shared)(σ:St)(H:Hp)(Q:List V->Hp->Prop),Inv X pins σ H s->t σ H Q->wpAny (model X.prog X.w) X.A (spliced (backTo pos (starEach es X.env))) (AP X pins σ Q) X.xe s
def PS (X:Cx)(st:Stmt)(t:TS):Prop :=
 ∀(pins:List (Addr×Obj))(s:Shared)(σ:St)(H:Hp)(D:aI),Inv X pins σ H s->t D σ H->wpAny (model X.prog X.w) X.A (exec st X.env) (SP X pins D) X.xe s
def PSs (X:Cx)(st:List Stmt)(t:TS):Prop :=
 ∀(pins:List (Addr×Obj))(s:Shared)(σ:St)(H:Hp)(D:aI),Inv X pins σ H s->t D σ H->wpAny (model X.prog X.w) X.A (execs st X.env) (SP X pins D) X.xe s
def thn {α:Type}{t:Sem α}{Q Q':α->Shared->Prop}{M:Model}{A:Around}{E:Value->Shared->Prop}{s:Shared}(h:wpAny M A t Q E s)(hQ:∀a s,Q a s->Q' a s):wpAny M A t Q' E s:=wpAny_mono h hQ λ_ _ x=>x
section
variable {X:Cx}
def bin {a b:Expr}{ta tb:TE}(ha:PE X a ta)(hb:PE X b tb){pins:List (Addr×Obj)}{s:Shared}{σ:St}{H:Hp}{R:V->V->Hp->Prop}(I:Inv X pins σ H s)(h:ta σ H λx H1=>tb σ H1 λy H2=>R x y H2)
  {α:Type}{Q:α->Shared->Prop}{f:Value->Value->Sem α}
  (hf:∀v u s2 x y H2,Inv X pins σ H2 s2->u7 x v->u7 y u->R x y H2->wpAny (model X.prog X.w) X.A (f v u) Q X.xe s2) :
  wpAny (model X.prog X.w) X.A (eval a X.env) (λv s₁=>wpAny (model X.prog X.w) X.A (eval b X.env) (λu s₂=>wpAny (model X.prog X.w) X.A (f v u) Q X.xe s₂) X.xe s₁) X.xe s:=by
 refine thn (ha pins s σ H _ I h) λv s1 ⟨x,H1,I1,r1,q1⟩=>?_;refine thn (hb pins s1 σ H1 _ I1 q1) λu s2 ⟨y,H2,I2,r2,q2⟩=>?_;exact hf v u s2 x y H2 I2 r1 r2 q2
def uO (i:Nat):TE:=λσ H Q=>∃v,σ[i]? = some (some v)/\Q v H
def tC (v:V):TE:=λ_ H Q=>Q v H
def wL {i:Nat}{x:Str}{pos:Pos}(hN:X.N[i]? = some x)(hv:Vis X.env.scope x)(hd:(x==("__debug__":Str))=false:=by decide)(hcd:(x==("__classdict__":Str))=false:=by decide):PE X (.Name x pos) (uO i):=by
 intro pins s σ H Q I h
 obtain⟨v,e,h⟩:=h;obtain⟨m,hn,hl⟩:=I.loc;obtain⟨u,r,l⟩:=hl i x v hN e hv;have fin:EP X pins σ Q u s:=⟨v,H,I,r,h⟩
 rcases l with⟨hk,hm⟩|⟨hk,c,hc,hcell⟩
 ·exact wpAny_Name (wpAny_loadName_local I.ok.kind hk hn hm fin) hd
 ·rcases hk with hk|hk
  ·exact wpAny_Name (wpAny_loadName_cell I.ok.kind hk hc hcell fin) hd
  ·exact wpAny_Name (wpAny_loadName_free I.ok.kind hk hc hcell fin hcd) hd
def c8 {i j pos}:PE X (.Constant (.int i) j pos) (tC (.int i)):=λ_ _ _ H _ I h=>wpAny_Constant_int ⟨.int i,H,I.tok _,⟨_,rfl⟩,h⟩
def K2 {b j pos}:PE X (.Constant (.bool b) j pos) (tC (.bl b)):=λ_ _ _ H _ I h=>Constant_bool ⟨.bl b,H,I,rfl,h⟩
def w6 {j pos}:PE X (.Constant .none j pos) (tC .non):=λ_ _ _ H _ I h=>Constant_none ⟨.non,H,I,rfl,h⟩
def Q5 {x j pos}:PE X (.Constant (.str x) j pos) (tC (.str x)):=λ_ _ _ H _ I h=>Calls.Constant_str ⟨.str x,H,I.tok _,⟨_,rfl⟩,h⟩
def Gl (X:Cx)(x:Str):Prop:=X.env.kindOf x=some .globalImplicit
def aa {E:Value->Shared->Prop}{pins:List (Addr×Obj)}{s:Shared}{σ:St}{H:Hp}{x:Str}{u:Value}{pos:Pos}{Q:Value->Shared->Prop}(I:Inv X pins σ H s)(hg:Gl X x)(hm:X.mg x=some u)(h:Q u s)
  (hd:(x==("__debug__":Str))=false:=by decide):wpAny (model X.prog X.w) X.A (eval (.Name x pos) X.env) Q E s :=
 Calls.Name_function_global I.ok.kind hg (Calls.loadGlobal_global (by rw[I.ok.glob];exact I.mod.glob.keeps I.bk) hm h) hd
def aD {E:Value->Shared->Prop}{pins:List (Addr×Obj)}{s:Shared}{σ:St}{H:Hp}{x:Str}{u:Value}{pos:Pos}{Q:Value->Shared->Prop}(I:Inv X pins σ H s)(hg:Gl X x)(hm:X.mg x=none)(hv:bootBuiltins x=some u)(h:Q u s)
  (hn:x≠"__name__":=by decide)(hd:(x==("__debug__":Str))=false:=by decide):wpAny (model X.prog X.w) X.A (eval (.Name x pos) X.env) Q E s:=by
 obtain⟨mb,h1,h2⟩:=I.mod.blt;exact Calls.Name_function_global I.ok.kind hg (Calls.loadGlobal_builtin (by rw[I.ok.glob];exact I.mod.glob.keeps I.bk) hm (by rw[I.ok.blt];exact h1.keeps I.bk) ((h2 x hn).trans hv) h) hd
def P3 {x:Str}{v:V}{u:Value}{pos:Pos}(hg:Gl X x)(hm:X.mg x=some u)(r:u7 v u)(hd:(x==("__debug__":Str))=false:=by decide):PE X (.Name x pos) (tC v) :=
 λ_ _ _ H _ I h=>aa I hg hm ⟨v,H,I,r,h⟩ hd
def D4 {x:Str}{v:V}{u:Value}{pos:Pos}(hg:Gl X x)(hm:X.mg x=none)(hv:bootBuiltins x=some u)(r:u7 v u)(hn:x≠"__name__":=by decide)(hd:(x==("__debug__":Str))=false:=by decide):PE X (.Name x pos) (tC v) :=
 λ_ _ _ H _ I h=>aD I hg hm hv ⟨v,H,I,r,h⟩ hn hd
variable {a b:Expr}{ta tb:TE}{pos:Pos}
def PC (X:Cx)(op:CmpOp)(a b:Expr)(t:TE):Prop :=
 ∀(pins:List (Addr×Obj))(s:Shared)(σ:St)(H:Hp)(Q:VK),Inv X pins σ H s->t σ H Q ->
  wpAny (model X.prog X.w) X.A (eval a X.env) (λv s₁=>wpAny (model X.prog X.w) X.A (eval b X.env) (λu s₂=>wpAny (model X.prog X.w) X.A (compareOp op v u) (EP X pins σ Q) X.xe s₂) X.xe s₁) X.xe s
def tB (t:TE):TT:=λσ H Q=>t σ H λx H1=>∃c,x=.bl c/\Q c H1
def re {op:CmpOp}{t:TE}(h:PC X op a b t)(h1:behindInMarks op b=false:=by first|exact nobehind _ (by decide) (by decide)|rfl):PT X (.Compare a [op] [b] pos) (tB t):=by
 intro pins s σ H Q I hw
 refine wpAny_isTrue_Compare1 (thn (h pins s σ H _ I hw) λv s1 h1=>thn h1 λu s2 h2=>thn h2 λc s3 ⟨x,H1,I1,r1,q1⟩=>?_) h1;obtain⟨d,rfl,q⟩:=q1
 cases r1
 exact wpAny_truthy_bool ⟨H1,I1,q⟩
variable {tA tB':TT}{rest:List Expr}
def yn (t u:TT):TT:=λσ H Q=>t σ H λc H1=>if c=true then u σ H1 Q else Q false H1
def tOr (t u:TT):TT:=λσ H Q=>t σ H λc H1=>if c=true then Q true H1 else u σ H1 Q
def yz (t:TT):TT:=λσ H Q=>t σ H λc H1=>Q (!c) H1
theorem aN (ha:PT X a tA):PW X (.BoolOp .And [a] pos) tA:=by
 intro wh pins s σ H Q I h
 refine isTrue_and (thn (ha pins s σ H Q I h) λc s1 e=>?_)
 cases c with
 | true=>exact isTrue_and_nil e
 | false=>exact e
theorem aB (ha:PT X a tA):PW X (.BoolOp .Or [a] pos) tA:=by
 intro wh pins s σ H Q I h
 refine isTrue_or (thn (ha pins s σ H Q I h) λc s1 e=>?_)
 cases c with
 | false=>exact isTrue_or_nil e
 | true=>exact e
theorem dD (ha:PT X a tA)(hb:PW X (.BoolOp .And (b::rest) pos) tB'):PW X (.BoolOp .And (a::b::rest) pos) (yn tA tB'):=by
 intro wh pins s σ H Q I h
 refine isTrue_and (thn (ha pins s σ H _ I h) λc s1 ⟨H1,I1,q1⟩=>?_)
 cases c with
 | true=>exact hb wh pins s1 σ H1 Q I1 q1
 | false=>exact⟨H1,I1,q1⟩
theorem bn (ha:PT X a tA)(hb:PW X (.BoolOp .Or (b::rest) pos) tB'):PW X (.BoolOp .Or (a::b::rest) pos) (tOr tA tB'):=by
 intro wh pins s σ H Q I h
 refine isTrue_or (thn (ha pins s σ H _ I h) λc s1 ⟨H1,I1,q1⟩=>?_)
 cases c with
 | true=>exact⟨H1,I1,q1⟩
 | false=>exact hb wh pins s1 σ H1 Q I1 q1
def F0 (ha:PT X a tA):PT X (.UnaryOp .Not a pos) (yz tA):=by
 intro pins s σ H Q I h
 exact isTrue_not (ha pins s σ H (λc H1=>Q (!c) H1) I h)
def yb (ta tb:TE):TE:=λσ H Q=>ta σ H λx H1=>∃c,x=.bl c/\if c=true then tb σ H1 Q else Q (.bl false) H1
def xt (ta:TE):TE:=λσ H Q=>ta σ H λx H1=>∃c,x=.bl c/\Q (.bl (!c)) H1
def az {op}{t:TE}(h:PE X a t):PE X (.BoolOp op [a] pos) t:=λpins s σ H Q I hw=>BoolOp_one (h pins s σ H Q I hw)
theorem U7 (ha:PE X a ta)(hb:PE X (.BoolOp .And (b::rest) pos) tb):PE X (.BoolOp .And (a::b::rest) pos) (yb ta tb):=by
 intro pins s σ H Q I h
 refine BoolOp_and (thn (ha pins s σ H _ I h) λv s1 ⟨x,H1,I1,r1,q1⟩=>?_);obtain⟨c,rfl,q1⟩:=q1
 cases r1
 refine wpAny_truthy_bool ?_
 cases c with
 | true=>exact hb pins s1 σ H1 Q I1 q1
 | false=>exact⟨.bl false,H1,I1,rfl,q1⟩
def mx (ha:PE X a ta):PE X (.UnaryOp .Not a pos) (xt ta):=by
 intro pins s σ H Q I h
 refine UnaryOp_ (thn (ha pins s σ H _ I h) λv s1 ⟨x,H1,I1,r1,q1⟩=>?_);obtain⟨c,rfl,q1⟩:=q1
 cases r1
 exact not_of (wpAny_truthy_bool ⟨.bl (!c),H1,I1,rfl,q1⟩)
def tIf (t:TT)(ta tb:TE):TE:=λσ H Q=>t σ H λc H1=>if c=true then ta σ H1 Q else tb σ H1 Q
theorem qY {c:Expr}(hc:PT X c tA)(ha:PE X a ta)(hb:PE X b tb):PE X (.IfExp c a b pos) (tIf tA ta tb):=by
 intro pins s σ H Q I h
 refine wpAny_IfExp (thn (hc pins s σ H _ I h) λd s1 ⟨H1,I1,q1⟩=>?_)
 cases d with
 | true=>exact ha pins s1 σ H1 Q I1 q1
 | false=>exact hb pins s1 σ H1 Q I1 q1
end
def SqL (K:Frag)(H:Hp)(a:Addr)(xs:List V):Prop :=
 Rd H a (.lst xs) \/
  ∃(o:Obj)(its:Array Value)(n:Nat),K.lookup a=some o/\o.cls=.type "list"/\o.dict=none/\o.data=.seq its n/\its.size<=sizeLine/\o9 xs its.toList
def SqT (K:Frag)(H:Hp)(a:Addr)(xs:List V):Prop :=
 Rd H a (.tup xs) \/
  ∃(o:Obj)(its:Array Value)(n:Nat),K.lookup a=some o/\o.cls=.type "tuple"/\o.data=.seq its n/\its.size<=sizeLine/\o9 xs its.toList
def yu:Value->Option V
 | .none=>some .non
 | .bool b=>some (.bl b)
 | .int i _=>some (.int i)
 | .str x _=>some (.str x)
 | .bytes b _=>some (.byt b)
 | .float b _=>some (.flt b)
 | .ref a=>some (.ref a)
 | .type n=>some (.ty n)
 | _=>none
theorem u7.abs {x:V}{u:Value}(r:u7 x u):yu u=some x:=by
 cases x with
 | non=>cases r;rfl
 | bl _=>cases r;rfl
 | int _=>obtain⟨t,rfl⟩:=r;rfl
 | str _=>obtain⟨t,rfl⟩:=r;rfl
 | byt _=>obtain⟨t,rfl⟩:=r;rfl
 | flt _=>obtain⟨t,rfl⟩:=r;rfl
 | ref _=>cases r;rfl
 | ty _=>cases r;rfl
theorem u7.inj {x y:V}{u:Value}(r:u7 x u)(q:u7 y u):x=y:=Option.some.inj (r.abs.symm.trans q.abs)
theorem o9.inj:∀{xs ys:List V}{us:List Value},o9 xs us->o9 ys us->xs=ys
 | _,_,_,.nil,.nil=>rfl
 | _,_,_,.cons r t,.cons r' t'=>by rw[r.inj r',o9.inj t t']
section
variable {X:Cx}{pins:List (Addr×Obj)}{σ:St}{H:Hp}{s:Shared}{a:Addr}{xs ys:List V}
theorem SqL.of {K:Frag}(h:H a=some (.lst xs)):SqL K H a xs:=.inl (.inl h)
theorem SqT.of {K:Frag}(h:H a=some (.tup xs)):SqT K H a xs:=.inl (.inl h)
theorem Inv.list (I:Inv X pins σ H s)(h:SqL X.K H a xs):∃its:List Value,o9 xs its/\PlainL s.heap a its.toArray/\xs.length<=sizeLine:=by
 rcases h with h|⟨o,its,n,hk,hc,hd,hs,hz,r⟩
 ·obtain⟨z,its,n,r,e⟩:=h.ok I.hok
  exact⟨its,r,⟨_,n,e,rfl,rfl,rfl⟩,z⟩
 ·refine⟨its.toList,r,⟨o,n,I.kIn a o hk,hc,hd,by simpa using hs⟩,?_⟩
  have e:=r.length
  simp only[Array.length_toList] at e
  lia
theorem Inv.tuple (I:Inv X pins σ H s)(h:SqT X.K H a xs):∃its:List Value,o9 xs its/\IsTup s.heap a its.toArray/\xs.length<=sizeLine:=by
 rcases h with h|⟨o,its,n,hk,hc,hs,hz,r⟩
 ·obtain⟨z,its,r,p⟩:=h.ok I.hok
  exact⟨its,r,p,z⟩
 ·refine⟨its.toList,r,⟨o,I.kIn a o hk,hc,n,by simpa using hs⟩,?_⟩
  have e:=r.length
  simp only[Array.length_toList] at e
  lia
theorem Inv.list_inj (I:Inv X pins σ H s)(h:SqL X.K H a xs)(h':SqL X.K H a ys):xs=ys:=by
 obtain⟨its,r,⟨o,n,e,_,_,d⟩,_⟩:=I.list h;obtain⟨its',r',⟨o',n',e',_,_,d'⟩,_⟩:=I.list h';rw[e] at e';cases e';rw[d] at d'
 injection d' with d1 _
 have:its=its':=by simpa using congrArg Array.toList d1
 subst this;exact r.inj r'
theorem Inv.tuple_inj (I:Inv X pins σ H s)(h:SqT X.K H a xs)(h':SqT X.K H a ys):xs=ys:=by
 obtain⟨its,r,⟨o,e,_,n,d⟩,_⟩:=I.tuple h;obtain⟨its',r',⟨o',e',_,n',d'⟩,_⟩:=I.tuple h';rw[e] at e';cases e';rw[d] at d'
 injection d' with d1 _
 have:its=its':=by simpa using congrArg Array.toList d1
 subst this;exact r.inj r'
end
abbrev Cx.wish (X:Cx)(E:Value->Shared->Prop):Cx:={ X with xe:=E }
abbrev Cx.nox (X:Cx):Cx:=X.wish λ_ _=>False
theorem Cx.Ok.wish {X:Cx}(ok:X.Ok)(E:Value->Shared->Prop):(X.wish E).Ok :=
 ⟨ok.mod,ok.kind,ok.glob,ok.blt,ok.above,ok.inj,ok.has,ok.cab,ok.hd,ok.frames,ok.stk,ok.exf,ok.bs,ok.bsz,ok.noex,ok.exfs,ok.funs,ok.frf⟩
theorem Cx.Ok.unwish {X:Cx}{E:Value->Shared->Prop}(ok:(X.wish E).Ok):X.Ok :=
 ⟨ok.mod,ok.kind,ok.glob,ok.blt,ok.above,ok.inj,ok.has,ok.cab,ok.hd,ok.frames,ok.stk,ok.exf,ok.bs,ok.bsz,ok.noex,ok.exfs,ok.funs,ok.frf⟩
section
variable {X:Cx}{pins:List (Addr×Obj)}{σ:St}{H:Hp}{s:Shared}{E:Value->Shared->Prop}
theorem Inv.wish (I:Inv X pins σ H s)(E:Value->Shared->Prop):Inv (X.wish E) pins σ H s:=⟨I.ok.wish E,I.os,I.bare,I.base,I.loc,I.cell,I.free,I.freeC,I.pin,I.hok,I.len⟩
theorem Inv.unwish (I:Inv (X.wish E) pins σ H s):Inv X pins σ H s:=⟨I.ok.unwish,I.os,I.bare,I.base,I.loc,I.cell,I.free,I.freeC,I.pin,I.hok,I.len⟩
theorem SP.unwish {D:aI}{f:Flow}{s':Shared}(h:SP (X.wish E) pins D f s'):SP X pins D f s':=by
 cases f with
 | next=>obtain⟨σ',H',I,q⟩:=h;exact⟨σ',H',I.unwish,q⟩
 | brk=>obtain⟨σ',H',I,q⟩:=h;exact⟨σ',H',I.unwish,q⟩
 | cont=>obtain⟨σ',H',I,q⟩:=h;exact⟨σ',H',I.unwish,q⟩
 | ret u=>obtain⟨v,σ',H',I,r,q⟩:=h;exact⟨v,σ',H',I.unwish,r,q⟩
theorem PSs.nox {st:List Stmt}{t:TS}(h:PSs X.nox st t):PSs X st t:=λpins s σ H D I hw =>
 wpAny_mono (h pins s σ H D (I.wish _) hw) (λ_ _ q=>q.unwish) λ_ _ z=>False.elim z
end
section
variable {X:Cx}{st:Stmt}{rest:List Stmt}{t u:TS}{e:Expr}{te:TE}{pos:Pos}
def nG:TS:=λD σ H=>D.nx σ H
def xp (t u:TS):TS:=λD σ H=>t { D with nx:=u D } σ H
def j7:PSs X [] nG:=λ_ _ σ H _ I h=>wpAny_execs_nil ⟨σ,H,I,h⟩
theorem d9 (h1:PS X st t)(h2:PSs X rest u):PSs X (st::rest) (xp t u):=by
 intro pins s σ H D I h
 refine wpAny_execs_cons (thn (h1 pins s σ H { D with nx:=u D } I h) λf s1 q=>?_)
 cases f with
 | next =>
  obtain⟨σ',H',I',q⟩:=q;exact h2 pins s1 σ' H' D I' q
 | ret v=>exact q
 | brk=>exact q
 | cont=>exact q
theorem i0 (h1:PS X st t):PSs X [st] t:=by
 intro pins s σ H D I h
 refine wpAny_execs_cons (thn (h1 pins s σ H D I h) λf s1 q=>?_)
 cases f with
 | next=>exact wpAny_execs_nil q
 | ret v=>exact q
 | brk=>exact q
 | cont=>exact q
theorem Inv.quiet {pins:List (Addr×Obj)}{σ:St}{H:Hp}{s:Shared}(I:Inv X pins σ H s):interactive X.env=false:=by simp[interactive,I.ok.kind]
def xU (te:TE):TS:=λD σ H=>te σ H λ_ H1=>D.nx σ H1
def C5 (he:PE X e te)(hs:swapsWith e none pos.line X.env=pure false:=by rfl):PS X (.Expr e pos) (xU te):=by
 intro pins s σ H D I h
 exact wpAny_Expr_any (thn (he pins s σ H _ I h) λv s1 ⟨x,H1,I1,r1,q1⟩=>⟨σ,H1,I1,q1⟩) I.quiet hs
def xJ (te:TE):TS:=λD σ H=>te σ H D.rt
def j6 (he:PE X e te):PS X (.Return (some e) pos) (xJ te):=by
 intro pins s σ H D I h
 exact wpAny_Return_some (thn (he pins s σ H _ I h) λv s1 ⟨x,H1,I1,r1,q1⟩=>⟨x,σ,H1,I1,r1,q1⟩)
def xr (c:TT)(t u:TS):TS:=λD σ H=>c σ H λb H1=>if b=true then t D σ H1 else u D σ H1
theorem m8 {c:Expr}{a b:List Stmt}{tc:TT}(hc:PT X c tc)(ha:PSs X a t)(hb:PSs X b u):PS X (.If c a b pos) (xr tc t u):=by
 intro pins s σ H D I h
 refine wpAny_If (thn (hc pins s σ H _ I h) λd s1 ⟨H1,I1,q1⟩=>?_)
 cases d with
 | true=>exact ha pins s1 σ H1 D I1 q1
 | false=>exact hb pins s1 σ H1 D I1 q1
def vT:TS:=λ_ _ _=>False
def W4:PS X st vT:=λ_ _ _ _ _ _ h=>h.elim
end
abbrev TG:=V->St->Hp->(St->Hp->Prop)->Prop
abbrev TGs:=List V->St->Hp->(St->Hp->Prop)->Prop
def PG (X:Cx)(target:Expr)(t:TG):Prop :=
 ∀(pins:List (Addr×Obj))(s:Shared)(σ:St)(H:Hp)(v:V)(u:Value)(Q:St->Hp->Prop),Inv X pins σ H s->u7 v u->t v σ H Q ->
  wpAny (model X.prog X.w) X.A (assign target X.env u) (λ_ s'=>∃σ' H',Inv X pins σ' H' s'/\Q σ' H') X.xe s
def PGs (X:Cx)(ts:List Expr)(t:TGs):Prop :=
 ∀(pins:List (Addr×Obj))(s:Shared)(σ:St)(H:Hp)(vs:List V)(us:List Value)(Q:St->Hp->Prop),Inv X pins σ H s->o9 vs us->t vs σ H Q ->
  wpAny (model X.prog X.w) X.A (assignInOrder ((assignEach ts X.env).map (·.2)) us) (λ_ s'=>∃σ' H',Inv X pins σ' H' s'/\Q σ' H') X.xe s
abbrev vM:=V->V->V->Hp->(Hp->Prop)->Prop
def vL (X:Cx)(t:vM):Prop :=
 ∀(pins:List (Addr×Obj))(s:Shared)(σ:St)(H:Hp)(o i v:V)(ov iv u:Value)(Q:Hp->Prop),Inv X pins σ H s->u7 o ov->u7 i iv->u7 v u->t o i v H Q ->
  wpAny (model X.prog X.w) X.A (setItem ov iv u) (λ_ s'=>∃H',Inv X pins σ H' s'/\Q H') X.xe s
abbrev TIp:=V->V->Hp->VK->Prop
def PIp (X:Cx)(op:Operator)(t:TIp):Prop :=
 ∀(pins:List (Addr×Obj))(s:Shared)(σ:St)(H:Hp)(x y:V)(v u:Value)(Q:VK),Inv X pins σ H s->u7 x v->u7 y u->t x y H Q ->
  wpAny (model X.prog X.w) X.A (inplaceOp op v u) (EP X pins σ Q) X.xe s
section
variable {X:Cx}{pos:Pos}
def W7 (i:Nat):TG:=λv σ H Q=>Q (σ.set i (some v)) H
def m5 {i:Nat}{x:Str}(hN:X.N.Nodup)(hi:X.N[i]? = some x)(hx:Loc X.env.scope x)(hf:X.fn x=true\/X.env.scope.names.lookup x=some .local:=by first|exact .inl rfl|exact .inr rfl|assumption):PG X (.Name x pos) (W7 i):=by
 intro pins s σ H v u Q I r h
 exact wpAny_assign_Name (cO I hN hi hx r (λs' I'=>⟨_,H,I',h⟩) hf)
def ww:TGs:=λvs σ H Q=>vs=[]/\Q σ H
def kT (t:TG)(u:TGs):TGs:=λvs σ H Q=>∃v r,vs=v::r/\t v σ H λσ' H'=>u r σ' H' Q
def ud:PGs X [] ww:=by
 intro pins s σ H vs us Q I r h
 obtain⟨e,h⟩:=h;subst e
 cases r
 exact assignInOrder_nil ⟨σ,H,I,h⟩
theorem kM {e:Expr}{es:List Expr}{t:TG}{u:TGs}(h1:PG X e t)(h2:PGs X es u)
  (hs:(assignEach (e::es) X.env).map (·.2)=assign e X.env::(assignEach es X.env).map (·.2):=by rfl):PGs X (e::es) (kT t u):=by
 intro pins s σ H vs us Q I r h
 obtain⟨v,vr,e1,h⟩:=h;subst e1
 cases r with
 | cons r rr =>
  rw[hs];refine assignInOrder_cons (thn (h1 pins s σ H _ _ _ I r h) λ_ s1 ⟨σ1,H1,I1,q1⟩=>?_);exact h2 pins s1 σ1 H1 _ _ Q I1 rr q1
def wT (K:Frag)(n:Nat)(t:TGs):TG:=λv σ H Q=>∃a xs,v=.ref a/\SqT K H a xs/\xs.length=n/\t xs σ H Q
def wC {es:List Expr}{k:Nat}{t:TGs}{n:Nat}(hc:X.calm=true)(h:PGs X es t)
  (hn:(assignEach es X.env).length=n:=by rfl)(hst:(assignEach es X.env).findIdx? (·.1)=none:=by rfl):PG X (.Tuple es k pos) (wT X.K n t):=by
 intro pins s σ H v u Q I r hw
 obtain⟨a,xs,e1,hq,hl,hw⟩:=hw;subst e1
 cases r
 obtain⟨its,rv,ht,hz⟩:=I.tuple hq;refine assign_Tuple_tuple (I.ok.hd hc) ht (by simp[hn,<- hl,rv.length]) hst λh' hx=>?_
 have I1:Inv X pins σ H { s with heap:=h' }:=I.kept (t':=s.toks) λb o e=>hx b o (Nat.ne_of_lt (Heap.lt_size e)) e
 exact h pins _ σ H xs _ Q I1 (by simpa using rv) hw
def xN (te:TE)(g:TG):TS:=λD σ H=>te σ H λx H1=>g x σ H1 D.nx
def j3 {i:Nat}{x:Str}{e:Expr}{te:TE}{pos':Pos}(hN:X.N.Nodup)(hi:X.N[i]? = some x)(hx:Loc X.env.scope x)(he:PE X e te)(hs:swapsWith e (some (.Name x pos')) pos.line X.env=pure false:=by rfl)(hf:X.fn x=true\/X.env.scope.names.lookup x=some .local:=by first|exact .inl rfl|exact .inr rfl|assumption) :
  PS X (.Assign [.Name x pos'] e pos) (xN te (W7 i)):=by
 intro pins s σ H D I h
 refine wpAny_Assign_Name (thn (he pins s σ H _ I h) λv s1 ⟨y,H1,I1,r1,q1⟩=>?_) hs;exact cO I1 hN hi hx r1 (λs2 I2=>⟨_,H1,I2,q1⟩) hf
def xD (to ti te:TE)(tget:V->V->Hp->VK->Prop)(tip:TIp)(tset:vM):TS:=λD σ H=>to σ H λo H1=>ti σ H1 λi H2=>tget o i H2 λx H3=>te σ H3 λy H4=>tip x y H4 λz H5=>tset o i z H5 λH6=>D.nx σ H6
def wx (X:Cx)(t:V->V->Hp->VK->Prop):Prop :=
 ∀(pins:List (Addr×Obj))(s:Shared)(σ:St)(H:Hp)(o i:V)(ov iv:Value)(Q:VK),Inv X pins σ H s->u7 o ov->u7 i iv->t o i H Q ->
  wpAny (model X.prog X.w) X.A (getItem ov iv) (EP X pins σ Q) X.xe s
def oF {o i e:Expr}{to ti te:TE}{tget:V->V->Hp->VK->Prop}{tip:TIp}{tset:vM}{op:Operator}{tpos:Pos}(ho:PE X o to)(hi:PE X i ti)(hg:wx X tget)(he:PE X e te)(hp:PIp X op tip)(hs:vL X tset)
  (ha:∀ov iv new,augStore i ov iv new=(do holding [new,ov,iv] (setItem ov iv new);release [new,ov,iv] [];pure .next):=by intros;rfl):PS X (.AugAssign (.Subscript o i tpos) op e pos) (xD to ti te tget tip tset):=by
 intro pins s σ H D I h
 refine wpAny_AugAssign_SubscriptAny (thn (ho pins s σ H _ I h) λov s1 ⟨x1,H1,I1,r1,q1⟩=>?_) ha;refine thn (hi pins s1 σ H1 _ I1 q1) λiv s2 ⟨x2,H2,I2,r2,q2⟩=>?_;refine thn (hg pins s2 σ H2 x1 x2 ov iv _ I2 r1 r2 q2) λold s3 ⟨x3,H3,I3,r3,q3⟩=>?_;refine thn (he pins s3 σ H3 _ I3 q3) λv s4 ⟨x4,H4,I4,r4,q4⟩=>?_;refine thn (hp pins s4 σ H4 x3 x4 old v _ I4 r3 r4 q4) λnew s5 ⟨x5,H5,I5,r5,q5⟩=>?_;exact thn (hs pins s5 σ H5 x1 x2 x5 ov iv new _ I5 r1 r2 r5 q5) λ_ s6 ⟨H6,I6,q6⟩=>⟨σ,H6,I6,q6⟩
end
structure It where
 go:Nat->Hp->Prop
 yld:Nat->Hp->V->Hp->Prop
 stop:Nat->Hp->Prop
def eA (X:Cx)(pins:List (Addr×Obj))(H:Hp)(b:Addr):Prop :=
 H b=none/\b≠X.env.locals/\b∉X.fs/\(b∈X.ex\/X.s₀.heap.objs.size<=b)/\(∀x c,X.env.cells.lookup x=some c->c≠b)/\∀p∈X.pn++pins,p.1≠b
theorem Inv.fpOk {X:Cx}{pins:List (Addr×Obj)}{σ:St}{H H':Hp}{s:Shared}{b:Addr}(I:Inv X pins σ H s)(hb:s.heap.objs.size<=b)(hn:H' b=none):eA X pins H' b:=by
 refine⟨hn,Nat.ne_of_gt (Nat.lt_of_lt_of_le I.lt hb),I.nofs hb,.inr (Nat.le_trans I.sz hb),λx c e z=>?_,λp hp z=>?_⟩
 ·obtain⟨v,q⟩:=I.cell x c e
  exact absurd (Nat.lt_of_lt_of_le q.lt (by rw[z];exact hb)) (Nat.lt_irrefl _)
 ·exact absurd (Nat.lt_of_lt_of_le (Heap.lt_size (I.pin p hp).1) (by rw[z];exact hb)) (Nat.lt_irrefl _)
structure qp (P:Program)(w:World)(K:Frag)(tg:Expr)(J:It)(fp:List Addr)(it:Addr)(tn:Nat->Heap->Prop):Prop where
 mem:it∈fp
 obj:∀i h,tn i h->∀b∈fp,∃o,h.get? b=some o/\∀v,o.data≠.cell v
 keep:∀i h h',tn i h->(∀b∈fp,∀o,h.get? b=some o->h'.get? b=some o)->tn i h'
 item:∀(X:Cx),X.prog=P->X.w=w->X.K=K->X.calm=true->∀(i:Nat)(pins:List (Addr×Obj))(s:Shared)(σ:St)(H:Hp)(E:Value->Shared->Prop),Inv X pins σ H s->(∀b∈fp,eA X pins H b)->tn i s.heap->J.go i H ->
  wpAny (model P w) X.A (pyNext (.ref it)) (λr s1=>∃u,r=some u /\
   wpAny (model P w) X.A (letOwnedTupleGo tg (.ref it) u) (λ_ s2=>∃x H',Inv X pins σ H' s2/\u7 x u/\J.yld i H x H'/\tn (i+1) s2.heap/\∀b∈fp,H' b=none) E s1) E s
 done:∀(X:Cx),X.prog=P->X.w=w->X.K=K->X.calm=true->∀(i:Nat)(pins:List (Addr×Obj))(s:Shared)(σ:St)(H:Hp)(E:Value->Shared->Prop),Inv X pins σ H s->(∀b∈fp,eA X pins H b)->tn i s.heap->J.stop i H ->
  wpAny (model P w) X.A (pyNext (.ref it)) (λr s1=>r=none/\Inv X pins σ H s1) E s
 self:∀(A:Around)(i:Nat)(s:Shared)(Q:Value->Shared->Prop)(E:Value->Shared->Prop),tn i s.heap->Q (.ref it) s->wpAny (model P w) A (pyIter (.ref it)) Q E s
abbrev TI:=St->Hp->(It->Hp->Prop)->Prop
def PIE (X:Cx)(pins:List (Addr×Obj))(σ:St)(tg:Expr)(R:It->Hp->Prop)(itv:Value)(s2:Shared):Prop :=
 ∃(it:Addr)(fp:List Addr)(tn:Nat->Heap->Prop)(J:It)(H':Hp),itv=.ref it/\Inv X pins σ H' s2/\qp X.prog X.w X.K tg J fp it tn/\tn 0 s2.heap/\(∀b∈fp,eA X pins H' b)/\R J H'
def PI (X:Cx)(tg iter:Expr)(wi:TI):Prop :=
 ∀(pins:List (Addr×Obj))(s:Shared)(σ:St)(H:Hp)(R:It->Hp->Prop),Inv X pins σ H s->wi σ H R ->
  wpAny (model X.prog X.w) X.A (eval iter X.env) (λv s1=>wpAny (model X.prog X.w) X.A (pyIter v) (PIE X pins σ tg R) X.xe s1) X.xe s
def rj {M:Model}{A:Around}{E:Value->Shared->Prop}{s:Shared}{tg:Expr}{it:Addr}{u:Value}{o:Obj}{n:String}{vs:Array Value}{Q:Unit->Shared->Prop}(ho:s.heap.get? it=some o)(hc:o.cls=.type n)(hd:o.data=.fields vs)
    (hn:["enumerate","zip","dict_itemiterator","dict_reverseitemiterator","odict_iterator","itertools.zip_longest","itertools.pairwise"].contains n=false)(hQ:Q () s):wpAny M A (letOwnedTupleGo tg (.ref it) u) Q E s:=by
  unfold letOwnedTupleGo
  cases tg<;>first
    | exact u_ hQ
    | (cases u<;>first
        | exact u_ hQ
        | (refine w_ (wpAny_load ho ?_)
           rw[hc,hd]
           show wpAny M A (if (["enumerate","zip","dict_itemiterator","dict_reverseitemiterator","odict_iterator","itertools.zip_longest","itertools.pairwise"].contains n&&vs[0]?==some (rawInt _))=true then _ else _) Q E s
           rw[if_neg (by intro h;rw[hn,Bool.false_and] at h;cases h)]
           exact u_ hQ))
def Itl (K:Frag)(a:Addr):It :=
 ⟨λi H=>∃xs x,SqL K H a xs/\xs[i]? = some x,λi H x H'=>H'=H/\∀xs,SqL K H a xs->xs[i]? = some x,λi H=>∃xs,SqL K H a xs/\xs.length<=i⟩
def Itt (K:Frag)(a:Addr):It :=
 ⟨λi H=>∃xs x,SqT K H a xs/\xs[i]? = some x,λi H x H'=>H'=H/\∀xs,SqT K H a xs->xs[i]? = some x,λi H=>∃xs,SqT K H a xs/\xs.length<=i⟩
def Itr (lo:Int)(n:Nat):It:=⟨λi _=>i<n,λi H x H'=>H'=H/\x=.int (lo+i),λi _=>n<=i⟩
def qe {P:Program}{w:World}{K:Frag}{tg:Expr}(a it:Addr):qp P w K tg (Itl K a) [it] it (λi h=>h.IsListIter it a i) where
 mem:=by simp
 obj:=λi h st b hb=>by
  have e:b=it:=by simpa using hb
  subst e;obtain⟨o,e,c,d⟩:=st;exact⟨o,e,λv z=>by rw[d] at z;cases z⟩
 keep:=λi h h' st k=>st.at λo e=>k it (by simp) o e
 item:=by
  intro X hP hw hK hc i pins s σ H E I hf st hg
  subst hP hw hK;obtain⟨xs,x,hq,hx⟩:=hg;obtain⟨its,rv,p,hz⟩:=I.list hq;obtain⟨u,hu,ru⟩:=rv.get hx;obtain⟨f0,f1,f2,f3,f4,f5⟩:=hf it (by simp)
  refine wpAny_pyNext_list_item st p.isList (x:=u) (by simpa using hu) λh' st' sb=>?_
  have I1:Inv X pins σ H { s with heap:=h' }:=I.turned (t':=s.toks) (λb o hb e=>(sb.2 b hb).trans e) f0 f1 f3 f4 f5
  obtain⟨o,e,c,d⟩:=id st';exact⟨u,rfl,rj (s:={ s with heap:=h' }) e c d (by decide) ⟨x,H,I1,ru,⟨rfl,λys hy=>by rw[I.list_inj hy hq];exact hx⟩,st',λb hb=>(hf b hb).1⟩⟩
 done:=by
  intro X hP hw hK hc i pins s σ H E I hf st hg
  subst hP hw hK;obtain⟨xs,hq,hx⟩:=hg;obtain⟨its,rv,p,hz⟩:=I.list hq;obtain⟨f0,f1,f2,f3,f4,f5⟩:=hf it (by simp)
  have hl:=rv.length;exact wpAny_pyNext_list_end (I.ok.hd hc) st p.isList (by simp;lia) λh' eb=>⟨rfl,I.turned (t':=s.toks) (λb o hb e=>eb b o hb e) f0 f1 f3 f4 f5⟩
 self:=λ_ _ _ _ _ st h=>wpAny_pyIter_listiter st h
def lI {P:Program}{w:World}{K:Frag}{tg:Expr}(a it:Addr):qp P w K tg (Itt K a) [it] it (λi h=>h.IsTupleIter it a i) where
 mem:=by simp
 obj:=λi h st b hb=>by
  have e:b=it:=by simpa using hb
  subst e;obtain⟨o,e,c,d⟩:=st;exact⟨o,e,λv z=>by rw[d] at z;cases z⟩
 keep:=λi h h' st k=>st.at λo e=>k it (by simp) o e
 item:=by
  intro X hP hw hK hc i pins s σ H E I hf st hg
  subst hP hw hK;obtain⟨xs,x,hq,hx⟩:=hg;obtain⟨its,rv,p,hz⟩:=I.tuple hq;obtain⟨u,hu,ru⟩:=rv.get hx;obtain⟨f0,f1,f2,f3,f4,f5⟩:=hf it (by simp)
  refine wpAny_pyNext_tuple_item st (show s.heap.IsTuple a its.toArray from p) (x:=u) (by simpa using hu) λh' st' sb=>?_
  have I1:Inv X pins σ H { s with heap:=h' }:=I.turned (t':=s.toks) (λb o hb e=>(sb.2 b hb).trans e) f0 f1 f3 f4 f5
  obtain⟨o,e,c,d⟩:=id st';exact⟨u,rfl,rj (s:={ s with heap:=h' }) e c d (by decide) ⟨x,H,I1,ru,⟨rfl,λys hy=>by rw[I.tuple_inj hy hq];exact hx⟩,st',λb hb=>(hf b hb).1⟩⟩
 done:=by
  intro X hP hw hK hc i pins s σ H E I hf st hg
  subst hP hw hK;obtain⟨xs,hq,hx⟩:=hg;obtain⟨its,rv,p,hz⟩:=I.tuple hq;obtain⟨f0,f1,f2,f3,f4,f5⟩:=hf it (by simp)
  have hl:=rv.length;exact wpAny_pyNext_tuple_end (I.ok.hd hc) st (show s.heap.IsTuple a its.toArray from p) (by simp;lia) λh' eb=>⟨rfl,I.turned (t':=s.toks) (λb o hb e=>eb b o hb e) f0 f1 f3 f4 f5⟩
 self:=λ_ _ _ _ _ st h=>wpAny_pyIter_tupleiter st h
def mH {P:Program}{w:World}{K:Frag}{tg:Expr}(it:Addr)(lo:Int)(n:Nat):qp P w K tg (Itr lo n) [it] it (λi h=>IsRangeIter h it (lo+(i:Nat)*1) ((n:Int)-(i:Nat)) 1) where
 mem:=by simp
 obj:=λi h st b hb=>by
  have e:b=it:=by simpa using hb
  subst e
  exact⟨_,st,λv z=>by
   have z':Data.fields _=Data.cell v:=z
   cases z'⟩
 keep:=λi h h' st k=>k it (by simp) _ st
 item:=by
  intro X hP hw hK hc i pins s σ H E I hf st hg
  subst hP hw hK;obtain⟨f0,f1,f2,f3,f4,f5⟩:=hf it (by simp)
  have W:=Walks.range (prog:=X.prog) (w:=X.w) (I.ok.hd hc) it lo 1 n;refine W.item i s _ _ hg st λv h' tk hv st' kk=>?_;obtain⟨t,rfl⟩:=hv;have I1:Inv X pins σ H { s with heap:=h',toks:=tk }:=I.turned (λb o hb e=>kk b o (by simpa using hb) e) f0 f1 f3 f4 f5
  refine⟨_,rfl,rj (s:={ s with heap:=h',toks:=tk }) (n:="range_iterator") st' rfl rfl (by decide) ⟨.int (lo+i),H,I1,⟨t,?_⟩,⟨rfl,rfl⟩,st',λb hb=>(hf b hb).1⟩⟩
  rw[Int.mul_one]
 done:=by
  intro X hP hw hK hc i pins s σ H E I hf st hg
  subst hP hw hK;obtain⟨f0,f1,f2,f3,f4,f5⟩:=hf it (by simp)
  exact wpAny_pyNext_range_end (I.ok.hd hc) st (by have:n<=i:=hg;lia) λh' eb=>⟨rfl,I.turned (t':=s.toks) (λb o hb e=>eb b o hb e) f0 f1 f3 f4 f5⟩
 self:=λ_ _ _ _ _ st h=>wpAny_pyIter_rangeiter st h
section
variable {X:Cx}{tg:Expr}
def vC (K:Frag)(tl:TE):TI:=λσ H R=>tl σ H λx H1=>∃a,x=.ref a/\(∃xs,SqL K H1 a xs)/\R (Itl K a) H1
def xu (K:Frag)(tl:TE):TI:=λσ H R=>tl σ H λx H1=>∃a,x=.ref a/\(∃xs,SqT K H1 a xs)/\R (Itt K a) H1
def uK {l:Expr}{tl:TE}(hl:PE X l tl):PI X tg l (vC X.K tl):=by
 intro pins s σ H R I h
 refine thn (hl pins s σ H _ I h) λv s1 ⟨x,H1,I1,r1,q1⟩=>?_;obtain⟨a,e,⟨xs,hq⟩,q⟩:=q1;subst e
 cases r1
 obtain⟨its,rv,p,hz⟩:=I1.list hq;refine wpAny_pyIter_list p.isList ?_;refine⟨s1.heap.objs.size,[s1.heap.objs.size],_,_,H1,rfl,I1.kept (t':=s1.toks) λb o e=>Heap.get?_push_of_some _ e,qe a _,⟨_,Heap.get?_push_size _ rfl,rfl,rfl⟩,λb hb=>?_,q⟩;have e:b=s1.heap.objs.size:=by simpa using hb
 subst e;exact I1.fpOk (Nat.le_refl _) (I1.hok.fresh (Nat.le_refl _))
def wz {l:Expr}{tl:TE}(hl:PE X l tl):PI X tg l (xu X.K tl):=by
 intro pins s σ H R I h
 refine thn (hl pins s σ H _ I h) λv s1 ⟨x,H1,I1,r1,q1⟩=>?_;obtain⟨a,e,⟨xs,hq⟩,q⟩:=q1;subst e
 cases r1
 obtain⟨its,rv,p,hz⟩:=I1.tuple hq;refine wpAny_pyIter_tuple (show s1.heap.IsTuple a its.toArray from p) ?_;refine⟨s1.heap.objs.size,[s1.heap.objs.size],_,_,H1,rfl,I1.kept (t':=s1.toks) λb o e=>Heap.get?_push_of_some _ e,lI a _,⟨_,Heap.get?_push_size _ rfl,rfl,rfl⟩,λb hb=>?_,q⟩;have e:b=s1.heap.objs.size:=by simpa using hb
 subst e;exact I1.fpOk (Nat.le_refl _) (I1.hok.fresh (Nat.le_refl _))
def rp {pins:List (Addr×Obj)}{σ:St}{H:Hp}{s:Shared}{R:It->Hp->Prop}{E:Value->Shared->Prop}{lo hi:Int}{t u v:Tok}{tk:Nat}(I:Inv X pins σ H s)(h1:-(2^62)<=lo)(h2:lo<2^62)(h3:-(2^62)<=hi)(h4:hi<2^62)
  (q:R (Itr lo (hi-lo).toNat) H):wpAny (model X.prog X.w) X.A (pyIter (.ref s.heap.objs.size)) (PIE X pins σ tg R) E { s with heap:=s.heap.push { cls:=.type "range",data:=.fields #[.int lo t,.int hi u,.int 1 v] },toks:=tk }:=by
 refine wpAny_pyIter_range (IsRange.new ..) (small_one h1 h2 h3 h4) ?_;have I1:Inv X pins σ H { s with heap:=s.heap.push { cls:=.type "range",data:=.fields #[.int lo t,.int hi u,.int 1 v] },toks:=tk }:=I.kept λb o e=>Heap.get?_push_of_some _ e
 refine⟨(s.heap.push { cls:=.type "range",data:=.fields #[.int lo t,.int hi u,.int 1 v] }).objs.size,[(s.heap.push { cls:=.type "range",data:=.fields #[.int lo t,.int hi u,.int 1 v] }).objs.size],_,_,H,rfl,
  I1.kept (t':=tk) λb o e=>Heap.get?_push_of_some _ e,mH _ lo (hi-lo).toNat,?_,λb hb=>?_,q⟩
 ·have e1:lo+((0:Nat):Int)*1=lo:=by simp
  have e2:(((hi-lo).toNat:Nat):Int)-((0:Nat):Int)=Builtin.Range.rangeSize lo hi 1:=by rw[rangeSize_one];split<;>lia
  show IsRangeIter _ _ (lo+((0:Nat):Int)*1) ((((hi-lo).toNat:Nat):Int)-((0:Nat):Int)) 1
  rw[e1,e2];exact Heap.get?_push_size _ rfl
 ·have e:b=(s.heap.push { cls:=.type "range",data:=.fields #[.int lo t,.int hi u,.int 1 v] }).objs.size:=by simpa using hb
  subst e;exact I1.fpOk (Nat.le_refl _) (I1.hok.fresh (Nat.le_refl _))
def xk (ta:TA):TI:=λσ H R=>ta σ H λvs H1=>∃j:Int,vs=[.int j]/\-(2^62)<=j/\j<2^62/\R (Itr 0 j.toNat) H1
theorem D1 {a:Expr}{ta:TA}{p pos:Pos}(hg:Gl X "range")(hm:X.mg "range" = none)(ha:PA X [a] ta)(hs:starEach [a] X.env=[(false,eval a X.env)]:=by rfl):PI X tg (.Call (.Name "range" p) [a] [] pos) (xk ta):=by
 intro pins s σ H R I h
 refine Call_ (aD I hg hm boot_range (PyProof.Rows.callWith_type1 (thn (ha pos pins s σ H _ I h) λus s1 ⟨vs,H1,I1,r1,q1⟩=>?_) hs rfl));obtain⟨j,e,q1,q2,q⟩:=q1;subst e
 cases r1 with
 | cons r rr =>
  cases rr
  obtain⟨t,rfl⟩:=r;exact call_range_1 (rp I1 (by lia) (by lia) q1 q2 (by simpa using q))
def yj (wi:TI)(g:TG)(tb:TS):TS:=λD σ H=>wi σ H λJ H1=>∃W:Nat->Nat->St->Hp->Prop,(∃m,W 0 m σ H1)/\∀i m σ H,W i m σ H ->
 (J.stop i H/\D.nx σ H)\/(J.go i H/\∃N:St->Hp->Prop,(∀σ' H',N σ' H'->∃m',m'<m/\W (i+1) m' σ' H')/\∀x H',J.yld i H x H'->g x σ H' λσ2 H2=>tb { D with nx:=N,ct:=N,bk:=D.nx } σ2 H2)
def X5 (fp:List Addr)(h:Heap):List (Addr×Obj):=fp.filterMap λb=>(h.get? b).map λo=>(b,o)
def U3 {fp:List Addr}{h:Heap}{b:Addr}{o:Obj}(hb:b∈fp)(e:h.get? b=some o):(b,o)∈X5 fp h:=List.mem_filterMap.mpr ⟨b,hb,by rw[e];rfl⟩
theorem fo {fp:List Addr}{h:Heap}{p:Addr×Obj}(hp:p∈X5 fp h):p.1∈fp/\h.get? p.1=some p.2:=by
 obtain⟨b,hb,e⟩:=List.mem_filterMap.mp hp
 cases q:h.get? b with
 | none=>rw[q] at e;cases e
 | some o =>
  rw[q] at e;have e':(b,o)=p:=Option.some.inj e;subst e';exact⟨hb,q⟩
theorem Inv.pinned {pins:List (Addr×Obj)}{σ:St}{H:Hp}{s:Shared}{fp:List Addr}(I:Inv X pins σ H s)(hf:∀b∈fp,eA X pins H b)(ho:∀b∈fp,∃o,s.heap.get? b=some o/\∀v,o.data≠.cell v):Inv X (pins++X5 fp s.heap) σ H s :=
 I.pins_of λp hp=>(mem_append.mp hp).elim (λz=>I.pin p (mem_append_right _ z)) λz=>by
  obtain⟨hb,e⟩:=fo z;obtain⟨f0,f1,f2,_⟩:=hf p.1 hb;obtain⟨o,e',d⟩:=ho p.1 hb;rw[e] at e';cases e';exact⟨e,f0,f1,f2,d⟩
theorem Inv.unpinned {pins pl:List (Addr×Obj)}{σ:St}{H:Hp}{s:Shared}(I:Inv X (pins++pl) σ H s):Inv X pins σ H s:=I.pins_of λp hp=>I.pin p (mem_append_right _ (mem_append_left _ hp))
def A2 {iter:Expr}{body:List Stmt}{wi:TI}{g:TG}{tb:TS}{pos:Pos}(hp:PassesOwn (model X.prog X.w) X.A X.env X.xe)(hc:X.calm=true)(hi:PI X tg iter wi)(hg:PG X tg g)(hb:PSs X body tb)
  (hs:∀x,foldedSetIterable iter X.env x=pure x:=by intro _;rfl):PS X (.For tg iter body [] pos) (yj wi g tb):=by
 intro pins s σ H D I h
 refine wpAny_For (thn (hi pins s σ H _ I h) λv s1 h1=>thn h1 λitv s2 h2=>?_) hs;obtain⟨it,fp,tn,J,H2,e,I2,T,st2,f2,W,⟨m0,w0⟩,turn⟩:=h2;subst e;have stat:∀{H':Hp},(∀b∈fp,H' b=none)->∀b∈fp,eA X pins H' b:=λhn b hb=>⟨hn b hb,(f2 b hb).2⟩;refine codeAny_forLoop_any (λn s'=>∃i σ' H',Inv X pins σ' H' s'/\tn i s'.heap/\(∀b∈fp,H' b=none)/\W i n σ' H') ?_ m0 ⟨0,σ,H2,I2,st2,λb hb=>(f2 b hb).1,w0⟩
 rintro n s3 ⟨i,σ3,H3,I3,st3,fr3,w3⟩
 rcases turn i n σ3 H3 w3 with⟨stop,qn⟩|⟨go,N,hN,step⟩
 ·refine wpAny_passesOwn hp (thn (T.done X rfl rfl rfl hc i pins s3 σ3 H3 X.xe I3 (stat fr3) st3 stop) λr s4 ⟨hr,I4⟩=>?_)
  subst hr;exact wpAny_execs_nil ⟨σ3,H3,I4,qn⟩
 ·refine wpAny_passesOwn hp (thn (T.item X rfl rfl rfl hc i pins s3 σ3 H3 X.xe I3 (stat fr3) st3 go) λr s4 ⟨u,hr,h4⟩=>?_)
  subst hr;refine wpAny_passesOwn hp (thn h4 λ_ s5 ⟨x,H5,I5,r5,y5,st5,fr5⟩=>?_);have I5':=I5.pinned (stat fr5) (T.obj _ _ st5);refine wpAny_passesOwn hp (thn (hg _ s5 σ3 H5 x u _ I5' r5 (step x H5 y5)) λ_ s6 ⟨σ6,H6,I6,q6⟩=>?_);refine wpAny_passesOwn hp (thn (hb _ s6 σ6 H6 _ I6 q6) λf s7 q7=>?_)
  have again:∀{σ7:St}{H7:Hp},Inv X (pins++X5 fp s5.heap) σ7 H7 s7->N σ7 H7->∃m,m<n/\∃i σ' H',Inv X pins σ' H' s7/\tn i s7.heap/\(∀b∈fp,H' b=none)/\W i m σ' H':=λ{σ7 H7} I7 n7=>by
   obtain⟨m',hm,w7⟩:=hN σ7 H7 n7;refine⟨m',hm,i+1,σ7,H7,I7.unpinned,T.keep _ _ _ st5 λb hb o e=>(I7.pin (b,o) (mem_append_right _ (mem_append_right _ (U3 hb e)))).1,λb hb=>?_,w7⟩;obtain⟨o,e,d⟩:=T.obj _ _ st5 b hb;exact(I7.pin (b,o) (mem_append_right _ (mem_append_right _ (U3 hb e)))).2.1
  cases f with
  | next=>obtain⟨σ7,H7,I7,n7⟩:=q7;exact again I7 n7
  | cont=>obtain⟨σ7,H7,I7,n7⟩:=q7;exact again I7 n7
  | brk=>obtain⟨σ7,H7,I7,q7⟩:=q7;exact⟨σ7,H7,I7.unpinned,q7⟩
  | ret v=>obtain⟨x7,σ7,H7,I7,r7,q7⟩:=q7;exact⟨x7,σ7,H7,I7.unpinned,r7,q7⟩
end
def B0 {K:Frag}{a:Addr}{xs:List V}{g:TG}{tb:TS}{D:aI}{σ:St}{H:Hp}(Pv:Nat->St->Hp->Prop)(h0:Pv 0 σ H)(hl:∀i σ H,i<=xs.length->Pv i σ H->SqL K H a xs)
  (hs:∀i x σ H,xs[i]? = some x->Pv i σ H->g x σ H λσ2 H2=>tb { D with nx:=Pv (i+1),ct:=Pv (i+1),bk:=D.nx } σ2 H2)(hd:∀σ H,Pv xs.length σ H->D.nx σ H) :
  ∃W:Nat->Nat->St->Hp->Prop,(∃m,W 0 m σ H)/\∀i m σ H,W i m σ H ->
   ((Itl K a).stop i H/\D.nx σ H)\/((Itl K a).go i H/\∃N:St->Hp->Prop,(∀σ' H',N σ' H'->∃m',m'<m/\W (i+1) m' σ' H')/\∀x H',(Itl K a).yld i H x H'->g x σ H' λσ2 H2=>tb { D with nx:=N,ct:=N,bk:=D.nx } σ2 H2):=by
 refine⟨λi m σ H=>m=xs.length-i/\i<=xs.length/\Pv i σ H,⟨xs.length,by simp,Nat.zero_le _,h0⟩,?_⟩
 rintro i m σ H ⟨rfl,hi,p⟩
 have q:=hl i σ H hi p
 by_cases hlt:i<xs.length
 ·refine .inr ⟨⟨xs,xs[i],q,by simp[hlt]⟩,Pv (i+1),λσ' H' p'=>⟨xs.length-(i+1),by lia,rfl,hlt,p'⟩,λx H' y=>?_⟩
  obtain⟨e,y⟩:=y;subst e;exact hs i x σ _ (y xs q) p
 ·have e:i=xs.length:=by lia
  subst e;exact .inl ⟨⟨xs,q,Nat.le_refl _⟩,hd σ H p⟩
def vc {K:Frag}{a:Addr}{xs:List V}{g:TG}{tb:TS}{D:aI}{σ:St}{H:Hp}(Pv:Nat->St->Hp->Prop)(h0:Pv 0 σ H)(hl:∀i σ H,i<=xs.length->Pv i σ H->SqT K H a xs)
  (hs:∀i x σ H,xs[i]? = some x->Pv i σ H->g x σ H λσ2 H2=>tb { D with nx:=Pv (i+1),ct:=Pv (i+1),bk:=D.nx } σ2 H2)(hd:∀σ H,Pv xs.length σ H->D.nx σ H) :
  ∃W:Nat->Nat->St->Hp->Prop,(∃m,W 0 m σ H)/\∀i m σ H,W i m σ H ->
   ((Itt K a).stop i H/\D.nx σ H)\/((Itt K a).go i H/\∃N:St->Hp->Prop,(∀σ' H',N σ' H'->∃m',m'<m/\W (i+1) m' σ' H')/\∀x H',(Itt K a).yld i H x H'->g x σ H' λσ2 H2=>tb { D with nx:=N,ct:=N,bk:=D.nx } σ2 H2):=by
 refine⟨λi m σ H=>m=xs.length-i/\i<=xs.length/\Pv i σ H,⟨xs.length,by simp,Nat.zero_le _,h0⟩,?_⟩
 rintro i m σ H ⟨rfl,hi,p⟩
 have q:=hl i σ H hi p
 by_cases hlt:i<xs.length
 ·refine .inr ⟨⟨xs,xs[i],q,by simp[hlt]⟩,Pv (i+1),λσ' H' p'=>⟨xs.length-(i+1),by lia,rfl,hlt,p'⟩,λx H' y=>?_⟩
  obtain⟨e,y⟩:=y;subst e;exact hs i x σ _ (y xs q) p
 ·have e:i=xs.length:=by lia
  subst e;exact .inl ⟨⟨xs,q,Nat.le_refl _⟩,hd σ H p⟩
def E5 {lo:Int}{n:Nat}{g:TG}{tb:TS}{D:aI}{σ:St}{H:Hp}(Pv:Nat->St->Hp->Prop)(h0:Pv 0 σ H)
  (hs:∀i σ H,i<n->Pv i σ H->g (.int (lo+i)) σ H λσ2 H2=>tb { D with nx:=Pv (i+1),ct:=Pv (i+1),bk:=D.nx } σ2 H2)(hd:∀σ H,Pv n σ H->D.nx σ H) :
  ∃W:Nat->Nat->St->Hp->Prop,(∃m,W 0 m σ H)/\∀i m σ H,W i m σ H ->
   ((Itr lo n).stop i H/\D.nx σ H)\/((Itr lo n).go i H/\∃N:St->Hp->Prop,(∀σ' H',N σ' H'->∃m',m'<m/\W (i+1) m' σ' H')/\∀x H',(Itr lo n).yld i H x H'->g x σ H' λσ2 H2=>tb { D with nx:=N,ct:=N,bk:=D.nx } σ2 H2):=by
 refine⟨λi m σ H=>m=n-i/\i<=n/\Pv i σ H,⟨n,by simp,Nat.zero_le _,h0⟩,?_⟩
 rintro i m σ H ⟨rfl,hi,p⟩
 by_cases hlt:i<n
 ·refine .inr ⟨hlt,Pv (i+1),λσ' H' p'=>⟨n-(i+1),by lia,rfl,hlt,p'⟩,λx H' y=>?_⟩
  obtain⟨e,y⟩:=y;subst e y;exact hs i σ _ hlt p
 ·have e:i=n:=by lia
  subst e;exact .inl ⟨Nat.le_refl _,hd σ H p⟩
abbrev R2:=V->V->Hp->VK->Prop
def OpR (X:Cx)(f:Value->Value->Sem Value)(r:R2):Prop :=
 ∀(pins:List (Addr×Obj))(s:Shared)(σ:St)(H:Hp)(x y:V)(v u:Value)(Q:VK),Inv X pins σ H s->u7 x v->u7 y u->r x y H Q ->
  wpAny (model X.prog X.w) X.A (f v u) (EP X pins σ Q) X.xe s
def UnR (X:Cx)(f:Value->Sem Value)(r:V->Hp->VK->Prop):Prop :=
 ∀(pins:List (Addr×Obj))(s:Shared)(σ:St)(H:Hp)(x:V)(v:Value)(Q:VK),Inv X pins σ H s->u7 x v->r x H Q ->
  wpAny (model X.prog X.w) X.A (f v) (EP X pins σ Q) X.xe s
def A3 (X:Cx)(f:Value)(r:List V->Hp->VK->Prop):Prop :=
 ∀(pins:List (Addr×Obj))(s:Shared)(σ:St)(H:Hp)(xs:List V)(us:List Value)(Q:VK),Inv X pins σ H s->o9 xs us->r xs H Q ->
  wpAny (model X.prog X.w) X.A (call f us) (EP X pins σ Q) X.xe s
def xS (X:Cx)(r:V->Hp->(Bool->Hp->Prop)->Prop):Prop :=
 ∀(pins:List (Addr×Obj))(s:Shared)(σ:St)(H:Hp)(x:V)(v:Value)(Q:Bool->Hp->Prop),Inv X pins σ H s->u7 x v->r x H Q ->
  wpAny (model X.prog X.w) X.A (truthy v) (TP X pins σ Q) X.xe s
def tOp (r:R2)(ta tb:TE):TE:=λσ H Q=>ta σ H λx H1=>tb σ H1 λy H2=>r x y H2 Q
def tUn (r:V->Hp->VK->Prop)(ta:TE):TE:=λσ H Q=>ta σ H λx H1=>r x H1 Q
def rI (C:Int->Int->Prop)(g:Int->Int->V):R2:=λx y H Q=>∃i j,x=.int i/\y=.int j/\C i j/\Q (g i j) H
def rI0 (g:Int->Int->V):R2:=λx y H Q=>∃i j,x=.int i/\y=.int j/\Q (g i j) H
def rU (g:Int->V):V->Hp->VK->Prop:=λx H Q=>∃i,x=.int i/\Q (g i) H
section
variable {X:Cx}{a b c:Expr}{ta tb tc:TE}{pos:Pos}
def wM (ha:PE X a ta)(hb:PE X b tb){pins:List (Addr×Obj)}{s:Shared}{σ:St}{H:Hp}{R:V->V->Hp->Prop}(I:Inv X pins σ H s)
  (h:ta σ H λx H1=>tb σ H1 λy H2=>R x y H2){Q:Value->Shared->Prop}{f:Value->Value->Sem Value}
  (hf:∀v u s2 x y H2,Inv X pins σ H2 s2->u7 x v->u7 y u->R x y H2->wpAny (model X.prog X.w) X.A (f v u) Q X.xe s2) :
  wpAny (model X.prog X.w) X.A (eval a X.env) (λv s₁=>wpAny (model X.prog X.w) X.A (eval b X.env) (λu s₂=>wpAny (model X.prog X.w) X.A (f v u) Q X.xe s₂) X.xe s₁) X.xe s:=by
 refine thn (ha pins s σ H _ I h) λv s1 ⟨x,H1,I1,r1,q1⟩=>?_;refine thn (hb pins s1 σ H1 _ I1 q1) λu s2 ⟨y,H2,I2,r2,q2⟩=>?_;exact hf v u s2 x y H2 I2 r1 r2 q2
def i7 {op:Operator}{r:R2}(ho:OpR X (binaryOp op) r)(ha:PE X a ta)(hb:PE X b tb):PE X (.BinOp a op b pos) (tOp r ta tb):=by
 intro pins s σ H Q I h
 exact wpAny_BinOp (wM ha hb I h λv u s2 x y H2 I2 rx ry q=>ho pins s2 σ H2 x y v u Q I2 rx ry q)
def fi {op:UnaryOp}{r:V->Hp->VK->Prop}(ho:UnR X (unaryOp op) r)(ha:PE X a ta):PE X (.UnaryOp op a pos) (tUn r ta):=by
 intro pins s σ H Q I h
 exact UnaryOp_ (thn (ha pins s σ H _ I h) λv s1 ⟨x,H1,I1,r1,q1⟩=>ho pins s1 σ H1 x v Q I1 r1 q1)
def opI {f:Value->Value->Sem Value}{C:Int->Int->Prop}{g:Int->Int->Int}
  (rule:∀(i j:Int)(t u:Tok)(s:Shared)(Q:Value->Shared->Prop)(E:Value->Shared->Prop),C i j->Q (.int (g i j) s.toks) { s with toks:=s.toks+1 }->wpAny (model X.prog X.w) X.A (f (.int i t) (.int j u)) Q E s) :
  OpR X f (rI C λi j=>.int (g i j)):=by
 intro pins s σ H x y v u Q I rx ry h
 obtain⟨i,j,rfl,rfl,hc,q⟩:=h;obtain⟨t,rfl⟩:=rx;obtain⟨t',rfl⟩:=ry;exact rule i j t t' s _ _ hc ⟨.int (g i j),H,I.tok _,⟨_,rfl⟩,q⟩
def uh {f:Value->Value->Sem Value}{g:Int->Int->Int}
  (rule:∀(i j:Int)(t u:Tok)(s:Shared)(Q:Value->Shared->Prop)(E:Value->Shared->Prop),Q (.int (g i j) s.toks) { s with toks:=s.toks+1 }->wpAny (model X.prog X.w) X.A (f (.int i t) (.int j u)) Q E s) :
  OpR X f (rI0 λi j=>.int (g i j)):=by
 intro pins s σ H x y v u Q I rx ry h
 obtain⟨i,j,rfl,rfl,q⟩:=h;obtain⟨t,rfl⟩:=rx;obtain⟨t',rfl⟩:=ry;exact rule i j t t' s _ _ ⟨.int (g i j),H,I.tok _,⟨_,rfl⟩,q⟩
def wS {f:Value->Value->Sem Value}{g:Int->Int->Bool}
  (rule:∀(i j:Int)(t u:Tok)(s:Shared)(Q:Value->Shared->Prop)(E:Value->Shared->Prop),Q (.bool (g i j)) s->wpAny (model X.prog X.w) X.A (f (.int i t) (.int j u)) Q E s) :
  OpR X f (rI0 λi j=>.bl (g i j)):=by
 intro pins s σ H x y v u Q I rx ry h
 obtain⟨i,j,rfl,rfl,q⟩:=h;obtain⟨t,rfl⟩:=rx;obtain⟨t',rfl⟩:=ry;exact rule i j t t' s _ _ ⟨.bl (g i j),H,I,rfl,q⟩
def xw (i j:Int):Prop:=0<j/\j<1073741824
def xW (i j:Int):Prop:=0<=j/\j<=1000000/\i.natAbs<2^64
def vP (i j:Int):Prop:=(-(2^64)<i/\i<2^64)\/(-(2^64)<j/\j<2^64)
theorem vP.ok {i j:Int}(h:vP i j):IntMulOk i j:=by
 rcases h with⟨h1,h2⟩|⟨h1,h2⟩
 ·exact .of_left (intBits_le_64 h1 h2)
 ·exact .of_right (intBits_le_64 h1 h2)
def lC (k:Nat):(0:Int)<=2^k:=by
 rw[two_pow_cast];exact Int.natCast_nonneg _
def L6:OpR X (binaryOp .Add) (rI0 λi j=>.int (i+j)):=uh λ_ _ _ _ _ _ _ q=>add_int q
def bL:OpR X (binaryOp .Sub) (rI0 λi j=>.int (i-j)):=uh λ_ _ _ _ _ _ _ q=>sub_int q
def r6:OpR X (binaryOp .Mult) (rI vP λi j=>.int (i*j)):=opI λ_ _ _ _ _ _ _ hc q=>mul_int q hc.ok
def U5:OpR X (binaryOp .FloorDiv) (rI xw λi j=>.int (i/j)):=opI λi j _ _ _ _ _ hc q=>by
 have h1:(0:Int)<j:=hc.1;have h2:j<1073741824:=hc.2;exact floordiv_int (by lia) (by rw[Int.fdiv_eq_ediv_of_nonneg i (by lia)];exact q) (.inl (PyProof.noPylong_small (by lia)))
def o7:OpR X (binaryOp .Mod) (rI (λ_ j=>0<j) λi j=>.int (i%j)):=opI λi j _ _ _ _ _ hc q=>by
 have h1:(0:Int)<j:=hc;exact mod_int' (by lia) (by rw[Int.fmod_eq_emod_of_nonneg i (by lia)];exact q)
def mO:OpR X (binaryOp .Pow) (rI xW λi j=>.int (i^j.toNat)):=opI λ_ _ _ _ _ _ _ hc q=>pow_int_small hc.1 hc.2.1 hc.2.2 q
def cQ:OpR X (binaryOp .LShift) (rI xW λi j=>.int (i*2^j.toNat)):=opI λ_ _ _ _ _ _ _ hc q=>lshift_int_small hc.1 hc.2.1 hc.2.2 q
def iw:OpR X (binaryOp .RShift) (rI (λ_ j=>0<=j) λi j=>.int (i/2^j.toNat)):=opI λi j _ _ _ _ _ hc q =>
 rshift_int hc (by rw[Int.fdiv_eq_ediv_of_nonneg i (lC _)];exact q)
def iK:OpR X (binaryOp .BitAnd) (rI0 λi j=>.int (Builtin.bitAnd i j)):=uh λ_ _ _ _ _ _ _ q=>and_int q
def wm:OpR X (inplaceOp .BitOr) (rI0 λi j=>.int (Builtin.bitOr i j)):=uh λ_ _ _ _ _ _ _ q=>ior_int q
def unI {f:Value->Sem Value}{g:Int->Int}
  (rule:∀(i:Int)(t:Tok)(s:Shared)(Q:Value->Shared->Prop)(E:Value->Shared->Prop),Q (.int (g i) s.toks) { s with toks:=s.toks+1 }->wpAny (model X.prog X.w) X.A (f (.int i t)) Q E s) :
  UnR X f (rU λi=>.int (g i)):=by
 intro pins s σ H x v Q I rx h
 obtain⟨i,rfl,q⟩:=h;obtain⟨t,rfl⟩:=rx;exact rule i t s _ _ ⟨.int (g i),H,I.tok _,⟨_,rfl⟩,q⟩
def bQ:UnR X (unaryOp .USub) (rU λi=>.int (-i)):=unI λ_ _ _ _ _ q=>neg_int q
end
def xl:V->V->Bool
 | .non,.non=>true | .non,.int _=>true | .int _,.non=>true | .non,.bl _=>true | .bl _,.non=>true | .non,.str _=>true | .str _,.non=>true
 | .int _,.int _=>true | .bl _,.bl _=>true | .str _,.str _=>true | .byt _,.byt _=>true
 | .int _,.str _=>true | .str _,.int _=>true | .bl _,.str _=>true | .str _,.bl _=>true
 | _,_=>false
def rEq:R2:=λx y H Q=>xl x y=true/\Q (.bl (decide (x=y))) H
def rNe:R2:=λx y H Q=>xl x y=true/\Q (.bl (!decide (x=y))) H
def oq {i j:Int}:decide (V.int i=V.int j)=(i==j):=by
 rw[Bool.eq_iff_iff]
 simp
def sd {i j:Bool}:decide (V.bl i=V.bl j)=(i==j):=by
 rw[Bool.eq_iff_iff]
 simp
def oj {i j:Str}:decide (V.str i=V.str j)=(i==j):=by
 rw[Bool.eq_iff_iff]
 simp
def nv {i j:Array UInt8}:decide (V.byt i=V.byt j)=(i.toList==j.toList):=by
 rw[Bool.eq_iff_iff]
 cases i
 cases j
 simp
section
variable {X:Cx}{a b c:Expr}{ta tb tc:TE}{pos:Pos}
def y6 {pins:List (Addr×Obj)}{σ:St}{H:Hp}{s:Shared}{Q:VK}{k k':Bool}(I:Inv X pins σ H s)(q:Q (.bl k) H)(e:k=k'):EP X pins σ Q (.bool k') s:=by
 subst e;exact⟨.bl k,H,I,rfl,q⟩
theorem C7:OpR X (compareOp .Eq) rEq:=by
 intro pins s σ H x y v u Q I rx ry h
 obtain⟨hs,q⟩:=h
 cases x with
 | non =>
  cases rx
  cases y with
  | non=>cases ry;exact PySem.EqNone.eq_none_none (y6 I q (by simp))
  | bl j=>cases ry;exact PySem.EqNone.eq_none_bool (y6 I q (by simp))
  | int j=>obtain⟨t',rfl⟩:=ry;exact PySem.EqNone.eq_none_int (y6 I q (by simp))
  | str j=>obtain⟨t',rfl⟩:=ry;exact PySem.EqNone.eq_none_str (y6 I q (by simp))
  | _=>exact absurd (show false=true from hs) Bool.false_ne_true
 | bl i =>
  cases rx
  cases y with
  | non=>cases ry;exact PySem.EqNone.eq_bool_none (y6 I q (by simp))
  | bl j=>cases ry;exact eq_bool (y6 I q sd)
  | str j=>obtain⟨t',rfl⟩:=ry;exact PySem.EqMixed.eq_bool_str (y6 I q (by simp))
  | _=>exact absurd (show false=true from hs) Bool.false_ne_true
 | int i =>
  obtain⟨t,rfl⟩:=rx
  cases y with
  | non=>cases ry;exact PySem.EqNone.eq_int_none (y6 I q (by simp))
  | int j=>obtain⟨t',rfl⟩:=ry;exact eq_int (y6 I q oq)
  | str j=>obtain⟨t',rfl⟩:=ry;exact PySem.EqMixed.eq_int_str (y6 I q (by simp))
  | _=>exact absurd (show false=true from hs) Bool.false_ne_true
 | str i =>
  obtain⟨t,rfl⟩:=rx
  cases y with
  | non=>cases ry;exact PySem.EqNone.eq_str_none (y6 I q (by simp))
  | bl j=>cases ry;exact PySem.EqMixed.eq_str_bool (y6 I q (by simp))
  | int j=>obtain⟨t',rfl⟩:=ry;exact PySem.EqMixed.eq_str_int (y6 I q (by simp))
  | str j=>obtain⟨t',rfl⟩:=ry;exact eq_str (y6 I q oj)
  | _=>exact absurd (show false=true from hs) Bool.false_ne_true
 | byt i =>
  obtain⟨t,rfl⟩:=rx
  cases y with
  | byt j=>obtain⟨t',rfl⟩:=ry;exact PySem.W.eq_bytes (y6 I q nv)
  | _=>exact absurd (show false=true from hs) Bool.false_ne_true
 | _=>cases y<;>exact absurd (show false=true from hs) Bool.false_ne_true
theorem jg:OpR X (compareOp .NotEq) rNe:=by
 intro pins s σ H x y v u Q I rx ry h
 obtain⟨hs,q⟩:=h
 cases x with
 | non =>
  cases rx
  cases y with
  | non=>cases ry;exact PySem.EqNone.ne_none_none (y6 I q (by simp))
  | bl j=>cases ry;exact PySem.EqNone.ne_none_bool (y6 I q (by simp))
  | int j=>obtain⟨t',rfl⟩:=ry;exact PySem.EqNone.ne_none_int (y6 I q (by simp))
  | str j=>obtain⟨t',rfl⟩:=ry;exact PySem.EqNone.ne_none_str (y6 I q (by simp))
  | _=>exact absurd (show false=true from hs) Bool.false_ne_true
 | bl i =>
  cases rx
  cases y with
  | non=>cases ry;exact PySem.EqNone.ne_bool_none (y6 I q (by simp))
  | bl j=>cases ry;exact ne_bool (y6 I q (congrArg not sd))
  | str j=>obtain⟨t',rfl⟩:=ry;exact PySem.EqMixed.ne_bool_str (y6 I q (by simp))
  | _=>exact absurd (show false=true from hs) Bool.false_ne_true
 | int i =>
  obtain⟨t,rfl⟩:=rx
  cases y with
  | non=>cases ry;exact PySem.EqNone.ne_int_none (y6 I q (by simp))
  | int j=>obtain⟨t',rfl⟩:=ry;exact ne_int (y6 I q (congrArg not oq))
  | str j=>obtain⟨t',rfl⟩:=ry;exact PySem.EqMixed.ne_int_str (y6 I q (by simp))
  | _=>exact absurd (show false=true from hs) Bool.false_ne_true
 | str i =>
  obtain⟨t,rfl⟩:=rx
  cases y with
  | non=>cases ry;exact PySem.EqNone.ne_str_none (y6 I q (by simp))
  | bl j=>cases ry;exact PySem.EqMixed.ne_str_bool (y6 I q (by simp))
  | int j=>obtain⟨t',rfl⟩:=ry;exact PySem.EqMixed.ne_str_int (y6 I q (by simp))
  | str j=>obtain⟨t',rfl⟩:=ry;exact ne_str (y6 I q (congrArg not oj))
  | _=>exact absurd (show false=true from hs) Bool.false_ne_true
 | byt i =>
  obtain⟨t,rfl⟩:=rx
  cases y with
  | byt j=>obtain⟨t',rfl⟩:=ry;exact PySem.W.ne_bytes (y6 I q (congrArg not nv))
  | _=>exact absurd (show false=true from hs) Bool.false_ne_true
 | _=>cases y<;>exact absurd (show false=true from hs) Bool.false_ne_true
def cU:OpR X (compareOp .Lt) (rI0 λi j=>.bl (decide (i<j))):=wS λ_ _ _ _ _ _ _ q=>lt_int q
def oH:OpR X (compareOp .LtE) (rI0 λi j=>.bl (decide (i<=j))):=wS λ_ _ _ _ _ _ _ q=>le_int q
def xL:OpR X (compareOp .GtE) (rI0 λi j=>.bl (decide (j<=i))):=wS λ_ _ _ _ _ _ _ q=>ge_int q
def X0:OpR X (compareOp .Is) (λx y H Q=>y=.non/\Q (.bl (decide (x=.non))) H):=by
 intro pins s σ H x y v u Q I rx ry h
 obtain⟨rfl,q⟩:=h
 cases ry
 refine is_none_gen (y6 I q ?_)
 cases x<;>first
  | (cases rx;rfl)
  | (obtain⟨t,rfl⟩:=rx;rfl)
def T9:OpR X (compareOp .IsNot) (λx y H Q=>y=.non/\Q (.bl (!decide (x=.non))) H):=by
 intro pins s σ H x y v u Q I rx ry h
 obtain⟨rfl,q⟩:=h
 cases ry
 refine isnot_none_gen (y6 I q ?_)
 cases x<;>first
  | (cases rx;rfl)
  | (obtain⟨t,rfl⟩:=rx;rfl)
def m3 (b:Expr){op:CmpOp}(h:op≠.In:=by decide)(h2:op≠.NotIn:=by decide):behindInMarks op b=false:=by
 have e1:(op==CmpOp.In)=false:=by cases op<;>first|rfl|exact absurd rfl h
 have e2:(op==CmpOp.NotIn)=false:=by cases op<;>first|rfl|exact absurd rfl h2
 cases b<;>simp[behindInMarks,e1,e2]
def J5 {op:CmpOp}{r:R2}(ho:OpR X (compareOp op) r)(ha:PE X a ta)(hb:PE X b tb)(hm:behindInMarks op b=false):PE X (.Compare a [op] [b] pos) (tOp r ta tb):=by
 intro pins s σ H Q I h
 exact wpAny_Compare1 (wM ha hb I h λv u s2 x y H2 I2 rx ry q=>ho pins s2 σ H2 x y v u Q I2 rx ry q) hm
def sU (t:TE):TT:=λσ H Q=>t σ H λx H'=>∃k,x=.bl k/\Q k H'
def k9 {op:CmpOp}{r:R2}(ho:OpR X (compareOp op) r)(ha:PE X a ta)(hb:PE X b tb)(hm:behindInMarks op b=false):PT X (.Compare a [op] [b] pos) (sU (tOp r ta tb)):=by
 intro pins s σ H Q I h
 refine wpAny_isTrue_Compare1 (thn (ha pins s σ H _ I h) λv s1 ⟨x,H1,I1,r1,q1⟩=>thn (hb pins s1 σ H1 _ I1 q1) λu s2 ⟨y,H2,I2,r2,q2⟩ =>
  thn (ho pins s2 σ H2 x y v u _ I2 r1 r2 q2) λc s3 ⟨z,H3,I3,r3,k,e,q3⟩=>?_) hm
 subst e
 cases r3
 exact wpAny_truthy_bool ⟨H3,I3,q3⟩
def sy (r r':R2)(ta tb tc:TE):TE:=λσ H Q=>ta σ H λx H1=>tb σ H1 λy H2=>r x y H2 λz H3=>∃k,z=.bl k /\
 (if k=true then tc σ H3 λw' H4=>r' y w' H4 Q else Q (.bl false) H3)
theorem kC {op op':CmpOp}{r r':R2}(ho:OpR X (compareOp op) r)(ho':OpR X (compareOp op') r')(ha:PE X a ta)(hb:PE X b tb)(hc:PE X c tc)
  (hm:lastMarks [op,op'] [b,c]=false:=by with_unfolding_all rfl):PE X (.Compare a [op,op'] [b,c] pos) (sy r r' ta tb tc):=by
 intro pins s σ H Q I h
 refine Compare_chain (thn (ha pins s σ H _ I h) λv s1 ⟨x,H1,I1,r1,q1⟩=>chain_link (thn (hb pins s1 σ H1 _ I1 q1) λu s2 ⟨y,H2,I2,r2,q2⟩ =>
  thn (ho pins s2 σ H2 x y v u _ I2 r1 r2 q2) λd s3 ⟨z,H3,I3,r3,k,e,q3⟩=>?_)) hm
 subst e
 cases r3
 refine wpAny_truthy_bool ?_
 cases k with
 | false=>exact ite_ff ⟨.bl false,H3,I3,rfl,q3⟩
 | true=>exact ite_tt (chain_last (thn (hc pins s3 σ H3 _ I3 q3) λw' s4 ⟨z',H4,I4,r4,q4⟩=>ho' pins s4 σ H4 y z' u w' Q I4 r2 r4 q4))
theorem qS {op op':CmpOp}{r r':R2}(ho:OpR X (compareOp op) r)(ho':OpR X (compareOp op') r')(ha:PE X a ta)(hb:PE X b tb)(hc:PE X c tc)
  (hm:lastMarks [op,op'] [b,c]=false:=by with_unfolding_all rfl):PT X (.Compare a [op,op'] [b,c] pos) (sU (sy r r' ta tb tc)):=by
 intro pins s σ H Q I h
 refine isTrue_chain (thn (ha pins s σ H _ I h) λv s1 ⟨x,H1,I1,r1,q1⟩=>test_link (thn (hb pins s1 σ H1 _ I1 q1) λu s2 ⟨y,H2,I2,r2,q2⟩ =>
  thn (ho pins s2 σ H2 x y v u _ I2 r1 r2 q2) λd s3 ⟨z,H3,I3,r3,k,e,q3⟩=>?_)) hm
 subst e
 cases r3
 refine wpAny_truthy_bool ?_
 cases k with
 | false =>
  obtain⟨k',e',q'⟩:=q3
  cases e'
  exact ite_ff ⟨H3,I3,q'⟩
 | true =>
  refine ite_tt (test_last (thn (hc pins s3 σ H3 _ I3 q3) λw' s4 ⟨z',H4,I4,r4,q4⟩=>thn (ho' pins s4 σ H4 y z' u w' _ I4 r2 r4 q4) λd' s5 ⟨z2,H5,I5,r5,k2,e2,q5⟩=>?_));subst e2
  cases r5
  exact wpAny_truthy_bool ⟨H5,I5,q5⟩
def wJ (K:Frag)(x:V)(H:Hp)(k:Bool):Prop :=
 match x with
 | .non=>k=false
 | .bl b=>k=b
 | .int i=>k=(i != 0)
 | .str y=>y.length<=sizeLine/\k=((y.length:Int) != 0)
 | .byt y=>y.size<=sizeLine/\k=((y.size:Int) != 0)
 | .ref p=>(∃xs,SqL K H p xs/\k = !xs.isEmpty)\/(∃xs,SqT K H p xs/\k = !xs.isEmpty)\/∃kvs,H p=some (.dK kvs)/\k = !kvs.isEmpty
 | _=>False
def mV {κ:Type}{kvs:List (κ×V)}{vs:List (κ×Value)}(r:KV kvs vs):(!vs.isEmpty) = !kvs.isEmpty:=by
 cases r<;>rfl
def dj {xs:List V}{its:List Value}(r:o9 xs its):(!its.toArray.isEmpty) = !xs.isEmpty:=by
 cases r<;>simp
def X2:(sizeLine:Nat)<2^63:=by rw[sizeLine_eq];decide
theorem wc:xS X (λx H Q=>∃k,wJ X.K x H k/\Q k H):=by
 intro pins s σ H x v Q I rx h
 obtain⟨k,e,q⟩:=h;have hl:=X2;have hs:sizeLine=16777216:=sizeLine_eq
 cases x with
 | non =>
  cases rx
  have e':k=false:=e;subst e';exact truthy_none ⟨H,I,q⟩
 | bl b =>
  cases rx
  have e':k=b:=e;subst e';exact wpAny_truthy_bool ⟨H,I,q⟩
 | int i =>
  obtain⟨t,rfl⟩:=rx;have e':k=(i != 0):=e;subst e';exact PySem.P.truthy_int ⟨H,I,q⟩
 | str y =>
  obtain⟨t,rfl⟩:=rx;obtain⟨hy,e'⟩:y.length<=sizeLine/\k=((y.length:Int) != 0):=e;subst e';exact PySem.P.truthy_str (by lia) ⟨H,I.tok _,q⟩
 | byt y =>
  obtain⟨t,rfl⟩:=rx;obtain⟨hy,e'⟩:y.size<=sizeLine/\k=((y.size:Int) != 0):=e;subst e';exact PySem.W.truthy_bytes (by lia) ⟨H,I.tok _,q⟩
 | ref p =>
  cases rx
  have e':(∃xs,SqL X.K H p xs/\k = !xs.isEmpty)\/(∃xs,SqT X.K H p xs/\k = !xs.isEmpty)\/∃kvs,H p=some (.dK kvs)/\k = !kvs.isEmpty:=e
  rcases e' with⟨xs,hx,e'⟩|⟨xs,hx,e'⟩|⟨kvs,hx,e'⟩
  ·subst e'
   obtain⟨its,r,pl,hz⟩:=I.list hx;have hlen:=r.length;exact wpAny_truthy_list pl.isList (by simp only[size_toArray];lia) ⟨H,I.tok _,by rw[dj r];exact q⟩
  ·subst e'
   obtain⟨its,r,pl,hz⟩:=I.tuple hx;have hlen:=r.length;exact truthy_tuple pl (by simp only[size_toArray];lia) ⟨H,I.tok _,by rw[dj r];exact q⟩
  ·subst e'
   obtain⟨hz,hS,vs,r,m⟩:kvs.length<=sizeLine/\(p==sysModules)=false/\∃vs,KV kvs vs/\s.heap.DictOf (E1 X.prog X.w) p vs:=I.hok p _ hx;have hlen:kvs.length=vs.length:=Paired.length r;exact wpAny_truthy_dict hS m (by lia) ⟨H,I.tok _,by rw[mV r];exact q⟩
 | _=>exact(show False from e).elim
def rA (ha:PE X a ta)(he:∀whole,isTrue a X.env whole=(do let v <- whole;standAt a.pos;holding [v] (truthy v))) :
  PT X a (λσ H Q=>ta σ H λx H'=>∃k,wJ X.K x H' k/\Q k H'):=by
 intro pins s σ H Q I h
 exact isTrue_plain (thn (ha pins s σ H _ I h) λv s1 ⟨x,H1,I1,r1,q1⟩=>wc pins s1 σ H1 x v Q I1 r1 q1) (he _)
theorem M3 {x:V}{us:List Value}(r:o9 [x] us):∃u,us=[u]/\u7 x u:=by
 cases r with
 | cons r1 r2=>cases r2;exact⟨_,rfl,r1⟩
theorem dq {x y:V}{us:List Value}(r:o9 [x,y] us):∃u w',us=[u,w']/\u7 x u/\u7 y w':=by
 cases r with
 | cons r1 r2 =>
  cases r2 with
  | cons r3 r4=>cases r4;exact⟨_,_,rfl,r1,r3⟩
def rk:A3 X (.builtin "abs") (λxs H Q=>∃i,xs=[.int i]/\Q (.int (if i<0 then -i else i)) H):=by
 intro pins s σ H xs us Q I r h
 obtain⟨i,rfl,q⟩:=h;obtain⟨u,rfl,t,rfl⟩:=M3 r;exact call_abs_int λu tk=>⟨.int (if i<0 then -i else i),H,I.tok _,⟨_,rfl⟩,q⟩
def fD (hc:X.calm=true):A3 X (.builtin "min") (λxs H Q=>∃i j,xs=[.int i,.int j]/\Q (.int (if j<i then j else i)) H):=by
 intro pins s σ H xs us Q I r h
 obtain⟨i,j,rfl,q⟩:=h;obtain⟨u,w',rfl,⟨t,rfl⟩,⟨t',rfl⟩⟩:=dq r;refine min_two_ints (I.ok.hd hc) λh' tk k=>⟨_,H,I.kept k,?_,q⟩
 by_cases hj:j<i
 ·rw[if_pos hj,if_pos hj];exact⟨_,rfl⟩
 ·rw[if_neg hj,if_neg hj];exact⟨_,rfl⟩
def qD:A3 X (.type "int") (λxs H Q=>(∃i,xs=[.int i]/\Q (.int i) H)\/∃k,xs=[.bl k]/\Q (.int (if k then 1 else 0)) H):=by
 intro pins s σ H xs us Q I r h
 rcases h with⟨i,rfl,q⟩|⟨k,rfl,q⟩
 ·obtain⟨u,rfl,t,rfl⟩:=M3 r
  exact call_int_int ⟨.int i,H,I,⟨_,rfl⟩,q⟩
 ·obtain⟨u,rfl,r1⟩:=M3 r
  cases r1
  exact call_int_bool ⟨.int (if k then 1 else 0),H,I.tok _,⟨_,rfl⟩,q⟩
def bV:A3 X (.builtin "divmod") (λxs H Q=>∃i j,xs=[.int i,.int j]/\xw i j/\∀p,H p=none->Q (.ref p) (upd H p (.tup [.int (i/j),.int (i%j)]))):=by
 intro pins s σ H xs us Q I r h
 obtain⟨i,j,rfl,⟨h1,h2⟩,q⟩:=h;obtain⟨u,w',rfl,⟨t,rfl⟩,⟨t',rfl⟩⟩:=dq r;refine divmod_int (by lia) ?_ (.inl (PyProof.noPylong_small (by lia)))
 rw[Int.fdiv_eq_ediv_of_nonneg i (by lia),Int.fmod_eq_emod_of_nonneg i (by lia)]
 have hn:H s.heap.objs.size=none:=I.hok.fresh (Nat.le_refl _);refine⟨.ref s.heap.objs.size,_,?_,rfl,q _ hn⟩;refine I.laid (λb o e=>Heap.get?_push_of_some _ e) (Nat.le_refl _) ⟨by simp only[length_cons,length_nil];rw[sizeLine_eq];decide,[.int (i/j) s.toks,.int (i%j) (s.toks+1)],.cons ⟨_,rfl⟩ (.cons ⟨_,rfl⟩ .nil),?_⟩
 exact⟨_,Heap.get?_push_size s.heap rfl,rfl,0,rfl⟩
end
structure wP (h:Heap)(x dx C:Addr)(mA:Str->Option Value):Prop where
 obj:h.get? x=some (PySem.W.instObj C dx)
 ns:h.Ns1 dx mA
 ne:dx≠x
def bC {h:Heap}{dx:Addr}{mA:Str->Option Value}(n:h.Ns1 dx mA):∃od,h.get? dx=some od/\∀name,PySem.W.lookIn name od=some (mA name):=by
 obtain⟨o,es,ep,ho,hd,hk,_,hm⟩:=n;refine⟨o,ho,λname=>?_⟩;have e:=hm name;unfold nsFind findBy at e;rw[<- Array.find?_toList] at e;unfold PySem.W.lookIn;rw[hd]
 dsimp only
 split
 ·rename_i y q
  rw[q] at e;exact congrArg some e
 ·rename_i q
  rw[q] at e
  have a:es.toList.any (·.refKey)=false:=by
   rw[List.any_eq_false]
   intro y hy
   obtain⟨z,t,hkey⟩:=hk y (Array.mem_toList_iff.mp hy)
   simp[DictEntry.refKey,hkey]
  have a':¬es.toList.any (·.refKey)=true:=by rw[a];exact Bool.false_ne_true
  rw[if_neg a'];exact congrArg some e
theorem wP.look {h:Heap}{x dx C:Addr}{mA:Str->Option Value}(I:wP h x dx C mA):∃od,PySem.W.InstAt h x (PySem.W.instObj C dx) C (some od)/\∀name,PySem.W.lookIn name od=some (mA name) :=
 let ⟨od,ho,hl⟩:=bC I.ns
 ⟨od,⟨I.obj,rfl,rfl,ho⟩,hl⟩
theorem aZ.some_of {v:V}{o:Option Value}(r:aZ (some v) o):∃u,o=some u/\u7 v u:=by
 cases o with
 | none=>exact(show False from r).elim
 | some u=>exact⟨u,rfl,r⟩
theorem qb {v:V}{u:Value}(r:u7 v u):PySem.W.handedIn u=true:=by
 cases v with
 | non=>cases (show u=Value.none from r);rfl
 | bl b=>cases (show u=Value.bool b from r);rfl
 | int i=>obtain⟨t,e⟩:=(show ∃t,u=Value.int i t from r);cases e;rfl
 | str x=>obtain⟨t,e⟩:=(show ∃t,u=Value.str x t from r);cases e;rfl
 | byt b=>obtain⟨t,e⟩:=(show ∃t,u=Value.bytes b t from r);cases e;rfl
 | flt b=>obtain⟨t,e⟩:=(show ∃t,u=Value.float b t from r);cases e;rfl
 | ref a=>cases (show u=Value.ref a from r);rfl
 | ty n=>cases (show u=Value.type n from r);rfl
section
variable {P:Program}{w:World}{H H':Hp}{h h':Heap}{a C dx:Addr}{fs fs':List (Str×V)}
def ow (hok:HOk P w H h)(e:H a=some (.ins C dx fs)):∃mA,wP h a dx C mA/\(∀f,aZ (fs.lookup f) (mA f))/\PySem.Within mA (fs.map (·.1))/\fs.length<=1000/\H dx=some (.own a):=by
 obtain⟨d,z,ne,ob,mA,n,r,q⟩:=(show r9 P w H h a (.ins C dx fs) from hok a _ e);exact⟨mA,⟨ob,n,ne⟩,r,q,z,d⟩
end
structure Cls (K:Frag)(C:Addr):Prop where
 pg:PySem.W.plainGet K C Str.empty=true
 hd:PySem.W.hasDictIn K C=true
 po:PySem.W.plainOver K C=true
 sa:findIn K (.ref C) "__setattr__" = some (some (.builtin "object.__setattr__"))
theorem Cls.get {K:Frag}{C:Addr}(c:Cls K C)(f:Str):PySem.W.plainGet K C f=true:=c.pg
structure xX (K:Frag)(C:Addr)(m:Str)(f:Addr):Prop where
 at_:findIn K (.ref C) m=some (some (.ref f))
 fn:PySem.W.isFn K (.ref f)=true
 kp:keepIn K (.ref f)=true
section
variable {X:Cx}{pins:List (Addr×Obj)}{σ:St}{H:Hp}{s:Shared}{a C dx:Addr}{fs:List (Str×V)}{f:Str}{v:V}{A:Around}{E:Value->Shared->Prop}
def ve {prog:Program}{w:World}{env:Env}{e:Expr}{f:Str}{pos:Pos}{s:Shared}{Q:Value->Shared->Prop}(hb:attributeBase e f env (eval e env)=eval e env)
  (h:wpAny (model prog w) A (eval e env) (λo s₁=>wpAny (model prog w) A (getAttr o f true) Q E s₁) E s):wpAny (model prog w) A (eval (.Attribute e f pos) env) Q E s :=
 Attribute_any_ h (by rw[arm_eval_Attribute,hb])
end
section
variable {X:Cx}{pins:List (Addr×Obj)}{σ:St}{H:Hp}{s:Shared}{A:Around}{E:Value->Shared->Prop}{Q:Value->Shared->Prop}{c:Value}{b:Bool}
inductive N7 (K:Frag)(H:Hp):V->Value->Prop where
 | non:N7 K H .non (.type "NoneType")
 | bl (x:Bool):N7 K H (.bl x) (.type "bool")
 | int (i:Int):N7 K H (.int i) (.type "int")
 | str (x:Str):N7 K H (.str x) (.type "str")
 | flt (x:UInt64):N7 K H (.flt x) (.type "float")
 | lst {a:Addr} {xs:List V} (e:H a=some (.lst xs)):N7 K H (.ref a) (.type "list")
 | frz {a:Addr} {o:Obj} {xs:List V} (e:H a=some (.frz o (.lst xs))):N7 K H (.ref a) (.type "list")
 | tup {a:Addr} {xs:List V} (e:H a=some (.tup xs)):N7 K H (.ref a) (.type "tuple")
 | dK {a:Addr} {kvs:List (Key×V)} (e:H a=some (.dK kvs)):N7 K H (.ref a) (.type "dict")
 | dT {a:Addr} {kvs:List (List Key×V)} (e:H a=some (.dT kvs)):N7 K H (.ref a) (.type "dict")
 | ins {a C dx:Addr} {fs:List (Str×V)} (e:H a=some (.ins C dx fs)) (cl:Cls K C) (ha:findIn K (.ref C) "__class__" = some (some (.builtin "object.__class__")))
   (hn:PySem.W.specialIn K (.builtin "object.__class__") "__get__" = some (some (.builtin "getset_descriptor.__get__"))) (htk:PySem.W.takesIn K (.builtin "object.__class__")=some true)
   (hm:PySem.W.mroIn K C (.type "object")=some true):N7 K H (.ref a) (.ref C)
theorem oZ {x:V}{u t:Value}(I:Inv X pins σ H s)(rx:u7 x u)(ty:N7 X.K H x t)(e:kitOne X.K t c=some b)(h:∀tk,Q (.bool b) { s with toks:=tk }) :
  wpAny (model X.prog X.w) A (call (.builtin "isinstance") [u,c]) Q E s:=by
 cases ty with
 | non=>cases (show u=Value.none from rx);exact PySem.W.kia_one PySem.W.kitx_none I.kIn True.intro e (λz=>nomatch z) h
 | bl y=>cases (show u=Value.bool y from rx);exact PySem.W.kia_one PySem.W.kitx_bool I.kIn True.intro e (λz=>nomatch z) h
 | int i=>obtain⟨t,q⟩:=(show ∃t,u=Value.int i t from rx);cases q;exact PySem.W.kia_one PySem.W.kitx_int I.kIn True.intro e (λz=>nomatch z) h
 | str y=>obtain⟨t,q⟩:=(show ∃t,u=Value.str y t from rx);cases q;exact PySem.W.kia_one PySem.W.kitx_str I.kIn True.intro e (λz=>nomatch z) h
 | flt y=>obtain⟨t,q⟩:=(show ∃t,u=Value.float y t from rx);cases q;exact PySem.W.kia_one PySem.W.kitx_float I.kIn True.intro e (λz=>nomatch z) h
 | @lst a xs ea =>
  cases (show u=Value.ref a from rx)
  obtain⟨_,_,n,_,h1⟩:=(show r9 X.prog X.w H s.heap a (.lst xs) from I.hok a _ ea);exact PySem.W.kia_one PySem.W.kitx_list I.kIn ⟨_,h1,rfl⟩ e (λz=>nomatch z) h
 | @frz a ob xs ea =>
  cases (show u=Value.ref a from rx)
  obtain⟨_,_,_,n,_,h1⟩:=(show r9 X.prog X.w H s.heap a (.frz ob (.lst xs)) from I.hok a _ ea);exact PySem.W.kia_one PySem.W.kitx_list I.kIn ⟨_,h1,rfl⟩ e (λz=>nomatch z) h
 | @tup a xs ea =>
  cases (show u=Value.ref a from rx)
  obtain⟨_,_,_,p⟩:=(show r9 X.prog X.w H s.heap a (.tup xs) from I.hok a _ ea);obtain⟨o,h1,h2,_⟩:=p;exact PySem.W.kia_one PySem.W.kitx_tuple I.kIn ⟨o,h1,h2⟩ e (λz=>nomatch z) h
 | @dK a kvs ea =>
  cases (show u=Value.ref a from rx)
  obtain⟨_,_,vs,_,p⟩:=(show r9 X.prog X.w H s.heap a (.dK kvs) from I.hok a _ ea);obtain⟨o,es,ep,h1,h2,_⟩:=p;exact PySem.W.kia_one PySem.W.kitx_dict I.kIn ⟨o,h1,h2.1⟩ e (λz=>nomatch z) h
 | @dT a kvs ea =>
  cases (show u=Value.ref a from rx)
  obtain⟨_,_,xs,_,o,es,ep,h1,h2,_⟩:=(show r9 X.prog X.w H s.heap a (.dT kvs) from I.hok a _ ea);exact PySem.W.kia_one PySem.W.kitx_dict I.kIn ⟨o,h1,h2.1⟩ e (λz=>nomatch z) h
 | @ins a C dx fs ea cl ha hn htk hm =>
  cases (show u=Value.ref a from rx)
  obtain⟨mA,O,_⟩:=ow I.hok ea;obtain⟨od,J,_⟩:=O.look;exact PySem.W.kia_one (PySem.W.kitx_own (cl.get _) cl.hd ha hn htk hm) I.kIn J e (λz=>nomatch z) h
end
structure B5 (k:Nat)(A:Around):Prop where
 hd:A.handled=none
 dp:A.depth+3*k+5<recursionLimit
 un:A.units+16*k+200<cLine
theorem B5.mono {j k:Nat}{A:Around}(r:B5 k A)(h:j<=k):B5 j A:=⟨r.hd,by have:=r.dp;lia,by have:=r.un;lia⟩
theorem B5.deeper {k:Nat}{A:Around}(r:B5 (k+1) A)(env:Env):B5 k (A.deeper env) :=
 ⟨r.hd,by have:=r.dp;show A.depth+1+3*k+5<_;lia,by have:=r.un;show A.units+3+16*k+200<_;lia⟩
def lX {A:Around}{C:Addr}{us:List Value}{kw:List (Str×Value)}:(A.under (.builtin "type.__call__" ⟨.ref C::us,kw⟩)).depth=A.depth+1:=by
 first|rfl|simp[Around.under,Code.weight,Code.isCreation,Code.isGuard,Code.isCaller,Code.frames,Code.isFrame,guardIds]
def mP {A:Around}{C:Addr}{us:List Value}{kw:List (Str×Value)}:(A.under (.builtin "type.__call__" ⟨.ref C::us,kw⟩)).units=A.units+1:=by
 first|rfl|simp[Around.under,Code.cUnits,Code.frames,Code.isFrame]
theorem B5.make {k:Nat}{A:Around}(r:B5 (k+1) A)(C:Addr)(us:List Value)(kw:List (Str×Value)):B5 k (A.under (.builtin "type.__call__" ⟨.ref C::us,kw⟩)) :=
 ⟨r.hd,by have:=r.dp;rw[lX];lia,by have:=r.un;rw[mP];lia⟩
theorem B5.depth {k:Nat}{A:Around}(r:B5 k A):A.depth<recursionLimit:=by have:=r.dp;lia
theorem B5.units {k:Nat}{A:Around}(r:B5 k A):A.units+64<cLine:=by have:=r.un;lia
theorem B5.units0 {k:Nat}{A:Around}(r:B5 k A):A.units<cLine:=by have:=r.un;lia
def uk:TA:=λ_ H Q=>Q [] H
def rG (ta:TE)(tr:TA):TA:=λσ H Q=>ta σ H λx H1=>tr σ H1 λxs H2=>Q (x::xs) H2
section
variable {X:Cx}{e:Expr}{es:List Expr}{te:TE}{t:TA}{pos:Pos}
def c7:PA X [] uk:=λ_ _ _ _ H Q I h=>Calls.spliced_nil ⟨[],H,I,.nil,h⟩
def a8 (ha:PE X e te)(hr:PA X es t)(hs:starEach (e::es) X.env=(false,eval e X.env)::starEach es X.env:=by rfl):PA X (e::es) (rG te t):=by
 intro pos pins s σ H Q I h
 rw[hs]
 show wpAny _ _ (spliced ((false,eval e X.env)::backTo pos (starEach es X.env))) _ _ s
 refine Calls.spliced_cons (thn (ha pins s σ H _ I h) λu s1 ⟨x,H1,I1,r1,q1⟩=>?_);exact thn (hr pos pins s1 σ H1 _ I1 q1) λus s2 ⟨xs,H2,I2,r2,q2⟩=>⟨x::xs,H2,I2,.cons r1 r2,q2⟩
def yc (t:TA):TE:=λσ H Q=>t σ H λxs H1=>xs.length<=sizeLine/\∀p,H1 p=none->Q (.ref p) (upd H1 p (.tup xs))
def ye (t:TA):TE:=λσ H Q=>t σ H λxs H1=>xs.length<=sizeLine/\∀p,H1 p=none->Q (.ref p) (upd H1 p (.lst xs))
def C2 {x1}(h:PA X es t):PE X (.Tuple es x1 pos) (yc t):=by
 intro pins s σ H Q I hq
 refine wpAny_Tuple_spliced (thn (h pos pins s σ H _ I hq) λus s1 ⟨xs,H1,I1,r,z,q⟩=>⟨by rw[<- r.length];exact z,?_⟩)
 have hf:H1 s1.heap.objs.size=none:=I1.hok.fresh (Nat.le_refl _);refine⟨.ref s1.heap.objs.size,upd H1 s1.heap.objs.size (.tup xs),I1.laid (t':=s1.toks) (λb u e=>Heap.get?_push_of_some _ e) (Nat.le_refl _) ?_,rfl,q _ hf⟩;exact⟨z,us,r,⟨_,Heap.get?_push_size _ rfl,rfl,_,rfl⟩⟩
def n6 (h:PA X es t):PE X (.List es pos) (ye t):=by
 intro pins s σ H Q I hq
 refine wpAny_List_spliced (thn (h pos pins s σ H _ I hq) λus s1 ⟨xs,H1,I1,r,z,q⟩=>⟨by rw[<- r.length];exact z,?_⟩)
 have hf:H1 s1.heap.objs.size=none:=I1.hok.fresh (Nat.le_refl _);refine⟨.ref s1.heap.objs.size,upd H1 s1.heap.objs.size (.lst xs),I1.laid (t':=s1.toks) (λb u e=>Heap.get?_push_of_some _ e) (Nat.le_refl _) ?_,rfl,q _ hf⟩;exact⟨z,us,0,r,Heap.get?_push_size _ rfl⟩
end
abbrev Sp:=List V->Hp->VK->XK->Prop
abbrev CXT:=List Env->Hp->Shared->XK->Value->Shared->Prop
structure mG (P:Program)(w:World)(K:Frag)(mg:Str->Option Value)(base:Heap)(A:Around)(outer:List Env)(s:Shared)(H:Hp):Prop where
 frames:A.frames=some outer
 mod:Mod K mg base
 bs:∀b o,base.get? b=some o->s.heap.get? b=some o/\H b=none
 bsz:base.objs.size<=s.heap.objs.size
 funs:s.heap.FunFrames base outer
 frf:∀b∈frs outer,H b=none
 hok:HOk P w H s.heap
 bare:AllBare s.gens
def CE (outer:List Env)(P:Program)(w:World)(H:Hp)(s:Shared)(Q:VK)(u:Value)(s':Shared):Prop :=
 ∃v H',s'.os=s.os/\AllBare s'.gens/\Un (frs outer) [] H H' s.heap s'.heap/\HOk P w H' s'.heap/\u7 v u/\Q v H'
def CR (CX:CXT)(outer:List Env)(P:Program)(w:World)(H:Hp)(s:Shared)(Q:VK)(E:XK)(r:Result)(s':Shared):Prop :=
 match r with
 | .ok (.ret u)=>CE outer P w H s Q u s'
 | .ok _=>False
 | .error e=>CX outer H s E e s'
structure aL (P:Program)(w:World)(K:Frag)(mg:Str->Option Value)(base:Heap)(CX:CXT)(k:Nat)(f:Addr)(fd:FuncData)(ps:List Str)(sp:Sp):Prop where
 len:∀vs H Q E,sp vs H Q E->vs.length=ps.length
 run:∀(A:Around)(outer:List Env)(s:Shared)(H:Hp)(args:Args)(us:List Value)(vs:List V)(Q:VK)(E:XK),B5 k A->mG P w K mg base A outer s H->BindsTo s fd args (ps.zip us)->o9 vs us->sp vs H Q E ->
  codeAny (model P w) A (.call (.ref f) args) (CR CX outer P w H s Q E) s
theorem mG.make {P:Program}{w:World}{K:Frag}{mg:Str->Option Value}{base:Heap}{A:Around}{outer:List Env}{s:Shared}{H:Hp}(e:mG P w K mg base A outer s H)(C:Addr)(us:List Value)(kw:List (Str×Value)) :
  mG P w K mg base (A.under (.builtin "type.__call__" ⟨.ref C::us,kw⟩)) outer s H:=⟨by first|exact e.frames|(simpa [Around.under,Code.envs,Code.isFrame,pushEnvs] using e.frames),e.mod,e.bs,e.bsz,e.funs,e.frf,e.hok,e.bare⟩
section
variable {X:Cx}{pins:List (Addr×Obj)}{σ:St}{H:Hp}{s s':Shared}
theorem Inv.env0 (I:Inv X pins σ H s):mG X.prog X.w X.K X.mg X.base X.A X.stack s H :=
 ⟨I.ok.frames,I.ok.mod,I.bs,Nat.le_trans I.ok.bsz I.sz,I.stack,I.stkFree,I.hok,I.bare⟩
theorem Inv.after {Q:VK}{u:Value}(I:Inv X pins σ H s)(h:CE X.stack X.prog X.w H s Q u s'):EP X pins σ Q u s':=by
 obtain⟨v,H',os,bare,un,hok,r,q⟩:=h;obtain⟨hh,g,d,t,os'⟩:=s';obtain rfl:os'=s.os:=os;exact⟨v,H',I.call (h':=hh) (g':=g) (d':=d) (t':=t) (ch:=[]) un hok bare (λb z=>absurd z (by simp)),r,q⟩
end
def vq (sp:Sp)(dvs:List V)(E:XK)(t:TA):TE:=λσ H Q=>t σ H λvs H1=>sp (vs++dvs) H1 Q E
def V6 (K:Frag)(fd:FuncData)(ps:List Str)(ds:List Value):Prop :=
 ∀(s:Shared)(us:List Value),K.In s.heap->(us++ds).length=ps.length->BindsTo s fd ⟨us,[]⟩ (ps.zip (us++ds))
theorem V6.all {K:Frag}{fd:FuncData}{ps:List Str}(h:∀us:List Value,us.length=ps.length->bindArgs fd ⟨us,[]⟩=pure (ps.zip us)):V6 K fd ps []:=λs us _ hl=>by
 rw[append_nil] at hl ⊢;exact .of_eq (h us hl)
def lV (CX:CXT)(X:Cx)(E:XK):Prop:=∀(pins:List (Addr×Obj))(σ:St)(H:Hp)(s:Shared)(e:Value)(s':Shared),Inv X pins σ H s->CX X.stack H s E e s'->X.xe e s'
section
variable {X:Cx}{CX:CXT}{k:Nat}{f C:Addr}{fd:FuncData}{ps:List Str}{sp:Sp}{dvs:List V}{ds:List Value}{E:XK}{x m:Str}{p pos apos:Pos}{e o:Expr}{es:List Expr}{ta:TE}{t:TA}
theorem vJ {pins:List (Addr×Obj)}{σ:St}{H:Hp}{s:Shared}{Q:VK}{us:List Value}{vs:List V}(F:aL X.prog X.w X.K X.mg X.base CX k f fd ps sp)(hr:B5 k X.A)(hb:V6 X.K fd ps ds)(hd:o9 dvs ds)(hx:lV CX X E)
  (I:Inv X pins σ H s)(r:o9 vs us)(h:sp (vs++dvs) H Q E):wpAny (model X.prog X.w) X.A (call (.ref f) us) (EP X pins σ Q) X.xe s:=by
 have r2:o9 (vs++dvs) (us++ds):=r.append hd;have hl:(us++ds).length=ps.length:=by rw[<- r2.length];exact F.len _ _ _ _ h
 refine wpAny_call (codeAny_mono (F.run X.A X.stack s H ⟨us,[]⟩ (us++ds) (vs++dvs) Q E hr I.env0 (hb s us I.kIn hl) r2 h) λr s' hq=>?_)
 cases r with
 | error e=>exact hx pins σ H s e s' I hq
 | ok fl =>
  cases fl with
  | ret u=>exact I.after hq
  | next=>exact False.elim hq
  | brk=>exact False.elim hq
  | cont=>exact False.elim hq
def ua (F:aL X.prog X.w X.K X.mg X.base CX k f fd ps sp)(hr:B5 k X.A)(hg:Gl X x)(hm:X.mg x=some (.ref f))(hk:keepIn X.K (.ref f)=true)(hb:V6 X.K fd ps ds)(hd:o9 dvs ds)(hx:lV CX X E)
  (ha:PA X (e::es) t)(hdb:(x==("__debug__":Str))=false:=by decide)(he:starEach (e::es) X.env=(false,eval e X.env)::starEach es X.env:=by rfl)(hpl:(backTo pos (starEach es X.env)).any (·.1)=false:=by rfl) :
  PE X (.Call (.Name x p) (e::es) [] pos) (vq sp dvs E t):=by
 intro pins s σ H Q I h
 refine wpAny_Call_Name_kw (aa I hg hm ?_ hdb);refine PySem.W.callWith_K (h₀:=X.base) I.ok.mod.kin hk (thn (ha pos pins s σ H _ I h) λus s1 ⟨vs,H1,I1,r,q⟩=>⟨I1.kIn,?_⟩) he hpl;exact vJ F hr hb hd hx I1 r q
end
structure FnScope (N P:List Str)(sc:Scope):Prop where
 kind:sc.kind=.function
 co:sc.isCoroutine=false
 gen:sc.isGenerator=false
 nd:N.Nodup
 pre:N.take P.length=P
 par:∀x∈P,sc.names.lookup x=some .local\/sc.names.lookup x=some .cell
 nofree:∀y∈sc.names,y.2≠.free
theorem fN {kindOf:Str->Option NameKind}{x:Str}:∀{binds:List (Str×Value)}{m:Str->Option Value},(∀v,(x,v)∉binds)->bindL kindOf binds m x=m x
 | [],_,_=>rfl
 | (n,v)::r,m,h=>by
  unfold bindL;rw[fN λw hw=>h w (mem_cons_of_mem _ hw)]
  split
  ·have:x≠n:=by rintro rfl;exact h v mem_cons_self
   simp[this]
  ·rfl
theorem fC {kindOf:Str->Option NameKind}{x:Str}:∀{binds:List (Str×Value)}{m:Str->Option Value},(∀v,(x,v)∉binds)->bindC kindOf binds m x=m x
 | [],_,_=>rfl
 | (n,v)::r,m,h=>by
  unfold bindC;rw[fC λw hw=>h w (mem_cons_of_mem _ hw)]
  split
  ·rfl
  ·have:x≠n:=by rintro rfl;exact h v mem_cons_self
   simp[this]
theorem gm {kindOf:Str->Option NameKind}{x:Str}{v:Value}:∀{P:List Str}{vs:List Value}{i:Nat}{m:Str->Option Value},P.Nodup->P[i]? = some x->vs[i]? = some v->kindOf x=some .local ->
  bindL kindOf (P.zip vs) m x=some v
 | [],_,_,_,_,h,_,_=>by simp at h
 | _::_,[],_,_,_,_,h,_=>by simp at h
 | p::P,w::vs,0,m,nd,h1,h2,hk=>by
  simp at h1 h2;subst h1;subst h2
  show bindL kindOf ((p,w)::P.zip vs) m p=_
  unfold bindL;rw[fN λv hv=>(List.nodup_cons.mp nd).1 (List.of_mem_zip hv).1,if_pos hk]
  simp
 | p::P,w::vs,i+1,m,nd,h1,h2,hk=>by
  show bindL kindOf ((p,w)::P.zip vs) m x=_
  unfold bindL;exact gm (i:=i) (List.nodup_cons.mp nd).2 (by simpa using h1) (by simpa using h2) hk
theorem gj {kindOf:Str->Option NameKind}{x:Str}{v:Value}:∀{P:List Str}{vs:List Value}{i:Nat}{m:Str->Option Value},P.Nodup->P[i]? = some x->vs[i]? = some v->kindOf x≠some .local ->
  bindC kindOf (P.zip vs) m x=some v
 | [],_,_,_,_,h,_,_=>by simp at h
 | _::_,[],_,_,_,_,h,_=>by simp at h
 | p::P,w::vs,0,m,nd,h1,h2,hk=>by
  simp at h1 h2;subst h1;subst h2
  show bindC kindOf ((p,w)::P.zip vs) m p=_
  unfold bindC;rw[fC λv hv=>(List.nodup_cons.mp nd).1 (List.of_mem_zip hv).1,if_neg hk]
  simp
 | p::P,w::vs,i+1,m,nd,h1,h2,hk=>by
  show bindC kindOf ((p,w)::P.zip vs) m x=_
  unfold bindC;exact gj (i:=i) (List.nodup_cons.mp nd).2 (by simpa using h1) (by simpa using h2) hk
def start (N:List Str)(vs:List V):St:=vs.map some++List.replicate (N.length-vs.length) none
def P1 (CX:CXT)(P:Program)(w:World)(K:Frag)(mg:Str->Option Value)(base:Heap)(N:List Str)(qual:Str)(scope:Scope)(f:Addr)(cd:Value)(A:Around)(outer:List Env)(s:Shared)(H:Hp)(E:XK):Cx where
 prog:=P
 w:=w
 K:=K
 mg:=mg
 base:=base
 A:=A.deeper (envOfC qual scope s.heap.objs.size f cd)
 N:=N
 s₀:=s
 H₀:=H
 env:=envOfC qual scope s.heap.objs.size f cd
 outer:=outer
 stack:=envOfC qual scope s.heap.objs.size f cd::outer
 ex:=[]
 calm:=true
 fn:=λ_=>true
 pn:=[]
 xe:=λe s'=>wpAny (model P w) (A.deeper (envOfC qual scope s.heap.objs.size f cd)) (leaving (envOfC qual scope s.heap.objs.size f cd) e) (λ_ s''=>CX outer H s E e s'') (λe' s''=>CX outer H s E e' s'') s'
def dX {sc:Scope}{n:Nat}{x:Str}(h:sc.names.lookup x=some .cell):∃c,(cellsFrom n sc.names []).lookup x=some c:=by
 have q:=PySem.W.cellsFrom_some sc.names n [] (.inl h);exact Option.isSome_iff_exists.mp q
def qj {CX:CXT}{P:Program}{w:World}{K:Frag}{mg:Str->Option Value}{base:Heap}{N ps:List Str}{qual:Str}{scope:Scope}{f:Addr}{cd:Value}{A:Around}{outer:List Env}{s s1:Shared}{H:Hp}{E:XK}{us:List Value}{vs:List V}
  (S:FnScope N ps scope)(hd:A.handled=none)(e0:mG P w K mg base A outer s H)(hl:vs.length=ps.length)(r:o9 vs us)
  (x:InCallC s s.heap.objs.size (bindL (envOfC qual scope s.heap.objs.size f cd).kindOf (ps.zip us) λ_=>none) (cellsFrom (s.heap.objs.size+1) scope.names []) (bindC (envOfC qual scope s.heap.objs.size f cd).kindOf (ps.zip us) λ_=>none) s1) :
  Inv (P1 CX P w K mg base N qual scope f cd A outer s H E) [] (start N vs) H s1:=by
 have hpl:ps.length<=N.length:=by have:=congrArg List.length S.pre;rw[length_take] at this;lia
 obtain⟨h1,tk,rfl,hk⟩:=x.done;have noA:∀b:Addr,b∉(P1 CX P w K mg base N qual scope f cd A outer s H E).ex:=λb z=>absurd (show b∈([]:List Addr) from z) (by simp)
 refine⟨⟨e0.mod,S.kind,rfl,rfl,Nat.le_refl _,λy z c h1 h2=>?_,λy hy=>?_,λy c _ h=>?_,λ_=>hd,Around.frames_deeper e0.frames,.inr ⟨rfl,rfl⟩,λb z=>absurd z (noA b),e0.bs,e0.bsz,λb _ _=>noA b,λb z=>absurd z (noA b),e0.funs,e0.frf⟩,
  rfl,e0.bare,Un.kept hk,⟨_,x.toInCall.ns,λi y v h1 h2 h3=>?_⟩,λy c h=>⟨_,x.cell y c h⟩,e0.hok.fresh (Nat.le_refl _),λy c h=>?_,λp hp=>absurd (show p∈([]:List (Addr×Obj)) from hp) (by simp),e0.hok.kept hk,?_⟩
 ·exact name_of_addr x.apart (PySem.mem_of_lookup h1) (PySem.mem_of_lookup h2)
 ·have hy:scope.names.lookup y=some .cell\/scope.names.lookup y=some .free:=hy
  rcases hy with hy|hy
  ·exact dX hy
  ·exact absurd rfl (S.nofree _ (PySem.mem_of_lookup hy))
 ·exact Nat.le_of_lt (x.above y c (PySem.mem_of_lookup h))
 ·have hi:i<vs.length:=by
   unfold start at h2
   by_cases hi:i<vs.length
   ·exact hi
   ·rw[List.getElem?_append_right (by simpa using hi)] at h2
    rw[List.getElem?_replicate] at h2
    split at h2<;>cases h2
  have ha:vs[i]? = some v:=by
   unfold start at h2;rw[List.getElem?_append_left (by simpa using hi),List.getElem?_map] at h2
   cases e:vs[i]? with
   | none=>rw[e] at h2;cases h2
   | some a=>rw[e] at h2;cases h2;rfl
  obtain⟨u,hu,rv⟩:=r.get ha
  have hp:ps[i]? = some y:=by
   rw[<- S.pre,List.getElem?_take_of_lt (by lia)];exact h1
  have ndP:ps.Nodup:=by rw[<- S.pre];exact S.nd.sublist (take_sublist _ _)
  refine⟨u,rv,?_⟩
  rcases S.par y (List.mem_of_getElem? hp) with k|k
  ·exact .inl ⟨k,gm ndP hp hu k⟩
  ·obtain⟨c,e⟩:=dX (n:=s.heap.objs.size+1) k
   refine .inr ⟨.inl k,c,e,?_⟩;have q:=x.cell y c e;rw[gj ndP hp hu (by show scope.names.lookup y≠_;rw[k];decide)] at q
   exact q
 ·exact e0.hok.fresh (Nat.le_of_lt (x.above y c (PySem.mem_of_lookup h)))
 ·unfold start
  show _=N.length
  rw[length_append,length_map,List.length_replicate];lia
theorem kN {CX:CXT}{P:Program}{w:World}{K:Frag}{mg:Str->Option Value}{base:Heap}{k:Nat}{f:Addr}{name qual:Str}{params:Arguments}{body:List Stmt}{scope:Scope}{dV kV doc pm cdv ct oc:Value}{an od:Option Addr}
  {osl:Array (Option Value)}{N ps:List Str}{sp:Sp}(lk:K.lookup f=some ⟨oc,od,.func (fnOf name qual params body scope dV kV doc pm an cdv ct),osl⟩)(hcd:codeIn K cdv qual=true)(S:FnScope N ps scope)
  (len:∀vs H Q E,sp vs H Q E->vs.length=ps.length)
  (hbody:∀(A:Around)(outer:List Env)(s:Shared)(H:Hp)(vs:List V)(Q:VK)(E:XK),B5 k (A.deeper (envOfC qual scope s.heap.objs.size f cdv))->sp vs H Q E ->
   ∃t,PSs (P1 CX P w K mg base N qual scope f cdv A outer s H E) body t/\t { nx:=λ_ H'=>Q .non H',rt:=Q } (start N vs) H) :
  aL P w K mg base CX (k+1) f (fnOf name qual params body scope dV kV doc pm an cdv ct) ps sp:=by
 refine⟨len,λA outer s H args us vs Q E hr e0 hb r hsp=>?_⟩;have hl:=len _ _ _ _ hsp;have KX:K.In s.heap:=e0.mod.kin.keeps λb o e=>(e0.bs b o e).1;have lim:s.heap.NoLimit:=e0.mod.nolimit.keeps λb o e=>(e0.bs b o e).1
 have hkind:∀y∈ps.zip us,scope.names.lookup y.1=some .local\/(scope.names.lookup y.1=some .cell/\((cellsFrom (s.heap.objs.size+1) scope.names []).lookup y.1).isSome=true):=λ⟨n,v⟩ hy=>by
  rcases S.par n (List.of_mem_zip hy).1 with q|q
  ·exact .inl q
  ·exact .inr ⟨q,PySem.W.cellsFrom_some _ _ _ (.inl q)⟩
 refine codeAny_call_function hr.depth (KX _ _ lk) rfl S.co S.gen rfl (PySem.W.codeRec_of KX hcd) (hb _ _ _ _ ?_);refine wpAny_newFunctionEnv_cells S.kind hkind λenv he s1 x=>?_;subst he;refine⟨lim.keeps x.toInCall.keep,codeAny_func ?_⟩;obtain⟨t,ht,hq⟩:=hbody A outer s H vs Q E (hr.deeper _) hsp;have I:Inv (P1 CX P w K mg base N qual scope f cdv A outer s H E) [] (start N vs) H s1:=qj S hr.hd e0 hl r x;refine wpAny_mono (ht [] s1 (start N vs) H _ I hq) (λfl s' hs=>?_) λe s' hs=>hs
 have fin:∀{σ':St}{H':Hp}{v:V}{u:Value},Inv (P1 CX P w K mg base N qual scope f cdv A outer s H E) [] σ' H' s'->u7 v u->Q v H'->CE outer P w H s Q u s' :=
  λ{σ' H' v u} J rv q=>⟨v,H',J.os,J.bare,J.base,J.hok,rv,q⟩
 cases fl with
 | ret u =>
  obtain⟨v,σ',H',J,rv,q⟩:=hs;exact fin J rv q
 | next =>
  obtain⟨σ',H',J,q⟩:=hs;exact fin (v:=V.non) (u:=Value.none) J rfl q
 | brk =>
  obtain⟨_,_,_,q⟩:=hs;exact False.elim q
 | cont =>
  obtain⟨_,_,_,q⟩:=hs;exact False.elim q
section
variable {X:Cx}{x:Str}{p pos:Pos}{e:Expr}{es:List Expr}{t:TA}{id T:String}{r:List V->Hp->VK->Prop}
def tCB (r:List V->Hp->VK->Prop)(t:TA):TE:=λσ H Q=>t σ H λvs H1=>r vs H1 Q
def i8 (hc:A3 X (.builtin id) r)(hg:Gl X x)(hm:X.mg x=none)(hv:bootBuiltins x=some (.builtin id))(ha:PA X (e::es) t)(hn:x≠"__name__":=by decide)(hdb:(x==("__debug__":Str))=false:=by decide)
  (he:starEach (e::es) X.env=(false,eval e X.env)::starEach es X.env:=by rfl) (hpl:(backTo pos (starEach es X.env)).any (·.1)=false:=by rfl):PE X (.Call (.Name x p) (e::es) [] pos) (tCB r t):=by
 intro pins s σ H Q I h
 refine wpAny_Call_Name_kw (aD I hg hm hv ?_ hn hdb);exact PyProof.Rows.callWith_builtin1 (thn (ha pos pins s σ H _ I h) λus s1 ⟨vs,H1,I1,r1,q1⟩=>hc pins s1 σ H1 vs us Q I1 r1 q1) he hpl
def A5 (hc:A3 X (.type T) r)(hg:Gl X x)(hm:X.mg x=none)(hv:bootBuiltins x=some (.type T))(ha:PA X (e::es) t)(hn:x≠"__name__":=by decide)(hdb:(x==("__debug__":Str))=false:=by decide)
  (he:starEach (e::es) X.env=(false,eval e X.env)::starEach es X.env:=by rfl) (hpl:(backTo pos (starEach es X.env)).any (·.1)=false:=by rfl):PE X (.Call (.Name x p) (e::es) [] pos) (tCB r t):=by
 intro pins s σ H Q I h
 refine wpAny_Call_Name_kw (aD I hg hm hv ?_ hn hdb);exact PyProof.Rows.callWith_type1 (thn (ha pos pins s σ H _ I h) λus s1 ⟨vs,H1,I1,r1,q1⟩=>hc pins s1 σ H1 vs us Q I1 r1 q1) he hpl
end
end L2
namespace HT
open PySem PyProof.Rows
section
variable {prog:Program}{w:World}{A:Around}{E:Value->Shared->Prop}{s:Shared}
def sIx (n d:Nat):Option Int->Nat
 | none=>d
 | some v=>if v<0 then (v+(n:Int)).toNat else min v.toNat n
def sIx_none (n d:Nat):sIx n d none=d:=rfl
def sIx_nat (n d k:Nat):sIx n d (some (k:Int))=min k n:=by
 show(if (k:Int)<0 then ((k:Int)+(n:Int)).toNat else min (k:Int).toNat n)=min k n
 rw[if_neg (by lia),Int.toNat_natCast]
theorem wY (n d:Nat)(hd:d<=n)(o:Option Int):sIx n d o<=n:=by
 cases o with
 | none=>exact hd
 | some v =>
  show(if v<0 then (v+(n:Int)).toNat else min v.toNat n)<=n
  by_cases hv:v<0
  ·rw[if_pos hv];lia
  ·rw[if_neg hv];exact Nat.min_le_right _ _
def oP (v:Int)(n d:Nat):(if v<0 then max (v+(n:Int)) 0 else min v (n:Int))=((sIx n d (some v):Nat):Int):=by
 show(if v<0 then max (v+(n:Int)) 0 else min v (n:Int))=(((if v<0 then (v+(n:Int)).toNat else min v.toNat n):Nat):Int)
 by_cases hv:v<0
 ·simp only[if_pos hv];lia
 ·simp only[if_neg hv];lia
def mq (lo hi:Option Int)(n:Nat):Builtin.Slice.sliceAdjust lo hi 1 (n:Int)=(((sIx n 0 lo:Nat):Int),((sIx n n hi:Nat):Int)):=by
 have h1:¬((1:Int)<0):=by lia
 unfold Builtin.Slice.sliceAdjust
 simp only[h1,if_false]
 refine Prod.ext ?_ ?_
 ·cases lo with
  | none=>rfl
  | some v=>exact oP v n 0
 ·cases hi with
  | none=>rfl
  | some v=>exact oP v n n
def ma (i j:Nat):Builtin.Slice.slicePlaces (i:Int) (j:Int) 1=j-i:=by
 unfold Builtin.Slice.slicePlaces;have h1:(1:Int) > 0:=by lia
 simp only[h1,if_true,Int.ediv_one]
 split<;>lia
theorem dC {v:Value}{o:Option Int}{Q:Option Int->Shared->Prop}(p:IsPart v o)(h:Q o s):wpAny (model prog w) A (Builtin.Slice.slicePartIndex v) Q E s:=by
 cases p with
 | none=>exact slicePart_none h
 | int i t=>exact slicePart_int h
def S8 {sl:Addr}{vl vu:Value}{lo hi:Option Int}{n:Nat}{Q:Int×Int×Nat->Shared->Prop}(hs:s.heap.IsSliceOf sl vl vu .none)(pl:IsPart vl lo)(pu:IsPart vu hi)
  (h:Q (((sIx n 0 lo:Nat):Int),1,sIx n n hi-sIx n 0 lo) s):wpAny (model prog w) A (Builtin.Slice.sliceApplied (.ref sl) (pure (n:Int))) Q E s:=by
 obtain⟨os,hos,hcs,hds⟩:=id hs;unfold Builtin.Slice.sliceApplied Builtin.Slice.sliceFields;refine w_ (w_ (wpAny_field hos hds (x:=vl) rfl (w_ (wpAny_field hos hds (x:=vu) rfl (w_ (wpAny_field hos hds (x:=.none) rfl (u_ ?_)))))));refine w_ (slicePart_none ?_)
 show wpAny _ _ (if ((1:Int)==0)=true then _ else _) _ _ s
 rw[if_neg (by decide)]
 refine w_ (dC pl (w_ (dC pu (w_ (u_ ?_)))))
 show wpAny _ _ (match Builtin.Slice.sliceAdjust lo hi 1 (n:Int) with | (lo,hi)=>pure (lo,(1:Int),Builtin.Slice.slicePlaces lo hi 1)) _ _ s
 rw[mq lo hi n]
 show wpAny _ _ (pure (((sIx n 0 lo:Nat):Int),(1:Int),Builtin.Slice.slicePlaces ((sIx n 0 lo:Nat):Int) ((sIx n n hi:Nat):Int) 1)) _ _ s
 rw[ma];exact u_ h
def sS (xs:Array Value)(i k:Nat):((List.range k).filterMap λ(m:Nat)=>xs[((i:Int)+(m:Int)*1).toNat]?).toArray=((xs.toList.drop i).take k).toArray:=by
 have e:(λ(m:Nat)=>xs[((i:Int)+(m:Int)*1).toNat]?)=λm=>xs[i+m]?:=by
  funext m
  have:((i:Int)+(m:Int)*1).toNat=i+m:=by lia
  rw[this]
 rw[e]
 have:=pick_run xs i k
 rw[List.filterMap_map] at this;have e2:((λx=>xs[x]?) ∘ λx=>i+x)=λm=>xs[i+m]?:=rfl;rw[e2] at this;rw[this]
def getItem_tuple_cut {t sl:Addr}{items:Array Value}{vl vu:Value}{lo hi:Option Int}{Q:Value->Shared->Prop}(ht:IsTup s.heap t items)(hs:s.heap.IsSliceOf sl vl vu .none)(pl:IsPart vl lo)(pu:IsPart vu hi)
  (hw:¬(sIx items.size 0 lo=0/\sIx items.size items.size hi=items.size))
  (h:Q (.ref s.heap.objs.size) { s with heap:=s.heap.push { cls:=.type "tuple",data:=.seq ((items.toList.drop (sIx items.size 0 lo)).take (sIx items.size items.size hi-sIx items.size 0 lo)).toArray } })
  (hsz:items.size<=sizeLine):wpAny (model prog w) A (getItem (.ref t) (.ref sl)) Q E s:=by
 have htake:sizeOk (.seq ((items.toList.drop (sIx items.size 0 lo)).take (sIx items.size items.size hi-sIx items.size 0 lo)).toArray):=by
  show((items.toList.drop (sIx items.size 0 lo)).take (sIx items.size items.size hi-sIx items.size 0 lo)).toArray.size<=sizeLine
  rw[size_toArray,length_take,length_drop,Array.length_toList];lia
 have hj:sIx items.size items.size hi<=items.size:=wY _ _ (Nat.le_refl _) hi;obtain⟨os,hos,hcs,hds⟩:=id hs;have hTs:s.TypeIs (.ref sl) "slice":=⟨os,hos,hcs⟩;unfold getItem
 try with_reducible refine wpAny_holding ?_
 first|refine w_ (u_ ?_)|skip
 refine w_ (wpAny_sequenceKey ht.typeIs (by decide) ?_)
 refine w_ (wpAny_callSpecial?_slot (name:=Str.ofString "__getitem__") ht.typeIs PyProof.Rows.slot_tuple_getitem
  (wpAny_call_entry PyProof.Rows.slot_tuple_getitem ht.typeIs entry_tuple_getitem ?_ (args_tuple_getitem _ _)))
 show wpAny _ _ (Builtin.Tuple.tupleItemsOf (.ref t) >>= _) _ _ s
 refine w_ (tupleItemsOf_ ht ?_);refine w_ (wpAny_typeOf hTs ?_);rw[if_pos (by decide)]
 refine w_ (S8 hs pl pu ?_)
 have hno:¬((((sIx items.size 0 lo:Nat):Int)==0&&(1:Int)==1&&(sIx items.size items.size hi-sIx items.size 0 lo)==items.size)=true):=by
  intro q
  rw[Bool.and_eq_true,Bool.and_eq_true] at q;have q1:((sIx items.size 0 lo:Nat):Int)=0:=eq_of_beq q.1.1;have q2:sIx items.size items.size hi-sIx items.size 0 lo=items.size:=eq_of_beq q.2;exact hw ⟨by lia,by lia⟩
 show wpAny _ _ (if (((sIx items.size 0 lo:Nat):Int)==0&&(1:Int)==1&&(sIx items.size items.size hi-sIx items.size 0 lo)==items.size)=true then _ else _) _ _ s
 rw[if_neg hno,sS]
 first
  | exact w_ (m:=Builtin.Tuple.tupleExact _) (wpAny_newObj_type (u_ ⟨_,rfl,u_ h⟩) htake)
  | exact w_ (m:=Builtin.Tuple.tupleExact _) (wpAny_newObj_type (w_ (u_ (u_ ⟨_,rfl,u_ h⟩))) htake)
  | exact w_ (w_ (m:=Builtin.Tuple.tupleExact _) (wpAny_newObj_type (u_ (u_ ⟨_,rfl,u_ h⟩)) htake))
  | exact w_ (w_ (m:=Builtin.Tuple.tupleExact _) (wpAny_newObj_type (u_ ⟨_,rfl,u_ h⟩) htake))
end
end HT
namespace L2
open PySem PySem.Spec PyProof.Rows
abbrev TO:=St->Hp->(Option Int->Hp->Prop)->Prop
def PO (X:Cx)(e:Option Expr)(t:TO):Prop :=
 ∀(pins:List (Addr×Obj))(s:Shared)(σ:St)(H:Hp)(Q:Option Int->Hp->Prop),Inv X pins σ H s->t σ H Q ->
  wpAny (model X.prog X.w) X.A (evalPart e X.env) (λu s'=>∃o H',Inv X pins σ H' s'/\IsPart u o/\Q o H') X.xe s
def uJ:TO:=λ_ H Q=>Q none H
def xP (t:TE):TO:=λσ H Q=>t σ H λx H1=>∃i,x=.int i/\Q (some i) H1
theorem F6 {ns:List Int}:∀{us:List Value},o9 (ns.map V.int) us->IntsAre us ns:=by
 induction ns with
 | nil=>intro us r;rw[map_nil] at r;cases r;exact .nil
 | cons n ns ih =>
  intro us r
  rw[map_cons] at r
  cases r with
  | cons r1 r2 =>
   obtain⟨t,e⟩:=r1;subst e;exact .cons n t (ih r2)
section
variable {X:Cx}{e:Expr}{te:TE}{lo hi:Option Expr}{tl th:TO}{pos p2:Pos}
def Y9:PO X none uJ:=by
 intro pins s σ H Q I h
 rw[evalPart_none];exact u_ ⟨none,H,I,.none,h⟩
def R3 (h:PE X e te):PO X (some e) (xP te):=by
 intro pins s σ H Q I hw
 rw[evalPart_some];refine thn (h pins s σ H _ I hw) λu s1 ⟨x,H1,I1,r1,q1⟩=>?_;obtain⟨i,rfl,q⟩:=q1;obtain⟨t,rfl⟩:=r1;exact⟨some i,H1,I1,.int i t,q⟩
def SlR (X:Cx)(r:V->Option Int->Option Int->Hp->VK->Prop):Prop :=
 ∀(pins:List (Addr×Obj))(s:Shared)(σ:St)(H:Hp)(x:V)(v vl vu:Value)(lo hi:Option Int)(sl:Addr)(Q:VK),Inv X pins σ H s->u7 x v->s.heap.IsSliceOf sl vl vu .none->IsPart vl lo->IsPart vu hi->r x lo hi H Q ->
  ∃T id,typeLookup (.type T) "__getitem__" = pure (some (.builtin id))/\s.TypeIs v T/\wpAny (model X.prog X.w) X.A (getItem v (.ref sl)) (EP X pins σ Q) X.xe s
def tSl (r:V->Option Int->Option Int->Hp->VK->Prop)(te:TE)(tl th:TO):TE:=λσ H Q=>te σ H λx H1=>tl σ H1 λl H2=>th σ H2 λu H3=>r x l u H3 Q
def Q4 {r:V->Option Int->Option Int->Hp->VK->Prop}(hr:SlR X r)(he:PE X e te)(hl:PO X lo tl)(hu:PO X hi th):PE X (.Subscript e (.Slice lo hi none p2) pos) (tSl r te tl th):=by
 intro pins s σ H Q I h
 refine Subscript_ (thn (he pins s σ H _ I h) λv s1 ⟨x,H1,I1,r1,q1⟩=>?_);refine wpAny_Slice (thn (hl pins s1 σ H1 _ I1 q1) λvl s2 ⟨l,H2,I2,pl,q2⟩=>thn (hu pins s2 σ H2 _ I2 q2) λvu s3 ⟨u,H3,I3,pu,q3⟩=>?_);rw[evalPart_none];refine u_ ?_;have I4:Inv X pins σ H3 { s3 with heap:=s3.heap.push { cls:=.type "slice",data:=.fields #[vl,vu,.none] } }:=I3.kept (t':=s3.toks) λb ob q=>Heap.get?_push_of_some _ q
 obtain⟨T,id,hT,ht,hg⟩:=hr pins { s3 with heap:=s3.heap.push { cls:=.type "slice",data:=.fields #[vl,vu,.none] } } σ H3 x v vl vu l u s3.heap.objs.size Q I4 r1 (Heap.IsSliceOf.new ..) pl pu q3
 show wpAny (model X.prog X.w) X.A (subscriptTail e (.Slice lo hi none p2) v (.ref s3.heap.objs.size)) (EP X pins σ Q) X.xe { s3 with heap:=s3.heap.push { cls:=.type "slice",data:=.fields #[vl,vu,.none] } }
 exact tail_any (ops:=[.ref s3.heap.objs.size,v]) ht hT hg (by with_unfolding_all rfl)
def S7 (xs:List V)(lo hi:Option Int):List V:=(xs.drop (HT.sIx xs.length 0 lo)).take (HT.sIx xs.length xs.length hi-HT.sIx xs.length 0 lo)
def bW (xs:List V)(lo hi:Option Int):(S7 xs lo hi).length<=xs.length:=by
 unfold S7;rw[length_take,length_drop];lia
def yh (K:Frag):V->Option Int->Option Int->Hp->VK->Prop:=λx lo hi H Q=>∃a xs,x=.ref a/\SqT K H a xs /\
 ¬(HT.sIx xs.length 0 lo=0/\HT.sIx xs.length xs.length hi=xs.length)/\∀p,H p=none->Q (.ref p) (upd H p (.tup (S7 xs lo hi)))
def wR:SlR X (yh X.K):=by
 intro pins s σ H x v vl vu lo hi sl Q I rx hs pl pu h
 obtain⟨a,xs,rfl,hx,hw,q⟩:=h
 cases rx
 obtain⟨its,r,ht,hz⟩:=I.tuple hx;have hlen:its.toArray.size=xs.length:=by rw[size_toArray];exact r.length.symm
 refine⟨"tuple",_,PyProof.Rows.slot_tuple_getitem.lookup,ht.typeIs,?_⟩;refine HT.getItem_tuple_cut ht hs pl pu (by rw[hlen];exact hw) ?_ (by rw[hlen];exact hz)
 rw[hlen];refine⟨.ref s.heap.objs.size,_,I.laid (t':=s.toks) (o:=.tup (S7 xs lo hi)) (λb ob q=>Heap.get?_push_of_some _ q) (Nat.le_refl _) ?_,rfl,q _ (I.hok.fresh (Nat.le_refl _))⟩;exact⟨Nat.le_trans (bW xs lo hi) hz,_,(r.drop (HT.sIx xs.length 0 lo)).take (HT.sIx xs.length xs.length hi-HT.sIx xs.length 0 lo),IsTup.new _ _⟩
end
def ixN (n:Nat)(i:Int):Option Nat:=if 0<=i then (if i<n then some i.toNat else none) else if -(n:Int)<=i then some (i+n).toNat else none
def atI {α:Type}(xs:List α)(i:Int):Option α:=(ixN xs.length i).bind λj=>xs[j]?
def oG {n:Nat}{i:Int}{j:Nat}(h:ixN n i=some j):seqIndex? i n=some j/\j<n/\-(n:Int)<=i/\i<n:=by
 unfold ixN at h
 by_cases h0:0<=i
 ·rw[if_pos h0] at h
  by_cases h1:i<n
  ·rw[if_pos h1] at h
   have e:i.toNat=j:=Option.some.inj h;exact⟨by rw[seqIndex_of h0 h1,e],by lia,by lia,h1⟩
  ·rw[if_neg h1] at h;cases h
 ·rw[if_neg h0] at h
  by_cases h1:-(n:Int)<=i
  ·rw[if_pos h1] at h
   have e:(i+n).toNat=j:=Option.some.inj h;exact⟨by rw[seqIndex_neg (by lia) h1,e],by lia,h1,by lia⟩
  ·rw[if_neg h1] at h;cases h
theorem gI {α:Type}{xs:List α}{i:Int}{v:α}(h:atI xs i=some v):∃j,seqIndex? i xs.length=some j/\xs[j]? = some v/\j<xs.length/\-(xs.length:Int)<=i/\i<xs.length:=by
 unfold atI at h
 cases e:ixN xs.length i with
 | none=>rw[e] at h;cases h
 | some j =>
  rw[e] at h;obtain⟨h1,h2,h3,h4⟩:=oG e;exact⟨j,h1,h,h2,h3,h4⟩
def B3 {α:Type}{xs:List α}{j:Nat}{v:α}(h:xs[j]? = some v):atI xs (j:Int)=some v:=by
 have hj:j<xs.length:=(List.getElem?_eq_some_iff.mp h).1
 have e:ixN xs.length (j:Int)=some j:=by
  unfold ixN;rw[if_pos (by lia),if_pos (by lia)];simp
 unfold atI;rw[e];exact h
def uH (b:Expr):Prop:=∀o i,subscripted b false o i=operate [o,i] (getItem o i)
def IxR (X:Cx)(r:R2):Prop :=
 ∀(value slice:Expr)(pins:List (Addr×Obj))(s:Shared)(σ:St)(H:Hp)(x y:V)(v u:Value)(Q:VK),Inv X pins σ H s->u7 x v->u7 y u->r x y H Q ->
  subscripted slice false v u=operate [v,u] (getItem v u)->wpAny (model X.prog X.w) X.A (subscriptTail value slice v u) (EP X pins σ Q) X.xe s
def MtR (X:Cx)(id:String)(r:V->List V->Hp->VK->Prop):Prop :=
 ∀(pins:List (Addr×Obj))(s:Shared)(σ:St)(H:Hp)(x:V)(xs:List V)(v:Value)(us:List Value)(Q:VK),Inv X pins σ H s->u7 x v->o9 xs us->r x xs H Q ->
  wpAny (model X.prog X.w) X.A (call (.builtin id) (v::us)) (EP X pins σ Q) X.xe s
section
variable {X:Cx}{a b:Expr}{ta tb:TE}{pos:Pos}
theorem IxR.or {r r':R2}(h:IxR X r)(h':IxR X r'):IxR X (λx y H Q=>r x y H Q\/r' x y H Q):=by
 intro value slice pins s σ H x y v u Q I rx ry q hs
 rcases q with q|q
 ·exact h value slice pins s σ H x y v u Q I rx ry q hs
 ·exact h' value slice pins s σ H x y v u Q I rx ry q hs
def j1 {r:R2}(hr:IxR X r)(ha:PE X a ta)(hb:PE X b tb)(hs:uH b:=by intro _ _;rfl):PE X (.Subscript a b pos) (tOp r ta tb):=by
 intro pins s σ H Q I h
 exact Subscript_ (wM ha hb I h λv u s2 x y H2 I2 rx ry q=>hr a b pins s2 σ H2 x y v u Q I2 rx ry q (hs _ _))
def wf (K:Frag):R2:=λx y H Q=>∃p xs i v,x=.ref p/\y=.int i/\SqL K H p xs/\atI xs i=some v/\Q v H
def xh (K:Frag):R2:=λx y H Q=>∃p xs i v,x=.ref p/\y=.int i/\SqT K H p xs/\atI xs i=some v/\Q v H
def ya:R2:=λx y H Q=>∃z i c,x=.str z/\y=.int i/\z.length<=sizeLine/\atI z.cps.toList i=some c/\Q (.str ⟨#[c]⟩) H
def nQ:IxR X (wf X.K):=by
 intro value slice pins s σ H x y v u Q I rx ry h hs
 obtain⟨p,xs,i,z,rfl,rfl,hq,he,q⟩:=h
 cases rx
 obtain⟨t,rfl⟩:=ry;obtain⟨its,r,pl,hz⟩:=I.list hq;obtain⟨j,h1,h2,h3,h4,h5⟩:=gI he;obtain⟨w,ew,rw'⟩:=r.get h2;have hl:=r.length;have hn:=X2;have fin:EP X pins σ Q w s:=⟨z,H,I,rw',q⟩
 by_cases h0:0<=i
 ·have hj:i.toNat=j:=by
   rw[seqIndex_of h0 h5] at h1;exact Option.some.inj h1
  exact item_listR pl.isList h0 (by lia) (by rw[hj];simpa using ew) fin hs
 ·have hj:(i+(its.toArray.size:Int)).toNat=j:=by
   rw[seqIndex_neg (by lia) h4] at h1
   rw[size_toArray,<- hl];exact Option.some.inj h1
  exact subscriptTail_builtinR (x:=w) pl.isList.typeIs slot_list_getitem.lookup
   (wpAny_getItem_list_neg (Q:=λr s'=>r=w/\EP X pins σ Q r s') pl.isList (by lia) (by rw[size_toArray]<;>lia) (by lia) (by rw[hj];simpa using ew) ⟨rfl,fin⟩) hs
def sH:IxR X (xh X.K):=by
 intro value slice pins s σ H x y v u Q I rx ry h hs
 obtain⟨p,xs,i,z,rfl,rfl,hq,he,q⟩:=h
 cases rx
 obtain⟨t,rfl⟩:=ry;obtain⟨its,r,pl,hz⟩:=I.tuple hq;obtain⟨j,h1,h2,h3,h4,h5⟩:=gI he;obtain⟨w,ew,rw'⟩:=r.get h2;have hl:=r.length;have hn:=X2;have fin:EP X pins σ Q w s:=⟨z,H,I,rw',q⟩
 exact subscriptTail_builtinR (x:=w) pl.typeIs slot_tuple_getitem.lookup
  (getItem_tuple (j:=j) (Q:=λr s'=>r=w/\EP X pins σ Q r s') pl (by lia) (by lia) (by rw[size_toArray,<- hl];exact h1) (by simpa using ew) ⟨rfl,fin⟩) hs
def vS:IxR X ya:=by
 intro value slice pins s σ H x y v u Q I rx ry h hs
 obtain⟨z,i,c,rfl,rfl,hz,he,q⟩:=h;obtain⟨t,rfl⟩:=rx;obtain⟨t',rfl⟩:=ry;obtain⟨j,h1,h2,h3,h4,h5⟩:=gI he;have hl:z.cps.toList.length=z.length:=by simp[Str.length]
 rw[hl] at h1 h4 h5;have hn:=X2
 exact tail_any (typeIs_str s z t) slot_str_getitem.lookup (getItem_str (c:=c) (by
  have e1:decide (i < -(2^63:Int))=false:=decide_eq_false (by lia)
  have e2:decide (i ≥ 2^63)=false:=decide_eq_false (by lia)
  rw[e1,e2,Bool.or_false]) (by rw[h1];simpa using h2) ⟨.str ⟨#[c]⟩,H,I.tok _,⟨_,rfl⟩,q⟩) hs
def rIx (K:Frag):R2:=λx y H Q=>wf K x y H Q\/xh K x y H Q\/ya x y H Q
def lx:IxR X (rIx X.K):=nQ.or (sH.or vS)
def mY (its:List Value)(n j:Nat)(u:Value):Obj.mapSeq (·.setIfInBounds j u) { cls:=.type "list",data:=.seq its.toArray n } = { cls:=.type "list",data:=.seq (its.set j u).toArray n }:=by
 simp[Obj.mapSeq]
theorem Inv.lst {pins:List (Addr×Obj)}{σ:St}{H:Hp}{s:Shared}{p:Addr}{xs:List V}(I:Inv X pins σ H s)(h:H p=some (.lst xs)) :
  ∃(its:List Value)(n:Nat),o9 xs its/\s.heap.get? p=some { cls:=.type "list",data:=.seq its.toArray n }/\xs.length<=sizeLine:=by
 obtain⟨z,its,n,r,e⟩:=I.hok p _ h;exact⟨its,n,r,e,z⟩
theorem Inv.lstUpd {pins:List (Addr×Obj)}{σ:St}{H:Hp}{s:Shared}{p:Addr}{xs ys:List V}{its its':List Value}{n n':Nat}{f:Obj->Obj}(I:Inv X pins σ H s)(h:H p=some (.lst xs))
  (ho:s.heap.get? p=some { cls:=.type "list",data:=.seq its.toArray n })(hf:f { cls:=.type "list",data:=.seq its.toArray n } = { cls:=.type "list",data:=.seq its'.toArray n' })(r:o9 ys its')(hz:ys.length<=sizeLine)(t:Nat) :
  Inv X pins σ (upd H p (.lst ys)) { s with heap:=s.heap.update p f,toks:=t }:=by
 have e:(s.heap.update p f).get? p=some { cls:=.type "list",data:=.seq its'.toArray n' }:=by
  rw[Heap.get?_update_self f ho (by rw[hf]<;>rfl),hf]
 refine I.write (x:=p) (e:=p) (by rw[h];trivial) (.inl rfl) (λb u hb q=>(Heap.get?_update_other _ _ (Ne.symm hb)).trans q) ⟨_,e⟩ ?_
 exact⟨hz,its',n',r,e⟩
def xO:V->V->V->Hp->(Hp->Prop)->Prop:=λo i v H Q=>∃p xs k j,o=.ref p/\i=.int k/\H p=some (.lst xs)/\ixN xs.length k=some j/\Q (upd H p (.lst (xs.set j v)))
def kR:vL X xO:=by
 intro pins s σ H o i v ov iv u Q I ro ri rv h
 obtain⟨p,xs,k,j,rfl,rfl,hp,hj,q⟩:=h
 cases ro
 obtain⟨t,rfl⟩:=ri;obtain⟨its,n,r,ho,hz⟩:=I.lst hp;obtain⟨h1,h2,h3,h4⟩:=oG hj;have hl:=r.length;have hn:=X2
 have I':Inv X pins σ (upd H p (.lst (xs.set j v))) { s with heap:=s.heap.update p (Obj.mapSeq (·.setIfInBounds j u)) } :=
  I.lstUpd hp ho (mY its n j u) (r.set rv j) (by rw[List.length_set];exact hz) s.toks
 by_cases h0:0<=k
 ·have hk:k.toNat=j:=by
   rw[seqIndex_of h0 h4] at h1;exact Option.some.inj h1
  exact PySem.W.ki_setAt ho h0 (by lia) (by rw[size_toArray,<- hl];exact h4) (by rw[hk];exact⟨_,I',q⟩)
 ·have hk:(k+(its.toArray.size:Int)).toNat=j:=by
   rw[seqIndex_neg (by lia) h3] at h1
   rw[size_toArray,<- hl];exact Option.some.inj h1
  exact PySem.W.ki_setBack ho (by lia) (by rw[size_toArray,<- hl];exact h3) (by lia) (by rw[hk];exact⟨_,I',q⟩)
def gu (lo hi:Option Int)(n:Nat):(sliceBounds lo hi none n).1=((HT.sIx n 0 lo:Nat):Int)/\(sliceBounds lo hi none n).2.1=((HT.sIx n n hi:Nat):Int)/\(sliceBounds lo hi none n).2.2=1:=by
 refine⟨?_,?_,rfl⟩
 ·cases lo with
  | none=>simp[sliceBounds,HT.sIx]
  | some i =>
   simp only[sliceBounds,HT.sIx,Option.getD_none,show(1:Int) > 0 by decide,if_true]
   by_cases h:i<0
   ·simp only[h,if_true]<;>lia
   ·simp only[h,if_false]<;>lia
 ·cases hi with
  | none=>simp[sliceBounds,HT.sIx]
  | some i =>
   simp only[sliceBounds,HT.sIx,Option.getD_none,show(1:Int) > 0 by decide,if_true]
   by_cases h:i<0
   ·simp only[h,if_true]<;>lia
   ·simp only[h,if_false]<;>lia
def eV (its:List Value)(lo hi:Option Int):slicePick its.toArray lo hi none=((its.drop (HT.sIx its.length 0 lo)).take (HT.sIx its.length its.length hi-HT.sIx its.length 0 lo)).toArray:=by
 obtain⟨h1,h2,h3⟩:=gu lo hi its.toArray.size;unfold slicePick;rw[h1,h2,h3]
 simp only[sliceRange_one,pick_run,size_toArray]<;>rfl
def xV (K:Frag):V->Option Int->Option Int->Hp->VK->Prop:=λx lo hi H Q=>∃a xs,x=.ref a/\SqL K H a xs/\∀p,H p=none->Q (.ref p) (upd H p (.lst (S7 xs lo hi)))
def vo:SlR X (xV X.K):=by
 intro pins s σ H x v vl vu lo hi sl Q I rx hs pl pu h
 obtain⟨a,xs,rfl,hx,q⟩:=h
 cases rx
 obtain⟨its,r,ht,hz⟩:=I.list hx;have hlen:=r.length;refine⟨"list",_,slot_list_getitem.lookup,ht.isList.typeIs,?_⟩;refine wpAny_getItem_list_slice ht.isList hs pl pu .none (by simp) ?_ (by rw[size_toArray]<;>lia)
 rw[eV,<- hlen];refine⟨.ref s.heap.objs.size,_,I.laid (t':=s.toks) (o:=.lst (S7 xs lo hi)) (λb ob q=>Heap.get?_push_of_some _ q) (Nat.le_refl _) ?_,rfl,q _ (I.hok.fresh (Nat.le_refl _))⟩;exact⟨Nat.le_trans (bW xs lo hi) hz,_,0,(r.drop (HT.sIx xs.length 0 lo)).take (HT.sIx xs.length xs.length hi-HT.sIx xs.length 0 lo),Heap.get?_push_size _ rfl⟩
def br:V->Bool
 | .non=>true
 | .bl _=>true
 | .int _=>true
 | .str _=>true
 | _=>false
def eqV:V->V->Bool
 | .non,.non=>true
 | .bl a,.bl b=>a==b
 | .bl a,.int b=>(if a then 1 else 0)==b
 | .int a,.bl b=>a==(if b then 1 else 0)
 | .int a,.int b=>a==b
 | .str a,.str b=>a==b
 | _,_=>false
theorem vX {A:Around}{s:Shared}{y x:V}{u v:Value}(ry:u7 y u)(rx:u7 x v)(fy:br y=true)(fx:br x=true):SeqAt.EqAt A s u v (eqV y x):=by
 cases y with
 | non =>
  cases ry
  cases x with
  | non=>cases rx;exact SeqAt.EqAt.same _
  | bl b=>cases rx;exact SeqAt.EqAt.none_bool b
  | int b=>obtain⟨t,rfl⟩:=rx;exact SeqAt.EqAt.none_int b t
  | str b=>obtain⟨t,rfl⟩:=rx;exact SeqAt.EqAt.none_str b t
  | _=>exact absurd (show false=true from fx) Bool.false_ne_true
 | bl a =>
  cases ry
  cases x with
  | non=>cases rx;exact SeqAt.EqAt.bool_none a
  | bl b=>cases rx;exact SeqAt.EqAt.bool_bool a b
  | int b=>obtain⟨t,rfl⟩:=rx;exact SeqAt.EqAt.bool_int a b t
  | str b=>obtain⟨t,rfl⟩:=rx;exact SeqAt.EqAt.bool_str a b t
  | _=>exact absurd (show false=true from fx) Bool.false_ne_true
 | int a =>
  obtain⟨t',rfl⟩:=ry
  cases x with
  | non=>cases rx;exact SeqAt.EqAt.int_none a t'
  | bl b=>cases rx;exact SeqAt.EqAt.int_bool a t' b
  | int b=>obtain⟨t,rfl⟩:=rx;exact SeqAt.EqAt.int_int a t' b t
  | str b=>obtain⟨t,rfl⟩:=rx;exact SeqAt.EqAt.int_str a t' b t
  | _=>exact absurd (show false=true from fx) Bool.false_ne_true
 | str a =>
  obtain⟨t',rfl⟩:=ry
  cases x with
  | non=>cases rx;exact SeqAt.EqAt.str_none a t'
  | bl b=>cases rx;exact SeqAt.EqAt.str_bool a t' b
  | int b=>obtain⟨t,rfl⟩:=rx;exact SeqAt.EqAt.str_int a t' b t
  | str b=>obtain⟨t,rfl⟩:=rx;exact SeqAt.EqAt.str_str a t' b t
  | _=>exact absurd (show false=true from fx) Bool.false_ne_true
 | _=>exact absurd (show false=true from fy) Bool.false_ne_true
def eqU (x:V)(u:Value):Bool:=match u with
 | .none=>eqV .non x
 | .bool b=>eqV (.bl b) x
 | .int i _=>eqV (.int i) x
 | .str z _=>eqV (.str z) x
 | _=>false
theorem rJ {x y:V}{u:Value}(r:u7 y u)(f:br y=true):eqU x u=eqV y x:=by
 cases y with
 | non=>cases r;rfl
 | bl b=>cases r;rfl
 | int i=>obtain⟨t,rfl⟩:=r;rfl
 | str z=>obtain⟨t,rfl⟩:=r;rfl
 | _=>exact absurd (show false=true from f) Bool.false_ne_true
theorem bf {x:V}:∀{xs:List V}{us:List Value},o9 xs us->xs.all br=true->us.any (eqU x)=xs.any λy=>eqV y x
 | _,_,.nil,_=>rfl
 | y::xs,u::us,.cons r t,f=>by
  rw[all_cons,Bool.and_eq_true] at f;rw[any_cons,any_cons,rJ r f.1,bf t f.2]
theorem X6 {A:Around}{s:Shared}{x:V}{v:Value}(rx:u7 x v)(fx:br x=true):∀{xs:List V}{us:List Value},o9 xs us->xs.all br=true->∀u∈us,SeqAt.EqAt A s u v (eqU x u)
 | _,_,.nil,_=>λu hu=>by cases hu
 | y::xs,u::us,.cons r t,f=>λu' hu=>by
  rw[all_cons,Bool.and_eq_true] at f
  rcases mem_cons.mp hu with rfl|hu
  ·rw[rJ r f.1];exact vX r rx f.1 fx
  ·exact X6 rx fx t f.2 u' hu
def inV (x:V)(xs:List V):Bool:=xs.any λy=>eqV y x
def rIn (K:Frag)(neg:Bool):R2:=λx y H Q=>∃p xs,y=.ref p/\(SqL K H p xs\/SqT K H p xs)/\br x=true/\xs.all br=true/\Q (.bl (if neg then !inV x xs else inV x xs)) H
def pJ:OpR X (compareOp .In) (rIn X.K false):=by
 intro pins s σ H x y v u Q I rx ry h
 obtain⟨p,xs,rfl,hq,fx,fs,q⟩:=h
 cases ry
 rcases hq with hq|hq
 ·obtain⟨its,r,pl,hz⟩:=I.list hq
  refine SeqAt.in_listAt (eqU x) pl.isList (λw hw=>X6 rx fx r fs w (by simpa using hw)) ⟨.bl _,H,I,rfl,?_⟩
  rw[show its.toArray.any (eqU x)=its.any (eqU x) by simp,bf r fs]
  exact q
 ·obtain⟨its,r,pl,hz⟩:=I.tuple hq
  refine SeqAt.in_tupleAt (eqU x) pl (λw hw=>X6 rx fx r fs w (by simpa using hw)) ⟨.bl _,H,I,rfl,?_⟩
  rw[show its.toArray.any (eqU x)=its.any (eqU x) by simp,bf r fs]
  exact q
def gv:OpR X (compareOp .NotIn) (rIn X.K true):=by
 intro pins s σ H x y v u Q I rx ry h
 obtain⟨p,xs,rfl,hq,fx,fs,q⟩:=h
 cases ry
 rcases hq with hq|hq
 ·obtain⟨its,r,pl,hz⟩:=I.list hq
  refine SeqAt.notIn_listAt (eqU x) pl.isList (λw hw=>X6 rx fx r fs w (by simpa using hw)) ⟨.bl _,H,I,rfl,?_⟩
  rw[show its.toArray.any (eqU x)=its.any (eqU x) by simp,bf r fs]
  exact q
 ·obtain⟨its,r,pl,hz⟩:=I.tuple hq
  refine SeqAt.notIn_tupleAt (eqU x) pl (λw hw=>X6 rx fx r fs w (by simpa using hw)) ⟨.bl _,H,I,rfl,?_⟩
  rw[show its.toArray.any (eqU x)=its.any (eqU x) by simp,bf r fs]
  exact q
def ip:A3 X (.builtin "len") (λxs H Q=>∃p ys,xs=[.ref p]/\(SqL X.K H p ys\/SqT X.K H p ys)/\Q (.int ys.length) H):=by
 intro pins s σ H xs us Q I r h
 obtain⟨p,ys,rfl,hq,q⟩:=h;obtain⟨u,rfl,rx⟩:=M3 r
 cases rx
 have hn:=X2
 rcases hq with hq|hq
 ·obtain⟨its,r',pl,hz⟩:=I.list hq
  have hlen:=r'.length;exact Calls.call_len_list pl.isList (by simp only[size_toArray]<;>lia) ⟨.int ys.length,H,I.tok _,⟨s.toks+1,by rw[size_toArray,hlen]⟩,q⟩
 ·obtain⟨its,r',pl,hz⟩:=I.tuple hq
  have hlen:=r'.length;exact len_tuple pl (by simp only[size_toArray]<;>lia) ⟨.int ys.length,H,I.tok _,⟨s.toks+1,by rw[size_toArray,hlen]⟩,q⟩
def iV:A3 X (.type "list") (λxs H Q=>∃p ys,xs=[.ref p]/\(SqL X.K H p ys\/SqT X.K H p ys)/\∀l,H l=none->Q (.ref l) (upd H l (.lst ys))):=by
 intro pins s σ H xs us Q I r h
 obtain⟨p,ys,rfl,hq,q⟩:=h;obtain⟨u,rfl,rx⟩:=M3 r
 cases rx
 have fin:∀(its:List Value),o9 ys its->ys.length<=sizeLine->∀(h':Heap)(c':Nat),(∀b o',s.heap.get? b=some o'->h'.get? b=some o') ->
   h'.get? s.heap.objs.size=some { cls:=.type "list",dict:=none,data:=.seq its.toArray c',slots:=#[] }->EP X pins σ Q (.ref s.heap.objs.size) { s with heap:=h' }:=λits r' hz h' c' kp e =>
  ⟨.ref s.heap.objs.size,_,I.laid (t':=s.toks) kp (Nat.le_refl _) (show r9 X.prog X.w _ h' _ (.lst ys) from⟨hz,its,c',r',e⟩),rfl,q _ (I.hok.fresh (Nat.le_refl _))⟩
 rcases hq with hq|hq
 ·obtain⟨its,r',pl,hz⟩:=I.list hq
  have hlen:=r'.length;obtain⟨o,ho,hc,n,hd⟩:=pl.isList;exact call_list_seq p (.inl rfl) ho hc hd (λh' c' kp e=>fin its r' hz h' c' kp e) (by simp only[size_toArray]<;>lia)
 ·obtain⟨its,r',pl,hz⟩:=I.tuple hq
  have hlen:=r'.length;obtain⟨o,ho,hc,n,hd⟩:=pl;exact call_list_seq p (.inr rfl) ho hc hd (λh' c' kp e=>fin its r' hz h' c' kp e) (by simp only[size_toArray]<;>lia)
def eP:A3 X (.type "tuple") (λxs H Q=>∃p ys,xs=[.ref p]/\((SqL X.K H p ys/\∀l,H l=none->Q (.ref l) (upd H l (.tup ys)))\/(SqT X.K H p ys/\Q (.ref p) H))):=by
 intro pins s σ H xs us Q I r h
 obtain⟨p,ys,rfl,h⟩:=h;obtain⟨u,rfl,rx⟩:=M3 r
 cases rx
 rcases h with⟨hq,q⟩|⟨hq,q⟩
 ·obtain⟨its,r',pl,hz⟩:=I.list hq
  have hlen:=r'.length;refine call_tuple_list pl.isList (λh' kp=>?_) (by simp only[size_toArray]<;>lia)
  have I1:Inv X pins σ H { s with heap:=h' }:=I.kept (t':=s.toks) kp
  have I2:Inv X pins σ (upd H h'.objs.size (.tup ys)) { s with heap:=h'.push { cls:=.type "tuple",data:=.seq its.toArray } } :=
   I1.laid (t':=s.toks) (λb o e=>Heap.get?_push_of_some _ e) (Nat.le_refl _) (show r9 X.prog X.w _ _ _ (.tup ys) from⟨hz,its,r',IsTup.new _ _⟩)
  exact⟨.ref h'.objs.size,_,I2,rfl,q _ (I1.hok.fresh (Nat.le_refl _))⟩
 ·obtain⟨its,r',pl,hz⟩:=I.tuple hq
  exact call_tuple_same pl ⟨.ref p,H,I,rfl,q⟩
def tyV (K:Frag)(T:String)(x:V)(H:Hp):Prop:=match x with
 | .str _=>T = "str"
 | .int _=>T = "int"
 | .ref p=>(T = "list"/\∃xs,SqL K H p xs)\/(T = "tuple"/\∃o,K.lookup p=some o/\o.cls=.type "tuple"/\o.dict=none) \/
   (T = "dict"/\((∃kvs,H p=some (.dK kvs))\/∃kvs,H p=some (.dT kvs)))\/(T = "set"/\∃S n,H p=some (.set S n))
 | _=>False
theorem wD {pins:List (Addr×Obj)}{σ:St}{H:Hp}{s:Shared}{T:String}{x:V}{v:Value}(I:Inv X pins σ H s)(r:u7 x v)(ty:tyV X.K T x H) :
  s.TypeIs v T/\∀a,v=.ref a->∃ob,s.heap.get? a=some ob/\ob.dict=none:=by
 cases x with
 | str z =>
  obtain⟨t,rfl⟩:=r
  cases (show T = "str" from ty)
  exact⟨typeIs_str s z t,λ_ e=>nomatch e⟩
 | int i =>
  obtain⟨t,rfl⟩:=r
  cases (show T = "int" from ty)
  exact⟨typeIs_int s i t,λ_ e=>nomatch e⟩
 | ref p =>
  cases r
  rcases ty with⟨rfl,xs,hq⟩|⟨rfl,o,hk,hc,hd⟩|⟨rfl,hk⟩|⟨rfl,S,n,hk⟩
  ·obtain⟨its,_,pl,_⟩:=I.list hq
   refine⟨pl.isList.typeIs,λa e=>?_⟩
   cases e
   obtain⟨o,n,e,c,hd,_⟩:=pl;exact⟨o,e,hd⟩
  ·refine⟨⟨o,I.kIn p o hk,hc⟩,λa e=>?_⟩
   cases e
   exact⟨o,I.kIn _ o hk,hd⟩
  ·have z:∃o,s.heap.get? p=some o/\o.ExactDict:=by
    rcases hk with⟨kvs,hk⟩|⟨kvs,hk⟩
    ·obtain⟨_,_,_,_,o,_,_,e,ex,_⟩:=I.hok p _ hk
     exact⟨o,e,ex⟩
    ·obtain⟨_,_,_,_,o,_,_,e,ex,_⟩:=I.hok p _ hk
     exact⟨o,e,ex⟩
   obtain⟨o,e,ex⟩:=z;refine⟨⟨o,e,ex.1⟩,λa e2=>?_⟩
   cases e2
   exact⟨o,e,ex.2.1⟩
  ·obtain⟨o,_,_,_,e,ex,_⟩:=I.hok p _ hk
   refine⟨⟨o,e,ex.1⟩,λa e2=>?_⟩
   cases e2
   exact⟨o,e,ex.2.1⟩
 | _=>exact False.elim ty
def tBM (K:Frag)(T:String)(r:V->List V->Hp->VK->Prop)(to:TE)(t:TA):TE:=λσ H Q=>to σ H λx H1=>tyV K T x H1/\t σ H1 λxs H2=>r x xs H2 Q
variable {o e:Expr}{es:List Expr}{to:TE}{t:TA}{name:Str}{apos cpos:Pos}{T id:String}{r:V->List V->Hp->VK->Prop}
def xC (pa:PlainAttrs T)(slot:Slot T name id)(hty:typeOf (.builtin id)=pure (.type "method_descriptor"))(hm:MtR X id r)(ho:PE X o to)(ha:PA X (e::es) t)
  (hbase:attributeBase o name X.env (eval o X.env)=eval o X.env:=by rfl)
  (hfew:((backTo cpos (starEach (e::es) X.env)).all (λx=>!x.1)&&(backToKw cpos (keywordEach [] X.env)).all (λx=>x.1.isSome)
  &&decide ((e::es).length+([]:List Keyword).length+(if ([]:List Keyword).isEmpty then 0 else 1)<30))=true:=by rfl)
  (hline:(apos.endLine==cpos.line)=true:=by rfl) (hs:starEach (e::es) X.env=(false,eval e X.env)::starEach es X.env:=by rfl) (hplain:(backTo cpos (starEach es X.env)).any (·.1)=false:=by rfl) :
  PE X (.Call (.Attribute o name apos) (e::es) [] cpos) (tBM X.K T r to t):=by
 intro pins s σ H Q I h
 refine wpAny_Call_method_late hbase hfew hline rfl (thn (ho pins s σ H _ I h) λv s1 ⟨x,H1,I1,r1,ty,q1⟩=>?_);obtain⟨h1,h2⟩:=wD I1 r1 ty;refine⟨T,id,pa,slot,hty,h1,h2,?_⟩;have hA:=ha cpos pins s1 σ H1 _ I1 q1;rw[hs] at hA ⊢;refine Calls.callWith_builtin (by show(false || (backTo cpos (starEach es X.env)).any (·.1))=false;rw[hplain]<;>rfl) (Calls.evalArgs_plain ?_)
 exact thn hA λus s2 ⟨vs,H2,I2,r2,q2⟩=>hm pins s2 σ H2 x vs v us Q I2 r1 r2 q2
end
def MtM (X:Cx)(id:String)(r:V->List V->Hp->VK->Prop):Prop :=
 ∀(pins:List (Addr×Obj))(s:Shared)(σ:St)(H:Hp)(x:V)(xs:List V)(v:Value)(us:List Value)(Q:VK),Inv X pins σ H s->u7 x v->o9 xs us->r x xs H Q ->
  wpAny (model X.prog X.w) X.A (call (.builtin id) (v::us)) (EP X pins σ Q) X.xe s
theorem o9.one:∀{x:V}{us:List Value},o9 [x] us->∃u,us=[u]/\u7 x u
 | _,_,.cons r .nil=>⟨_,rfl,r⟩
theorem o9.rep {xs:List V}{us:List Value}(h:o9 xs us):∀k:Nat,o9 (List.replicate k xs).flatten (List.replicate k us).flatten
 | 0=>.nil
 | k+1=>by
  rw[replicate_succ,replicate_succ,flatten_cons,flatten_cons];exact o9.append h (o9.rep h k)
theorem fG (its:List Value):∀(k:Nat)(acc:List Value),
  List.foldl (λx1 x2=>x1++x2) acc.toArray (List.replicate k its.toArray)=(acc++(List.replicate k its).flatten).toArray
 | 0,acc=>by simp
 | k+1,acc=>by
  have e:acc.toArray++its.toArray=(acc++its).toArray:=by simp
  have e2:(acc++its)++(List.replicate k its).flatten=acc++(List.replicate (k+1) its).flatten:=by
   rw[replicate_succ,flatten_cons,List.append_assoc]
  rw[<- e2,<- fG its k (acc++its),<- e,replicate_succ,foldl_cons]
section
variable {X:Cx}{pins:List (Addr×Obj)}{σ:St}{H:Hp}{s:Shared}{l b:Addr}{xs ys zs:List V}
theorem Inv.lset {its its':List Value}{n:Nat}{f:Array Value->Array Value}{t':Nat}(I:Inv X pins σ H s)(hH:H l=some (.lst xs))
  (e:s.heap.get? l=some { cls:=.type "list",data:=.seq its.toArray n })(hf:f its.toArray=its'.toArray)(hv:o9 ys its')(hz:ys.length<=sizeLine) :
  Inv X pins σ (upd H l (.lst ys)) { s with heap:=s.heap.update l (Obj.mapSeq f),toks:=t' }:=by
 have q:=PySem.IsL.update e f;rw[hf] at q;refine I.write (x:=l) (e:=l) (by rw[hH];exact trivial) (.inl rfl) (λb' u hb hu=>(Heap.get?_update_other s.heap (Obj.mapSeq f) (Ne.symm hb)).trans hu) ⟨_,q⟩ ?_
 exact⟨hz,its',_,hv,q⟩
theorem Inv.lnew {its:List Value}{t':Nat}(I:Inv X pins σ H s)(hv:o9 ys its)(hz:ys.length<=sizeLine) :
  Inv X pins σ (upd H s.heap.objs.size (.lst ys)) { s with heap:=s.heap.push { cls:=.type "list",data:=.seq its.toArray },toks:=t' } :=
 I.laid (λ_ _ q=>Heap.get?_push_of_some _ q) (Nat.le_refl _) ⟨hz,its,0,hv,Heap.get?_push_size _ rfl⟩
theorem Inv.fresh (I:Inv X pins σ H s):H s.heap.objs.size=none:=I.hok.fresh (Nat.le_refl _)
theorem Inv.lstM (I:Inv X pins σ H s)(hH:H l=some (.lst xs)):xs.length<=sizeLine/\∃(its:List Value)(n:Nat),o9 xs its/\xs.length=its.length/\s.heap.get? l=some { cls:=.type "list",data:=.seq its.toArray n }:=by
 obtain⟨z,its,n,r,e⟩:=I.hok l _ hH;exact⟨z,its,n,r,r.length,e⟩
def cZ {n:Nat}(h:n<=sizeLine):Builtin.List.listTooLong n=false:=by
 unfold Builtin.List.listTooLong;exact decide_eq_false (by lia)
end
section
variable {X:Cx}
def nY:V->List V->Hp->VK->Prop:=λx vs H Q=>∃l xs y,x=.ref l/\vs=[y]/\H l=some (.lst xs)/\xs.length<sizeLine/\Q .non (upd H l (.lst (xs++[y])))
def qI:MtM X "list.append" nY:=by
 intro pins s σ H x vs v us Q I rx rv h
 obtain⟨l,xs,y,rfl,rfl,hH,hz,q⟩:=h
 cases rx
 obtain⟨u,rfl,ru⟩:=rv.one;obtain⟨z,its,n,r,hl,e⟩:=I.lstM hH;refine call_meets F.slot_list_append ⟨_,e,rfl⟩ F.entry_list_append (F.args_list_append_2 _ _) (PySem.list_append l its.toArray n u (by rw[size_toArray];lia)) ⟨e,?_⟩
 refine⟨.non,_,I.lset (its':=its++[u]) hH e (by simp) (r.append (.cons ru .nil)) ?_,rfl,q⟩
 rw[length_append,length_singleton];lia
def nU:V->List V->Hp->VK->Prop:=λx vs H Q=>∃l b xs zs,x=.ref l/\vs=[.ref b]/\H l=some (.lst xs)/\H b=some (.lst zs)/\xs.length+zs.length<=sizeLine/\Q .non (upd H l (.lst (xs++zs)))
def pV:MtM X "list.extend" nU:=by
 intro pins s σ H x vs v us Q I rx rv h
 obtain⟨l,b,xs,zs,rfl,rfl,hH,hB,hz,q⟩:=h
 cases rx
 obtain⟨u,rfl,ru⟩:=rv.one
 cases ru
 obtain⟨z,its,n,r,hl,e⟩:=I.lstM hH;obtain⟨z2,its2,n2,r2,hl2,e2⟩:=I.lstM hB;have hsz:its.toArray.size+its2.toArray.size<=sizeLine:=by rw[size_toArray,size_toArray];lia
 have hlong:¬(!its.toArray.isEmpty&&Builtin.List.listTooLong (its.toArray.size+its2.toArray.size))=true:=by
  rw[cZ hsz,Bool.and_false];exact Bool.false_ne_true
 refine call_meets F.slot_list_extend ⟨_,e,rfl⟩ F.entry_list_extend (F.args_list_extend_2 _ _)
  (AutoSeq1.list_extend_list_list_0 l its.toArray n b its2.toArray n2 hlong (by rw[size_toArray];lia) (by lia)) ⟨e,e2,?_⟩
 refine⟨.non,_,I.lset (its':=its++its2) hH e (by simp) (r.append r2) ?_,rfl,q⟩
 rw[length_append];lia
def yf:R2:=λx y H Q=>∃l b xs zs,x=.ref l/\y=.ref b/\H l=some (.lst xs)/\H b=some (.lst zs)/\xs.length+zs.length<=sizeLine/\∀p,H p=none->Q (.ref p) (upd H p (.lst (xs++zs)))
def Q1:OpR X (binaryOp .Add) yf:=by
 intro pins s σ H x y v u Q I rx ry h
 obtain⟨l,b,xs,zs,rfl,rfl,hH,hB,hz,q⟩:=h
 cases rx
 cases ry
 obtain⟨z,its,n,r,hl,e⟩:=I.lstM hH;obtain⟨z2,its2,n2,r2,hl2,e2⟩:=I.lstM hB;refine PySem.P.add_list e e2 ?_ (by rw[size_toArray,size_toArray];lia)
 have ea:its.toArray++its2.toArray=(its++its2).toArray:=by simp
 rw[ea];exact⟨.ref _,_,I.lnew (t':=s.toks) (r.append r2) (by rw[length_append];lia),rfl,q _ I.fresh⟩
def ym:R2:=λx y H Q=>∃l k xs,x=.ref l/\y=.int k/\H l=some (.lst xs)/\-(2^63)<=k/\k<2^63/\xs.length*k.toNat<=sizeLine /\
 ∀p,H p=none->Q (.ref p) (upd H p (.lst (List.replicate k.toNat xs).flatten))
theorem uz {α:Type}(xs:List α)(k:Nat):(List.replicate k xs).flatten.length=k*xs.length:=by
 induction k with
 | zero=>simp
 | succ k ih=>rw[replicate_succ,flatten_cons,length_append,ih,Nat.succ_mul,Nat.add_comm]
def tL:OpR X (binaryOp .Mult) ym:=by
 intro pins s σ H x y v u Q I rx ry h
 obtain⟨l,k,xs,rfl,rfl,hH,h1,h2,hz,q⟩:=h
 cases rx
 obtain⟨t,rfl⟩:=ry;obtain⟨z,its,n,r,hl,e⟩:=I.lstM hH;have hlen:its.toArray.size*k.toNat<=sizeLine:=by rw[size_toArray,<- hl];exact hz
 have hcap:¬its.toArray.size*k.toNat > (2^63-1)/8:=by
  have:(sizeLine:Nat)<=(2^63-1)/8:=by decide
  lia
 have hfit:¬(!Builtin.List.listFitsIndex k)=true:=by
  rw[fitsIndex_both h1 h2];exact Bool.false_ne_true
 have hlong:¬Builtin.List.listTooLong (its.toArray.size*k.toNat)=true:=by
  rw[cZ hlen];exact Bool.false_ne_true
 have hnew:List.foldl (λx1 x2=>x1++x2) #[] (List.replicate (if its.toArray.isEmpty=true then 0 else k.toNat) its.toArray)=(List.replicate k.toNat its).flatten.toArray:=by
  have f0:∀m:Nat,List.foldl (λx1 x2=>x1++x2) #[] (List.replicate m its.toArray)=(List.replicate m its).flatten.toArray:=λm=>by
   have:=fG its m []
   rw[List.nil_append] at this;exact this
  rw[f0]
  cases its with
  | nil=>simp
  | cons a r'=>rw[if_neg (by simp)]
 refine wpAny_binaryOp_repeat_ref (T:="list") (U:="int") (by decide) ⟨_,e,rfl⟩ (λs'=>typeIs_int s' k t) noFill_list_mul F.fills_int_mul F.slot_int_rmul repeat_list F.slot_int_index.lookup
  (call_meets F.slot_int_rmul (typeIs_int s k t) F.entry_int_rmul (F.args_int_rmul_2 _ _) (int___rmul___int_list k t l its.toArray n)
   ⟨e,rfl,⟨_,e,rfl⟩,call_meets F.slot_list_mul ⟨_,e,rfl⟩ F.entry_list_mul (F.args_list_mul_2 _ _) (AutoListH.list___mul___list_int_3 l its.toArray n k t hfit hcap hlong) ⟨e,?_⟩⟩)
 rw[hnew];exact⟨.ref _,_,I.lnew (t':=s.toks) (r.rep k.toNat) (by rw[uz,Nat.mul_comm];exact hz),rfl,q _ I.fresh⟩
end
end L2
namespace Att
open PySem PySem.W PySem.Calls PyProof.Rows
theorem cu {P:Params}{h:Heap}:∀(ns:List Int)(vs:List Value),WellAll P h vs (ns.map WData.int)->IntsAre vs ns:=by
 intro ns
 induction ns with
 | nil =>
  intro vs w
  rw[map_nil] at w
  cases w
  exact .nil
 | cons n ns ih =>
  intro vs w
  rw[map_cons] at w
  cases w with
  | cons a b =>
   cases a
   exact .cons _ _ (ih _ b)
theorem pU {l:OpenLaw}{n:Nat}(hn:l.most=some n){P:Params}{h:Heap}{args:List WData}{vals:List Value}
  (hpre:l.row.toRowW.claim.pre args=true)(hwl:WellAll P h vals args) :
  ∃a vs ns,vals=[Value.ref a]/\args=[WData.list (ns.map WData.int)]/\h.get? a=some { cls:=.type "list",data:=.seq vs.toArray }/\IntsAre vs ns/\ns.length<=n:=by
 have hsh:WShape.hasAll [] args [.list .int]=true:=(pre_splitW hpre).1;have hc:l.pre.holds [] { args:=args }=true:=(pre_splitW hpre).2;obtain⟨d,r,rfl,h1,h2⟩:=hasAllW_cons hsh;obtain rfl:=hasAllW_nil h2;obtain⟨xs,rfl,h3⟩:=hasW_list h1;obtain⟨ns,rfl⟩:=items_int h3
 have hlen:ns.length<=n:=by
  unfold OpenLaw.pre at hc
  have h4:(WTm.not (.lt (.lit (.int (n:Int))) (.len (.arg 0)))).holds [] { args:=[.list (ns.map .int)] }=true:=by
   have h4:=(holds_andW hc).1;rw[hn] at h4;exact h4
  have h5:=condW_of h4 (w_not (w_lt w_lit (w_len_list (w_arg rfl))));rw[length_map] at h5;refine Nat.le_of_not_lt λq=>?_;have q':(n:Int)<((ns.length:Nat):Int):=by lia
  first
   | (rw[decide_eq_true q'] at h5;exact absurd h5 (by decide))
   | (simp at h5;lia)
 cases hwl with
 | cons w1 w2 =>
  cases w2
  cases w1 with
  | list ho hall=>exact⟨_,_,ns,rfl,rfl,ho,cu ns _ hall,hlen⟩
def qf (l:OpenLaw)(args:List WData):l.row.toRowW.claim.post args (.bool true) args=true :=
 postW_of (r:=l.row.toRowW) (X:=(true==true))
  (show WShape.has [] (.bool true) .bool=true by first|rfl|decide|simp[WShape.has,WShape.arms,WShape.armsAll])
  (show(WTm.eq .res (.lit (.bool true))).value [] { args:=args,res:=some (.bool true),after:=args }=some (.bool (true==true)) from w_eq_bool (w_res rfl) w_lit) rfl
def attach_call {l:OpenLaw}{n:Nat}{q:Program}{loose:List Str}{XP:(Str->Option Value)->Heap->Prop}{YP:World->Heap->Prop}{d:DefRec}
  (hn:l.most=some n)(hdf:d.params.defaults=[])
  (call:∀(w:World)(s₀ s₁:Shared)(mg mb:Str->Option Value)(fa:Addr)(o:Obj)(pm cd doc:Value)(a:Addr)(vs:List Value)(ns:List Int),
   Ground q loose [] XP w s₀ mg mb s₁.heap->YP w s₁.heap ->
   s₁.heap.get? fa=some o->o.data=.func (docDef d.name d.params d.body d.scope pm cd doc)->s₁.heap.CodeRec cd d.name->mg d.name=some (.ref fa) ->
   s₁.heap.get? a=some { cls:=.type "list",data:=.seq vs.toArray }->IntsAre vs ns->ns.length<=n->s₁.gens=#[] ->
   codeAny (model l.prog w) callerA (.call (.ref fa) ⟨[.ref a],[]⟩) (λr s'=>r=.ok (.ret (.bool true))/\OldK s₁.heap s'.heap/\s'.os=s₁.os/\AllBare s'.gens) s₁) :
  WalkO q loose XP YP l.row.toRowW d [] (λf vs=>PySem.call f vs):=by
 intro w s₀ s₁ mg mb G Y fa o pm cd doc dV kV ho hd hcd hD hmg hg args vals as hpre hlay hrd hwl hlo
 obtain rfl:dV=.none:=Dflts.none hD hdf;obtain rfl:kV=.none:=Dflts.noKw hD;obtain⟨a,vs,ns,rfl,rfl,hobj,hints,hlen⟩:=pU hn hpre hwl;refine enter_call (codeAny_mono (call w s₀ s₁ mg mb fa o pm cd doc a vs ns G Y ho (fd_plain hd) hcd hmg hobj hints hlen hg) λr s' hq=>?_);obtain⟨rfl,h2,h3,h4⟩:=hq;exact⟨.inl ⟨.bool true,.bool true,[],rfl,λ_=>rfl,.bool true,qf l _,λ_=>⟨List.Pairwise.nil,λ_ hm=>(nomatch hm)⟩⟩,h2,h3,h4⟩
end Att
namespace L2
open PySem PySem.Spec PyProof.Rows
theorem S9:∀{vs:List Value}{ns:List Int},IntsAre vs ns->o9 (ns.map V.int) vs
 | _,_,.nil=>.nil
 | _,_,.cons n t h=>.cons ⟨t,rfl⟩ (S9 h)
def wt (H:Hp):Prop:=∀b,H b=none\/∃o xs,H b=some (.frz o (.lst xs))
theorem tH {P:Program}{w:World}{K:Frag}{mg mb:Str->Option Value}{CX:CXT}{k:Nat}{fa a:Addr}{fd:FuncData}{x:Str}{sp:Sp}{s₁:Shared}{vs:List Value}{ns:List Int}
  (KX:K.In s₁.heap)(hns:s₁.heap.Ns mainGlobals mg)(hb:s₁.heap.Ns builtinsNs mb)(hbb:∀x:Str,x≠"__name__"->mb x=bootBuiltins x)(hlim:s₁.heap.NoLimit)(hg:s₁.gens=#[])
  (ha:s₁.heap.get? a=some { cls:=.type "list",data:=.seq vs.toArray })(hi:IntsAre vs ns)(hl:ns.length<=sizeLine)(hr:B5 k callerA)
  (F:∀base:Heap,K.In base->base.Ns mainGlobals mg->aL P w K mg base CX k fa fd [x] sp) (hbind:∀(s:Shared)(u:Value),BindsTo s fd ⟨[u],[]⟩ [(x,u)])
  (hsp:∀H:Hp,wt H->SqL K H a (ns.map V.int)->sp [.ref a] H (λv _=>v=.bl true) λ_ _ _=>False)
  (hCX:∀H e s',CX [] H s₁ (λ_ _ _=>False) e s'->False) :
  codeAny (model P w) callerA (.call (.ref fa) ⟨[.ref a],[]⟩) (λr s'=>r=.ok (.ret (.bool true))/\OldK s₁.heap s'.heap/\s'.os=s₁.os/\AllBare s'.gens) s₁:=by
 have rv:=S9 hi;have lenV:=hi.length
 have core:∀H:Hp,wt H->SqL K H a (ns.map V.int)->HOk P w H s₁.heap->(∀b,H b≠none->b=a)->(H a≠none->K.lookup a=none) ->
   codeAny (model P w) callerA (.call (.ref fa) ⟨[.ref a],[]⟩) (λr s'=>r=.ok (.ret (.bool true))/\OldK s₁.heap s'.heap/\s'.os=s₁.os/\AllBare s'.gens) s₁:=by
  intro H hO hS hok hA hK
  have base_of:∀{b:Addr}{o:Obj},s₁.heap.get? b=some o->H b=none->(ir s₁.heap H).get? b=some o:=λe n=>tq e n
  have noA:∀{b:Addr}{o:Obj}{es:Array DictEntry}{ep:Nat},s₁.heap.get? b=some o->o.data=.dict es ep->H b=none:=λ{b o es ep} e d=>by
   cases q:H b with
   | none=>rfl
   | some u =>
    have e':b=a:=hA b (by rw[q];simp)
    subst e';rw[ha] at e;cases e;have d':Data.seq vs.toArray _=Data.dict es ep:=d
    cases d'
  have nsK:∀{b:Addr}{m:Str->Option Value},s₁.heap.Ns b m->(ir s₁.heap H).Ns b m:=λ{b m} ⟨o,es,ep,e,d,r⟩=>⟨o,es,ep,base_of e (noA e d),d,r⟩
  have hKb:K.In (ir s₁.heap H):=λb o e=>base_of (KX b o e) (by
   cases q:H b with
   | none=>rfl
   | some u =>
    have e':b=a:=hA b (by rw[q];simp)
    subst e'
    rw[hK (by rw[q];simp)] at e;cases e)
  have hM:Mod K mg (ir s₁.heap H):=⟨hKb,nsK hns,⟨mb,nsK hb,hbb⟩,let ⟨mc,h1,h2⟩:=hlim;⟨mc,nsK h1,h2⟩⟩;have e0:mG P w K mg (ir s₁.heap H) callerA [] s₁ H:=⟨rfl,hM,λb o e=>ul e,Nat.le_of_eq (qz _ _),trivial,λb hb=>absurd (show b∈([]:List Addr) from hb) (by simp),hok,.of_eq hg⟩
  refine codeAny_mono ((F _ hKb (nsK hns)).run callerA [] s₁ H ⟨[.ref a],[]⟩ [.ref a] [.ref a] _ _ hr e0 (hbind s₁ (.ref a)) (.cons rfl .nil) (hsp H hO hS)) λr s' h=>?_
  cases r with
  | error e=>exact(hCX H e s' h).elim
  | ok fl =>
   cases fl with
   | next=>exact False.elim h
   | brk=>exact False.elim h
   | cont=>exact False.elim h
   | ret u =>
    obtain⟨v,H',os,bare,un,hok',r',q⟩:=h;have q':v=.bl true:=q;subst q';obtain rfl:u=Value.bool true:=r';refine⟨rfl,OldK.of_keep λb o e=>?_,os,bare⟩
    cases q:H b with
    | none=>exact un.keep b o e q (by intro z;exact absurd (show b∈([]:List Addr) from z) (by simp)) (by simp)
    | some u =>
     rcases hO b with z|⟨ob,xs,z⟩
     ·rw[q] at z;cases z
     ·have z2:=un.frzs b ob _ z
      obtain⟨e1,_⟩:=hok b _ z;obtain⟨e2,_⟩:=hok' b _ z2;rw[e] at e1;cases e1;exact e2
 cases hk:K.lookup a with
 | some o =>
  have e:=KX a o hk;rw[ha] at e
  cases e
  refine core (λ_=>none) (λ_=>.inl rfl) (.inr ⟨_,vs.toArray,_,hk,rfl,rfl,rfl,by rw[size_toArray,lenV];exact hl,by simpa using rv⟩) (λb u z=>by have z':(none:Option HO)=some u:=z;cases z') (λb z=>absurd rfl z) λz=>absurd rfl z
 | none =>
  refine core (λb=>if b=a then some (.frz { cls:=.type "list",data:=.seq vs.toArray } (.lst (ns.map V.int))) else none) (λb=>?_) (.inl (.inr ⟨{ cls:=.type "list",data:=.seq vs.toArray },if_pos rfl⟩)) (λb u z=>?_) (λb z=>?_) λ_=>hk
  ·by_cases hb:b=a
   ·exact .inr ⟨_,_,if_pos hb⟩
   ·exact .inl (if_neg hb)
  ·by_cases hb:b=a
   ·have z':=(if_pos hb).symm.trans z
    cases z'
    subst hb;exact⟨ha,by rw[length_map];exact hl,vs,_,rv,ha⟩
   ·have z':=(if_neg hb).symm.trans z
    cases z'
  ·by_cases hb:b=a
   ·exact hb
   ·exact absurd (if_neg hb) z
def vk {l:PySem.W.OpenLaw}{n k:Nat}{q:Program}{loose:List Str}{XP:(Str->Option Value)->Heap->Prop}{YP:World->Heap->Prop}{d:DefRec}{K:Params->Frag}{CX:World->CXT}{sp:World->Sp}{x:Str}
  (hn:l.most=some n)(hn2:n<=sizeLine)(hdf:d.params.defaults=[])(hr:B5 k callerA)
  (hY:∀(w:World)(h:Heap),YP w h->(K w.params).In h)
  (F:∀(w:World)(mg:Str->Option Value)(fa:Addr)(h:Heap),(K w.params).In h->h.Ns mainGlobals mg->mg d.name=some (.ref fa) ->
   ∃fd:FuncData,(∀(s:Shared)(u:Value),BindsTo s fd ⟨[u],[]⟩ [(x,u)]) /\
    ∀base:Heap,(K w.params).In base->base.Ns mainGlobals mg->aL l.prog w (K w.params) mg base (CX w) k fa fd [x] (sp w))
  (hsp:∀(w:World)(H:Hp)(a:Addr)(ns:List Int),ns.length<=n->wt H->SqL (K w.params) H a (ns.map V.int)->sp w [.ref a] H (λv _=>v=.bl true) λ_ _ _=>False)
  (hCX:∀(w:World)(H:Hp)(s:Shared)(e:Value)(s':Shared),CX w [] H s (λ_ _ _=>False) e s'->False) :
  PySem.W.WalkO q loose XP YP l.row.toRowW d [] (λf vs=>PySem.call f vs):=by
 refine Att.attach_call hn hdf λw s₀ s₁ mg mb fa o pm cd doc a vs ns G Y ho hd hcd hmg hobj hints hlen hg=>?_;have KX:=hY w _ Y;obtain⟨fd,hb,hF⟩:=F w mg fa _ KX G.T.g hmg;exact tH KX G.T.g G.T.b G.T.builtins G.T.nolimit hg hobj hints (Nat.le_trans hlen hn2) hr hF hb (λH hO hS=>hsp w H a ns hlen hO hS) λH e s'=>hCX w H s₁ e s'
def J8 (s:Stmt)(j:Nat):Stmt:=match s with
 | .ClassDef _ _ _ body _ _ _ _ _ _ _=>body.getD j (.Pass ⟨0,0,0,0⟩)
 | _=>.Pass ⟨0,0,0,0⟩
def C4 (s:Stmt):Arguments:=match s with
 | .FunctionDef _ a _ _ _ _ _ _ _ _=>a
 | _=>{ posonlyargs:=[],args:=[],vararg:=none,kwonlyargs:=[],kw_defaults:=[],kwarg:=none,defaults:=[] }
def z9 (s:Stmt):List Stmt:=match s with
 | .FunctionDef _ _ b _ _ _ _ _ _ _=>b
 | _=>[]
def i3 (s:Stmt):Scope:=match s with
 | .FunctionDef _ _ _ _ _ _ sc _ _ _=>sc
 | _=>{ kind:=.function,names:=[],isGenerator:=false,isCoroutine:=false }
abbrev CX0:CXT:=λ_ _ _ _ _ _=>False
abbrev E0:XK:=λ_ _ _=>False
def vt {X:Cx}:lV CX0 X E0:=λ_ _ _ _ _ _ _ h=>h.elim
structure Fun (K:Frag)(x qual:Str)(st:Stmt)(f:Addr)(fd:FuncData):Prop where
 ex:∃(oc:Value)(od:Option Addr)(kV doc pm:Value)(an:Option Addr)(cdv ct:Value)(osl:Array (Option Value)),
  fd=fnOf x qual (C4 st) (z9 st) (i3 st) .none kV doc pm an cdv ct/\K.lookup f=some ⟨oc,od,.func fd,osl⟩/\codeIn K cdv qual=true
 kp:keepIn K (.ref f)=true
section
variable {P:Program}{w:World}{K:Frag}{mg:Str->Option Value}{base:Heap}
theorem Fun.ok {x qual:Str}{st:Stmt}{f:Addr}{fd:FuncData}{N ps:List Str}{k:Nat}{sp:Sp}(F:Fun K x qual st f fd)(S:FnScope N ps (i3 st))(len:∀vs H Q E,sp vs H Q E->vs.length=ps.length)
  (hbody:∀(cdv:Value)(A:Around)(outer:List Env)(s:Shared)(H:Hp)(vs:List V)(Q:VK)(E:XK),B5 k (A.deeper (envOfC qual (i3 st) s.heap.objs.size f cdv))->sp vs H Q E ->
   ∃t,PSs (P1 CX0 P w K mg base N qual (i3 st) f cdv A outer s H E).nox (z9 st) t/\t { nx:=λ_ H'=>Q .non H',rt:=Q } (start N vs) H):aL P w K mg base CX0 (k+1) f fd ps sp:=by
 obtain⟨oc,od,kV,doc,pm,an,cdv,ct,osl,rfl,lk,hcd⟩:=F.ex;refine kN lk hcd S len λA outer s H vs Q E hr hsp=>?_;obtain⟨t,h,q⟩:=hbody cdv A outer s H vs Q E hr hsp;exact⟨t,h.nox,q⟩
def ss {x qual:Str}{st:Stmt}{f:Addr}{oc:Value}{od an:Option Addr}{osl:Array (Option Value)}{kV doc pm cdv ct:Value}(l:K.lookup f=some ⟨oc,od,.func (fnOf x qual (C4 st) (z9 st) (i3 st) .none kV doc pm an cdv ct),osl⟩)
  (c:codeIn K cdv qual=true)(k:keepIn K (.ref f)=true):Fun K x qual st f (fnOf x qual (C4 st) (z9 st) (i3 st) .none kV doc pm an cdv ct):=⟨⟨oc,od,kV,doc,pm,an,cdv,ct,osl,rfl,l,c⟩,k⟩
end
def jn {A:Around}{k:Nat}(hr:B5 k A):A.units+1<cLine:=Nat.lt_of_le_of_lt (Nat.add_le_add_left (by decide:1<=64) _) hr.units
def k8 {n:Nat}(h:n<=1000):n<sizeLine:=Nat.lt_of_le_of_lt h (by decide)
section
variable {X:Cx}
def pv (i:Nat){x:Str}{pos:Pos}(hN:X.N[i]? = some x:=by rfl)(hv:Vis X.env.scope x:=by first|exact Or.inl rfl|exact Or.inr (Or.inl rfl)|exact Or.inr (Or.inr rfl))(hd:(x==("__debug__":Str))=false:=by decide)
  (hcd:(x==("__classdict__":Str))=false:=by decide):PE X (.Name x pos) (uO i):=wL hN hv hd hcd
end
def D9 {A B:Prop}(h:B):if false=true then A else B:=by
 rw[if_neg Bool.false_ne_true];exact h
def M6 {A B:Prop}(h:A):if true=true then A else B:=by
 rw[if_pos rfl];exact h
def B1 {c A B:Prop} [Decidable c] (h1:c->A) (h2:¬c->B):if c then A else B:=by
 by_cases h:c
 ·rw[if_pos h]
  exact h1 h
 ·rw[if_neg h]
  exact h2 h
def i9 (H H':Hp):Prop:=∀b o,H b=some o->H' b=some o
theorem i9.refl (H:Hp):i9 H H:=λ_ _ h=>h
theorem i9.trans {H H1 H2:Hp}(a:i9 H H1)(b:i9 H1 H2):i9 H H2:=λc o h=>b c o (a c o h)
theorem i9.free {H H':Hp}(e:i9 H H'){l:Addr}(h:H' l=Option.none):H l=Option.none:=by
 cases q:H l with
 | none=>rfl
 | some o =>
  rw[e l o q] at h
  cases h
theorem i9.seq {K:Frag}{H H':Hp}{a:Addr}{xs:List V}(e:i9 H H')(h:SqL K H a xs):SqL K H' a xs:=by
 rcases h with(h|⟨o,h⟩)|h
 ·exact .inl (.inl (e _ _ h))
 ·exact .inl (.inr ⟨o,e _ _ h⟩)
 ·exact .inr h
section
variable {κ:Type} [DecidableEq κ]
def F5 (kvs:List (κ×V))(k:κ):Option V:=(kvs.find? λkv=>decide (kv.1=k)).map (·.2)
def aX (kvs:List (κ×V))(k:κ)(v:V):List (κ×V) :=
 if (kvs.any λkv=>decide (kv.1=k))=true then kvs.map (λkv=>if kv.1=k then (kv.1,v) else kv) else kvs++[(k,v)]
def F8 {p:κ×V}{r:List (κ×V)}{k:κ}(e:p.1=k):F5 (p::r) k=some p.2:=by simp[F5,List.find?_cons,e]
def F9 {p:κ×V}{r:List (κ×V)}{k:κ}(e:¬p.1=k):F5 (p::r) k=F5 r k:=by simp[F5,List.find?_cons,e]
theorem aR (k:κ):∀kvs:List (κ×V),(kvs.any λkv=>decide (kv.1=k))=(F5 kvs k).isSome
 | []=>rfl
 | p::r=>by
  rw[any_cons]
  by_cases e:p.1=k
  ·simp only[F8 e,decide_eq_true e,Bool.true_or,Option.isSome_some]
  ·rw[F9 e,decide_eq_false e,Bool.false_or];exact aR k r
theorem kX (k j:κ)(y:V):∀kvs:List (κ×V),F5 (kvs.map λkv=>if kv.1=k then (kv.1,y) else kv) j=(F5 kvs j).map λx=>if j=k then y else x
 | []=>rfl
 | p::r=>by
  have ih:=kX k j y r;rw[map_cons]
  by_cases h:p.1=k
  ·rw[if_pos h]
   by_cases e:p.1=j
   ·rw[F8 (p:=(p.1,y)) e,F8 e,Option.map_some,if_pos (e.symm.trans h)]
   ·rw[F9 (p:=(p.1,y)) e,F9 e,ih]
  ·rw[if_neg h]
   by_cases e:p.1=j
   ·rw[F8 (p:=p) e,F8 e,Option.map_some,if_neg (λz=>h (e.trans z))]
   ·rw[F9 (p:=p) e,F9 e,ih]
theorem gp (k j:κ)(y:V):∀kvs:List (κ×V),F5 kvs k=none->F5 (kvs++[(k,y)]) j=if j=k then some y else F5 kvs j
 | [],_=>by
  by_cases e:k=j
  ·rw[if_pos e.symm];exact F8 (p:=(k,y)) e
  ·rw[if_neg (λz=>e z.symm)];exact F9 (p:=(k,y)) e
 | p::r,hn=>by
  rw[cons_append];have hk:¬p.1=k:=λz=>by rw[F8 z] at hn;cases hn
  rw[F9 hk] at hn;have ih:=gp k j y r hn
  by_cases e:p.1=j
  ·rw[F8 e,F8 e,if_neg (λz=>hk (e.trans z))]
  ·rw[F9 e,F9 e,ih]
def jH (kvs:List (κ×V))(k j:κ)(y:V):F5 (aX kvs k y) j=if j=k then some y else F5 kvs j:=by
 unfold aX
 by_cases a:(kvs.any λkv=>decide (kv.1=k))=true
 ·rw[if_pos a,kX]
  rw[aR] at a
  by_cases e:j=k
  ·obtain⟨x,hx⟩:=Option.isSome_iff_exists.mp a
   rw[if_pos e,e,hx,Option.map_some,if_pos rfl]
  ·rw[if_neg e]
   cases F5 kvs j with
   | none=>rfl
   | some x=>rw[Option.map_some,if_neg e]
 ·rw[if_neg a]
  refine gp k j y kvs ?_;rw[aR] at a
  cases q:F5 kvs k with
  | none=>rfl
  | some x=>rw[q] at a;exact(a rfl).elim
def R5 (kvs:List (κ×V))(k:κ)(v:V):(aX kvs k v).length<=kvs.length+1:=by
 unfold aX
 split
 ·rw[length_map];lia
 ·rw[length_append,length_cons,length_nil];lia
theorem aZ.isSome_eq {o:Option V}{u:Option Value}(r:aZ o u):o.isSome=u.isSome:=by
 cases o with
 | none=>cases u with
  | none=>rfl
  | some _=>exact(show False from r).elim
 | some _=>cases u with
  | none=>exact(show False from r).elim
  | some _=>rfl
theorem aZ.getD {o:Option V}{u:Option Value}{d:V}{d':Value}(r:aZ o u)(rd:u7 d d'):u7 (o.getD d) (u.getD d'):=by
 cases o with
 | none=>cases u with
  | none=>exact rd
  | some _=>exact(show False from r).elim
 | some _=>cases u with
  | none=>exact(show False from r).elim
  | some _=>exact r
theorem KV.val {kvs:List (κ×V)}{vs:List (κ×Value)}(r:KV kvs vs)(k:κ):aZ (F5 kvs k) (valueAt vs k):=by
 unfold KV at r
 induction r with
 | nil=>exact True.intro
 | @cons p q ps qs h t ih =>
  obtain⟨h1,h2⟩:=h
  by_cases e:p.1=k
  ·have e':q.1=k:=h1.symm.trans e
   have b:valueAt (q::qs) k=some q.2:=by simp[valueAt,List.find?_cons,e']
   rw[F8 e,b];exact h2
  ·have e':¬q.1=k:=λz=>e (h1.trans z)
   have b:valueAt (q::qs) k=valueAt qs k:=by simp[valueAt,List.find?_cons,e']
   rw[F9 e,b];exact ih
theorem KV.any {kvs:List (κ×V)}{vs:List (κ×Value)}(r:KV kvs vs)(k:κ):(kvs.any λkv=>decide (kv.1=k))=vs.any λkv=>decide (kv.1=k):=by
 unfold KV at r
 induction r with
 | nil=>rfl
 | cons h t ih=>rw[any_cons,any_cons,ih,h.1]
theorem KV.repl {kvs:List (κ×V)}{vs:List (κ×Value)}(r:KV kvs vs)(k:κ){y:V}{u:Value}(ry:u7 y u) :
  KV (kvs.map λkv=>if kv.1=k then (kv.1,y) else kv) (vs.map λkv=>if kv.1=k then (kv.1,u) else kv):=by
 unfold KV at r ⊢
 induction r with
 | nil=>exact .nil
 | @cons p q ps qs h t ih =>
  rw[map_cons,map_cons];refine .cons ?_ ih;obtain⟨h1,h2⟩:=h
  by_cases e:p.1=k
  ·rw[if_pos e,if_pos (h1.symm.trans e)];exact⟨h1,ry⟩
  ·rw[if_neg e,if_neg (λz=>e (h1.trans z))];exact⟨h1,h2⟩
theorem KV.put {kvs:List (κ×V)}{vs:List (κ×Value)}(r:KV kvs vs)(k:κ){y:V}{u:Value}(ry:u7 y u):KV (aX kvs k y) (stored vs k u):=by
 unfold aX stored;rw[r.any k]
 by_cases e:(vs.any λkv=>decide (kv.1=k))=true
 ·rw[if_pos e,if_pos e];exact r.repl k ry
 ·rw[if_neg e,if_neg e];exact Paired.snoc r ⟨rfl,ry⟩
theorem KV.length {kvs:List (κ×V)}{vs:List (κ×Value)}(r:KV kvs vs):kvs.length=vs.length:=Paired.length r
end
theorem nB {P:Program}{w:World}{k:Key}{u:Value}(r:u7 (kV k) u):(E1 P w).is k u=true:=by
 cases k with
 | inl i=>obtain⟨t,e⟩:=(show ∃t,u=Value.int i t from r);subst e;exact jw P w i t
 | inr x=>obtain⟨t,e⟩:=(show ∃t,u=Value.str x t from r);subst e;exact js P w x t
theorem wO {a b:Key}(e:kV a=kV b):a=b:=by
 cases a with
 | inl i=>cases b with
  | inl j=>have e':V.int i=V.int j:=e;injection e' with e';rw[e']
  | inr y=>exact nomatch (show V.int i=V.str y from e)
 | inr x=>cases b with
  | inl j=>exact nomatch (show V.str x=V.int j from e)
  | inr y=>have e':V.str x=V.str y:=e;injection e' with e';rw[e']
theorem fT {P:Program}{w:World}:∀{ks:List Key}{us:List Value},o9 (ks.map kV) us->ItemsAre (E1 P w) ks us
 | [],_,r=>by rw[map_nil] at r;cases r;exact .nil
 | k::ks,_,r=>by
  rw[map_cons] at r
  cases r with
  | cons h t=>exact .cons (nB h) (fT t)
abbrev KT (H:Hp):List (List Key×V)->List (List Key×Addr×Value)->Prop:=Paired λp q=>p.1=q.1/\H q.2.1=some (.tup (p.1.map kV))/\u7 p.2 q.2.2
theorem KT.val {H:Hp}{kvs:List (List Key×V)}{xs:List (List Key×Addr×Value)}(r:KT H kvs xs)(k:List Key):aZ (F5 kvs k) ((atKey xs k).map (·.2)):=by
 induction r with
 | nil=>exact True.intro
 | @cons p q ps qs h t ih =>
  obtain⟨h1,_,h2⟩:=h
  by_cases e:p.1=k
  ·have e':q.1=k:=h1.symm.trans e
   have b:atKey (q::qs) k=some q.2:=by simp[atKey,List.find?_cons,e']
   rw[F8 e,b];exact h2
  ·have e':¬q.1=k:=λz=>e (h1.trans z)
   have b:atKey (q::qs) k=atKey qs k:=by simp[atKey,List.find?_cons,e']
   rw[F9 e,b];exact ih
theorem KT.repl {H:Hp}{kvs:List (List Key×V)}{xs:List (List Key×Addr×Value)}(r:KT H kvs xs)(k:List Key){y:V}{u:Value}(ry:u7 y u) :
  KT H (kvs.map λkv=>if kv.1=k then (kv.1,y) else kv) (xs.map (putAt k u)):=by
 induction r with
 | nil=>exact .nil
 | @cons p q ps qs h t ih =>
  rw[map_cons,map_cons];refine .cons ?_ ih;obtain⟨h1,h2,h3⟩:=h;unfold putAt
  by_cases e:p.1=k
  ·rw[if_pos e,if_pos (h1.symm.trans e)];exact⟨h1,h2,ry⟩
  ·rw[if_neg e,if_neg (λz=>e (h1.trans z))];exact⟨h1,h2,h3⟩
theorem KT.put {H:Hp}{kvs:List (List Key×V)}{xs:List (List Key×Addr×Value)}(r:KT H kvs xs)(k:List Key){b:Addr}{y:V}{u:Value}(hb:H b=some (.tup (k.map kV)))(ry:u7 y u) :
  KT H (aX kvs k y) (storedH xs k b u):=by
 have e:(kvs.any λkv=>decide (kv.1=k))=(atKey xs k).isSome:=by
  rw[aR,(r.val k).isSome_eq,Option.isSome_map]
 unfold aX storedH;rw[e]
 by_cases q:(atKey xs k).isSome=true
 ·rw[if_pos q,if_pos q];exact r.repl k ry
 ·rw[if_neg q,if_neg q];exact Paired.snoc r ⟨rfl,hb,ry⟩
theorem KT.keeps {H H':Hp}{kvs:List (List Key×V)}{xs:List (List Key×Addr×Value)}(r:KT H kvs xs)(ht:∀b ys,H b=some (.tup ys)->H' b=some (.tup ys)):KT H' kvs xs :=
 Paired.mapP r λ_ _ z=>⟨z.1,ht _ _ z.2.1,z.2.2⟩
section
variable {P:Program}{w:World}{H:Hp}{h:Heap}{a:Addr}
def vy {u:HO}(ok:HOk P w H h)(e:Rd H a u):r9 P w H h a u:=e.ok ok
def oK {kvs:List (Key×V)}(ok:HOk P w H h)(e:Rd H a (.dK kvs)):kvs.length<=sizeLine/\(a==sysModules)=false/\∃vs,KV kvs vs/\h.DictOf (E1 P w) a vs :=
 show r9 P w H h a (.dK kvs) from vy ok e
def xy {kvs:List (Key×V)}(ok:HOk P w H h)(e:H a=some (.dK kvs)):kvs.length<=sizeLine/\(a==sysModules)=false/\∃vs,KV kvs vs/\h.DictOf (E1 P w) a vs:=oK ok (.inl e)
def gR {ks:List Key}(ok:HOk P w H h)(e:H a=some (.tup (ks.map kV))):(tupleKind (E1 P w)).is h ks a:=by
 obtain⟨_,its,r,o,h1,h2,n,h3⟩:=(show r9 P w H h a (.tup (ks.map kV)) from ok a _ e);exact⟨o,its.toArray,n,h1,h2,h3,by simpa using fT r⟩
def nZ {kvs:List (List Key×V)}(ok:HOk P w H h)(e:Rd H a (.dT kvs)):kvs.length<=sizeLine/\(a==sysModules)=false /\
  ∃xs,KT H kvs xs/\h.DictOfH (tupleKind (E1 P w)) a xs:=by
 obtain⟨z,y,xs,r,o,es,ep,h1,h2,h3,h4,h5⟩:=(show r9 P w H h a (.dT kvs) from vy ok e);refine⟨z,y,xs,r,o,es,ep,h1,h2,h3,h4,λx hx=>?_,h5⟩
 have all:∀{l:List (List Key×V)}{m:List (List Key×Addr×Value)},KT H l m->∀x∈m,(tupleKind (E1 P w)).is h x.1 x.2.1:=by
  intro l m q
  induction q with
  | nil=>intro x hx;exact nomatch hx
  | @cons p q ps qs hq t ih =>
   intro x hx
   rcases mem_cons.mp hx with e|hx
   ·subst e
    exact gR ok (by rw[<- hq.1];exact hq.2.1)
   ·exact ih x hx
 exact all r x hx
def xQ {kvs:List (List Key×V)}(ok:HOk P w H h)(e:H a=some (.dT kvs)):kvs.length<=sizeLine/\(a==sysModules)=false /\
  ∃xs,KT H kvs xs/\h.DictOfH (tupleKind (E1 P w)) a xs:=nZ ok (.inl e)
end
def da (H:Hp)(a:Addr)(y:V)(r:Option V):Prop :=
 (∃kvs k,Rd H a (.dK kvs)/\y=kV k/\r=F5 kvs k)\/∃kvs k b,Rd H a (.dT kvs)/\y=.ref b/\H b=some (.tup (k.map kV))/\r=F5 kvs k
def kJ (H:Hp)(a:Addr)(y v:V)(H':Hp):Prop :=
 (∃kvs k,H a=some (.dK kvs)/\y=kV k/\kvs.length<sizeLine/\H'=upd H a (.dK (aX kvs k v))) \/
 ∃kvs k b,H a=some (.dT kvs)/\y=.ref b/\H b=some (.tup (k.map kV))/\kvs.length<sizeLine/\H'=upd H a (.dT (aX kvs k v))
theorem da.k {H:Hp}{a:Addr}{kvs:List (Key×V)}{k:Key}(e:H a=some (.dK kvs)):da H a (kV k) (F5 kvs k):=.inl ⟨kvs,k,.inl e,rfl,rfl⟩
theorem da.t {H:Hp}{a b:Addr}{kvs:List (List Key×V)}{k:List Key}(e:H a=some (.dT kvs))(eb:H b=some (.tup (k.map kV))):da H a (.ref b) (F5 kvs k):=.inr ⟨kvs,k,b,.inl e,rfl,eb,rfl⟩
theorem kJ.k {H:Hp}{a:Addr}{kvs:List (Key×V)}{k:Key}{v:V}(e:H a=some (.dK kvs))(hl:kvs.length<sizeLine):kJ H a (kV k) v (upd H a (.dK (aX kvs k v))):=.inl ⟨kvs,k,e,rfl,hl,rfl⟩
theorem kJ.t {H:Hp}{a b:Addr}{kvs:List (List Key×V)}{k:List Key}{v:V}(e:H a=some (.dT kvs))(eb:H b=some (.tup (k.map kV)))(hl:kvs.length<sizeLine) :
  kJ H a (.ref b) v (upd H a (.dT (aX kvs k v))):=.inr ⟨kvs,k,b,e,rfl,eb,hl,rfl⟩
section
variable {X:Cx}{pins:List (Addr×Obj)}{σ:St}{H:Hp}{s:Shared}{a:Addr}{y v:V}{u r:Value}{o:Option V}{A:Around}{E:Value->Shared->Prop}
theorem Inv.big (I:Inv X pins σ H s):sysModules<s.heap.objs.size:=by
 have h:mainGlobals<s.heap.objs.size:=(I.mod.glob.keeps I.bk).lt;exact Nat.lt_trans (by decide) h
def yt {Q:Value->Shared->Prop}(hu:A.units+1<cLine)(I:Inv X pins σ H s)(g:da H a y o)(ry:u7 y u)(h:∀s',Inv X pins σ H s'->Q (.bool o.isSome) s') :
  wpAny (model X.prog X.w) A (compareOp .In u (.ref a)) Q E s:=by
 rcases g with⟨kvs,k,e,ey,l⟩|⟨kvs,k,b,e,ey,eb,l⟩
 ·subst ey
  obtain⟨z,hd,vs,rel,dd⟩:=oK I.hok e;refine wpAny_in_of (nB ry) hd dd.mapOf ?_;rw[<- (rel.val k).isSome_eq,<- l];exact h _ (I.tok _)
 ·subst ey
  cases (show u=Value.ref b from ry)
  obtain⟨z,hd,xs,rel,dd⟩:=nZ I.hok e;refine wpAny_in_heap (tupleKind_room_in1 hu) (gR I.hok eb) hd dd ?_;have q:=(rel.val k).isSome_eq;rw[Option.isSome_map] at q;rw[<- q,<- l];exact h _ (I.tok _)
def nF {h':Heap}{t':Nat}{ob:HO}(I:Inv X pins σ H s)(mu:Mut (H a))(hs:Heap.SameBut a s.heap h')(he:∃q,h'.get? a=some q)(new:r9 X.prog X.w (upd H a ob) h' a ob) :
  Inv X pins σ (upd H a ob) { s with heap:=h',toks:=t' } :=
 I.write (x:=a) (e:=a) mu (.inl rfl) (λb q hb z=>(hs.2 b hb).trans z) he new
def xc {P:Program}{w:World}{H':Hp}{h':Heap}{kvs:List (Key×V)}{vs:List (Key×Value)}(z:kvs.length<=sizeLine)(hd:(a==sysModules)=false)(rel:KV kvs vs)(dd:h'.DictOf (E1 P w) a vs) :
  r9 P w H' h' a (.dK kvs):=⟨z,hd,vs,rel,dd⟩
def pM {H':Hp}{Q:Unit->Shared->Prop}(hu:A.units+1<cLine)(I:Inv X pins σ H s)(g:kJ H a y v H')(ry:u7 y u)(rv:u7 v r)(h:∀s',Inv X pins σ H' s'->Q () s') :
  wpAny (model X.prog X.w) A (setItem (.ref a) u r) Q E s:=by
 rcases g with⟨kvs,k,e,ey,l,eH⟩|⟨kvs,k,b,e,ey,eb,l,eH⟩
 ·subst ey eH
  obtain⟨z,hd,vs,rel,dd⟩:=xy I.hok e;have hz:vs.length<=sizeLine:=by rw[<- rel.length];exact z
  have hl:(aX kvs k v).length<=sizeLine:=by have:=R5 kvs k v;lia
  refine wpAny_setItem_pairs (hsz:=hz) (nB ry) dd λh' dd' hs=>h _ ?_;have he:∃q,h'.get? a=some q:=let ⟨q,_,_,hq,_⟩:=dd';⟨q,hq⟩;exact nF I (by rw[e];exact True.intro) hs he (xc hl hd (rel.put k rv) dd')
 ·subst ey eH
  cases (show u=Value.ref b from ry)
  obtain⟨z,hd,xs,rel,dd⟩:=xQ I.hok e;have hz:xs.length<=sizeLine:=by rw[<- Paired.length rel];exact z
  have hl:(aX kvs k v).length<=sizeLine:=by have:=R5 kvs k v;lia
  refine wpAny_setItem_heap (hsz:=hz) (tupleKind_room_in1 hu) (gR I.hok eb) dd λh' dd' hs=>h _ ?_;obtain⟨q,es,ep,hq,h2,h3,h4,_,h5⟩:=dd';refine nF I (by rw[e];exact True.intro) hs ⟨q,hq⟩ ⟨hl,hd,_,(rel.put k eb rv).keeps λc ys ec=>?_,q,es,ep,hq,h2,h3,h4,h5⟩
  rw[j2 (xB ec e (λz=>nomatch z))];exact ec
end
def yr (ty td:TE):TE:=λσ H Q=>ty σ H λy H1=>td σ H1 λx H2=>∃a o,x=.ref a/\da H2 a y o/\Q (.bl o.isSome) H2
def xT (td ty tv:TE):TS:=λD σ H=>tv σ H λv H1=>td σ H1 λx H2=>ty σ H2 λy H3=>∃a H4,x=.ref a/\kJ H3 a y v H4/\D.nx σ H4
section
variable {X:Cx}{o i e value:Expr}{pos pos' tpos:Pos}{td ty tv:TE}
def tD (hu:X.A.units+1<cLine)(hi:PE X i ty)(ho:PE X o td):PC X .In i o (yr ty td):=by
 intro pins s σ H Q I h
 refine thn (hi pins s σ H _ I h) λiv s1 ⟨y,H1,I1,ry,q1⟩=>thn (ho pins s1 σ H1 _ I1 q1) λu s2 ⟨x,H2,I2,rx,a,ov,ex,g,q2⟩=>?_;subst ex;obtain rfl:u=Value.ref a:=rx;exact yt hu I2 g ry λs3 I3=>⟨.bl ov.isSome,H2,I3,rfl,q2⟩
def nu (hu:X.A.units+1<cLine)(ho:PE X o td)(hi:PE X i ty)(hv:PE X value tv)(hs:swapsWith value (some (.Subscript o i pos')) pos.line X.env=pure false) :
  PS X (.Assign [.Subscript o i pos'] value pos) (xT td ty tv):=by
 intro pins s σ H D I h
 refine wpAny_Assign_Subscript (thn (hv pins s σ H _ I h) λr s1 ⟨v,H1,I1,rv,q1⟩=>thn (ho pins s1 σ H1 _ I1 q1) λu s2 ⟨x,H2,I2,rx,q2⟩=>thn (hi pins s2 σ H2 _ I2 q2) λiv s3 ⟨y,H3,I3,ry,a,H4,ex,g,q3⟩=>?_) hs;subst ex;obtain rfl:u=Value.ref a:=rx;exact pM hu I3 g ry rv λs4 I4=>⟨σ,H4,I4,q3⟩
end
def rc {P:Program}{w:World}{H:Hp}(h:Heap)(hb:sysModules<h.objs.size):r9 P w H (h.push { cls:=.type "dict",data:=.dict #[] }) h.objs.size (.dK []) :=
 ⟨Nat.zero_le _,beq_eq_false_iff_ne.mpr (Ne.symm (Nat.ne_of_lt hb)),[],.nil,Heap.DictOf.new h⟩
def rR {P:Program}{w:World}{H:Hp}(h:Heap)(hb:sysModules<h.objs.size):r9 P w H (h.push { cls:=.type "dict",data:=.dict #[] }) h.objs.size (.dT []) :=
 ⟨Nat.zero_le _,beq_eq_false_iff_ne.mpr (Ne.symm (Nat.ne_of_lt hb)),[],.nil,_,#[],0,Heap.get?_push_size _ rfl,⟨rfl,rfl,rfl⟩,rfl,rfl,nodup_nil⟩
def wg:TE:=λ_ H Q=>∀p,H p=none->Q (.ref p) (upd H p (.dK []))
def vR:TE:=λ_ H Q=>∀p,H p=none->Q (.ref p) (upd H p (.dT []))
section
variable {X:Cx}{pos:Pos}
def qV:PE X (.Dict [] [] pos) wg:=λpins s σ H Q I h =>
 wpAny_Dict_empty ⟨.ref s.heap.objs.size,_,I.laid (a:=s.heap.objs.size) (o:=.dK []) (t':=s.toks) (λ_ _ q=>Heap.get?_push_of_some _ q) (Nat.le_refl _) (rc s.heap I.big),rfl,h _ (I.hok.fresh (Nat.le_refl _))⟩
def sV:PE X (.Dict [] [] pos) vR:=λpins s σ H Q I h =>
 wpAny_Dict_empty ⟨.ref s.heap.objs.size,_,I.laid (a:=s.heap.objs.size) (o:=.dT []) (t':=s.toks) (λ_ _ q=>Heap.get?_push_of_some _ q) (Nat.le_refl _) (rR s.heap I.big),rfl,h _ (I.hok.fresh (Nat.le_refl _))⟩
end
structure M2 (X:Cx)(o:Expr)(m:Str)(apos:Pos)(e f:Expr)(cpos:Pos):Prop where
 base:attributeBase o m X.env (eval o X.env)=eval o X.env
 few:((backTo cpos (starEach [e,f] X.env)).all (λx=>!x.1)&&(backToKw cpos (keywordEach [] X.env)).all (λx=>x.1.isSome)
 &&decide (([e,f]:List Expr).length+([]:List Keyword).length+(if ([]:List Keyword).isEmpty then 0 else 1)<30))=true
 line:(apos.endLine==cpos.line)=true
 trees:backTo cpos (starEach [e,f] X.env)=[(false,eval e X.env),(false,eval f X.env)]
def IsD (H:Hp)(a:Addr):Prop:=(∃kvs,Rd H a (.dK kvs))\/∃kvs,Rd H a (.dT kvs)
def wn {X:Cx}{pins:List (Addr×Obj)}{σ:St}{H:Hp}{s:Shared}{a:Addr}(I:Inv X pins σ H s)(d:IsD H a) :
  s.TypeIs (.ref a) "dict"/\(∀b,Value.ref a=.ref b->∃ob,s.heap.get? b=some ob/\ob.dict=none)/\(a==sysModules)=false:=by
 rcases d with⟨kvs,e⟩|⟨kvs,e⟩
 ·obtain⟨_,hd,vs,_,dd⟩:=oK I.hok e
  refine⟨dd.typeIs,λb q=>?_,hd⟩
  cases q
  obtain⟨ob,_,_,h1,h2,_⟩:=dd;exact⟨ob,h1,h2.2.1⟩
 ·obtain⟨_,hd,xs,_,dd⟩:=nZ I.hok e
  refine⟨dd.typeIs,λb q=>?_,hd⟩
  cases q
  obtain⟨ob,_,_,h1,h2,_⟩:=dd;exact⟨ob,h1,h2.2.1⟩
section
variable {X:Cx}{pins:List (Addr×Obj)}{σ:St}{H:Hp}{s:Shared}{a:Addr}{y d:V}{u r:Value}{o:Option V}{A:Around}{E:Value->Shared->Prop}
def wF {Q:Value->Shared->Prop}(hu:A.units+1<cLine)(I:Inv X pins σ H s)(g:da H a y o)(ry:u7 y u)(rd:u7 d r)(h:∀w' s',Inv X pins σ H s'->u7 (o.getD d) w'->Q w' s') :
  wpAny (model X.prog X.w) A (call (.builtin "dict.get") [.ref a,u,r]) Q E s:=by
 rcases g with⟨kvs,k,e,ey,l⟩|⟨kvs,k,b,e,ey,eb,l⟩
 ·subst ey
  obtain⟨z,hd,vs,rel,dd⟩:=oK I.hok e;refine call_meetsIn PySem.F.slot_dict_get dd.typeIs PySem.F.entry_dict_get (PySem.F.args_dict_get_3 _ _ _) (meets_dict_get_default (E1 X.prog X.w) a (nB ry) hd r) ⟨_,dd.mapOf,h _ _ (I.tok _) ?_⟩;rw[l];exact(rel.val k).getD rd
 ·subst ey
  cases (show u=Value.ref b from ry)
  obtain⟨z,hd,xs,rel,dd⟩:=nZ I.hok e;refine call_meetsIn PySem.F.slot_dict_get dd.typeIs PySem.F.entry_dict_get (PySem.F.args_dict_get_3 _ _ _) (meetsH_dict_get_default (tupleKind (E1 X.prog X.w)) a b hd r) ⟨tupleKind_room_in1 hu,k,xs,gR I.hok eb,dd,h _ _ (I.tok _) ?_⟩;rw[l];exact(rel.val k).getD rd
end
def vQ (td ty tx:TE):TE:=λσ H Q=>td σ H λx H1=>∃a,x=.ref a/\IsD H1 a/\ty σ H1 λy H2=>tx σ H2 λz H3=>∃o,da H3 a y o/\Q (o.getD z) H3
section
variable {X:Cx}{o e f:Expr}{apos cpos:Pos}{td ty tx:TE}
def rq (hu:X.A.units+1<cLine)(ho:PE X o td)(he:PE X e ty)(hf:PE X f tx)(m:M2 X o "get" apos e f cpos):PE X (.Call (.Attribute o "get" apos) [e,f] [] cpos) (vQ td ty tx):=by
 intro pins s σ H Q I h
 refine wpAny_Call_method m.base m.few m.line PySem.F.plainAttrs_dict PySem.F.slot_dict_get PySem.F.type_dict_get (thn (ho pins s σ H _ I h) λu s1 ⟨x,H1,I1,rx,a,ex,d,q1⟩=>?_);subst ex;obtain rfl:u=Value.ref a:=rx;obtain⟨t1,t2,_⟩:=wn I1 d;refine⟨t1,t2,?_⟩;rw[m.trees]
 refine Calls.callWith_builtin rfl (Calls.evalArgs_plain (Calls.spliced_cons (thn (he pins s1 σ H1 _ I1 q1) λiv s2 ⟨y,H2,I2,ry,q2⟩ =>
  Calls.spliced_cons (thn (hf pins s2 σ H2 _ I2 q2) λfv s3 ⟨z,H3,I3,rz,ov,g,q3⟩=>Calls.spliced_nil ?_))))
 exact wF hu I3 g ry rz λw' s4 I4 rw'=>⟨_,H3,I4,rw',q3⟩
end
section
variable {κ:Type} [DecidableEq κ]
theorem gw:∀{l:List κ}{k:κ},l.Nodup->¬k∈l->(l++[k]).Nodup
 | [],k,_,_=>by simp
 | a::r,k,h,hk=>by
  obtain⟨h1,h2⟩:=List.nodup_cons.mp h
  show(a::(r++[k])).Nodup
  refine List.nodup_cons.mpr ⟨λm=>?_,gw h2 λm=>hk (mem_cons.mpr (Or.inr m))⟩
  rcases mem_append.mp m with q|q
  ·exact h1 q
  ·exact hk (mem_cons.mpr (Or.inl (mem_singleton.mp q).symm))
end
end L2
set_option maxHeartbeats 0
namespace L2
open PySem PySem.Spec PyProof.Rows
def dJ {scope:Scope}{env:Env}(h:∀x,(x,NameKind.free)∈scope.names->∃c,env.cells.lookup x=some c) :
  ∃cl,closureFor scope env=pure cl/\(∀x c,cl.lookup x=some c->env.cells.lookup x=some c)/\∀x,(x,NameKind.free)∈scope.names->∃c,cl.lookup x=some c:=by
 have go:∀(names:List (Str×NameKind))(acc:List (Str×Addr)),(∀x,(x,NameKind.free)∈names->∃c,env.cells.lookup x=some c)->(∀x c,acc.lookup x=some c->env.cells.lookup x=some c) ->
   ∃cl,(forIn names acc λ(p:Str×NameKind) (r:List (Str×Addr))=>if p.2==.free then (do let a <- cellOf env p.1;pure (ForInStep.yield ((p.1,a)::r))) else pure (ForInStep.yield r):Sem (List (Str×Addr)))=pure cl /\
    (∀x c,cl.lookup x=some c->env.cells.lookup x=some c)/\(∀x c,acc.lookup x=some c->∃c',cl.lookup x=some c')/\∀x,(x,NameKind.free)∈names->∃c,cl.lookup x=some c:=by
  intro names
  induction names with
  | nil=>intro acc _ ha;exact⟨acc,rfl,ha,λx c e=>⟨c,e⟩,λx z=>nomatch z⟩
  | cons p r ih =>
   intro acc hn ha
   obtain⟨n,k⟩:=p;rw[List.forIn_cons]
   cases hk:(k==NameKind.free) with
   | false =>
    obtain⟨cl,h1,h2,h3,h4⟩:=ih acc (λx z=>hn x (mem_cons_of_mem _ z)) ha;refine⟨cl,?_,h2,h3,λx z=>?_⟩
    ·simp only[hk,Bool.false_eq_true,if_false,pure_bind]
     exact h1
    ·rcases mem_cons.mp z with e|z
     ·injection e with e1 e2
      rw[<- e2] at hk;exact absurd hk (by decide)
     ·exact h4 x z
   | true =>
    have ek:k=.free:=by simpa using hk
    subst ek;obtain⟨c,hc⟩:=hn n mem_cons_self;have hcell:cellOf env n=pure c:=by unfold cellOf;rw[hc]
    obtain⟨cl,h1,h2,h3,h4⟩:=ih ((n,c)::acc) (λx z=>hn x (mem_cons_of_mem _ z)) (λx c' e=>by
     rw[lookup_cons] at e
     cases hx:x==n with
     | true =>
      rw[hx] at e;have e':c=c':=Option.some.inj e;have ex:x=n:=by simpa using hx
      rw[ex,<- e'];exact hc
     | false=>rw[hx] at e;exact ha x c' e)
    refine⟨cl,?_,h2,λx c' e=>?_,λx z=>?_⟩
    ·simp only[beq_self_eq_true,if_true,hcell,pure_bind]
     exact h1
    ·cases hx:x==n with
     | true=>exact h3 x c (by rw[lookup_cons,hx])
     | false=>exact h3 x c' (by rw[lookup_cons,hx];exact e)
    ·rcases mem_cons.mp z with e|z
     ·injection e with e1 e2
      exact h3 x c (by rw[e1,lookup_cons];simp)
     ·exact h4 x z
 obtain⟨cl,h1,h2,_,h4⟩:=go scope.names [] h (λx c e=>nomatch e);refine⟨cl,?_,h2,h4⟩;rw[<- h1];unfold closureFor
 simp only[bind_pure]
def C8 (X:Cx)(scope:Scope)(cl:List (Str×Addr))(C:Addr)(N:List Str)(s:Shared)(H:Hp)(ex:List Addr):Cx where
 prog:=X.prog
 w:=X.w
 K:=X.K
 mg:=X.mg
 base:=X.base
 A:=X.A
 N:=N
 s₀:=s
 H₀:=H
 env:=compEnvC scope cl C X.env
 outer:=X.stack
 stack:=X.stack
 ex:=ex
 calm:=X.calm
 fn:=λx=>match scope.names.lookup x with | some .cell=>true | _=>false
 pn:=[]
 xe:=λ_ _=>False
theorem N2 {env:Env}:∀{names:List (Str×NameKind)}{x:Str}{k:NameKind},
  (names.map λ(n,k)=>if (k==NameKind.free&&env.scope.kind==.function&&env.kindOf n==some .cell) then (n,NameKind.cell) else (n,k)).lookup x=some k ->
  ∃k',names.lookup x=some k'/\(k'=k\/(k'=.free/\k=.cell))
 | [],_,_,h=>by simp at h
 | (n,kk)::r,x,k,h=>by
  have ih:=@N2 env r x k;have h':List.lookup x ((if (kk==NameKind.free&&env.scope.kind==.function&&env.kindOf n==some .cell)=true then (n,NameKind.cell) else (n,kk))::r.map λ(n,k)=>if (k==NameKind.free&&env.scope.kind==.function&&env.kindOf n==some .cell) then (n,NameKind.cell) else (n,k))=some k:=h
  cases hx:x==n with
  | true =>
   by_cases hc:(kk==NameKind.free&&env.scope.kind==.function&&env.kindOf n==some .cell)=true
   ·rw[if_pos hc,lookup_cons,hx] at h'
    have e:NameKind.cell=k:=Option.some.inj h'
    have hf:kk=.free:=by
     rw[Bool.and_eq_true,Bool.and_eq_true] at hc
     simpa using hc.1.1
    exact⟨kk,by rw[lookup_cons,hx],.inr ⟨hf,e.symm⟩⟩
   ·rw[if_neg hc,lookup_cons,hx] at h'
    exact⟨kk,by rw[lookup_cons,hx],.inl (Option.some.inj h')⟩
  | false =>
   have h2:List.lookup x (r.map λ(n,k)=>if (k==NameKind.free&&env.scope.kind==.function&&env.kindOf n==some .cell) then (n,NameKind.cell) else (n,k))=some k:=by
    by_cases hc:(kk==NameKind.free&&env.scope.kind==.function&&env.kindOf n==some .cell)=true
    ·rw[if_pos hc,lookup_cons,hx] at h';exact h'
    ·rw[if_neg hc,lookup_cons,hx] at h';exact h'
   obtain⟨k',e1,e2⟩:=ih h2;exact⟨k',by rw[lookup_cons,hx];exact e1,e2⟩
structure CompScope (N:List Str)(osc scope:Scope)(own:List Str)(fr:List (Nat×Str)):Prop where
 kind:scope.kind=.function
 cells:∀y∈scope.names,y.2=.cell->scope.names.lookup y.1=some .cell
 locs:∀y∈scope.names,y.2=.local->scope.names.lookup y.1=some .local
 free:∀y∈scope.names,y.2=.free->osc.names.lookup y.1=some .cell\/osc.names.lookup y.1=some .free
 slot:∀p∈fr,N[p.1]? = some p.2/\scope.names.lookup p.2=some .free
theorem HOk.track {P:Program}{w:World}{H:Hp}{h:Heap}{a:Addr}{o:HO}(x:HOk P w H h)(hn:H a=none)(new:r9 P w (upd H a o) h a o):HOk P w (upd H a o) h:=λb u e=>by
 by_cases hb:b=a
 ·subst hb;rw[c6] at e;cases e;exact new
 ·rw[j2 hb] at e
  exact(x b u e).stay (λc v _ q=>q) (λc q=>by rw[j2 (n9 q hn)];exact q) λc xs q=>by rw[j2 (n9 q hn)];exact q
theorem HOk.but {P:Program}{w:World}{H:Hp}{h h':Heap}{a:Addr}(x:HOk P w H h)(hn:H a=none)(k:∀b o,b≠a->h.get? b=some o->h'.get? b=some o):HOk P w H h':=λb u e =>
 (x b u e).stay (λc v hc q=>k c v (by
  rintro rfl
  rcases hc with rfl|hc
  ·rw[hn] at e;cases e
  ·rw[hn] at hc;cases hc) q) (λ_ q=>q) λ_ _ q=>q
theorem Un.track {fs ex:List Addr}{H H':Hp}{h h':Heap}{a:Addr}{o:HO}(u:Un fs ex H H' h h')(ha:h.objs.size<=a)(hn:H a=none):Un fs ex H (upd H' a o) h h' where
 keep:=u.keep
 slot:=u.slot
 free:=λb ob q n hx=>by rw[j2 (Nat.ne_of_lt (Nat.lt_of_lt_of_le (Heap.lt_size q) ha))];exact u.free b ob q n hx
 there:=u.there
 tups:=λb xs q=>by rw[j2 (n9 q hn)];exact u.tups b xs q
 frzs:=λb ob v q=>by rw[j2 (n9 q hn)];exact u.frzs b ob v q
 tbls:=λb ps q=>by rw[j2 (n9 q hn)];exact u.tbls b ps q
theorem Un.but {fs ex:List Addr}{H H':Hp}{h h' h'':Heap}{a:Addr}(u:Un fs ex H H' h h')(ha:h.objs.size<=a)(k:∀b o,b≠a->h'.get? b=some o->h''.get? b=some o):Un fs ex H H' h h'' where
 keep:=λb ob q n hb hx=>k b ob (Nat.ne_of_lt (Nat.lt_of_lt_of_le (Heap.lt_size q) ha)) (u.keep b ob q n hb hx)
 slot:=λb ob q n hb hx=>let ⟨sl,e⟩:=u.slot b ob q n hb hx;⟨sl,k b _ (Nat.ne_of_lt (Nat.lt_of_lt_of_le (Heap.lt_size q) ha)) e⟩
 free:=u.free
 there:=λb ob q hx=>let ⟨o',e⟩:=u.there b ob q hx;⟨o',k b _ (Nat.ne_of_lt (Nat.lt_of_lt_of_le (Heap.lt_size q) ha)) e⟩
 tups:=u.tups
 frzs:=u.frzs
 tbls:=u.tbls
structure kB (scope:Scope)(nw:List (Str×Addr))(h1:Heap)(C:Addr):Prop where
 ok:∀n c,(n,c)∈nw->h1.IsCell c none/\C<c
 apart:nw.Pairwise λx y=>x.2≠y.2
 has:∀x,scope.names.lookup x=some .cell->∃c,nw.lookup x=some c
 of:∀x c,nw.lookup x=some c->(x,NameKind.cell)∈scope.names
theorem K7:∀(names:List (Str×NameKind))(n:Nat)(acc:List (Str×Addr)),cellsFrom n names acc=cellsFrom n names []++acc
 | [],_,_=>rfl
 | (x,k)::r,n,acc=>by
  unfold cellsFrom
  split
  ·rw[K7 r (n+1) ((x,n)::acc),K7 r (n+1) [(x,n)],List.append_assoc]
   rfl
  ·exact K7 r n acc
theorem V4:∀(names:List (Str×NameKind))(n:Nat)(x:Str)(c:Addr),(x,c)∈cellsFrom n names []->(x,NameKind.cell)∈names
 | [],_,_,_,h=>nomatch h
 | (y,k)::r,n,x,c,h=>by
  unfold cellsFrom at h
  split at h
  ·rename_i hk
   rw[K7] at h
   rcases mem_append.mp h with h|h
   ·exact mem_cons_of_mem _ (V4 r _ x c h)
   ·rw[mem_singleton] at h
    cases h
    have:k=.cell:=by simpa using hk
    rw[this];exact mem_cons_self ..
  ·exact mem_cons_of_mem _ (V4 r _ x c h)
theorem L7 {α:Type}{x:Str}{a b:List (Str×α)}{c:α}(h:(a++b).lookup x=some c):a.lookup x=some c\/(a.lookup x=none/\b.lookup x=some c):=by
 induction a with
 | nil=>exact .inr ⟨rfl,h⟩
 | cons p r ih =>
  rw[cons_append,lookup_cons] at h;rw[lookup_cons]
  cases hx:x==p.1 with
  | true=>rw[hx] at h;exact .inl h
  | false=>rw[hx] at h;exact ih h
theorem T7 {α:Type}{x:Str}{a b:List (Str×α)}{c:α}(h:a.lookup x=some c):(a++b).lookup x=some c:=by
 induction a with
 | nil=>cases h
 | cons p r ih =>
  rw[lookup_cons] at h;rw[cons_append,lookup_cons]
  cases hx:x==p.1 with
  | true=>rw[hx] at h;exact h
  | false=>rw[hx] at h;exact ih h
theorem bi {α:Type}{x:Str}{a b:List (Str×α)}{c:α}(h:a.lookup x=none)(h2:b.lookup x=some c):(a++b).lookup x=some c:=by
 induction a with
 | nil=>exact h2
 | cons p r ih =>
  rw[lookup_cons] at h;rw[cons_append,lookup_cons]
  cases hx:x==p.1 with
  | true=>rw[hx] at h;cases h
  | false=>rw[hx] at h;exact ih h
def eX {M:Model}{A:Around}{E:Value->Shared->Prop}{s:Shared}{scope:Scope}{globals:Addr}{closure:List (Str×Addr)}{qual:Str}{outer:Env}{Q:Env->Shared->Prop}
  (hQ:∀nw h1,kB scope nw h1 s.heap.objs.size->h1.Ns s.heap.objs.size (λ_=>none)->(∀b o,s.heap.get? b=some o->h1.get? b=some o) ->
   Q { scope,locals:=s.heap.objs.size,globals,cells:=nw++closure,qual,func:=none,code:=outer.code,frame:=outer.frame,builtins:=outer.builtins } { s with heap:=h1 }) :
  wpAny M A (newFunctionEnv scope globals closure [] qual none .none (some outer)) Q E s:=by
 simp only[newFunctionEnv,Option.isSome_some,if_true]
 refine w_ (wpAny_alloc ?_);refine w_ (wpAny_layCells _ (λname kind cells=>by cases hkc:kind==NameKind.cell<;>simp[hkc]) _ _ _ _ ?_)
 have ok:=cellsFrom_ok scope.names (s.heap.push { cls:=.type "dict",data:=.dict #[] }) (s.heap.objs.size+1) [] ⟨λ_ _ hm=>(nomatch hm),List.Pairwise.nil⟩ (by rw[Heap.size_push];exact Nat.le_refl _)
 rw[Heap.size_push] at ok;rw[show({ s with heap:=s.heap.push { cls:=.type "dict",data:=.dict #[] } }:Shared).heap.objs.size=s.heap.objs.size+1 from Heap.size_push ..]
 rw[List.forIn_nil];refine w_ (u_ (u_ ?_));rw[K7]
 exact hQ _ _ ⟨λn c h=>⟨(ok.empty n c h).1,(ok.empty n c h).2⟩,ok.apart,λx h=>dX h,λx c h=>V4 _ _ x c (PySem.mem_of_lookup h)⟩
  ((Heap.Ns.new s.heap (.type "dict")).keeps (pushCells_keeps _ _)) λb o e=>pushCells_keeps _ _ b o (Heap.get?_push_of_some _ e)
def qw (X:Cx)(ifs:List Expr)(t:TT):Prop :=
 ∀(pins:List (Addr×Obj))(s:Shared)(σ:St)(H:Hp)(Q:Bool->Hp->Prop),Inv X pins σ H s->t σ H Q ->
  wpAny (model X.prog X.w) X.A (forIn ifs true λc r=>if r=true then do let ok <- isTrue c X.env (eval c X.env);pure (ForInStep.yield ok) else pure (ForInStep.yield r)) (TP X pins σ Q) X.xe s
def yB:TT:=λ_ H Q=>Q true H
def F4 {X:Cx}:qw X [] yB:=λ_ _ _ H Q I h=>wpAny_tests_nil ⟨H,I,h⟩
def aM {X:Cx}{c:Expr}{t:TT}(h:PT X c t):qw X [c] t:=λpins s σ H Q I q=>wpAny_tests_one (h pins s σ H Q I q)
def F7 (own:List Str)(fr:List (Nat×Str))(σ:St):St:=own.map (λ_=>none)++fr.map λp=>(σ[p.1]?).join
def bS (J:It)(g:TG)(tt:TT)(te:TE)(Q:VK)(σ₀:St)(H1:Hp):Prop :=
 ∃W:Nat->Nat->List V->St->Hp->Prop,(∃m,W 0 m [] σ₀ H1)/\∀i m acc σ' H',W i m acc σ' H' ->
  (J.stop i H'/\acc.length<=sizeLine/\∀p,H' p=none->Q (.ref p) (upd H' p (.lst acc))) \/
  (J.go i H'/\acc.length<sizeLine/\∃N:List V->St->Hp->Prop,(∀acc σ' H',N acc σ' H'->∃m',m'<m/\W (i+1) m' acc σ' H')/\∀x H'',J.yld i H' x H''->g x σ' H'' λσ2 H2=>tt σ2 H2 λok H3=>if ok=true then te σ2 H3 λy H4=>N (acc++[y]) σ2 H4 else N acc σ2 H3)
def vp (own:List Str)(fr:List (Nat×Str))(wi:TI)(g:TG)(tt:TT)(te:TE):TE:=λσ H Q=>wi σ H λJ H1=>bS J g tt te Q (F7 own fr σ) H1
section
variable {X:Cx}{tg iter elt:Expr}{ifs:List Expr}{scope:Scope}{own:List Str}{fr:List (Nat×Str)}{pos:Pos}
def sR {pins:List (Addr×Obj)}{σ:St}{H:Hp}{s:Shared}{cl:List (Str×Addr)}{ex:List Addr}{h1:Heap}{m:Str->Option Value}{C:Addr}{t':Nat}(S:CompScope X.N X.env.scope scope own fr)(I:Inv X pins σ H s)
  (hcl:∀x c,cl.lookup x=some c->X.env.cells.lookup x=some c)(hcl2:∀x,(x,NameKind.free)∈scope.names->∃c,cl.lookup x=some c)(hex:∀b∈ex,eA X pins H b/\b<s.heap.objs.size)
  (hC:s.heap.objs.size<=C)(k:∀b o,s.heap.get? b=some o->h1.get? b=some o)(hn:h1.Ns C m){nw:List (Str×Addr)}(nc:kB scope nw h1 C) :
  Inv (C8 X scope (nw++cl) C (own++fr.map (·.2)) s H ex) [] (F7 own fr σ) H { s with heap:=h1,toks:=t' }:=by
 have okX:=I.ok;have isNew:∀x c,nw.lookup x=some c->C<c:=λx c e=>(nc.ok x c (PySem.mem_of_lookup e)).2
 have isOld:∀x c,cl.lookup x=some c->c<C:=λx c e=>by
  obtain⟨v,o,ho,_⟩:=I.cell x c (hcl x c e);exact Nat.lt_of_lt_of_le (Heap.lt_size ho) hC
 have hinj:∀x y c,(nw++cl).lookup x=some c->(nw++cl).lookup y=some c->x=y:=λx y c e1 e2=>by
  rcases L7 e1 with a|⟨_,a⟩<;>rcases L7 e2 with b|⟨_,b⟩
  ·exact name_of_addr nc.apart (PySem.mem_of_lookup a) (PySem.mem_of_lookup b)
  ·exact absurd (Nat.lt_trans (isNew x c a) (isOld y c b)) (Nat.lt_irrefl _)
  ·exact absurd (Nat.lt_trans (isNew y c b) (isOld x c a)) (Nat.lt_irrefl _)
  ·exact okX.inj x y c (hcl x c a) (hcl y c b)
 have hasF:∀x,(x,NameKind.free)∈scope.names->∃c,(nw++cl).lookup x=some c:=λx hx=>by
  obtain⟨c,e⟩:=hcl2 x hx
  cases z:nw.lookup x with
  | none=>exact⟨c,bi z e⟩
  | some c'=>exact⟨c',T7 z⟩
 refine⟨⟨okX.mod,?_,okX.glob,okX.blt,hC,hinj,λx hx=>?_,λx c e1 e2=>?_,okX.hd,okX.frames,.inl rfl,λb hb=>?_,I.bs,Nat.le_trans okX.bsz I.sz,λb o e hb=>?_,λb hb hf=>?_,I.stack,I.stkFree⟩,
  rfl,I.bare,Un.kept k,⟨m,hn,λi x v e1 e2 e3=>?_⟩,λx c e=>?_,I.hok.fresh hC,λx c e=>?_,λp hp=>absurd (show p∈([]:List (Addr×Obj)) from hp) (by simp),I.hok.kept k,?_⟩
 ·exact S.kind
 ·-- a cell's or a free name
  have hx':(relabel scope X.env).names.lookup x=some .cell\/(relabel scope X.env).names.lookup x=some .free:=hx
  have hfree:scope.names.lookup x=some .cell\/scope.names.lookup x=some .free:=by
   rcases hx' with q|q
   ·obtain⟨k',e1,e2⟩:=N2 q
    rcases e2 with e2|⟨e2,_⟩
    ·exact .inl (by rw[e1,e2])
    ·exact .inr (by rw[e1,e2])
   ·obtain⟨k',e1,e2⟩:=N2 q
    rcases e2 with e2|⟨e2,e3⟩
    ·exact .inr (by rw[e1,e2])
    ·cases e3
  rcases hfree with hfree|hfree
  ·obtain⟨c,e⟩:=nc.has x hfree
   exact⟨c,T7 e⟩
  ·exact hasF x (PySem.mem_of_lookup hfree)
 ·-- an own cell is new
  have e1':(match scope.names.lookup x with | some .cell=>true | _=>false)=true:=e1
  have hce:scope.names.lookup x=some .cell:=by
   split at e1'
   ·assumption
   ·cases e1'
  obtain⟨c',e⟩:=nc.has x hce;have e2':(nw++cl).lookup x=some c:=e2;rw[T7 e] at e2'
  cases e2'
  exact Nat.le_trans hC (Nat.le_of_lt (isNew x c e))
 ·obtain⟨⟨f0,f1,f2,f3,f4,f5⟩,f6⟩:=hex b hb
  refine⟨Nat.ne_of_lt (Nat.lt_of_lt_of_le f6 hC),λx c e=>?_⟩
  rcases L7 (show(nw++cl).lookup x=some c from e) with a|⟨_,a⟩
  ·exact Nat.ne_of_gt (Nat.lt_trans (Nat.lt_of_lt_of_le f6 hC) (isNew x c a))
  ·exact f4 x c (hcl x c a)
 ·obtain⟨⟨f0,f1,f2,f3,f4,f5⟩,f6⟩:=hex b hb
  rcases f3 with f3|f3
  ·exact okX.noex b o e f3
  ·exact absurd (Nat.lt_of_lt_of_le (Heap.lt_size e) (Nat.le_trans okX.bsz f3)) (Nat.lt_irrefl _)
 ·obtain⟨⟨f0,f1,f2,f3,f4,f5⟩,f6⟩:=hex b hb
  rcases mem_cons.mp (I.stkSub b hf) with z|z
  ·exact f1 z
  ·exact f2 z
 ·-- the values of the free names
  have e1':(own++fr.map (·.2))[i]? = some x:=e1
  have hi:own.length<=i:=by
   by_cases h:i<own.length
   ·unfold F7 at e2
    rw[List.getElem?_append_left (by simpa using h),List.getElem?_map] at e2
    cases q:own[i]? with
    | none=>rw[q] at e2;cases e2
    | some z=>rw[q] at e2;cases e2
   ·lia
  unfold F7 at e2;rw[List.getElem?_append_right (by simpa using hi),List.getElem?_map,length_map] at e2
  rw[List.getElem?_append_right hi,List.getElem?_map] at e1'
  cases q:fr[i-own.length]? with
  | none=>rw[q] at e2;cases e2
  | some p =>
   rw[q] at e2 e1';have e1':p.2=x:=Option.some.inj e1';have e2':(σ[p.1]?).join=some v:=Option.some.inj e2;obtain⟨hs1,hs2⟩:=S.slot p (List.mem_of_getElem? q);rw[e1'] at hs1 hs2
   have e2'':σ[p.1]? = some (some v):=by
    cases z:σ[p.1]? with
    | none=>rw[z] at e2';cases e2'
    | some y=>rw[z] at e2';exact congrArg some e2'
   obtain⟨mX,hnX,hlX⟩:=I.loc;have hfr:=S.free (x,.free) (PySem.mem_of_lookup hs2) rfl
   have hvis:Vis X.env.scope x:=by
    rcases hfr with z|z
    ·exact .inr (.inl z)
    ·exact .inr (.inr z)
   obtain⟨u,r,l⟩:=hlX p.1 x v hs1 e2'' hvis;refine⟨u,r,?_⟩;have hkc:X.env.kindOf x=some .cell\/X.env.kindOf x=some .free:=hfr
   rcases l with⟨kx,_⟩|⟨kx,c,hc,z⟩
   ·rcases hkc with w|w
    ·rw[w] at kx;cases kx
    ·rw[w] at kx;cases kx
   ·obtain⟨c',hc'⟩:=hcl2 x (PySem.mem_of_lookup hs2)
    have hcc:=hcl x c' hc';rw[hc] at hcc
    cases hcc
    have e3':(relabel scope X.env).names.lookup x=some .local\/(relabel scope X.env).names.lookup x=some .cell\/(relabel scope X.env).names.lookup x=some .free:=e3
    have hnew:nw.lookup x=none:=by
     cases z:nw.lookup x with
     | none=>rfl
     | some c'' =>
      have:=S.cells _ (nc.of x c'' z) rfl
      rw[hs2] at this
      cases this
    refine .inr ⟨?_,c,bi hnew hc',?_⟩
    ·rcases e3' with w|w|w
     ·obtain⟨k',q1,q2⟩:=N2 w
      rw[hs2] at q1
      cases q1
      rcases q2 with q2|⟨_,q2⟩<;>cases q2
     ·exact .inl w
     ·exact .inr w
    ·obtain⟨o,ho,hd⟩:=z
     exact⟨o,k _ _ ho,hd⟩
 ·rcases L7 (show(nw++cl).lookup x=some c from e) with a|⟨_,a⟩
  ·exact⟨none,(nc.ok x c (PySem.mem_of_lookup a)).1⟩
  ·obtain⟨v,o,ho,hd⟩:=I.cell x c (hcl x c a)
   exact⟨v,o,k _ _ ho,hd⟩
 ·rcases L7 (show(nw++cl).lookup x=some c from e) with a|⟨_,a⟩
  ·exact I.hok.fresh (Nat.le_trans hC (Nat.le_of_lt (isNew x c a)))
  ·exact I.freeC x c (hcl x c a)
 ·show(F7 own fr σ).length=(own++fr.map (·.2)).length
  unfold F7;rw[length_append,length_append,length_map,length_map,length_map]
def dg {pins:List (Addr×Obj)}{σ:St}{H2:Hp}{s2:Shared}{cl:List (Str×Addr)}{it:Addr}{fp:List Addr}{tn:Nat->Heap->Prop}{J:It}{g:TG}{tt:TT}{te:TE}{Q:VK}{E:Value->Shared->Prop}
  {RR:Value->Addr->Result->Shared->Prop}(hc:X.calm=true)(S:CompScope X.N X.env.scope scope own fr)(I:Inv X pins σ H2 s2)(hcl:∀x c,cl.lookup x=some c->X.env.cells.lookup x=some c)
  (hcl2:∀x,(x,NameKind.free)∈scope.names->∃c,cl.lookup x=some c)(T:qp X.prog X.w X.K tg J fp it tn)(st:tn 0 s2.heap)(hfp:∀b∈fp,eA X pins H2 b)
  (hb:∀(cl:List (Str×Addr))(C:Addr)(s:Shared)(H:Hp)(ex:List Addr),PG (C8 X scope cl C (own++fr.map (·.2)) s H ex) tg g/\qw (C8 X scope cl C (own++fr.map (·.2)) s H ex) ifs tt/\PE (C8 X scope cl C (own++fr.map (·.2)) s H ex) elt te)
  (hq:bS J g tt te Q (F7 own fr σ) H2)
  (fin:∀(D C:Addr)(s':Shared)(H':Hp),(∃m,s'.heap.Ns C m)->s2.heap.objs.size<=C->C≠D->H' C=none->Q (.ref D) H'->(∀h'',(∀b o,b≠C->s'.heap.get? b=some o->h''.get? b=some o)->Inv X pins σ H' { s' with heap:=h'' })->RR (.ref D) C (.ok .next) s') :
  wpAny (model X.prog X.w) X.A (newList []) (λacc s₃=>wpAny (model X.prog X.w) X.A (newFunctionEnv scope X.env.globals cl [] X.env.qual none .none (some X.env)) (λcenv s₄ =>
   codeAny (model X.prog X.w) X.A (.compStart (.ListComp elt [⟨tg,iter,ifs,0⟩] scope pos) 0 (.ref it) acc { cenv with scope:=relabel scope X.env }) (RR acc cenv.locals) s₄) E s₃) E s2:=by
 obtain⟨W,⟨m0,w0⟩,turn⟩:=hq;refine wpAny_newObj_type (eX (λnw h₁ nc hns₁ hsb₁=>?_))
 dsimp only at nc hns₁ hsb₁ ⊢
 generalize hH2:s2.heap.push { cls:=.type "list",dict:=none,data:=.seq ([]:List Value).toArray }=HH at nc hns₁ hsb₁ ⊢;have hC:HH.objs.size=s2.heap.objs.size+1:=by rw[<- hH2,Heap.size_push]
 have hDC:s2.heap.objs.size≠HH.objs.size:=by rw[hC];exact Nat.ne_of_lt (Nat.lt_succ_self _)
 have hCle:s2.heap.objs.size<=HH.objs.size:=by rw[hC];exact Nat.le_succ _
 have old:∀b o,s2.heap.get? b=some o->h₁.get? b=some o:=λb o e =>
  hsb₁ b o (hH2▸Heap.get?_push_of_some _ e)
 have hacc:h₁.get? s2.heap.objs.size=some { cls:=.type "list",data:=.seq ([]:List Value).toArray }:=hsb₁ _ _ (hH2▸Heap.get?_push_size _ rfl)
 have flt:∀b∈fp,b<s2.heap.objs.size:=λb hb=>by
  obtain⟨o,e,_⟩:=T.obj _ _ st b hb;exact Heap.lt_size e
 have hlt:s2.heap.objs.size<HH.objs.size:=by rw[hC];exact Nat.lt_succ_self _
 obtain⟨D,hD⟩:∃D:Nat,D=s2.heap.objs.size:=⟨_,rfl⟩;obtain⟨C,hCC⟩:∃C:Nat,C=HH.objs.size:=⟨_,rfl⟩;rw[<- hD] at hacc ⊢;rw[<- hCC] at nc hns₁ ⊢;have hDlt:D<C:=by rw[hD,hCC];exact hlt
 have hDs:s2.heap.objs.size<=D:=Nat.le_of_eq hD.symm;have hCs:s2.heap.objs.size<=C:=Nat.le_trans hDs (Nat.le_of_lt hDlt);have nDC:D≠C:=Nat.ne_of_lt hDlt;have nfD:∀b∈fp,b≠D:=λb hb=>Nat.ne_of_lt (Nat.lt_of_lt_of_le (flt b hb) hDs);have nfC:∀b∈fp,b≠C:=λb hb=>Nat.ne_of_lt (Nat.lt_of_lt_of_le (flt b hb) hCs)
 have I0:Inv (C8 X scope (nw++cl) C (own++fr.map (·.2)) s2 H2 fp) [] (F7 own fr σ) H2 { s2 with heap:=h₁,toks:=s2.toks } :=
  sR S I hcl hcl2 (λb hb=>⟨hfp b hb,flt b hb⟩) hCs old hns₁ nc
 obtain⟨pg,pt,pe⟩:=hb (nw++cl) C s2 H2 fp
 have Dcell:∀x c,(nw++cl).lookup x=some c->c≠D:=λx c e=>by
  rcases L7 e with a|⟨_,a⟩
  ·exact Nat.ne_of_gt (Nat.lt_trans hDlt (nc.ok x c (PySem.mem_of_lookup a)).2)
  ·obtain⟨v,q⟩:=I.cell x c (hcl x c a)
   exact Nat.ne_of_lt (Nat.lt_of_lt_of_le q.lt hDs)
 have Dstk:D∉frs X.stack:=λhf=>by
  rcases mem_cons.mp (I.stkSub D hf) with z|z
  ·have h1:=I.lt
   rw[<- z] at h1;exact Nat.lt_irrefl _ (Nat.lt_of_lt_of_le h1 hDs)
  ·exact I.nofs hDs z
 have stat:∀{H':Hp}{pl:List (Addr×Obj)},(∀b∈fp,H' b=none)->(∀p∈pl,p.1=D)->∀b∈fp,eA (C8 X scope (nw++cl) C (own++fr.map (·.2)) s2 H2 fp) pl H' b:=λ{H' pl} hn hpl b hb=>by
  obtain⟨f0,f1,f2,f3,f4,f5⟩:=hfp b hb
  refine⟨hn b hb,nfC b hb,λhf=>?_,.inl hb,λx c e=>(by
   rcases L7 (show(nw++cl).lookup x=some c from e) with a|⟨_,a⟩
   ·exact Nat.ne_of_gt (Nat.lt_trans (Nat.lt_of_lt_of_le (flt b hb) hCs) (nc.ok x c (PySem.mem_of_lookup a)).2)
   ·exact f4 x c (hcl x c a)),λp hp z=>?_⟩
  ·rcases mem_cons.mp (I.stkSub b hf) with z|z
   ·exact f1 z
   ·exact f2 z
  ·have h1:p.1=D:=hpl p (by simpa [C8] using hp)
   exact nfD b hb (z.symm.trans h1)
 have loop:∀s₃:Shared,s₃ = { s2 with heap:=h₁,toks:=s2.toks } ->
   codeAny (model X.prog X.w) X.A (.compLoop (.ListComp elt [⟨tg,iter,ifs,0⟩] scope pos) 0 (.ref it) (.ref D) (compEnvC scope (nw++cl) C X.env)) (RR (.ref D) C) s₃:=by
  rintro s₃ rfl
  refine codeAny_loop rfl (λn s'=>∃i σ' H' acc its k,Inv (C8 X scope (nw++cl) C (own++fr.map (·.2)) s2 H2 fp) [] σ' H' s'/\tn i s'.heap/\(∀b∈fp,H' b=none)/\H' D=none /\
   s'.heap.get? D=some { cls:=.type "list",data:=.seq its.toArray k }/\o9 acc its/\W i n acc σ' H') ?_ m0
   ⟨0,_,H2,[],[],0,I0,T.keep _ _ _ st λb hb o e=>old b o e,λb hb=>(hfp b hb).1,I.hok.fresh hDs,hacc,.nil,w0⟩
  rintro n s' ⟨i,σ',H',acc,its,k,I1,st1,fr1,nD,gD,rv,w1⟩
  show wpAny _ X.A ((compTurn (.ListComp elt [⟨tg,iter,ifs,0⟩] scope pos) 0 (.ref it) (.ref D) (compEnvC scope (nw++cl) C X.env)).onRaise (λx=>do noteFrame x (compEnvC scope (nw++cl) C X.env);theTreesLotGoes x)) _ _ s'
  refine wpAny_noted ?_;rw[compTurn_list]
  have I1':Inv (C8 X scope (nw++cl) C (own++fr.map (·.2)) s2 H2 fp) [(D,{ cls:=.type "list",data:=.seq its.toArray k })] σ' H' s':=I1.pins_of λp hp=>by
   have e:p=(D,{ cls:=.type "list",data:=.seq its.toArray k }):=by simpa using hp
   subst e;exact⟨gD,nD,nDC,Dstk,λv z=>nomatch z⟩
  rcases turn i n acc σ' H' w1 with⟨stop,hz,qq⟩|⟨go,hz,NN,hNN,step⟩
  ·refine w_ (wpAny_standAt (w_ (wpAny_mono (T.done (C8 X scope (nw++cl) C (own++fr.map (·.2)) s2 H2 fp) rfl rfl rfl hc i _ s' σ' H' (λ_ _=>False) I1' (stat fr1 (by simp)) st1 stop) (λr s4 ⟨hr,I4⟩=>?_) λ_ _ z=>z.elim)))
   subst hr;refine u_ ?_;have gD4:=(I4.pin (D,_) (mem_append_right _ (mem_singleton.mpr rfl))).1;have hC4:H' C=none:=I4.free;have hC5:(upd H' D (.lst acc)) C=none:=by rw[j2 (Ne.symm nDC)];exact hC4
   refine fin D C s4 (upd H' D (.lst acc)) ?_ hCs (Ne.symm nDC) hC5 (qq D nD) λh'' kk=>?_
   ·obtain⟨m,hn,_⟩:=I4.loc
    exact⟨m,hn⟩
   ·have un:Un (frs X.stack) fp H2 (upd H' D (.lst acc)) s2.heap h'':=Un.but (a:=C) (Un.track (o:=.lst acc) I4.base hDs (I.hok.fresh hDs)) hCs kk
    have hok:HOk X.prog X.w (upd H' D (.lst acc)) s4.heap:=HOk.track I4.hok nD ⟨hz,its,k,rv,gD4⟩
    exact I.call' (s':={ s4 with heap:=h'' }) (ch:=fp) I4.os un (HOk.but hok hC5 kk) I4.bare λb hb=>by
     obtain⟨f0,f1,f2,f3,f4,f5⟩:=hfp b hb;exact⟨f3,f1,f4,f5⟩
  ·refine w_ (wpAny_standAt (w_ (wpAny_mono (T.item (C8 X scope (nw++cl) C (own++fr.map (·.2)) s2 H2 fp) rfl rfl rfl hc i _ s' σ' H' (λ_ _=>False) I1' (stat fr1 (by simp)) st1 go) (λr s4 ⟨u,hr,h4⟩=>?_) λ_ _ z=>z.elim)))
   subst hr;refine w_ (wpAny_mono h4 (λ_ s5 ⟨x,H5,I5,r5,y5,st5,fr5⟩=>?_) λ_ _ z=>z.elim);have I5':=I5.pinned (stat fr5 (by simp)) (T.obj _ _ st5)
   refine w_ (wpAny_mono (pg _ s5 σ' H5 x u _ I5' r5 (step x H5 y5)) (λ_ s6 ⟨σ6,H6,I6,q6⟩=>?_) λ_ _ z=>z.elim);refine w_ (wpAny_mono (pt _ s6 σ6 H6 _ I6 q6) (λok s7 ⟨H7,I7,q7⟩=>?_) λ_ _ z=>z.elim)
   have again:∀{s8:Shared}{H8:Hp}{acc':List V}{its':List Value}{k' m':Nat},Inv (C8 X scope (nw++cl) C (own++fr.map (·.2)) s2 H2 fp) (X5 fp s5.heap) σ6 H8 s8->H8 D=none ->
     s8.heap.get? D=some { cls:=.type "list",data:=.seq its'.toArray k' }->o9 acc' its'->m'<n->W (i+1) m' acc' σ6 H8 ->
     ∃m,m<n/\∃i σ' H' acc its k,Inv (C8 X scope (nw++cl) C (own++fr.map (·.2)) s2 H2 fp) [] σ' H' s8/\tn i s8.heap/\(∀b∈fp,H' b=none)/\H' D=none /\
      s8.heap.get? D=some { cls:=.type "list",data:=.seq its.toArray k }/\o9 acc its/\W i m acc σ' H':=λ{s8 H8 acc' its' k' m'} I8 n8 g8 rv8 hm w8=>by
    refine⟨m',hm,i+1,σ6,H8,acc',its',k',I8.pins_of (λp hp=>nomatch hp),T.keep _ _ _ st5 λb hb o e=>(I8.pin (b,o) (mem_append_right _ (U3 hb e))).1,λb hb=>?_,n8,g8,rv8,w8⟩;obtain⟨o,e,d⟩:=T.obj _ _ st5 b hb;exact(I8.pin (b,o) (mem_append_right _ (U3 hb e))).2.1
   have dropD:∀{s8:Shared}{H8:Hp},Inv (C8 X scope (nw++cl) C (own++fr.map (·.2)) s2 H2 fp) ([(D,{ cls:=.type "list",data:=.seq its.toArray k })]++X5 fp s5.heap) σ6 H8 s8 ->
     Inv (C8 X scope (nw++cl) C (own++fr.map (·.2)) s2 H2 fp) (X5 fp s5.heap) σ6 H8 s8:=λI8=>I8.pins_of λp hp=>I8.pin p (mem_append_right _ (mem_append_right _ hp))
   cases ok with
   | false =>
    rw[if_neg Bool.false_ne_true] at q7;obtain⟨m',hm,w7⟩:=hNN _ _ _ q7;have pD:=I7.pin (D,_) (mem_append_right _ (mem_append_left _ (mem_singleton.mpr rfl)))
    simp only[Bool.false_eq_true,if_false]
    exact u_ ⟨rfl,again (dropD I7) pD.2.1 pD.1 rv hm w7⟩
   | true =>
    rw[if_pos rfl] at q7
    simp only[if_true]
    refine w_ (w_ (wpAny_mono (pe _ s7 σ6 H7 _ I7 q7) (λu8 s8 ⟨y,H8,I8,r8,q8⟩=>?_) λ_ _ z=>z.elim));obtain⟨m',hm,w8⟩:=hNN _ _ _ q8;have pD:=I8.pin (D,_) (mem_append_right _ (mem_append_left _ (mem_singleton.mpr rfl)));obtain⟨gD8,nD8,_⟩:=pD;have hlen:=rv.length;refine w_ (call_meets F.slot_list_append ⟨_,gD8,rfl⟩ F.entry_list_append (F.args_list_append_2 _ _) (PySem.list_append D its.toArray k u8 (by rw[size_toArray];lia)) ⟨gD8,?_⟩)
    refine u_ (u_ ⟨rfl,?_⟩);have q:=PySem.IsL.update gD8 (·.push u8);have e9:its.toArray.push u8=(its++[u8]).toArray:=by simp
    rw[e9] at q;refine again (its':=its++[u8]) ((dropD I8).turned (it:=D) (t':=_) (λb o hb e=>(Heap.get?_update_other s8.heap _ (Ne.symm hb)).trans e) nD8 nDC (.inr hDs) (λx c e=>Dcell x c e) λp hp z=>?_) nD8 q (rv.append (.cons r8 .nil)) hm w8;have hp':p∈X5 fp s5.heap:=by simpa [C8] using hp
    exact nfD p.1 (fo hp').1 z
 exact codeAny_compStart_list (loop _ rfl) (T.self _ 0 _ _ _ (T.keep _ _ _ st λb hb o e=>old b o e) (loop _ rfl))
def E9 {wi:TI}{g:TG}{tt:TT}{te:TE}(hc:X.calm=true)(S:CompScope X.N X.env.scope scope own fr)(hi:PI X tg iter wi)
  (hb:∀(cl:List (Str×Addr))(C:Addr)(s:Shared)(H:Hp)(ex:List Addr),PG (C8 X scope cl C (own++fr.map (·.2)) s H ex) tg g/\qw (C8 X scope cl C (own++fr.map (·.2)) s H ex) ifs tt/\PE (C8 X scope cl C (own++fr.map (·.2)) s H ex) elt te)
  (hs:∀x,foldedSetIterable iter X.env x=pure x:=by intro _;rfl):PE X (.ListComp elt [⟨tg,iter,ifs,0⟩] scope pos) (vp own fr wi g tt te):=by
 intro pins s σ H Q I h
 obtain⟨cl,hclos,hcl,hcl2⟩:=dJ (scope:=scope) (env:=X.env) λx hx=>I.ok.has x (S.free (x,.free) hx rfl);rw[eval_ListComp];refine wpAny_comprehension_free (use:=none) rfl hs hclos S.kind S.locs (thn (hi pins s σ H _ I h) λxv s₁ h₁=>thn h₁ λitv s₂ h₂=>?_);obtain⟨it,fp,tn,J,H2,e,I2,T,st2,f2,hq⟩:=h₂;subst e;refine dg hc S I2 hcl hcl2 T st2 f2 hb hq (RR:=λacc C=>compPost (model X.prog X.w) X.A X.xe none (EP X pins σ Q) acc C) λD C s' H' hn hC1 hCD hC2 q inv=>?_;obtain⟨m,hn⟩:=hn;exact⟨m,hn,λh'' sb=>⟨.ref D,H',inv h'' λb o hb e=>sb.extBut b o hb e,rfl,q⟩⟩
def cJ {i:Nat}{x:Str}{px spos:Pos}{wi:TI}{g:TG}{tt:TT}{te:TE}(hc:X.calm=true)(hN:X.N.Nodup)(hix:X.N[i]? = some x)(hx:X.env.scope.names.lookup x=some .local)(S:CompScope X.N X.env.scope scope own fr)(hi:PI X tg iter wi)
  (hb:∀(cl:List (Str×Addr))(C:Addr)(s:Shared)(H:Hp)(ex:List Addr),PG (C8 X scope cl C (own++fr.map (·.2)) s H ex) tg g/\qw (C8 X scope cl C (own++fr.map (·.2)) s H ex) ifs tt/\PE (C8 X scope cl C (own++fr.map (·.2)) s H ex) elt te)
  (hsw:swapsWith (.ListComp elt [⟨tg,iter,ifs,0⟩] scope pos) (some (.Name x px)) spos.line X.env=pure true)(hs:∀x,foldedSetIterable iter X.env x=pure x:=by intro _;rfl) :
  PS X (.Assign [.Name x px] (.ListComp elt [⟨tg,iter,ifs,0⟩] scope pos) spos) (xN (vp own fr wi g tt te) (W7 i)):=by
 intro pins s σ H D I h
 obtain⟨cl,hclos,hcl,hcl2⟩:=dJ (scope:=scope) (env:=X.env) λx hx=>I.ok.has x (S.free (x,.free) hx rfl);rw[exec_Assign_Name_used _ _ _ _ hsw];refine w_ (wpAny_standAt (w_ ?_))
 show wpAny _ X.A (do let _ <- comprehension (.ListComp elt [⟨tg,iter,ifs,0⟩] scope pos) scope X.env _ (newList []) false (eval iter X.env) (some (assign (.Name x px) X.env))) _ _ s
 refine w_ (wpAny_mono (wpAny_comprehension_free (use:=some (assign (.Name x px) X.env)) (Q:=λ_ s'=>SP X pins D .next s') rfl hs hclos S.kind S.locs (thn (hi pins s σ H _ I h) λxv s₁ h₁=>thn h₁ λitv s₂ h₂=>?_)) (λ_ s' hq=>u_ (u_ hq)) λ_ _ e=>e);obtain⟨it,fp,tn,J,H2,e,I2,T,st2,f2,hq⟩:=h₂;subst e;refine dg (Q:=λx H1=>W7 i x σ H1 D.nx) hc S I2 hcl hcl2 T st2 f2 hb hq (RR:=λacc C=>compPost (model X.prog X.w) X.A X.xe (some (assign (.Name x px) X.env)) (λ_ s'=>SP X pins D .next s') acc C) λDa C s' H' hn hC1 hCD hC2 q inv=>?_;obtain⟨m,hn⟩:=hn;have I3:Inv X pins σ H' { s' with heap:=s'.heap }:=inv s'.heap λ_ _ _ e=>e
 show wpAny _ X.A (assign (.Name x px) X.env (.ref Da)) _ _ s'
 refine wpAny_assign_Name (fg I3 hN hix (.inl hx) (v:=.ref Da) rfl (λs4 I4 ⟨a,sb,ha⟩=>?_) (.inr hx));have hCL:C≠X.env.locals:=Nat.ne_of_gt (Nat.lt_of_lt_of_le I2.lt hC1)
 have hCc:∀y c,X.env.cells.lookup y=some c->c≠C:=λy c e=>by
  obtain⟨v,w⟩:=I2.cell y c e;exact Nat.ne_of_lt (Nat.lt_of_lt_of_le w.lt hC1)
 have haC:C≠a:=by
  rcases ha with ha|ha
  ·rw[ha];exact hCL
  ·exact(hCc _ _ ha).symm
 refine⟨m,hn.sameBut sb haC,λh'' sb2=>⟨_,H',I4.turned (it:=C) (t':=s4.toks) (λb o hb e=>sb2.extBut b o hb e) hC2 hCL (.inr (Nat.le_trans I2.sz hC1)) hCc λp hp z=>?_,q⟩⟩;exact Nat.ne_of_lt (Nat.lt_of_lt_of_le (Heap.lt_size (I2.pin p hp).1) hC1) z
end
def B9 {K:Frag}{a:Addr}{xs:List V}{g:TG}{tt:TT}{te:TE}{σ₀:St}{H:Hp}{Q:VK}(Pv:Nat->List V->St->Hp->Prop)(h0:Pv 0 [] σ₀ H)(hz:xs.length<=sizeLine)(hn:∀i acc σ H,Pv i acc σ H->acc.length<=i)
  (hl:∀i acc σ H,i<=xs.length->Pv i acc σ H->SqL K H a xs)
  (hs:∀i x acc σ H,xs[i]? = some x->Pv i acc σ H->g x σ H λσ2 H2=>tt σ2 H2 λok H3=>if ok=true then te σ2 H3 λy H4=>Pv (i+1) (acc++[y]) σ2 H4 else Pv (i+1) acc σ2 H3)
  (hd:∀acc σ H,Pv xs.length acc σ H->∀p,H p=none->Q (.ref p) (upd H p (.lst acc))) :
  bS (Itl K a) g tt te Q σ₀ H:=by
 refine⟨λi m acc σ H=>m=xs.length-i/\i<=xs.length/\Pv i acc σ H,⟨xs.length,by simp,Nat.zero_le _,h0⟩,?_⟩
 rintro i m acc σ H ⟨rfl,hi,p⟩
 have q:=hl i acc σ H hi p;have hlen:=hn i acc σ H p
 by_cases hlt:i<xs.length
 ·refine .inr ⟨⟨xs,xs[i],q,by simp[hlt]⟩,by lia,Pv (i+1),λacc' σ' H' p'=>⟨xs.length-(i+1),by lia,rfl,hlt,p'⟩,λx H' y=>?_⟩
  obtain⟨e,y⟩:=y;subst e;exact hs i x acc σ _ (y xs q) p
 ·have e:i=xs.length:=by lia
  subst e;exact .inl ⟨⟨xs,q,Nat.le_refl _⟩,by lia,hd acc σ H p⟩
def dA {K:Frag}{a:Addr}{xs:List V}{g:TG}{tt:TT}{te:TE}{σ₀:St}{H:Hp}{Q:VK}(Pv:Nat->List V->St->Hp->Prop)(h0:Pv 0 [] σ₀ H)(hz:xs.length<=sizeLine)(hn:∀i acc σ H,Pv i acc σ H->acc.length<=i)
  (hl:∀i acc σ H,i<=xs.length->Pv i acc σ H->SqT K H a xs)
  (hs:∀i x acc σ H,xs[i]? = some x->Pv i acc σ H->g x σ H λσ2 H2=>tt σ2 H2 λok H3=>if ok=true then te σ2 H3 λy H4=>Pv (i+1) (acc++[y]) σ2 H4 else Pv (i+1) acc σ2 H3)
  (hd:∀acc σ H,Pv xs.length acc σ H->∀p,H p=none->Q (.ref p) (upd H p (.lst acc))) :
  bS (Itt K a) g tt te Q σ₀ H:=by
 refine⟨λi m acc σ H=>m=xs.length-i/\i<=xs.length/\Pv i acc σ H,⟨xs.length,by simp,Nat.zero_le _,h0⟩,?_⟩
 rintro i m acc σ H ⟨rfl,hi,p⟩
 have q:=hl i acc σ H hi p;have hlen:=hn i acc σ H p
 by_cases hlt:i<xs.length
 ·refine .inr ⟨⟨xs,xs[i],q,by simp[hlt]⟩,by lia,Pv (i+1),λacc' σ' H' p'=>⟨xs.length-(i+1),by lia,rfl,hlt,p'⟩,λx H' y=>?_⟩
  obtain⟨e,y⟩:=y;subst e;exact hs i x acc σ _ (y xs q) p
 ·have e:i=xs.length:=by lia
  subst e;exact .inl ⟨⟨xs,q,Nat.le_refl _⟩,by lia,hd acc σ H p⟩
def dM {lo:Int}{n:Nat}{g:TG}{tt:TT}{te:TE}{σ₀:St}{H:Hp}{Q:VK}(Pv:Nat->List V->St->Hp->Prop)(h0:Pv 0 [] σ₀ H)(hz:n<=sizeLine)(hn:∀i acc σ H,Pv i acc σ H->acc.length<=i)
  (hs:∀i acc σ H,i<n->Pv i acc σ H->g (.int (lo+i)) σ H λσ2 H2=>tt σ2 H2 λok H3=>if ok=true then te σ2 H3 λy H4=>Pv (i+1) (acc++[y]) σ2 H4 else Pv (i+1) acc σ2 H3)
  (hd:∀acc σ H,Pv n acc σ H->∀p,H p=none->Q (.ref p) (upd H p (.lst acc))) :
  bS (Itr lo n) g tt te Q σ₀ H:=by
 refine⟨λi m acc σ H=>m=n-i/\i<=n/\Pv i acc σ H,⟨n,by simp,Nat.zero_le _,h0⟩,?_⟩
 rintro i m acc σ H ⟨rfl,hi,p⟩
 have hlen:=hn i acc σ H p
 by_cases hlt:i<n
 ·refine .inr ⟨hlt,by lia,Pv (i+1),λacc' σ' H' p'=>⟨n-(i+1),by lia,rfl,hlt,p'⟩,λx H' y=>?_⟩
  obtain⟨e,y⟩:=y;subst e y;exact hs i acc σ _ hlt p
 ·have e:i=n:=by lia
  subst e;exact .inl ⟨Nat.le_refl _,by lia,hd acc σ H p⟩
def xq {c A B:Prop} [Decidable c] (h:c) (a:A):if c then A else B:=by rw[if_pos h];exact a
def iy {c A B:Prop} [Decidable c] (h:¬c) (b:B):if c then A else B:=by rw[if_neg h];exact b
structure i6 (P:Program)(w:World)(K:Frag)(mg:Str->Option Value)(base:Heap)(k:Nat)(x:Str)(ps:List Str)(sp:Sp):Prop where
 ex:∃(f:Addr)(fd:FuncData),aL P w K mg base CX0 k f fd ps sp/\V6 K fd ps []/\keepIn K (.ref f)=true/\mg x=some (.ref f)
structure Def (K:Frag)(mg:Str->Option Value)(x:Str)(st:Stmt)(ps:List Str):Prop where
 ex:∃(f:Addr)(fd:FuncData),Fun K x x st f fd/\V6 K fd ps []/\mg x=some (.ref f)
section
variable {P:Program}{w:World}{K:Frag}{mg:Str->Option Value}{base:Heap}
theorem Def.ok {x:Str}{st:Stmt}{N ps:List Str}{k:Nat}{sp:Sp}(D:Def K mg x st ps)(S:FnScope N ps (i3 st))(len:∀vs H Q E,sp vs H Q E->vs.length=ps.length)
  (hbody:∀(f:Addr)(cdv:Value)(A:Around)(outer:List Env)(s:Shared)(H:Hp)(vs:List V)(Q:VK)(E:XK),B5 k (A.deeper (envOfC x (i3 st) s.heap.objs.size f cdv))->sp vs H Q E ->
   ∃t,PSs (P1 CX0 P w K mg base N x (i3 st) f cdv A outer s H E).nox (z9 st) t/\t { nx:=λ_ H'=>Q .non H',rt:=Q } (start N vs) H):i6 P w K mg base (k+1) x ps sp:=by
 obtain⟨f,fd,F,b,m⟩:=D.ex;exact⟨f,fd,F.ok S len λcdv A outer s H vs Q E hr h=>hbody f cdv A outer s H vs Q E hr h,b,F.kp,m⟩
end
section
variable {X:Cx}{k n:Nat}{ps:List Str}{sp:Sp}{x:Str}{p pos:Pos}{e:Expr}{es:List Expr}{t:TA}
def m6 (C:i6 X.prog X.w X.K X.mg X.base k x ps sp)(hr:B5 n X.A)(hg:Gl X x)(ha:PA X (e::es) t)(hk:k<=n:=by decide)(hdb:(x==("__debug__":Str))=false:=by decide)
  (he:starEach (e::es) X.env=(false,eval e X.env)::starEach es X.env:=by rfl) (hpl:(backTo pos (starEach es X.env)).any (·.1)=false:=by rfl) :
  PE X (.Call (.Name x p) (e::es) [] pos) (vq sp [] E0 t):=by
 obtain⟨f,fd,F,b,kp,m⟩:=C.ex;exact ua F (hr.mono hk) hg m kp b .nil vt ha hdb he hpl
def jQ:A3 X (.builtin "isinstance") (λxs H Q=>∃v T t b,xs=[v,.ty T]/\N7 X.K H v t/\kitOne X.K t (.type T)=some b/\Q (.bl b) H):=by
 intro pins s σ H xs us Q I r h
 obtain⟨v,T,t,b,rfl,ty,e,q⟩:=h;obtain⟨u,u',rfl,r1,r2⟩:=dq r
 cases r2
 exact oZ I r1 ty e λtk=>⟨.bl b,H,I.tok _,rfl,q⟩
def yo (S T:String):Option Bool:=if (Value.type S==Value.type T)=true then some true else if PySem.W.kitMeta T=true then (fastBuiltinMro S).map (·.contains (.type T)) else none
def B4 {K:Frag}{S T:String}{b:Bool}(h:yo S T=some b):kitOne K (.type S) (.type T)=some b:=h
section
variable {K:Frag}
def V7:kitOne K (.type "int") (.type "int")=some true:=B4 (by decide +kernel)
def aW:kitOne K (.type "int") (.type "bool")=some false:=B4 (by decide +kernel)
def gN:kitOne K (.type "bool") (.type "int")=some true:=B4 (by decide +kernel)
def eS:kitOne K (.type "bool") (.type "bool")=some true:=B4 (by decide +kernel)
def Y2:kitOne K (.type "tuple") (.type "tuple")=some true:=B4 (by decide +kernel)
def bZ:kitOne K (.type "list") (.type "list")=some true:=B4 (by decide +kernel)
def bU:kitOne K (.type "list") (.type "tuple")=some false:=B4 (by decide +kernel)
def jU:kitOne K (.type "tuple") (.type "list")=some false:=B4 (by decide +kernel)
def jc:kitOne K (.type "NoneType") (.type "int")=some false:=B4 (by decide +kernel)
def jB:kitOne K (.type "str") (.type "int")=some false:=B4 (by decide +kernel)
def jS:kitOne K (.type "tuple") (.type "int")=some false:=B4 (by decide +kernel)
def bT:kitOne K (.type "list") (.type "int")=some false:=B4 (by decide +kernel)
end
def bv:A3 X (.builtin "sorted") (λxs H Q=>∃(p:Addr)(ns:List Int),xs=[.ref p]/\SqL X.K H p (ns.map V.int)/\ns.length<64/\∀ns':List Int,ns'.Perm ns->ns'.Pairwise (·<=·)->∀l,H l=none->Q (.ref l) (upd H l (.lst (ns'.map V.int)))):=by
 intro pins s σ H xs us Q I r h
 obtain⟨p,ns,rfl,hq,h64,q⟩:=h;obtain⟨u,rfl,rx⟩:=M3 r
 cases rx
 obtain⟨its,r',pl,hz⟩:=I.list hq;have hi:IntsAre its ns:=F6 r';have hlen:its.length=ns.length:=hi.length;refine sorted_ints pl.isList hi (by lia) λout ns' a1 a2 a3=>?_
 obtain⟨e,he⟩:=sortedAll_at s.heap its out
 have hz':(ns'.map V.int).length<=sizeLine:=by
  rw[length_map,a2.length_eq];rw[length_map] at hz;exact hz
 exact⟨.ref (s.heap.objs.size+1),_,I.laid (t':=s.toks) (o:=.lst (ns'.map V.int)) (λb o e=>sortedAll_old e) (Nat.le_succ _) ⟨hz',out.toList,e,S9 a1,by simpa [seqObj] using he⟩,rfl,q ns' a2 a3 _ (I.hok.fresh (Nat.le_succ _))⟩
theorem oO {ns:List Int}{us:List Value}(h:IntsAre us ns):∀(i:Nat)(v:Value),us[i]? = some v->∃t,v=.int (ns.getD i 0) t:=by
 induction h with
 | nil=>intro i v e;simp at e
 | cons n t h ih =>
  intro i v e
  cases i with
  | zero=>exact⟨t,by simpa using e.symm⟩
  | succ i =>
   obtain⟨t',e'⟩:=ih i v (by simpa using e)
   exact⟨t',by simpa using e'⟩
theorem jj {bs:List Bool}:∀{us:List Value},o9 (bs.map V.bl) us->∀(i:Nat)(v:Value),us[i]? = some v->v=.bool (bs.getD i false):=by
 induction bs with
 | nil=>intro us r i v e;rw[map_nil] at r;cases r;simp at e
 | cons b bs ih =>
  intro us r i v e
  rw[map_cons] at r
  cases r with
  | cons r1 r2 =>
   cases i with
   | zero =>
    have e':=Option.some.inj e;rw[<- e'];exact r1
   | succ i=>exact ih r2 i v (by simpa using e)
def pZ (bs:List Bool):(List.range bs.length).all (λi=>bs.getD i false)=bs.all id:=by
 rw[Bool.eq_iff_iff,all_eq_true,all_eq_true]
 constructor
 ·intro h b hb
  obtain⟨i,hi,e⟩:=getElem_of_mem hb
  have:=h i (by simpa using hi)
  simpa [List.getD,hi,e] using this
 ·intro h i hi
  have hi':i<bs.length:=by simpa using hi
  have:=h bs[i] (getElem_mem hi')
  simpa [List.getD,hi'] using this
def qm (bs:List Bool):(List.range bs.length).any (λi=>bs.getD i false)=bs.any id:=by
 rw[Bool.eq_iff_iff,any_eq_true,any_eq_true]
 constructor
 ·rintro⟨i,hi,e⟩
  have hi':i<bs.length:=by simpa using hi
  exact⟨bs[i],getElem_mem hi',by simpa [List.getD,hi'] using e⟩
 ·rintro⟨b,hb,e⟩
  obtain⟨i,hi,z⟩:=getElem_of_mem hb;exact⟨i,by simpa using hi,by simpa [List.getD,hi,z] using e⟩
def dk (hc:X.calm=true):A3 X (.builtin "all") (λxs H Q=>∃(p:Addr)(bs:List Bool),xs=[.ref p]/\SqL X.K H p (bs.map V.bl)/\Q (.bl (bs.all id)) H):=by
 intro pins s σ H xs us Q I r h
 obtain⟨p,bs,rfl,hq,q⟩:=h;obtain⟨u,rfl,rx⟩:=M3 r
 cases rx
 obtain⟨its,r',pl,hz⟩:=I.list hq;have hlen:its.length=bs.length:=by rw[<- r'.length,length_map]
 obtain⟨o,n,ho,_⟩:=id pl;have hne:p≠s.heap.objs.size:=Nat.ne_of_lt (Heap.lt_size ho);refine call_all_walk (wpAny_pyIter_list pl.isList ?_);refine⟨s.heap.objs.size,_,_,its.toArray.size,_,_,λi=>bs.getD i false,rfl,Walks.list (A:=X.A.in1) (I.ok.hd hc) s.heap.objs.size p hne its.toArray,⟨⟨_,Heap.get?_push_size _ rfl,rfl,rfl⟩,pl.isList.at λo e=>Heap.get?_push_of_some _ e⟩,λi v s' Q' E' e hQ=>?_,λh' tk kk=>?_⟩
 ·rw[jj r' i v (by simpa using e)]
  exact wpAny_truthy_bool hQ
 ·have kp:∀b o,s.heap.get? b=some o->h'.get? b=some o:=λb o e=>kk b o (by simpa using Nat.ne_of_lt (Heap.lt_size e)) (Heap.get?_push_of_some _ e)
  rw[size_toArray,hlen,pZ];exact⟨.bl (bs.all id),H,I.kept kp,rfl,q⟩
def dS (hc:X.calm=true):A3 X (.builtin "any") (λxs H Q=>∃(p:Addr)(bs:List Bool),xs=[.ref p]/\SqL X.K H p (bs.map V.bl)/\Q (.bl (bs.any id)) H):=by
 intro pins s σ H xs us Q I r h
 obtain⟨p,bs,rfl,hq,q⟩:=h;obtain⟨u,rfl,rx⟩:=M3 r
 cases rx
 obtain⟨its,r',pl,hz⟩:=I.list hq;have hlen:its.length=bs.length:=by rw[<- r'.length,length_map]
 obtain⟨o,n,ho,_⟩:=id pl;have hne:p≠s.heap.objs.size:=Nat.ne_of_lt (Heap.lt_size ho);refine call_any_walk (wpAny_pyIter_list pl.isList ?_);refine⟨s.heap.objs.size,_,_,its.toArray.size,_,_,λi=>bs.getD i false,rfl,Walks.list (A:=X.A.in1) (I.ok.hd hc) s.heap.objs.size p hne its.toArray,⟨⟨_,Heap.get?_push_size _ rfl,rfl,rfl⟩,pl.isList.at λo e=>Heap.get?_push_of_some _ e⟩,λi v s' Q' E' e hQ=>?_,λh' tk kk=>?_⟩
 ·rw[jj r' i v (by simpa using e)]
  exact wpAny_truthy_bool hQ
 ·have kp:∀b o,s.heap.get? b=some o->h'.get? b=some o:=λb o e=>kk b o (by simpa using Nat.ne_of_lt (Heap.lt_size e)) (Heap.get?_push_of_some _ e)
  rw[size_toArray,hlen,qm];exact⟨.bl (bs.any id),H,I.kept kp,rfl,q⟩
def sJ (ns ms:List Int)(h:ns.length=ms.length):((List.range ns.length).all λj=>ns.getD j 0==ms.getD j 0)=decide (ns=ms):=by
 rw[Bool.eq_iff_iff,all_eq_true,decide_eq_true_iff]
 constructor
 ·intro q
  apply ext_getElem h
  intro i h1 h2
  have:=q i (by simpa using h1)
  simpa [List.getD,h1,h2] using this
 ·rintro rfl i hi
  simp
def pI {A:Around}{s:Shared}{us vs:List Value}{ns ms:List Int}(h:IntsAre us ns)(h':IntsAre vs ms):∀j (h1:j<us.toArray.size) (h2:j<vs.toArray.size),SeqAt.EqAt A s us.toArray[j] vs.toArray[j] (ns.getD j 0==ms.getD j 0):=λj h1 h2=>by
 obtain⟨t,e⟩:=oO h j us.toArray[j] (by simp)
 obtain⟨t',e'⟩:=oO h' j vs.toArray[j] (by simp)
 rw[e,e'];exact SeqAt.EqAt.int_int _ _ _ _
def tW (hu:X.A.units<cLine):OpR X (compareOp .Eq) (λx y H Q=>∃(a b:Addr)(ns ms:List Int),x=.ref a/\y=.ref b/\SqL X.K H a (ns.map V.int)/\SqL X.K H b (ms.map V.int)/\Q (.bl (decide (ns=ms))) H):=by
 intro pins s σ H x y v u Q I rx ry h
 obtain⟨a,b,ns,ms,rfl,rfl,ha,hb,q⟩:=h
 cases rx
 cases ry
 obtain⟨its,r1,p1,_⟩:=I.list ha;obtain⟨its2,r2,p2,_⟩:=I.list hb;have i1:IntsAre its ns:=F6 r1;have i2:IntsAre its2 ms:=F6 r2;have l1:=i1.length;have l2:=i2.length
 by_cases hl:ns.length=ms.length
 ·refine SeqAt.RcAt.lists (e:=λj=>ns.getD j 0==ms.getD j 0) p1.isList p2.isList (by simp only[size_toArray];lia) hu (pI i1 i2) X.prog X.w X.xe _ ?_
  rw[size_toArray,l1,sJ ns ms hl];exact⟨.bl _,H,I,rfl,q⟩
 ·refine SeqAt.RcAt.lists_lengths p1.isList p2.isList (by simp only[size_toArray];simpa using (by lia:its.length≠its2.length)) hu X.prog X.w X.xe _ ?_
  have e:decide (ns=ms)=false:=decide_eq_false (λz=>hl (by rw[z]))
  rw[e] at q;exact⟨.bl false,H,I,rfl,q⟩
end
def N6 (b:Bool)(h:Heap)(l:Addr)(xs:Array Value):Prop:=match b with
 | true=>h.IsTuple l xs
 | false=>h.IsList l xs
def K1 (b:Bool)(h:Heap)(i l:Addr)(k:Nat):Prop:=match b with
 | true=>h.IsTupleIter i l k
 | false=>h.IsListIter i l k
theorem N6.kept {b:Bool}{h h':Heap}{l:Addr}{xs:Array Value}(x:N6 b h l xs)(k:∀o,h.get? l=some o->h'.get? l=some o):N6 b h' l xs:=by
 cases b with
 | true=>obtain⟨o,e,r⟩:=(show h.IsTuple l xs from x);exact⟨o,k o e,r⟩
 | false=>obtain⟨o,e,r⟩:=(show h.IsList l xs from x);exact⟨o,k o e,r⟩
theorem K1.kept {b:Bool}{h h':Heap}{i l:Addr}{n:Nat}(x:K1 b h i l n)(k:∀o,h.get? i=some o->h'.get? i=some o):K1 b h' i l n:=by
 cases b with
 | true=>obtain⟨o,e,r⟩:=(show h.IsTupleIter i l n from x);exact⟨o,k o e,r⟩
 | false=>obtain⟨o,e,r⟩:=(show h.IsListIter i l n from x);exact⟨o,k o e,r⟩
theorem K1.there {b:Bool}{h:Heap}{i l:Addr}{n:Nat}(x:K1 b h i l n):∃o,h.get? i=some o/\∀v,o.data≠.cell v:=by
 cases b with
 | true=>obtain⟨o,e,c,d⟩:=(show h.IsTupleIter i l n from x);exact⟨o,e,λv z=>by rw[d] at z;cases z⟩
 | false=>obtain⟨o,e,c,d⟩:=(show h.IsListIter i l n from x);exact⟨o,e,λv z=>by rw[d] at z;cases z⟩
section
variable {prog:Program}{w:World}{A:Around}{E:Value->Shared->Prop}{s:Shared}
def vj {it t:Addr}{i:Nat}{items:Array Value}{x:Value}{Q:Value->Shared->Prop}(hit:s.heap.IsTupleIter it t i)(ht:s.heap.IsTuple t items)(hx:items[i]? = some x)
  (hQ:∀h',h'.IsTupleIter it t (i+1)->Heap.SameBut it s.heap h'->Q x { s with heap:=h' }):wpAny (model prog w) A (Builtin.SmallTypes.nextOf (.ref it)) Q E s:=by
 obtain⟨oi,gi,ci,di⟩:=id hit;obtain⟨ot,gt,_,nt,dt⟩:=ht;unfold Builtin.SmallTypes.nextOf;refine w_ (wpAny_callSpecial?_slot (name:=Str.ofString "__next__") hit.typeIs F.slot_tuple_iterator_next (wpAny_call_entry F.slot_tuple_iterator_next hit.typeIs F.entry_tuple_iterator_next ?_ (F.args_tuple_iterator_next_1 _)))
 show wpAny _ _ (field (.ref it) 0 >>= _) _ _ s
 refine w_ (wpAny_field gi di (x:=.ref t) rfl ?_)
 show wpAny _ _ (if (Value.ref t==Value.none)=true then _ else _) _ _ s
 rw[if_neg (show ¬((Value.ref t==Value.none)=true) from Bool.false_ne_true)]
 show wpAny _ _ (field (.ref it) 1 >>= _) _ _ s
 refine w_ (wpAny_field gi di (x:=.int i 0) rfl ?_)
 show wpAny _ _ (seqItems? (.ref t) >>= _) _ _ s
 refine w_ (wpAny_seqItems gt dt ?_)
 simp only[Int.toNat_natCast,hx]
 refine w_ (wpAny_setField gi di (by simp) (u_ ⟨x,rfl,u_ (hQ _ ?_ (Heap.SameBut.update ..))⟩))
 exact⟨_,Heap.get?_update_self _ gi (Obj.isFreed_of_fields (Obj.data_mapFields di _)),(Obj.cls_mapFields ..).trans ci,by rw[Obj.data_mapFields di];simp[rawInt]⟩
def tX {it t:Addr}{i:Nat}{items:Array Value}{Q:Value->Shared->Prop}(hh:A.handled=none)(hit:s.heap.IsTupleIter it t i)(ht:s.heap.IsTuple t items)(hx:items[i]? = none)
  (hE:∀h' e,Heap.ExtBut it s.heap h'->(∃o,h'.get? e=some o/\o.cls=.type "StopIteration")->E (.ref e) { s with heap:=h' }):wpAny (model prog w) A (Builtin.SmallTypes.nextOf (.ref it)) Q E s:=by
 obtain⟨oi,gi,ci,di⟩:=id hit;obtain⟨ot,gt,_,nt,dt⟩:=ht;unfold Builtin.SmallTypes.nextOf;refine w_ (wpAny_callSpecial?_slot (name:=Str.ofString "__next__") hit.typeIs F.slot_tuple_iterator_next (wpAny_call_entry F.slot_tuple_iterator_next hit.typeIs F.entry_tuple_iterator_next ?_ (F.args_tuple_iterator_next_1 _)))
 show wpAny _ _ (field (.ref it) 0 >>= _) _ _ s
 refine w_ (wpAny_field gi di (x:=.ref t) rfl ?_)
 show wpAny _ _ (if (Value.ref t==Value.none)=true then _ else _) _ _ s
 rw[if_neg (show ¬((Value.ref t==Value.none)=true) from Bool.false_ne_true)]
 show wpAny _ _ (field (.ref it) 1 >>= _) _ _ s
 refine w_ (wpAny_field gi di (x:=.int i 0) rfl ?_)
 show wpAny _ _ (seqItems? (.ref t) >>= _) _ _ s
 refine w_ (wpAny_seqItems gt dt ?_)
 simp only[Int.toNat_natCast,hx]
 refine w_ (wpAny_rule (w_ (wpAny_setField gi di (by simp) ?_)))
 show wpAny _ _ (newExc (.type "StopIteration") [] >>= _) _ _ _
 refine w_ ?_
 simp only[newExc,newTuple]
 refine w_ (wpAny_newObj_type ?_ (by size_fits))
 refine w_ (m:=firstArgMember _ _) (wpAny_of_eq (a:=Value.none) (by first|rfl|(simp only[firstArgMember];rfl)) ?_)
 refine wpAny_newObj_type ?_ (by size_fits)
 simp only[raiseNew]
 refine w_ (wpAny_handled ?_)
 first|rw[show A.in1.handled=none from hh] | rw[hh]
 refine w_ (u_ (wpAny_throw ?_));exact hE _ _ (((Heap.SameBut.update ..).extBut.push _).push _) ⟨_,Heap.get?_push_size _ rfl,rfl⟩
theorem iB {b:Bool}{it l:Addr}{i:Nat}{items:Array Value}{x:Value}{Q:Value->Shared->Prop}(hit:K1 b s.heap it l i)(hl:N6 b s.heap l items)(hx:items[i]? = some x)
  (hQ:∀h',K1 b h' it l (i+1)->Heap.SameBut it s.heap h'->Q x { s with heap:=h' }):wpAny (model prog w) A (Builtin.SmallTypes.nextOf (.ref it)) Q E s:=by
 cases b with
 | true=>exact vj hit hl hx hQ
 | false=>exact wpAny_nextOf_list_item hit hl hx hQ
theorem nP {b:Bool}{it l:Addr}{i:Nat}{items:Array Value}{Q:Value->Shared->Prop}(hh:A.handled=none)(hit:K1 b s.heap it l i)(hl:N6 b s.heap l items)(hx:items[i]? = none)
  (hE:∀h' e,Heap.ExtBut it s.heap h'->(∃o,h'.get? e=some o/\o.cls=.type "StopIteration")->E (.ref e) { s with heap:=h' }):wpAny (model prog w) A (Builtin.SmallTypes.nextOf (.ref it)) Q E s:=by
 cases b with
 | true=>exact tX hh hit hl hx hE
 | false=>exact wpAny_nextOf_list_end hh hit hl hx hE
structure ZAp (z t o i j l m:Addr):Prop where
 tz:t≠z
 oz:o≠z
 iz:i≠z
 jz:j≠z
 ot:o≠t
 it:i≠t
 jt:j≠t
 io:i≠o
 jo:j≠o
 ij:i≠j
 lz:l≠z
 lo:l≠o
 li:l≠i
 lj:l≠j
 mz:m≠z
 mo:m≠o
 mi:m≠i
 mj:m≠j
def uY {b:Bool}{z t o i j l m:Addr}{n:Nat}{xs ys:Array Value}{x y c d:Value}{Q:Option Value->Shared->Prop}(D:ZAp z t o i j l m)(hz:IsZip s.heap z t o .none)(ht:IsPair s.heap t (.ref i) (.ref j))(ho:IsPair s.heap o c d)
  (hi:K1 b s.heap i l n)(hj:K1 b s.heap j m n)(hl:N6 b s.heap l xs)(hm:N6 b s.heap m ys)(hx:xs[n]? = some x)(hy:ys[n]? = some y)
  (hQ:∀h',IsZip h' z t o (rawInt s.heap.objs.size)->IsPair h' o x y->K1 b h' i l (n+1)->K1 b h' j m (n+1)->IsPair h' s.heap.objs.size x y->h'.objs.size=s.heap.objs.size+1 ->
   (∀a u,a≠z->a≠o->a≠i->a≠j->s.heap.get? a=some u->h'.get? a=some u)->Q (some (.ref s.heap.objs.size)) { s with heap:=h' }):wpAny (model prog w) A (pyNext (.ref z)) Q E s:=by
 have hT:s.TypeIs (.ref z) "zip":=⟨_,hz,rfl⟩;unfold pyNext;refine w_ (wpAny_attempt (wpAny_callSpecial?_slot (name:=Str.ofString "__next__") hT F.slot_zip_next (wpAny_call_entry F.slot_zip_next hT F.entry_zip_next ?_ (F.args_zip_next_1 _))))
 show wpAny _ _ (field (.ref z) 2 >>= _) _ _ _
 refine w_ (wpAny_field hz rfl (x:=.bool false) rfl ?_)
 show wpAny _ _ (field (.ref z) 3 >>= _) _ _ _
 refine w_ (wpAny_field hz rfl (x:=.ref t) rfl ?_);refine w_ (wpAny_seqItems ht rfl ?_)
 show wpAny _ _ (Builtin.SmallTypes.ownedTupleIsFree (.ref z) >>= _) _ _ _
 refine w_ ?_;unfold Builtin.SmallTypes.ownedTupleIsFree;refine w_ (wpAny_field hz rfl (x:=.none) rfl (u_ ?_))
 simp only[if_true]
 refine w_ (wpAny_rule ?_);refine w_ (wpAny_field hz rfl (x:=.ref o) rfl ?_);refine w_ (wpAny_setField_rec hz (by simp) λh1 z1 s1=>?_)
 replace z1:IsZip h1 z t o .ellipsis:=z1
 refine w_ ?_
 simp only[List.zipIdx_cons,List.zipIdx_nil,List.forIn_cons,List.forIn_nil]
 refine w_ (w_ (wpAny_onRaise ?_))
 show wpAny _ _ (Builtin.SmallTypes.nextOf (.ref i) >>= _) _ _ _
 refine w_ (iB (s:={ s with heap:=h1 }) (hi.kept λu e=>s1.extBut _ u D.iz e) (hl.kept λu e=>s1.extBut _ u D.lz e) hx λh2 i2 s2=>u_ ?_)
 have o2:IsPair h2 o c d:=s2.extBut _ _ (Ne.symm D.io) (s1.extBut _ _ D.oz ho);refine w_ (wpAny_seqItems o2 rfl ?_);refine w_ (wpAny_updateSeq_pair o2 λh3 o3 s3=>?_)
 replace o3:IsPair h3 o x d:=o3
 refine w_ (wpAny_letGo (u_ ?_));refine w_ (w_ (wpAny_onRaise ?_))
 show wpAny _ _ (Builtin.SmallTypes.nextOf (.ref j) >>= _) _ _ _
 refine w_ (iB (s:={ s with heap:=h3 }) (hj.kept λu e=>s3.extBut _ u D.jo (s2.extBut _ u (Ne.symm D.ij) (s1.extBut _ u D.jz e))) (hm.kept λu e=>s3.extBut _ u D.mo (s2.extBut _ u D.mi (s1.extBut _ u D.mz e))) hy λh4 j4 s4=>u_ ?_)
 have o4:IsPair h4 o x d:=s4.extBut _ _ (Ne.symm D.jo) o3;refine w_ (wpAny_seqItems o4 rfl ?_);refine w_ (wpAny_updateSeq_pair o4 λh5 o5 s5=>?_)
 replace o5:IsPair h5 o x y:=o5
 refine w_ (wpAny_letGo (u_ (u_ ?_)));refine w_ (wpAny_seqItems o5 rfl ?_);refine w_ (wpAny_newTuple ?_);have hsz:h5.objs.size=s.heap.objs.size:=by rw[s5.1,s4.1,s3.1,s2.1,s1.1]
 have z5:IsZip h5 z t o .ellipsis:=s5.extBut _ _ (Ne.symm D.oz) (s4.extBut _ _ (Ne.symm D.jz) (s3.extBut _ _ (Ne.symm D.oz) (s2.extBut _ _ (Ne.symm D.iz) z1)));have k5:∀a u,a≠z->a≠o->a≠i->a≠j->s.heap.get? a=some u->h5.get? a=some u:=λa u a1 a2 a3 a4 e=>s5.extBut _ _ a2 (s4.extBut _ _ a4 (s3.extBut _ _ a2 (s2.extBut _ _ a3 (s1.extBut _ _ a1 e))));have i5:K1 b h5 i l (n+1):=i2.kept λu e=>s5.extBut _ u D.io (s4.extBut _ u D.ij (s3.extBut _ u D.io e));have j5:K1 b h5 j m (n+1):=j4.kept λu e=>s5.extBut _ u D.jo e;have hzlt:z<h5.objs.size:=Heap.lt_size z5
 show wpAny _ _ (Builtin.SmallTypes.ownedTupleHandOut (.ref z) (.ref h5.objs.size) >>= _) _ _ _
 refine w_ ?_;unfold Builtin.SmallTypes.ownedTupleHandOut;have z6:IsZip (h5.push { cls:=.type "tuple",data:=.seq #[x,y] }) z t o .ellipsis:=Heap.get?_push_of_some _ z5;refine w_ (wpAny_setField_rec z6 (by simp) λh7 z7 s7=>?_)
 replace z7:IsZip h7 z t o (rawInt h5.objs.size):=z7
 refine wpAny_setField_rec z7 (by simp) λh8 z8 s8=>?_
 replace z8:IsZip h8 z t o (rawInt h5.objs.size):=z8
 have up:∀a u,a≠z->h5.get? a=some u->h8.get? a=some u:=λa u a1 e=>s8.extBut _ _ a1 (s7.extBut _ _ a1 (Heap.get?_push_of_some _ e));have t8:IsPair h8 h5.objs.size x y:=s8.extBut _ _ (Nat.ne_of_gt hzlt) (s7.extBut _ _ (Nat.ne_of_gt hzlt) (Heap.get?_push_size _ rfl));have n8:h8.objs.size=h5.objs.size+1:=by rw[s8.1,s7.1,Heap.size_push]
 rw[hsz] at z8 t8 n8;refine u_ ⟨_,rfl,u_ ?_⟩
 show Q (some (.ref h5.objs.size)) _
 rw[hsz];exact hQ h8 z8 (up _ _ D.oz o5) (i5.kept λu e=>up _ u D.iz e) (j5.kept λu e=>up _ u D.jz e) t8 n8 λa u a1 a2 a3 a4 e=>up a u a1 (k5 a u a1 a2 a3 a4 e)
theorem tR {b:Bool}{z t o i j l m:Addr}{n:Nat}{xs ys:Array Value}{c d:Value}{Q:Option Value->Shared->Prop}(hh:A.handled=none)(D:ZAp z t o i j l m)(hz:IsZip s.heap z t o .none)(ht:IsPair s.heap t (.ref i) (.ref j))(ho:IsPair s.heap o c d)
  (hi:K1 b s.heap i l n)(hj:K1 b s.heap j m n)(hl:N6 b s.heap l xs)(hm:N6 b s.heap m ys)(hend:xs[n]? = none\/ys[n]? = none)
  (hQ:∀h',(∀a u,a≠z->a≠o->a≠i->a≠j->s.heap.get? a=some u->h'.get? a=some u)->Q none { s with heap:=h' }):wpAny (model prog w) A (pyNext (.ref z)) Q E s:=by
 have hT:s.TypeIs (.ref z) "zip":=⟨_,hz,rfl⟩;unfold pyNext
 have fin:∀(h':Heap)(e:Addr),(∀a u,a≠z->a≠o->a≠i->a≠j->s.heap.get? a=some u->h'.get? a=some u)->(∃u,h'.get? e=some u/\u.cls=.type "StopIteration") ->
   wpAny (model prog w) A (do if <- isInstance (.ref e) (.type "StopIteration") then pure none else throw (.ref e)) Q E { s with heap:=h' }:=λh' e kk ⟨u,hu,hc⟩=>by
  refine w_ (wpAny_isInstance (T:="StopIteration") (b:=true) ⟨u,hu,hc⟩ isSubtype_stop ?_);exact u_ (hQ _ kk)
 refine w_ (wpAny_attempt (wpAny_callSpecial?_slot (name:=Str.ofString "__next__") hT F.slot_zip_next (wpAny_call_entry F.slot_zip_next hT F.entry_zip_next ?_ (F.args_zip_next_1 _))))
 show wpAny _ _ (field (.ref z) 2 >>= _) _ _ _
 refine w_ (wpAny_field hz rfl (x:=.bool false) rfl ?_)
 show wpAny _ _ (field (.ref z) 3 >>= _) _ _ _
 refine w_ (wpAny_field hz rfl (x:=.ref t) rfl ?_);refine w_ (wpAny_seqItems ht rfl ?_)
 show wpAny _ _ (Builtin.SmallTypes.ownedTupleIsFree (.ref z) >>= _) _ _ _
 refine w_ ?_;unfold Builtin.SmallTypes.ownedTupleIsFree;refine w_ (wpAny_field hz rfl (x:=.none) rfl (u_ ?_))
 simp only[if_true]
 refine w_ (wpAny_rule ?_);refine w_ (wpAny_field hz rfl (x:=.ref o) rfl ?_);refine w_ (wpAny_setField_rec hz (by simp) λh1 z1 s1=>?_)
 replace z1:IsZip h1 z t o .ellipsis:=z1
 refine w_ ?_
 simp only[List.zipIdx_cons,List.zipIdx_nil,List.forIn_cons,List.forIn_nil]
 refine w_ (w_ (wpAny_onRaise ?_))
 show wpAny _ _ (Builtin.SmallTypes.nextOf (.ref i) >>= _) _ _ _
 cases hx:xs[n]? with
 | none =>
  refine w_ (nP (s:={ s with heap:=h1 }) hh (hi.kept λu e=>s1.extBut _ u D.iz e) (hl.kept λu e=>s1.extBut _ u D.lz e) hx λh2 e s2 he=>?_)
  obtain⟨oe,hoe,hce⟩:=he;have z2:IsZip h2 z t o .ellipsis:=s2 _ _ (Ne.symm D.iz) z1;have hez:e≠z:=λq=>by subst q;rw[z2] at hoe;cases hoe;simp at hce
  refine wpAny_setField_rec z2 (by simp) λh3 _ s3=>?_
  exact fin h3 e (λa u a1 _ a3 _ q=>s3.extBut _ _ a1 (s2 _ _ a3 (s1.extBut _ _ a1 q))) ⟨oe,s3.extBut _ _ hez hoe,hce⟩
 | some x =>
  have hy:ys[n]? = none:=by
   rcases hend with q|q
   ·rw[hx] at q;cases q
   ·exact q
  refine w_ (iB (s:={ s with heap:=h1 }) (hi.kept λu e=>s1.extBut _ u D.iz e) (hl.kept λu e=>s1.extBut _ u D.lz e) hx λh2 i2 s2=>u_ ?_)
  have o2:IsPair h2 o c d:=s2.extBut _ _ (Ne.symm D.io) (s1.extBut _ _ D.oz ho);refine w_ (wpAny_seqItems o2 rfl ?_);refine w_ (wpAny_updateSeq_pair o2 λh3 o3 s3=>?_);refine w_ (wpAny_letGo (u_ ?_));refine w_ (w_ (wpAny_onRaise ?_))
  show wpAny _ _ (Builtin.SmallTypes.nextOf (.ref j) >>= _) _ _ _
  refine w_ (nP (s:={ s with heap:=h3 }) hh (hj.kept λu e=>s3.extBut _ u D.jo (s2.extBut _ u (Ne.symm D.ij) (s1.extBut _ u D.jz e))) (hm.kept λu e=>s3.extBut _ u D.mo (s2.extBut _ u D.mi (s1.extBut _ u D.mz e))) hy λh4 e s4 he=>?_)
  obtain⟨oe,hoe,hce⟩:=he;have z4:IsZip h4 z t o .ellipsis:=s4 _ _ (Ne.symm D.jz) (s3.extBut _ _ (Ne.symm D.oz) (s2.extBut _ _ (Ne.symm D.iz) z1));have hez:e≠z:=λq=>by subst q;rw[z4] at hoe;cases hoe;simp at hce
  refine wpAny_setField_rec z4 (by simp) λh5 _ s5=>?_
  exact fin h5 e (λa u a1 a2 a3 a4 q=>s5.extBut _ _ a1 (s4 _ _ a4 (s3.extBut _ _ a2 (s2.extBut _ _ a3 (s1.extBut _ _ a1 q))))) ⟨oe,s5.extBut _ _ hez hoe,hce⟩
abbrev Y6 (b:Bool)(l:Addr):Obj:={ cls:=.type (if b then "tuple_iterator" else "list_iterator"),data:=.fields #[.ref l,.int 0 0] }
theorem dO {b:Bool}{l:Addr}{items:Array Value}{Q:Value->Shared->Prop}(hl:N6 b s.heap l items)(hQ:Q (.ref s.heap.objs.size) { s with heap:=s.heap.push (Y6 b l) }):wpAny (model prog w) A (pyIter (.ref l)) Q E s:=by
 cases b with
 | true=>exact wpAny_pyIter_tuple hl hQ
 | false=>exact wpAny_pyIter_list hl hQ
abbrev zH1 (b:Bool)(h:Heap)(l:Addr):Heap:=h.push (Y6 b l)
abbrev zH2 (b:Bool)(h:Heap)(l m:Addr):Heap:=(zH1 b h l).push (Y6 b m)
abbrev zH3 (b:Bool)(h:Heap)(l m:Addr):Heap:=(zH2 b h l m).push { cls:=.type "tuple",data:=.seq #[.ref h.objs.size,.ref (zH1 b h l).objs.size] }
abbrev zH4 (b:Bool)(h:Heap)(l m:Addr):Heap:=(zH3 b h l m).push { cls:=.type "tuple",data:=.seq #[.none,.none] }
abbrev zH5 (b:Bool)(h:Heap)(l m:Addr):Heap:=(zH4 b h l m).push { cls:=.type "zip",data:=.fields #[.none,.bool false,.bool false,.ref (zH2 b h l m).objs.size,.ref (zH3 b h l m).objs.size] }
def tE (b:Bool)(l m:Addr)(xs ys:Array Value):Meets (Builtin.«zip.__new__» ⟨[.type "zip",.ref l,.ref m],[]⟩) (λ_ R s=>N6 b s.heap l xs/\N6 b s.heap m ys/\R (.ok (.ret (.ref (zH4 b s.heap l m).objs.size))) { s with heap:=zH5 b s.heap l m }) :=
 .of_wp λprog w A R s h=>by
  obtain⟨hp,g,d,tk,os⟩:=s;obtain⟨hl,hm,h⟩:=h;have hsub:=sub_zip;have hL:N6 b (Shared.heap ⟨hp,g,d,tk,os⟩) l xs:=hl;have hM:N6 b (Shared.heap ⟨hp.push (Y6 b l),g,d,tk,os⟩) m ys:=hm.kept λo e=>Heap.get?_push_of_some _ e
  wp_walk using dO hL,dO hM
  exact⟨_,rfl,h⟩
def eL {b:Bool}{l m:Addr}{xs ys:Array Value}{Q:Value->Shared->Prop}(hl:N6 b s.heap l xs)(hm:N6 b s.heap m ys)
  (h:∀h',IsZip h' (s.heap.objs.size+4) (s.heap.objs.size+2) (s.heap.objs.size+3) .none->IsPair h' (s.heap.objs.size+2) (.ref s.heap.objs.size) (.ref (s.heap.objs.size+1))->IsPair h' (s.heap.objs.size+3) .none .none ->
   K1 b h' s.heap.objs.size l 0->K1 b h' (s.heap.objs.size+1) m 0->(∀c o,s.heap.get? c=some o->h'.get? c=some o)->Q (.ref (s.heap.objs.size+4)) { s with heap:=h' }) :
  wpAny (model prog w) A (call (.type "zip") [.ref l,.ref m]) Q E s:=by
 refine callType_new F.called_zip (by decide) (F.typeCall_zip_2 _ _) (F.newCall_zip_2 _ _) (λobj=>F.args_object_init_3 obj _ _) F.entry_zip_new (tE b l m xs ys) ⟨hl,hm,?_⟩
 have z1:(zH1 b s.heap l).objs.size=s.heap.objs.size+1:=Heap.size_push ..;have z2:(zH2 b s.heap l m).objs.size=s.heap.objs.size+2:=by rw[Heap.size_push,z1]
 have z3:(zH3 b s.heap l m).objs.size=s.heap.objs.size+3:=by rw[Heap.size_push,z2]
 have z4:(zH4 b s.heap l m).objs.size=s.heap.objs.size+4:=by rw[Heap.size_push,z3]
 have g5:(zH5 b s.heap l m).get? (zH4 b s.heap l m).objs.size=some _:=Heap.get?_push_size _ rfl;have g4:(zH5 b s.heap l m).get? (zH3 b s.heap l m).objs.size=some _:=Heap.get?_push_of_some _ (Heap.get?_push_size _ rfl);have g3:(zH5 b s.heap l m).get? (zH2 b s.heap l m).objs.size=some _:=Heap.get?_push_of_some _ (Heap.get?_push_of_some _ (Heap.get?_push_size _ rfl));have g2:(zH5 b s.heap l m).get? (zH1 b s.heap l).objs.size=some (Y6 b m):=Heap.get?_push_of_some _ (Heap.get?_push_of_some _ (Heap.get?_push_of_some _ (Heap.get?_push_size _ rfl)));have g1:(zH5 b s.heap l m).get? s.heap.objs.size=some (Y6 b l):=Heap.get?_push_of_some _ (Heap.get?_push_of_some _ (Heap.get?_push_of_some _ (Heap.get?_push_of_some _ (Heap.get?_push_size _ rfl))))
 show _/\_
 rw[z2,z3,z4] at g5;rw[z1,z2] at g3;rw[z3] at g4;rw[z1] at g2;rw[z4];have r1:K1 b (zH5 b s.heap l m) s.heap.objs.size l 0:=by cases b<;>exact⟨_,g1,rfl,rfl⟩
 have r2:K1 b (zH5 b s.heap l m) (s.heap.objs.size+1) m 0:=by cases b<;>exact⟨_,g2,rfl,rfl⟩
 exact⟨⟨_,g5,rfl⟩,h _ g5 g3 g4 r1 r2 λc o x=>Heap.get?_push_of_some _ (Heap.get?_push_of_some _ (Heap.get?_push_of_some _ (Heap.get?_push_of_some _ (Heap.get?_push_of_some _ x))))⟩
end
def Sq (b:Bool)(K:Frag)(H:Hp)(a:Addr)(xs:List V):Prop:=match b with
 | true=>SqT K H a xs
 | false=>SqL K H a xs
section
variable {X:Cx}{pins:List (Addr×Obj)}{σ:St}{H:Hp}{s:Shared}{b:Bool}{a:Addr}{xs ys:List V}
theorem Inv.row (I:Inv X pins σ H s)(h:Sq b X.K H a xs):∃its:List Value,o9 xs its/\N6 b s.heap a its.toArray/\xs.length<=sizeLine:=by
 cases b with
 | true =>
  obtain⟨its,r,p,z⟩:=I.tuple h;exact⟨its,r,p,z⟩
 | false =>
  obtain⟨its,r,p,z⟩:=I.list h;exact⟨its,r,p.isList,z⟩
theorem Inv.row_inj (I:Inv X pins σ H s)(h:Sq b X.K H a xs)(h':Sq b X.K H a ys):xs=ys:=by
 cases b with
 | true=>exact I.tuple_inj h h'
 | false=>exact I.list_inj h h'
end
theorem Sq.there {b:Bool}{h:Heap}{l:Addr}{xs:Array Value}(x:N6 b h l xs):l<h.objs.size:=by
 cases b with
 | true=>obtain⟨o,e,_⟩:=(show h.IsTuple l xs from x);exact Heap.lt_size e
 | false=>obtain⟨o,e,_⟩:=(show h.IsList l xs from x);exact Heap.lt_size e
def Itz (b:Bool)(K:Frag)(l m:Addr):It :=
  ⟨λi H=>∃xs ys x y,Sq b K H l xs/\Sq b K H m ys/\xs[i]? = some x/\ys[i]? = some y,
   λi H v H'=>∃p x y,H p=none/\v=.ref p/\H'=upd H p (.tup [x,y])/\(∀xs,Sq b K H l xs->xs[i]? = some x)/\∀ys,Sq b K H m ys->ys[i]? = some y,
   λi H=>∃xs ys,Sq b K H l xs/\Sq b K H m ys/\(xs.length<=i\/ys.length<=i)⟩
def rg {P:Program}{w:World}{K:Frag}{es:List Expr}{kk:Nat}{pos:Pos}{b:Bool}{z t o i j l m:Addr}(D:ZAp z t o i j l m) :
  qp P w K (.Tuple es kk pos) (Itz b K l m) [z,t,o,i,j] z (λn h=>IsZip h z t o .none/\IsPair h t (.ref i) (.ref j)/\(∃c d,IsPair h o c d)/\K1 b h i l n/\K1 b h j m n) where
 mem:=by simp
 obj:=λn h ⟨hz,ht,⟨c,d,ho⟩,hi,hj⟩ a ha=>by
  simp only[mem_cons,not_mem_nil,or_false] at ha
  rcases ha with rfl|rfl|rfl|rfl|rfl
  ·exact⟨_,hz,λv q=>nomatch q⟩
  ·exact⟨_,ht,λv q=>nomatch q⟩
  ·exact⟨_,ho,λv q=>nomatch q⟩
  ·exact hi.there
  ·exact hj.there
 keep:=λn h h' ⟨hz,ht,⟨c,d,ho⟩,hi,hj⟩ k=>⟨k z (by simp) _ hz,k t (by simp) _ ht,⟨c,d,k o (by simp) _ ho⟩,hi.kept λu e=>k i (by simp) u e,hj.kept λu e=>k j (by simp) u e⟩
 item:=by
  intro X hP hw hK hc n pins s σ H E I hf ⟨hz,ht,⟨c,d,ho⟩,hi,hj⟩ hg
  subst hP hw hK;obtain⟨xs,ys,x,y,hl,hm,hx,hy⟩:=hg;obtain⟨us,ru,hl',hzl⟩:=I.row hl;obtain⟨vs,rv,hm',hzm⟩:=I.row hm;obtain⟨u,hu,r1⟩:=ru.get hx;obtain⟨v,hv,r2⟩:=rv.get hy;refine uY D hz ht ho hi hj hl' hm' (x:=u) (y:=v) (by simpa using hu) (by simpa using hv) λh' z' o' i' j' t' n' kp=>⟨_,rfl,?_⟩
  refine wpAny_letOwnedTupleGo_zip (s:={ s with heap:=h' }) z' λh'' z'' sb=>?_
  have fresh:H s.heap.objs.size=none:=I.hok.fresh (Nat.le_refl _);have kp2:∀a q,a≠z->a≠o->a≠i->a≠j->s.heap.get? a=some q->h''.get? a=some q:=λa q a1 a2 a3 a4 e=>sb.extBut _ _ a1 (kp a q a1 a2 a3 a4 e);have hT:s.heap.objs.size≠z:=Nat.ne_of_gt (Heap.lt_size hz);have pT:IsPair h'' s.heap.objs.size u v:=sb.extBut _ _ hT t';have notin:∀a,a∉[z,o,i,j]->a≠z/\a≠o/\a≠i/\a≠j:=λa ha=>by simpa using ha
  have fpn:∀a∈[z,o,i,j],H a=none:=λa ha=>by
   simp only[mem_cons,not_mem_nil,or_false] at ha
   rcases ha with rfl|rfl|rfl|rfl
   ·exact(hf _ (by simp)).1
   ·exact(hf _ (by simp)).1
   ·exact(hf _ (by simp)).1
   ·exact(hf _ (by simp)).1
  have trk:∀a q,H a=some q->a∉[z,o,i,j]:=λa q e ha=>by rw[fpn a ha] at e;cases e
  have hok:HOk X.prog X.w (upd H s.heap.objs.size (.tup [x,y])) h'':=λa q e=>by
   by_cases ha:a=s.heap.objs.size
   ·subst ha
    rw[c6] at e
    cases e
    exact⟨by show 2<=sizeLine;decide,[u,v],.cons r1 (.cons r2 .nil),⟨_,pT,rfl,_,rfl⟩⟩
   ·rw[j2 ha] at e
    refine(I.hok a q e).stay (λa' q' h1 h2=>?_) (λa' q'=>by rw[j2 (n9 q' fresh)];exact q') λa' xs' q'=>by rw[j2 (n9 q' fresh)];exact q'
    have ni:a'∉[z,o,i,j]:=by
     rcases h1 with rfl|h1
     ·exact trk _ _ e
     ·exact trk _ _ h1
    obtain⟨n1,n2,n3,n4⟩:=notin a' ni;exact kp2 a' q' n1 n2 n3 n4 h2
  have J:Inv X pins σ (upd H s.heap.objs.size (.tup [x,y])) { s with heap:=h'' }:=by
   refine I.step (g':=s.gens) (d':=s.drawn) (t':=s.toks) (ch:=[z,o,i,j]) (λa ha=>?_) (λa q _ _ hc' e _=>?_) (λa q _ _ hc' e _=>?_) (λa q _ e n2=>?_) (λa q hc' e=>?_) (λa xs' e=>?_) (λa q u' e=>?_) (λa ps e=>?_) (λm' hm''=>?_) hok I.bare
   ·have ha':a∈[z,t,o,i,j]:=by
     simp only[mem_cons,not_mem_nil,or_false] at ha ⊢
     rcases ha with q|q|q|q
     ·exact .inl q
     ·exact .inr (.inr (.inl q))
     ·exact .inr (.inr (.inr (.inl q)))
     ·exact .inr (.inr (.inr (.inr q)))
    obtain⟨_,f1,_,f3,f4,f5⟩:=hf a ha';exact⟨f3,f1,f4,f5⟩
   ·obtain⟨n1,n2,n3,n4⟩:=notin a hc'
    exact kp2 a q n1 n2 n3 n4 e
   ·obtain⟨n1,n2,n3,n4⟩:=notin a hc'
    exact⟨q.slots,kp2 a q n1 n2 n3 n4 e⟩
   ·rw[j2 (Nat.ne_of_lt (Heap.lt_size e))]
    exact n2
   ·obtain⟨n1,n2,n3,n4⟩:=notin a hc'
    exact⟨q,kp2 a q n1 n2 n3 n4 e⟩
   ·rw[j2 (n9 e fresh)]
    exact e
   ·rw[j2 (n9 e fresh)]
    exact e
   ·exact⟨#[],by rw[j2 (n9 e fresh),e];simp⟩
   ·obtain⟨ob,es',ep,e1,r⟩:=hm''
    have f1:∀a'∈[z,t,o,i,j],a'≠X.env.locals:=λa' ha'=>(hf a' ha').2.1;exact⟨ob,es',ep,kp2 _ _ (Ne.symm (f1 z (by simp))) (Ne.symm (f1 o (by simp))) (Ne.symm (f1 i (by simp))) (Ne.symm (f1 j (by simp))) e1,r⟩
  refine⟨.ref s.heap.objs.size,_,J,rfl,⟨s.heap.objs.size,x,y,fresh,rfl,rfl,λxs' q=>?_,λys' q=>?_⟩,⟨z'',?_,⟨_,_,sb.extBut _ _ D.oz o'⟩,i'.kept λq e=>sb.extBut _ q D.iz e,j'.kept λq e=>sb.extBut _ q D.jz e⟩,λa ha=>?_⟩
  ·rw[I.row_inj q hl];exact hx
  ·rw[I.row_inj q hm];exact hy
  ·exact kp2 t _ D.tz (Ne.symm D.ot) (Ne.symm D.it) (Ne.symm D.jt) ht
  ·have:a≠s.heap.objs.size:=by
    simp only[mem_cons,not_mem_nil,or_false] at ha
    rcases ha with rfl|rfl|rfl|rfl|rfl
    ·exact Ne.symm hT
    ·exact Nat.ne_of_lt (Heap.lt_size ht)
    ·exact Nat.ne_of_lt (Heap.lt_size ho)
    ·obtain⟨q,e,_⟩:=hi.there;exact Nat.ne_of_lt (Heap.lt_size e)
    ·obtain⟨q,e,_⟩:=hj.there;exact Nat.ne_of_lt (Heap.lt_size e)
   rw[j2 this];exact(hf a ha).1
 done:=by
  intro X hP hw hK hc n pins s σ H E I hf ⟨hz,ht,⟨c,d,ho⟩,hi,hj⟩ hg
  subst hP hw hK;obtain⟨xs,ys,hl,hm,hend⟩:=hg;obtain⟨us,ru,hl',hzl⟩:=I.row hl;obtain⟨vs,rv,hm',hzm⟩:=I.row hm;have e1:=ru.length;have e2:=rv.length
  have hend':us.toArray[n]? = none\/vs.toArray[n]? = none:=by
   rcases hend with q|q
   ·exact .inl (by simp;lia)
   ·exact .inr (by simp;lia)
  refine tR (I.ok.hd hc) D hz ht ho hi hj hl' hm' hend' λh' kp=>⟨rfl,?_⟩;have notin:∀a,a∉[z,o,i,j]->a≠z/\a≠o/\a≠i/\a≠j:=λa ha=>by simpa using ha
  have fpn:∀a∈[z,o,i,j],eA X pins H a:=λa ha=>hf a (by
   simp only[mem_cons,not_mem_nil,or_false] at ha ⊢
   rcases ha with q|q|q|q
   ·exact .inl q
   ·exact .inr (.inr (.inl q))
   ·exact .inr (.inr (.inr (.inl q)))
   ·exact .inr (.inr (.inr (.inr q))))
  have trk:∀a q,H a=some q->a∉[z,o,i,j]:=λa q e ha=>by rw[(fpn a ha).1] at e;cases e
  have kp2:∀a q,a∉[z,o,i,j]->s.heap.get? a=some q->h'.get? a=some q:=λa q ha e=>by
   obtain⟨n1,n2,n3,n4⟩:=notin a ha;exact kp a q n1 n2 n3 n4 e
  refine I.step (g':=s.gens) (d':=s.drawn) (t':=s.toks) (ch:=[z,o,i,j]) (λa ha=>?_) (λa q _ _ hc' e _=>kp2 a q hc' e) (λa q _ _ hc' e _=>⟨q.slots,kp2 a q hc' e⟩) (λa q _ e n2=>n2) (λa q hc' e=>⟨q,kp2 a q hc' e⟩) (λa xs' e=>e) (λa q u' e=>e) (λa ps e=>⟨#[],by rw[e];simp⟩) (λm' hm''=>?_) (λa q e=>?_) I.bare
  ·obtain⟨_,f1,_,f3,f4,f5⟩:=fpn a ha
   exact⟨f3,f1,f4,f5⟩
  ·obtain⟨ob,es',ep,e1,r⟩:=hm''
   exact⟨ob,es',ep,kp2 _ _ (λha=>(fpn _ ha).2.1 rfl) e1,r⟩
  ·refine(I.hok a q e).stay (λa' q' h1 h2=>kp2 a' q' ?_ h2) (λ_ q'=>q') λ_ _ q'=>q'
   rcases h1 with rfl|h1
   ·exact trk _ _ e
   ·exact trk _ _ h1
 self:=λ_ _ _ _ _ st h=>wpAny_pyIter_zip st.1 h
section
variable {X:Cx}
def xK (b:Bool)(K:Frag)(ta:TA):TI:=λσ H R=>ta σ H λvs H1=>∃l m xs ys,vs=[.ref l,.ref m]/\Sq b K H1 l xs/\Sq b K H1 m ys/\R (Itz b K l m) H1
def wV {b:Bool}{es:List Expr}{kk:Nat}{tpos:Pos}{e1 e2:Expr}{ta:TA}{p pos:Pos}(hg:Gl X "zip")(hm:X.mg "zip" = none)(ha:PA X [e1,e2] ta)(hs:starEach [e1,e2] X.env=[(false,eval e1 X.env),(false,eval e2 X.env)]:=by rfl)(hs2:starEach [e2] X.env=[(false,eval e2 X.env)]:=by rfl) :
  PI X (.Tuple es kk tpos) (.Call (.Name "zip" p) [e1,e2] [] pos) (xK b X.K ta):=by
 intro pins s σ H R I h
 refine Call_ (aD I hg hm boot_zip (PyProof.Rows.callWith_type1 (thn (ha pos pins s σ H _ I h) λus s1 ⟨vs,H1,I1,r1,q1⟩=>?_) (by rw[hs,hs2]) (by rw[hs2];rfl)))
 obtain⟨l,m,xs,ys,e,hl,hm,q⟩:=q1;subst e;obtain⟨u,u',rfl,ru,ru'⟩:=dq r1
 cases ru
 cases ru'
 obtain⟨its,rv,hl',_⟩:=I1.row hl;obtain⟨its2,rv2,hm',_⟩:=I1.row hm;refine eL hl' hm' λh' hz ht ho hi hj kp=>wpAny_pyIter_zip hz ?_;have ll:=Sq.there hl';have lm:=Sq.there hm';have N:∀n,l≠s1.heap.objs.size+n:=λn=>Nat.ne_of_lt (Nat.lt_of_lt_of_le ll (Nat.le_add_right _ n));have M:∀n,m≠s1.heap.objs.size+n:=λn=>Nat.ne_of_lt (Nat.lt_of_lt_of_le lm (Nat.le_add_right _ n));have L:∀n k,n<k->s1.heap.objs.size+n≠s1.heap.objs.size+k:=λn k q=>Nat.ne_of_lt (Nat.add_lt_add_left q _);have G:∀n k,k<n->s1.heap.objs.size+n≠s1.heap.objs.size+k:=λn k q=>Nat.ne_of_gt (Nat.add_lt_add_left q _)
 have D:ZAp (s1.heap.objs.size+4) (s1.heap.objs.size+2) (s1.heap.objs.size+3) s1.heap.objs.size (s1.heap.objs.size+1) l m :=
  ⟨L 2 4 (by decide),L 3 4 (by decide),L 0 4 (by decide),L 1 4 (by decide),G 3 2 (by decide),L 0 2 (by decide),L 1 2 (by decide),L 0 3 (by decide),L 1 3 (by decide),L 0 1 (by decide),N 4,N 3,N 0,N 1,M 4,M 3,M 0,M 1⟩
 have fr:∀n,eA X pins H1 (s1.heap.objs.size+n):=λn=>I1.fpOk (Nat.le_add_right _ n) (I1.hok.fresh (Nat.le_add_right _ n));refine⟨s1.heap.objs.size+4,[s1.heap.objs.size+4,s1.heap.objs.size+2,s1.heap.objs.size+3,s1.heap.objs.size,s1.heap.objs.size+1],_,_,H1,rfl,I1.kept (t':=s1.toks) kp,rg (b:=b) D,⟨hz,ht,⟨_,_,ho⟩,hi,hj⟩,λa ha=>?_,q⟩
 simp only[mem_cons,not_mem_nil,or_false] at ha
 rcases ha with rfl|rfl|rfl|rfl|rfl
 ·exact fr 4
 ·exact fr 2
 ·exact fr 3
 ·exact fr 0
 ·exact fr 1
end
def rT {b:Bool}{K:Frag}{l m:Addr}{xs ys:List V}{g:TG}{tt:TT}{te:TE}{σ₀:St}{H:Hp}{Q:VK}(Pv:Nat->List V->St->Hp->Prop)(h0:Pv 0 [] σ₀ H)(hz:xs.length<=sizeLine)(hn:∀i acc σ H,Pv i acc σ H->acc.length<=i)
  (hl:∀i acc σ H,i<=xs.length->i<=ys.length->Pv i acc σ H->Sq b K H l xs/\Sq b K H m ys)
  (hs:∀i x y acc σ H p,xs[i]? = some x->ys[i]? = some y->Pv i acc σ H->H p=none->g (.ref p) σ (upd H p (.tup [x,y])) λσ2 H2=>tt σ2 H2 λok H3=>if ok=true then te σ2 H3 λz H4=>Pv (i+1) (acc++[z]) σ2 H4 else Pv (i+1) acc σ2 H3)
  (hd:∀acc σ H,Pv (min xs.length ys.length) acc σ H->∀p,H p=none->Q (.ref p) (upd H p (.lst acc))) :
  bS (Itz b K l m) g tt te Q σ₀ H:=by
 refine⟨λi n acc σ H=>n=min xs.length ys.length-i/\i<=min xs.length ys.length/\Pv i acc σ H,⟨min xs.length ys.length,by simp,Nat.zero_le _,h0⟩,?_⟩
 rintro i n acc σ H ⟨rfl,hi,p⟩
 obtain⟨q1,q2⟩:=hl i acc σ H (by lia) (by lia) p
 have hlen:=hn i acc σ H p
 by_cases hlt:i<min xs.length ys.length
 ·have h1:i<xs.length:=by lia
  have h2:i<ys.length:=by lia
  refine .inr ⟨⟨xs,ys,xs[i],ys[i],q1,q2,by simp[h1],by simp[h2]⟩,by lia,Pv (i+1),λacc' σ' H' p'=>⟨min xs.length ys.length-(i+1),by lia,rfl,hlt,p'⟩,λv H' y=>?_⟩
  obtain⟨a,x,y,fr,rfl,rfl,k1,k2⟩:=y;exact hs i x y acc σ H a (k1 xs q1) (k2 ys q2) p fr
 ·have e:i=min xs.length ys.length:=by lia
  subst e;refine .inl ⟨⟨xs,ys,q1,q2,?_⟩,by lia,hd acc σ H p⟩
  lia
section
variable {K:Frag}
def iI:kitOne K (.type "NoneType") (.type "bool")=some false:=B4 (by decide +kernel)
def hV:kitOne K (.type "str") (.type "bool")=some false:=B4 (by decide +kernel)
def iG:kitOne K (.type "list") (.type "bool")=some false:=B4 (by decide +kernel)
end
end L2
namespace L2
open PySem
theorem rZ (xs:Array Nat)(j:Nat)(mono:xs.toList.Pairwise (· < ·)):∀fuel lo hi,hi-lo<=fuel->lo<=hi->hi<=xs.size->(∀i,i<lo->xs.getD i j<j)->(∀i,hi<=i->i<xs.size->j<=xs.getD i j) ->
  SetTable.below.go xs j fuel lo hi<=xs.size/\(∀i,i<SetTable.below.go xs j fuel lo hi->xs.getD i j<j)/\∀i,SetTable.below.go xs j fuel lo hi<=i->i<xs.size->j<=xs.getD i j:=by
 have le:∀a b,a<=b->b<xs.size->xs.getD a j<=xs.getD b j:=λa b h hb=>by
  rcases Nat.lt_or_eq_of_le h with h|h
  ·have:=List.pairwise_iff_getElem.mp mono a b (by simp;lia) (by simpa using hb) h
   simp only[Array.getElem_toList] at this
   simp only[Array.getD_eq_getD_getElem?,Array.getElem?_eq_getElem hb,Array.getElem?_eq_getElem (show a<xs.size by lia),Option.getD_some]
   lia
  ·rw[h];exact Nat.le_refl _
 intro fuel
 induction fuel with
 | zero =>
  intro lo hi h1 h2 h3 h4 h5
  have e:lo=hi:=by lia
  subst e;exact⟨h3,h4,h5⟩
 | succ fuel ih =>
  intro lo hi h1 h2 h3 h4 h5
  unfold SetTable.below.go
  by_cases hl:lo<hi
  ·rw[if_pos hl]
   dsimp only
   by_cases hm:xs.getD ((lo+hi)/2) j<j
   ·rw[if_pos hm]
    refine ih _ _ (by lia) (by lia) h3 (λi hi'=>?_) h5
    exact Nat.lt_of_le_of_lt (le i ((lo+hi)/2) (by lia) (by lia)) hm
   ·rw[if_neg hm]
    refine ih _ _ (by lia) (by lia) (by lia) h4 (λi hi' hs=>?_)
    exact Nat.le_trans (by lia) (le ((lo+hi)/2) i hi' hs)
  ·rw[if_neg hl]
   have e:lo=hi:=by lia
   subst e;exact⟨h3,h4,h5⟩
def V3 (xs:Array Nat)(j:Nat)(mono:xs.toList.Pairwise (· < ·)):SetTable.below xs j<=xs.size/\(∀i,i<SetTable.below xs j->xs.getD i j<j)/\∀i,SetTable.below xs j<=i->i<xs.size->j<=xs.getD i j :=
 rZ xs j mono xs.size 0 xs.size (by lia) (by lia) (Nat.le_refl _) (λi h=>absurd h (by lia)) (λi h h'=>absurd h' (by lia))
def aT (xs:Array Nat)(j:Nat)(mono:xs.toList.Pairwise (· < ·))(hn:xs[SetTable.below xs j]?≠some j):(SetTable.insertAt xs (SetTable.below xs j) j).toList.Pairwise (· < ·):=by
 obtain⟨h1,h2,h3⟩:=V3 xs j mono
 have e:(SetTable.insertAt xs (SetTable.below xs j) j).toList=xs.toList.take (SetTable.below xs j)++j::xs.toList.drop (SetTable.below xs j):=by
  simp[SetTable.insertAt,List.extract_eq_take_drop,List.take_of_length_le]
 rw[e];generalize hp:SetTable.below xs j=p at *
 have gt:∀i,p<=i->(h:i<xs.size)->j<xs[i]:=λi hi h=>by
  have q:=h3 i hi h;rw[Array.getD_eq_getD_getElem?,Array.getElem?_eq_getElem h,Option.getD_some] at q
  rcases Nat.lt_or_eq_of_le q with q|q
  ·exact q
  ·exfalso
   have hps:p<xs.size:=by lia
   have q2:=h3 p (Nat.le_refl _) hps;rw[Array.getD_eq_getD_getElem?,Array.getElem?_eq_getElem hps,Option.getD_some] at q2
   rcases Nat.lt_or_eq_of_le hi with z|z
   ·have:=List.pairwise_iff_getElem.mp mono p i (by simpa using hps) (by simpa using h) z
    simp only[Array.getElem_toList] at this
    lia
   ·subst z
    exact hn (by rw[Array.getElem?_eq_getElem h,<- q])
 rw[List.pairwise_append,pairwise_cons];refine⟨mono.sublist (take_sublist _ _),⟨λa ha=>?_,mono.sublist (List.drop_sublist _ _)⟩,λa ha b hb=>?_⟩
 ·obtain⟨i,hi,rfl⟩:=getElem_of_mem ha
  rw[List.getElem_drop];rw[length_drop,Array.length_toList] at hi
  have:=gt (p+i) (by lia) (by lia)
  simpa using this
 ·obtain⟨i,hi,rfl⟩:=getElem_of_mem ha
  rw[length_take,Array.length_toList] at hi;have q:=h2 i (by lia)
  rw[Array.getD_eq_getD_getElem?,Array.getElem?_eq_getElem (by lia),Option.getD_some] at q
  rw[List.getElem_take];rw[Array.getElem_toList]
  rcases mem_cons.mp hb with rfl|hb
  ·exact q
  ·obtain⟨k,hk,rfl⟩:=getElem_of_mem hb
   rw[List.getElem_drop];rw[length_drop,Array.length_toList] at hk
   have:=gt (p+k) (by lia) (by lia)
   rw[Array.getElem_toList];lia
structure JT (L:Bool)(t:SetTable):Prop where
 led:t.led=L
 dum:t.dummies=#[]
 mono:t.place.toList.Pairwise (· < ·)
def iq (j:Nat):SetTable.has #[] j=false:=by simp[SetTable.has]
def aA (t:SetTable)(j:Nat)(h:t.dummies=#[]):(t.slot j=.empty/\t.place[SetTable.below t.place j]?≠some j)\/∃i,t.slot j=.live i:=by
 unfold SetTable.slot;rw[h,iq]
 dsimp only
 by_cases e:(t.place[SetTable.below t.place j]?==some j)=true
 ·rw[if_pos e];exact .inr ⟨_,rfl⟩
 ·rw[if_neg e]
  refine .inl ⟨by simp,λq=>e ?_⟩
  rw[q];simp
theorem jW (t:SetTable)(hd:t.dummies=#[])(f:Nat->Int)(h:Int):∀(fuel:Nat)(p:SetTable.Probe)(j:Nat)(d:Option Nat),p.dummy=none->SetTable.probe.go t f h fuel p=some (.empty j d) ->
  d=none/\t.place[SetTable.below t.place j]?≠some j:=by
 intro fuel
 induction fuel with
 | zero=>intro p j d _ e;simp[SetTable.probe.go] at e
 | succ fuel ih =>
  intro p j d hp e
  unfold SetTable.probe.go at e
  rcases aA t p.j hd with⟨q,q2⟩|⟨i,q⟩
  ·rw[q] at e
   injection e with e
   injection e with e1 e2
   subst e1;exact⟨e2▸hp,q2⟩
  ·rw[q] at e
   dsimp only at e
   have ha:(t.advance p).dummy=none:=by
    unfold SetTable.advance
    split
    ·exact hp
    ·exact hp
   split at e
   ·cases e
   ·exact ih _ j d ha e
def V0 {L:Bool}{t:SetTable}(n:Nat)(h:JT L t):JT L (t.standIn n) where
 led:=h.led
 dum:=rfl
 mono:=by
  show(Array.range n).toList.Pairwise (· < ·)
  rw[Array.toList_range];exact List.pairwise_lt_range
theorem ql {L:Bool}{t:SetTable}(es:Array (Int×Value))(h:Int)(x:Value)(J:JT L t):JT L (layNew t es h x).2.1:=by
 unfold layNew
 cases q:t.freeSlot h with
 | none=>exact V0 _ J
 | some r =>
  obtain⟨slot,wasDummy⟩:=r
  dsimp only
  have hs:t.place[SetTable.below t.place slot]?≠some slot:=by
   unfold SetTable.freeSlot at q
   cases e:t.probe (λ_=>h+1) h (t.probeStart h) with
   | none=>rw[e] at q;cases q
   | some m =>
    rw[e] at q
    cases m with
    | candidate _ _ _=>cases q
    | empty j d =>
     obtain⟨rfl,z⟩:=jW t J.dum _ h _ _ j d rfl e;have q1:=Option.some.inj q
     injection q1 with q2 _
     subst q2;exact z
  have Jp:JT L (t.put slot).1:=by
   refine⟨J.led,?_,aT t.place slot J.mono hs⟩
   show(if SetTable.has t.dummies slot=true then _ else t.dummies)=#[]
   rw[J.dum,iq];rfl
  unfold SetTable.orStandIn
  split
  ·exact Jp
  ·exact V0 _ Jp
theorem ub {L:Bool}{mask finger moves:Nat}{plain:Bool}{hs:Array Int}{t:SetTable}{o:Array Nat}(h:SetTable.laid mask finger moves L plain hs=some (t,o)):JT L t:=by
 unfold SetTable.laid at h
 cases q:SetTable.layClean mask hs with
 | none=>rw[q] at h;cases h
 | some owner =>
  rw[q] at h;have e:=Option.some.inj h
  injection e with e1 _
  subst e1;refine⟨rfl,rfl,?_⟩
  show(List.map (λx=>x.1) ((List.range (mask+1)).filterMap λj=>(owner.getD j none).map (j,·))).toArray.toList.Pairwise (· < ·)
  have:∀l:List Nat,List.Sublist (List.map (λx:Nat×Nat=>x.1) (l.filterMap λj=>(owner.getD j none).map (j,·))) l:=by
   intro l
   induction l with
   | nil=>exact List.Sublist.refl _
   | cons a r ih =>
    rw[filterMap_cons]
    cases (owner.getD a none) with
    | none=>exact ih.cons _
    | some k=>exact ih.cons₂ _
  exact(List.pairwise_lt_range (n:=mask+1)).sublist (by simpa using this (List.range (mask+1)))
theorem jC {L:Bool}{t:SetTable}(es:Array (Int×Value))(wanted:Nat)(J:JT L t):JT L (relayAll t es wanted).2.1:=by
 unfold relayAll
 cases q:t.relaid (es.map (·.1)) wanted with
 | none=>exact V0 _ J
 | some r =>
  obtain⟨t',order⟩:=r
  dsimp only
  split
  ·unfold SetTable.relaid at q
   rw[J.led] at q;exact ub q
  ·exact V0 _ J
def gM {L:Bool}{t:SetTable}(J:JT L t):JT L { t with plain:=false }:=⟨J.led,J.dum,J.mono⟩
def lS {xs:Array Nat}(mono:xs.toList.Pairwise (· < ·))(k:Nat)(hk:k<xs.size):SetTable.below xs (xs[k]+1)=k+1:=by
 obtain⟨h1,h2,h3⟩:=V3 xs (xs[k]+1) mono
 have q1:¬SetTable.below xs (xs[k]+1)<=k:=λq=>by
  have:=h3 k q hk
  rw[Array.getD_eq_getD_getElem?,Array.getElem?_eq_getElem hk,Option.getD_some] at this;lia
 have q2:¬k+1<SetTable.below xs (xs[k]+1):=λq=>by
  have hk1:k+1<xs.size:=by lia
  have:=h2 (k+1) q
  rw[Array.getD_eq_getD_getElem?,Array.getElem?_eq_getElem hk1,Option.getD_some] at this;have z:=List.pairwise_iff_getElem.mp mono k (k+1) (by simpa using hk) (by simpa using hk1) (by lia)
  simp only[Array.getElem_toList] at z
  lia
 lia
def kP {xs:Array Nat}(mono:xs.toList.Pairwise (· < ·)):SetTable.below xs 0=0:=by
 obtain⟨h1,h2,h3⟩:=V3 xs 0 mono
 rcases Nat.eq_zero_or_pos (SetTable.below xs 0) with h|h
 ·exact h
 ·exact absurd (h2 0 h) (by lia)
theorem aw {α:Type}:∀(l:List α)(i:Nat)(h:i<l.length),List.Perm (l[i]::l.eraseIdx i) l
 | a::l,0,_=>List.Perm.refl _
 | a::l,i+1,h=>(List.Perm.swap _ _ _).trans ((aw l i (by simpa using h)).cons a)
def du {α:Type}(next:Nat->Nat)(xs:Array α):List.Perm (pickOrder next xs).toList xs.toList:=by
 have go:∀(fuel k:Nat)(left:List α)(out:Array α),left.length=fuel->List.Perm (pickOrder.go next fuel k left out).toList (out.toList++left):=by
  intro fuel
  induction fuel with
  | zero =>
   intro k left out h
   have e:left=[]:=eq_nil_of_length_eq_zero h;subst e
   simp[pickOrder.go]
  | succ fuel ih =>
   intro k left out h
   unfold pickOrder.go;have hlt:next k%left.length<left.length:=Nat.mod_lt _ (by lia)
   rw[List.getElem?_eq_getElem hlt]
   dsimp only
   refine(ih (k+1) _ _ (by rw[List.length_eraseIdx_of_lt hlt];lia)).trans ?_
   rw[Array.toList_push,List.append_assoc];exact List.Perm.append_left _ (aw left _ hlt)
 exact(go xs.size 0 xs.toList #[] (by simp)).trans (by simp)
section
variable {prog:Program}{w:World}{κ:Type} [DecidableEq κ]
def O2 (knd:KeyKind prog w κ)(h:Heap)(a:Addr)(S:κ->Bool)(n:Nat):Prop :=
 ∃o es ep t,h.get? a=some o/\o.ExactSet/\o.data=.set es ep t/\(ElemsOf knd es.toList/\(∀k,S k=true↔∃e∈es.toList,knd.is k e.2=true)/\es.size<scanBound/\t.fits es.size=true/\es.size=n)/\JT (!w.params.followText "set-order") t
variable {knd:KeyKind prog w κ}{A:Around}{E:Value->Shared->Prop}{s:Shared}
theorem O2.of_get {h h':Heap}{a:Addr}{S:κ->Bool}{n:Nat}(x:O2 knd h a S n)(k:∀o,h.get? a=some o->h'.get? a=some o):O2 knd h' a S n:=by
 obtain⟨o,es,ep,t,e,r⟩:=x;exact⟨o,es,ep,t,k o e,r⟩
theorem O2.congr {h:Heap}{a:Addr}{S S':κ->Bool}{n n':Nat}(x:O2 knd h a S n)(e:∀k,S k=S' k)(en:n=n'):O2 knd h a S' n':=by
 obtain rfl:S=S':=funext e;subst en;exact x
theorem O2.new (h:Heap){l:Bool}(hl:l = !w.params.followText "set-order"):O2 knd (h.push { cls:=.type "set",dict:=none,data:=.set #[] 0 (.fresh 0 0 l) }) h.objs.size (λ_=>false) 0:=by
 refine⟨_,#[],0,_,Heap.get?_push_size _ rfl,⟨rfl,rfl,rfl⟩,rfl,⟨λe he=>absurd he (by simp),λk=>by simp,by decide,by simp[SetTable.fits,SetTable.fresh,SetTable.fill],rfl⟩,hl,rfl,?_⟩
 exact List.Pairwise.nil
theorem O2.store {h:Heap}{a:Addr}{o:Obj}{es es':Array (Int×Value)}{ep:Nat}{t t':SetTable}{S:κ->Bool}(ho:h.get? a=some o)(hx:o.ExactSet)(hd:o.data=.set es ep t)
  (el:ElemsOf knd es'.toList)(mem:∀k,S k=true↔∃e∈es'.toList,knd.is k e.2=true)(hb:es'.size<scanBound)(hf:t'.fits es'.size=true)(J:JT (!w.params.followText "set-order") t') :
  (h.update a (Obj.putSet es' t')).get? a=some { o with data:=.set es' (ep+1) t' }/\O2 knd (h.update a (Obj.putSet es' t')) a S es'.size:=by
 have g:(h.update a (Obj.putSet es' t')).get? a=some { o with data:=.set es' (ep+1) t' }:=(SetOf_store (knd:=knd) (S':=S) ho hx hd el mem hb hf).1
 exact⟨g,_,es',ep+1,t',g,hx,rfl,⟨el,mem,hb,hf,rfl⟩,J⟩
def sF {g:Bool->Sem Unit}(hg:∀(b:Bool)(s₁:Shared)(Q':Unit->Shared->Prop),Q' () s₁->wpAny (model prog w) A (g b) Q' E s₁)
  {a:Addr}{o:Obj}{es es1:Array (Int×Value)}{ep:Nat}{t t2:SetTable}{S:κ->Bool}{wd:Bool}{R:Option Bool->Shared->Prop}(ho:s.heap.get? a=some o)(hx:o.ExactSet)(hd:o.data=.set es ep t)
  (el:ElemsOf knd es1.toList)(mem:∀k,S k=true↔∃e∈es1.toList,knd.is k e.2=true)(hb:es1.size<scanBound)(hf:t2.fits es1.size=true)(J:JT (!w.params.followText "set-order") t2)
  (fin:∀h',Heap.SameBut a s.heap h'->O2 knd h' a S es1.size->R (some true) { s with heap:=h' }) :
  wpAny (model prog w) A (do
    storeSet a es1 t2
    if (!wd&&t2.tooFull)=true then do
      g (relayAll t2 es1 (SetTable.grown es1.size)).2.2
      storeSet a (relayAll t2 es1 (SetTable.grown es1.size)).1 (relayAll t2 es1 (SetTable.grown es1.size)).2.1
      pure (some true)
     else pure (some true)) R E s:=by
 obtain⟨g1,x1⟩:=O2.store (knd:=knd) ho hx hd el mem hb hf J;have sb1:=Heap.SameBut.update s.heap a (Obj.putSet es1 t2);refine w_ (wpAny_storeSet_of ho hd ?_ (fits_of_scanBound hb))
 by_cases c:(!wd&&t2.tooFull)=true
 ·rw[if_pos c]
  have pm:=relayAll_perm t2 es1 (SetTable.grown es1.size);have ft:=relayAll_fits t2 es1 (SetTable.grown es1.size);have J2:=jC (t:=t2) es1 (SetTable.grown es1.size) J;generalize relayAll t2 es1 (SetTable.grown es1.size)=r at pm ft J2 ⊢;obtain⟨es2,t3,gave⟩:=r
  dsimp only at pm ft J2 ⊢
  have sz:es2.size=es1.size:=by simpa using pm.length_eq
  refine w_ (hg _ _ _ (w_ (wpAny_storeSet_of g1 rfl ?_ (by rw[sz];exact fits_of_scanBound hb))))
  obtain⟨_,x2⟩:=O2.store (knd:=knd) (S:=S) g1 hx rfl (el.perm pm) (λk=>(mem k).trans ⟨λ⟨e,he,q⟩=>⟨e,pm.mem_iff.mpr he,q⟩,λ⟨e,he,q⟩=>⟨e,pm.mem_iff.mp he,q⟩⟩) (by rw[sz];exact hb) ft J2
  rw[sz] at x2;exact u_ (fin _ (sb1.trans (Heap.SameBut.update _ a _)) x2)
 ·rw[if_neg c]
  exact u_ (fin _ sb1 x1)
theorem yg {a:Addr}{S:κ->Bool}{n:Nat}{k:κ}{x:Value}{Q:Bool->Shared->Prop}(hk:knd.is k x=true)(hsc:x.scannable=true)(hS:O2 knd s.heap a S n)(room:n+1<scanBound)
  (fin:∀h',Heap.SameBut a s.heap h'->O2 knd h' a (λk'=>S k' || decide (k'=k)) (if S k then n else n+1)->Q (!S k) { s with heap:=h' }) :
  wpAny (model prog w) A (setAddHashed a x (knd.hash k)) Q E s:=by
 obtain⟨o,es,ep,t,ho,hx,hd,⟨el,mem,hb,hf,hn⟩,J⟩:=hS
 have quiet:∀(b:Bool)(s₁:Shared)(Q':Unit->Shared->Prop),Q' () s₁->wpAny (model prog w) A (match b with | true=>rule "set.scan.the-table-gave-way" | false=>pure ()) Q' E s₁:=λb s₁ Q' z=>by
  cases b
  ·exact u_ z
  ·exact wpAny_rule z
 unfold setAddHashed setAddHashedIn;refine wpAny_holding (w_ (wpAny_setState_of ho hd hf ?_))
 dsimp only
 rw[if_pos (byScan_of hsc hb el)];unfold setAddByScan;refine w_ (w_ (wpAny_rule (w_ (wpAny_setScan_of hk ho hd hf el ?_))))
 cases found:List.findIdx? (λe=>knd.is k e.2) es.toList with
 | some j =>
  obtain⟨hj,pj,_⟩:=List.findIdx?_eq_some_iff_getElem.mp found;have there:S k=true:=(mem k).mpr ⟨_,getElem_mem hj,pj⟩
  dsimp only
  refine u_ (u_ ?_);have z:=fin s.heap (Heap.SameBut.refl a s.heap) ⟨o,es,ep,t,ho,hx,hd,⟨el,λk'=>?_,hb,hf,by rw[there];exact hn⟩,J⟩
  ·rw[there] at z
   exact z
  ·rw[<- mem k',Bool.or_eq_true,decide_eq_true_eq]
   exact⟨λq=>q.elim id λe=>by rw[e];exact there,.inl⟩
 | none =>
  have away:S k=false:=by
   cases q:S k with
   | false=>rfl
   | true =>
    obtain⟨e,he,pe⟩:=(mem k).mp q;exact absurd pe (by simpa using List.findIdx?_eq_none_iff.mp found e he)
  dsimp only
  have pm:=layNew_perm t es (knd.hash k) x;have ft:=layNew_fits t es (knd.hash k) x;have J1:=ql es (knd.hash k) x J;generalize layNew t es (knd.hash k) x=r at pm ft J1 ⊢;obtain⟨es1,t1,wd,gave⟩:=r
  dsimp only at pm ft J1 ⊢
  rw[Array.toList_push] at pm
  have sz:es1.size=n+1:=by
   have:=pm.length_eq
   rw[length_append] at this
   simp at this
   lia
  have last:∀h',Heap.SameBut a s.heap h'->O2 knd h' a (λk'=>S k' || decide (k'=k)) es1.size->Q true { s with heap:=h' }:=λh' sb q=>by
   have z:=fin h' sb;rw[away] at z;rw[sz] at q;exact z q
  have go:∀t2:SetTable,t2.fits es1.size=true->JT (!w.params.followText "set-order") t2->∀(R:Option Bool->Shared->Prop),(∀h',Heap.SameBut a s.heap h'->O2 knd h' a (λk'=>S k' || decide (k'=k)) es1.size->R (some true) { s with heap:=h' })->wpAny (model prog w) A (do
    storeSet a es1 t2
    if (!wd&&t2.tooFull)=true then do
      (match (relayAll t2 es1 (SetTable.grown es1.size)).2.2 with | true=>rule "set.scan.the-table-gave-way" | false=>pure ())
      storeSet a (relayAll t2 es1 (SetTable.grown es1.size)).1 (relayAll t2 es1 (SetTable.grown es1.size)).2.1
      pure (some true)
     else pure (some true)) R E s:=λt2 f2 J2 R hR =>
   sF quiet ho hx hd ((el.push hk hsc).perm pm) (mem_push_iff hk mem pm) (by rw[sz];exact room) f2 J2 hR
  refine w_ (quiet _ _ _ ?_)
  by_cases c:t1.plain=true
  ·rw[if_pos c]
   refine w_ ?_;rw[hashByValue_scannable 8 hsc];refine u_ ?_;refine go _ ?_ ?_ _ λh' sb q=>u_ (last h' sb q)
   ·split
    ·exact ft
    ·exact SetTable.fits_plain_off ft
   ·split
    ·exact J1
    ·exact gM J1
  ·rw[if_neg c]
   refine w_ (u_ ?_);rw[if_pos rfl];exact go _ ft J1 _ λh' sb q=>u_ (last h' sb q)
end
def u0:Slot "set_iterator" "__next__" "set_iterator.__next__" :=
 .of (owner:="set_iterator") (n:="__next__") (by rw[typeLookup_type,builtinLookup_eq_fast];kernel_rfl)
  (by decide +kernel) (by decide +kernel) (by decide +kernel)
  (by first|exact .inl (by decide +kernel)|exact .inr (by decide +kernel)) (by rw[isSubtype_type];kernel_rfl)
def V5:Slot "set_iterator" "__iter__" "set_iterator.__iter__" :=
 .of (owner:="set_iterator") (n:="__iter__") (by rw[typeLookup_type,builtinLookup_eq_fast];kernel_rfl)
  (by decide +kernel) (by decide +kernel) (by decide +kernel)
  (by first|exact .inl (by decide +kernel)|exact .inr (by decide +kernel)) (by rw[isSubtype_type];kernel_rfl)
def J7:entryFor table "set_iterator.__next__" = some Builtin.«set_iterator.__next__»:=entryFor_of_fast (by kernel_rfl)
def bx:entryFor table "set_iterator.__iter__" = some Builtin.«dict_keyiterator.__iter__» :=
 entryFor_alias (id':="dict_keyiterator.__iter__") (by kernel_rfl)
  (by first|rfl|decide +kernel|(unfold String.splitOn;simp +decide [String.splitOnAux])) (by decide +kernel) (by kernel_rfl)
def cn:entryFor table "set.__iter__" = some Builtin.«frozenset.__iter__» :=
 entryFor_alias (id':="frozenset.__iter__") (by kernel_rfl)
  (by first|rfl|decide +kernel|(unfold String.splitOn;simp +decide [String.splitOnAux])) (by decide +kernel) (by kernel_rfl)
def K8 (a:Value):argsOk "set_iterator.__next__" ⟨[a],[]⟩:=by unfold argsOk;kernel_rfl
def cm (a:Value):argsOk "set_iterator.__iter__" ⟨[a],[]⟩:=by unfold argsOk;kernel_rfl
abbrev am (first:Value)(i:Nat)(a:Addr)(n ep:Nat):Obj:={ cls:=.type "set_iterator",dict:=none,data:=.fields #[first,.int i 0,.ref a,.int n 0,.int ep 0],slots:=#[] }
section
variable {prog:Program}{w:World}{A:Around}{E:Value->Shared->Prop}{s:Shared}{a I:Addr}{o:Obj}{es:Array (Int×Value)}{ep:Nat}{t:SetTable}
def cK {Q:Bool->Shared->Prop}(h:Q (w.params.followText "set-order") s):wpAny (model prog w) A setsByText Q E s:=w_ (wpAny_askSetting (u_ h))
def gP {Q:Array (Int×Value)->Shared->Prop}(ht:w.params.followText "set-order" = true)(ho:s.heap.get? a=some o)(hd:o.data=.set es ep t)(hf:t.fits es.size=true)
  (h:Q (pickOrder (w.params.setOrder a ep) es) s):wpAny (model prog w) A (setWalk a) Q E s:=by
 unfold setWalk;refine w_ (wpAny_setState_of ho hd hf ?_)
 dsimp only
 refine w_ (cK ?_);rw[ht]
 simp only[if_true]
 exact w_ (wpAny_askSetting (u_ h))
def iu {sl k:Nat}{Q:Option (Value×Nat)->Shared->Prop}(ht:w.params.followText "set-order" = true)(ho:s.heap.get? a=some o)(hd:o.data=.set es ep t)(hf:t.fits es.size=true)
  (h:Q (((pickOrder (w.params.setOrder a ep) es)[k]?).map λe=>(e.2,sl)) s):wpAny (model prog w) A (setNext a sl k ep) Q E s:=by
 unfold setNext;refine w_ (wpAny_setState_of ho hd hf ?_)
 dsimp only
 refine w_ (cK ?_);rw[ht]
 simp only[if_true,bne_self_eq_false,Bool.false_eq_true,if_false]
 exact w_ (gP ht ho hd hf (u_ h))
def eE {sl k:Nat}{Q:Option (Value×Nat)->Shared->Prop}(ht:w.params.followText "set-order" = false)(ho:s.heap.get? a=some o)(hd:o.data=.set es ep t)(hf:t.fits es.size=true)(J:JT true t)
  (hp:(!t.plain&&decide (es.size > 1))=false)(hs:SetTable.below t.place sl=k)
  (h:Q (match es[k]?,t.place[k]? with | some (_,x),some j=>some (x,j+1) | _,_=>none) s):wpAny (model prog w) A (setNext a sl k ep) Q E s:=by
 unfold setNext;refine w_ (wpAny_setState_of ho hd hf ?_)
 dsimp only
 refine w_ (cK ?_);rw[ht]
 simp only[Bool.false_eq_true,if_false]
 show wpAny _ _ (if (!t.plain&&decide (es.size > 1))=true then unsupported _ else _) _ _ s
 rw[hp]
 simp only[Bool.false_eq_true,if_false]
 refine w_ ?_
 show wpAny _ _ (if (!t.led&&!es.isEmpty)=true then unsupported _ else pure ()) _ _ s
 rw[J.led]
 simp only[Bool.not_true,Bool.false_and,Bool.false_eq_true,if_false]
 refine u_ ?_;rw[hs];exact u_ h
def O1 {Q:Array (Int×Value)->Shared->Prop}(ho:s.heap.get? a=some o)(hd:o.data=.set es ep t)(hf:t.fits es.size=true)(h:Q es s):wpAny (model prog w) A (setEntries a) Q E s:=by
 unfold setEntries;exact w_ (wpAny_setState_of ho hd hf (u_ h))
def mM {slot:Nat->Nat}{k n:Nat}{x:Value}{Q:Option Value->Shared->Prop}(hI:s.heap.get? I=some (am (.int (slot k:Nat) 0) k a n ep))(ho:s.heap.get? a=some o)(hd:o.data=.set es ep t)(hf:t.fits es.size=true)(hn:es.size=n)
  (hnx:∀(B:Around)(Q':Option (Value×Nat)->Shared->Prop)(E':Value->Shared->Prop),Q' (some (x,slot (k+1))) s->wpAny (model prog w) B (setNext a (slot k) k ep) Q' E' s)
  (hQ:∀h',h'.get? I=some (am (.int (slot (k+1):Nat) 0) (k+1) a n ep)->Heap.SameBut I s.heap h'->Q (some x) { s with heap:=h' }):wpAny (model prog w) A (pyNext (.ref I)) Q E s:=by
 have hT:s.TypeIs (.ref I) "set_iterator":=⟨_,hI,rfl⟩;unfold pyNext
 refine w_ (wpAny_attempt (wpAny_callSpecial?_slot (name:=Str.ofString "__next__") hT u0
  (wpAny_call_entry u0 hT J7 ?_ (K8 _))))
 show wpAny _ _ (fieldsOf (.ref I) >>= _) _ _ s
 refine w_ (wpAny_fieldsOf hI rfl ?_)
 show wpAny _ _ (setEntries a >>= _) _ _ s
 refine w_ (O1 ho hd hf ?_);rw[hn]
 simp only[bne_self_eq_false,Bool.false_eq_true,if_false]
 show wpAny _ _ (setNext a ((slot k:Nat):Int).toNat ((k:Nat):Int).toNat ((ep:Nat):Int).toNat >>= _) _ _ s
 simp only[Int.toNat_natCast]
 refine w_ (hnx _ _ _ ?_)
 dsimp only
 refine w_ (wpAny_setField_rec hI (by simp) λh1 g1 s1=>?_)
 refine w_ (wpAny_setField_rec g1 (by simp) λh2 g2 s2=>u_ ⟨x,rfl,u_ (hQ h2 ?_ (s1.trans s2))⟩)
 rw[g2]
 simp[rawInt]
def fh {α:Type}{h1:Heap}{Q:Option Value->Shared->Prop}(hh:A.handled=none)(hQ:∀h',(∀b ob,h1.get? b=some ob->h'.get? b=some ob)->Q none { s with heap:=h' }) :
  wpAny (model prog w) A.in1 (newExc (.type "StopIteration") [] >>= λe=>(raiseNew e:Sem α)) (λ_ _=>False)
   (λe s'=>wpAny (model prog w) A (do if <- isInstance e (.type "StopIteration") then pure none else throw e) Q E s') { s with heap:=h1 }:=by
 refine w_ ?_
 simp only[newExc,newTuple]
 refine w_ (wpAny_newObj_type ?_ (by size_fits))
 refine w_ (m:=firstArgMember _ _) (wpAny_of_eq (a:=Value.none) (by first|rfl|(simp only[firstArgMember];rfl)) ?_)
 refine wpAny_newObj_type ?_ (by size_fits)
 simp only[raiseNew]
 refine w_ (wpAny_handled ?_);rw[show A.in1.handled=none from hh];refine w_ (u_ (wpAny_throw ?_));refine w_ (wpAny_isInstance (T:="StopIteration") (b:=true) ⟨_,Heap.get?_push_size _ rfl,rfl⟩ isSubtype_stop ?_);exact u_ (hQ _ λb ob e=>Heap.get?_push_of_some _ (Heap.get?_push_of_some _ e))
def lP {first:Nat}{k n:Nat}{Q:Option Value->Shared->Prop}(hh:A.handled=none)(hI:s.heap.get? I=some (am (.int (first:Nat) 0) k a n ep))(ho:s.heap.get? a=some o)(hd:o.data=.set es ep t)(hf:t.fits es.size=true)(hn:es.size=n)
  (hnx:∀(B:Around)(Q':Option (Value×Nat)->Shared->Prop)(E':Value->Shared->Prop),Q' none s->wpAny (model prog w) B (setNext a first k ep) Q' E' s)
  (hQ:∀h',(∀b ob,b≠I->s.heap.get? b=some ob->h'.get? b=some ob)->Q none { s with heap:=h' }):wpAny (model prog w) A (pyNext (.ref I)) Q E s:=by
 have hT:s.TypeIs (.ref I) "set_iterator":=⟨_,hI,rfl⟩;unfold pyNext
 refine w_ (wpAny_attempt (wpAny_callSpecial?_slot (name:=Str.ofString "__next__") hT u0
  (wpAny_call_entry u0 hT J7 ?_ (K8 _))))
 show wpAny _ _ (fieldsOf (.ref I) >>= _) _ _ s
 refine w_ (wpAny_fieldsOf hI rfl ?_)
 show wpAny _ _ (setEntries a >>= _) _ _ s
 refine w_ (O1 ho hd hf ?_);rw[hn]
 simp only[bne_self_eq_false,Bool.false_eq_true,if_false]
 show wpAny _ _ (setNext a ((first:Nat):Int).toNat ((k:Nat):Int).toNat ((ep:Nat):Int).toNat >>= _) _ _ s
 simp only[Int.toNat_natCast]
 refine w_ (hnx _ _ _ ?_)
 dsimp only
 refine w_ (wpAny_setField_rec hI (by simp) λh1 g1 s1=>?_)
 refine wpAny_mono (fh (Q:=Q) (E:=E) hh λh' kp=>hQ h' λb ob hb e=>kp b ob (s1.extBut b ob hb e)) (λ_ _ z=>z.elim) λe s' z=>z
def uT {src:Source}{n:Nat}{Q:Nat->Shared->Prop}(hn:n≠0)(h:∀i d,i<n->Q i { s with drawn:=d }):wpAny (model prog w) A (choose src n) Q E s :=
 λ_ _ _=>⟨hn,h _ _ (Nat.mod_lt _ (Nat.pos_of_ne_zero hn))⟩
theorem lF {α:Type}:∀(n:Nat)(xs:List α)(s:Shared){Q:List α->Shared->Prop},xs.length=n->(∀ys d,ys.Perm xs->Q ys { s with drawn:=d })->wpAny (model prog w) A (drawOrder n xs) Q E s:=by
 intro n
 induction n with
 | zero =>
  intro xs s Q hn h
  obtain rfl:xs=[]:=eq_nil_of_length_eq_zero hn;exact u_ (h [] s.drawn (List.Perm.refl _))
 | succ n ih =>
  intro xs s Q hn h
  match xs,hn with
  | x::r,hn =>
   show wpAny _ _ (choose .order (x::r).length >>= _) _ _ s
   refine w_ (uT (by simp) λi d hi=>?_)
   rw[List.getElem?_eq_getElem hi]
   dsimp only
   refine w_ (ih _ _ (by rw[List.length_eraseIdx_of_lt hi];lia) λys d' pm=>u_ (h _ d' ((pm.cons _).trans (aw (x::r) i hi))))
def oS {Q:Bool->Shared->Prop}(ho:s.heap.get? a=some o)(hd:o.data=.set es ep t)(hf:t.fits es.size=true)(h:Q (!w.params.followText "set-order"&&(!t.plain&&decide (es.size > 1))) s):wpAny (model prog w) A (setDrawn a) Q E s:=by
 unfold setDrawn;refine w_ (wpAny_setState_of ho hd hf ?_)
 dsimp only
 exact w_ (cK (u_ h))
def jb {T:Addr}{ps:List Nat}{k n p:Nat}{x:Value}{h0:Int}{Q:Option Value->Shared->Prop}(hI:s.heap.get? I=some (am (.ref T) k a n ep))(hTu:s.heap.get? T=some { cls:=.type "tuple",data:=.seq (ps.map λ(i:Nat)=>rawInt i).toArray })
  (ho:s.heap.get? a=some o) (hd:o.data=.set es ep t) (hf:t.fits es.size=true) (hn:es.size=n) (hp:ps[k]? = some p) (hx:es[p]? = some (h0,x))
  (hQ:∀h',h'.get? I=some (am (.ref T) (k+1) a n ep)->Heap.SameBut I s.heap h'->Q (some x) { s with heap:=h' }):wpAny (model prog w) A (pyNext (.ref I)) Q E s:=by
 have hT:s.TypeIs (.ref I) "set_iterator":=⟨_,hI,rfl⟩;unfold pyNext
 refine w_ (wpAny_attempt (wpAny_callSpecial?_slot (name:=Str.ofString "__next__") hT u0
  (wpAny_call_entry u0 hT J7 ?_ (K8 _))))
 show wpAny _ _ (fieldsOf (.ref I) >>= _) _ _ s
 refine w_ (wpAny_fieldsOf hI rfl ?_)
 show wpAny _ _ (setEntries a >>= _) _ _ s
 refine w_ (O1 ho hd hf ?_);rw[hn]
 simp only[bne_self_eq_false,Bool.false_eq_true,if_false]
 show wpAny _ _ (seqItems? (.ref T) >>= _) _ _ s
 refine w_ (wpAny_seqItems hTu rfl ?_)
 dsimp only
 have e:(ps.map λ(i:Nat)=>rawInt i).toArray[((k:Nat):Int).toNat]? = some (.int (p:Nat) 0):=by
  rw[Int.toNat_natCast,List.getElem?_toArray,List.getElem?_map,hp];rfl
 rw[e]
 dsimp only
 show wpAny _ _ (setNextDrawn a ((p:Nat):Int).toNat ((ep:Nat):Int).toNat >>= _) _ _ s
 simp only[Int.toNat_natCast]
 unfold setNextDrawn;refine w_ (w_ (wpAny_setState_of ho hd hf ?_))
 dsimp only
 simp only[bne_self_eq_false,Bool.false_eq_true,if_false,hx]
 refine u_ ?_;refine w_ (wpAny_setField_rec hI (by simp) λh2 g2 s2=>u_ ⟨x,rfl,u_ (hQ h2 ?_ s2)⟩)
 rw[g2]
 simp[rawInt]
def kS {T:Addr}{ps:List Nat}{k n:Nat}{Q:Option Value->Shared->Prop}(hh:A.handled=none)(hI:s.heap.get? I=some (am (.ref T) k a n ep))(hTu:s.heap.get? T=some { cls:=.type "tuple",data:=.seq (ps.map λ(i:Nat)=>rawInt i).toArray })
  (ho:s.heap.get? a=some o) (hd:o.data=.set es ep t) (hf:t.fits es.size=true) (hn:es.size=n) (hp:ps[k]? = none)
  (hQ:∀h',(∀b ob,b≠I->s.heap.get? b=some ob->h'.get? b=some ob)->Q none { s with heap:=h' }):wpAny (model prog w) A (pyNext (.ref I)) Q E s:=by
 have hT:s.TypeIs (.ref I) "set_iterator":=⟨_,hI,rfl⟩;unfold pyNext
 refine w_ (wpAny_attempt (wpAny_callSpecial?_slot (name:=Str.ofString "__next__") hT u0
  (wpAny_call_entry u0 hT J7 ?_ (K8 _))))
 show wpAny _ _ (fieldsOf (.ref I) >>= _) _ _ s
 refine w_ (wpAny_fieldsOf hI rfl ?_)
 show wpAny _ _ (setEntries a >>= _) _ _ s
 refine w_ (O1 ho hd hf ?_);rw[hn]
 simp only[bne_self_eq_false,Bool.false_eq_true,if_false]
 show wpAny _ _ (seqItems? (.ref T) >>= _) _ _ s
 refine w_ (wpAny_seqItems hTu rfl ?_)
 dsimp only
 have e:(ps.map λ(i:Nat)=>rawInt i).toArray[((k:Nat):Int).toNat]? = none:=by
  rw[Int.toNat_natCast,List.getElem?_toArray,List.getElem?_map,hp];rfl
 rw[e]
 dsimp only
 refine w_ (wpAny_setField_rec hI (by simp) λh1 g1 s1=>?_)
 refine w_ (wpAny_setField_rec g1 (by simp) λh2 g2 s2=>?_)
 refine wpAny_mono (fh (Q:=Q) (E:=E) hh λh' kp=>hQ h' λb ob hb e=>kp b ob (s2.extBut b ob hb (s1.extBut b ob hb e))) (λ_ _ z=>z.elim) λe s' z=>z
def dh {first:Value}{k n:Nat}{Q:Value->Shared->Prop}(hI:s.heap.get? I=some (am first k a n ep))(h:Q (.ref I) s):wpAny (model prog w) A (pyIter (.ref I)) Q E s:=by
 have hT:s.TypeIs (.ref I) "set_iterator":=⟨_,hI,rfl⟩;refine wpAny_pyIter_slot hT V5 (wpAny_call_entry V5 hT bx ?_ (cm _))
 show wpAny _ _ (ret (.ref I)) _ _ s
 exact u_ ⟨_,rfl,"set_iterator",_,hT,u0.lookup,h⟩
def qT (prog:Program)(w:World)(A:Around)(a I N:Addr)(n:Nat)(xs:List Value)(s:Shared):Prop :=
 ∃(fp:List Addr)(St:Nat->Shared->Prop),WalksS prog w A I fp [I] (λa b=>b=a) n (λi v=>xs[i]? = some v) St/\St 0 s/\(∀b∈fp,(b=a\/N<=b)/\b<s.heap.objs.size)/\I∈fp
def qv {slot:Nat->Nat}{n:Nat}{xs:List Value}(hh:A.handled=none)(hne:a≠I)(hd:o.data=.set es ep t)(hf:t.fits es.size=true)(hn:es.size=n)(hxs:xs.length=n)
  (step:∀(k:Nat)(s:Shared)(B:Around)(Q':Option (Value×Nat)->Shared->Prop)(E':Value->Shared->Prop),k<=n->s.heap.get? a=some o->Q' ((xs[k]?).map λx=>(x,slot (k+1))) s->wpAny (model prog w) B (setNext a (slot k) k ep) Q' E' s) :
  WalksS prog w A I [I,a] [I] (λa b=>b=a) n (λi v=>xs[i]? = some v) (λk s=>s.heap.get? I=some (am (.int (slot k:Nat) 0) k a n ep)/\s.heap.get? a=some o) where
 sub:=λb hb=>by simp at hb;simp[hb]
 grefl:=λ_=>rfl
 gtrans:=λ_ _ _ p q=>q.trans p
 frame:=λi s h' tk st _ kp=>⟨kp I (by simp) _ st.1,kp a (by simp) _ st.2⟩
 item:=λi s Q E hi st hQ=>by
  have hx:xs[i]? = some (xs[i]'(by lia)):=List.getElem?_eq_getElem (by lia)
  refine mM (x:=xs[i]'(by lia)) st.1 st.2 hd hf hn (λB Q' E' q=>step i s B Q' E' (by lia) st.2 (by rw[hx];exact q)) λh' g sb=>?_
  exact hQ _ _ hx ⟨g,sb.extBut a o hne st.2⟩ ⟨λb ob hb e=>sb.extBut b ob (λz=>hb (by simp[z])) e,rfl,rfl,rfl,Nat.le_refl _⟩
 done:=λs Q E st hQ=>by
  have hx:xs[n]? = none:=List.getElem?_eq_none (by lia)
  refine lP hh st.1 st.2 hd hf hn (λB Q' E' q=>step n s B Q' E' (Nat.le_refl _) st.2 (by rw[hx];exact q)) λh' kp=>?_
  exact hQ _ ⟨λb ob hb e=>kp b ob (λz=>hb (by simp[z])) e,rfl,rfl,rfl,Nat.le_refl _⟩
 self:=λi s Q E st q=>dh st.1 q
def jX {T:Addr}{ps:List Nat}{n:Nat}{xs:List Value}(hh:A.handled=none)(hne:a≠I)(hnT:T≠I)(hd:o.data=.set es ep t)(hf:t.fits es.size=true)(hn:es.size=n)(hps:ps.length=n)
  (hx:∀(k p:Nat),ps[k]? = some p->∃h0 x,es[p]? = some (h0,x)/\xs[k]? = some x) :
  WalksS prog w A I [I,a,T] [I] (λa b=>b=a) n (λi v=>xs[i]? = some v) (λk s=>s.heap.get? I=some (am (.ref T) k a n ep)/\s.heap.get? a=some o/\s.heap.get? T=some { cls:=.type "tuple",data:=.seq (ps.map λ(i:Nat)=>rawInt i).toArray }) where
 sub:=λb hb=>by simp at hb;simp[hb]
 grefl:=λ_=>rfl
 gtrans:=λ_ _ _ p q=>q.trans p
 frame:=λi s h' tk st _ kp=>⟨kp I (by simp) _ st.1,kp a (by simp) _ st.2.1,kp T (by simp) _ st.2.2⟩
 item:=λi s Q E hi st hQ=>by
  have hp:ps[i]? = some (ps[i]'(by lia)):=List.getElem?_eq_getElem (by lia)
  obtain⟨h0,x,e1,e2⟩:=hx i _ hp;refine jb st.1 st.2.2 st.2.1 hd hf hn hp e1 λh' g sb=>?_;exact hQ _ _ e2 ⟨g,sb.extBut a o hne st.2.1,sb.extBut T _ hnT st.2.2⟩ ⟨λb ob hb e=>sb.extBut b ob (λz=>hb (by simp[z])) e,rfl,rfl,rfl,Nat.le_refl _⟩
 done:=λs Q E st hQ=>by
  refine kS hh st.1 st.2.2 st.2.1 hd hf hn (List.getElem?_eq_none (by lia)) λh' kp=>?_
  exact hQ _ ⟨λb ob hb e=>kp b ob (λz=>hb (by simp[z])) e,rfl,rfl,rfl,Nat.le_refl _⟩
 self:=λi s Q E st q=>dh st.1 q
def lY {Q:Value->Shared->Prop}(ho:s.heap.get? a=some o)(hx:o.ExactSet)(hd:o.data=.set es ep t)(hf:t.fits es.size=true)(J:JT (!w.params.followText "set-order") t)(hz:es.size<=sizeLine)
  (hQ:∀(I:Addr)(xs:List Value)(h':Heap) (d),xs.Perm (es.toList.map (·.2))->s.heap.objs.size<=I->(∀b ob,s.heap.get? b=some ob->h'.get? b=some ob) ->
   (∀B:Around,B.handled=none->qT prog w B a I s.heap.objs.size es.size xs { s with heap:=h',drawn:=d })->Q (.ref I) { s with heap:=h',drawn:=d }):wpAny (model prog w) A (pyIter (.ref a)) Q E s:=by
 have hT:s.TypeIs (.ref a) "set":=⟨o,ho,hx.1⟩;have hal:a<s.heap.objs.size:=Heap.lt_size ho;refine wpAny_pyIter_slot hT F.slot_set_iter (wpAny_call_entry F.slot_set_iter hT cn ?_ (F.args_set_iter_1 _))
 show wpAny _ _ (Builtin.Frozenset.sizeOf a >>= _) _ _ s
 refine w_ (w_ (O1 ho hd hf (u_ ?_)));refine w_ (oS ho hd hf ?_)
 by_cases c:(!w.params.followText "set-order"&&(!t.plain&&decide (es.size > 1)))=true
 ·rw[c]
  simp only[if_true]
  refine w_ (lF es.size (List.range es.size) s (by simp) λps d pm=>?_)
  have hps:ps.length=es.size:=by simpa using pm.length_eq
  simp only[newTuple]
  refine w_ (wpAny_newObj_type ?_ ?_)
  case refine_2 =>
   show(List.map (λ(i:Nat)=>rawInt i) ps).toArray.size<=sizeLine
   rw[size_toArray,length_map,hps];exact hz
  have ho':(s.heap.push { cls:=.type "tuple",data:=.seq (ps.map λ(i:Nat)=>rawInt i).toArray }).get? a=some o:=Heap.get?_push_of_some _ ho;refine w_ (wpAny_setEpoch_of ho' hd hf ?_);refine w_ (wpAny_newObj_type ?_);have eI:(s.heap.push { cls:=.type "tuple",data:=.seq (ps.map λ(i:Nat)=>rawInt i).toArray }).objs.size=s.heap.objs.size+1:=Heap.size_push ..;refine u_ ⟨_,rfl,"set_iterator",_,⟨_,Heap.get?_push_size _ rfl,rfl⟩,u0.lookup,?_⟩;refine hQ _ ((ps.map λp=>(es[p]?).map (·.2)).filterMap id) _ d ?_ (by rw[eI];exact Nat.le_succ _) (λb ob e=>Heap.get?_push_of_some _ (Heap.get?_push_of_some _ e)) λB hB=>?_
  ·refine((pm.map _).filterMap _).trans ?_
   rw[List.filterMap_map]
   have:(List.range es.size).filterMap (id ∘ λp=>(es[p]?).map (·.2))=((List.range es.size).filterMap λp=>es[p]?).map (·.2):=by
    rw[List.map_filterMap];rfl
   rw[this,filterMap_getElem?_range]
  ·have key:∀(l:List Nat),(∀p∈l,p<es.size)->∀(k p:Nat),l[k]? = some p->∃h0 x,es[p]? = some (h0,x)/\((l.map λp=>(es[p]?).map (·.2)).filterMap id)[k]? = some x:=by
    intro l
    induction l with
    | nil=>intro _ k p e;simp at e
    | cons q r ih =>
     intro hl k p e
     have hq:=hl q mem_cons_self;have eq:es[q]? = some es[q]:=Array.getElem?_eq_getElem hq
     have e2:((q::r).map λp=>(es[p]?).map (·.2)).filterMap id=es[q].2::(r.map λp=>(es[p]?).map (·.2)).filterMap id:=by
      rw[map_cons,eq];rfl
     rw[e2]
     cases k with
     | zero =>
      have:q=p:=by simpa using e
      subst this;exact⟨es[q].1,es[q].2,eq,rfl⟩
     | succ k=>exact ih (λp hp=>hl p (mem_cons_of_mem _ hp)) k p (by simpa using e)
   refine⟨_,_,jX (o:=o) (T:=s.heap.objs.size) (ps:=ps) hB (by rw[eI];exact Nat.ne_of_lt (Nat.lt_succ_of_lt hal)) (by rw[eI];exact Nat.ne_of_lt (Nat.lt_succ_self _)) hd hf rfl hps (key ps λp hp=>by simpa using pm.mem_iff.mp hp),⟨Heap.get?_push_size _ rfl,Heap.get?_push_of_some _ ho',Heap.get?_push_of_some _ (Heap.get?_push_size _ rfl)⟩,λb hb=>?_,by simp⟩
   simp only[mem_cons,not_mem_nil,or_false] at hb
   rw[Heap.size_push]
   rcases hb with rfl|rfl|rfl
   ·exact⟨.inr (by rw[eI];exact Nat.le_succ _),Nat.lt_succ_self _⟩
   ·exact⟨.inl rfl,by rw[eI];exact Nat.lt_succ_of_lt (Nat.lt_succ_of_lt hal)⟩
   ·exact⟨.inr (Nat.le_refl _),by rw[eI];exact Nat.lt_succ_of_lt (Nat.lt_succ_self _)⟩
 ·rw[Bool.eq_false_iff.mpr c]
  simp only[Bool.false_eq_true,if_false]
  refine w_ (u_ (w_ (wpAny_setEpoch_of ho hd hf ?_)));refine w_ (wpAny_newObj_type ?_);refine u_ ⟨_,rfl,"set_iterator",_,⟨_,Heap.get?_push_size _ rfl,rfl⟩,u0.lookup,?_⟩;have hne:a≠s.heap.objs.size:=Nat.ne_of_lt hal
  have go:∀(slot:Nat->Nat)(xs:List Value),slot 0=0->xs.Perm (es.toList.map (·.2))->(∀(k:Nat)(s:Shared)(B:Around)(Q':Option (Value×Nat)->Shared->Prop)(E':Value->Shared->Prop),k<=es.size->s.heap.get? a=some o->Q' ((xs[k]?).map λx=>(x,slot (k+1))) s->wpAny (model prog w) B (setNext a (slot k) k ep) Q' E' s) ->
    Q (.ref s.heap.objs.size) { s with heap:=s.heap.push (am (rawInt 0) 0 a es.size ep) }:=λslot xs h0 pm step=>by
   refine hQ _ xs _ s.drawn pm (Nat.le_refl _) (λb ob e=>Heap.get?_push_of_some _ e) λB hB=>⟨_,_,qv (slot:=slot) hB hne hd hf rfl (by simpa using pm.length_eq) step,⟨?_,Heap.get?_push_of_some _ ho⟩,λb hb=>?_,by simp⟩
   ·rw[h0]
    exact Heap.get?_push_size _ rfl
   ·simp only[mem_cons,not_mem_nil,or_false] at hb
    rw[Heap.size_push]
    rcases hb with rfl|rfl
    ·exact⟨.inr (Nat.le_refl _),Nat.lt_succ_self _⟩
    ·exact⟨.inl rfl,Nat.lt_succ_of_lt hal⟩
  cases ht:w.params.followText "set-order" with
  | true =>
   refine go (λ_=>0) ((pickOrder (w.params.setOrder a ep) es).toList.map (·.2)) rfl ((du _ es).map _) λk s' B Q' E' hk ho' q=>iu ht ho' hd hf ?_
   have e:(((pickOrder (w.params.setOrder a ep) es).toList.map (·.2))[k]?).map (λx=>(x,0))=((pickOrder (w.params.setOrder a ep) es)[k]?).map λe=>(e.2,0):=by
    rw[List.getElem?_map,Array.getElem?_toList,Option.map_map];rfl
   rw[<- e];exact q
  | false =>
   rw[ht] at c J
   have hpl:t.place.size=es.size:=by
    simp only[SetTable.fits,Bool.and_eq_true,beq_iff_eq] at hf
    exact hf.1
   refine go (λk=>match k with | 0=>0 | k+1=>t.place.getD k 0+1) (es.toList.map (·.2)) rfl (List.Perm.refl _) λk s' B Q' E' hk ho' q=>eE ht ho' hd hf J (by simpa using c) ?_ ?_
   ·cases k with
    | zero=>exact kP J.mono
    | succ k =>
     have hk':k<t.place.size:=by lia
     have e:t.place.getD k 0=t.place[k]:=by simp[Array.getD,hk']
     show SetTable.below t.place (t.place.getD k 0+1)=k+1
     rw[e];exact lS J.mono k hk'
   ·rcases Nat.lt_or_eq_of_le hk with hlt|heq
    ·have hk':k<t.place.size:=by lia
     have e2:t.place.getD k 0=t.place[k]:=by simp[Array.getD,hk']
     have e3:(es.toList.map (·.2))[k]? = some es[k].2:=by simp[hlt]
     rw[e3] at q
     simp only[Array.getElem?_eq_getElem hlt,Array.getElem?_eq_getElem hk']
     rw[<- e2];exact q
    ·have e3:(es.toList.map (·.2))[k]? = none:=by simp[heq]
     rw[e3] at q;have e4:es[k]? = none:=by simp[heq]
     simp only[e4]
     exact q
end
end L2
namespace L2
open PySem PyProof.Rows
def lL:typeLookup (.type "set") "__len__" = pure (some (.builtin "set.__len__")):=F.slot_set_len.lookup
def eZ:splitId "set.__len__" = some ("set","__len__"):=by kernel_rfl
section
variable {prog:Program}{w:World}{A:Around}{E:Value->Shared->Prop}{s:Shared}{a:Addr}{o:Obj}{es:Array (Int×Value)}{ep:Nat}{t:SetTable}
def sw {Q:Bool->Shared->Prop}(hT:s.TypeIs (.ref a) "set")(h:Q false s):wpAny (model prog w) A (Builtin.List.listLengthHint (.ref a)) Q E s:=by
 unfold Builtin.List.listLengthHint;refine w_ (wpAny_specialOf hT lL ?_)
 simp only[eZ]
 refine w_ (wpAny_isInstance hT sub_set_self ?_)
 simp only[Bool.not_true,Bool.false_eq_true,if_false]
 show wpAny _ _ (typeOf (.ref a) >>= _) _ _ s
 exact w_ (wpAny_typeOf hT (u_ h))
def jY {Q:List Value->Shared->Prop}(hh:A.handled=none)(ho:s.heap.get? a=some o)(hx:o.ExactSet)(hd:o.data=.set es ep t)(hf:t.fits es.size=true)(J:JT (!w.params.followText "set-order") t)(hz:es.size<=sizeLine)
  (hQ:∀(h':Heap) (d) (tk:Nat) (xs:List Value),xs.Perm (es.toList.map (·.2))->s.heap.objs.size<h'.objs.size->(∀b ob,s.heap.get? b=some ob->h'.get? b=some ob)->Q xs { s with heap:=h',drawn:=d,toks:=tk }):wpAny (model prog w) A (collect (.ref a)) Q E s:=by
 have hal:a<s.heap.objs.size:=Heap.lt_size ho;unfold collect;refine w_ (wpAny_runValue (codeAny_builtin F.entry_proto_collect ?_));rw[Around.under_plainId F.plain_proto_collect _]
 show wpAny _ A.in1 (newList [] >>= λl=>again (.builtin "list.__iadd__" ⟨[l,.ref a],[]⟩)) _ _ s
 refine w_ (wpAny_newObj_type ?_);refine u_ ⟨plainId_quiet F.plain_list_iadd _,codeAny_builtin F.entry_list_iadd ?_⟩;rw[Around.under_plainId F.plain_list_iadd _];generalize hH1:s.heap.push { cls:=.type "list",data:=.seq ([]:List Value).toArray }=H1;have sz1:H1.objs.size=s.heap.objs.size+1:=by rw[<- hH1];exact Heap.size_push ..
 have old1:∀b ob,s.heap.get? b=some ob->H1.get? b=some ob:=λb ob e=>by rw[<- hH1];exact Heap.get?_push_of_some _ e
 have gS:H1.get? s.heap.objs.size=some { cls:=.type "list",data:=.seq ([]:List Value).toArray }:=by rw[<- hH1];exact Heap.get?_push_size _ rfl
 show wpAny _ A.in1 (Builtin.List.listExtendWith (.ref s.heap.objs.size) (.ref a) (.ref s.heap.objs.size)) _ _ { s with heap:=H1 }
 unfold Builtin.List.listExtendWith;have ho1:=old1 a o ho;refine w_ (wpAny_typeOf (T:="set") ⟨o,ho1,hx.1⟩ ?_);have h1:Builtin.List.listSameRef (.ref s.heap.objs.size) (.ref a)=false:=by simpa [Builtin.List.listSameRef] using Nat.ne_of_gt hal
 have h2:(Value.type "set" == Value.type "list")=false:=by decide
 have h3:(Value.type "set" == Value.type "tuple")=false:=by decide
 simp only[h1,h2,h3,Bool.or_false,Bool.false_eq_true,if_false]
 refine w_ (lY (s:={ s with heap:=H1 }) ho1 hx hd hf J hz λI xs h' d pm hI old2 walks=>?_)
 refine w_ (wpAny_holding (sw ⟨o,old2 a o ho1,hx.1⟩ ?_))
 show wpAny _ A.in1 (rule "list.extend.makes-room" >>= λ_=>Builtin.List.listTouch (.ref s.heap.objs.size) >>= λ_ =>
  again (.builtin "list.extend.loop" ⟨[.ref s.heap.objs.size,.ref I,.ref s.heap.objs.size],[]⟩)) _ _ _
 refine w_ (wpAny_rule (w_ ?_));have g2:=old2 _ _ gS
 show wpAny _ A.in1 (updateSeq s.heap.objs.size (·.push .none) >>= λ_=>updateSeq s.heap.objs.size (·.pop)) _ _ _
 refine w_ (wpAny_updateSeq g2 rfl ?_);have g3:=Heap.get?_update_self (Obj.mapSeq (·.push Value.none)) g2 rfl;refine wpAny_updateSeq g3 rfl ?_;have g4:=Heap.get?_update_self (Obj.mapSeq (·.pop)) g3 rfl
 have oth:∀b ob,b≠s.heap.objs.size->h'.get? b=some ob->((h'.update s.heap.objs.size (Obj.mapSeq (·.push Value.none))).update s.heap.objs.size (Obj.mapSeq (·.pop))).get? b=some ob :=
  λb ob hb e=>(Heap.get?_update_other _ _ (Ne.symm hb)).trans ((Heap.get?_update_other _ _ (Ne.symm hb)).trans e)
 obtain⟨fp,St,W,st,hfp,_⟩:=walks A.in1 hh
 have hSf:s.heap.objs.size∉fp:=λhm=>by
  rcases(hfp _ hm).1 with e|e
  ·exact Nat.lt_irrefl _ (e▸hal)
  ·have e':H1.objs.size<=s.heap.objs.size:=e
   rw[sz1] at e';exact Nat.lt_irrefl _ e'
 refine u_ ⟨plainId_quiet F.plain_extend_loop _,codeAny_extend_loopS W hz _ hSf _ es.size 0 _ _ _ rfl (Nat.zero_le _)
  (W.frame 0 ({ s with heap:=h',drawn:=d }:Shared) _ s.toks st (Nat.le_refl _) λb hb ob e=>oth b ob (λz=>hSf (z▸hb)) e) g4 (ItemsOf.nil _) λs' acc' c' hm hS' hacc=>?_⟩
 show wpAny _ A (load s.heap.objs.size >>= _) _ _ s'
 refine w_ (wpAny_load hS' (u_ ?_));have e1:s'.gens=s.gens:=hm.gens;have e2:s'.drawn=d:=hm.drawn;have e3:s'.os=s.os:=hm.os
 have es':s' = { s with heap:=s'.heap,drawn:=d,toks:=s'.toks }:=by
  obtain⟨h0,g0,d0,t0,o0⟩:=s'
  simp only at e1 e2 e3
  subst e1 e2 e3;rfl
 have exs:acc'.toList=xs:=by
  have hl:xs.length=es.size:=by simpa using pm.length_eq
  apply ext_getElem
  ·rw[Array.length_toList,hacc.1,hl]
  ·intro i q1 q2
   have this:xs[i]? = some acc'[i]:=hacc.2 i acc'[i] (by simp)
   rw[List.getElem?_eq_getElem q2] at this
   simpa using (Option.some.inj this).symm
 have big:s.heap.objs.size<s'.heap.objs.size:=Heap.lt_size hS';rw[exs,es'];refine hQ _ d _ xs pm big λb ob e=>?_;have hb:b≠s.heap.objs.size:=Nat.ne_of_lt (Heap.lt_size e);refine hm.heap b ob ?_ (oth b ob hb (old2 b ob (old1 b ob e)))
 simp only[mem_cons,not_mem_nil,or_false,not_or]
 refine⟨hb,λz=>?_⟩;have hI':H1.objs.size<=I:=hI;rw[sz1,<- z] at hI';exact Nat.lt_irrefl _ (Nat.lt_of_lt_of_le (Nat.lt_succ_of_lt (Heap.lt_size e)) hI')
def eQ (h:ElemsOf (intKind prog w) es.toList):∃ks:List Int,IntsAre (es.toList.map (·.2)) ks/\∀k,k∈ks↔∃e∈es.toList,(intKind prog w).is k e.2=true:=by
 have go:∀l:List (Int×Value),ElemsOf (intKind prog w) l->∃ks:List Int,IntsAre (l.map (·.2)) ks/\∀k,k∈ks↔∃e∈l,(intKind prog w).is k e.2=true:=by
  intro l
  induction l with
  | nil=>intro _;exact⟨[],.nil,by simp⟩
  | cons e r ih =>
   intro h
   obtain⟨ks,h1,h2⟩:=ih h.tail;obtain⟨⟨k,hk,_⟩,_⟩:=h.head;obtain⟨tk,ek⟩:=Value.isInt_shape (k:=k) (v:=e.2) hk;refine⟨k::ks,?_,λk'=>?_⟩
   ·rw[map_cons,ek]
    exact .cons k tk h1
   ·rw[mem_cons,h2 k']
    constructor
    ·rintro(rfl|⟨e',he,q⟩)
     ·exact⟨e,mem_cons_self,hk⟩
     ·exact⟨e',mem_cons_of_mem _ he,q⟩
    ·rintro⟨e',he,q⟩
     rcases mem_cons.mp he with rfl|he
     ·exact .inl ((intKind prog w).inj e'.2 k' k q hk)
     ·exact .inr ⟨e',he,q⟩
 exact go _ h
theorem IntsAre.perm {vs us:List Value}(p:us.Perm vs):∀{ns:List Int},IntsAre vs ns->∃ms,IntsAre us ms/\ms.Perm ns:=by
 induction p with
 | nil=>intro ns h;exact⟨ns,h,List.Perm.refl _⟩
 | cons x _ ih =>
  intro ns h
  cases h with
  | cons n t h=>obtain⟨ms,h1,h2⟩:=ih h;exact⟨n::ms,.cons n t h1,h2.cons n⟩
 | swap x y l =>
  intro ns h
  cases h with
  | cons n t h=>cases h with
   | cons m u h=>exact⟨_,.cons m u (.cons n t h),List.Perm.swap _ _ _⟩
 | trans _ _ ih1 ih2 =>
  intro ns h
  obtain⟨ms,h1,h2⟩:=ih2 h;obtain⟨ls,h3,h4⟩:=ih1 h1;exact⟨ls,h3,h4.trans h2⟩
def ly {S:Int->Bool}{n:Nat}{Q:Value->Shared->Prop}(hh:A.handled=none)(hS:O2 (intKind prog w) s.heap a S n)(h64:n<64)
  (h:∀(l:Addr)(h':Heap) (d) (tk e:Nat) (out:Array Value) (ns:List Int),IntsAre out.toList ns->ns.Pairwise (·<=·)->(∀k,k∈ns↔S k=true)->ns.length=n->s.heap.objs.size<=l->(∀b ob,s.heap.get? b=some ob->h'.get? b=some ob) ->
   h'.get? l=some (seqObj "list" out e)->Q (.ref l) { s with heap:=h',drawn:=d,toks:=tk }):wpAny (model prog w) A (call (.builtin "sorted") [.ref a]) Q E s:=by
 obtain⟨o,es,ep,t,ho,hx,hd,⟨el,mem,hb,hf,hn⟩,J⟩:=hS;obtain⟨ks,ik,mk⟩:=eQ el;refine Calls.call_function_entry kind_sorted plain_sorted entry_sorted (args_sorted1 _) ?_;unfold Builtin.«sorted»;refine w_ (m:=checkCount "sorted" 1 1 _) (u_ ?_);refine w_ (jY hh ho hx hd hf J (fits_of_scanBound hb) λh1 d tk xs pm big old=>?_);obtain⟨ms,im,pms⟩:=IntsAre.perm pm ik;have hxl:xs.length=n:=by rw[<- hn];simpa using pm.length_eq
 refine w_ (wpAny_newList ?_ (by rw[hxl];exact Nat.le_trans (Nat.le_of_lt h64) (by decide)))
 have hoL:(h1.push (seqObj "list" xs.toArray 0)).get? h1.objs.size=some (seqObj "list" xs.toArray 0):=Heap.get?_push_size _ rfl
 show wpAny _ _ _ _ _ { s with heap:=h1.push (seqObj "list" xs.toArray 0),drawn:=d,toks:=tk }
 refine w_ (wpAny_holding (wpAny_call_entry slot_list_sort ⟨_,hoL,rfl⟩ entry_list_sort (list_sort_tree hoL im (by lia) λout ns a1 a2 a3=>⟨_,rfl,?_⟩) (args_list_sort _)))
 obtain⟨e,he⟩:=sortedHeap_at (out:=out) hoL;refine u_ ⟨_,rfl,h h1.objs.size _ d tk e out ns a1 a3 (λk=>?_) ?_ ?_ (λb ob q=>?_) he⟩
 ·rw[a2.mem_iff,pms.mem_iff,mk k,mem k]
 ·rw[a2.length_eq,pms.length_eq,<- ik.length,length_map,Array.length_toList,hn]
 ·exact Nat.le_of_lt big
 ·have q1:=old b ob q
  have hlt:=Heap.lt_size q1;rw[sortedHeap_old (Nat.ne_of_lt hlt) (by rw[Heap.size_push];exact Nat.lt_succ_of_lt hlt)]
  exact Heap.get?_push_of_some _ q1
end
section
variable {prog:Program}{w:World}{A:Around}{R:Result->Shared->Prop}{I:Addr}{fp wr:List Addr}{G:Array GenState->Array GenState->Prop}{n:Nat}{P:Nat->Value->Prop}{St:Nat->Shared->Prop}
abbrev W8 (prog:Program)(w:World)(val:Nat->Int)(i:Nat)(h:Heap)(S:Addr):Prop:=O2 (intKind prog w) h S (λk=>(firstMet val i).any (· == k)) (firstMet val i).length
theorem ji (W:WalksS prog w A.in1 I fp wr G n P St)(S:Addr)(hSf:S∉fp)(val:Nat->Int)(hval:∀i v,P i v->∃t,v=.int (val i) t)(hb:n+1<scanBound) :
  ∀(k i:Nat)(s:Shared),n-i=k->i<=n->St i s->W8 prog w val i s.heap S->(∀s',Moved (S::wr) G s s'->W8 prog w val n s'.heap S->R (.ok (.ret .none)) s') ->
   codeAny (model prog w) A (.builtin "set.update.loop" ⟨[.ref S,.ref I],[]⟩) R s:=by
 have hSw:S∉wr:=λz=>hSf (W.sub _ z);have sub:∀b∈wr,b∈S::wr:=λb q=>mem_cons_of_mem _ q
 intro k
 induction k with
 | zero =>
  intro i s hk hi st x fin
  obtain rfl:i=n:=by lia
  refine codeAny_builtin PyProof.Rows.F.entry_set_update_loop ?_;rw[Around.under_plainId PyProof.Rows.F.plain_set_update_loop _]
  show wpAny _ A.in1 (pyNext (.ref I) >>= _) _ _ s
  refine w_ (W.done s _ _ st λs' m=>?_)
  show wpAny _ A.in1 (ret Value.none) _ _ s'
  exact u_ (fin s' (m.mono sub) (x.of_get λo e=>m.heap S _ hSw e))
 | succ k ih =>
  intro i s hk hi st x fin
  have lt:i<n:=by lia
  refine codeAny_builtin PyProof.Rows.F.entry_set_update_loop ?_;rw[Around.under_plainId PyProof.Rows.F.plain_set_update_loop _]
  show wpAny _ A.in1 (pyNext (.ref I) >>= _) _ _ s
  refine w_ (W.item i s _ _ lt st λv s' pv st' m=>?_);obtain⟨t,rfl⟩:=hval i v pv;have x':W8 prog w val i s'.heap S:=x.of_get λo e=>m.heap S _ hSw e
  show wpAny _ A.in1 (holding [Value.int (val i) t] (setAdd S (.int (val i) t)) >>= _) _ _ s'
  refine w_ (wpAny_holding ?_);unfold setAdd;refine wpAny_holding (w_ ((intKind prog w).pyHash (k:=val i) (intKind_is _ _ _ _) ?_));have room:(firstMet val i).length+1<scanBound:=by have:=firstMet_length_le val i;lia
  refine yg (knd:=intKind prog w) (s:={ s' with toks:=s'.toks+1 }) (intKind_is _ _ _ _) rfl x' room λh' sb x2=>?_
  have x3:W8 prog w val (i+1) h' S:=x2.congr (λk'=>by rw[firstMet_succ,step_any]) (by rw[firstMet_succ,step_length])
  refine u_ ⟨plainId_quiet PyProof.Rows.F.plain_set_update_loop _,ih (i+1) _ (by lia) lt (W.frame _ s' _ _ st' (Nat.le_succ _) λb hb o e=>?_) x3 λs'' m2 x4=>?_⟩
  ·rw[sb.2 b (λz:b=S=>hSf (z▸hb))];exact e
  ·refine fin s'' (Moved.trans W.gtrans ((m.mono sub).then_heap (Nat.le_succ _) λb o hb e=>?_) m2) x4
   rw[sb.2 b (λz:b=S=>hb (z▸mem_cons_self))];exact e
end
section
variable {prog:Program}{w:World}{A:Around}{E:Value->Shared->Prop}{s:Shared}
abbrev C6 (w:World):Obj:={ cls:=.type "set",dict:=none,data:=.set #[] 0 (.fresh 0 0 (!w.params.followText "set-order")) }
def X8 (a:Value){Q:Value->Shared->Prop}(h:Q (.ref s.heap.objs.size) { s with heap:=s.heap.push (C6 w) }) :
  codeAny (model prog w) A (.call (.builtin "set.__new__") ⟨[.type "set",a],[]⟩) (wants Q E) s:=by
 refine codeAny_of_tree ?_
 show wpAny _ A.in1 (do checkBuiltinCall "set.__new__" ⟨[.type "set",a],[]⟩;again (.builtin "set.__new__" ⟨[.type "set",a],[]⟩)) _ _ s
 refine w_ (wpAny_of_eq (PySem.F.newCall_set_1 a) (u_ ⟨plainId_quiet PySem.F.plain_set_new _,codeAny_builtin PySem.F.entry_set_new ?_⟩));rw[Around.under_plainId PySem.F.plain_set_new _];unfold Builtin.«set.__new__» Builtin.Frozenset.newClass;have hsub:=sub_set_self;obtain⟨hp,g,d,tk,os⟩:=s
 dsimp only
 wp_walk
 refine wpAny_askSetting (u_ ?_)
 dsimp only
 simp only[newObj]
 exact w_ (wpAny_alloc (u_ (u_ h)))
theorem kY {l:Addr}{items:Array Value}{ns:List Int}{Q:Value->Shared->Prop}(hh:A.handled=none)(hl:s.heap.IsList l items)(hi:IntsAre items.toList ns)(hb:items.size+1<scanBound)
  (h:∀(h':Heap)(tk:Nat),W8 prog w (λi=>ns.getD i 0) items.size h' s.heap.objs.size->(∀b o,b<s.heap.objs.size->s.heap.get? b=some o->h'.get? b=some o)->Q (.ref s.heap.objs.size) { s with heap:=h',toks:=tk }) :
  wpAny (model prog w) A (call (.type "set") [.ref l]) Q E s:=by
 obtain⟨c,tl,hmro⟩:=PySem.F.called_set.mro;have hmade:=PySem.F.called_set.made;have hsub:=PySem.F.called_set.sub;refine wpAny_call (codeAny_of_tree ?_)
 show wpAny _ _ (callAny (.type "set") _) _ _ _
 refine u_ ⟨Code.quiet_builtin _ (by decide +kernel),codeAny_builtin PySem.F.entry_type_call ?_⟩
 rw[Around.under_plain (weight_type_call_type "set" [.ref l] []) rfl];have h1:=PySem.F.called_set.notType;have h2:=PySem.F.called_set.canCreate;have hct:=PySem.F.typeCall_set_1 (.ref l)
 repeat (any_goals (first|assumption|wp_step))
 refine codeAny_mono (X8 (.ref l) (E:=E) (Q:=λobj s₁=>obj=.ref s.heap.objs.size/\s₁ = { s with heap:=s.heap.push (C6 w) }) ⟨rfl,rfl⟩) λr s₁ hr=>?_
 cases r with
 | error e=>exact hr
 | ok fl =>
  cases fl with
  | ret obj =>
   obtain⟨rfl,rfl⟩:=hr;have hS:(s.heap.push (C6 w)).get? s.heap.objs.size=some (C6 w):=Heap.get?_push_size _ rfl;have hT:Shared.TypeIs { s with heap:=s.heap.push (C6 w) } (.ref s.heap.objs.size) "set":=⟨_,hS,rfl⟩
   have hli:=PySem.F.called_set.init.lookup;have hbi:=PySem.F.called_set.init.bind (.ref s.heap.objs.size)
   repeat (any_goals (first|assumption|wp_step))
   refine codeAny_mono (codeAny_call_builtin (R:=wants (λr s₂=>r=.none/\∃h' tk,s₂ = { s with heap:=h',toks:=tk }/\W8 prog w (λi=>ns.getD i 0) items.size h' s.heap.objs.size /\
     (∀b o,b<s.heap.objs.size->s.heap.get? b=some o->h'.get? b=some o)) E) PySem.F.called_set.init.plain PySem.F.entry_set_init (check_set_init_1 hT ?_)) λr₂ s₂ hr₂=>?_
   ·obtain⟨ol,hol,hcl,nl,hdl⟩:=id hl
    have hol':(s.heap.push (C6 w)).get? l=some ol:=Heap.get?_push_of_some _ hol;have hTl:Shared.TypeIs { s with heap:=s.heap.push (C6 w) } (.ref l) "list":=⟨ol,hol',hcl⟩
    have hsls:=PySem.F.sub_list_set;have hslf:=PySem.F.sub_list_frozenset;have hne:(Value.type "list" == Value.type "dict")=false:=by decide
    have hl1:(s.heap.push (C6 w)).IsList l items:=⟨_,hol',hcl,nl,hdl⟩;unfold Builtin.«set.__init__» noKeywords Builtin.Frozenset.updateFrom;generalize hPI:pyIter=PI
    wp_walk
    subst hPI;refine wpAny_pyIter_list hl1 (w_ (wpAny_runValue ?_));have hlS:l<s.heap.objs.size:=Heap.lt_size hol;have hneI:l≠(s.heap.push (C6 w)).objs.size:=by rw[Heap.size_push];exact Nat.ne_of_lt (Nat.lt_succ_of_lt hlS)
    have hSf:s.heap.objs.size∉[(s.heap.push (C6 w)).objs.size,l]:=by
     rw[Heap.size_push]
     simp only[mem_cons,not_mem_nil,or_false,not_or]
     exact⟨Nat.ne_of_lt (Nat.lt_succ_self _),Nat.ne_of_gt hlS⟩
    refine ji ((Walks.list (by simpa using hh) _ l hneI items).toS) s.heap.objs.size hSf (λi=>ns.getD i 0) (λi v hv=>PyProof.Rows.IntsAre.int_at hi i v (by rw[Array.getElem?_toList];exact hv)) hb (items.size-0) 0 _ (by lia) (Nat.zero_le _)
     ⟨⟨_,Heap.get?_push_size _ rfl,rfl,rfl⟩,(hl1.push _)⟩ ?hS0 ?hR
    case hS0 =>
     exact((O2.new (knd:=intKind prog w) s.heap rfl).congr (λ_=>rfl) rfl).of_get λo e=>Heap.get?_push_of_some _ e
    case hR =>
     intro s' m x
     obtain⟨h',g',d',tk',os'⟩:=s';have eg:g'=s.gens:=m.gens;have ed:d'=s.drawn:=m.drawn;have eo:os'=s.os:=m.os;subst eg ed eo
     show wpAny _ _ _ _ _ _
     refine u_ ?_
     show wpAny _ _ (ret Value.none) _ _ _
     refine u_ ⟨rfl,h',tk',rfl,x,λb o q e=>?_⟩;refine m.heap b o ?_ (Heap.get?_push_of_some _ (Heap.get?_push_of_some _ e))
     simp only[mem_cons,not_mem_nil,or_false,not_or]
     refine⟨Nat.ne_of_lt q,?_⟩;rw[Heap.size_push];exact Nat.ne_of_lt (Nat.lt_succ_of_lt q)
   ·cases r₂ with
    | error e=>exact hr₂
    | ok fl₂ =>
     cases fl₂ with
     | ret r =>
      obtain⟨rfl,h',tk,rfl,x,kp⟩:=hr₂
      repeat (any_goals (first|assumption|wp_step))
      exact h _ _ x kp
     | _=>exact hr₂.elim
  | _=>exact hr.elim
end
end L2
namespace L2
open PySem PySem.W PyProof.Rows
def ev {α:Type}(lt:Nat->Nat->Bool):KasT α->α
 | .ret a=>a
 | .ask i j k=>ev lt (k (lt i j))
theorem Z1 {α β:Type}(lt:Nat->Nat->Bool)(f:α->KasT β):∀t:KasT α,ev lt (t.bind f)=ev lt (f (ev lt t))
 | .ret _=>rfl
 | .ask i j k=>Z1 lt f (k (lt i j))
section
variable {r:Nat->Int}
abbrev ltR (r:Nat->Int):Nat->Nat->Bool:=λi j=>decide (r i<r j)
abbrev ky (r:Nat->Int)(p:Array Nat)(k:Nat):Int:=r (p.getD k 0)
def av {α:Type}(lt:Nat->Nat->Bool)(i j:Nat)(k:Bool->KasT α):ev lt (.ask i j k)=ev lt (k (lt i j)):=rfl
def kK {i j:Nat}(c:r i<r j):ltR r i j=true:=decide_eq_true c
def jL {i j:Nat}(c:¬r i<r j):ltR r i j=false:=decide_eq_false c
def Up (r:Nat->Int)(p:Array Nat)(b:Nat):Prop:=∀i,0<i->i<b->ky r p (i-1)<=ky r p i
def Dn (r:Nat->Int)(p:Array Nat)(b:Nat):Prop:=∀i,0<i->i<b->ky r p i<=ky r p (i-1)
def Eqs (r:Nat->Int)(p:Array Nat)(a b:Nat):Prop:=∀i,a<i->i<b->ky r p i=ky r p (i-1)
theorem Up.mono {p:Array Nat}{b:Nat}(h:Up r p b):∀i j,i<=j->j<b->ky r p i<=ky r p j:=by
  intro i j hij hj
  induction j with
  | zero =>
    have:i=0:=by lia
    subst this;exact Int.le_refl _
  | succ j ih =>
    rcases Nat.lt_or_eq_of_le hij with q|q
    . exact Int.le_trans (ih (by lia) (by lia)) (h (j+1) (by lia) hj)
    . rw[q];exact Int.le_refl _
theorem Dn.mono {p:Array Nat}{b:Nat}(h:Dn r p b):∀i j,i<=j->j<b->ky r p j<=ky r p i:=by
  intro i j hij hj
  induction j with
  | zero =>
    have:i=0:=by lia
    subst this;exact Int.le_refl _
  | succ j ih =>
    rcases Nat.lt_or_eq_of_le hij with q|q
    . exact Int.le_trans (h (j+1) (by lia) hj) (ih (by lia) (by lia))
    . rw[q];exact Int.le_refl _
theorem Eqs.all {p:Array Nat}{a b:Nat}(h:Eqs r p a b):∀i,a<=i->i<b->ky r p i=ky r p a:=by
  intro i hi hb
  induction i with
  | zero =>
    have:a=0:=by lia
    subst this;rfl
  | succ i ih =>
    rcases Nat.lt_or_eq_of_le hi with q|q
    . rw[h (i+1) q hb];exact ih (by lia) (by lia)
    . rw[q]
def eB {p:Array Nat}{i j:Nat}(hj:j<=p.size)(k:Nat):(kas_rev p i j).getD k 0=if i<=k/\k<j then p.getD (i+j-1-k) 0 else p.getD k 0:=by
 unfold kas_rev;have e:=getElem?_mirror (xs:=p) (i:=i) hj ((j-i)/2) (by lia) k
 rw[Array.getD_eq_getD_getElem?,e]
 by_cases c:i<=k/\k<j
 ·rw[if_pos c]
  by_cases d:i<=k/\k<i+(j-i)/2\/j-(j-i)/2<=k/\k<j
  ·rw[if_pos d,Array.getD_eq_getD_getElem?]
  ·rw[if_neg d]
   have:i+j-1-k=k:=by lia
   rw[this,Array.getD_eq_getD_getElem?]
 ·rw[if_neg c,if_neg (by lia),Array.getD_eq_getD_getElem?]
def iH {p:Array Nat}{i j:Nat}(hj:j<=p.size)(h:Eqs r p i j)(k:Nat):ky r (kas_rev p i j) k=ky r p k:=by
 show r _=r _
 rw[eB hj]
 by_cases c:i<=k/\k<j
 ·rw[if_pos c]
  have e1:ky r p (i+j-1-k)=ky r p i:=h.all _ (by lia) (by lia)
  have e2:ky r p k=ky r p i:=h.all _ c.1 c.2;exact e1.trans e2.symm
 ·rw[if_neg c]
def T0 (p:Array Nat)(i j:Nat):(kas_rev p i j).size=p.size:=mirror_size _ _ _ _
def M9 (p:Array Nat)(i j:Nat):(kas_rev p i j).Perm p:=mirror_perm _ _ _ _
theorem qQ (p:Array Nat):∀f n,1<=n->Up r p n->n<=ev (ltR r) (kas_asc p f n)/\ev (ltR r) (kas_asc p f n)<=n+f/\Up r p (ev (ltR r) (kas_asc p f n)) /\
  (ev (ltR r) (kas_asc p f n)<n+f->ky r p (ev (ltR r) (kas_asc p f n))<ky r p (ev (ltR r) (kas_asc p f n)-1)):=by
 intro f
 induction f with
 | zero=>intro n h1 h;exact⟨Nat.le_refl _,Nat.le_refl _,h,λq=>absurd q (Nat.lt_irrefl _)⟩
 | succ f ih =>
  intro n h1 h
  unfold kas_asc;rw[av]
  by_cases c:r (p.getD n 0)<r (p.getD (n-1) 0)
  ·rw[kK c,if_pos rfl]
   exact⟨Nat.le_refl _,by show n<=n+(f+1);lia,h,λ_=>c⟩
  ·rw[jL c,if_neg (by simp)]
   obtain⟨q1,q2,q3,q4⟩:=ih (n+1) (by lia) (λi hi hb=>by
    rcases Nat.lt_or_eq_of_le (Nat.le_of_lt_succ hb) with z|z
    ·exact h i hi z
    ·subst z;exact Int.not_lt.mp c)
   exact⟨by lia,by lia,q3,λz=>q4 (by lia)⟩
theorem ut:∀(f:Nat)(p:Array Nat)(n q:Nat),q<n->n+f<=p.size->Dn r p n->Eqs r p (n-(q+1)) n ->
  ∃p' n' q',ev (ltR r) (kas_desc f p n q)=(p',n',q')/\q'<n'/\n<=n'/\n'<=n+f/\p'.size=p.size/\p'.Perm p/\Dn r p' n'/\Eqs r p' (n'-(q'+1)) n':=by
 intro f
 induction f with
 | zero=>intro p n q hq hz hd he;exact⟨p,n,q,rfl,hq,Nat.le_refl _,Nat.le_refl _,rfl,Array.Perm.refl _,hd,he⟩
 | succ f ih =>
  intro p n q hq hz hd he
  unfold kas_desc;rw[av]
  by_cases c:r (p.getD n 0)<r (p.getD (n-1) 0)
  ·rw[kK c,if_pos rfl]
   have step:∀p1:Array Nat,p1.size=p.size->p1.Perm p->(∀k,ky r p1 k=ky r p k)->∃p' n' q',ev (ltR r) (kas_desc f p1 (n+1) 0)=(p',n',q')/\q'<n'/\n<=n'/\n'<=n+(f+1)/\p'.size=p.size/\p'.Perm p/\Dn r p' n'/\Eqs r p' (n'-(q'+1)) n':=λp1 s1 pm hk=>by
    obtain⟨p',n',q',e,a1,a2,a3,a4,a5,a6,a7⟩:=ih p1 (n+1) 0 (by lia) (by lia) (λi hi hb=>by
     rw[hk,hk]
     rcases Nat.lt_or_eq_of_le (Nat.le_of_lt_succ hb) with z|z
     ·exact hd i hi z
     ·subst z;exact Int.le_of_lt c) (λi hi hb=>by lia)
    exact⟨p',n',q',e,a1,by lia,by lia,a4.trans s1,a5.trans pm,a6,a7⟩
   by_cases cq:q > 0
   ·rw[if_pos cq]
    exact step _ (T0 _ _ _) (M9 _ _ _) (iH (by lia) he)
   ·rw[if_neg cq]
    exact step p rfl (Array.Perm.refl _) λ_=>rfl
  ·rw[jL c,if_neg (by simp)]
   rw[av]
   by_cases d:r (p.getD (n-1) 0)<r (p.getD n 0)
   ·rw[kK d,if_pos rfl]
    exact⟨p,n,q,rfl,hq,Nat.le_refl _,by lia,rfl,Array.Perm.refl _,hd,he⟩
   ·rw[jL d,if_neg (by simp)]
    have eqn:ky r p n=ky r p (n-1):=Int.le_antisymm (Int.not_lt.mp d) (Int.not_lt.mp c)
    obtain⟨p',n',q',e,a1,a2,a3,a4,a5,a6,a7⟩:=ih p (n+1) (q+1) (by lia) (by lia) (λi hi hb=>by
     rcases Nat.lt_or_eq_of_le (Nat.le_of_lt_succ hb) with z|z
     ·exact hd i hi z
     ·subst z;exact Int.le_of_eq eqn) (λi hi hb=>by
     rcases Nat.lt_or_eq_of_le (Nat.le_of_lt_succ hb) with z|z
     ·exact he i (by lia) z
     ·subst z;exact eqn)
    exact⟨p',n',q',e,a1,by lia,by lia,a4,a5,a6,a7⟩
def Run (r:Nat->Int)(p:Array Nat)(nrem:Nat)(x:Nat×Array Nat):Prop:=x.1<=nrem/\1<=x.1/\x.2.size=p.size/\x.2.Perm p/\Up r x.2 x.1
def kz {p:Array Nat}{n nrem:Nat}(h1:1<=n)(hn:n<=nrem)(hz:nrem<=p.size)(hd:Dn r p n):Run r p nrem (ev (ltR r) (kas_tail3 n nrem p)):=by
 unfold kas_tail3;rw[Z1]
 have hu:Up r (kas_rev p 0 n) n:=λi hi hb=>by
  show r _<=r _
  rw[eB (by lia),eB (by lia),if_pos (by lia),if_pos (by lia)]
  exact hd.mono (0+n-1-i) (0+n-1-(i-1)) (by lia) (by lia)
 obtain⟨a1,a2,a3,_⟩:=qQ (kas_rev p 0 n) (nrem-n) n h1 hu;exact⟨by show ev (ltR r) _<=_;lia,by show 1<=ev (ltR r) _;lia,T0 _ _ _,M9 _ _ _,a3⟩
theorem Run.of {p p1:Array Nat}{nrem:Nat}{x:Nat×Array Nat}(h:Run r p1 nrem x)(s:p1.size=p.size)(m:p1.Perm p):Run r p nrem x:=⟨h.1,h.2.1,h.2.2.1.trans s,h.2.2.2.1.trans m,h.2.2.2.2⟩
def bY {p:Array Nat}{n nrem:Nat}(hn:n+1<=nrem)(hz:nrem<=p.size)(hd:Dn r p (n+1)):Run r p nrem (ev (ltR r) (kas_descPart n nrem p)):=by
 unfold kas_descPart;rw[Z1];obtain⟨p',n',q',e,a1,a2,a3,a4,a5,a6,a7⟩:=ut (nrem-(n+1)) p (n+1) 0 (by lia) (by lia) hd (λi hi hb=>by lia)
 rw[e]
 dsimp only
 by_cases c:q' > 0
 ·rw[if_pos c]
  have k:=iH (r:=r) (by lia) a7
  exact(kz (p:=kas_rev p' (n'-(q'+1)) n') (by lia) (by lia) (by rw[T0];lia) (λi hi hb=>by rw[k,k];exact a6 i hi hb)).of ((T0 _ _ _).trans a4) ((M9 _ _ _).trans a5)
 ·rw[if_neg c]
  exact(kz (p:=p') (by lia) (by lia) (by lia) a6).of a4 a5
def jv {p:Array Nat}{nrem:Nat}(h1:1<=nrem)(hz:nrem<=p.size):Run r p nrem (ev (ltR r) (kas_count nrem p)):=by
 unfold kas_count;rw[Z1];obtain⟨a1,a2,a3,a4⟩:=qQ (r:=r) p (nrem-1) 1 (Nat.le_refl _) (λi hi hb=>by lia)
 generalize ev (ltR r) (kas_asc p (nrem-1) 1)=n at *
 by_cases c:(n==nrem)=true
 ·rw[if_pos c]
  exact⟨by show n<=nrem;lia,a1,rfl,Array.Perm.refl _,a3⟩
 ·rw[if_neg c]
  have hne:n≠nrem:=by simpa using c
  have stop:=a4 (by lia)
  by_cases c2:n > 1
  ·rw[if_pos c2]
   rw[av]
   by_cases d:r (p.getD 0 0)<r (p.getD (n-1) 0)
   ·rw[kK d,if_pos rfl]
    exact⟨by show n<=nrem;lia,a1,rfl,Array.Perm.refl _,a3⟩
   ·rw[jL d,if_neg (by simp)]
    have eqs:Eqs r p 0 n:=λi hi hb=>by
     have q1:=a3.mono 0 (i-1) (by lia) (by lia)
     have q2:=a3.mono (i-1) i (by lia) hb
     have q3:=a3.mono i (n-1) (by lia) (by lia)
     have q4:ky r p (n-1)<=ky r p 0:=Int.not_lt.mp d;lia
    have k:=iH (r:=r) (by lia) eqs
    refine(bY (p:=kas_rev p 0 n) (by lia) (by rw[T0];exact hz) (λi hi hb=>?_)).of (T0 _ _ _) (M9 _ _ _)
    rw[k,k]
    rcases Nat.lt_or_eq_of_le (Nat.le_of_lt_succ hb) with z|z
    ·exact Int.le_of_eq (eqs i hi z)
    ·subst z;exact Int.le_of_lt stop
  ·rw[if_neg c2]
   obtain rfl:n=1:=by lia
   exact bY (by lia) hz (λi hi hb=>by
    obtain rfl:i=1:=by lia
    exact Int.le_of_lt stop)
theorem sM {p:Array Nat}{k:Nat}(hu:Up r p k):∀f l m,m-l<=f->l<=m->m<=k->(∀i,i<l->ky r p i<=ky r p k)->(∀i,m<=i->i<k->ky r p k<ky r p i) ->
  ev (ltR r) (kas_place p k f l m)<=k/\(∀i,i<ev (ltR r) (kas_place p k f l m)->ky r p i<=ky r p k)/\∀i,ev (ltR r) (kas_place p k f l m)<=i->i<k->ky r p k<ky r p i:=by
 intro f
 induction f with
 | zero =>
  intro l m h1 h2 h3 h4 h5
  obtain rfl:l=m:=by lia
  exact⟨h3,h4,h5⟩
 | succ f ih =>
  intro l m h1 h2 h3 h4 h5
  unfold kas_place
  by_cases c:l ≥ m
  ·rw[if_pos c]
   obtain rfl:l=m:=by lia
   exact⟨h3,h4,h5⟩
  ·rw[if_neg c]
   rw[av]
   by_cases d:r (p.getD k 0)<r (p.getD ((l+m)/2) 0)
   ·rw[kK d,if_pos rfl]
    refine ih l ((l+m)/2) (by lia) (by lia) (by lia) h4 (λi hi hb=>?_)
    exact Int.lt_of_lt_of_le d (hu.mono _ i hi hb)
   ·rw[jL d,if_neg (by simp)]
    refine ih ((l+m)/2+1) m (by lia) (by lia) h3 (λi hi=>?_) h5
    exact Int.le_trans (hu.mono i ((l+m)/2) (by lia) (by lia)) (Int.not_lt.mp d)
def ck {p:Array Nat}{k l:Nat}(hk:k<p.size)(hl:l<=k)(i:Nat):(bubble p k (k-l)).getD i 0=if i=l then p.getD k 0 else if l<i/\i<=k then p.getD (i-1) 0 else p.getD i 0:=by
 have e:=getElem?_bubble hk (k-l) (by lia) i
 rw[show k-(k-l)=l by lia] at e
 rw[Array.getD_eq_getD_getElem?,e]
 by_cases c1:i=l
 ·rw[if_pos c1,if_pos c1,Array.getD_eq_getD_getElem?]
 ·rw[if_neg c1,if_neg c1]
  by_cases c2:l<i/\i<=k
  ·rw[if_pos c2,if_pos c2,Array.getD_eq_getD_getElem?]
  ·rw[if_neg c2,if_neg c2,Array.getD_eq_getD_getElem?]
theorem xa:∀(f:Nat)(p:Array Nat)(k:Nat),k+f<=p.size->Up r p k->(ev (ltR r) (kas_bin f p k)).Perm p/\Up r (ev (ltR r) (kas_bin f p k)) (k+f):=by
 intro f
 induction f with
 | zero=>intro p k hz hu;exact⟨Array.Perm.refl _,hu⟩
 | succ f ih =>
  intro p k hz hu
  unfold kas_bin;rw[Z1];obtain⟨b1,b2,b3⟩:=sM hu k 0 k (by lia) (by lia) (Nat.le_refl _) (λi hi=>absurd hi (by lia)) (λi hi hb=>absurd hb (by lia))
  generalize ev (ltR r) (kas_place p k k 0 k)=l at *;have hk:k<p.size:=by lia
  obtain⟨c1,c2⟩:=ih (bubble p k (k-l)) (k+1) (by rw[bubble_size];lia) (λi hi hb=>by
   show r _<=r _
   rw[ck hk b1,ck hk b1]
   by_cases e1:i-1=l
   ·rw[if_pos e1,if_neg (show ¬i=l by lia),if_pos (by lia)]
    have:=b3 (i-1) (by lia) (by lia)
    exact Int.le_of_lt this
   ·rw[if_neg e1]
    by_cases e2:i=l
    ·rw[if_pos e2,if_neg (by lia)]
     exact b2 (i-1) (by lia)
    ·rw[if_neg e2]
     by_cases e3:l<i
     ·rw[if_pos (by lia),if_pos (by lia)]
      exact hu (i-1) (by lia) (by lia)
     ·rw[if_neg (by lia),if_neg (by lia)]
      exact hu i hi (by lia))
  exact⟨c1.trans (bubble_perm _ _ _),by rw[show k+(f+1)=k+1+f by lia];exact c2⟩
def tO {n:Nat}(hn:1<=n):(ev (ltR r) (kas_sort n)).Perm (List.range n).toArray/\Up r (ev (ltR r) (kas_sort n)) n:=by
 unfold kas_sort;rw[Z1];obtain⟨h1,h2,h3,h4,h5⟩:=jv (r:=r) (p:=(List.range n).toArray) (nrem:=n) hn (by simp)
 generalize ev (ltR r) (kas_count n (List.range n).toArray)=x at *;have hs:x.2.size=n:=by rw[h3];simp
 by_cases c:x.1<n
 ·rw[if_pos c]
  have hm:max x.1 1=x.1:=by lia
  rw[hm];obtain⟨c1,c2⟩:=xa (r:=r) (n-x.1) x.2 x.1 (by lia) h5
  rw[show x.1+(n-x.1)=n by lia] at c2
  exact⟨c1.trans h4,c2⟩
 ·rw[if_neg c]
  have:x.1=n:=by lia
  rw[this] at h5;exact⟨h4,h5⟩
def ar {α:Type}(lt:Nat->Nat->Bool)(n:Nat):KasT α->Prop
 | .ret _=>True
 | .ask i j k=>i<n/\j<n/\ar lt n (k (lt i j))
theorem ar.bind {α β:Type}{lt:Nat->Nat->Bool}{n:Nat}{f:α->KasT β}:∀{t:KasT α},ar lt n t->ar lt n (f (ev lt t))->ar lt n (t.bind f)
 | .ret _,_,h=>h
 | .ask i j k,h,h'=>⟨h.1,h.2.1,ar.bind (t:=k (lt i j)) h.2.2 h'⟩
def InN (n:Nat)(p:Array Nat):Prop:=0<n/\∀x∈p.toList,x<n
theorem InN.at {n:Nat}{p:Array Nat}(h:InN n p)(k:Nat):p.getD k 0<n:=by
 rw[Array.getD_eq_getD_getElem?]
 cases e:p[k]? with
 | none=>exact h.1
 | some x=>exact h.2 x (by rw[Array.mem_toList_iff];exact Array.mem_of_getElem? e)
theorem InN.perm {n:Nat}{p p':Array Nat}(h:InN n p)(m:p'.Perm p):InN n p':=⟨h.1,λx hx=>h.2 x (by
 rw[Array.mem_toList_iff] at hx ⊢
 exact(Array.Perm.mem_iff m).mp hx)⟩
variable {n₀:Nat}
theorem dP {p:Array Nat}(h:InN n₀ p):∀f n,ar (ltR r) n₀ (kas_asc p f n)
 | 0,_=>True.intro
 | f+1,n=>by
  unfold kas_asc;refine⟨h.at _,h.at _,?_⟩
  dsimp only
  split
  ·exact True.intro
  ·exact dP h f (n+1)
theorem Y4:∀(f:Nat){p:Array Nat}(n q:Nat),InN n₀ p->ar (ltR r) n₀ (kas_desc f p n q)
 | 0,_,_,_,_=>True.intro
 | f+1,p,n,q,h=>by
  unfold kas_desc;refine⟨h.at _,h.at _,?_⟩
  dsimp only
  split
  ·split
   ·exact Y4 f _ _ (h.perm (M9 _ _ _))
   ·exact Y4 f _ _ h
  ·refine⟨h.at _,h.at _,?_⟩
   dsimp only
   split
   ·exact True.intro
   ·exact Y4 f _ _ h
theorem Z8:∀(f:Nat)(p:Array Nat)(n q:Nat),(ev (ltR r) (kas_desc f p n q)).1.Perm p
 | 0,p,_,_=>Array.Perm.refl _
 | f+1,p,n,q=>by
  unfold kas_desc;rw[av]
  split
  ·split
   ·exact(Z8 f _ _ _).trans (M9 _ _ _)
   ·exact Z8 f _ _ _
  ·rw[av]
   split
   ·exact Array.Perm.refl _
   ·exact Z8 f _ _ _
def eh {p:Array Nat}(n nrem:Nat)(h:InN n₀ p):ar (ltR r) n₀ (kas_tail3 n nrem p):=(dP (h.perm (M9 _ _ _)) _ _).bind True.intro
def ag {p:Array Nat}(n nrem:Nat)(h:InN n₀ p):ar (ltR r) n₀ (kas_descPart n nrem p):=by
 refine(Y4 _ _ _ h).bind ?_;have pm:=Z8 (r:=r) (nrem-(n+1)) p (n+1) 0
 split
 ·exact eh _ _ ((h.perm pm).perm (M9 _ _ _))
 ·exact eh _ _ (h.perm pm)
def lQ {p:Array Nat}(nrem:Nat)(h:InN n₀ p):ar (ltR r) n₀ (kas_count nrem p):=by
 refine(dP h _ _).bind ?_
 split
 ·exact True.intro
 ·split
  ·refine⟨h.at _,h.at _,?_⟩
   dsimp only
   split
   ·exact True.intro
   ·exact ag _ _ (h.perm (M9 _ _ _))
  ·exact ag _ _ h
theorem aq {p:Array Nat}{k:Nat}(h:InN n₀ p):∀f l m,ar (ltR r) n₀ (kas_place p k f l m)
 | 0,_,_=>True.intro
 | f+1,l,m=>by
  unfold kas_place
  split
  ·exact True.intro
  ·refine⟨h.at _,h.at _,?_⟩
   dsimp only
   split
   ·exact aq h f _ _
   ·exact aq h f _ _
theorem jr:∀(f:Nat){p:Array Nat}(k:Nat),InN n₀ p->ar (ltR r) n₀ (kas_bin f p k)
 | 0,_,_,_=>True.intro
 | f+1,p,k,h=>(aq h _ _ _).bind (jr f _ (h.perm (bubble_perm _ _ _)))
def qL {n:Nat}(hn:1<=n):ar (ltR r) n (kas_sort n):=by
 have h:InN n (List.range n).toArray:=⟨hn,λx hx=>by simpa using hx⟩
 refine(lQ n h).bind ?_;obtain⟨h1,h2,h3,h4,h5⟩:=jv (r:=r) (p:=(List.range n).toArray) (nrem:=n) hn (by simp)
 split
 ·exact jr _ _ (h.perm h4)
 ·exact True.intro
theorem vx {cmp:Nat->Nat->(Bool->Shared->Prop)->Shared->Prop}{J:Shared->Prop}{n:Nat}{lt:Nat->Nat->Bool}{α:Type}(hc:∀i j C s,i<n->j<n->J s->(∀s',J s'->C (lt i j) s')->cmp i j C s) :
  ∀(t:KasT α)(s:Shared)(Q:α->Shared->Prop),ar lt n t->J s->(∀s',J s'->Q (ev lt t) s')->t.kasWp cmp Q s
 | .ret a,s,Q,_,hJ,h=>h s hJ
 | .ask i j k,s,Q,ha,hJ,h=>hc i j _ s ha.1 ha.2.1 hJ λs' hJ'=>vx hc (k (lt i j)) s' Q ha.2.2 hJ' h
def kj {α:Type}{xs:List α}{r:Nat->Int}{p:Array Nat}(hp:p.Perm (List.range xs.length).toArray)(hu:Up r p xs.length)(d:α)(key:α->Int)(hk:∀i,i<xs.length->r i=key (xs.getD i d)) :
  (p.toList.map λi=>xs.getD i d).Perm xs/\(p.toList.map λi=>xs.getD i d).Pairwise (λa b=>key a<=key b):=by
 have hpl:p.toList.Perm (List.range xs.length):=by simpa using Array.perm_iff_toList_perm.mp hp
 have hlen:p.toList.length=xs.length:=by simpa using hpl.length_eq
 constructor
 ·refine(hpl.map _).trans ?_
  have:(List.range xs.length).map (λi=>xs.getD i d)=xs:=by
   apply ext_getElem
   ·simp
   ·intro i h1 h2
    simp[List.getD,h2]
  rw[this]
 ·rw[List.pairwise_iff_getElem]
  intro i j hi hj hij
  rw[length_map] at hi hj;rw[List.getElem_map,List.getElem_map]
  have m:∀k (hk:k<p.toList.length),p.toList[k]<xs.length:=λk hk=>by
   have:=hpl.mem_iff.mp (getElem_mem hk)
   simpa using this
  rw[<- hk _ (m i hi),<- hk _ (m j hj)];have q:=hu.mono i j (by lia) (by lia)
  have e:∀k (hk:k<p.toList.length),p.getD k 0=p.toList[k]:=λk hk=>by
   have hk':k<p.size:=by simpa using hk
   simp[Array.getD,hk']
  rw[ky,ky,e i hi,e j hj] at q;exact q
end
end L2
namespace L2
open PySem PySem.Spec PyProof.Rows
def bE (x:Int):List Int->List Int
 | []=>[x]
 | y::r=>if x<y then x::y::r else if x=y then y::r else y::bE x r
def y9 (ns:List Int):List Int:=ns.foldr bE []
theorem dY (x k:Int):∀l:List Int,k∈bE x l↔k=x\/k∈l
 | []=>by simp[bE]
 | y::r=>by
  unfold bE
  split
  ·simp
  ·split
   ·rename_i h;subst h;simp
   ·rw[mem_cons,dY x k r,mem_cons]
    constructor
    ·rintro(h|h|h)
     ·exact .inr (.inl h)
     ·exact .inl h
     ·exact .inr (.inr h)
    ·rintro(h|h|h)
     ·exact .inr (.inl h)
     ·exact .inl h
     ·exact .inr (.inr h)
theorem fB (x:Int):∀l:List Int,l.Pairwise (· < ·)->(bE x l).Pairwise (· < ·)
 | [],_=>by simp[bE]
 | y::r,h=>by
  rw[pairwise_cons] at h;unfold bE
  split
  ·rename_i hlt
   rw[pairwise_cons,pairwise_cons];refine⟨λa ha=>?_,h⟩
   rcases mem_cons.mp ha with rfl|ha
   ·exact hlt
   ·exact Int.lt_trans hlt (h.1 a ha)
  ·split
   ·rw[pairwise_cons];exact h
   ·rename_i h1 h2
    rw[pairwise_cons];refine⟨λa ha=>?_,fB x r h.2⟩
    rcases(dY x a r).mp ha with rfl|ha
    ·lia
    ·exact h.1 a ha
theorem D0 (k:Int):∀ns:List Int,k∈y9 ns↔k∈ns
 | []=>Iff.rfl
 | x::r=>by
  show k∈bE x (y9 r)↔_
  rw[dY,D0 k r,mem_cons]
theorem D8:∀ns:List Int,(y9 ns).Pairwise (· < ·)
 | []=>List.Pairwise.nil
 | x::r=>fB x _ (D8 r)
def A7 {l:List Int}(h:l.Pairwise (· < ·)):l.Nodup:=h.imp λ{a b} q e=>by rw[e] at q;exact Int.lt_irrefl _ q
theorem E6:∀(l1 l2:List Int),l1.Nodup->(∀x∈l1,x∈l2)->l2.length<=l1.length->l1.Perm l2
 | [],l2,_,_,h=>by
  have:l2=[]:=eq_nil_of_length_eq_zero (by simpa using h)
  subst this;exact List.Perm.refl _
 | a::r,l2,hn,hs,hl=>by
  rw[List.nodup_cons] at hn;have ha:=hs a mem_cons_self;have p:=List.perm_cons_erase ha;refine((E6 r (l2.erase a) hn.2 (λx hx=>?_) ?_).cons a).trans p.symm
  ·have hne:x≠a:=λe=>hn.1 (e▸hx)
   exact(List.mem_erase_of_ne hne).mpr (hs x (mem_cons_of_mem _ hx))
  ·have:=p.length_eq
   rw[length_cons] at this hl;lia
theorem lf:∀{l1 l2:List Int},l1.Pairwise (· < ·)->l2.Pairwise (· < ·)->(∀k,k∈l1↔k∈l2)->l1=l2
 | [],[],_,_,_=>rfl
 | [],b::r,_,_,h=>absurd ((h b).mpr mem_cons_self) (by simp)
 | a::r,[],_,_,h=>absurd ((h a).mp mem_cons_self) (by simp)
 | a::r,b::t,h1,h2,h=>by
  rw[pairwise_cons] at h1 h2
  have e:a=b:=by
   rcases mem_cons.mp ((h a).mp mem_cons_self) with q|q
   ·exact q
   ·rcases mem_cons.mp ((h b).mpr mem_cons_self) with q' | q'
    ·exact q'.symm
    ·have z1:=h2.1 a q
     have z2:=h1.1 b q';lia
  subst e
  have:r=t:=lf h1.2 h2.2 λk=>by
   have q:=h k;rw[mem_cons,mem_cons] at q
   constructor
   ·intro hk
    rcases q.mp (.inr hk) with e|z
    ·have:=h1.1 k hk;lia
    ·exact z
   ·intro hk
    rcases q.mpr (.inr hk) with e|z
    ·have:=h2.1 k hk;lia
    ·exact z
  rw[this]
def qK {ns' ns:List Int}(hp:ns'.Pairwise (·<=·))(hm:∀k,k∈ns'↔k∈ns)(hl:ns'.length=(y9 ns).length):ns'=y9 ns:=by
 have pm:=E6 (y9 ns) ns' (A7 (D8 ns)) (λx hx=>(hm x).mpr ((D0 x ns).mp hx)) (Nat.le_of_eq hl);have nd:ns'.Nodup:=pm.nodup_iff.mp (A7 (D8 ns));refine lf ((hp.and nd).imp λ{a b} q=>?_) (D8 ns) λk=>by rw[hm,D0]
 have:=q.1
 have:=q.2
 lia
def U0 (ns:List Int)(k:Int):(firstMet (λi=>ns.getD i 0) ns.length).any (· == k)=decide (k∈ns):=by
 rw[firstMet_any]
 have e:(List.range ns.length).map (λi=>ns.getD i 0)=ns:=by
  apply ext_getElem
  ·simp
  ·intro i h1 h2
   simp[List.getD,h2]
 rw[e,Bool.eq_iff_iff,any_eq_true,decide_eq_true_iff]
 constructor
 ·rintro⟨x,hx,q⟩
  rw[<- eq_of_beq q];exact hx
 ·intro h
  exact⟨k,h,beq_self_eq_true k⟩
theorem W1 (val:Nat->Int):∀i,(firstMet val i).Nodup
 | 0=>nodup_nil
 | i+1=>by
  rw[firstMet_succ];unfold step_dedup;have ih:=W1 val i
  by_cases h:(firstMet val i).any (· == val i)=true
  ·rw[if_pos h];exact ih
  ·rw[if_neg h,nodup_append]
   refine⟨ih,by simp,λa ha b hb e=>h ?_⟩
   rw[mem_singleton] at hb;rw[any_eq_true];exact⟨a,ha,by rw[e,hb];exact beq_self_eq_true _⟩
def aU (ns:List Int):(firstMet (λi=>ns.getD i 0) ns.length).length=(y9 ns).length:=by
 have m:∀k,k∈firstMet (λi=>ns.getD i 0) ns.length↔k∈ns:=λk=>by
  have:=U0 ns k
  rw[Bool.eq_iff_iff,any_eq_true,decide_eq_true_iff] at this;rw[<- this];exact⟨λh=>⟨k,h,beq_self_eq_true k⟩,λ⟨x,hx,q⟩=>by rw[<- eq_of_beq q];exact hx⟩
 have n1:=W1 (λi=>ns.getD i 0) ns.length;have n2:=A7 (D8 ns)
 rcases Nat.le_total (firstMet (λi=>ns.getD i 0) ns.length).length (y9 ns).length with h | h
 ·exact(E6 (y9 ns) _ n2 (λx hx=>(m x).mpr ((D0 x ns).mp hx)) h).length_eq.symm
 ·exact(E6 _ (y9 ns) n1 (λx hx=>(D0 x ns).mpr ((m x).mp hx)) h).length_eq
theorem Z9 (ns:List Int):(y9 ns).length<=ns.length:=by
 induction ns with
 | nil=>exact Nat.le_refl _
 | cons x r ih =>
  have:∀l:List Int,(bE x l).length<=l.length+1:=by
   intro l
   induction l with
   | nil=>simp[bE]
   | cons y t ih =>
    unfold bE;split<;>try split
    all_goals simp only[length_cons]
    all_goals lia
  have q:=this (y9 r)
  show(bE x (y9 r)).length<=_
  rw[length_cons];lia
section
variable {X:Cx}
def kc (X:Cx)(l:Addr)(ns:List Int):HO:=.ext λh=>O2 (intKind X.prog X.w) h l (λk=>decide (k∈ns)) (y9 ns).length
def eU (hc:X.calm=true):A3 X (.type "set") (λxs H Q=>∃(p:Addr)(ns:List Int),xs=[.ref p]/\SqL X.K H p (ns.map V.int)/\ns.length<4000/\∀l,H l=none->Q (.ref l) (upd H l (kc X l ns))):=by
 intro pins s σ H xs us Q I r h
 obtain⟨p,ns,rfl,hq,hlt,q⟩:=h;obtain⟨u,rfl,rx⟩:=M3 r
 cases rx
 obtain⟨its,r',pl,hz⟩:=I.list hq;have hi:IntsAre its ns:=F6 r';have hlen:its.length=ns.length:=hi.length;refine kY (I.ok.hd hc) pl.isList (ns:=ns) (by simpa using hi) (by show its.toArray.size+1<4096;rw[size_toArray];lia) λh' tk x kp=>?_
 have x':O2 (intKind X.prog X.w) h' s.heap.objs.size (λk=>decide (k∈ns)) (y9 ns).length:=x.congr (λk=>by
  rw[size_toArray,hlen];exact U0 ns k) (by rw[size_toArray,hlen];exact aU ns)
 have he:∃o,h'.get? s.heap.objs.size=some o:=let ⟨o,_,_,_,e,_⟩:=x';⟨o,e⟩;exact⟨.ref s.heap.objs.size,_,I.laid (t':=tk) (o:=kc X s.heap.objs.size ns) (λb o e=>kp b o (Heap.lt_size e) e) (Nat.le_refl _) ⟨x',he,λh1 h2 y k=>y.of_get k⟩,rfl,q _ (I.hok.fresh (Nat.le_refl _))⟩
def nS {pins:List (Addr×Obj)}{σ:St}{H:Hp}{s:Shared}{p:Addr}{ns:List Int}(I:Inv X pins σ H s)(e:H p=some (kc X p ns)):O2 (intKind X.prog X.w) s.heap p (λk=>decide (k∈ns)) (y9 ns).length :=
 (show r9 X.prog X.w H s.heap p (kc X p ns) from I.hok p _ e).1
def cx (hc:X.calm=true):A3 X (.builtin "sorted") (λxs H Q=>∃(p:Addr)(ns:List Int),xs=[.ref p]/\H p=some (kc X p ns)/\ns.length<64/\∀l,H l=none->Q (.ref l) (upd H l (.lst ((y9 ns).map V.int)))):=by
 intro pins s σ H xs us Q I r h
 obtain⟨p,ns,rfl,he,hlt,q⟩:=h;obtain⟨u,rfl,rx⟩:=M3 r
 cases rx
 have hl:=Z9 ns;refine ly (I.ok.hd hc) (nS I he) (by lia) λl h' d tk e out ns' a1 a2 a3 a4 hlz kp g=>?_
 have e2:ns'=y9 ns:=qK a2 (λk=>by rw[a3,decide_eq_true_iff]) a4
 subst e2;have fr:=I.hok.fresh hlz;have new:r9 X.prog X.w (upd H l (.lst ((y9 ns).map V.int))) h' l (.lst ((y9 ns).map V.int)):=⟨by rw[length_map];exact Nat.le_of_lt (k8 (by lia)),out.toList,e,S9 a1,by simpa [seqObj] using g⟩
 exact⟨.ref l,_,I.call' (s':={ s with heap:=h',drawn:=d,toks:=tk }) (ch:=[]) rfl (Un.track (Un.kept kp) hlz fr) (HOk.track (I.hok.kept kp) fr new) I.bare (λb z=>nomatch z),rfl,q l fr⟩
def call_len_set:A3 X (.builtin "len") (λxs H Q=>∃(p:Addr)(ns:List Int),xs=[.ref p]/\H p=some (kc X p ns)/\Q (.int (y9 ns).length) H):=by
 intro pins s σ H xs us Q I r h
 obtain⟨p,ns,rfl,he,q⟩:=h;obtain⟨u,rfl,rx⟩:=M3 r
 cases rx
 obtain⟨o,es,ep,t,ho,hx,hd,⟨el,mem,hb,hf,hn⟩,J⟩:=nS I he;refine PySem.call_len_set ho hx hd hf (by have h4:es.size<4096:=hb;lia) ?_
 rw[hn];exact⟨.int (y9 ns).length,H,I.tok _,⟨_,rfl⟩,q⟩
end
def EqV (X:Cx)(H:Hp)(n:Nat)(x y:V)(b:Bool):Prop :=
 ∀(A:Around)(pins:List (Addr×Obj))(s:Shared)(σ:St)(u v:Value),Inv X pins σ H s->u7 x u->u7 y v->A.units+n<cLine->SeqAt.EqAt A s u v b
structure aP (X:Cx){δ:Type} [DecidableEq δ] (n:Nat) (R:Hp->V->δ->Prop):Prop where
 eq:∀H x y dx dy,R H x dx->R H y dy->EqV X H n x y (decide (dx=dy))
 fn:∀pins s σ H x d d',Inv X pins σ H s->R H x d->R H x d'->d=d'
section
variable {X:Cx}
variable {δ:Type} [DecidableEq δ] {n:Nat} {R:Hp->V->δ->Prop}
def xF (K:Frag)(R:Hp->V->δ->Prop):Hp->V->List δ->Prop:=λH x ds=>∃a xs,x=.ref a/\SqT K H a xs/\Paired (R H) xs ds
def kF (K:Frag)(R:Hp->V->δ->Prop):Hp->V->List δ->Prop:=λH x ds=>∃a xs,x=.ref a/\SqL K H a xs/\Paired (R H) xs ds
theorem j9 {α β:Type}{Rl:α->β->Prop}:∀{xs:List α}{ds:List β},Paired Rl xs ds->∀(i:Nat)(x:α),xs[i]? = some x->∃d,ds[i]? = some d/\Rl x d
 | _,_,.nil,i,x,h=>by simp at h
 | _,_,.cons r t,0,x,h=>by simp at h;subst h;exact⟨_,rfl,r⟩
 | _,_,.cons r t,i+1,x,h=>by
  obtain⟨d,e,q⟩:=j9 t i x (by simpa using h)
  exact⟨d,by simpa using e,q⟩
def ig (ds ds':List δ)(h:ds.length=ds'.length):((List.range ds.length).all λj=>decide (ds[j]? = ds'[j]?))=decide (ds=ds'):=by
 rw[Bool.eq_iff_iff,all_eq_true,decide_eq_true_iff]
 constructor
 ·intro q
  apply ext_getElem?
  intro i
  by_cases hi:i<ds.length
  ·exact of_decide_eq_true (q i (by simpa using hi))
  ·rw[List.getElem?_eq_none (by lia),List.getElem?_eq_none (by lia)]
 ·rintro rfl i hi
  simp
def eC (ep:aP X n R){H:Hp}{A:Around}{pins:List (Addr×Obj)}{s:Shared}{σ:St}(I:Inv X pins σ H s){xs ys:List V}{ds ds':List δ}{us vs:List Value}(hx:Paired (R H) xs ds)(hy:Paired (R H) ys ds')(ru:o9 xs us)(rv:o9 ys vs)
  (hu:A.units+n<cLine):∀j (h1:j<us.toArray.size) (h2:j<vs.toArray.size),SeqAt.EqAt A s us.toArray[j] vs.toArray[j] (decide (ds[j]? = ds'[j]?)):=λj h1 h2=>by
 have l1:=ru.length;have l2:=rv.length;rw[size_toArray] at h1 h2;have e1:xs[j]? = some (xs[j]'(by lia)):=List.getElem?_eq_getElem _
 have e2:ys[j]? = some (ys[j]'(by lia)):=List.getElem?_eq_getElem _
 obtain⟨d,q1,r1⟩:=j9 hx j _ e1;obtain⟨d',q2,r2⟩:=j9 hy j _ e2;obtain⟨u,w1,s1⟩:=ru.get e1;obtain⟨v,w2,s2⟩:=rv.get e2;have z1:us.toArray[j]=u:=by rw[List.getElem?_eq_getElem h1] at w1;simpa using w1
 have z2:vs.toArray[j]=v:=by rw[List.getElem?_eq_getElem h2] at w2;simpa using w2
 rw[z1,z2,q1,q2]
 have:decide (some d=some d')=decide (d=d'):=by rw[Bool.eq_iff_iff];simp
 rw[this];exact ep.eq H _ _ _ _ r1 r2 A pins s σ u v I s1 s2 hu
theorem bD (ep:aP X n R){H:Hp}{pins:List (Addr×Obj)}{s:Shared}{σ:St}(I:Inv X pins σ H s):∀{xs:List V}{ds ds':List δ},Paired (R H) xs ds->Paired (R H) xs ds'->ds=ds'
 | _,_,_,.nil,.nil=>rfl
 | _,_,_,.cons r t,.cons r' t'=>by rw[ep.fn pins s σ H _ _ _ I r r',bD ep I t t']
def mf (ep:aP X n R):aP X (n+1) (xF X.K R) where
 eq:=λH x y dx dy hx hy A pins s σ u v I ru rv hu=>by
  obtain⟨a,xs,rfl,ha,px⟩:=hx;obtain⟨b,ys,rfl,hb,py⟩:=hy
  cases ru
  cases rv
  by_cases hab:a=b
  ·subst hab
   have:=I.tuple_inj ha hb
   subst this;rw[bD ep I px py,decide_eq_true rfl];exact SeqAt.EqAt.same _
  ·obtain⟨us,r1,p1,_⟩:=I.tuple ha
   obtain⟨vs,r2,p2,_⟩:=I.tuple hb;have l1:=r1.length;have l2:=r2.length;have l3:=Paired.length px;have l4:=Paired.length py
   have:=SeqAt.RcAt.tuples (A:=A) (e:=λj=>decide (dx[j]? = dy[j]?)) p1 p2 (by lia) (eC ep I px py r1 r2 (by show A.units+1+n<cLine;lia))
   refine SeqAt.EqAt.of_refs hab ?_
   have e:((List.range (min us.toArray.size vs.toArray.size)).all (λj=>decide (dx[j]? = dy[j]?))&&us.toArray.size==vs.toArray.size)=decide (dx=dy):=by
    rw[size_toArray,size_toArray]
    by_cases hl:dx.length=dy.length
    ·rw[show min us.length vs.length=dx.length by lia,ig dx dy hl,show(us.length==vs.length)=true by simp;lia,Bool.and_true]
    ·rw[show(us.length==vs.length)=false by simp;lia,Bool.and_false,decide_eq_false (λz=>hl (by rw[z]))]
   rw[<- e];exact this
 fn:=λpins s σ H x d d' I h h'=>by
  obtain⟨a,xs,rfl,ha,px⟩:=h;obtain⟨b,ys,e,hb,py⟩:=h'
  cases e
  have:=I.tuple_inj ha hb
  subst this;exact bD ep I px py
def wB (ep:aP X n R)(hu:X.A.units+1+n<cLine):OpR X (compareOp .Eq) (λx y H Q=>∃ds ds',kF X.K R H x ds/\kF X.K R H y ds'/\Q (.bl (decide (ds=ds'))) H):=by
 intro pins s σ H x y v u Q I rx ry h
 obtain⟨dx,dy,⟨a,xs,rfl,ha,px⟩,⟨b,ys,rfl,hb,py⟩,q⟩:=h
 cases rx
 cases ry
 obtain⟨us,r1,p1,_⟩:=I.list ha;obtain⟨vs,r2,p2,_⟩:=I.list hb;have l1:=r1.length;have l2:=r2.length;have l3:=Paired.length px;have l4:=Paired.length py
 by_cases hl:dx.length=dy.length
 ·refine SeqAt.RcAt.lists (e:=λj=>decide (dx[j]? = dy[j]?)) p1.isList p2.isList (by simp only[size_toArray];lia) (by lia) (eC ep I px py r1 r2 (by show X.A.units+1+n<cLine;lia)) X.prog X.w X.xe _ ?_
  rw[size_toArray,show us.length=dx.length by lia,ig dx dy hl]
  exact⟨.bl _,H,I,rfl,q⟩
 ·refine SeqAt.RcAt.lists_lengths p1.isList p2.isList (by simp only[size_toArray];simpa using (by lia:us.length≠vs.length)) (by lia) X.prog X.w X.xe _ ?_
  rw[decide_eq_false (λz=>hl (by rw[z]))] at q
  exact⟨.bl false,H,I,rfl,q⟩
def wG (ep:aP X n R)(hu:X.A.units+1+n<cLine):OpR X (compareOp .NotEq) (λx y H Q=>∃ds ds',kF X.K R H x ds/\kF X.K R H y ds'/\Q (.bl (!decide (ds=ds'))) H):=by
 intro pins s σ H x y v u Q I rx ry h
 obtain⟨dx,dy,⟨a,xs,rfl,ha,px⟩,⟨b,ys,rfl,hb,py⟩,q⟩:=h
 cases rx
 cases ry
 obtain⟨us,r1,p1,_⟩:=I.list ha;obtain⟨vs,r2,p2,_⟩:=I.list hb;have l1:=r1.length;have l2:=r2.length;have l3:=Paired.length px;have l4:=Paired.length py
 by_cases hl:dx.length=dy.length
 ·refine SeqAt.RcNeAt.lists (e:=λj=>decide (dx[j]? = dy[j]?)) p1.isList p2.isList (by simp only[size_toArray];lia) (by lia) (eC ep I px py r1 r2 (by show X.A.units+1+n<cLine;lia)) X.prog X.w X.xe _ ?_
  rw[size_toArray,show us.length=dx.length by lia,ig dx dy hl]
  exact⟨.bl _,H,I,rfl,q⟩
 ·refine SeqAt.RcNeAt.lists_lengths p1.isList p2.isList (by simp only[size_toArray];simpa using (by lia:us.length≠vs.length)) (by lia) X.prog X.w X.xe _ ?_
  rw[decide_eq_false (λz=>hl (by rw[z]))] at q
  exact⟨.bl true,H,I,rfl,q⟩
end
end L2
namespace L2
open PySem PySem.Spec PyProof.Rows PySem.W
def R7:List V->List V->Option Bool
 | [],[]=>some false
 | [],_::_=>some true
 | _::_,[]=>some false
 | .int a::r,.int b::r'=>if a=b then R7 r r' else some (decide (a<b))
 | .ref a::r,.ref b::r'=>if a=b then R7 r r' else none
 | _,_=>none
section
variable {prog:Program}{w:World}{A:Around}{E:Value->Shared->Prop}{s:Shared}
theorem uQ {a b:Int}{t u:Tok}{k:Bool}{Q:Bool->Shared->Prop}(h:Q (decide (a<b)) s):wpAny (model prog w) A (oneLt' k (.int a t) (.int b u)) Q E s:=by
 cases k with
 | true=>exact oneLt_int h
 | false=>exact kat_one _ _ (lt_int (show PySem.W.BoolBack Q (.bool (decide (a<b))) s from h))
theorem dN {b fin:Bool}{Q:Bool->Shared->Prop}:∀(xs ys:List V)(us vs:List Value)(i:Nat)(c:Bool),o9 xs us->o9 ys vs->R7 xs ys=some c->fin=decide (us.length<vs.length)->Q c s->KatLex prog w A b fin Q (us.zip vs) i s
 | [],[],_,_,i,c,.nil,.nil,h,hf,q=>by
  have e:c=false:=by simpa [R7] using h.symm
  subst e;refine kat_nil ?_;rw[hf];exact q
 | [],y::ys,_,_,i,c,.nil,.cons _ _,h,hf,q=>by
  have e:c=true:=by simpa [R7] using h.symm
  subst e;refine kat_nil ?_;rw[hf,decide_eq_true (by simp)];exact q
 | x::xs,[],_,_,i,c,.cons _ _,.nil,h,hf,q=>by
  have e:c=false:=by cases x<;>simpa [R7] using h.symm
  subst e;refine kat_nil ?_;rw[hf,decide_eq_false (by simp)];exact q
 | x::xs,y::ys,u::us,v::vs,i,c,.cons rx tx,.cons ry ty,h,hf,q=>by
  have hf':fin=decide (us.length<vs.length):=by
   rw[hf,length_cons,length_cons];rw[Bool.eq_iff_iff,decide_eq_true_iff,decide_eq_true_iff];lia
  rw[List.zip_cons_cons]
  cases x with
  | int m =>
   cases y with
   | int k =>
    obtain⟨t,rfl⟩:=rx;obtain⟨t',rfl⟩:=ry;refine kat_cons (wpAny_eqBool_int ?_)
    by_cases e:m=k
    ·rw[show(m==k)=true by simpa using e]
     have h':R7 xs ys=some c:=by simpa [R7,e] using h
     exact kat_yes (dN xs ys us vs (i+1) c tx ty h' hf' q)
    ·rw[show(m==k)=false by simpa using e]
     have h':decide (m<k)=c:=by simpa [R7,e] using h
     refine kat_no (uQ ?_);rw[h'];exact q
   | _=>simp[R7] at h
  | ref m =>
   cases y with
   | ref k =>
    cases rx
    cases ry
    by_cases e:m=k
    ·subst e
     have h':R7 xs ys=some c:=by simpa [R7] using h
     exact kat_cons (SeqAt.EqAt.same (.ref m) prog w _ _ (kat_yes (dN xs ys us vs (i+1) c tx ty h' hf' q)))
    ·simp[R7,e] at h
   | _=>simp[R7] at h
  | _=>cases y<;>simp[R7] at h
def gV {a:Addr}{vs:List Value}{n:Nat}{r:Nat->Int}{P:PySem.Fin->Shared->Prop}(ho:s.heap.get? a=some (seqObj "list" vs.toArray n))(h64:vs.length<64)
  (hk:∀(h':Heap),(∀b o,b≠a->s.heap.get? b=some o->h'.get? b=some o)->2<=vs.length->∀Q':SortKind->Shared->Prop,Q' (tuples' true) { s with heap:=h' }->wpAny (model prog w) A (keyKind' vs.toArray) Q' E { s with heap:=h' })
  (hc:∀(h':Heap),(∀b o,b≠a->s.heap.get? b=some o->h'.get? b=some o)->∀i j,i<vs.length->j<vs.length->∀C:Bool->Shared->Prop,C (decide (r i<r j)) { s with heap:=h' }->wpAny (model prog w) A (keyLt' (tuples' true) (vs.getD i Value.none) (vs.getD j Value.none)) C (λ_ _=>False) { s with heap:=h' })
  (h:∀p:Array Nat,p.Perm (List.range vs.length).toArray->Up r p vs.length->P (.done (.ret .none)) { s with heap:=sortedHeap s.heap a vs (p.toList.map λi=>vs.getD i Value.none).toArray }) :
  wpAny (model prog w) A (Builtin.«list.sort» ⟨[.ref a],[]⟩) P E s:=by
 have ha:a<s.heap.objs.size:=Heap.lt_size ho;rw[list_sort_plain];refine w_ (listItems_at ho rfl ?_);refine w_ (listUpdate_at ho rfl ?_ (by rw[size_toArray,sizeLine_eq];lia) (Nat.zero_le _))
 obtain⟨e1,ho1⟩:∃e1,(s.heap.update a (Obj.mapSeq λ_=>(#[]:Array Value))).get? a=some (seqObj "list" #[] e1):=⟨_,get?_update_seq ho λ_=>#[]⟩;refine w_ (seqEpoch_at ho1 rfl ?_);refine w_ (wpAny_newTuple ?_ (by show vs.length<=_;rw[sizeLine_eq];lia))
 refine w_ (wpAny_newList ?_ (Nat.zero_le _));refine wpAny_holding ?_
 have keep:∀b o,b≠a->s.heap.get? b=some o->(((s.heap.update a (Obj.mapSeq λ_=>(#[]:Array Value))).push (seqObj "tuple" vs.toArray 0)).push (seqObj "list" #[] 0)).get? b=some o:=λb o hb q =>
  Heap.get?_push_of_some _ (Heap.get?_push_of_some _ ((Heap.get?_update_other _ _ (Ne.symm hb)).trans q))
 have ho6:(((s.heap.update a (Obj.mapSeq λ_=>(#[]:Array Value))).push (seqObj "tuple" vs.toArray 0)).push (seqObj "list" #[] 0)).get? a=some (seqObj "list" #[] e1):=Heap.get?_push_of_some _ (Heap.get?_push_of_some _ ho1)
 show wpAny (model prog w) A _ P E { s with heap:=((s.heap.update a (Obj.mapSeq λ_=>(#[]:Array Value))).push (seqObj "tuple" vs.toArray 0)).push (seqObj "list" #[] 0) }
 dsimp only
 by_cases h2:vs.toArray.size<2
 ·rw[if_pos h2,if_pos h2]
  refine w_ (u_ ?_);rw[StateT.run_pure];refine w_ (u_ ?_)
  dsimp only
  refine w_ (seqEpoch_at ho6 rfl ?_)
  have eo:(arrOf (SortSt.mk' general' (vs.toArray.zip vs.toArray) #[] 7 none)).map (·.2)=(((List.range vs.length).toArray.toList).map λi=>vs.getD i Value.none).toArray:=by
   have e3:((List.range vs.length).toArray.toList.map λi=>vs.getD i Value.none)=vs:=by
    apply ext_getElem
    ·simp
    ·intro i q1 q2
     simp[List.getD,q2]
   rw[e3]
   show(vs.toArray.zip vs.toArray).map (·.2)=vs.toArray
   apply Array.ext
   ·simp
   ·intro i q1 q2
    simp
  refine w_ (listUpdate_at ho6 rfl ?_ (Nat.zero_le _) (by rw[eo,size_toArray,length_map];simp;rw[sizeLine_eq];lia))
  simp only[bne_self_eq_false,Bool.false_eq_true,if_false]
  refine u_ ?_;rw[eo];refine h (List.range vs.length).toArray (Array.Perm.refl _) λi hi hb=>?_;rw[size_toArray] at h2;lia
 ·rw[if_neg h2,if_neg h2]
  rw[size_toArray] at h2;refine w_ (hk _ keep (by lia) _ ?_)
  have run:=kat_run (E:=E) (κ:=tuples' true) (ks:=vs) (vs:=vs) (prog:=prog) (w:=w) (A:=A) (Q:=λst' s'=>s' = { s with heap:=((s.heap.update a (Obj.mapSeq λ_=>(#[]:Array Value))).push (seqObj "tuple" vs.toArray 0)).push (seqObj "list" #[] 0) }/\failedOf st'=none/\∃p:Array Nat,p.Perm (List.range vs.length).toArray/\Up r p vs.length/\arrOf st'=p.map (kas_item (vs.toArray.zip vs.toArray)))
   (G:=λp s'=>s' = { s with heap:=((s.heap.update a (Obj.mapSeq λ_=>(#[]:Array Value))).push (seqObj "tuple" vs.toArray 0)).push (seqObj "list" #[] 0) }/\p.Perm (List.range vs.length).toArray/\Up r p vs.length) rfl (by lia) h64 (λp st' s' a1 a2 a3 ⟨b1,b2,b3⟩=>⟨b1,a3,p,b2,b3,a2⟩)
   (vx (J:=λs'=>s' = { s with heap:=((s.heap.update a (Obj.mapSeq λ_=>(#[]:Array Value))).push (seqObj "tuple" vs.toArray 0)).push (seqObj "list" #[] 0) }) (lt:=ltR r) (n:=vs.length) (λi j C s' hi hj hJ q=>by
    subst hJ
    exact hc _ keep i j hi hj C (q _ rfl)) _ _ _ (qL (by lia)) rfl λs' hJ=>⟨hJ,tO (by lia)⟩)
  refine w_ (wpAny_mono run ?_ λ_ _ e=>e)
  rintro⟨⟨⟩,st'⟩ s' ⟨rfl,hf,p,pm,up,har⟩
  dsimp only
  have hout:=kat_snds (ks:=vs) (vs:=vs) rfl har;have hsz:(p.toList.map λi=>vs.getD i Value.none).toArray.size=vs.length:=by rw[size_toArray,length_map,Array.length_toList,pm.size_eq];simp
  rw[hout];refine w_ (seqEpoch_at ho6 rfl ?_);refine w_ (listUpdate_at ho6 rfl ?_ (Nat.zero_le _) (by rw[hsz,sizeLine_eq];lia))
  rw[hf]
  simp only[bne_self_eq_false,Bool.false_eq_true,if_false]
  exact u_ (h p pm up)
def pd {l:Addr}{vs:List Value}{r:Nat->Int}{Q:Value->Shared->Prop}(hl:s.heap.IsList l vs.toArray)(h64:vs.length<64)
  (hk:∀(A:Around)(E:Value->Shared->Prop)(h':Heap),(∀b o,s.heap.get? b=some o->h'.get? b=some o)->2<=vs.length->∀Q':SortKind->Shared->Prop,Q' (tuples' true) { s with heap:=h' }->wpAny (model prog w) A (keyKind' vs.toArray) Q' E { s with heap:=h' })
  (hc:∀(A:Around)(h':Heap),(∀b o,s.heap.get? b=some o->h'.get? b=some o)->∀i j,i<vs.length->j<vs.length->∀C:Bool->Shared->Prop,C (decide (r i<r j)) { s with heap:=h' }->wpAny (model prog w) A (keyLt' (tuples' true) (vs.getD i Value.none) (vs.getD j Value.none)) C (λ_ _=>False) { s with heap:=h' })
  (h:∀(p:Array Nat),p.Perm (List.range vs.length).toArray->Up r p vs.length->Q (.ref (s.heap.objs.size+1)) { s with heap:=sortedAll s.heap vs (p.toList.map λi=>vs.getD i Value.none).toArray }) :
  wpAny (model prog w) A (call (.builtin "sorted") [.ref l]) Q E s:=by
 refine Calls.call_function_entry kind_sorted plain_sorted entry_sorted (args_sorted1 _) ?_;unfold Builtin.«sorted»;refine w_ (m:=checkCount "sorted" 1 1 _) (u_ ?_);refine w_ (collect_list hl ?_ (by rw[sizeLine_eq];lia))
 refine w_ (wpAny_newList ?_ (by rw[sizeLine_eq];lia))
 have sz:((s.heap.push (seqObj "list" #[] 0)).update s.heap.objs.size (Obj.mapSeq (·++vs.toArray))).objs.size=s.heap.objs.size+1:=by rw[Heap.size_update,size_push']
 have hoL:(((s.heap.push (seqObj "list" #[] 0)).update s.heap.objs.size (Obj.mapSeq (·++vs.toArray))).push (seqObj "list" vs.toArray 0)).get? (s.heap.objs.size+1)=some (seqObj "list" vs.toArray 0):=by
  rw[<- sz];exact Heap.get?_push_size _ rfl
 have keep:∀b o,s.heap.get? b=some o->(((s.heap.push (seqObj "list" #[] 0)).update s.heap.objs.size (Obj.mapSeq (·++vs.toArray))).push (seqObj "list" vs.toArray 0)).get? b=some o:=λb o q =>
  Heap.get?_push_of_some _ ((Heap.get?_update_other _ _ (Nat.ne_of_gt (Heap.lt_size q))).trans (Heap.get?_push_of_some _ q))
 show wpAny _ _ _ _ _ { s with heap:=((s.heap.push (seqObj "list" #[] 0)).update s.heap.objs.size (Obj.mapSeq (·++vs.toArray))).push (seqObj "list" vs.toArray 0) }
 rw[sz]
 refine w_ (wpAny_holding (wpAny_call_entry slot_list_sort ⟨_,hoL,rfl⟩ entry_list_sort (gV (r:=r) (s:={ s with heap:=((s.heap.push (seqObj "list" #[] 0)).update s.heap.objs.size (Obj.mapSeq (·++vs.toArray))).push (seqObj "list" vs.toArray 0) }) hoL h64
  (λh' kp h2 Q' q=>hk _ _ h' (λb o e=>kp b o (Nat.ne_of_lt (Nat.lt_succ_of_lt (Heap.lt_size e))) (keep b o e)) h2 Q' q)
  (λh' kp i j hi hj C q=>hc _ h' (λb o e=>kp b o (Nat.ne_of_lt (Nat.lt_succ_of_lt (Heap.lt_size e))) (keep b o e)) i j hi hj C q) λp pm up=>⟨_,rfl,?_⟩) (args_list_sort _)))
 exact u_ ⟨_,rfl,h p pm up⟩
end
section
variable {X:Cx}
def bK (K:Frag)(H:Hp)(as:List Addr)(its:List (List V)):Prop:=Paired (λa xs=>SqT K H a xs/\∃i r,xs=V.int i::r) as its
def jh {K:Frag}{H:Hp}{as:List Addr}{its:List (List V)}(h:bK K H as its):∀(i:Nat),i<as.length->∃a xs,as[i]? = some a/\its[i]? = some xs/\SqT K H a xs/\∃j r,xs=V.int j::r:=λi hi=>by
 have e:as[i]? = some as[i]:=List.getElem?_eq_getElem hi;obtain⟨d,e2,q⟩:=j9 h i _ e;exact⟨_,d,e,e2,q.1,q.2⟩
def bI:A3 X (.builtin "sorted") (λxs H Q=>∃(p:Addr)(as:List Addr)(its:List (List V))(r:Nat->Int),xs=[.ref p]/\SqL X.K H p (as.map V.ref)/\bK X.K H as its/\as.length<64 /\
  (∀i j x y,its[i]? = some x->its[j]? = some y->R7 x y=some (decide (r i<r j)))/\∀q:Array Nat,q.Perm (List.range as.length).toArray->Up r q as.length->∀l,H l=none->Q (.ref l) (upd H l (.lst ((q.toList.map λi=>as.getD i 0).map V.ref)))):=by
 intro pins s σ H xs us Q I r0 h
 obtain⟨p,as,its,r,rfl,hq,ht,h64,hcmp,q⟩:=h;obtain⟨u,rfl,rx⟩:=M3 r0
 cases rx
 obtain⟨vs,r',pl,hz⟩:=I.list hq
 have evs:vs=as.map Value.ref:=by
  have go:∀(as:List Addr)(vs:List Value),o9 (as.map V.ref) vs->vs=as.map Value.ref:=by
   intro as
   induction as with
   | nil=>intro vs r;cases r;rfl
   | cons a t ih =>
    intro vs r
    rw[map_cons] at r
    cases r with
    | cons r1 r2=>rw[show _=Value.ref a from r1,ih _ r2];rfl
  exact go as vs r'
 subst evs;have hl:(as.map Value.ref).length=as.length:=length_map _
 have hget:∀i a,as[i]? = some a->(as.map Value.ref).getD i Value.none=.ref a:=λi a e=>by
  rw[List.getD,List.getElem?_map,e];rfl
 have tl:=Paired.length ht;refine pd (r:=r) pl.isList (by rw[hl];exact h64) (λA E h' kp h2 Q' q'=>?_) (λA h' kp i j hi hj C q'=>?_) λpq pm up=>?_
 ·-- the kind
  have I':Inv X pins σ H { s with heap:=h' }:=I.kept (t':=s.toks) kp
  have go:∀(as:List Addr)(its:List (List V)),bK X.K H as its->∃fs:List Value,KatTups h' (as.map Value.ref) fs/\(∀v∈fs,∃i t,v=.int i t)/\fs.length=as.length:=by
   intro as its hT
   unfold bK at hT
   induction hT with
   | nil=>exact⟨[],trivial,λv hv=>absurd hv (by simp),rfl⟩
   | @cons a xs as its hx t ih =>
    obtain⟨fs,k1,k2,k3⟩:=ih;obtain⟨hS,i,r,rfl⟩:=hx;obtain⟨us,ru,pu,_⟩:=I'.tuple hS
    cases ru with
    | @cons _ u _ us r1 r2 =>
     obtain⟨tk,rfl⟩:=r1;obtain⟨o,e1,e2,n,e3⟩:=pu;refine⟨.int i tk::fs,KatTups.cons e1 e2 e3 (by simp) k1,λv hv=>?_,by rw[length_cons,length_cons,k3]⟩
     rcases mem_cons.mp hv with rfl|hv
     ·exact⟨i,tk,rfl⟩
     ·exact k2 v hv
  obtain⟨fs,k1,k2,k3⟩:=go as its ht;refine kat_kind (T:=.type "int") k1 (by rw[hl] at h2;lia) (λv hv=>?_) (by decide) q'
  obtain⟨i,tk,rfl⟩:=k2 v hv;exact .now
 ·-- a comparison
  have I':Inv X pins σ H { s with heap:=h' }:=I.kept (t':=s.toks) kp
  rw[hl] at hi hj;obtain⟨a,x,ea,ex,hS,_⟩:=jh ht i hi;obtain⟨b,y,eb,ey,hS',_⟩:=jh ht j hj;rw[hget i a ea,hget j b eb];obtain⟨us,ru,⟨o,e1,e2,n,e3⟩,_⟩:=I'.tuple hS;obtain⟨us',ru',⟨o',e1',e2',n',e3'⟩,_⟩:=I'.tuple hS';refine kat_lt e1 e3 e1' e3' ?_;exact dN x y us us' 0 _ (by simpa using ru) (by simpa using ru') (hcmp i j x y ex ey) (by simp) q'
 ·have sz:(pq.toList.map λi=>(as.map Value.ref).getD i Value.none)=(pq.toList.map λi=>as.getD i 0).map Value.ref:=by
   rw[List.map_map]
   apply map_congr_left
   intro i hi
   have hi':i<as.length:=by
    have:=(Array.Perm.mem_iff pm (a:=i)).mp (by simpa using hi)
    rw[hl] at this
    simpa using this
   show _=Value.ref (as.getD i 0)
   rw[hget i as[i] (List.getElem?_eq_getElem hi')]
   simp[List.getD,hi']
  rw[sz];rw[hl] at pm up;obtain⟨e,he⟩:=sortedAll_at s.heap (as.map Value.ref) ((pq.toList.map λi=>as.getD i 0).map Value.ref).toArray
  have vr:∀bs:List Addr,o9 (bs.map V.ref) (bs.map Value.ref):=λbs=>by
   induction bs with
   | nil=>exact .nil
   | cons b t ih=>exact .cons rfl ih
  have hlen:((pq.toList.map λi=>as.getD i 0).map V.ref).length<=sizeLine:=by
   rw[length_map,length_map,Array.length_toList,pm.size_eq];exact Nat.le_of_lt (k8 (by simp;lia))
  exact⟨.ref (s.heap.objs.size+1),_,I.laid (t':=s.toks) (o:=.lst ((pq.toList.map λi=>as.getD i 0).map V.ref)) (λb o e=>sortedAll_old e) (Nat.le_succ _) ⟨hlen,_,e,vr _,by simpa [seqObj] using he⟩,rfl,q pq pm up _ (I.hok.fresh (Nat.le_succ _))⟩
end
end L2
namespace L2
open PySem PySem.Spec PyProof.Rows
section
variable {X:Cx}{x y z w:Str}{i j k l n:Nat}{px py pz pw pt:Pos}
structure Nm (X:Cx)(i:Nat)(x:Str):Prop where
 at_:X.N[i]? = some x
 loc:Loc X.env.scope x
 fn:X.fn x=true\/X.env.scope.names.lookup x=some .local
theorem Nm.pg (h:Nm X i x)(nd:X.N.Nodup):PG X (.Name x px) (W7 i):=m5 nd h.at_ h.loc h.fn
def pg2 (hc:X.calm=true)(nd:X.N.Nodup)(a:Nm X i x)(b:Nm X j y):PG X (.Tuple [.Name x px,.Name y py] n pt) (wT X.K 2 (kT (W7 i) (kT (W7 j) ww))) :=
 wC (X:=X) (n:=2) hc (kM (X:=X) (a.pg nd) (kM (X:=X) (b.pg nd) ud))
end
section
variable {es:List Expr}{env:Env}{c:Const}{i:Nat}{p:Pos}
def l8:starEach (.Constant c i p::es) env=(false,eval (.Constant c i p) env)::starEach es env:=by rw[starEach];intro a b h;cases h
def a9 {x:Str}:starEach (.Name x p::es) env=(false,eval (.Name x p) env)::starEach es env:=by rw[starEach];intro a b h;cases h
def o8 {f:Expr}{as:List Expr}{ks:List Keyword}:starEach (.Call f as ks p::es) env=(false,eval (.Call f as ks p) env)::starEach es env:=by rw[starEach];intro a b h;cases h
def O5 {a b:Expr}{o:Operator}:starEach (.BinOp a o b p::es) env=(false,eval (.BinOp a o b p) env)::starEach es env:=by rw[starEach];intro a b h;cases h
def jR {a:Expr}{o:UnaryOp}:starEach (.UnaryOp o a p::es) env=(false,eval (.UnaryOp o a p) env)::starEach es env:=by rw[starEach];intro a b h;cases h
def vN {a:Expr}{o:List CmpOp}{b:List Expr}:starEach (.Compare a o b p::es) env=(false,eval (.Compare a o b p) env)::starEach es env:=by rw[starEach];intro a b h;cases h
def m9 {a b:Expr}:starEach (.Subscript a b p::es) env=(false,eval (.Subscript a b p) env)::starEach es env:=by rw[starEach];intro a b h;cases h
def Q0 {a:List Expr}:starEach (.Tuple a i p::es) env=(false,eval (.Tuple a i p) env)::starEach es env:=by rw[starEach];intro a b h;cases h
def J4 {a:List Expr}:starEach (.List a p::es) env=(false,eval (.List a p) env)::starEach es env:=by rw[starEach];intro a b h;cases h
def R4 {a:Expr}{g:List Comprehension}{s:Scope}:starEach (.ListComp a g s p::es) env=(false,eval (.ListComp a g s p) env)::starEach es env:=by rw[starEach];intro a b h;cases h
def cG {a:Expr}{x:Str}:starEach (.Attribute a x p::es) env=(false,eval (.Attribute a x p) env)::starEach es env:=by rw[starEach];intro a b h;cases h
end
section
variable {X:Cx}
def q9 (K:Frag)(h:X.K=K:=by rfl):IxR X (wf K):=h▸nQ
def i4 (K:Frag)(h:X.K=K:=by rfl):IxR X (xh K):=h▸sH
def S5 (K:Frag)(h:X.K=K:=by rfl):SlR X (xV K):=h▸vo
def gZ (K:Frag)(h:X.K=K:=by rfl):OpR X (compareOp .In) (rIn K false):=h▸pJ
def fk (K:Frag)(h:X.K=K:=by rfl):OpR X (compareOp .NotIn) (rIn K true):=h▸gv
def uR (K:Frag):List V->Hp->VK->Prop:=λxs H Q=>∃p ys,xs=[.ref p]/\(SqL K H p ys\/SqT K H p ys)/\Q (.int ys.length) H
def u6 (K:Frag)(h:X.K=K:=by rfl):A3 X (.builtin "len") (uR K):=h▸ip
def uP (K:Frag):List V->Hp->VK->Prop:=λxs H Q=>∃p ys,xs=[.ref p]/\(SqL K H p ys\/SqT K H p ys)/\∀l,H l=none->Q (.ref l) (upd H l (.lst ys))
def aH (K:Frag)(h:X.K=K:=by rfl):A3 X (.type "list") (uP K):=h▸iV
def su (K:Frag):List V->Hp->VK->Prop:=λxs H Q=>∃p ys,xs=[.ref p]/\((SqL K H p ys/\∀l,H l=none->Q (.ref l) (upd H l (.tup ys)))\/(SqT K H p ys/\Q (.ref p) H))
def O3 (K:Frag)(h:X.K=K:=by rfl):A3 X (.type "tuple") (su K):=h▸eP
def ui (K:Frag):List V->Hp->VK->Prop:=λxs H Q=>∃v T t b,xs=[v,.ty T]/\N7 K H v t/\kitOne K t (.type T)=some b/\Q (.bl b) H
def y8 (K:Frag)(h:X.K=K:=by rfl):A3 X (.builtin "isinstance") (ui K):=h▸jQ
def xz (K:Frag):List V->Hp->VK->Prop:=λxs H Q=>∃(p:Addr)(bs:List Bool),xs=[.ref p]/\SqL K H p (bs.map V.bl)/\Q (.bl (bs.all id)) H
def bM (K:Frag)(hc:X.calm=true)(h:X.K=K:=by rfl):A3 X (.builtin "all") (xz K):=h▸dk hc
def xI (K:Frag):List V->Hp->VK->Prop:=λxs H Q=>∃(p:Addr)(bs:List Bool),xs=[.ref p]/\SqL K H p (bs.map V.bl)/\Q (.bl (bs.any id)) H
def qH (K:Frag)(hc:X.calm=true)(h:X.K=K:=by rfl):A3 X (.builtin "any") (xI K):=h▸dS hc
def rO (K:Frag):List V->Hp->VK->Prop:=λxs H Q=>∃(p:Addr)(ns:List Int),xs=[.ref p]/\SqL K H p (ns.map V.int)/\ns.length<64/\∀ns':List Int,ns'.Perm ns->ns'.Pairwise (·<=·)->∀l,H l=none->Q (.ref l) (upd H l (.lst (ns'.map V.int)))
def aS (K:Frag)(h:X.K=K:=by rfl):A3 X (.builtin "sorted") (rO K):=h▸bv
def qh (P:Program)(w:World)(l:Addr)(ns:List Int):HO:=.ext λh=>O2 (intKind P w) h l (λk=>decide (k∈ns)) (y9 ns).length
def vG (K:Frag)(P:Program)(w:World):List V->Hp->VK->Prop:=λxs H Q=>∃(p:Addr)(ns:List Int),xs=[.ref p]/\SqL K H p (ns.map V.int)/\ns.length<4000/\∀l,H l=none->Q (.ref l) (upd H l (qh P w l ns))
def Z2 (K:Frag)(P:Program)(w:World)(hc:X.calm=true)(h:X.K=K:=by rfl)(hP:X.prog=P:=by rfl)(hw:X.w=w:=by rfl):A3 X (.type "set") (vG K P w):=by
 subst h hP hw;exact eU hc
def ke (P:Program)(w:World):List V->Hp->VK->Prop:=λxs H Q=>∃(p:Addr)(ns:List Int),xs=[.ref p]/\H p=some (qh P w p ns)/\ns.length<64/\∀l,H l=none->Q (.ref l) (upd H l (.lst ((y9 ns).map V.int)))
def ah (P:Program)(w:World)(hc:X.calm=true)(hP:X.prog=P:=by rfl)(hw:X.w=w:=by rfl):A3 X (.builtin "sorted") (ke P w):=by
 subst hP hw;exact cx hc
def xo (P:Program)(w:World):List V->Hp->VK->Prop:=λxs H Q=>∃(p:Addr)(ns:List Int),xs=[.ref p]/\H p=some (qh P w p ns)/\Q (.int (y9 ns).length) H
def ap (P:Program)(w:World)(hP:X.prog=P:=by rfl)(hw:X.w=w:=by rfl):A3 X (.builtin "len") (xo P w):=by
 subst hP hw;exact call_len_set
def jO (K:Frag):List V->Hp->VK->Prop:=λxs H Q=>∃(p:Addr)(as:List Addr)(its:List (List V))(r:Nat->Int),xs=[.ref p]/\SqL K H p (as.map V.ref)/\bK K H as its/\as.length<64 /\
  (∀i j x y,its[i]? = some x->its[j]? = some y->R7 x y=some (decide (r i<r j)))/\∀q:Array Nat,q.Perm (List.range as.length).toArray->Up r q as.length->∀l,H l=none->Q (.ref l) (upd H l (.lst ((q.toList.map λi=>as.getD i 0).map V.ref)))
def R9 (K:Frag)(h:X.K=K:=by rfl):A3 X (.builtin "sorted") (jO K):=h▸bI
def yk (K:Frag):R2:=λx y H Q=>∃(a b:Addr)(ns ms:List Int),x=.ref a/\y=.ref b/\SqL K H a (ns.map V.int)/\SqL K H b (ms.map V.int)/\Q (.bl (decide (ns=ms))) H
def tU (K:Frag)(hu:X.A.units<cLine)(h:X.K=K:=by rfl):OpR X (compareOp .Eq) (yk K):=h▸tW hu
section
variable {δ:Type} [DecidableEq δ] {n:Nat} {R:Hp->V->δ->Prop}
def yi (K:Frag)(R:Hp->V->δ->Prop):R2:=λx y H Q=>∃ds ds',kF K R H x ds/\kF K R H y ds'/\Q (.bl (!decide (ds=ds'))) H
def yq (K:Frag)(R:Hp->V->δ->Prop):R2:=λx y H Q=>∃ds ds',kF K R H x ds/\kF K R H y ds'/\Q (.bl (decide (ds=ds'))) H
def uv (K:Frag)(ep:aP X n R)(hu:X.A.units+1+n<cLine)(h:X.K=K:=by rfl):OpR X (compareOp .NotEq) (yi K R):=h▸wG ep hu
def ue (K:Frag)(ep:aP X n R)(hu:X.A.units+1+n<cLine)(h:X.K=K:=by rfl):OpR X (compareOp .Eq) (yq K R):=h▸wB ep hu
end
def yy (K:Frag)(ta:TE):TT:=λσ H Q=>ta σ H λx H'=>∃k,wJ K x H' k/\Q k H'
def w9 (K:Frag){a:Expr}{ta:TE}(ha:PE X a ta)(he:∀whole,isTrue a X.env whole=(do let v <- whole;standAt a.pos;holding [v] (truthy v)))(h:X.K=K:=by rfl):PT X a (yy K ta):=h▸rA ha he
def o6 (K:Frag){tg l:Expr}{tl:TE}(hl:PE X l tl)(h:X.K=K:=by rfl):PI X tg l (vC K tl):=h▸uK hl
def cD (K:Frag){tg l:Expr}{tl:TE}(hl:PE X l tl)(h:X.K=K:=by rfl):PI X tg l (xu K tl):=h▸wz hl
def um (b:Bool)(K:Frag){es:List Expr}{kk:Nat}{tpos:Pos}{e1 e2:Expr}{ta:TA}{p pos:Pos}(hg:Gl X "zip")(hm:X.mg "zip" = none)(ha:PA X [e1,e2] ta)(h:X.K=K:=by rfl)(hs:starEach [e1,e2] X.env=[(false,eval e1 X.env),(false,eval e2 X.env)]:=by rfl)(hs2:starEach [e2] X.env=[(false,eval e2 X.env)]:=by rfl) :
  PI X (.Tuple es kk tpos) (.Call (.Name "zip" p) [e1,e2] [] pos) (xK b K ta):=h▸wV hg hm ha hs hs2
variable {x y z w:Str}{i j k l n:Nat}{px py pz pw pt:Pos}
def yA (K:Frag)(hc:X.calm=true)(nd:X.N.Nodup)(a:Nm X i x)(b:Nm X j y)(h:X.K=K:=by rfl):PG X (.Tuple [.Name x px,.Name y py] n pt) (wT K 2 (kT (W7 i) (kT (W7 j) ww))):=h▸pg2 hc nd a b
end
section
variable {X:Cx}{o e:Expr}{es:List Expr}{to:TE}{t:TA}{name:Str}{apos cpos:Pos}{T id:String}{r:V->List V->Hp->VK->Prop}
def K4 (K:Frag)(pa:PlainAttrs T)(slot:Slot T name id)(hty:typeOf (.builtin id)=pure (.type "method_descriptor"))(hm:MtR X id r)(ho:PE X o to)(ha:PA X (e::es) t)(h:X.K=K:=by rfl)
  (hbase:attributeBase o name X.env (eval o X.env)=eval o X.env:=by rfl)
  (hfew:((backTo cpos (starEach (e::es) X.env)).all (λx=>!x.1)&&(backToKw cpos (keywordEach [] X.env)).all (λx=>x.1.isSome)
  &&decide ((e::es).length+([]:List Keyword).length+(if ([]:List Keyword).isEmpty then 0 else 1)<30))=true:=by rfl)
  (hline:(apos.endLine==cpos.line)=true:=by rfl) (hs:starEach (e::es) X.env=(false,eval e X.env)::starEach es X.env:=by rfl) (hplain:(backTo cpos (starEach es X.env)).any (·.1)=false:=by rfl) :
  PE X (.Call (.Attribute o name apos) (e::es) [] cpos) (tBM K T r to t):=h▸xC pa slot hty hm ho ha hbase hfew hline hs hplain
end
end L2
namespace HT
open PySem PySem.Spec PyProof.Rows
section
variable {prog:Program}{w:World}{A:Around}{E:Value->Shared->Prop}{s:Shared}
def getItem_tuple_whole {t sl:Addr}{items:Array Value}{vl vu:Value}{lo hi:Option Int}{Q:Value->Shared->Prop}(ht:IsTup s.heap t items)(hs:s.heap.IsSliceOf sl vl vu .none)(pl:IsPart vl lo)(pu:IsPart vu hi)
  (hw:sIx items.size 0 lo=0/\sIx items.size items.size hi=items.size)(h:Q (.ref t) s):wpAny (model prog w) A (getItem (.ref t) (.ref sl)) Q E s:=by
 obtain⟨os,hos,hcs,hds⟩:=id hs;have hTs:s.TypeIs (.ref sl) "slice":=⟨os,hos,hcs⟩;unfold getItem
 try with_reducible refine wpAny_holding ?_
 first|refine w_ (u_ ?_)|skip
 refine w_ (wpAny_sequenceKey ht.typeIs (by decide) ?_)
 refine w_ (wpAny_callSpecial?_slot (name:=Str.ofString "__getitem__") ht.typeIs PyProof.Rows.slot_tuple_getitem
  (wpAny_call_entry PyProof.Rows.slot_tuple_getitem ht.typeIs entry_tuple_getitem ?_ (args_tuple_getitem _ _)))
 show wpAny _ _ (Builtin.Tuple.tupleItemsOf (.ref t) >>= _) _ _ s
 refine w_ (tupleItemsOf_ ht ?_);refine w_ (wpAny_typeOf hTs ?_);rw[if_pos (by decide)]
 refine w_ (S8 hs pl pu ?_)
 have hyes:((((sIx items.size 0 lo:Nat):Int)==0&&(1:Int)==1&&(sIx items.size items.size hi-sIx items.size 0 lo)==items.size)=true):=by
  rw[hw.1,hw.2,Nat.sub_zero]
  simp
 show wpAny _ _ (if (((sIx items.size 0 lo:Nat):Int)==0&&(1:Int)==1&&(sIx items.size items.size hi-sIx items.size 0 lo)==items.size)=true then _ else _) _ _ s
 rw[if_pos hyes];have hT:=ht.typeIs;unfold Builtin.Tuple.tupleIsExact;refine w_ (w_ (wpAny_typeOf hT (u_ ?_)));rw[if_pos (by decide)]
 first
  | exact w_ (wpAny_rule (u_ ⟨_,rfl,u_ h⟩))
  | exact u_ ⟨_,rfl,u_ h⟩
  | exact w_ (u_ (u_ ⟨_,rfl,u_ h⟩))
end
end HT
namespace L2
open PySem PySem.Spec PyProof.Rows
section
variable {X:Cx}
def yp:V->Option Int->Option Int->Hp->VK->Prop:=λx lo hi H Q=>∃a xs,x=.ref a/\H a=some (.tup xs)/\∀(p:Addr)(H':Hp),i9 H H'->H' p=some (.tup (S7 xs lo hi))->Q (.ref p) H'
def tV:SlR X yp:=by
 intro pins s σ H x v vl vu lo hi sl Q I rx hs pl pu h
 obtain⟨a,xs,rfl,hx,q⟩:=h
 by_cases hw:HT.sIx xs.length 0 lo=0/\HT.sIx xs.length xs.length hi=xs.length
 ·cases rx
  obtain⟨its,r,ht,hz⟩:=I.tuple (SqT.of hx);have hlen:its.toArray.size=xs.length:=by rw[size_toArray];exact r.length.symm
  refine⟨"tuple",_,PyProof.Rows.slot_tuple_getitem.lookup,ht.typeIs,?_⟩;refine HT.getItem_tuple_whole ht hs pl pu (by rw[hlen];exact hw) ⟨.ref a,H,I,rfl,q _ _ (i9.refl H) ?_⟩
  rw[hx];unfold S7;rw[hw.1,hw.2,Nat.sub_zero,drop_zero,take_length]
 ·exact wR pins s σ H _ v vl vu lo hi sl Q I rx hs pl pu ⟨a,xs,rfl,SqT.of hx,hw,λp hp=>q _ _ (λb u q=>by rw[j2 (n9 q hp)];exact q) c6⟩
end
def sL (K:Frag)(H:Hp)(as:List Addr)(ds:List (List Int)):Prop:=Paired (λa d=>SqT K H a (d.map V.int)) as ds
theorem A4 {α β:Type}{R R':α->β->Prop}:∀{as:List α}{ds:List β},Paired R as ds->(∀a b,b∈ds->R a b->R' a b)->Paired R' as ds
 | _,_,.nil,_=>.nil
 | _,_,.cons h t,hi=>.cons (hi _ _ (mem_cons_self ..) h) (A4 t λa b hb=>hi a b (mem_cons_of_mem _ hb))
theorem B5.units2 {k:Nat}{A:Around}(r:B5 k A):A.units+1+(0+1)<cLine:=by have:=r.un;lia
def B7 {X:Cx}:MtR X "list.append" nY:=qI
def lK {X:Cx}:MtR X "list.extend" nU:=pV
def wW:Hp->V->Key->Prop:=λ_ x k=>x=kV k
section
variable {X:Cx}
def mv:aP X 0 wW where
 eq:=λH x y dx dy hx hy A pins s σ u v I ru rv hu=>by
  subst hx hy
  rcases dx with i|i<;>rcases dy with j|j
  ·obtain⟨t,rfl⟩:=ru
   obtain⟨t',rfl⟩:=rv
   have:=SeqAt.EqAt.int_int (A:=A) (s:=s) i t j t'
   rw[show decide ((Sum.inl i:Key)=Sum.inl j)=(i==j) by rw[Bool.eq_iff_iff];simp]
   exact this
  ·obtain⟨t,rfl⟩:=ru
   obtain⟨t',rfl⟩:=rv
   have:=SeqAt.EqAt.int_str (A:=A) (s:=s) i t j t'
   rw[decide_eq_false (λz=>nomatch z)];exact this
  ·obtain⟨t,rfl⟩:=ru
   obtain⟨t',rfl⟩:=rv
   have:=SeqAt.EqAt.str_int (A:=A) (s:=s) i t j t'
   rw[decide_eq_false (λz=>nomatch z)];exact this
  ·obtain⟨t,rfl⟩:=ru
   obtain⟨t',rfl⟩:=rv
   have:=SeqAt.EqAt.str_str (A:=A) (s:=s) i t j t'
   rw[show decide ((Sum.inr i:Key)=Sum.inr j)=(i==j) by rw[Bool.eq_iff_iff];simp]
   exact this
 fn:=λ_ _ _ _ x d d' _ h h'=>by subst h;exact wO h'
def inD (ds:List (List Key))(d:List Key):Bool:=ds.any λx=>decide (x=d)
def cL {ds:List (List Key)}{d:List Key}:inD ds d=true↔d∈ds:=by
 unfold inD;rw[any_eq_true]
 constructor
 ·rintro⟨x,hx,h⟩
  rw[<- of_decide_eq_true h];exact hx
 ·intro h
  exact⟨d,h,decide_eq_true rfl⟩
def xj (K:Frag)(neg:Bool):R2:=λx y H Q=>∃(p b:Addr)(as:List Addr)(d:List Key)(ds:List (List Key)),x=.ref b/\y=.ref p/\SqL K H p (as.map V.ref)/\SqT K H b (d.map kV)/\Paired (λa d=>SqT K H a (d.map kV)) as ds/\Q (.bl (if neg then !inD ds d else inD ds d)) H
theorem M4 {H:Hp}:∀d:List Key,Paired (wW H) (d.map kV) d
 | []=>.nil
 | _::t=>.cons rfl (M4 t)
def oh {pins:List (Addr×Obj)}{σ:St}{H:Hp}{s:Shared}{b:Addr}{as:List Addr}{d:List Key}{ds:List (List Key)}{A:Around}(I:Inv X pins σ H s)(hb:SqT X.K H b (d.map kV))(hp:Paired (λa d=>SqT X.K H a (d.map kV)) as ds)
  (hu:A.units+1<cLine){its:List Value}(r:o9 (as.map V.ref) its) :
  ∃e:Value->Bool,(∀y,y∈its.toArray->SeqAt.EqAt A s y (.ref b) (e y))/\its.toArray.any e=inD ds d:=by
 have ep:=mf (X:=X) mv;have rd:∀(j:Nat) a,as[j]? = some a->∃d',ds[j]? = some d'/\SqT X.K H a (d'.map kV):=λj a h=>j9 hp j a h
 have evs:its=as.map Value.ref:=by
  have go:∀(as:List Addr)(vs:List Value),o9 (as.map V.ref) vs->vs=as.map Value.ref:=by
   intro as
   induction as with
   | nil=>intro vs r;cases r;rfl
   | cons a t ih =>
    intro vs r
    rw[map_cons] at r
    cases r with
    | cons r1 r2=>rw[show _=Value.ref a from r1,ih _ r2];rfl
  exact go as its r
 subst evs
 let e:Value->Bool:=λy=>match y with
  | .ref a=>(List.range as.length).any λj=>decide (as[j]? = some a)&&decide (ds[j]? = some d)
  | _=>false
 have eR:∀a,e (.ref a)=true↔∃j:Nat,as[j]? = some a/\ds[j]? = some d:=λa=>by
  show((List.range as.length).any λj=>decide (as[j]? = some a)&&decide (ds[j]? = some d))=true↔_
  rw[any_eq_true]
  constructor
  ·rintro⟨j,_,h⟩
   rw[Bool.and_eq_true] at h;exact⟨j,of_decide_eq_true h.1,of_decide_eq_true h.2⟩
  ·rintro⟨j,h1,h2⟩
   exact⟨j,List.mem_range.mpr (List.getElem?_eq_some_iff.mp h1).1,by rw[Bool.and_eq_true];exact⟨decide_eq_true h1,decide_eq_true h2⟩⟩
 have key:∀(j:Nat) a d',as[j]? = some a->ds[j]? = some d'->e (.ref a)=decide (d'=d):=λj a d' h1 h2=>by
  rw[Bool.eq_iff_iff,eR,decide_eq_true_iff]
  constructor
  ·rintro⟨k,g1,g2⟩
   obtain⟨d1,q1,s1⟩:=rd j a h1;obtain⟨d2,q2,s2⟩:=rd k a g1;rw[h2] at q1;rw[g2] at q2
   cases q1
   cases q2
   exact ep.fn pins s σ H (.ref a) _ _ I ⟨a,_,rfl,s1,M4 _⟩ ⟨a,_,rfl,s2,M4 _⟩
  ·rintro rfl
   exact⟨j,h1,h2⟩
 refine⟨e,λy hy=>?_,?_⟩
 ·have hy':y∈as.map Value.ref:=by simpa using hy
  obtain⟨a,ha,rfl⟩:=mem_map.mp hy';obtain⟨j,hj⟩:=List.getElem?_of_mem ha;obtain⟨d',q1,s1⟩:=rd j a hj;rw[key j a d' hj q1];exact ep.eq H (.ref a) (.ref b) d' d ⟨a,_,rfl,s1,M4 _⟩ ⟨b,_,rfl,hb,M4 _⟩ A pins s σ (.ref a) (.ref b) I rfl rfl (by lia)
 ·rw[Bool.eq_iff_iff,cL,Array.any_eq_true']
  constructor
  ·rintro⟨y,hy,h⟩
   have hy':y∈as.map Value.ref:=by simpa using hy
   obtain⟨a,ha,rfl⟩:=mem_map.mp hy';obtain⟨j,_,h2⟩:=(eR a).mp h;exact List.mem_of_getElem? h2
  ·intro h
   obtain⟨j,hj⟩:=List.getElem?_of_mem h;have hl:as.length=ds.length:=Paired.length hp;have hj':=(List.getElem?_eq_some_iff.mp hj).1;have ea:as[j]? = some (as[j]'(by lia)):=List.getElem?_eq_getElem (by lia)
   exact⟨.ref (as[j]'(by lia)),by simp,(eR _).mpr ⟨j,ea,hj⟩⟩
def tY (K:Frag)(hu:X.A.units+2<cLine)(h:X.K=K:=by rfl):OpR X (compareOp .In) (xj K false):=by
 subst h
 intro pins s σ H x y v u Q I rx ry h
 obtain⟨p,b,as,d,ds,rfl,rfl,hq,hb,hp,q⟩:=h
 cases rx
 cases ry
 obtain⟨its,r,pl,hz⟩:=I.list hq;obtain⟨e,h1,h2⟩:=oh (A:=X.A.in1) I hb hp (by show X.A.units+1+1<cLine;lia) r
 refine SeqAt.in_listAt e pl.isList h1 ⟨.bl _,H,I,rfl,?_⟩;rw[h2];exact q
def cR (K:Frag)(hu:X.A.units+2<cLine)(h:X.K=K:=by rfl):OpR X (compareOp .NotIn) (xj K true):=by
 subst h
 intro pins s σ H x y v u Q I rx ry h
 obtain⟨p,b,as,d,ds,rfl,rfl,hq,hb,hp,q⟩:=h
 cases rx
 cases ry
 obtain⟨its,r,pl,hz⟩:=I.list hq;obtain⟨e,h1,h2⟩:=oh (A:=X.A.in1) I hb hp (by show X.A.units+1+1<cLine;lia) r
 refine SeqAt.notIn_listAt e pl.isList h1 ⟨.bl _,H,I,rfl,?_⟩;rw[h2];exact q
theorem B5.unitsT {k:Nat}{A:Around}(r:B5 k A):A.units+2<cLine:=by have:=r.un;lia
end
section
variable {X:Cx}
def rm:PIp X .BitOr (rI0 λi j=>.int (Builtin.bitOr i j)):=wm
def fV (K:Frag)(h:X.K=K:=by rfl):wx X (λx y H Q=>∃p xs i z,x=.ref p/\y=.int i/\SqL K H p xs/\0<=i/\xs[i.toNat]? = some z/\Q z H):=by
 subst h
 intro pins s σ H x y v u Q I rx ry h
 obtain⟨p,xs,i,z,rfl,rfl,hq,h0,he,q⟩:=h
 cases rx
 obtain⟨t,rfl⟩:=ry;obtain⟨its,r,pl,hz⟩:=I.list hq;obtain⟨w,ew,rw'⟩:=r.get he;have hl:=r.length;have hi:=(List.getElem?_eq_some_iff.mp he).1;have hn:=X2;exact wpAny_getItem_list pl.isList h0 (by lia) (by simpa using ew) ⟨z,H,I,rw',q⟩
end
section
variable {X:Cx}
def xM (i j:Int):Prop:=0<j/\j<18446744073709551616
def rH:OpR X (binaryOp .FloorDiv) (rI xM λi j=>.int (i/j)):=opI λi j _ _ _ _ _ hc q=>by
 have h1:(0:Int)<j:=hc.1;have h2:j<18446744073709551616:=hc.2;refine floordiv_int (by lia) (by rw[Int.fdiv_eq_ediv_of_nonneg i (by lia)];exact q) (.inl (PyProof.noPylong_of_log2 ?_))
 have h3:j.natAbs<2^64:=by lia
 have h4:j.natAbs≠0:=by lia
 have:=(Nat.log2_lt h4).mpr h3
 lia
variable {δ:Type} [DecidableEq δ] {n:Nat} {R:Hp->V->δ->Prop}
end
structure cA (K:Frag)(mg:Str->Option Value)(x:Str)(st:Stmt)(ps:List Str)(dvs:List V):Prop where
 ex:∃(f:Addr)(fd:FuncData),(∃(oc:Value)(od:Option Addr)(dV kV doc pm:Value)(an:Option Addr)(cdv ct:Value)(osl:Array (Option Value)),
   fd=fnOf x x (C4 st) (z9 st) (i3 st) dV kV doc pm an cdv ct/\K.lookup f=some ⟨oc,od,.func fd,osl⟩/\codeIn K cdv x=true)/\keepIn K (.ref f)=true /\
  (∀m,m<=dvs.length->∃ds,o9 (dvs.drop m) ds/\V6 K fd ps ds)/\mg x=some (.ref f)
structure U8 (P:Program)(w:World)(K:Frag)(mg:Str->Option Value)(base:Heap)(k:Nat)(x:Str)(ps:List Str)(dvs:List V)(sp:Sp):Prop where
 ex:∃(f:Addr)(fd:FuncData),aL P w K mg base CX0 k f fd ps sp/\(∀m,m<=dvs.length->∃ds,o9 (dvs.drop m) ds/\V6 K fd ps ds)/\keepIn K (.ref f)=true/\mg x=some (.ref f)
section
variable {P:Program}{w:World}{K:Frag}{mg:Str->Option Value}{base:Heap}
theorem cA.ok {x:Str}{st:Stmt}{N ps:List Str}{k:Nat}{dvs:List V}{sp:Sp}(D:cA K mg x st ps dvs)(S:FnScope N ps (i3 st))(len:∀vs H Q E,sp vs H Q E->vs.length=ps.length)
  (hbody:∀(f:Addr)(cdv:Value)(A:Around)(outer:List Env)(s:Shared)(H:Hp)(vs:List V)(Q:VK)(E:XK),B5 k (A.deeper (envOfC x (i3 st) s.heap.objs.size f cdv))->sp vs H Q E ->
   ∃t,PSs (P1 CX0 P w K mg base N x (i3 st) f cdv A outer s H E).nox (z9 st) t/\t { nx:=λ_ H'=>Q .non H',rt:=Q } (start N vs) H):U8 P w K mg base (k+1) x ps dvs sp:=by
 obtain⟨f,fd,⟨oc,od,dV,kV,doc,pm,an,cdv,ct,osl,rfl,lk,hcd⟩,kp,b,m⟩:=D.ex;refine⟨f,_,kN lk hcd S len λA outer s H vs Q E hr hsp=>?_,b,kp,m⟩;obtain⟨t,h,q⟩:=hbody f cdv A outer s H vs Q E hr hsp;exact⟨t,h.nox,q⟩
theorem U8.all {x:Str}{ps:List Str}{k:Nat}{dvs:List V}{sp:Sp}(C:U8 P w K mg base k x ps dvs sp):i6 P w K mg base k x ps sp:=by
 obtain⟨f,fd,F,b,kp,m⟩:=C.ex;obtain⟨ds,hv,hb⟩:=b dvs.length (Nat.le_refl _);rw[List.drop_length] at hv
 cases hv
 exact⟨f,fd,F,hb,kp,m⟩
end
section
variable {X:Cx}
def wu (K:Frag):R2:=λx y H Q=>∃(a b:Addr)(xs:List V),x=.ref a/\y=.ref b/\SqL K H a xs/\SqL K H b []/\Q (.bl (!decide (xs=[]))) H
theorem bJ (K:Frag)(hu:X.A.units<cLine)(h:X.K=K:=by rfl):OpR X (compareOp .NotEq) (wu K):=by
 subst h
 intro pins s σ H x y v u Q I rx ry h
 obtain⟨a,b,xs,rfl,rfl,ha,hb,q⟩:=h
 cases rx
 cases ry
 obtain⟨us,r1,p1,_⟩:=I.list ha;obtain⟨vs,r2,p2,_⟩:=I.list hb
 cases r2
 have l1:=r1.length
 cases xs with
 | nil =>
  cases r1
  refine SeqAt.RcNeAt.lists (e:=λj=>true) p1.isList p2.isList rfl (by lia) (λj h1 h2=>absurd h1 (by simp)) X.prog X.w X.xe _ ?_
  exact⟨.bl false,H,I,rfl,q⟩
 | cons x t =>
  refine SeqAt.RcNeAt.lists_lengths p1.isList p2.isList (by simp only[size_toArray];rw[<- l1];simp) (by lia) X.prog X.w X.xe _ ?_
  exact⟨.bl true,H,I,rfl,q⟩
def wZ (K:Frag):R2:=λx y H Q=>∃(a b:Addr)(xs:List V),x=.ref a/\y=.ref b/\SqL K H a xs/\SqL K H b []/\Q (.bl (decide (xs=[]))) H
theorem gf (K:Frag)(hu:X.A.units<cLine)(h:X.K=K:=by rfl):OpR X (compareOp .Eq) (wZ K):=by
 subst h
 intro pins s σ H x y v u Q I rx ry h
 obtain⟨a,b,xs,rfl,rfl,ha,hb,q⟩:=h
 cases rx
 cases ry
 obtain⟨us,r1,p1,_⟩:=I.list ha;obtain⟨vs,r2,p2,_⟩:=I.list hb
 cases r2
 have l1:=r1.length
 cases xs with
 | nil =>
  cases r1
  refine SeqAt.RcAt.lists (e:=λj=>true) p1.isList p2.isList rfl (by lia) (λj h1 h2=>absurd h1 (by simp)) X.prog X.w X.xe _ ?_
  exact⟨.bl true,H,I,rfl,q⟩
 | cons x t =>
  refine SeqAt.RcAt.lists_lengths p1.isList p2.isList (by simp only[size_toArray];rw[<- l1];simp) (by lia) X.prog X.w X.xe _ ?_
  exact⟨.bl false,H,I,rfl,q⟩
end
def ux {A u:TS}{D:aI}{σ:St}{H:Hp}(S:St->Hp->Prop)(h1:∀R:St->Hp->Prop,(∀σ' H',S σ' H'->R σ' H')->A { D with nx:=R } σ H)(h2:∀σ' H',S σ' H'->u D σ' H'):xp A u D σ H:=h1 (u D) h2
end L2
namespace L2
open PySem PyProof.Rows
def W5 (kf:Nat->Int)(j:Nat):Option Nat->Prop
 | none=>j=0
 | some i=>i<j/\∀j',j'<j->kf i<=kf j'/\(j'<i->kf i<kf j')
def vU (vs:List Value)(kf:Nat->Int)(xs:Array Value):Option Nat->Prop
 | none=>xs=#[]
 | some i=>∃v t,vs[i]? = some v/\xs=#[v,.int (kf i) t]
def pG {kf:Nat->Int}{j i:Nat}(b:W5 kf j (some i))(h:kf j<kf i):W5 kf (j+1) (some j):=by
 refine⟨Nat.lt_succ_self _,λj' hj'=>?_⟩
 by_cases e:j'=j
 ·subst e
  exact⟨Int.le_refl _,λz=>absurd z (Nat.lt_irrefl _)⟩
 ·have:=(b.2 j' (by lia)).1
  exact⟨by lia,λ_=>by lia⟩
def pE {kf:Nat->Int}{j i:Nat}(b:W5 kf j (some i))(h:¬kf j<kf i):W5 kf (j+1) (some i):=by
 refine⟨Nat.lt_succ_of_lt b.1,λj' hj'=>?_⟩
 by_cases e:j'=j
 ·subst e
  have:=b.1
  exact⟨by lia,λz=>by lia⟩
 ·exact b.2 j' (by lia)
def mC {kf:Nat->Int}:W5 kf 1 (some 0):=⟨Nat.one_pos,λj' hj'=>by
 have e:j'=0:=by lia
 subst e
 exact⟨Int.le_refl _,λz=>absurd z (Nat.lt_irrefl _)⟩⟩
section
variable {prog:Program}{w:World}{A:Around}{E:Value->Shared->Prop}{s:Shared}{R:Result->Shared->Prop}
abbrev kwD:List (Str×Value):=[(Str.ofString "default",.none)]
theorem qg {h0:Heap}{l I S:Addr}{vs:List Value}(kf:Nat->Int)(hh:A.handled=none)(hlI:l≠I)(hSI:S≠I)(fI:h0.get? I=none)(fS:h0.get? S=none)(hl:h0.IsList l vs.toArray)
  (hv:∀i v,vs[i]? = some v->∃(p:Addr)(its:Array Value),v=.ref p/\h0.IsList p its/\((its.size:Nat):Int)=kf i/\((its.size:Nat):Int)<2^63)
  (hR:∀(cur:Option Nat)(h':Heap)(tk:Nat),W5 kf vs.length cur->(∀b o,h0.get? b=some o->h'.get? b=some o)->R (.ok (.ret ((cur.bind λi=>vs[i]?).getD .none))) { s with heap:=h',toks:=tk }) :
  ∀(r j:Nat)(cur:Option Nat)(h:Heap)(tk c:Nat)(xs:Array Value),vs.length-j=r->j<=vs.length->(∀b o,h0.get? b=some o->h.get? b=some o)->h.get? S=some (seqObj "list" xs c)->vU vs kf xs cur->W5 kf j cur->h.IsListIter I l j ->
   codeAny (model prog w) A (.builtin "min.loop" ⟨[.ref I,.builtin "len",.ref S],kwD⟩) R { s with heap:=h,toks:=tk }:=by
 have nm:(toString "min"++toString ".loop":String) = "min.loop":=by decide
 have W:=Walks.list (prog:=prog) (w:=w) (A:=A.in1) hh I l hlI vs.toArray;have sz:vs.toArray.size=vs.length:=size_toArray ..
 intro r
 induction r with
 | zero =>
  intro j cur h tk c xs hr hj kp gS ka ba it
  obtain rfl:j=vs.length:=by lia
  refine codeAny_builtin PySem.F.entry_min_loop ?_;rw[Around.under_plainId PySem.F.plain_min_loop _]
  show wpAny _ A.in1 (seqItems? (.ref S) >>= _) _ _ _
  refine w_ (wpAny_seqItems gS rfl ?_)
  show wpAny _ A.in1 (tryCatch (pyNext (.ref I)) _ >>= _) _ _ _
  have hl1:h.IsList l vs.toArray:=hl.at λo e=>kp _ _ e;refine w_ (wpAny_tryCatch (W.done _ _ _ ⟨by rw[sz];exact it,hl1⟩ λh1 tk1 k1=>?_))
  have kp1:∀b o,h0.get? b=some o->h1.get? b=some o:=λb o e=>k1 b o (by
   rw[mem_singleton]
   rintro rfl
   rw[fI] at e
   cases e) (kp b o e)
  cases cur with
  | none =>
   cases (show xs=#[] from ka)
   show wpAny _ A.in1 (rule _ >>= λ_=>ret Value.none) _ _ _
   exact w_ (wpAny_rule (u_ (hR none h1 tk1 ba kp1)))
  | some i =>
   obtain⟨v,t,ev,rfl⟩:=ka;have gS1:h1.get? S=some (seqObj "list" #[v,.int (kf i) t] c):=k1 S _ (by rw[mem_singleton];exact hSI) gS
   show wpAny _ A.in1 (updateSeq S (λ_=>#[]) >>= _) _ _ _
   refine w_ (wpAny_updateSeq gS1 rfl (w_ (wpAny_letGo (u_ ?_))));have sb:=Heap.SameBut.update h1 S (Obj.mapSeq λ_=>(#[]:Array Value))
   have:=hR (some i) (h1.update S (Obj.mapSeq λ_=>(#[]:Array Value))) tk1 ba (λb o e=>by
    have:b≠S:=by
     rintro rfl
     rw[fS] at e
     cases e
    rw[sb.2 b this]
    exact kp1 b o e)
   rw[show((some i:Option Nat).bind λi=>vs[i]?).getD .none=v by rw[Option.bind_some,ev];rfl] at this
   exact this
 | succ r ih =>
  intro j cur h tk c xs hr hj kp gS ka ba it
  have hlt:j<vs.length:=by lia
  refine codeAny_builtin PySem.F.entry_min_loop ?_;rw[Around.under_plainId PySem.F.plain_min_loop _]
  show wpAny _ A.in1 (seqItems? (.ref S) >>= _) _ _ _
  refine w_ (wpAny_seqItems gS rfl ?_)
  show wpAny _ A.in1 (tryCatch (pyNext (.ref I)) _ >>= _) _ _ _
  have hl1:h.IsList l vs.toArray:=hl.at λo e=>kp _ _ e;refine w_ (wpAny_tryCatch (W.item j _ _ _ (by rw[sz];exact hlt) ⟨it,hl1⟩ λv h1 tk1 pv st1 k1=>?_))
  have ev:vs[j]? = some v:=by simpa using pv
  have kp1:∀b o,h0.get? b=some o->h1.get? b=some o:=λb o e=>k1 b o (by
   rw[mem_singleton]
   rintro rfl
   rw[fI] at e
   cases e) (kp b o e)
  have gS1:h1.get? S=some (seqObj "list" xs c):=k1 S _ (by rw[mem_singleton];exact hSI) gS
  obtain⟨p,its,rfl,lp,lk,l63⟩:=hv j v ev
  show wpAny _ A.in1 (tryCatch (holding [Value.ref p] (call (.builtin "len") [Value.ref p])) _ >>= _) _ _ _
  refine w_ (wpAny_tryCatch (wpAny_holding (Calls.call_len_list (lp.at λo e=>kp1 _ _ e) l63 ?_)));rw[lk]
  have frame:∀(ys:Array Value),(∀b o,h0.get? b=some o->(h1.update S (Obj.mapSeq λ_=>ys)).get? b=some o)/\(h1.update S (Obj.mapSeq λ_=>ys)).IsListIter I l (j+1):=λys=>by
   have sb:=Heap.SameBut.update h1 S (Obj.mapSeq λ_=>ys);refine⟨λb o e=>?_,?_⟩
   ·have:b≠S:=by
     rintro rfl
     rw[fS] at e
     cases e
    rw[sb.2 b this];exact kp1 b o e
   ·exact st1.1.at λo e=>by rw[sb.2 I (Ne.symm hSI)];exact e
  cases cur with
  | none =>
   cases (show xs=#[] from ka)
   obtain rfl:j=0:=ba
   show wpAny _ A.in1 (updateSeq S (λ_=>#[Value.ref p,.int (kf 0) (tk1+1)]) >>= _) _ _ _
   refine w_ (wpAny_updateSeq gS1 rfl ?_);rw[nm];exact u_ ⟨plainId_quiet PySem.F.plain_min_loop _,ih 1 (some 0) _ _ _ _ (by lia) (by lia) (frame _).1 (get?_update_seq gS1 _) ⟨_,_,ev,rfl⟩ mC (frame _).2⟩
  | some i =>
   obtain⟨vb,tb,evb,rfl⟩:=ka
   show wpAny _ A.in1 (tryCatch (holding [Value.ref p,.int (kf j) (tk1+1)] (richCompare .Lt (.int (kf j) (tk1+1)) (.int (kf i) tb) >>= _)) _ >>= _) _ _ _
   refine w_ (wpAny_tryCatch (wpAny_holding (w_ (CmpOf.ints_lt (prog:=prog) (w:=w) (A:=A.in1) (P:=λi v=>∃t,v=.int (kf i) t) kf (λi v z=>z) j i _ _ _ _ _ ⟨_,rfl⟩ ⟨_,rfl⟩ ?_))));refine w_ (wpAny_holding (wpAny_truthy_bool ?_));refine w_ (wpAny_letGo (u_ ?_))
   by_cases less:kf j<kf i
   ·simp only[less,decide_true,if_true]
    refine w_ (wpAny_updateSeq gS1 rfl (w_ (wpAny_letGo ?_)));rw[nm];exact u_ ⟨plainId_quiet PySem.F.plain_min_loop _,ih (j+1) (some j) _ _ _ _ (by lia) (by lia) (frame _).1 (get?_update_seq gS1 _) ⟨_,_,ev,rfl⟩ (pG ba less) (frame _).2⟩
   ·simp only[less,decide_false,Bool.false_eq_true,if_false]
    refine w_ (wpAny_letGo ?_);rw[nm];exact u_ ⟨plainId_quiet PySem.F.plain_min_loop _,ih (j+1) (some i) _ _ _ _ (by lia) (by lia) kp1 gS1 ⟨_,_,evb,rfl⟩ (pE ba less) st1.1⟩
def iZ (a v d:Value):argsOk "min" ⟨[a],[(Str.ofString "key",v),(Str.ofString "default",d)]⟩:=by unfold argsOk;kernel_rfl
def vm {l:Addr}{vs:List Value}{Q:Value->Shared->Prop}(kf:Nat->Int)(hh:A.handled=none)(hl:s.heap.IsList l vs.toArray)
  (hv:∀i v,vs[i]? = some v->∃(p:Addr)(its:Array Value),v=.ref p/\s.heap.IsList p its/\((its.size:Nat):Int)=kf i/\((its.size:Nat):Int)<2^63)
  (hQ:∀(cur:Option Nat)(h':Heap)(tk:Nat),W5 kf vs.length cur->(∀b o,s.heap.get? b=some o->h'.get? b=some o)->Q ((cur.bind λi=>vs[i]?).getD .none) { s with heap:=h',toks:=tk }) :
  wpAny (model prog w) A (call (.builtin "min") [.ref l] [(Str.ofString "key",.builtin "len"),(Str.ofString "default",.none)]) Q E s:=by
 have nm:(toString "min"++toString ".loop":String) = "min.loop":=by decide
 obtain⟨ol,gl,_⟩:=id hl;have ll:l<s.heap.objs.size:=Heap.lt_size gl;refine kmb_tree PySem.F.kind_min PySem.F.plain_min PySem.F.entry_min (iZ _ _ _) ?_
 show wpAny _ A.in1 (Builtin.Builtins.bindParams "min" ["key","default"] 0 ⟨[],[(Str.ofString "key",.builtin "len"),(Str.ofString "default",.none)]⟩ >>= _) _ _ s
 refine w_ (wpAny_of_eq (show Builtin.Builtins.bindParams "min" ["key","default"] 0 ⟨[],[(Str.ofString "key",.builtin "len"),(Str.ofString "default",.none)]⟩=pure [some (.builtin "len"),some .none] from rfl) ?_);refine w_ (u_ (w_ (wpAny_pyIter_list hl (w_ (wpAny_newList ?_ (Nat.zero_le _))))));rw[nm];have zS:(s.heap.push { cls:=.type "list_iterator",data:=.fields #[.ref l,.int 0 0] }).objs.size=s.heap.objs.size+1:=size_push' ..;refine u_ ⟨plainId_quiet PySem.F.plain_min_loop _,?_⟩;refine qg (s:=s) (h0:=s.heap) kf hh (Nat.ne_of_lt ll) (show(s.heap.push { cls:=.type "list_iterator",data:=.fields #[.ref l,.int 0 0] }).objs.size≠s.heap.objs.size from by rw[zS];exact Nat.succ_ne_self _) (Heap.get?_none_of_le (Nat.le_refl _)) (Heap.get?_none_of_le (by rw[zS];exact Nat.le_succ _)) hl hv hQ _ 0 none _ _ 0 #[] rfl (Nat.zero_le _) (λb o e=>Heap.get?_push_of_some _ (Heap.get?_push_of_some _ e)) (Heap.get?_push_size _ rfl) rfl rfl ⟨_,Heap.get?_push_of_some _ (Heap.get?_push_size _ rfl),rfl,rfl⟩
end
end L2
namespace L2
open PySem PySem.Spec PyProof.Rows
section
variable {X:Cx}{e:Expr}{t:TA}{p p1 p2 k1 k2 pos:Pos}{j:Nat}
def vv (K:Frag)(H:Hp):List Addr->List (List V)->Prop:=Paired λr row=>SqL K H r row
def V8 (rows:List (List V))(i:Nat):Int:=((rows.getD i []).length:Nat)
def xi (K:Frag)(t:TA):TE:=λσ H Q=>t σ H λvs H1=>∃(l:Addr)(rs:List Addr)(rows:List (List V)),vs=[.ref l]/\SqL K H1 l (rs.map V.ref)/\vv K H1 rs rows/\(rs=[]->Q .non H1) /\
 ∀(i:Nat)(r:Addr),rs[i]? = some r->(∀j,j<rs.length->V8 rows i<=V8 rows j/\(j<i->V8 rows i<V8 rows j))->Q (.ref r) H1
def qO (K:Frag)(hc:X.calm=true)(hg:Gl X "min")(hm:X.mg "min" = none)(hgl:Gl X "len")(hml:X.mg "len" = none)(ha:PA X [e] t)(hK:X.K=K:=by rfl)
  (he:starEach [e] X.env=(false,eval e X.env)::starEach [] X.env:=by rfl) (hall:(backToKw pos (keywordEach [⟨some "key",.Name "len" p1,k1⟩,⟨some "default",.Constant .none j p2,k2⟩] X.env)).all (·.1.isSome)=true:=by rfl)
  (hks:(backToKw pos (keywordEach [⟨some "key",.Name "len" p1,k1⟩,⟨some "default",.Constant .none j p2,k2⟩] X.env)).filterMap (·.1)=[Str.ofString "key",Str.ofString "default"]:=by rfl)
  (hkn:(backToKw pos (keywordEach [⟨some "key",.Name "len" p1,k1⟩,⟨some "default",.Constant .none j p2,k2⟩] X.env)).any (·.1.isNone)=false:=by rfl)
  (hpl:(backTo pos (starEach [e] X.env)).any (·.1)=false:=by rfl) :
  PE X (.Call (.Name "min" p) [e] [⟨some "key",.Name "len" p1,k1⟩,⟨some "default",.Constant .none j p2,k2⟩] pos) (xi K t):=by
 subst hK
 intro pins s σ H Q I h
 refine wpAny_Call_Name_kw (aD I hg hm boot_min ?_ (by decide) (by decide))
 refine callWith_builtin_kwB hpl hkn ?_;refine PyProof.Rows.evalArgs_kw2 hall (thn (ha pos pins s σ H _ I h) λus s1 ⟨vs,H1,I1,r1,q1⟩=>?_) he;refine kws_cons (aD I1 hgl hml PySem.boot_len (kws_cons (Constant_none (kws_nil ?_))));rw[hks];obtain⟨l,rs,rows,rfl,hl,hr,q0,qi⟩:=q1;obtain⟨u,rfl,rx⟩:=M3 r1
 cases rx
 obtain⟨its,rv,pl,hz⟩:=I1.list hl;have ln:=rv.length;rw[length_map] at ln
 have at1:∀i v,its[i]? = some v->∃r row,rs[i]? = some r/\rows[i]? = some row/\v=Value.ref r/\SqL X.K H1 r row:=λi v hv=>by
  have hi:=(List.getElem?_eq_some_iff.mp hv).1;have er:rs[i]? = some (rs[i]'(by lia)):=List.getElem?_eq_getElem _
  obtain⟨row,e1,e2⟩:=j9 hr i _ er;have em:(rs.map V.ref)[i]? = some (V.ref (rs[i]'(by lia))):=by rw[List.getElem?_map,er];rfl
  obtain⟨u,w1,w2⟩:=rv.get em;rw[hv] at w1
  cases w1
  exact⟨_,row,er,e1,w2,e2⟩
 show wpAny _ _ (call (.builtin "min") [.ref l] [(Str.ofString "key",.builtin "len"),(Str.ofString "default",.none)]) _ _ _
 refine vm (V8 rows) (I1.ok.hd hc) pl.isList (λi v hv=>?_) λcur h' tk ba kp=>?_
 ·obtain⟨r,row,e1,e2,rfl,hq⟩:=at1 i v hv
  obtain⟨ys,rv2,pl2,hz2⟩:=I1.list hq;have l2:=rv2.length;have hn:=X2;refine⟨r,ys.toArray,rfl,pl2.isList,?_,by rw[size_toArray];lia⟩
  unfold V8;rw[List.getD,e2,size_toArray,<- l2];rfl
 ·have I2:Inv X pins σ H1 { s1 with heap:=h',toks:=tk }:=I1.kept λb o e=>kp b o e
  cases cur with
  | none =>
   have z:its.length=0:=ba
   have:rs=[]:=List.length_eq_zero_iff.mp (by lia)
   exact⟨.non,H1,I2,rfl,q0 this⟩
  | some i =>
   have hi:i<its.length:=ba.1;obtain⟨r,row,e1,e2,e3,hq⟩:=at1 i _ (List.getElem?_eq_getElem hi)
   have:((some i:Option Nat).bind λi=>its[i]?).getD .none=Value.ref r:=by
    rw[Option.bind_some,List.getElem?_eq_getElem hi,e3];rfl
   rw[this];exact⟨.ref r,H1,I2,rfl,qi i r e1 λj hj=>ba.2 j (by lia)⟩
end
def ju {X:Cx}{e:Expr}:PE X e (λ_ _ _=>False):=λ_ _ _ _ _ _ h=>h.elim
structure FnQ (K:Frag)(x qual:Str)(st:Stmt)(f:Addr)(fd:FuncData):Prop where
 ex:∃(oc:Value)(od:Option Addr)(dV kV doc pm:Value)(an:Option Addr)(cdv ct:Value)(osl:Array (Option Value)),
  fd=fnOf x qual (C4 st) (z9 st) (i3 st) dV kV doc pm an cdv ct/\K.lookup f=some ⟨oc,od,.func fd,osl⟩/\codeIn K cdv qual=true
structure pR (K:Frag)(C:Addr)(m qual:Str)(st:Stmt)(ps:List Str)(dvs:List V)(kb:FuncData->Prop):Prop where
 ex:∃(f:Addr)(fd:FuncData),FnQ K m qual st f fd/\xX K C m f/\kb fd/\∀j,j<=dvs.length->∃ds,o9 (dvs.drop j) ds/\V6 K fd ps ds
structure Z0 (P:Program)(w:World)(K:Frag)(mg:Str->Option Value)(base:Heap)(k:Nat)(C:Addr)(m:Str)(ps:List Str)(dvs:List V)(kb:FuncData->Prop)(sp:Sp):Prop where
 ex:∃(f:Addr)(fd:FuncData),aL P w K mg base CX0 k f fd ps sp/\xX K C m f/\kb fd/\∀j,j<=dvs.length->∃ds,o9 (dvs.drop j) ds/\V6 K fd ps ds
abbrev noKw:FuncData->Prop:=λ_=>True
section
variable {P:Program}{w:World}{K:Frag}{mg:Str->Option Value}{base:Heap}
theorem pR.ok {C:Addr}{m qual:Str}{st:Stmt}{N ps:List Str}{k:Nat}{dvs:List V}{kb:FuncData->Prop}{sp:Sp}(D:pR K C m qual st ps dvs kb)(S:FnScope N ps (i3 st))(len:∀vs H Q E,sp vs H Q E->vs.length=ps.length)
  (hbody:∀(f:Addr)(cdv:Value)(A:Around)(outer:List Env)(s:Shared)(H:Hp)(vs:List V)(Q:VK)(E:XK),B5 k (A.deeper (envOfC qual (i3 st) s.heap.objs.size f cdv))->sp vs H Q E ->
   ∃t,PSs (P1 CX0 P w K mg base N qual (i3 st) f cdv A outer s H E).nox (z9 st) t/\t { nx:=λ_ H'=>Q .non H',rt:=Q } (start N vs) H):Z0 P w K mg base (k+1) C m ps dvs kb sp:=by
 obtain⟨f,fd,⟨oc,od,dV,kV,doc,pm,an,cdv,ct,osl,rfl,lk,hcd⟩,mt,hkb,b⟩:=D.ex;refine⟨f,_,kN lk hcd S len λA outer s H vs Q E hr hsp=>?_,mt,hkb,b⟩;obtain⟨t,h,q⟩:=hbody f cdv A outer s H vs Q E hr hsp;exact⟨t,h.nox,q⟩
end
section
variable {X:Cx}{k n:Nat}{C:Addr}{ps:List Str}{dvs:List V}{kb:FuncData->Prop}{sp:Sp}{x m:Str}{p pos apos kpos:Pos}{e o:Expr}{es:List Expr}{ta te:TE}{t:TA}
def Z5 {K:Frag}{C D:Addr}(hc:isClsIn K D=true)(ht:typeIn K (.ref D)=some (.type "type"))(hs:subIn K (.ref C) (.ref D)=some true):kitOne K (.ref C) (.ref D)=some true:=by
 unfold kitOne
 split
 ·rfl
 ·show(if ((clsIn K D).isSome&&typeIn K (.ref D)==some (.type "type"))=true then subIn K (.ref C) (.ref D) else none)=some true
  rw[if_pos (by rw[show(clsIn K D).isSome=true from hc,ht];rfl),hs]
end
theorem r9.at_ {P:Program}{w:World}{H:Hp}{h:Heap}{a:Addr}{o:HO}(x:r9 P w H h a o):∃u,h.get? a=some u:=by
 cases o with
 | lst xs=>obtain⟨_,_,_,_,e⟩:=x;exact⟨_,e⟩
 | tup xs=>obtain⟨_,_,_,p⟩:=x;exact⟨_,p.choose_spec.1⟩
 | dK kvs=>obtain⟨_,_,_,_,o,_,_,e,_⟩:=x;exact⟨_,e⟩
 | dT kvs=>obtain⟨_,_,_,_,o,_,_,e,_⟩:=x;exact⟨_,e⟩
 | set S n=>obtain⟨o,_,_,_,e,_⟩:=x;exact⟨_,e⟩
 | ins C dx fs=>obtain⟨_,_,_,e,_⟩:=x;exact⟨_,e⟩
 | own y=>obtain⟨_,e⟩:=x;exact⟨_,e⟩
 | xd fs=>obtain⟨_,⟨_,_,_,e,_⟩,_⟩:=x;exact⟨_,e⟩
 | rng lo hi=>obtain⟨_,_,_,e⟩:=x;exact⟨_,e⟩
 | frz ob u=>obtain⟨e,_⟩:=x;exact⟨_,e⟩
 | tbl ps=>exact⟨_,(show h.get? a=some _ from x)⟩
 | met f y=>exact⟨_,(show h.get? a=some _ from x)⟩
 | ext φ=>obtain⟨_,e,_⟩:=x;exact e
structure Fly (fs:List Addr)(H1 H2:Hp)(h1 B h2:Heap):Prop where
 kp:∀b o,h1.get? b=some o->b∉fs->(∃o',B.get? b=some o')/\(H1 b=none->B.get? b=some o)
 sl:∀b o,h1.get? b=some o->b∈fs->∃sl,h2.get? b=some { o with slots:=sl }
 free:∀b o,h1.get? b=some o->H1 b=none->H2 b=none
 tups:∀b xs,H1 b=some (.tup xs)->H2 b=some (.tup xs)
 frzs:∀b o u,H1 b=some (.frz o u)->H2 b=some (.frz o u)
 tbls:∀b ps,H1 b=some (.tbl ps)->∃more,H2 b=some (.tbl (ps++more))
theorem Fly.un {fs:List Addr}{H1 H2:Hp}{h1 B h2:Heap}(f:Fly fs H1 H2 h1 B h2)(st:B.StaysIn h2):Un fs [] H1 H2 h1 h2 where
 keep:=λb o e n hb _=>st b o ((f.kp b o e hb).2 n)
 slot:=λb o e _ hb _=>f.sl b o e hb
 free:=λb o e n _=>f.free b o e n
 there:=λb o e _=>by
  by_cases hb:b∈fs
  ·obtain⟨sl,q⟩:=f.sl b o e hb;exact⟨_,q⟩
  ·obtain⟨⟨o',q⟩,_⟩:=f.kp b o e hb;exact⟨o',st _ _ q⟩
 tups:=f.tups
 frzs:=f.frzs
 tbls:=f.tbls
theorem Fly.up {fs:List Addr}{H1 H2:Hp}{h1 B h2 h3:Heap}(f:Fly fs H1 H2 h1 B h2)(up:∀b∈fs,∀o,h2.get? b=some o->∃sl,h3.get? b=some { o with slots:=sl }):Fly fs H1 H2 h1 B h3 :=
 ⟨f.kp,λb o e hb=>by
  obtain⟨s1,q1⟩:=f.sl b o e hb;obtain⟨s2,q2⟩:=up b hb _ q1
  exact⟨s2,q2⟩,f.free,f.tups,f.frzs,f.tbls⟩
theorem Fly.after {fs fs':List Addr}{H0 H1 H2:Hp}{h0 h1 B h2:Heap}(u:Un fs [] H0 H1 h0 h1)(f:Fly fs' H1 H2 h1 B h2)(hL:∀b o,h0.get? b=some o->b∉fs->b∉fs')(hs:∀b∈fs,b∈fs')(hf:∀b∈fs,H0 b=none) :
  Fly fs H0 H2 h0 B h2 where
 kp:=λb o e hb=>by
  obtain⟨o1,e1⟩:=u.there b o e (by simp)
  refine⟨(f.kp b o1 e1 (hL b o e hb)).1,λn=>?_⟩;exact(f.kp b o (u.keep b o e n hb (by simp)) (hL b o e hb)).2 (u.free b o e n (by simp))
 sl:=λb o e hb=>by
  obtain⟨s1,q1⟩:=u.slot b o e (hf b hb) hb (by simp)
  obtain⟨s2,q2⟩:=f.sl b _ q1 (hs b hb);exact⟨s2,q2⟩
 free:=λb o e n=>by
  obtain⟨o1,e1⟩:=u.there b o e (by simp)
  exact f.free b o1 e1 (u.free b o e n (by simp))
 tups:=λb xs e=>f.tups b xs (u.tups b xs e)
 frzs:=λb o x e=>f.frzs b o x (u.frzs b o x e)
 tbls:=λb ps e=>by
  obtain⟨m1,e1⟩:=u.tbls b ps e;obtain⟨m2,e2⟩:=f.tbls b _ e1;exact⟨m1++m2,by rw[e2,Array.append_assoc]⟩
def xZ (X:Cx)(E:XK):Prop:=∀(pins:List (Addr×Obj))(σ:St)(H:Hp)(s:Shared)(C e:Addr)(h':Heap)(args:List Value),Inv X pins σ H s->Heap.MadeExcOf s.heap h' e (.ref C) args->E (.ref C) none H->X.xe (.ref e) { s with heap:=h' }
section
variable {P:Program}{w:World}{K:Frag}{mg:Str->Option Value}{base:Heap}{N:List Str}{qual:Str}{scope:Scope}{f:Addr}{cd:Value}{A:Around}{outer:List Env}{s:Shared}{H:Hp}{E:XK}
def kG {env:Env}{L:Addr}{l:List Env}(h:env.frame=some L):frs (env::l)=L::frs l:=by unfold frs;rw[filterMap_cons,h]
end
def wo (sp:Sp)(dvs:List V)(E:St->XK)(t:TA):TE:=λσ H Q=>t σ H λvs H1=>sp (vs++dvs) H1 Q (E σ)
def kt:List Value:=[.type "ValueError",.type "Exception",.type "BaseException",.type "object"]
structure uV (K:Frag)(mg:Str->Option Value)(x:Str)(C:Addr):Prop where
 mg:mg x=some (.ref C)
 exc:PySem.W.excIn K C kt "ValueError.__new__" = true
theorem uV.own {K:Frag}{mg:Str->Option Value}{x:Str}{C:Addr}{h:Heap}(M:uV K mg x C)(X:K.In h):OwnCls x C kt "ValueError.__new__" mg h:=by
 refine⟨M.mg,?_⟩;have q:=M.exc;unfold PySem.W.excIn at q
 split at q
 ·rename_i dd cd sl ho
  split at q
  ·rename_i C' bm k0 k1 k2 k3 n k5 hm hs
   simp only[Bool.and_eq_true,beq_iff_eq,Bool.not_eq_true'] at q
   obtain⟨⟨⟨⟨⟨rfl,rfl⟩,hdel⟩,ht⟩,hok⟩,hni⟩:=q;obtain⟨nm,bs,mro,ns,qn,hd,sn,sub,ab,col,del⟩:=cd
   dsimp only at hm hdel hok hni
   subst hm hdel
   have hsl:sl=#[k0,k1,k2,k3,some (.builtin "ValueError.__new__"),k5]:=by
    obtain⟨l⟩:=sl
    simp only at hs
    rw[hs]
   subst hsl;exact⟨bm,ns,nm,qn,bs,hd,sn,sub,ab,col,dd,k0,k1,k2,k3,k5,_,X _ _ ho,.of_isNs (PySem.W.isNs_of_in X hok),PySem.W.nsMap_none_of_in X hok hni,PySem.W.tail_of_in X ht⟩
  ·cases q
 ·cases q
section
variable {X:Cx}{C:Addr}{x:Str}{E:XK}{np cpos pos:Pos}{e:Expr}{ta:TE}
def wp (C:Addr)(E:XK)(ta:TE):TS:=λ_ σ H=>ta σ H λ_ H1=>E (.ref C) none H1
def jM (hl:xZ X E)(M:uV X.K X.mg x C)(hh:X.A.handled=none)(hg:Gl X x)(ha:PE X e ta)(hdb:(x==("__debug__":Str))=false:=by decide)
  (he:starEach [e] X.env=(false,eval e X.env)::starEach [] X.env:=by rfl):PS X (.Raise (some (.Call (.Name x np) [e] [] cpos)) none pos) (wp C E ta):=by
 intro pins s σ H D I h
 obtain⟨tl,N,nm,q,bs,hdct,sn,sub,ab,col,dd,k0,k1,k2,k3,k5,mN,hC,hN,hni,T⟩:=(M.own I.ok.mod.kin).obj
 refine wpAny_Raise_call_subT (C:=C) (nm:=nm) (q:=q) (N:=N) (bs:=bs) (bm:=tl) (hdct:=hdct) (sn:=sn) (sub:=sub) (ab:=ab) (col:=col) (dd:=dd) (k0:=k0) (k1:=k1) (k2:=k2) (k3:=k3) (k5:=k5)
  PySem.F.excBase_ValueError (mN:=mN) (T.hasType PySem.F.excBase_ValueError.hasBase) hh (by rw[he];rfl) hni (aa I hg M.mg ⟨rfl,?_⟩ hdb)
 rw[he];refine Calls.evalArgs_plain ?_
 show wpAny _ _ (spliced ((false,eval e X.env)::backTo cpos (starEach [] X.env))) _ _ s
 refine Calls.spliced_cons (thn (ha pins s σ H _ I h) λu s2 ⟨v,H2,I2,r,q⟩=>?_);have hk:=I2.bk;exact Calls.spliced_nil ⟨rfl,(by show 1<=sizeLine;decide),hk _ _ hC,hN.keeps hk,T.keeps hk,λh' e' hm=>hl pins σ H2 s2 C e' h' _ I2 hm q⟩
end
abbrev Cx.pinned (X:Cx)(pn:List (Addr×Obj)):Cx:={ X with pn:=pn }
abbrev hcx (X:Cx)(ea:Addr):Cx:={ X with A:=X.A.mark (some (.ref ea)),calm:=false,xe:=λ_ _=>False }
section
variable {X:Cx}{pins:List (Addr×Obj)}{σ:St}{H:Hp}{s:Shared}
theorem Inv.toPinned (I:Inv X pins σ H s):Inv (X.pinned (X.pn++pins)) [] σ H s :=
 ⟨⟨I.ok.mod,I.ok.kind,I.ok.glob,I.ok.blt,I.ok.above,I.ok.inj,I.ok.has,I.ok.cab,I.ok.hd,I.ok.frames,I.ok.stk,I.ok.exf,I.ok.bs,I.ok.bsz,I.ok.noex,I.ok.exfs,I.ok.funs,I.ok.frf⟩,I.os,I.bare,I.base,I.loc,I.cell,I.free,I.freeC,λp hp=>I.pin p (by rw[append_nil] at hp;exact hp),I.hok,I.len⟩
theorem Inv.ofPinned {ps:List (Addr×Obj)}(I:Inv (X.pinned (X.pn++pins)) ps σ H s):Inv X pins σ H s :=
 ⟨⟨I.ok.mod,I.ok.kind,I.ok.glob,I.ok.blt,I.ok.above,I.ok.inj,I.ok.has,I.ok.cab,I.ok.hd,I.ok.frames,I.ok.stk,I.ok.exf,I.ok.bs,I.ok.bsz,I.ok.noex,I.ok.exfs,I.ok.funs,I.ok.frf⟩,I.os,I.bare,I.base,I.loc,I.cell,I.free,I.freeC,λp hp=>I.pin p (mem_append_left _ hp),I.hok,I.len⟩
theorem Inv.toH (I:Inv X pins σ H s)(ea:Addr):Inv (hcx X ea) pins σ H s :=
 ⟨⟨I.ok.mod,I.ok.kind,I.ok.glob,I.ok.blt,I.ok.above,I.ok.inj,I.ok.has,I.ok.cab,(λz=>nomatch z),I.ok.frames,I.ok.stk,I.ok.exf,I.ok.bs,I.ok.bsz,I.ok.noex,I.ok.exfs,I.ok.funs,I.ok.frf⟩,I.os,I.bare,I.base,I.loc,I.cell,I.free,I.freeC,I.pin,I.hok,I.len⟩
theorem Inv.ofH {ea:Addr}(ok:X.Ok)(I:Inv (hcx X ea) pins σ H s):Inv X pins σ H s :=
 ⟨ok,I.os,I.bare,I.base,I.loc,I.cell,I.free,I.freeC,I.pin,I.hok,I.len⟩
def cE {M:Model}{A:Around}{E:Value->Shared->Prop}{i:Nat}{n:Str}{pos:Pos}{Q:Unit->Shared->Prop}(I:Inv X pins σ H s)(hN:X.N.Nodup)(hi:X.N[i]? = some n)(hl:X.env.scope.names.lookup n=some .local)
  (h:∀s',Inv X pins (σ.set i none) H s'->Q () s'):wpAny M A (do bindName X.env n .none;unbindBehindTheSuite X.env n pos) Q E s:=by
 obtain⟨m,hn,hlm⟩:=id I.loc;have hcls:(X.env.scope.kind==.class || (X.env.scope.kind==.module&&X.env.locals != X.env.globals))=false:=by rw[I.ok.kind];rfl
 have cne:=I.cne;obtain⟨oL,_,_,hoL,_⟩:=id hn;have iσ:i<σ.length:=by rw[I.len];exact(List.getElem?_eq_some_iff.mp hi).1
 refine wpAny_nameGoes_keeps hl hn hcls λh' v hn' hs=>?_;refine h _ ⟨I.ok,I.os,I.bare,⟨λb o e n hb hx=>?_,λb o e n hb hx=>?_,I.base.free,λb o e hx=>?_,I.base.tups,I.base.frzs,I.base.tbls⟩,⟨_,hn',λj y v' e1 e2 e3=>?_⟩,λy c e=>?_,I.free,I.freeC,λp hp=>?_,λb ob e=>?_,by simpa using I.len⟩
 ·exact(hs.2 b (Nat.ne_of_lt (Nat.lt_of_lt_of_le (Heap.lt_size e) I.ok.above))).trans (I.base.keep b o e n hb hx)
 ·obtain⟨sl,e1⟩:=I.base.slot b o e n hb hx
  exact⟨sl,(hs.2 b (Nat.ne_of_lt (Nat.lt_of_lt_of_le (Heap.lt_size e) I.ok.above))).trans e1⟩
 ·obtain⟨o',e1⟩:=I.base.there b o e hx
  exact⟨o',(hs.2 b (Nat.ne_of_lt (Nat.lt_of_lt_of_le (Heap.lt_size e) I.ok.above))).trans e1⟩
 ·by_cases hj:j=i
  ·subst hj
   rw[List.getElem?_set_self iσ] at e2
   cases e2
  ·rw[List.getElem?_set_ne (Ne.symm hj)] at e2
   obtain⟨u',r',q⟩:=hlm j y v' e1 e2 e3;refine⟨u',r',?_⟩
   rcases q with⟨k,e⟩|⟨k,c,e,z⟩
   ·refine .inl ⟨k,?_⟩
    have:y≠n:=λe=>hj (cX hN e1 (e▸hi))
    simp[this,e]
   ·exact .inr ⟨k,c,e,z.sameBut hs (cne y c e)⟩
 ·obtain⟨w',z⟩:=I.cell y c e
  exact⟨w',z.sameBut hs (cne y c e)⟩
 ·obtain⟨e,n,ne,nf,d⟩:=I.pin p hp
  exact⟨(hs.2 p.1 ne).trans e,n,ne,nf,d⟩
 ·refine(I.hok b ob e).stay (λc w' hc q=>(hs.2 c ?_).trans q) (λ_ q=>q) λ_ _ q=>q
  rintro rfl
  have fr:=I.free
  rcases hc with rfl|hc
  ·rw[fr] at e;cases e
  ·rw[fr] at hc;cases hc
end
section
variable {X:Cx}
def aI.gone (D:aI)(i:Nat):aI:={ nx:=λσ H=>D.nx (σ.set i none) H,rt:=D.rt,bk:=λσ H=>D.bk (σ.set i none) H,ct:=λσ H=>D.ct (σ.set i none) H }
end
open PySem.W (Looks)
open PySem.Builtin PySem.Builtin.ObjectAttr PySem.Builtin.Getset_descriptor
structure de (K:Frag)(C:Addr):Prop where
 ga:findIn K (.ref C) "__getattribute__" = some (some (.builtin "BaseException.__getattribute__"))
 gn:findIn K (.ref C) "__getattr__" = some none
 cl:findIn K (.ref C) "__class__" = some (some (.builtin "object.__class__"))
 gt:PySem.W.specialIn K (.builtin "object.__class__") "__get__" = some (some (.builtin "getset_descriptor.__get__"))
 tk:PySem.W.takesIn K (.builtin "object.__class__")=some true
 mo:PySem.W.mroIn K C (.type "object")=some true
 mb:PySem.W.mroIn K C (.type "BaseException")=some true
 cs:(clsIn K C).isSome=true
section
variable {prog:Program}{w:World}{A:Around}{E:Value->Shared->Prop}{s:Shared}{K:Frag}{x C:Addr}
def tG {M:Model}{h:Heap}(X:K.In h)(Z:de K C):Looks M h (find (.ref x) (.ref C) "__class__") (.bind (.builtin "getset_descriptor.__get__") (.builtin "object.__class__")):=by
 have L1:=PySem.W.looks_findIn (M:=M) X Z.cl;have L2:Looks M h (getOf (some (.builtin "object.__class__"))) (some (.builtin "getset_descriptor.__get__")):=PySem.W.looks_specialIn X Z.gt;have L3:=PySem.W.looks_takesIn (M:=M) X Z.tk;exact L1.andThen (L2.andThen ((show Looks M h (dataDescriptor? (some (.builtin "object.__class__")) (some (.builtin "getset_descriptor.__get__"))) (some (.builtin "getset_descriptor.__get__",.builtin "object.__class__")) from L3.andThen .now).andThen (Looks.tag .now)))
def va {R:Result->Shared->Prop}{tp:Value}{o:Obj}(X:K.In s.heap)(Z:de K C)(ho:s.heap.get? x=some o)(hc:o.cls=.ref C)(h:R (.ok (.ret (.ref C))) s) :
  codeAny (model prog w) A (.call (.builtin "getset_descriptor.__get__") ⟨[.builtin "object.__class__",.ref x,tp],[]⟩) R s:=by
 obtain⟨hh,g,dr,t,os⟩:=s;have L0:Looks (model prog w) hh (typeOf (.ref x)) (.ref C):=hc▸(Looks.ld ho).andThen .now;have L1:=PySem.W.looks_mroIn (M:=model prog w) X Z.mo;refine codeAny_call_builtin PySem.W.KF.slot_gs.plain PySem.W.KF.entry_gs (PySem.W.KF.slot_gs.check _ _ _ _ _ _ _ _ PySem.W.KF.type_class (PySem.W.KF.args_gs _ _ _) ?_);unfold Builtin.«getset_descriptor.__get__» descrGet;rw[PySem.W.dga_obj];refine w_ (u_ ?_);unfold descrGetter descrCheckInstance descrNameAndClass isInstance
 simp only[PySem.W.KF.owner_class]
 repeat lk
 refine⟨Code.quiet_builtin _ (by decide +kernel),codeAny_builtin PySem.W.KF.entry_class ?_⟩
 unfold Builtin.«object.__class__» shownTypeOf
 repeat lk
 exact h
def oR {Q:Option Value->Shared->Prop}{o:Obj}(X:K.In s.heap)(Z:de K C)(ho:s.heap.get? x=some o)(hc:o.cls=.ref C)(h:Q (some (.ref C)) { s with toks:=s.toks+1 }) :
  wpAny (model prog w) A (getAttr? (.ref x) "__class__") Q E s:=by
 obtain⟨hh,g,dr,t,os⟩:=s;have L0:Looks (model prog w) hh (typeOf (.ref x)) (.ref C):=hc▸(Looks.ld ho).andThen .now;have L1:=PySem.W.looks_findIn (M:=model prog w) X Z.ga;have L2:=PySem.W.looks_findIn (M:=model prog w) X Z.gn;have L3:=tG (M:=model prog w) (x:=x) X Z;have L4:=PySem.W.looks_mroIn (M:=model prog w) X Z.mb;have f3:=PySem.F.attr_ValueError.ga.bind (.ref x);have hk:builtinKind "BaseException.__getattribute__" = some .slot:=by decide +kernel
 have hsplit:splitId "BaseException.__getattribute__" = some ("BaseException","__getattribute__"):=by decide +kernel
 unfold getAttr? getAttrBy? getAttrBy;refine w_ (wpAny_mkText (w_ (wpAny_attempt (wpAny_holding (w_ (L0.at (w_ (L1.at ?_))))))))
 show wpAny _ _ (getAttrByItsOwn _ _ _ _ _ _) _ _ _
 unfold getAttrByItsOwn;refine w_ ?_
 show wpAny _ _ (typeLookup _ _) _ _ _
 refine L2.at ?_;refine w_ (wpAny_attempt (wpAny_holding ?_))
 show wpAny _ _ (boundAndCalled _ _ _) _ _ _
 unfold boundAndCalled;refine w_ ?_;rw[f3];refine u_ ?_;refine wpAny_call (codeAny_call_builtin PySem.F.attr_ValueError.ga.plain PySem.F.entry_bexc_ga ?_);have ha:=PySem.F.args_bexc_ga (.ref x) (.str "__class__" t)
 simp only[checkBuiltinCall,hk,hsplit]
 refine w_ ?_;unfold isInstance;refine w_ (L0.at (L4.at ?_))
 simp only[Bool.not_true,Bool.false_eq_true,if_false]
 repeat (any_goals (first|assumption|wp_step))
 rw[hc];have La:=PySem.W.looks_findIn (M:=model prog w) X Z.cl;have Lb:Looks (model prog w) hh (getOf (some (.builtin "object.__class__"))) (some (.builtin "getset_descriptor.__get__")):=PySem.W.looks_specialIn X Z.gt;have Lc:Looks (model prog w) hh (dataDescriptor? (some (.builtin "object.__class__")) (some (.builtin "getset_descriptor.__get__"))) (some (.builtin "getset_descriptor.__get__",.builtin "object.__class__")):=(PySem.W.looks_takesIn (M:=model prog w) X Z.tk).andThen .now;refine La.at (w_ (Lb.at (w_ (Lc.at (w_ (wpAny_rule (u_ ?_)))))));unfold bindTo;refine w_ (wpAny_holding (wpAny_call (va (s:=⟨hh,g,dr,t+1,os⟩) X Z ho hc ?_)))
 show wpAny _ _ (ret (.ref C)) _ _ _
 refine u_ ?_
 show wpAny _ _ (handedOut (.ref C)) _ _ _
 exact PySem.W.handed_on rfl (u_ h)
def rY (Z:de K C):PySem.W.KitX K (.ref x) (.ref C) (λh=>∃o,h.get? x=some o/\o.cls=.ref C) where
 ty:=λ_ _ _ ⟨o,ho,hc⟩=>hc▸(Looks.ld ho).andThen .now
 it:=λ_ _ X _=>by
  have z0:=Z.cs;unfold clsIn at z0
  split at z0
  ·rename_i c' d' cd' sl' ho
   intro A' Q' E' s' k q
   unfold isType loadHead;exact w_ (wpAny_loadPart (k _ _ (X _ _ ho)) (u_ q))
  ·cases z0
 ne:=λh tp dd its n sl X htp=>by
  have z0:=Z.cs;refine Bool.eq_false_iff.mpr λq=>?_;have e:C=tp:=Value.ref.inj (beq_iff_eq.mp q);subst e;unfold clsIn at z0
  split at z0
  ·rename_i c' d' cd' sl' ho
   have z:=(X _ _ ho).symm.trans htp
   cases z
  ·cases z0
 ca:=λX ⟨o,ho,hc⟩ k=>oR X Z ho hc k
end
end L2
namespace L2
open PySem PySem.Spec PyProof.Rows PySem.SeqAt
section
variable {K:Frag}{C D:Addr}
def A8 (hc:isClsIn K D=true)(ht:typeIn K (.ref D)=some (.type "type"))(hs:subIn K (.ref C) (.ref D)=some false)(h1:subIn K (.ref C) (.ref C)=some true):kitOne K (.ref C) (.ref D)=some false:=by
 unfold kitOne
 split
 ·rename_i z
  have e:C=D:=Value.ref.inj (beq_iff_eq.mp z);rw[<- e,h1] at hs
  cases hs
 ·show(if ((clsIn K D).isSome&&typeIn K (.ref D)==some (.type "type"))=true then subIn K (.ref C) (.ref D) else none)=some false
  rw[if_pos (by rw[show(clsIn K D).isSome=true from hc,ht];rfl),hs]
def gJ (hs:subIn K (.ref C) (.type "ValueError")=some true):kitOne K (.ref C) (.type "ValueError")=some true:=by
 unfold kitOne
 split
 ·rfl
 ·show(if PySem.W.kitMeta "ValueError" = true then subIn K (.ref C) (.type "ValueError") else none)=some true
  rw[if_pos (by decide +kernel),hs]
def iQ (hc:isClsIn K D=true)(ht:typeIn K (.ref D)=some (.type "type"))(hs:subIn K (.ref C) (.ref D)=some true)(hb:subIn K (.ref D) (.type "BaseException")=some true):exmOne K (.ref C) (.ref D)=some true:=by
 unfold exmOne;rw[if_pos (by rw[hb];rfl)]
 show(if ((clsIn K D).isSome&&typeIn K (.ref D)==some (.type "type"))=true then subIn K (.ref C) (.ref D) else none)=some true
 rw[if_pos (by rw[show(clsIn K D).isSome=true from hc,ht];rfl),hs]
end
def cz:bootBuiltins "ValueError" = some (.type "ValueError"):=by first|rfl|decide +kernel
theorem ay:∀{bs:List Bool}{us:List Value},o9 (bs.map V.bl) us->us=bs.map Value.bool
 | [],_,.nil=>rfl
 | _::_,_,.cons r t=>by rw[ay t];cases r;rfl
section
variable {X:Cx}
def uX:V->List V->Hp->VK->Prop:=λx vs H Q=>∃(l:Addr)(k:Bool)(bs:List Bool),x=.ref l/\vs=[.bl k]/\H l=some (.lst (bs.map V.bl))/\Q (.int (bs.count k:Nat)) H
def eqB {A:Around}{s:Shared}{bs:List Bool}{k:Bool}:∀y,y∈(bs.map Value.bool).toArray->EqAt A s y (.bool k) (isBoolOf k y):=λy hy=>by
 have hy:y∈bs.map Value.bool:=by simpa using hy
 obtain⟨b,_,rfl⟩:=mem_map.mp hy;exact EqAt.bool_bool b k
def qA:MtR X "list.count" uX:=by
 intro pins s σ H x vs v us Q I rx rv h
 obtain⟨l,k,bs,rfl,rfl,hH,q⟩:=h
 cases rx
 obtain⟨u,rfl,ru⟩:=rv.one
 cases ru
 obtain⟨z,its,n,r,hl,e⟩:=I.lstM hH
 cases ay r
 refine call_meets F.slot_list_count ⟨_,e,rfl⟩ F.entry_list_count (F.args_list_count_2 _ _) (list_countAt l _ n none #[] (.bool k) (isBoolOf k)) ⟨e,eqB,?_⟩;refine⟨.int _,H,I.tok _,⟨_,rfl⟩,?_⟩
 have e2:(bs.map Value.bool).toArray.toList.countP (isBoolOf k)=bs.count k:=by
  show(bs.map Value.bool).countP (isBoolOf k)=_
  rw[List.countP_map];rfl
 rw[e2];exact q
def uS:V->List V->Hp->VK->Prop:=λx vs H Q=>∃(l:Addr)(k:Bool)(bs:List Bool)(j:Nat),x=.ref l/\vs=[.bl k]/\H l=some (.lst (bs.map V.bl))/\bs[j]? = some k/\(∀m<j,bs[m]? = some (!k))/\j<=1000/\Q (.int (j:Nat)) H
def pW:MtR X "list.index" uS:=by
 intro pins s σ H x vs v us Q I rx rv h
 obtain⟨l,k,bs,j,rfl,rfl,hH,hj,hno,h1000,q⟩:=h
 cases rx
 obtain⟨u,rfl,ru⟩:=rv.one
 cases ru
 obtain⟨z,its,n,r,hl,e⟩:=I.lstM hH
 cases ay r
 obtain⟨jl,je⟩:=List.getElem?_eq_some_iff.mp hj;refine call_meets F.slot_list_index ⟨_,e,rfl⟩ F.entry_list_index (F.args_list_index_2 _ _) (list_indexAt l _ n none #[] (.bool k) (isBoolOf k) j (by simpa using jl) (by lia) ?_ λm hm h2=>?_) ⟨e,eqB,?_⟩
 ·simp[isBoolOf,je]
 ·obtain⟨_,me⟩:=List.getElem?_eq_some_iff.mp (hno m h2)
  simp[isBoolOf,me]
 ·exact⟨.int _,H,I.tok _,⟨_,rfl⟩,q⟩
end
end L2
namespace L2
open PySem
def K9 (h:Heap)(e:Addr)(od:Option Addr):Prop:=∃o,h.get? e=some o/\o.dict=od
def kh (f:Array Value->Array Value)(o:Obj):(Obj.mapFields f o).dict=o.dict:=by
 obtain⟨c,d,dt,sl⟩:=o
 cases dt<;>rfl
section
variable {M:Model}{A:Around}{E:Value->Shared->Prop}{s:Shared}{B:Heap}{env:Env}{up:List Env}{L x:Addr}{k:Value}{a0:Value}{od:Option Addr}{Q:Unit->Shared->Prop}
abbrev wK (hd:Value)(L:Addr)(pl:List Value):Obj:={ cls:=.type "traceback",dict:=none,data:=.fields ([hd,.ref L,.none,rawInt L,.none]++(if pl.isEmpty then List.replicate 6 Value.none else pl)).toArray }
def cW {ob:Obj}{fs:Array Value}{hd:Value}{hn:Bool}(a1:A.frames=some (env::up))(a2:s.heap.FunFrames B (env::up))(a3:env.frame=some L)(b1:s.heap.get? x=some ob)(b2:B.StaysIn s.heap)(b3:B.get? x=none)
  (b4:ob.data=.fields fs)(b5:1<fs.size)(b6:fs[0]? = some a0)(q:∀g,Heap.NotedW B (env::up) x ob.cls a0 (rawInt L) s.heap g->K9 g x ob.dict->Q () { s with heap:=g }) :
  wpAny M A (do let a <- frameOf env;let pl <- entryPlaceOf L hn;let b <- EntryCells.newEntry hd a .none (rawInt L) .none pl;setField (.ref x) 1 b) Q E s:=by
 have out:x∉(env::up).filterMap (·.frame):=λm=>by
  obtain⟨_,o,e1,e2⟩:=a2.mem m;rw[b1] at e1
  cases e1
  exact e2 fs b4
 refine w_ (wpAny_frameOf_fun a1 a2 a3 λg1 k1=>w_ (wpAny_entryPlaceOf λpl hpl=>?_));unfold EntryCells.newEntry newFields;refine w_ (wpAny_newObj_type ?_ (hpl.sizeOk5 _ _ _ _ _));have x1:g1.get? x=some ob:=(k1.2.1 x out).trans b1;have st1:B.StaysIn g1:=λb o e=>(k1.2.1 b λm=>by rw[(a2.mem m).1] at e;cases e).trans (b2 b o e)
 have x2:=Heap.get?_push_of_some (h:=g1) (wK hd L pl) x1;refine wpAny_setField x2 b4 b5 ?_;have nT:g1.objs.size≠x:=Nat.ne_of_gt (Heap.lt_size x1);have d3:=Obj.data_mapFields b4 (·.setIfInBounds 1 (Value.ref g1.objs.size));have x3:=Heap.get?_update_self (Obj.mapFields (·.setIfInBounds 1 (Value.ref g1.objs.size))) x2 (Obj.isFreed_of_fields d3);have t3:=(Heap.get?_update_other (g1.push (wK hd L pl)) (Obj.mapFields (·.setIfInBounds 1 (Value.ref g1.objs.size))) (Ne.symm nT)).trans (Heap.get?_push_size g1 rfl)
 have kp:∀b o,b≠x->g1.get? b=some o->((g1.push (wK hd L pl)).update x (Obj.mapFields (·.setIfInBounds 1 (Value.ref g1.objs.size)))).get? b=some o:=λb o n e=>by
  rw[Heap.get?_update_other _ _ (Ne.symm n)];exact Heap.get?_push_of_some _ e
 have no:∀b o,s.heap.get? b=some o->(∀vs,o.data≠.fields vs)->b≠x:=λb o e n z=>by
  rw[z,b1] at e
  cases e
  exact n fs b4
 refine q _ ⟨λb o e=>kp b o (λz=>by rw[z,b3] at e;cases e) (st1 b o e),a2.of_keeps λb o e n=>?_,?_,λb o e n=>?_⟩ ⟨_,x3,kh _ _⟩
 ·obtain⟨sl,z⟩:=k1.2.2 b o e
  exact⟨_,kp b _ (no b o e n) z,rfl⟩
 ·refine⟨_,_,g1.objs.size,_,_,x3,⟨Obj.cls_mapFields _ _,?_⟩,d3,by simp[b5],st1.fresh,nT,t3,rfl,?_⟩
  ·rw[Array.getElem?_setIfInBounds_ne (by decide)]
   exact b6
  ·first|(simp;done)|(rcases hpl with rfl|⟨_,_,_,_,_,_,_,rfl⟩<;>simp)
 ·obtain⟨sl,z⟩:=k1.2.2 b o e
  exact⟨sl,kp b _ (no b o e n) z⟩
def gc (a1:A.frames=some (env::up))(a2:s.heap.FunFrames B (env::up))(a3:env.frame=some L)(tr:s.heap.TracedW B x k a0)(dx:K9 s.heap x od)(b2:B.StaysIn s.heap)(b3:B.get? x=none)
  (q:∀g,Heap.NotedW B (env::up) x k a0 (rawInt L) s.heap g->K9 g x od->Q () { s with heap:=g }):wpAny M A (noteFrame (.ref x) env) Q E s:=by
 obtain⟨ob,fs,T,oT,ts,e1,⟨e2,e3⟩,e4,e5,e6,e7,e8,e9,e10⟩:=tr;subst e2;obtain⟨o2,f1,f2⟩:=dx;rw[e1] at f1
 cases f1
 subst f2;unfold noteFrame
 simp only[a3]
 refine w_ (wpAny_field e1 e4 e5 ?_);rw[if_pos (show(Value.ref T != Value.none)=true by simp)]
 refine w_ (wpAny_field e8 e9 e10 ?_);rw[if_neg (show ¬(Value.none==rawInt L)=true by simp[rawInt])]
 refine w_ (wpAny_setField e8 e9 (Array.getElem?_eq_some_iff.mp e10).1 ?_);have oth:∀b,b≠T->(s.heap.update T (Obj.mapFields (·.setIfInBounds 3 Value.none))).get? b=s.heap.get? b:=λb n=>Heap.get?_update_other _ _ (Ne.symm n)
 have no:∀b o,s.heap.get? b=some o->(∀vs,o.data≠.fields vs)->b≠T:=λb o e n z=>by
  rw[z,e8] at e
  cases e
  exact n ts e9
 refine cW a1 (a2.of_keeps λb o e n=>⟨o,(oth b (no b o e n)).trans e,rfl⟩) a3 ((oth x (Ne.symm e7)).trans e1) (λb o e=>(oth b λz=>by rw[z,e6] at e;cases e).trans (b2 b o e)) b3 e4 (Array.getElem?_eq_some_iff.mp e5).1 e3 λg z dz=>?_
 obtain⟨z1,z2,z3,z4⟩:=z;exact q g ⟨z1,z2,z3,λb o e n=>z4 b o ((oth b (no b o e n)).trans e) n⟩ dz
def Q8 {l:List Env}{fl:Value}(b2:B.StaysIn s.heap)(a2:s.heap.FunFrames B l)(tr:s.heap.TracedAtW B x k a0 fl)(dx:K9 s.heap x od)
  (q:∀g,B.StaysIn g->g.FunFrames B l->g.TracedW B x k a0->s.heap.UpToSlots g->K9 g x od->Q () { s with heap:=g }):wpAny M A (setFlight (.ref x) none) Q E s:=by
 obtain⟨ob,fs,T,oT,ts,e1,e2,e4,e5,e6,e7,e8,e9,e10⟩:=tr;obtain⟨o2,f1,f2⟩:=dx;have l3:3<ts.size:=(Array.getElem?_eq_some_iff.mp e10).1;have oth:∀b,b≠T->(s.heap.update T (Obj.mapFields (·.setIfInBounds 3 ((none:Option Addr).elim Value.none λf=>rawInt f)))).get? b=s.heap.get? b:=λb n=>Heap.get?_update_other _ _ (Ne.symm n)
 have no:∀b o,s.heap.get? b=some o->(∀vs,o.data≠.fields vs)->b≠T:=λb o e n z=>by
  rw[z,e8] at e
  cases e
  exact n ts e9
 unfold setFlight;refine w_ (wpAny_field e1 e4 e5 ?_);rw[if_pos (show(Value.ref T != Value.none)=true by simp)]
 refine wpAny_setField e8 e9 l3 (q _ (λb o e=>(oth b λz=>by rw[z,e6] at e;cases e).trans (b2 b o e)) (a2.of_keeps λb o e n=>⟨o,(oth b (no b o e n)).trans e,rfl⟩) ?_ (λb o e n=>⟨o.slots,(oth b (no b o e n)).trans e⟩) ⟨o2,(oth x (Ne.symm e7)).trans f1,f2⟩)
 exact⟨ob,fs,T,_,_,(oth x (Ne.symm e7)).trans e1,e2,e4,e5,e6,e7,Heap.get?_update_self _ e8 (Obj.isFreed_of_fields (Obj.data_mapFields e9 _)),Obj.data_mapFields e9 _,by simp[l3]⟩
def nr (a1:A.frames=some (env::up))(a3:env.frame=some L)(fl:Heap.FlyingW B (env::up) x k a0 s.heap)(dx:K9 s.heap x od)
  (q:∀g,Heap.FlyingW B up x k a0 g->s.heap.UpToSlots g->K9 g x od->Q () { s with heap:=g }):wpAny M A (leaving env (.ref x)) Q E s:=by
 obtain⟨f1,f2,f3,f4⟩:=fl;unfold leaving;refine w_ (gc a1 f3 a3 f4 dx f1 f2 λg1 z1 d1=>?_);obtain⟨z1,z2,z3,z4⟩:=z1;refine Q8 (s:={ s with heap:=g1 }) z1 z2 z3 d1 λg2 y1 y2 y3 y4 d2=>?_
 obtain⟨_,_,y2'⟩:=y2;exact q g2 ⟨y1,f2,y2',y3⟩ (Heap.UpToSlots.trans (λb o e n=>z4 b o e n) y4) d2
def qt (a1:A.frames=some (env::up))(a3:env.frame=some L)(fl:Heap.FlyingW B (env::up) x k a0 s.heap)(dx:K9 s.heap x od)
  (q:∀g,Heap.HeldW B (env::up) x k a0 L g->s.heap.UpToSlots g->K9 g x od->Q () { s with heap:=g }):wpAny M A (noteFrame (.ref x) env) Q E s:=by
 obtain⟨f1,f2,f3,f4⟩:=fl;refine gc a1 f3 a3 f4 dx f1 f2 λg1 z1 d1=>?_;obtain⟨z1,z2,z3,z4⟩:=z1;exact q g1 ⟨z1,f2,z2,z3⟩ z4 d1
def wb {l:List Env}(hh:Heap.HeldW B l x k a0 L s.heap)(dx:K9 s.heap x od)(q:∀g,Heap.FlyingW B l x k a0 g->s.heap.UpToSlots g->K9 g x od->Q () { s with heap:=g }):wpAny M A (setFlight (.ref x) none) Q E s:=by
 obtain⟨f1,f2,f3,f4⟩:=hh;exact Q8 f1 f3 f4 dx λg y1 y2 y3 y4 d=>q g ⟨y1,f2,y2,y3⟩ y4 d
def gO {l:List Env}(hh:Heap.FlyingW B l x k a0 s.heap)(dx:K9 s.heap x od)(q:∀g,Heap.FlyingW B l x k a0 g->s.heap.UpToSlots g->K9 g x od->Q () { s with heap:=g }):wpAny M A (setFlight (.ref x) none) Q E s:=by
 obtain⟨f1,f2,f3,f4⟩:=hh;exact Q8 f1 f3 f4.at dx λg y1 y2 y3 y4 d=>q g ⟨y1,f2,y2,y3⟩ y4 d
def fc {ob:Obj}{fs:Array Value}(a1:A.frames=some (env::up))(a2:s.heap.FunFrames B (env::up))(a3:env.frame=some L)(b1:s.heap.get? x=some ob)(b2:B.StaysIn s.heap)(b3:B.get? x=none)
  (b4:ob.data=.fields fs)(b5:fs[1]? = some .none)(b6:fs[0]? = some a0)(q:∀g,Heap.FlyingW B up x ob.cls a0 g->s.heap.UpToSlots g->K9 g x ob.dict->Q () { s with heap:=g }):wpAny M A (leaving env (.ref x)) Q E s:=by
 unfold leaving noteFrame
 simp only[a3]
 refine w_ (w_ (wpAny_field b1 b4 b5 ?_));rw[if_neg (by decide)]
 refine cW a1 a2 a3 b1 b2 b3 b4 (Array.getElem?_eq_some_iff.mp b5).1 b6 λg1 z1 d1=>?_;obtain⟨z1,z2,z3,z4⟩:=z1;refine Q8 (s:={ s with heap:=g1 }) z1 z2 z3 d1 λg2 y1 y2 y3 y4 d2=>?_
 obtain⟨_,_,y2'⟩:=y2;exact q g2 ⟨y1,b3,y2',y3⟩ (Heap.UpToSlots.trans (λb o e n=>z4 b o e n) y4) d2
end
end L2
namespace L2
open PySem PySem.Spec PyProof.Rows
def T3:List Value->Bool
 | .ref _::r=>T3 r
 | l=>l==kt
def aG (K:Frag)(C fI:Addr):Bool:=match K.lookup C with
 | some ⟨.type "type",_,.cls cd,sl⟩=>(match cd.mro,sl.toList with
  | .ref C'::bm,[_,_,_,_,some (.builtin n),_]=>C'==C&&n == "ValueError.__new__"&&!cd.hasDel&&cd.hasDict&&PySem.W.tailIn K kt bm&&PySem.W.nsOkIn K cd.ns&&nsIn K cd.ns "__init__" == some (some (.ref fI))&&T3 bm
  | _,_=>false)
 | _=>false
def uy {K:Frag}{h:Heap}{N:Addr}{m:Str->Option Value}{n:Str}{v:Value}(X:K.In h)(G:h.Ns N m)(e:nsIn K N n=some (some v)):m n=some v:=by
 obtain⟨o,es,ep,ho,hd,_,hf⟩:=G;unfold nsIn at e
 split at e
 ·rename_i c d es' n' sl q
  have z:=X _ _ q;rw[ho] at z
  cases z
  cases hd
  split at e
  ·rename_i en he
   cases e
   rw[<- hf];unfold nsFind findBy;rw[<- Array.find?_toList,he];rfl
  ·split at e<;>cases e
 ·cases e
structure uN (C fI:Addr)(h:Heap):Prop where
 obj:∃bm N nm q bs sn sub ab col dd k0 k1 k2 k3 k5 mN,h.get? C=some (excClassObj nm q C N bs bm true sn sub ab col dd k0 k1 k2 k3 k5 "ValueError.__new__")/\h.Ns N mN/\mN "__init__" = some (.ref fI)/\OwnTail h kt bm/\T3 bm=true
def nR {K:Frag}{C fI:Addr}{h:Heap}(X:K.In h)(q:aG K C fI=true):uN C fI h:=by
 unfold aG at q
 split at q
 ·rename_i dd cd sl ho
  split at q
  ·rename_i C' bm k0 k1 k2 k3 n k5 hm hs
   simp only[Bool.and_eq_true,beq_iff_eq,Bool.not_eq_true'] at q
   obtain⟨⟨⟨⟨⟨⟨⟨rfl,rfl⟩,hdel⟩,hdc⟩,ht⟩,hok⟩,hni⟩,hrf⟩:=q;obtain⟨nm,bs,mro,ns,qn,hd,sn,sub,ab,col,del⟩:=cd
   dsimp only at hm hdel hdc hok hni
   subst hm hdel hdc
   have hsl:sl=#[k0,k1,k2,k3,some (.builtin "ValueError.__new__"),k5]:=by
    obtain⟨l⟩:=sl
    simp only at hs
    rw[hs]
   subst hsl;have N1:h.Ns ns _:=.of_isNs (PySem.W.isNs_of_in X hok);exact⟨bm,ns,nm,qn,bs,sn,sub,ab,col,dd,k0,k1,k2,k3,k5,_,X _ _ ho,N1,uy X N1 hni,PySem.W.tail_of_in X ht,hrf⟩
  ·cases q
 ·cases q
end L2
namespace L2
open PySem
abbrev N0 (C t:Addr)(od:Option Addr):Obj:={ cls:=.ref C,dict:=od,data:=.fields #[.ref t,.none,.none,.none,.bool false,.none] }
section
variable {prog:Program}{w:World}{A:Around}{E:Value->Shared->Prop}{h:Heap}{g:Array GenState}{d:Drawn}{t:Nat}{os:OsState}
variable {nm q:Str}{C N fI:Addr}{bs bm:List Value}{hdct:Bool}{sn:List Str}{sub:List Value}{ab:Bool}{col:Option Bool}{dd:Option Addr}{k0 k1 k2 k3 k5:Option Value}
def lD (T:OwnTail h kt bm){mN:Str->Option Value}{rest:List Value}{oI:Obj}{Q:Fin->Shared->Prop}
  (hC:h.get? C=some (excClassObj nm q C N bs bm hdct sn sub ab col dd k0 k1 k2 k3 k5 "ValueError.__new__"))(hn:h.Ns N mN)(hi:mN "__init__" = some (.ref fI))(hfI:h.get? fI=some oI)(hfc:oI.cls=.type "function")
  (hq:∀h' e,(∀b o,h.get? b=some o->h'.get? b=some o)->h.objs.size<=e->(∃tt,h'.get? e=some (N0 C tt none)) ->
   wpAny (model prog w) A (call (.ref fI) (.ref e::rest)) (λr s'=>r=.none/\Q (.done (.ret (.ref e))) s') E ⟨h',g,d,t,os⟩) (hrest:rest.length<=sizeLine) :
  wpAny (model prog w) A (Builtin.«type.__call__» ⟨.ref C::rest,[]⟩) Q E ⟨h,g,d,t,os⟩:=by
 have F:=PySem.F.excBase_ValueError
 repeat (first|with_reducible refine wpAny_loadPart_at hC ?_|with_reducible refine wpAny_madeBy_exc hC ?_|wp_step)
 refine codeAny_call_builtin_code (Code.quiet_builtin _ F.quiet) (wpAny_check_new_subT F T hC ?_);refine codeAny_exc_new_subT F T hC ?_ hrest
 show wpAny _ _ _ _ _ _
 let tp:Obj:={ cls:=.type "tuple",data:=.seq rest.toArray }
 let eo:Obj:={ cls:=.ref C,data:=.fields #[.ref h.objs.size,.none,.none,.none,.bool false,.none] }
 have kp:∀b o,h.get? b=some o->((h.push tp).push eo).get? b=some o:=λb o z=>Heap.get?_push_of_some _ (Heap.get?_push_of_some _ z);have C1:=kp _ _ hC;have I1:=kp _ _ hfI;have N1:((h.push tp).push eo).Ns N mN:=let ⟨o,es,ep,z,r⟩:=hn;⟨o,es,ep,kp _ _ z,r⟩
 have G1:((h.push tp).push eo).get? (h.objs.size+1)=some eo:=by
  show((h.push { cls:=.type "tuple",data:=.seq rest.toArray }).push _).get? (h.objs.size+1)=some _
  heap_get
 have c1:(Value.ref C::bm).contains (.ref C)=true:=by simp
 have T1:=T.keeps kp;unfold isInstance
 repeat (first|with_reducible refine wpAny_loadPart_at G1 ?_|(with_reducible refine wpAny_isSubtype_exc C1 ?_;rw[c1])|wp_step)
 show wpAny _ _ (typeLookup (.ref C) _) _ _ _
 refine wpAny_typeLookup_tail C1 N1 T1 F.mroIs F.init.lookup ?_;rw[hi];refine wpAny_holding (w_ ?_);unfold bindSpecial;refine w_ (wpAny_typeOf (T:="function") ⟨_,I1,hfc⟩ ?_);rw[if_pos (by decide)]
 refine u_ (w_ (wpAny_mono (hq _ (h.objs.size+1) kp (Nat.le_succ _) ⟨_,G1⟩) (λr s' hr=>?_) λ_ _ z=>z));obtain⟨rfl,hQ⟩:=hr
 wp_walk
 exact hQ
def qJ (T:OwnTail h kt bm){mN:Str->Option Value}{rest:List Value}{oI:Obj}{Q:Value->Shared->Prop}
  (hC:h.get? C=some (excClassObj nm q C N bs bm hdct sn sub ab col dd k0 k1 k2 k3 k5 "ValueError.__new__"))(hn:h.Ns N mN)(hi:mN "__init__" = some (.ref fI))(hfI:h.get? fI=some oI)(hfc:oI.cls=.type "function")
  (hq:∀h' e,(∀b o,h.get? b=some o->h'.get? b=some o)->h.objs.size<=e->(∃tt,h'.get? e=some (N0 C tt none)) ->
   wpAny (model prog w) (A.under (.builtin "type.__call__" ⟨.ref C::rest,[]⟩)) (call (.ref fI) (.ref e::rest)) (λr s'=>r=.none/\Q (.ref e) s') E ⟨h',g,d,t,os⟩) (hrest:rest.length<=sizeLine) :
  wpAny (model prog w) A (call (.ref C) rest) Q E ⟨h,g,d,t,os⟩:=by
 have f1:=tc_lookup;have f2:=tc_bind (.ref C);have hT:(⟨h,g,d,t,os⟩:Shared).TypeIs (.ref C) "type":=⟨_,hC,rfl⟩;refine wpAny_call (codeAny_of_tree ?_)
 show wpAny _ _ (callAny (.ref C) _) _ _ _
 repeat (any_goals (first|assumption|with_reducible refine wpAny_loadPart_at hC ?_|wp_step))
 refine⟨rfl,?_⟩;refine codeAny_call_builtin_at (Code.quiet_builtin _ (by decide +kernel)) entry_typeCall (wpAny_check_type_call_sub hC (lD T hC hn hi hfI hfc (λh' e a1 a2 a3=>?_) hrest))
 exact hq h' e a1 a2 a3
end
section
variable {M:Model}{A:Around}{E:Value->Shared->Prop}{s:Shared}{env:Env}{C:Addr}
def dH {x:Sem Value}{Q:Flow->Shared->Prop}(hh:A.handled=none)
  (h:wpAny M A x (λv s1=>∃e t od fI,v=.ref e/\uN C fI s1.heap/\s1.heap.get? e=some (N0 C t od)/\E (.ref e) s1) E s) :
  wpAny M A (raiseStmt env (some x) none) Q E s:=by
 unfold raiseStmt;refine w_ (wpAny_mono h (λv s1 z=>?_) λ_ _ y=>y);obtain⟨e,t,od,fI,rfl,Z,he,hE⟩:=z;obtain⟨bm,N,nm,q,bs,sn,sub,ab,col,dd,k0,k1,k2,k3,k5,mN,hC,_,_,T,_⟩:=Z.obj;have hcB:(Value.ref C::bm).contains (.type "BaseException")=true:=by rw[List.contains_cons,T.hasType PySem.F.excBase_ValueError.hasBase,Bool.or_true]
 obtain⟨hp,g,d,tk,os⟩:=s1
 repeat (first|with_reducible refine wpAny_loadPart_at he ?_|with_reducible refine wpAny_loadPart_at hC ?_|(with_reducible refine wpAny_isSubtype_exc hC ?_;rw[hcB])|wp_step)
 exact wpAny_raiseNew_none hh hE
end
section
variable {prog:Program}{w:World}{A:Around}{E:Value->Shared->Prop}{s:Shared}{env:Env}{C fI:Addr}
def mD {x:Str}{np cpos pos:Pos}{args:List Expr}{Q:Flow->Shared->Prop}(hh:A.handled=none)(hplain:(backTo cpos (starEach args env)).any (·.1)=false)
  (h:wpAny (model prog w) A (eval (.Name x np) env) (λf s1=>f=.ref C/\wpAny (model prog w) A (evalArgs (.ref C) true (backTo cpos (starEach args env)) [])
   (λa s2=>a.kw=[]/\a.pos.length<=sizeLine/\uN C fI s2.heap/\(∃oI,s2.heap.get? fI=some oI/\oI.cls=.type "function") /\
    ∀h' e,(∀b o,s2.heap.get? b=some o->h'.get? b=some o)->s2.heap.objs.size<=e->(∃tt,h'.get? e=some (N0 C tt none)) ->
     wpAny (model prog w) (A.under (.builtin "type.__call__" ⟨.ref C::a.pos,[]⟩)) (call (.ref fI) (.ref e::a.pos)) (λr s'=>r=.none/\uN C fI s'.heap/\(∃t od,s'.heap.get? e=some (N0 C t od))/\E (.ref e) s') E { s2 with heap:=h' }) E s1) E s) :
  wpAny (model prog w) A (exec (.Raise (some (.Call (.Name x np) args [] cpos)) none pos) env) Q E s:=by
 rw[arm_exec_Raise]
 first
  | refine w_ (wpAny_standAt (dH (C:=C) hh (w_ (wpAny_mono (wpAny_Call_ofName (wpAny_mono h (λf s1 z=>?_) λ_ _ y=>y)) (λv s3 y3=>w_ (wpAny_standAt (u_ y3))) λ_ _ y=>y))))
  | (simp only[evalOpt,Option.map];refine w_ (wpAny_standAt (dH (C:=C) hh (w_ (wpAny_mono (wpAny_Call_ofName (wpAny_mono h (λf s1 z=>?_) λ_ _ y=>y)) (λv s3 y3=>w_ (wpAny_standAt (u_ y3))) λ_ _ y=>y)))))
  | (refine w_ (wpAny_standAt (dH (C:=C) hh ?_));refine w_ (wpAny_mono (wpAny_Call_ofName (wpAny_mono h (λf s1 z=>?_) λ_ _ y=>y)) (λv s3 y3=>w_ (wpAny_standAt (u_ y3))) λ_ _ y=>y))
 obtain⟨rfl,z⟩:=z;unfold callWith;refine w_ (wpAny_holding (wpAny_mono z (λa s2 y=>w_ (wpAny_standAt ?_)) λ_ _ y=>y));obtain⟨apos,akw⟩:=a;obtain⟨hkw,hlen,Z,⟨oI,hfI,hfc⟩,y⟩:=y;obtain rfl:akw=[]:=hkw;obtain⟨bm,N,nm,q,bs,sn,sub,ab,col,dd,k0,k1,k2,k3,k5,mN,hC,hn,hi,T,_⟩:=Z.obj;obtain⟨hp,g,d,tk,os⟩:=s2
 simp only[hplain]
 refine w_ (wpAny_keeperOf_exc hC ?_);refine w_ (qJ T hC hn hi hfI hfc (λh' e a1 a2 a3=>?_) hlen);refine wpAny_mono (y h' e a1 a2 a3) (λr s' u=>?_) λ_ _ u=>u;obtain⟨rfl,u1,⟨t,od,u2⟩,u3⟩:=u;exact⟨rfl,w_ (wpAny_holding (wpAny_point (u_ ⟨e,t,od,fI,rfl,u1,u2,u3⟩)))⟩
end
end L2
namespace L2
open PySem PySem.Spec PyProof.Rows
open PySem.W (Looks InstAt)
open PySem.Builtin PySem.Builtin.ObjectAttr
theorem kg (self:Value):∀{l:List Value},T3 l=true->refuseLoop self "__setattr__" l=pure ()
 | .ref c::r,e=>by rw[refuseLoop_ref];exact kg self (l:=r) e
 | [],e=>by cases e
 | .none::_,e=>by cases e
 | .bool _::_,e=>by cases e
 | .int _ _::_,e=>by cases e
 | .str _ _::_,e=>by cases e
 | .bytes _ _::_,e=>by cases e
 | .float _ _::_,e=>by cases e
 | .builtin _::_,e=>by cases e
 | .type n::r,e=>by
  rw[show(Value.type n::r)=kt from beq_iff_eq.mp e];exact PySem.F.store_ValueError.passes self
structure eY (K:Frag)(C:Addr):Prop where
 cd:∃cd,clsIn K C=some cd/\T3 cd.mro=true/\cd.hasDict=true
 sa:findIn K (.ref C) "__setattr__" = some (some (.builtin "object.__setattr__"))
 hd:PySem.W.hasDictIn K C=true
section
variable {prog:Program}{w:World}{A:Around}{E:Value->Shared->Prop}{s:Shared}{K:Frag}{x C:Addr}{R:Result->Shared->Prop}
def fu {ox:Obj}{od:Option Obj}{name:Str}{tk:Tok}{v:Value}(X:K.In s.heap)(I:InstAt s.heap x ox C od)(Z:eY K C)(mo:PySem.W.mroIn K C (.type "object")=some true)(ht:findIn K (.ref C) name=some none)
  (h:∀b,wpAny (model prog w) A.in1 (storeInOwnDict (.ref x) (.ref C) (.str name tk) name v b)
   (λfin s'=>match fin with | .done f=>R (.ok f) s' | .again c'=>c'.quiet=true/\codeAny (model prog w) A c' R s') (λe s'=>R (.error e) s') s) :
  codeAny (model prog w) A (.call (.builtin "object.__setattr__") ⟨[.ref x,.str name tk,v],[]⟩) R s:=by
 have SF:=PySem.F.store_object;obtain⟨cd,hc,ho,_⟩:=Z.cd;have sub:Looks (model prog w) s.heap (isInstance (.ref x) (.type "object")) true:=I.type.andThen (PySem.W.looks_mroIn X mo);refine codeAny_call_builtin SF.slot.plain SF.entry (@PySem.W.check_slot (model prog w) _ _ s "object.__setattr__" "object" "__setattr__" (.ref x) [.str name tk,v] [] _ SF.kind SF.split sub (SF.args (.ref x) (.str name tk) v) ?_);have hm:Looks (model prog w) s.heap (mroOf (.ref C)) cd.mro:=(PySem.W.looks_clsIn X hc).andThen .now;rw[PySem.W.osa_eq,refuse_eq];refine w_ (w_ (I.type.here (w_ (hm.here ?_))));rw[kg _ ho];refine u_ (w_ (I.type.here (w_ ((PySem.W.looks_findIn X ht).here (w_ (u_ ?_))))));exact h _
def oW {t:Addr}{name:Str}{v:Value}{Q:Unit->Shared->Prop}(X:K.In s.heap)(hx:s.heap.get? x=some (N0 C t none))(Z:eY K C)(mo:PySem.W.mroIn K C (.type "object")=some true)(ht:findIn K (.ref C) name=some none)
  (h:∀h',h'.get? x=some (N0 C t (some s.heap.objs.size))->h'.Ns1 s.heap.objs.size (λy=>if y=name then some v else none)->(∀b o,b≠x->s.heap.get? b=some o->h'.get? b=some o)->Q () { s with heap:=h',toks:=s.toks+2 }) :
  wpAny (model prog w) A (setAttr (.ref x) name v) Q E s:=by
 have J:InstAt s.heap x (N0 C t none) C none:=⟨hx,rfl,rfl,trivial⟩;refine PySem.W.set_plain X J Z.sa (fu (s:={ s with toks:=s.toks+1 }) X J Z mo ht λb=>?_)
 obtain⟨cd,hc,_,hd'⟩:=Z.cd;refine w_ (u_ (w_ (w_ (wpAny_loadPart hx (w_ (Looks.here (s:={ s with toks:=s.toks+1 }) (PySem.W.looks_clsIn X hc) ?_))))))
 rw[hd'];have x1:(s.heap.push { cls:=.type "dict",data:=.dict #[] }).get? x=some (N0 C t none):=Heap.get?_push_of_some _ hx;have nx:x≠s.heap.objs.size:=Nat.ne_of_lt (Heap.lt_size hx)
 show wpAny _ _ ((if (!true || !typeHasDict (Value.ref C))=true then _ else _)) _ _ _
 rw[if_neg (by simp[typeHasDict])]
 refine w_ (wpAny_alloc' ?_);refine w_ (wpAny_update' x1 ?_);refine u_ ?_
 show wpAny _ _ (storeInDict s.heap.objs.size (.str name s.toks) name v) _ _ _
 have gx:((s.heap.push { cls:=.type "dict",data:=.dict #[] }).update x λo=>{ cls:=o.cls,dict:=some s.heap.objs.size,data:=o.data,slots:=o.slots }).get? x=some (N0 C t (some s.heap.objs.size)):=Heap.get?_update_self _ x1 rfl
 have gd:((s.heap.push { cls:=.type "dict",data:=.dict #[] }).update x λo=>{ cls:=o.cls,dict:=some s.heap.objs.size,data:=o.data,slots:=o.slots }).get? s.heap.objs.size=some { cls:=.type "dict",data:=.dict #[] } :=
  (Heap.get?_update_ne _ _ _ _ nx.symm).trans (Heap.get?_push_at rfl rfl)
 have ko:∀b o,b≠x->s.heap.get? b=some o->((s.heap.push { cls:=.type "dict",data:=.dict #[] }).update x λo=>{ cls:=o.cls,dict:=some s.heap.objs.size,data:=o.data,slots:=o.slots }).get? b=some o:=λb o n e=>(Heap.get?_update_ne _ _ _ _ n).trans (Heap.get?_push_of_some _ e);generalize ((s.heap.push { cls:=.type "dict",data:=.dict #[] }).update x λo=>{ cls:=o.cls,dict:=some s.heap.objs.size,data:=o.data,slots:=o.slots })=g1 at gx gd ko ⊢;have nd:g1.Ns s.heap.objs.size (λ_=>none):=⟨_,#[],_,gd,rfl,λe he=>absurd he (by simp),λ_=>rfl⟩
 unfold storeInDict newKeyGuard;refine w_ (u_ (w_ (wpAny_nsSet1 (Heap.Ns1.of_empty nd) λh' hn' hs=>?_)));obtain⟨oD,esD,epD,hoD,hdD,hcD⟩:=hn'.count (PySem.Within.cons name v PySem.Within.nil);refine w_ (wpAny_lookBehind hoD (by rw[hdD];exact pastItsLine_dict (Nat.le_trans hcD (by rw[length_cons,length_nil,sizeLine_eq];lia))) ?_)
 exact u_ (h h' ((hs.2 x nx).trans gx) hn' λb o n e=>(hs.2 b (Nat.ne_of_lt (Heap.lt_size e))).trans (ko b o n e))
def pf {t dx:Addr}{mA:Str->Option Value}{ns:List Str}{name:Str}{v:Value}{Q:Unit->Shared->Prop}(X:K.In s.heap)(hx:s.heap.get? x=some (N0 C t (some dx)))(hn:s.heap.Ns1 dx mA)(hw:PySem.Within mA ns)(hz:ns.length<=1000)(Z:eY K C)
  (mo:PySem.W.mroIn K C (.type "object")=some true)(ht:findIn K (.ref C) name=some none)
  (h:∀h',h'.Ns1 dx (λy=>if y=name then some v else mA y)->Heap.SameBut dx s.heap h'->Q () { s with heap:=h',toks:=s.toks+2 }) :
  wpAny (model prog w) A (setAttr (.ref x) name v) Q E s:=by
 obtain⟨od,ho,hl⟩:=bC hn;have J:InstAt s.heap x (N0 C t (some dx)) C (some od):=⟨hx,rfl,rfl,ho⟩;refine PySem.W.set_plain X J Z.sa (fu (s:={ s with toks:=s.toks+1 }) X J Z mo ht λb=>?_)
 obtain⟨cd,hc,_,hd'⟩:=Z.cd;refine w_ (u_ (w_ (w_ (wpAny_loadPart hx (w_ (Looks.here (s:={ s with toks:=s.toks+1 }) (PySem.W.looks_clsIn X hc) ?_))))))
 rw[hd'];refine u_ (a:=some dx) (w_ (u_ (w_ ?_)));refine wpAny_nsSet1 (s:={ s with toks:=s.toks+1 }) hn λh' hn2 hs2=>?_
 obtain⟨oD,esD,epD,hoD,hdD,hcD⟩:=hn2.count (PySem.Within.cons name v hw);refine w_ (wpAny_lookBehind hoD (by rw[hdD];exact pastItsLine_dict (Nat.le_trans hcD (by rw[length_cons,sizeLine_eq];lia))) ?_)
 exact u_ (h _ hn2 hs2)
def yx {o:Obj}{dx:Addr}{mA:Str->Option Value}{name:Str}{v:Value}{expr:Bool}{Q:Value->Shared->Prop}(X:K.In s.heap)(Z:de K C)(N:eY K C)(hx:s.heap.get? x=some o)(hc:o.cls=.ref C)(hf:∃fs,o.data=.fields fs)(hd:o.dict=some dx)(hn:s.heap.Ns1 dx mA)
  (ht:findIn K (.ref C) name=some none)(hv:mA name=some v)(hh:PySem.W.handedIn v=true)(h:Q v { s with toks:=s.toks+1 }) :
  wpAny (model prog w) A (getAttr (.ref x) name expr) Q E s:=by
 obtain⟨od,ho,hl⟩:=bC hn;obtain⟨fs,hfs⟩:=hf;have J:InstAt s.heap x o C (some od):=⟨hx,hc,by obtain⟨a,b,c,d⟩:=o;cases hfs;rfl,by rw[hd];exact ho⟩
 have Lf:=PySem.W.looks_find (M:=model prog w) X J (PySem.W.findObj_own N.hd ht rfl (by rw[hl,hv]))
 obtain⟨hh0,g,dr,t,os⟩:=s;have L0:Looks (model prog w) hh0 (typeOf (.ref x)) (.ref C):=hc▸(Looks.ld hx).andThen .now;have L1:=PySem.W.looks_findIn (M:=model prog w) X Z.ga;have L2:=PySem.W.looks_findIn (M:=model prog w) X Z.gn;have L4:=PySem.W.looks_mroIn (M:=model prog w) X Z.mb;have f3:=PySem.F.attr_ValueError.ga.bind (.ref x);have hk:builtinKind "BaseException.__getattribute__" = some .slot:=by decide +kernel
 have hsplit:splitId "BaseException.__getattribute__" = some ("BaseException","__getattribute__"):=by decide +kernel
 unfold getAttr getAttrBy;refine w_ (wpAny_mkText (wpAny_holding (w_ (L0.at (w_ (L1.at ?_))))))
 show wpAny _ _ (getAttrByItsOwn _ _ _ _ _ _) _ _ _
 unfold getAttrByItsOwn;refine w_ ?_
 show wpAny _ _ (typeLookup _ _) _ _ _
 refine L2.at ?_;refine w_ (wpAny_attempt (wpAny_holding ?_));unfold callGetattribute;rw[if_neg (by simp[onTheHeap])]
 unfold boundAndCalled;refine w_ ?_;rw[f3];refine u_ ?_;refine wpAny_call (codeAny_call_builtin PySem.F.attr_ValueError.ga.plain PySem.F.entry_bexc_ga ?_);have ha:=PySem.F.args_bexc_ga (.ref x) (.str name t)
 simp only[checkBuiltinCall,hk,hsplit]
 refine w_ ?_;unfold isInstance;refine w_ (L0.at (L4.at ?_))
 simp only[Bool.not_true,Bool.false_eq_true,if_false]
 refine wpAny_mono (Q:=λ_ s1=>s1=⟨hh0,g,dr,t+1,os⟩) (E:=λ_ _=>False) ?_ (λ_ s1 z=>?_) λ_ _ z=>z.elim
 ·cases hs:Manifest.signature? "BaseException.__getattribute__" with
  | none=>exact u_ rfl
  | some sig =>
   simp only[argsOk,hs] at ha
   have h2:Bind.checkArgs "BaseException.__getattribute__" sig ⟨[.ref x,.str name t],[]⟩=pure ():=ha
   show wpAny _ _ (Bind.checkArgs "BaseException.__getattribute__" sig ⟨[.ref x,.str name t],[]⟩) _ _ _
   rw[h2];exact u_ rfl
 subst z;unfold Builtin.«object.__getattribute__»;refine w_ (u_ (w_ (u_ (w_ (L0.at (w_ (Lf.at (u_ ?_))))))))
 show wpAny _ _ (handedOut v) _ _ _
 rw[PySem.W.handedOut_of hh];exact u_ h
end
def M5 (e C:Addr)(od:Option Addr):HO:=.ext λh=>∃t,h.get? e=some (N0 C t od)
def XdO (dx:Addr)(fs:List (Str×V)):HO:=.ext λh=>∃mA,h.Ns1 dx mA/\(∀f,aZ (fs.lookup f) (mA f))/\PySem.Within mA (fs.map (·.1))
def U1 (e C:Addr)(od:Option Addr):HO:=.ext λh=>∃o vs,h.get? e=some o/\o.cls=.ref C/\o.data=.fields vs/\o.dict=od
def iF {P:Program}{w:World}{H:Hp}{h:Heap}{e C t:Addr}{od:Option Addr}(g:h.get? e=some (N0 C t od)):r9 P w H h e (M5 e C od):=⟨⟨t,g⟩,⟨_,g⟩,λh1 h2 ⟨t',g'⟩ k=>⟨t',k _ g'⟩⟩
def xb {h1 h2:Heap}{d:Addr}{m:Str->Option Value}(n:h1.Ns1 d m)(k:∀o,h1.get? d=some o->h2.get? d=some o):h2.Ns1 d m:=by
 obtain⟨o,es,ep,e,r⟩:=n;exact⟨o,es,ep,k _ e,r⟩
def sI {P:Program}{w:World}{H:Hp}{h:Heap}{dx:Addr}{fs:List (Str×V)}{mA:Str->Option Value}(n:h.Ns1 dx mA)(r:∀f,aZ (fs.lookup f) (mA f))(wi:PySem.Within mA (fs.map (·.1))):r9 P w H h dx (XdO dx fs):=by
 obtain⟨o,es,ep,e,r'⟩:=id n;exact⟨⟨mA,n,r,wi⟩,⟨_,e⟩,λh1 h2 ⟨m,n1,r1,w1⟩ k=>⟨m,xb n1 k,r1,w1⟩⟩
section
variable {X:Cx}{o value:Expr}{ta tv:TE}{f:Str}{pos pos':Pos}
def sX0 (K:Frag)(ta tv:TE)(f:Str):TS:=λD σ H=>tv σ H λy H1=>ta σ H1 λx H2=>∃a C,x=.ref a/\H2 a=some (M5 a C none)/\eY K C/\PySem.W.mroIn K C (.type "object")=some true/\findIn K (.ref C) f=some none /\
 ∀dx,H2 dx=none->D.nx σ (upd (upd H2 a (M5 a C (some dx))) dx (XdO dx [(f,y)]))
def vE (K:Frag)(ha:PE X o ta)(hv:PE X value tv)(hs:swapsWith value (some (.Attribute o f pos')) pos.line X.env=pure false)(hK:X.K=K:=by rfl):PS X (.Assign [.Attribute o f pos'] value pos) (sX0 K ta tv f):=by
 subst hK
 intro pins s σ H D I h
 refine plainObj_wpAny_Assign_Attribute (thn (hv pins s σ H _ I h) λu s1 ⟨y,H1,I1,ry,q⟩=>thn (ha pins s1 σ H1 _ I1 q) λov s2 ⟨x,H2,I2,rx,a,C,ex,ea,Z,mo,nf,q2⟩=>?_) hs;subst ex;obtain rfl:ov=Value.ref a:=rx;obtain⟨⟨t,g⟩,_,_⟩:=(show r9 X.prog X.w H2 s2.heap a (M5 a C none) from I2.hok a _ ea);refine oW I2.kIn g Z mo nf λh' g' n' kp=>?_;have fr:H2 s2.heap.objs.size=none:=I2.hok.fresh (Nat.le_refl _);have na:s2.heap.objs.size≠a:=Nat.ne_of_gt (Heap.lt_size g);have mu:Mut (H2 a):=by rw[ea];exact True.intro
 have new1:r9 X.prog X.w (upd H2 a (M5 a C (some s2.heap.objs.size))) h' a (M5 a C (some s2.heap.objs.size)):=iF g';have ok1:=I2.hok.write (e:=a) mu (.inl rfl) (λb u hb z=>kp b u hb z) ⟨_,g'⟩ new1;have fr1:upd H2 a (M5 a C (some s2.heap.objs.size)) s2.heap.objs.size=none:=by rw[j2 na];exact fr
 refine⟨σ,_,I2.call' (s':={ s2 with heap:=h',toks:=s2.toks+2 }) (ch:=[]) rfl (Un.track (Un.write (e:=a) mu (.inl rfl) (λb u hb z=>kp b u hb z) ⟨_,g'⟩) (Nat.le_refl _) fr) (HOk.track ok1 fr1 (sI (fs:=[(f,y)]) n' (λg=>?_) ?_)) I2.bare (λb z=>nomatch z),q2 _ fr⟩
 ·by_cases z:g=f
  ·subst z
   simp only[List.lookup,beq_self_eq_true,if_true]
   exact ry
  ·have z':(g==f)=false:=beq_eq_false_iff_ne.mpr z
   simp only[List.lookup,z',if_neg z]
   exact True.intro
 ·exact PySem.Within.cons f u PySem.Within.nil
def sX1 (K:Frag)(ta tv:TE)(f:Str):TS:=λD σ H=>tv σ H λy H1=>ta σ H1 λx H2=>∃a C dx fs,x=.ref a/\H2 a=some (M5 a C (some dx))/\H2 dx=some (XdO dx fs)/\eY K C/\PySem.W.mroIn K C (.type "object")=some true/\findIn K (.ref C) f=some none/\fs.length<1000 /\
 D.nx σ (upd H2 dx (XdO dx ((f,y)::fs)))
def xR (K:Frag)(ha:PE X o ta)(hv:PE X value tv)(hs:swapsWith value (some (.Attribute o f pos')) pos.line X.env=pure false)(hK:X.K=K:=by rfl):PS X (.Assign [.Attribute o f pos'] value pos) (sX1 K ta tv f):=by
 subst hK
 intro pins s σ H D I h
 refine plainObj_wpAny_Assign_Attribute (thn (hv pins s σ H _ I h) λu s1 ⟨y,H1,I1,ry,q⟩=>thn (ha pins s1 σ H1 _ I1 q) λov s2 ⟨x,H2,I2,rx,a,C,dx,fs,ex,ea,ed,Z,mo,nf,hl,q2⟩=>?_) hs;subst ex;obtain rfl:ov=Value.ref a:=rx;obtain⟨⟨t,g⟩,_,_⟩:=(show r9 X.prog X.w H2 s2.heap a (M5 a C (some dx)) from I2.hok a _ ea);obtain⟨⟨mA,n,r,wi⟩,_,_⟩:=(show r9 X.prog X.w H2 s2.heap dx (XdO dx fs) from I2.hok dx _ ed);refine pf I2.kIn g n wi (by rw[length_map];lia) Z mo nf λh' n' sb=>?_
 have he:∃u,h'.get? dx=some u:=by obtain⟨o,_,_,e,_⟩:=id n';exact⟨o,e⟩
 refine⟨σ,_,I2.write (x:=dx) (e:=dx) (o:=XdO dx ((f,y)::fs)) (by rw[ed];exact True.intro) (.inl rfl) (λb u hb z=>(sb.2 b hb).trans z) he (sI n' (λg=>?_) ?_),q2⟩
 ·by_cases z:g=f
  ·subst z
   simp only[List.lookup,beq_self_eq_true,if_true]
   exact ry
  ·have z':(g==f)=false:=beq_eq_false_iff_ne.mpr z
   simp only[List.lookup,z',if_neg z]
   exact r g
 ·rw[map_cons]
  exact PySem.Within.cons f u wi
def tXf (K:Frag)(ta:TE)(f:Str):TE:=λσ H Q=>ta σ H λx H1=>∃a C dx fs v,x=.ref a/\H1 a=some (U1 a C (some dx))/\H1 dx=some (XdO dx fs)/\de K C/\eY K C/\findIn K (.ref C) f=some none/\fs.lookup f=some v/\Q v H1
def dE (K:Frag)(he:PE X o ta)(hK:X.K=K:=by rfl)(hb:attributeBase o f X.env (eval o X.env)=eval o X.env:=by rfl):PE X (.Attribute o f pos) (tXf K ta f):=by
 subst hK
 intro pins s σ H Q I h
 refine ve hb (thn (he pins s σ H _ I h) λu s1 ⟨x,H1,I1,rx,a,C,dx,fs,v,ex,ea,ed,Z,N,nf,l,q⟩=>?_);subst ex;obtain rfl:u=Value.ref a:=rx;obtain⟨⟨o,vs,g,hc,hd,hdd⟩,_,_⟩:=(show r9 X.prog X.w H1 s1.heap a (U1 a C (some dx)) from I1.hok a _ ea);obtain⟨⟨mA,n,r,wi⟩,_,_⟩:=(show r9 X.prog X.w H1 s1.heap dx (XdO dx fs) from I1.hok dx _ ed);obtain⟨u',hu,ru⟩:=aZ.some_of (v:=v) (o:=mA f) (by rw[<- l];exact r f)
 exact yx I1.kIn Z N g hc ⟨vs,hd⟩ hdd n nf hu (qb ru) ⟨v,H1,I1.tok _,ru,q⟩
def sX (K:Frag):List V->Hp->VK->Prop:=λxs H Q=>∃ea C od d c b,xs=[.ref ea,d]/\(∀u,u7 d u->u=c)/\H ea=some (U1 ea C od)/\de K C/\kitOne K (.ref C) c=some b/\Q (.bl b) H
def A6 (K:Frag)(h:X.K=K:=by rfl):A3 X (.builtin "isinstance") (sX K):=by
 subst h
 intro pins s σ H xs us Q I r h
 obtain⟨ea,C,od,d,c,b,rfl,hd,he,Z,e,q⟩:=h;obtain⟨u,u',rfl,r1,r2⟩:=dq r
 cases (show u=Value.ref ea from r1)
 cases hd u' r2
 obtain⟨⟨o,vs,ho,hc,_⟩,_⟩:=(show r9 X.prog X.w H s.heap ea (U1 ea C od) from I.hok ea _ he);exact PySem.W.kia_one (rY Z) I.kIn ⟨o,ho,hc⟩ e (λz=>nomatch z) λtk=>⟨.bl b,H,I.tok _,rfl,q⟩
end
def iP (H:Hp)(e:Addr):Hp:=λb=>if b=e then none else H b
def fK {H:Hp}{e:Addr}:iP H e e=none:=if_pos rfl
def E8 {H:Hp}{e b:Addr}(h:b≠e):iP H e b=H b:=if_neg h
def CXF (P:Program)(w:World):CXT:=λouter H s E e s'=>∃(ea C:Addr)(a0:Value)(B:Heap)(H':Hp)(od:Option Addr),
 e=.ref ea/\s'.os=s.os/\AllBare s'.gens/\Heap.FlyingW B outer ea (.ref C) a0 s'.heap/\K9 s'.heap ea od/\Fly (frs outer) H H' s.heap B s'.heap/\HOk P w H' B/\E (.ref C) od H'
def nK (X:Cx)(E:St->XK):Prop:=∀(pins:List (Addr×Obj))(σ:St)(H:Hp)(s:Shared)(e:Value)(s':Shared),Inv X pins σ H s->CXF X.prog X.w X.stack H s (E σ) e s'->X.xe e s'
def rD (X:Cx)(E:XK):Prop:=∀(pins:List (Addr×Obj))(σ:St)(H:Hp)(s:Shared)(e C:Addr)(od:Option Addr),Inv X pins σ H s->H e=some (M5 e C od)->X.s₀.heap.get? e=none->E (.ref C) od (iP H e)->X.xe (.ref e) s
section
variable {P:Program}{w:World}{K:Frag}{mg:Str->Option Value}{base:Heap}{N:List Str}{qual:Str}{scope:Scope}{f:Addr}{cd:Value}{A:Around}{outer:List Env}{s:Shared}{H:Hp}{E:XK}
def V9:rD (P1 (CXF P w) P w K mg base N qual scope f cd A outer s H E) E:=by
 intro pins σ H1 s1 e C od I he h0 hE
 show wpAny _ _ (leaving _ (.ref e)) _ _ _
 have fr:frs (P1 (CXF P w) P w K mg base N qual scope f cd A outer s H E).stack=s.heap.objs.size::frs outer:=kG rfl;have hin:∀env∈(P1 (CXF P w) P w K mg base N qual scope f cd A outer s H E).stack,∀a,env.frame=some a->a∈e::frs (P1 (CXF P w) P w K mg base N qual scope f cd A outer s H E).stack:=λenv hm b hb=>mem_cons_of_mem _ (List.mem_filterMap.mpr ⟨env,hm,hb⟩);have frees:=I.stkFree;have stk:=I.stack;obtain⟨⟨t,g⟩,_,_⟩:=(show r9 P w H1 s1.heap e (M5 e C od) from I.hok e _ he);refine fc (B:=PySem.W.hideAll s1.heap (e::frs (P1 (CXF P w) P w K mg base N qual scope f cd A outer s H E).stack)) I.ok.frames (PySem.W.funFrames_hide stk hin) rfl g (λb o q=>PySem.W.of_hideAll _ q) (PySem.W.hideAll_none _ (mem_cons_self ..)) rfl rfl rfl λh'' fl up dz=>?_
 have ne:∀b,b∈frs (P1 (CXF P w) P w K mg base N qual scope f cd A outer s H E).stack->b≠e:=λb hb z=>by
  have:=frees b hb
  rw[z,he] at this
  cases this
 have keepB:∀b o,s1.heap.get? b=some o->b≠e->b∉frs (P1 (CXF P w) P w K mg base N qual scope f cd A outer s H E).stack->(PySem.W.hideAll s1.heap (e::frs (P1 (CXF P w) P w K mg base N qual scope f cd A outer s H E).stack)).get? b=some o:=λb o q n1 n2=>PySem.W.hideAll_get _ q λz=>(mem_cons.mp z).elim n1 n2
 have n0:∀b o,s.heap.get? b=some o->b≠e:=λb o q z=>by
  have h0':s.heap.get? e=none:=h0;rw[z,h0'] at q
  cases q
 have nL:∀b o,s.heap.get? b=some o->b∉frs outer->b∉frs (P1 (CXF P w) P w K mg base N qual scope f cd A outer s H E).stack:=λb o q hb z=>by
  rw[fr] at z
  rcases mem_cons.mp z with y|y
  ·exact absurd (Heap.lt_size q) (by rw[y];exact Nat.lt_irrefl _)
  ·exact hb y
 have fly:Fly (frs outer) H (iP H1 e) s.heap (PySem.W.hideAll s1.heap (e::frs (P1 (CXF P w) P w K mg base N qual scope f cd A outer s H E).stack)) h'':=by
  refine⟨λb o q hb=>?_,λb o q hb=>?_,λb o q n=>?_,λb xs q=>?_,λb o u q=>?_,λb ps q=>?_⟩
  ·obtain⟨o1,e1⟩:=I.base.there b o q (show _∉([]:List Addr) by simp)
   refine⟨⟨o1,keepB b o1 e1 (n0 b o q) (nL b o q hb)⟩,λn=>?_⟩;exact keepB b o (I.base.keep b o q n hb (show _∉([]:List Addr) by simp)) (n0 b o q) (nL b o q hb)
  ·obtain⟨s1',q1⟩:=I.base.slot b o q (I.ok.frf b hb) hb (show _∉([]:List Addr) by simp)
   have hb':b∈frs (P1 (CXF P w) P w K mg base N qual scope f cd A outer s H E).stack:=by rw[fr];exact mem_cons_of_mem _ hb
   obtain⟨s2',q2⟩:=up b _ q1 (by
    obtain⟨_,o',q',d⟩:=stk.mem hb';rw[q1] at q'
    cases q'
    exact d)
   exact⟨s2',q2⟩
  ·rw[E8 (n0 b o q)]
   exact I.base.free b o q n (show _∉([]:List Addr) by simp)
  ·have z:=I.base.tups b xs q
   rw[E8 (λy=>by rw[y,he] at z;cases z)]
   exact z
  ·have z:=I.base.frzs b o u q
   rw[E8 (λy=>by rw[y,he] at z;cases z)]
   exact z
  ·obtain⟨m,z⟩:=I.base.tbls b ps q
   exact⟨m,by rw[E8 (λy=>by rw[y,he] at z;cases z)];exact z⟩
 refine⟨e,C,_,_,iP H1 e,od,rfl,I.os,I.bare,fl,dz,fly,λb u e1=>?_,hE⟩;have nb:b≠e:=λz=>by rw[z,fK] at e1;cases e1
 rw[E8 nb] at e1;refine(I.hok b u e1).stay (λc v hc q=>keepB c v q ?_ λhm=>?_) (λc q=>?_) λc xs q=>?_
 ·rintro rfl
  rcases hc with z|z
  ·exact nb z.symm
  ·rw[he] at z;cases z
 ·have hn:=frees c hm
  rcases hc with z|z
  ·rw[z] at hn;rw[e1] at hn;cases hn
  ·rw[z] at hn;cases hn
 ·rw[E8 (λy=>by rw[y,he] at q;cases q)];exact q
 ·rw[E8 (λy=>by rw[y,he] at q;cases q)];exact q
def bq {E2:XK}(hE:∀c d H,E2 c d H->E c d H):nK (P1 (CXF P w) P w K mg base N qual scope f cd A outer s H E) (λ_=>E2):=by
 intro pins σ H1 s1 e s' I c
 obtain⟨ea,C,a0,B,H2,od,rfl,os,bare,fl,dz,fy,hok,hE2⟩:=c
 show wpAny _ _ (leaving _ (.ref ea)) _ _ _
 have fr:frs (P1 (CXF P w) P w K mg base N qual scope f cd A outer s H E).stack=s.heap.objs.size::frs outer:=kG rfl;refine nr I.ok.frames rfl fl dz λh'' fl' up dz'=>?_
 have f2:=fy.up (h3:=h'') λb hb o e1=>up b o e1 (by
  obtain⟨_,o',q,d⟩:=fl.2.2.1.mem hb
  rw[e1] at q;cases q;exact d)
 refine⟨ea,C,a0,B,H2,od,rfl,os.trans I.os,bare,fl',dz',f2.after (u:=I.base) (λb o e1 hb=>?_) (λb hb=>by rw[fr];exact mem_cons_of_mem _ hb) I.ok.frf,hok,hE _ _ _ hE2⟩
 rw[fr]
 intro z
 rcases mem_cons.mp z with z|z
 ·exact absurd (Heap.lt_size e1) (by rw[z];exact Nat.lt_irrefl _)
 ·exact hb z
end
structure K0 (P:Program)(w:World)(K:Frag)(mg:Str->Option Value)(base:Heap)(k:Nat)(x:Str)(ps:List Str)(dvs:List V)(sp:Sp):Prop where
 ex:∃(f:Addr)(fd:FuncData),aL P w K mg base (CXF P w) k f fd ps sp/\(∀m,m<=dvs.length->∃ds,o9 (dvs.drop m) ds/\V6 K fd ps ds)/\keepIn K (.ref f)=true/\mg x=some (.ref f)
section
variable {P:Program}{w:World}{K:Frag}{mg:Str->Option Value}{base:Heap}
theorem cA.okF {x:Str}{st:Stmt}{N ps:List Str}{k:Nat}{dvs:List V}{sp:Sp}(D:cA K mg x st ps dvs)(S:FnScope N ps (i3 st))(len:∀vs H Q E,sp vs H Q E->vs.length=ps.length)
  (hbody:∀(f:Addr)(cdv:Value)(A:Around)(outer:List Env)(s:Shared)(H:Hp)(vs:List V)(Q:VK)(E:XK),B5 k (A.deeper (envOfC x (i3 st) s.heap.objs.size f cdv))->sp vs H Q E ->
   ∃t,PSs (P1 (CXF P w) P w K mg base N x (i3 st) f cdv A outer s H E) (z9 st) t/\t { nx:=λ_ H'=>Q .non H',rt:=Q } (start N vs) H):K0 P w K mg base (k+1) x ps dvs sp:=by
 obtain⟨f,fd,⟨oc,od,dV,kV,doc,pm,an,cdv,ct,osl,rfl,lk,hcd⟩,kp,b,m⟩:=D.ex;exact⟨f,_,kN lk hcd S len λA outer s H vs Q E hr hsp=>hbody f cdv A outer s H vs Q E hr hsp,b,kp,m⟩
theorem Def.okF {x:Str}{st:Stmt}{N ps:List Str}{k:Nat}{sp:Sp}(D:Def K mg x st ps)(S:FnScope N ps (i3 st))(len:∀vs H Q E,sp vs H Q E->vs.length=ps.length)
  (hbody:∀(f:Addr)(cdv:Value)(A:Around)(outer:List Env)(s:Shared)(H:Hp)(vs:List V)(Q:VK)(E:XK),B5 k (A.deeper (envOfC x (i3 st) s.heap.objs.size f cdv))->sp vs H Q E ->
   ∃t,PSs (P1 (CXF P w) P w K mg base N x (i3 st) f cdv A outer s H E) (z9 st) t/\t { nx:=λ_ H'=>Q .non H',rt:=Q } (start N vs) H):K0 P w K mg base (k+1) x ps [] sp:=by
 obtain⟨f,fd,⟨⟨oc,od,kV,doc,pm,an,cdv,ct,osl,rfl,lk,hcd⟩,kp⟩,b,m⟩:=D.ex;refine⟨f,_,kN lk hcd S len λA outer s H vs Q E hr hsp=>hbody f cdv A outer s H vs Q E hr hsp,λj hj=>⟨[],?_,b⟩,kp,m⟩;rw[List.drop_nil];exact .nil
end
section
variable {X:Cx}{k n:Nat}{ps:List Str}{dvs:List V}{sp:Sp}{x:Str}{p pos:Pos}{e:Expr}{es:List Expr}{t:TA}{E:St->XK}
theorem uu {f:Addr}{fd:FuncData}{ds:List Value}{pins:List (Addr×Obj)}{σ:St}{H:Hp}{s:Shared}{Q:VK}{us:List Value}{vs:List V}(F:aL X.prog X.w X.K X.mg X.base (CXF X.prog X.w) k f fd ps sp)(hr:B5 k X.A)(hb:V6 X.K fd ps ds)(hd:o9 dvs ds)(hx:nK X E)
  (I:Inv X pins σ H s)(r:o9 vs us)(h:sp (vs++dvs) H Q (E σ)):wpAny (model X.prog X.w) X.A (call (.ref f) us) (EP X pins σ Q) X.xe s:=by
 have r2:o9 (vs++dvs) (us++ds):=r.append hd;have hl:(us++ds).length=ps.length:=by rw[<- r2.length];exact F.len _ _ _ _ h
 refine wpAny_call (codeAny_mono (F.run X.A X.stack s H ⟨us,[]⟩ (us++ds) (vs++dvs) Q (E σ) hr I.env0 (hb s us I.kIn hl) r2 h) λr s' hq=>?_)
 cases r with
 | error e=>exact hx pins σ H s e s' I hq
 | ok fl =>
  cases fl with
  | ret u=>exact I.after hq
  | next=>exact False.elim hq
  | brk=>exact False.elim hq
  | cont=>exact False.elim hq
def bF (m:Nat)(C:K0 X.prog X.w X.K X.mg X.base k x ps dvs sp)(hx:nK X E)(hr:B5 n X.A)(hg:Gl X x)(ha:PA X (e::es) t)(hm:m<=dvs.length:=by decide)(hk:k<=n:=by decide)(hdb:(x==("__debug__":Str))=false:=by decide)
  (he:starEach (e::es) X.env=(false,eval e X.env)::starEach es X.env:=by rfl) (hpl:(backTo pos (starEach es X.env)).any (·.1)=false:=by rfl) :
  PE X (.Call (.Name x p) (e::es) [] pos) (wo sp (dvs.drop m) E t):=by
 obtain⟨f,fd,F,b,kp,mm⟩:=C.ex;obtain⟨ds,hv,hb⟩:=b m hm
 intro pins s σ H Q I h
 refine wpAny_Call_Name_kw (aa I hg mm ?_ hdb);refine PySem.W.callWith_K (h₀:=X.base) I.ok.mod.kin kp (thn (ha pos pins s σ H _ I h) λus s1 ⟨vs,H1,I1,r,q⟩=>⟨I1.kIn,?_⟩) he hpl;exact uu F (hr.mono hk) hb hv hx I1 r q
end
structure wq (K:Frag)(mg:Str->Option Value)(x:Str)(C fI:Addr):Prop where
 mg:mg x=some (.ref C)
 exc:aG K C fI=true
 at_:findIn K (.ref C) "__init__" = some (some (.ref fI))
section
variable {X:Cx}{C:Addr}{x:Str}{E:XK}{np cpos pos:Pos}{e:Expr}{es:List Expr}{t:TA}{k n:Nat}{ps:List Str}{kb:FuncData->Prop}{sp:Sp}
def tZ (C:Addr)(sp:Sp)(E:XK)(t:TA):TS:=λ_ σ H=>t σ H λvs H1=>vs.length<=1000/\∀ea,H1 ea=none->sp (.ref ea::vs) (upd H1 ea (M5 ea C none)) (λr H2=>r=.non/\∃od,H2 ea=some (M5 ea C od)/\E (.ref C) od (iP H2 ea)) E0
theorem bA (hl:rD X E)(M:∃fI,wq X.K X.mg x C fI)(Z:Z0 X.prog X.w X.K X.mg X.base k C "__init__" ps [] kb sp)(hr:B5 n X.A)(hh:X.A.handled=none)(hg:Gl X x)(ha:PA X (e::es) t)(hk:k+1<=n:=by decide)(hdb:(x==("__debug__":Str))=false:=by decide)(hx0:X.ex=[]:=by rfl)
  (hst:starEach (e::es) X.env=(false,eval e X.env)::starEach es X.env:=by rfl) (hpl:(backTo cpos (starEach es X.env)).any (·.1)=false:=by rfl):PS X (.Raise (some (.Call (.Name x np) (e::es) [] cpos)) none pos) (tZ C sp E t):=by
 obtain⟨fI,M⟩:=M;obtain⟨f,fd,F,mt,hkb,b⟩:=Z.ex
 have ef:f=fI:=by
  have z:=mt.at_;rw[M.at_] at z
  cases z
  rfl
 subst ef;obtain⟨ds,hv,hb⟩:=b 0 (Nat.zero_le _);rw[drop_zero] at hv
 cases hv
 intro pins s σ H D I h
 have hpl':(backTo cpos (starEach (e::es) X.env)).any (·.1)=false:=by rw[hst];exact hpl
 refine mD (C:=C) (fI:=f) hh hpl' (aa I hg M.mg ⟨rfl,?_⟩ hdb);have hA:=ha cpos pins s σ H _ I h;rw[hst] at hA ⊢;refine Calls.evalArgs_plain ?_;refine thn hA λus s2 ⟨vs,H2,I2,r2,hlen,q2⟩=>?_
 have hfn:∃oI,s2.heap.get? f=some oI/\oI.cls=.type "function":=by
  have z:typeIn X.K (.ref f)=some (.type "function"):=beq_iff_eq.mp mt.fn;obtain⟨oI,h1,h2⟩:=Option.map_eq_some_iff.mp (show(X.K.lookup f).map (·.cls)=_ from z);exact⟨oI,I2.kIn _ _ h1,h2⟩
 refine⟨rfl,by rw[<- r2.length];exact Nat.le_of_lt (k8 hlen),nR I2.kIn M.exc,hfn,λh' ea kp hsz ⟨tt,ge⟩=>?_⟩
 have fr:=I2.hok.fresh hsz;have I3:Inv X pins σ (upd H2 ea (M5 ea C none)) { s2 with heap:=h' }:=I2.laid (t':=s2.toks) kp hsz (iF ge)
 have hq:=q2 ea fr;have rr:o9 (V.ref ea::vs) (Value.ref ea::us):=.cons rfl r2;have hll:(Value.ref ea::us).length=ps.length:=by rw[<- rr.length];exact F.len _ _ _ _ hq
 have s0n:X.s₀.heap.get? ea=none:=by
  cases z:X.s₀.heap.get? ea with
  | none=>rfl
  | some o =>
   obtain⟨o',e'⟩:=I2.base.there ea o z (by rw[hx0];simp)
   exact absurd (Heap.lt_size e') (Nat.not_lt.mpr hsz)
 refine wpAny_call (codeAny_mono (F.run _ X.stack _ _ ⟨.ref ea::us,[]⟩ (.ref ea::us) _ _ E0 ((hr.mono hk).make C us []) (I3.env0.make C us []) (by have:=hb _ (.ref ea::us) I3.kIn (by rw[append_nil];exact hll);rw[append_nil] at this;exact this) rr hq) λr s' hq'=>?_)
 cases r with
 | error e=>exact(vt (X:=X)) pins σ _ _ e s' I3 hq'
 | ok fl =>
  cases fl with
  | ret u =>
   obtain⟨v,H',I4,rv,ev,od,eH,hE⟩:=I3.after hq';subst ev
   cases (show u=Value.none from rv)
   obtain⟨⟨t',g'⟩,_,_⟩:=(show r9 X.prog X.w H' s'.heap ea (M5 ea C od) from I4.hok ea _ eH);exact⟨rfl,nR I4.kIn M.exc,⟨t',od,g'⟩,hl pins σ H' s' ea C od I4 eH s0n hE⟩
  | next=>exact False.elim hq'
  | brk=>exact False.elim hq'
  | cont=>exact False.elim hq'
end
def xeF (X:Cx)(pn:List (Addr×Obj))(E:St->XK):Value->Shared->Prop:=λe s'=>∃(pins:List (Addr×Obj))(σ:St)(H:Hp)(s1:Shared),Inv (X.pinned pn) pins σ H s1/\CXF X.prog X.w X.stack H s1 (E σ) e s'
abbrev xm (X:Cx)(pn:List (Addr×Obj))(E:St->XK):Cx:=(X.pinned pn).wish (xeF X pn E)
section
variable {X:Cx}{pins:List (Addr×Obj)}{σ:St}{H:Hp}{s:Shared}
def fE {pn:List (Addr×Obj)}{E:St->XK}:nK (xm X pn E) E:=λpins σ H s _ _ I c=>⟨pins,σ,H,s,I.unwish,c⟩
end
section
variable {X:Cx}
def xY (K:Frag)(c:Value)(i:Nat)(tb:(St->XK)->TS)(th:TS):TS:=λD σ H=>∃E:St->XK,tb E D σ H/\∀σ' c0 d H',E σ' c0 d H'->σ'.length=σ.length/\exmOne K c0 c=some true /\
 ∀(ea C:Addr),c0=.ref C->H' ea=none->th (D.gone i) (σ'.set i (some (.ref ea))) (upd H' ea (U1 ea C d))
def uL {x n:Str}{c:Value}{i:Nat}{body:List Stmt}{b₀:Stmt}{suite:List Stmt}{np hpos pos:Pos}{tb:(St->XK)->TS}{th:TS}(hg:Gl X x)(hm:X.mg x=some c)(hN:X.N.Nodup)(hi:X.N[i]? = some n)
  (hl:X.env.scope.names.lookup n=some .local)(hst:X.stack=X.env::X.outer)(hf:X.env.frame=some X.env.locals)(hx0:X.ex=[])
  (hb:∀(pn:List (Addr×Obj))(E:St->XK),PSs (xm X pn E) body (tb E))(hs:∀ea,PSs (hcx X ea) (b₀::suite) th)(hdb:(x==("__debug__":Str))=false:=by decide) :
  PS X (.Try body [.ExceptHandler (some (.Name x np)) (some n) (b₀::suite) hpos] [] [] pos) (xY X.K c i tb th):=by
 intro pins s σ H D I h
 obtain⟨E,h1,h2⟩:=h;have lenσ:=I.len;refine wpAny_Try_except ?_;refine wpAny_mono (hb (X.pn++pins) E [] s σ H D (I.toPinned.wish _) h1) (λfl s1 q=>?_) (λe s1 q=>?_)
 ·cases fl with
  | next=>obtain⟨σ',H',J,q⟩:=q;exact wpAny_execs_nil ⟨σ',H',J.unwish.ofPinned,q⟩
  | brk=>obtain⟨σ',H',J,q⟩:=q;exact⟨σ',H',J.unwish.ofPinned,q⟩
  | cont=>obtain⟨σ',H',J,q⟩:=q;exact⟨σ',H',J.unwish.ofPinned,q⟩
  | ret u=>obtain⟨v,σ',H',J,r,q⟩:=q;exact⟨v,σ',H',J.unwish.ofPinned,r,q⟩
 ·obtain⟨ps,σ1,H1,s0,J0,ea,C,a0,B,H2,od,rfl,os,bare,fl,dz0,fy,hok,hE⟩:=q
  have J1:Inv X pins σ1 H1 s0:=J0.ofPinned;obtain⟨lσ,hex,hth⟩:=h2 σ1 _ _ H2 hE
  have he2:H2 ea=none:=by
   cases q:H2 ea with
   | none=>rfl
   | some o=>obtain⟨u,e⟩:=(hok ea o q).at_;rw[fl.2.1] at e;cases e
  have hframes:X.A.frames=some (X.env::X.outer):=hst▸I.ok.frames
  have flup:∀{h3:Heap},s1.heap.UpToSlots h3->Fly (frs X.stack) H1 H2 s0.heap B h3:=λ{h3} up=>fy.up λb hb o e1=>up b o e1 (by
   obtain⟨_,o',q,d⟩:=fl.2.2.1.mem hb
   rw[e1] at q;cases q;exact d)
  have inv:∀{h3:Heap}{t:Nat},s1.heap.UpToSlots h3->B.StaysIn h3->Inv X pins σ1 H2 { s1 with heap:=h3,toks:=t }:=λ{h3 t} up st =>
   J1.call' (s':={ s1 with heap:=h3,toks:=t }) (ch:=[]) os ((flup up).un st) (hok.kept st) bare (λ_ z=>nomatch z)
  refine qt hframes hf (hst▸fl) dz0 λh4 held up4 dz4=>?_;refine wb held dz4 λh5 fl5 up5 dz5=>?_;have up45:=up4.trans up5;have I5:Inv X pins σ1 H2 { s1 with heap:=h5 }:=inv (t:=s1.toks) up45 fl5.1
  obtain⟨ob,hob,hobc⟩:=fl5.there;refine wpAny_handleBy_cons (codeAny_handlers_test (aa (X:=hcx X ea) (I5.toH ea) hg hm ?_ hdb)) (by intro q;cases q)
  have LT:PySem.W.Looks (model X.prog X.w) h5 (typeOf (.ref ea)) (.ref C):=hobc▸(PySem.W.Looks.ld hob).andThen .now;refine(PySem.W.exm_one (M:=model X.prog X.w) (K:=X.K) (h:=h5) I5.kIn LT hex).here ?_;refine codeAny_handlers_suite_as ?_;refine gO fl5 dz5 λh6 fl6 up6 dz6=>?_;have I6:Inv X pins σ1 H2 { s1 with heap:=h6 }:=inv (t:=s1.toks) (up45.trans up6) fl6.1
  obtain⟨oe,ws,hoe,hoec,hoed,_⟩:=fl6.first
  have hodd:oe.dict=od:=by
   obtain⟨o2,z1,z2⟩:=dz6;rw[hoe] at z1
   cases z1
   exact z2
  have new:r9 X.prog X.w (upd H2 ea (U1 ea C od)) h6 ea (U1 ea C od):=⟨⟨oe,ws,hoe,hoec,hoed,hodd⟩,⟨oe,hoe⟩,λg1 g2 ⟨o,vs,e1,e2,e3,e4⟩ k=>⟨o,vs,k _ e1,e2,e3,e4⟩⟩
  have none0:X.s₀.heap.get? ea=none:=by
   cases q:X.s₀.heap.get? ea with
   | none=>rfl
   | some o =>
    exfalso
    have hx:ea∉X.ex:=by rw[hx0];simp
    obtain⟨o1,e1⟩:=J1.base.there ea o q hx
    by_cases hb:ea∈frs X.stack
    ·obtain⟨_,o',q',d⟩:=fl6.2.2.1.mem (hst▸hb)
     rw[hoe] at q';cases q';exact d _ hoed
    ·obtain⟨⟨o',q'⟩,_⟩:=fy.kp ea o1 e1 hb
     rw[fl.2.1] at q';cases q'
  have ne:∀{b:Addr}{u:HO},H2 b=some u->b≠ea:=λ{b u} e z=>by rw[z,he2] at e;cases e
  have nL:X.env.locals≠ea:=λz=>by
   obtain⟨m,⟨o,es,ep,ho,hd,_⟩,_⟩:=I6.loc;rw[z] at ho;have ho2:h6.get? ea=some o:=ho;rw[hoe] at ho2;cases ho2;rw[hoed] at hd;cases hd
  have I7:Inv X pins σ1 (upd H2 ea (U1 ea C od)) { s1 with heap:=h6 }:=by
   refine⟨I6.ok,I6.os,I6.bare,⟨I6.base.keep,I6.base.slot,λb o e n hx=>?_,I6.base.there,λb xs e=>?_,λb o u e=>?_,λb ps e=>?_⟩,I6.loc,I6.cell,?_,λy c e=>?_,λp hp=>?_,λb u e=>?_,I6.len⟩
   ·rw[j2 (λz=>by rw[z,none0] at e;cases e)];exact I6.base.free b o e n hx
   ·have q:=I6.base.tups b xs e;rw[j2 (ne q)];exact q
   ·have q:=I6.base.frzs b o u e;rw[j2 (ne q)];exact q
   ·obtain⟨m,q⟩:=I6.base.tbls b ps e;exact⟨m,by rw[j2 (ne q)];exact q⟩
   ·rw[j2 nL];exact I6.free
   ·have nC:c≠ea:=λz=>by
     obtain⟨v,o,ho,hd⟩:=I6.cell y c e;rw[z] at ho;have ho2:h6.get? ea=some o:=ho;rw[hoe] at ho2;cases ho2;rw[hoed] at hd;cases hd
    rw[j2 nC];exact I6.freeC y c e
   ·obtain⟨e,n,ne1,nf,d⟩:=I6.pin p hp
    obtain⟨e0,n0,_,_,_⟩:=J1.pin p hp
    have np:p.1≠ea:=λz=>by
     have hb:p.1∉frs X.stack:=λhm=>(mem_cons.mp (J1.stkSub _ hm)).elim ne1 nf;have q:=(fy.kp p.1 p.2 e0 hb).2 n0;rw[z,fl.2.1] at q;cases q
    exact⟨e,by rw[j2 np];exact n,ne1,nf,d⟩
   ·by_cases hb:b=ea
    ·subst hb;rw[c6] at e;cases e;exact new
    ·rw[j2 hb] at e
     exact(I6.hok b u e).stay (λc v _ q=>q) (λc q=>by rw[j2 (ne q)];exact q) λc xs q=>by rw[j2 (ne q)];exact q
  refine cO (X:=hcx X ea) (I7.toH ea) hN hi (.inl hl) (v:=.ref ea) rfl (λs7 I8=>?_) (.inr hl);refine wpAny_mono (hs ea pins s7 _ _ (D.gone i) I8 (hth ea C rfl he2)) (λfl8 s8 q8=>?_) λ_ _ z=>z.elim
  cases fl8 with
  | next =>
   obtain⟨σ',H',J,q⟩:=q8;exact cE (J.ofH I.ok) hN hi hl λs9 J9=>⟨_,H',J9,q⟩
  | brk =>
   obtain⟨σ',H',J,q⟩:=q8;exact cE (J.ofH I.ok) hN hi hl λs9 J9=>⟨_,H',J9,q⟩
  | cont =>
   obtain⟨σ',H',J,q⟩:=q8;exact cE (J.ofH I.ok) hN hi hl λs9 J9=>⟨_,H',J9,q⟩
  | ret u =>
   obtain⟨v,σ',H',J,r,q⟩:=q8;exact cE (J.ofH I.ok) hN hi hl λs9 J9=>⟨v,_,H',J9,r,q⟩
end
def oB {K:Frag}{C fI:Addr}(q:aG K C fI=true)(sa:findIn K (.ref C) "__setattr__" = some (some (.builtin "object.__setattr__"))):eY K C:=by
 have key:∃cd,clsIn K C=some cd/\T3 cd.mro=true/\cd.hasDict=true:=by
  unfold aG at q
  split at q
  ·rename_i dd cd sl ho
   split at q
   ·rename_i C' bm k0 k1 k2 k3 n k5 hm hs
    simp only[Bool.and_eq_true,beq_iff_eq,Bool.not_eq_true'] at q
    obtain⟨⟨⟨⟨⟨⟨⟨rfl,rfl⟩,hdel⟩,hdc⟩,ht⟩,hok⟩,hni⟩,hrf⟩:=q;refine⟨cd,?_,?_,hdc⟩
    ·unfold clsIn
     rw[ho]
    ·rw[hm]
     exact hrf
   ·cases q
  ·cases q
 refine⟨key,sa,?_⟩;obtain⟨cd,h1,_,h2⟩:=key;unfold PySem.W.hasDictIn;rw[h1];exact h2
def sf {H:Hp}{e:Addr}{o:HO}(h:H e=none):iP (upd H e o) e=H:=by
 funext b
 by_cases z:b=e
 ·rw[z,fK,h]
 ·rw[E8 z,j2 z]
def oE {X:Cx}{E:XK}(hl:rD X E)(hx0:X.ex=[]:=by rfl):xZ X E:=by
 intro pins σ H s C ea h' args I hm hE
 obtain⟨t,ge,_⟩:=hm.there
 have he2:H ea=none:=by
  cases q:H ea with
  | none=>rfl
  | some o=>obtain⟨u,e⟩:=(I.hok ea o q).at_;rw[hm.new] at e;cases e
 have s0n:X.s₀.heap.get? ea=none:=by
  cases z:X.s₀.heap.get? ea with
  | none=>rfl
  | some o =>
   obtain⟨o',e'⟩:=I.base.there ea o z (by rw[hx0];simp)
   rw[hm.new] at e'
   cases e'
 have I6:Inv X pins σ H { s with heap:=h' }:=I.kept (t':=s.toks) hm.keeps
 have ne:∀{b:Addr}{u:HO},H b=some u->b≠ea:=λ{b u} e z=>by rw[z,he2] at e;cases e
 have nL:X.env.locals≠ea:=λz=>by
  obtain⟨m,⟨o,es,ep,ho,hd,_⟩,_⟩:=I.loc;rw[z,hm.new] at ho
  cases ho
 have I7:Inv X pins σ (upd H ea (M5 ea C none)) { s with heap:=h' }:=by
  refine⟨I6.ok,I6.os,I6.bare,⟨I6.base.keep,I6.base.slot,λb o e n hx=>?_,I6.base.there,λb xs e=>?_,λb o u e=>?_,λb ps e=>?_⟩,I6.loc,I6.cell,?_,λy c e=>?_,λp hp=>?_,λb u e=>?_,I6.len⟩
  ·rw[j2 (λz=>by rw[z,s0n] at e;cases e)];exact I6.base.free b o e n hx
  ·have q:=I6.base.tups b xs e;rw[j2 (ne q)];exact q
  ·have q:=I6.base.frzs b o u e;rw[j2 (ne q)];exact q
  ·obtain⟨m,q⟩:=I6.base.tbls b ps e;exact⟨m,by rw[j2 (ne q)];exact q⟩
  ·rw[j2 nL];exact I6.free
  ·have nC:c≠ea:=λz=>by
    obtain⟨v,o,ho,hd⟩:=I.cell y c e;rw[z,hm.new] at ho
    cases ho
   rw[j2 nC];exact I6.freeC y c e
  ·obtain⟨e,n,ne1,nf,d⟩:=I6.pin p hp
   obtain⟨e0,n0,_,_,_⟩:=I.pin p hp
   have np:p.1≠ea:=λz=>by
    rw[z,hm.new] at e0
    cases e0
   exact⟨e,by rw[j2 np];exact n,ne1,nf,d⟩
  ·by_cases hb:b=ea
   ·subst hb;rw[c6] at e;cases e;exact iF ge
   ·rw[j2 hb] at e
    exact(I6.hok b u e).stay (λc v _ q=>q) (λc q=>by rw[j2 (ne q)];exact q) λc xs q=>by rw[j2 (ne q)];exact q
 exact hl pins σ _ _ ea C none I7 c6 s0n (by rw[sf he2];exact hE)
end L2
namespace L2
open PySem PyProof.Rows
section
variable {prog:Program}{w:World}{A:Around}{E:Value->Shared->Prop}{s:Shared}
theorem gG {l:Addr}{items:Array Value}{ns:List Int}{Q:Value->Shared->Prop}(hh:A.handled=none)(hl:s.heap.IsTuple l items)(hi:IntsAre items.toList ns)(hb:items.size+1<scanBound)
  (h:∀(h':Heap)(tk:Nat),W8 prog w (λi=>ns.getD i 0) items.size h' s.heap.objs.size->(∀b o,b<s.heap.objs.size->s.heap.get? b=some o->h'.get? b=some o)->Q (.ref s.heap.objs.size) { s with heap:=h',toks:=tk }) :
  wpAny (model prog w) A (call (.type "set") [.ref l]) Q E s:=by
 obtain⟨c,tl,hmro⟩:=PySem.F.called_set.mro;have hmade:=PySem.F.called_set.made;have hsub:=PySem.F.called_set.sub;refine wpAny_call (codeAny_of_tree ?_)
 show wpAny _ _ (callAny (.type "set") _) _ _ _
 refine u_ ⟨Code.quiet_builtin _ (by decide +kernel),codeAny_builtin PySem.F.entry_type_call ?_⟩
 rw[Around.under_plain (weight_type_call_type "set" [.ref l] []) rfl];have h1:=PySem.F.called_set.notType;have h2:=PySem.F.called_set.canCreate;have hct:=PySem.F.typeCall_set_1 (.ref l)
 repeat (any_goals (first|assumption|wp_step))
 refine codeAny_mono (X8 (.ref l) (E:=E) (Q:=λobj s₁=>obj=.ref s.heap.objs.size/\s₁ = { s with heap:=s.heap.push (C6 w) }) ⟨rfl,rfl⟩) λr s₁ hr=>?_
 cases r with
 | error e=>exact hr
 | ok fl =>
  cases fl with
  | ret obj =>
   obtain⟨rfl,rfl⟩:=hr;have hS:(s.heap.push (C6 w)).get? s.heap.objs.size=some (C6 w):=Heap.get?_push_size _ rfl;have hT:Shared.TypeIs { s with heap:=s.heap.push (C6 w) } (.ref s.heap.objs.size) "set":=⟨_,hS,rfl⟩
   have hli:=PySem.F.called_set.init.lookup;have hbi:=PySem.F.called_set.init.bind (.ref s.heap.objs.size)
   repeat (any_goals (first|assumption|wp_step))
   refine codeAny_mono (codeAny_call_builtin (R:=wants (λr s₂=>r=.none/\∃h' tk,s₂ = { s with heap:=h',toks:=tk }/\W8 prog w (λi=>ns.getD i 0) items.size h' s.heap.objs.size /\
     (∀b o,b<s.heap.objs.size->s.heap.get? b=some o->h'.get? b=some o)) E) PySem.F.called_set.init.plain PySem.F.entry_set_init (check_set_init_1 hT ?_)) λr₂ s₂ hr₂=>?_
   ·obtain⟨ol,hol,hcl,nl,hdl⟩:=id hl
    have hol':(s.heap.push (C6 w)).get? l=some ol:=Heap.get?_push_of_some _ hol;have hTl:Shared.TypeIs { s with heap:=s.heap.push (C6 w) } (.ref l) "tuple":=⟨ol,hol',hcl⟩
    have hsls:=PySem.F.sub_tuple_set;have hslf:=PySem.F.sub_tuple_frozenset;have hne:(Value.type "tuple" == Value.type "dict")=false:=by decide
    have hl1:(s.heap.push (C6 w)).IsTuple l items:=hl.at λo e=>Heap.get?_push_of_some _ e;unfold Builtin.«set.__init__» noKeywords Builtin.Frozenset.updateFrom;generalize hPI:pyIter=PI
    wp_walk
    subst hPI;refine wpAny_pyIter_tuple hl1 (w_ (wpAny_runValue ?_));have hlS:l<s.heap.objs.size:=Heap.lt_size hol;have hneI:l≠(s.heap.push (C6 w)).objs.size:=by rw[Heap.size_push];exact Nat.ne_of_lt (Nat.lt_succ_of_lt hlS)
    have hSf:s.heap.objs.size∉[(s.heap.push (C6 w)).objs.size,l]:=by
     rw[Heap.size_push]
     simp only[mem_cons,not_mem_nil,or_false,not_or]
     exact⟨Nat.ne_of_lt (Nat.lt_succ_self _),Nat.ne_of_gt hlS⟩
    refine ji ((Walks.tuple (by simpa using hh) _ l hneI items).toS) s.heap.objs.size hSf (λi=>ns.getD i 0) (λi v hv=>PyProof.Rows.IntsAre.int_at hi i v (by rw[Array.getElem?_toList];exact hv)) hb (items.size-0) 0 _ (by lia) (Nat.zero_le _)
     ⟨⟨_,Heap.get?_push_size _ rfl,rfl,rfl⟩,(hl1.at λo e=>Heap.get?_push_of_some _ e)⟩ ?hS0 ?hR
    case hS0 =>
     exact((O2.new (knd:=intKind prog w) s.heap rfl).congr (λ_=>rfl) rfl).of_get λo e=>Heap.get?_push_of_some _ e
    case hR =>
     intro s' m x
     obtain⟨h',g',d',tk',os'⟩:=s';have eg:g'=s.gens:=m.gens;have ed:d'=s.drawn:=m.drawn;have eo:os'=s.os:=m.os;subst eg ed eo
     show wpAny _ _ _ _ _ _
     refine u_ ?_
     show wpAny _ _ (ret Value.none) _ _ _
     refine u_ ⟨rfl,h',tk',rfl,x,λb o q e=>?_⟩;refine m.heap b o ?_ (Heap.get?_push_of_some _ (Heap.get?_push_of_some _ e))
     simp only[mem_cons,not_mem_nil,or_false,not_or]
     refine⟨Nat.ne_of_lt q,?_⟩;rw[Heap.size_push];exact Nat.ne_of_lt (Nat.lt_succ_of_lt q)
   ·cases r₂ with
    | error e=>exact hr₂
    | ok fl₂ =>
     cases fl₂ with
     | ret r =>
      obtain⟨rfl,h',tk,rfl,x,kp⟩:=hr₂
      repeat (any_goals (first|assumption|wp_step))
      exact h _ _ x kp
     | _=>exact hr₂.elim
  | _=>exact hr.elim
end
end L2
namespace L2
open PySem PySem.Spec PyProof.Rows
section
variable {X:Cx}
def xG (K:Frag)(P:Program)(w:World):List V->Hp->VK->Prop:=λxs H Q=>∃(p:Addr)(ns:List Int),xs=[.ref p]/\SqT K H p (ns.map V.int)/\ns.length<4000/\∀l,H l=none->Q (.ref l) (upd H l (qh P w l ns))
def mF (K:Frag)(P:Program)(w:World)(hc:X.calm=true)(h:X.K=K:=by rfl)(hP:X.prog=P:=by rfl)(hw:X.w=w:=by rfl):A3 X (.type "set") (xG K P w):=by
 subst h hP hw
 intro pins s σ H xs us Q I r h
 obtain⟨p,ns,rfl,hq,hlt,q⟩:=h;obtain⟨u,rfl,rx⟩:=M3 r
 cases rx
 obtain⟨its,r',pl,hz⟩:=I.tuple hq;have hi:IntsAre its ns:=F6 r';have hlen:its.length=ns.length:=hi.length;refine gG (I.ok.hd hc) (show s.heap.IsTuple p its.toArray from pl) (ns:=ns) (by simpa using hi) (by show its.toArray.size+1<4096;rw[size_toArray];lia) λh' tk x kp=>?_
 have x':O2 (intKind X.prog X.w) h' s.heap.objs.size (λk=>decide (k∈ns)) (y9 ns).length:=x.congr (λk=>by
  rw[size_toArray,hlen];exact U0 ns k) (by rw[size_toArray,hlen];exact aU ns)
 have he:∃o,h'.get? s.heap.objs.size=some o:=let ⟨o,_,_,_,e,_⟩:=x';⟨o,e⟩;exact⟨.ref s.heap.objs.size,_,I.laid (t':=tk) (o:=kc X s.heap.objs.size ns) (λb o e=>kp b o (Heap.lt_size e) e) (Nat.le_refl _) ⟨x',he,λh1 h2 y k=>y.of_get k⟩,rfl,q _ (I.hok.fresh (Nat.le_refl _))⟩
theorem wj {pins:List (Addr×Obj)}{σ:St}{H:Hp}{s:Shared}{x:V}{u t:Value}(I:Inv X pins σ H s)(rx:u7 x u)(ty:N7 X.K H x t):∃Hh:Heap->Prop,PySem.W.KitX X.K u t Hh/\Hh s.heap/\u≠.builtin "__main__.__loader__#opaque":=by
 cases ty with
 | non=>cases (show u=Value.none from rx);exact⟨_,PySem.W.kitx_none,True.intro,λz=>nomatch z⟩
 | bl y=>cases (show u=Value.bool y from rx);exact⟨_,PySem.W.kitx_bool,True.intro,λz=>nomatch z⟩
 | int i=>obtain⟨t,q⟩:=(show ∃t,u=Value.int i t from rx);cases q;exact⟨_,PySem.W.kitx_int,True.intro,λz=>nomatch z⟩
 | str y=>obtain⟨t,q⟩:=(show ∃t,u=Value.str y t from rx);cases q;exact⟨_,PySem.W.kitx_str,True.intro,λz=>nomatch z⟩
 | flt y=>obtain⟨t,q⟩:=(show ∃t,u=Value.float y t from rx);cases q;exact⟨_,PySem.W.kitx_float,True.intro,λz=>nomatch z⟩
 | @lst a xs ea =>
  cases (show u=Value.ref a from rx)
  obtain⟨_,_,n,_,h1⟩:=(show r9 X.prog X.w H s.heap a (.lst xs) from I.hok a _ ea);exact⟨_,PySem.W.kitx_list,⟨_,h1,rfl⟩,λz=>nomatch z⟩
 | @frz a ob xs ea =>
  cases (show u=Value.ref a from rx)
  obtain⟨_,_,_,n,_,h1⟩:=(show r9 X.prog X.w H s.heap a (.frz ob (.lst xs)) from I.hok a _ ea);exact⟨_,PySem.W.kitx_list,⟨_,h1,rfl⟩,λz=>nomatch z⟩
 | @tup a xs ea =>
  cases (show u=Value.ref a from rx)
  obtain⟨_,_,_,p⟩:=(show r9 X.prog X.w H s.heap a (.tup xs) from I.hok a _ ea);obtain⟨o,h1,h2,_⟩:=p;exact⟨_,PySem.W.kitx_tuple,⟨o,h1,h2⟩,λz=>nomatch z⟩
 | @dK a kvs ea =>
  cases (show u=Value.ref a from rx)
  obtain⟨_,_,vs,_,p⟩:=(show r9 X.prog X.w H s.heap a (.dK kvs) from I.hok a _ ea);obtain⟨o,es,ep,h1,h2,_⟩:=p;exact⟨_,PySem.W.kitx_dict,⟨o,h1,h2.1⟩,λz=>nomatch z⟩
 | @dT a kvs ea =>
  cases (show u=Value.ref a from rx)
  obtain⟨_,_,xs,_,o,es,ep,h1,h2,_⟩:=(show r9 X.prog X.w H s.heap a (.dT kvs) from I.hok a _ ea);exact⟨_,PySem.W.kitx_dict,⟨o,h1,h2.1⟩,λz=>nomatch z⟩
 | @ins a C dx fs ea cl ha hn htk hm =>
  cases (show u=Value.ref a from rx)
  obtain⟨mA,O,_⟩:=ow I.hok ea;obtain⟨od,J,_⟩:=O.look;exact⟨_,PySem.W.kitx_own (cl.get _) cl.hd ha hn htk hm,J,λz=>nomatch z⟩
def tM (K:Frag):List V->Hp->VK->Prop:=λxs H Q=>∃v p t T1 T2 b1 b2,xs=[v,.ref p]/\H p=some (.tup [.ty T1,.ty T2])/\N7 K H v t/\kitOne K t (.type T1)=some b1/\kitOne K t (.type T2)=some b2/\Q (.bl (b1 || b2)) H
def af (K:Frag)(h:X.K=K:=by rfl):A3 X (.builtin "isinstance") (tM K):=by
 subst h
 intro pins s σ H xs us Q I r h
 obtain⟨v,p,t,T1,T2,b1,b2,rfl,hp,ty,e1,e2,q⟩:=h;obtain⟨u,u',rfl,r1,r2⟩:=dq r
 cases r2
 obtain⟨Hh,Z,zh,hx⟩:=wj I r1 ty;obtain⟨_,its,rv,pl⟩:=(show r9 X.prog X.w H s.heap p (.tup [.ty T1,.ty T2]) from I.hok p _ hp);obtain⟨w1,w2,rfl,q1,q2⟩:=dq rv
 cases q1
 cases q2
 obtain⟨⟨oc,od,dat,sl⟩,g1,g2,n,g3⟩:=pl
 simp only at g2 g3
 subst g2 g3
 have ka:PySem.W.kitAny X.K t [.type T1,.type T2]=some (b1 || b2):=by
  unfold PySem.W.kitAny;rw[e1]
  cases b1 with
  | true=>rfl
  | false =>
   show PySem.W.kitAny X.K t [.type T2]=some b2
   unfold PySem.W.kitAny;rw[e2]
   cases b2<;>rfl
 exact PySem.W.kia_tup Z I.kIn zh g1 ka hx λtk=>⟨.bl (b1 || b2),H,I.tok _,rfl,q⟩
def rf:V->Bool
 | .int _ | .bl _ | .non | .ref _=>true
 | _=>false
def uq (K:Frag):R2:=λx y H Q=>∃(a b:Addr)(xs:List V),x=.ref a/\y=.ref b/\SqL K H a (xs)/\SqL K H b xs/\xs.all rf=true/\Q (.bl false) H
theorem uo {A:Around}{s:Shared}{x:V}{u v:Value}(h:rf x=true)(ru:u7 x u)(rv:u7 x v):SeqAt.EqAt A s u v true:=by
 cases x with
 | int i =>
  obtain⟨t,rfl⟩:=ru;obtain⟨t',rfl⟩:=rv
  have:=SeqAt.EqAt.int_int (A:=A) (s:=s) i t i t'
  rwa [beq_self_eq_true] at this
 | bl b=>cases ru;cases rv;exact SeqAt.EqAt.same _
 | non=>cases ru;cases rv;exact SeqAt.EqAt.same _
 | ref a=>cases ru;cases rv;exact SeqAt.EqAt.same _
 | _=>cases h
def lR (K:Frag)(hu:X.A.units<cLine)(h:X.K=K:=by rfl):OpR X (compareOp .NotEq) (uq K):=by
 subst h
 intro pins s σ H x y v u Q I rx ry h
 obtain⟨a,b,xs,rfl,rfl,ha,hb,hr,q⟩:=h
 cases rx
 cases ry
 obtain⟨us,r1,p1,_⟩:=I.list ha;obtain⟨vs,r2,p2,_⟩:=I.list hb;have l1:=r1.length;have l2:=r2.length;refine SeqAt.RcNeAt.lists (e:=λj=>true) p1.isList p2.isList (by simp only[size_toArray];lia) (by lia) (λj h1 h2=>?_) X.prog X.w X.xe _ ?_
 ·rw[size_toArray] at h1 h2
  have e1:xs[j]? = some (xs[j]'(by lia)):=List.getElem?_eq_getElem _
  obtain⟨u,w1,s1⟩:=r1.get e1;obtain⟨v,w2,s2⟩:=r2.get e1;have z1:us.toArray[j]=u:=by rw[List.getElem?_eq_getElem h1] at w1;simpa using w1
  have z2:vs.toArray[j]=v:=by rw[List.getElem?_eq_getElem h2] at w2;simpa using w2
  rw[z1,z2];exact uo (all_eq_true.mp hr _ (getElem_mem _)) s1 s2
 ·have:((List.range us.toArray.size).all λ_=>true)=true:=by simp
  rw[this];exact⟨.bl false,H,I,rfl,q⟩
end
end L2
namespace L2
open PySem PySem.Spec PyProof.Rows PySem.W
section
variable {X:Cx}{C:Addr}{x:Str}{p pos:Pos}{e:Expr}{ta tb:TE}
def vB (ta tb:TE):TE:=λσ H Q=>ta σ H Q\/tb σ H Q
def gb (ha:PE X e ta)(hb:PE X e tb):PE X e (vB ta tb):=λpins s σ H Q I h=>h.elim (ha pins s σ H Q I) (hb pins s σ H Q I)
end
end L2
namespace L2
open PySem PySem.Spec PyProof.Rows
section
variable {prog:Program}{w:World}{A:Around}{E:Value->Shared->Prop}{s:Shared}
def jf {it:Addr}{vs:List Value}{Q:List Value->Shared->Prop}{o:Obj}{n:Nat}(ho:s.heap.get? it=some o)(hc:o.cls=.type "tuple")(hd:o.data=.seq vs.toArray n)
  (h:Q vs { s with heap:=(s.heap.push (seqObj "list" #[] 0)).update s.heap.objs.size (Obj.mapSeq (·++vs.toArray)) })(hsz:vs.length<=sizeLine):wpAny (model prog w) A (collect (.ref it)) Q E s:=by
 unfold collect;refine w_ (wpAny_runValue (codeAny_builtin F.entry_proto_collect ?_));rw[Around.under_plainId F.plain_proto_collect _]
 show wpAny _ A.in1 (newList [] >>= λl=>again (.builtin "list.__iadd__" ⟨[l,.ref it],[]⟩)) _ _ s
 refine w_ (wpAny_newObj_type ?_);refine u_ ⟨plainId_quiet F.plain_list_iadd _,codeAny_builtin F.entry_list_iadd ?_⟩;rw[Around.under_plainId F.plain_list_iadd _]
 show wpAny _ A.in1 (Builtin.List.listExtendWith (.ref s.heap.objs.size) (.ref it) (.ref s.heap.objs.size)) _ _ _
 have hS:(s.heap.push (seqObj "list" #[] 0)).get? s.heap.objs.size=some (seqObj "list" #[] 0):=Heap.get?_push_size _ rfl
 have fin':wpAny (model prog w) A (match Value.ref s.heap.objs.size with
   | Value.ref a=>do
    match (<- load a).data with
     | Data.seq xs _=>pure xs.toList
     | _=>unsupported "internal:collect"
   | _=>unsupported "internal:collect") Q E { s with heap:=(s.heap.push (seqObj "list" #[] 0)).update s.heap.objs.size (Obj.mapSeq (·++vs.toArray)) }:=by
  show wpAny _ A (load s.heap.objs.size >>= _) _ _ _
  refine w_ (wpAny_load (get?_update_seq hS _) ?_)
  show wpAny _ _ (pure ((#[]:Array Value)++vs.toArray).toList) Q E _
  rw[show((#[]:Array Value)++vs.toArray).toList=vs by simp]
  exact u_ h
 refine wpAny_mono (wpAny_extend_seq (hsz:=by simpa using hsz) (A:=A) (R:=λr s'=>r=.ok (.ret (.ref s.heap.objs.size))/\s' = { s with heap:=(s.heap.push (seqObj "list" #[] 0)).update s.heap.objs.size (Obj.mapSeq (·++vs.toArray)) })
  (s:={ s with heap:=s.heap.push (seqObj "list" #[] 0) }) _ it _ 0 (.inr rfl) hS (Heap.get?_push_of_some _ ho) hc hd ⟨rfl,rfl⟩) (λfin s' h=>?_) (λe s' h=>?_)
 ·cases fin with
  | done f =>
   obtain⟨e,rfl⟩:=h
   cases e
   exact fin'
  | again c'=>exact⟨h.1,codeAny_mono h.2 λr s'' hr=>by obtain⟨rfl,rfl⟩:=hr;exact fin'⟩
 ·exact absurd h.1 (by simp)
def lg {l:Addr}{vs:List Value}{ns:List Int}{Q:Value->Shared->Prop}{o:Obj}{n:Nat}(ho:s.heap.get? l=some o)(hc:o.cls=.type "tuple")(hd:o.data=.seq vs.toArray n)(hI:IntsAre vs ns)(h64:vs.length<64)
  (h:∀(out:Array Value)(ns':List Int),IntsAre out.toList ns'->ns'.Perm ns->ns'.Pairwise (·<=·)->Q (.ref (s.heap.objs.size+1)) { s with heap:=sortedAll s.heap vs out }) :
  wpAny (model prog w) A (call (.builtin "sorted") [.ref l]) Q E s:=by
 refine Calls.call_function_entry kind_sorted plain_sorted entry_sorted (args_sorted1 _) ?_;unfold Builtin.«sorted»;refine w_ (m:=checkCount "sorted" 1 1 _) (u_ ?_);refine w_ (jf ho hc hd ?_ (Nat.le_trans (Nat.le_of_lt h64) (by decide)))
 refine w_ (wpAny_newList ?_ (Nat.le_trans (Nat.le_of_lt h64) (by decide)))
 have hsz:((s.heap.push (seqObj "list" #[] 0)).update s.heap.objs.size (Obj.mapSeq (·++vs.toArray))).objs.size=s.heap.objs.size+1:=by
  rw[Heap.size_update,size_push']
 have hoL:(((s.heap.push (seqObj "list" #[] 0)).update s.heap.objs.size (Obj.mapSeq (·++vs.toArray))).push (seqObj "list" vs.toArray 0)).get? (s.heap.objs.size+1)=some (seqObj "list" vs.toArray 0):=by
  rw[<- hsz];exact Heap.get?_push_size _ rfl
 show wpAny _ _ _ _ _ { s with heap:=((s.heap.push (seqObj "list" #[] 0)).update s.heap.objs.size (Obj.mapSeq (·++vs.toArray))).push (seqObj "list" vs.toArray 0) }
 rw[hsz];refine w_ (wpAny_holding (wpAny_call_entry slot_list_sort ⟨_,hoL,rfl⟩ entry_list_sort (list_sort_tree hoL hI h64 λout ns' a1 a2 a3=>⟨_,rfl,?_⟩) (args_list_sort _)));exact u_ ⟨_,rfl,h out ns' a1 a2 a3⟩
end
section
variable {X:Cx}
def rB (K:Frag):List V->Hp->VK->Prop:=λxs H Q=>∃(p:Addr)(ns:List Int),xs=[.ref p]/\(SqT K H p (ns.map V.int)\/SqL K H p (ns.map V.int))/\ns.length<64/\∀ns':List Int,ns'.Perm ns->ns'.Pairwise (·<=·)->∀l,H l=none->Q (.ref l) (upd H l (.lst (ns'.map V.int)))
def P4 (K:Frag)(h:X.K=K:=by rfl):A3 X (.builtin "sorted") (rB K):=by
 subst h
 intro pins s σ H xs us Q I r h
 obtain⟨p,ns,rfl,hq,h64,q⟩:=h;obtain⟨u,rfl,rx⟩:=M3 r
 cases rx
 rcases hq with hq|hq
 ·obtain⟨its,r',pl,hz⟩:=I.tuple hq
  have hi:IntsAre its ns:=F6 r';have hlen:its.length=ns.length:=hi.length;obtain⟨ot,g1,g2,n,g3⟩:=pl;refine lg g1 g2 g3 hi (by lia) λout ns' a1 a2 a3=>?_
  obtain⟨e,he⟩:=sortedAll_at s.heap its out
  have hz':(ns'.map V.int).length<=sizeLine:=by
   rw[length_map,a2.length_eq];rw[length_map] at hz;exact hz
  exact⟨.ref (s.heap.objs.size+1),_,I.laid (t':=s.toks) (o:=.lst (ns'.map V.int)) (λb o e=>sortedAll_old e) (Nat.le_succ _) ⟨hz',out.toList,e,S9 a1,by simpa [seqObj] using he⟩,rfl,q ns' a2 a3 _ (I.hok.fresh (Nat.le_succ _))⟩
 ·exact(aS X.K) pins s σ H _ _ Q I r ⟨p,ns,rfl,hq,h64,q⟩
end
def xn:V->Bool
 | .int _ | .bl _ | .non | .ref _ | .str _=>true
 | _=>false
def wQ (v:V)(o:Option (List V)):Prop:=(∀xs,o=some xs->xs.all xn=true)/\(o=none->v=.non\/∃z,v=.str z)
def O4 (v:V)(es:List Int):wQ v (some (es.map V.int)):=⟨λxs z=>by
 cases z
 rw[all_eq_true]
 intro x hx
 obtain⟨i,_,rfl⟩:=mem_map.mp hx
 rfl,λz=>nomatch z⟩
end L2
namespace L2
def f5:Nat->Nat->Nat
 | 0,x=>x
 | n+1,x=>f5 n (5*x+1)
theorem wk (n m x:Nat):f5 (n+m) x=f5 m (f5 n x):=by
 induction n generalizing x with
 | zero=>rw[Nat.zero_add];rfl
 | succ n ih=>rw[Nat.succ_add];exact ih _
theorem oA:∀n x,4*f5 n x+1=5^n*(4*x+1)
 | 0,x=>by simp[f5]
 | n+1,x=>by
  rw[f5,oA n,Nat.pow_succ];rw[show 4*(5*x+1)+1=5*(4*x+1) by lia,Nat.mul_assoc]
theorem jd:∀k,∃m,5^2^k=1+2^(k+2)*(2*m+1)
 | 0=>⟨0,by decide⟩
 | k+1=>by
  obtain⟨m,e⟩:=jd k;refine⟨m+2^k*(2*m+1)*(2*m+1),?_⟩;rw[Nat.pow_succ 2 k,Nat.pow_mul,e,Nat.pow_two];generalize hA:2*m+1=A;have p:2^(k+2)=4*2^k:=by rw[Nat.pow_add];lia
  have p2:2^(k+1+2)=8*2^k:=by rw[Nat.pow_add,Nat.pow_add];lia
  rw[p,p2];generalize 2^k=P
  have:2*(m+P*A*A)+1=A+2*(P*A*A):=by lia
  rw[this]
  simp only[Nat.add_mul,Nat.mul_add,Nat.one_mul,Nat.mul_one]
  have e1:4*P*A*(4*P*A)=16*(P*P*(A*A)):=by
   simp only[Nat.mul_assoc,Nat.mul_comm,Nat.mul_left_comm]
  have e2:8*P*(2*(P*A*A))=16*(P*P*(A*A)):=by
   simp only[Nat.mul_assoc,Nat.mul_comm,Nat.mul_left_comm]
  rw[e1,e2]
  have e3:8*P*A=4*P*A+4*P*A:=by
   rw[<- Nat.add_mul];congr 1;lia
  lia
def uZ (k x:Nat):∃q,f5 (2^k) x=x+2^k+2*2^k*q:=by
 obtain⟨m,e⟩:=jd k;have h:=oA (2^k) x;rw[e] at h;refine⟨m+(2*m+1)*(2*x),?_⟩;have p:2^(k+2)=4*2^k:=by rw[Nat.pow_add];lia
 rw[p] at h;generalize 2^k=P at h;generalize f5 P x=y at h
 have e1:(1+4*P*(2*m+1))*(4*x+1)=(4*x+1)+4*(P*((2*m+1)*(4*x+1))):=by
  rw[Nat.add_mul,Nat.one_mul,Nat.mul_assoc,Nat.mul_assoc]
 rw[e1] at h
 have e2:(2*m+1)*(4*x+1)=1+2*(m+(2*m+1)*(2*x)):=by
  rw[Nat.mul_add,Nat.mul_one]
  have:(2*m+1)*(4*x)=2*((2*m+1)*(2*x)):=by
   rw[show 4*x=2*(2*x) by lia,Nat.mul_left_comm]
  lia
 rw[e2,Nat.mul_add,Nat.mul_one,<- Nat.mul_assoc,Nat.mul_comm P 2] at h;lia
theorem mI:∀(k x j:Nat),∃n,n<2^k/\f5 n x%2^k=j%2^k
 | 0,x,j=>⟨0,by decide,by rw[Nat.pow_zero,Nat.mod_one,Nat.mod_one]⟩
 | k+1,x,j=>by
  obtain⟨n,hn,e⟩:=mI k x j;obtain⟨q,hq⟩:=uZ k (f5 n x);have p:2^(k+1)=2*2^k:=by rw[Nat.pow_succ];lia
  have pos:0<2^k:=Nat.two_pow_pos k;rw[p];generalize hy:f5 n x=y at e hq;have hadd:=wk n (2^k) x;rw[hy,hq] at hadd;generalize 2^k=P at *;have m1:=Nat.mod_mul_right_mod y P 2
  have a1:y%(2*P)=y%P\/y%(2*P)=y%P+P:=by
   have:=Nat.mod_mul (x:=y) (a:=P) (b:=2)
   rw[Nat.mul_comm P 2] at this
   rcases Nat.mod_two_eq_zero_or_one (y/P) with z|z
   ·left;rw[this,z];lia
   ·right;rw[this,z];lia
  have a2:j%(2*P)=j%P\/j%(2*P)=j%P+P:=by
   have:=Nat.mod_mul (x:=j) (a:=P) (b:=2)
   rw[Nat.mul_comm P 2] at this
   rcases Nat.mod_two_eq_zero_or_one (j/P) with z|z
   ·left;rw[this,z];lia
   ·right;rw[this,z];lia
  by_cases c:y%(2*P)=j%(2*P)
  ·exact⟨n,by lia,by rw[hy];exact c⟩
  ·refine⟨n+P,by lia,?_⟩
   rw[hadd,show y+P+2*P*q=(y+P)+(2*P)*q from rfl,Nat.add_mul_mod_self_left];have lt:j%P<P:=Nat.mod_lt _ pos
   have:(y+P)%(2*P)=(y%(2*P)+P)%(2*P):=by rw[Nat.mod_add_mod]
   rw[this]
   rcases a1 with a1|a1<;>rcases a2 with a2|a2
   ·exact absurd (by rw[a1,a2,e]) c
   ·rw[a1,a2,e,Nat.mod_eq_of_lt (by lia)]
   ·rw[a1,a2,e,show j%P+P+P=j%P+2*P by lia,Nat.add_mod_right,Nat.mod_eq_of_lt (by lia)]
   ·exact absurd (by rw[a1,a2,e]) c
end L2
namespace L2
open PySem PySem.SetTable
def adv (t:SetTable):Nat->Probe->Probe
 | 0,p=>p
 | n+1,p=>adv t n (t.advance p)
theorem C3 (t:SetTable)(n m:Nat)(p:Probe):adv t (n+m) p=adv t m (adv t n p):=by
 induction n generalizing p with
 | zero=>rw[Nat.zero_add];rfl
 | succ n ih=>rw[Nat.succ_add];exact ih _
structure aO (t:SetTable)(p:Probe)(i q:Nat):Prop where
 hj:p.j=i
 hi:p.i=i
 more:p.more=runEnd t.mask i-i
 perturb:p.perturb=q
def lO (mask i:Nat):runEnd mask i-i<=9:=by
 unfold runEnd
 split<;>lia
theorem jE {t:SetTable}:∀(n:Nat)(p:Probe),p.more=n->∃p',adv t n p=p'/\p'.more=0/\p'.i=p.i/\p'.perturb=p.perturb
 | 0,p,h=>⟨p,rfl,h,rfl,rfl⟩
 | n+1,p,h=>by
  have e:t.advance p = { p with j:=p.j+1,more:=p.more-1 }:=by
   unfold SetTable.advance;rw[if_pos (by lia)]
  obtain⟨p',h1,h2,h3,h4⟩:=jE (t:=t) n (t.advance p) (by rw[e];show p.more-1=n;lia)
  rw[e] at h3 h4;exact⟨p',h1,h2,h3,h4⟩
def jK {t:SetTable}(p:Probe)(hm:p.more<=9):∃n,n<=10/\aO t (adv t n p) (leap t.mask p.i p.perturb).1 (leap t.mask p.i p.perturb).2:=by
 obtain⟨p',h1,h2,h3,h4⟩:=jE (t:=t) p.more p rfl;refine⟨p.more+1,by lia,?_⟩
 rw[C3,h1]
 show aO t (t.advance p') _ _
 unfold SetTable.advance;rw[if_neg (by lia),h3,h4]
 exact⟨rfl,rfl,rfl,rfl⟩
def L9 (mask:Nat):Nat->Nat×Nat->Nat×Nat
 | 0,s=>s
 | n+1,s=>L9 mask n (leap mask s.1 s.2)
theorem bu (mask n m:Nat)(s:Nat×Nat):L9 mask (n+m) s=L9 mask m (L9 mask n s):=by
 induction n generalizing s with
 | zero=>rw[Nat.zero_add];rfl
 | succ n ih=>rw[Nat.succ_add];exact ih _
theorem bz {t:SetTable}:∀(m:Nat)(p:Probe)(i q:Nat),aO t p i q->∃n,n<=10*m/\aO t (adv t n p) (L9 t.mask m (i,q)).1 (L9 t.mask m (i,q)).2
 | 0,p,i,q,h=>⟨0,Nat.le_refl _,h⟩
 | m+1,p,i,q,h=>by
  obtain⟨n,hn,r⟩:=jK (t:=t) p (by rw[h.more];exact lO _ _)
  rw[h.hi,h.perturb] at r;obtain⟨n',hn',r'⟩:=bz m _ _ _ r;refine⟨n+n',by lia,?_⟩
  rw[C3];exact r'
theorem S4 (mask:Nat):∀(n i q:Nat),(L9 mask n (i,q)).2=q/32^n
 | 0,i,q=>by rw[Nat.pow_zero,Nat.div_one];rfl
 | n+1,i,q=>by
  show(L9 mask n (leap mask i q)).2=_
  rw[show leap mask i q=((i*5+1+q/32)%(mask+1),q/32) from rfl,S4 mask n,Nat.pow_succ,Nat.mul_comm,Nat.div_div_eq_div_mul]
theorem Y1 (mask:Nat):∀(n i q:Nat),q<32->i<mask+1->(L9 mask n (i,q)).1=f5 n i%(mask+1)
 | 0,i,q,_,h=>(Nat.mod_eq_of_lt h).symm
 | n+1,i,q,hq,h=>by
  show(L9 mask n (leap mask i q)).1=f5 n (5*i+1)%(mask+1)
  have e:leap mask i q=((i*5+1)%(mask+1),0):=by
   show((i*5+1+q/32)%(mask+1),q/32)=_
   rw[Nat.div_eq_of_lt hq]
  rw[e,Y1 mask n _ 0 (by decide) (Nat.mod_lt _ (Nat.succ_pos _)),Nat.mul_comm i 5]
  have md:∀(n x y:Nat),x%(mask+1)=y%(mask+1)->f5 n x%(mask+1)=f5 n y%(mask+1):=by
   intro n
   induction n with
   | zero=>intro x y h;exact h
   | succ n ih =>
    intro x y h
    refine ih _ _ ?_;rw[Nat.add_mod,Nat.mul_mod,h,<- Nat.mul_mod,<- Nat.add_mod]
  exact md n _ _ (Nat.mod_mod _ _)
def jp {t:SetTable}{k:Nat}(hk:t.mask+1=2^k)(p:Probe)(hm:p.more<=9)(hq:p.perturb<2^64)(j:Nat)(hj:j<=t.mask):∃n,n<=10*(t.mask+14)/\(adv t n p).j=j:=by
 obtain⟨n0,h0,r0⟩:=jK (t:=t) p hm;obtain⟨n1,h1,r1⟩:=bz 12 _ _ _ r0;generalize hs:L9 t.mask 12 ((leap t.mask p.i p.perturb).1,(leap t.mask p.i p.perturb).2)=s at r1
 have q1:s.2<32:=by
  rw[<- hs,S4]
  show p.perturb/32/32^12<32
  rw[Nat.div_div_eq_div_mul];exact Nat.div_lt_of_lt_mul (Nat.lt_of_lt_of_le hq (by decide))
 have i1:s.1<t.mask+1:=by
  rw[<- hs,show(12:Nat)=11+1 from rfl,bu];exact Nat.mod_lt _ (Nat.succ_pos _)
 obtain⟨m,hm2,e⟩:=mI k s.1 j;obtain⟨n2,h2,r2⟩:=bz m _ _ _ r1;refine⟨n0+(n1+n2),by rw[<- hk] at hm2;lia,?_⟩
 rw[C3,C3];rw[Y1 _ _ _ _ q1 i1,hk,e,Nat.mod_eq_of_lt (by lia)] at r2
 exact r2.hj
def jq (t:SetTable)(n:Nat)(p:Probe):adv t (n+1) p=t.advance (adv t n p):=by
 rw[C3];rfl
def ak (t:SetTable)(p:Probe):(t.advance p).dummy=p.dummy:=by
 unfold SetTable.advance
 split<;>rfl
def hX (t:SetTable)(p:Probe)(h:p.more<=9):(t.advance p).more<=9:=by
 unfold SetTable.advance
 split
 ·show p.more-1<=9
  lia
 ·exact lO _ _
def cv (t:SetTable)(p:Probe)(h:p.perturb<2^64):(t.advance p).perturb<2^64:=by
 unfold SetTable.advance
 split
 ·exact h
 ·exact Nat.lt_of_le_of_lt (Nat.div_le_self _ _) h
def fj (t:SetTable)(ha:Nat->Int)(h:Int)(n:Nat)(p:Probe):Prop:=∀m,m<n->∃i,t.slot (adv t m p).j=.live i/\ha i≠h
theorem nJ {t:SetTable}{ha:Nat->Int}{h:Int}(hd:∀j,t.slot j≠.dummy):∀(fuel:Nat)(p:Probe),p.dummy=none->(∃n,n<fuel/\t.slot (adv t n p).j=.empty) ->
  (∃n,fj t ha h n p/\t.slot (adv t n p).j=.empty/\probe.go t ha h fuel p=some (.empty (adv t n p).j none)) \/
  ∃n i,fj t ha h n p/\t.slot (adv t n p).j=.live i/\ha i=h/\probe.go t ha h fuel p=some (.candidate (adv t n p).j i (adv t (n+1) p))
 | 0,p,_,⟨n,hn,_⟩=>absurd hn (Nat.not_lt_zero _)
 | fuel+1,p,hp,⟨n,hn,he⟩=>by
  unfold probe.go
  cases hs:t.slot p.j with
  | empty=>exact .inl ⟨0,λm hm=>absurd hm (Nat.not_lt_zero _),hs,by rw[hp];rfl⟩
  | dummy=>exact absurd hs (hd _)
  | live i =>
   dsimp only
   by_cases c:ha i=h
   ·rw[if_pos (by simpa using c)]
    exact .inr ⟨0,i,λm hm=>absurd hm (Nat.not_lt_zero _),hs,c,rfl⟩
   ·rw[if_neg (by simpa using c)]
    have hn0:n≠0:=λz=>by subst z;rw[show adv t 0 p=p from rfl,hs] at he;cases he
    obtain⟨n',rfl⟩:∃n',n=n'+1:=⟨n-1,by lia⟩
    have clr:∀{m:Nat},fj t ha h m (t.advance p)->fj t ha h (m+1) p:=λ{m} q m' hm'=>by
     cases m' with
     | zero=>exact⟨i,hs,c⟩
     | succ m'=>exact q m' (by lia)
    rcases nJ hd fuel (t.advance p) (by rw[ak];exact hp) ⟨n',by lia,he⟩ with⟨m,q1,q2,q3⟩|⟨m,i',q1,q2,q3,q4⟩
    ·exact .inl ⟨m+1,clr q1,q2,q3⟩
    ·exact .inr ⟨m+1,i',clr q1,q2,q3,q4⟩
structure vz (t:SetTable)(k:Nat):Prop where
 mask:t.mask+1=2^k
 nodummy:∀j,t.slot j≠.dummy
 room:∃j,j<=t.mask/\t.slot j=.empty
structure aK (p:Probe):Prop where
 more:p.more<=9
 perturb:p.perturb<2^64
 dummy:p.dummy=none
theorem aK.start (t:SetTable)(h:Int):aK (t.probeStart h):=⟨lO _ _,by
 show(h%(2^64:Int)).toNat<2^64
 have h1:=Int.emod_nonneg h (show(2^64:Int)≠0 by decide)
 have h2:=Int.emod_lt_of_pos h (show(0:Int)<2^64 by decide)
 lia,rfl⟩
theorem aK.adv {t:SetTable}:∀(n:Nat){p:Probe},aK p->aK (L2.adv t n p)
 | 0,_,h=>h
 | n+1,p,h=>aK.adv n ⟨hX t p h.more,cv t p h.perturb,by rw[ak];exact h.dummy⟩
def nk {t:SetTable}{k:Nat}{ha:Nat->Int}{h:Int}{p:Probe}(T:vz t k)(S:aK p) :
  (∃n,fj t ha h n p/\t.slot (adv t n p).j=.empty/\t.probe ha h p=some (.empty (adv t n p).j none)) \/
  ∃n i,fj t ha h n p/\t.slot (adv t n p).j=.live i/\ha i=h/\t.probe ha h p=some (.candidate (adv t n p).j i (adv t (n+1) p)):=by
 obtain⟨j,hj,he⟩:=T.room;obtain⟨n,hn,e⟩:=jp T.mask p S.more S.perturb j hj;exact nJ T.nodummy _ p S.dummy ⟨n,by show n<10*(t.mask+15);lia,by rw[e];exact he⟩
def sW {xs:Array Nat}(mono:xs.toList.Pairwise (· < ·)){i j:Nat}(h:xs[i]? = some j):below xs j=i:=by
 obtain⟨h1,h2,h3⟩:=V3 xs j mono;have hi:i<xs.size:=(Array.getElem?_eq_some_iff.mp h).1;have gi:xs.getD i j=j:=by simp[Array.getD,hi,(Array.getElem?_eq_some_iff.mp h).2]
 rcases Nat.lt_trichotomy (below xs j) i with c|c|c
 ·have hb:below xs j<xs.size:=Nat.lt_trans c hi
  have:=h3 (below xs j) (Nat.le_refl _) hb
  have m:=(List.pairwise_iff_getElem.mp mono) (below xs j) i (by simpa using hb) (by simpa using hi) c
  have e1:xs.getD (below xs j) j=xs.toList[below xs j]'(by simpa using hb):=by simp[Array.getD,hb]
  have e2:xs.toList[i]'(by simpa using hi)=j:=by
   have:=(Array.getElem?_eq_some_iff.mp h).2
   simpa using this
  rw[e1] at this;rw[e2] at m;lia
 ·exact c
 ·have:=h2 i c
  lia
def fX {t:SetTable}(mono:t.place.toList.Pairwise (· < ·)){i j:Nat}(h:t.place[i]? = some j):t.slot j=.live i:=by
 unfold SetTable.slot;have b:=sW mono h
 dsimp only
 rw[b,if_pos (by rw[h];simp)]
def M8 {t:SetTable}{i j:Nat}(h:t.slot j=.live i):t.place[i]? = some j:=by
 unfold SetTable.slot at h
 dsimp only at h
 split at h
 ·rename_i c
  injection h with h
  rw[<- h]
  simpa using c
 ·split at h<;>cases h
def V1 {t:SetTable}(hd:t.dummies=#[])(mono:t.place.toList.Pairwise (· < ·)){j:Nat}:t.slot j=.empty↔¬j∈t.place.toList:=by
 constructor
 ·intro h hj
  obtain⟨i,hi⟩:=List.getElem?_of_mem hj;rw[fX mono (i:=i) (by simpa using hi)] at h
  cases h
 ·intro h
  rcases aA t j hd with⟨e,_⟩|⟨i,e⟩
  ·exact e
  ·have:=M8 e
   exact absurd (List.mem_of_getElem? (l:=t.place.toList) (i:=i) (by simpa using this)) h
def cf (t:SetTable)(es:Array (Int×Value)):List (Nat×(Int×Value)):=t.place.toList.zip es.toList
def lZ {α β:Type}{xs:List α}{ys:List β}(h:xs.length=ys.length)(p:Nat)(x:α)(y:β):((xs.take p++x::xs.drop p).zip (ys.take p++y::ys.drop p)).Perm ((x,y)::xs.zip ys):=by
 have hl:(xs.take p).length=(ys.take p).length:=by rw[length_take,length_take,h]
 rw[List.zip_append hl,List.zip_cons_cons]
 have e:xs.zip ys=(xs.take p).zip (ys.take p)++(xs.drop p).zip (ys.drop p):=by
  rw[<- List.zip_append hl,take_append_drop,take_append_drop]
 rw[e];exact List.perm_middle
def db (t:SetTable)(es:Array (Int×Value)):Prop:=∀j e,(j,e)∈cf t es->∃n,(adv t n (t.probeStart e.1)).j=j/\∀m,m<n->(adv t m (t.probeStart e.1)).j∈t.place.toList
def ia {t t':SetTable}(h:t.mask=t'.mask)(p:Probe):t.advance p=t'.advance p:=by
 unfold SetTable.advance;rw[h]
theorem bc {t t':SetTable}(h:t.mask=t'.mask):∀(n:Nat)(p:Probe),adv t n p=adv t' n p
 | 0,_=>rfl
 | n+1,p=>by
  show adv t n (t.advance p)=adv t' n (t'.advance p)
  rw[ia h,bc h n]
def aC {t t':SetTable}(h:t.mask=t'.mask)(x:Int):t.probeStart x=t'.probeStart x:=by
 unfold SetTable.probeStart;rw[h]
def Y5 {t:SetTable}(hd:t.dummies=#[])(j:Nat):(t.put j).1 = { t with place:=insertAt t.place (below t.place j) j }/\(t.put j).2=below t.place j:=by
 unfold SetTable.put
 dsimp only
 rw[hd,iq];exact⟨by rw[if_neg Bool.false_ne_true,<- hd],rfl⟩
def oU {t:SetTable}{es:Array (Int×Value)}(hd:t.dummies=#[])(hz:t.place.size=es.size)(j:Nat)(e:Int×Value):(cf (t.put j).1 (insertAt es (t.put j).2 e)).Perm ((j,e)::cf t es):=by
 obtain⟨h1,h2⟩:=Y5 hd j;rw[h1,h2];unfold cf;rw[SetTable.toList_insertAt,SetTable.toList_insertAt];exact lZ (by simpa using hz) _ _ _
def ur {t:SetTable}(hd:t.dummies=#[])(j j':Nat):j'∈(t.put j).1.place.toList↔j'=j\/j'∈t.place.toList:=by
 rw[(Y5 hd j).1]
 show j'∈(insertAt t.place (below t.place j) j).toList↔_
 rw[(SetTable.insertAt_perm t.place (below t.place j) j).mem_iff]
 simp[or_comm]
theorem db.put {t:SetTable}{es:Array (Int×Value)}(hd:t.dummies=#[])(hz:t.place.size=es.size)(R:db t es){j n:Nat}{e:Int×Value}(hj:(adv t n (t.probeStart e.1)).j=j)(hb:∀m,m<n->(adv t m (t.probeStart e.1)).j∈t.place.toList) :
  db (t.put j).1 (insertAt es (t.put j).2 e):=by
 have hm:(t.put j).1.mask=t.mask:=by rw[(Y5 hd j).1]
 intro j' e' h'
 have key:∀n' x,(∀m,m<n'->(adv t m (t.probeStart x)).j∈t.place.toList)->∀m,m<n'->(adv (t.put j).1 m ((t.put j).1.probeStart x)).j∈(t.put j).1.place.toList:=λn' x q m hm'=>by
  rw[bc hm,aC hm,ur hd];exact .inr (q m hm')
 rcases mem_cons.mp ((oU hd hz j e).mem_iff.mp h') with z|z
 ·injection z with z1 z2
  subst z1 z2;exact⟨n,by rw[bc hm,aC hm];exact hj,key n _ hb⟩
 ·obtain⟨n',q1,q2⟩:=R j' e' z
  exact⟨n',by rw[bc hm,aC hm];exact q1,key n' _ q2⟩
theorem aY {t:SetTable}{i q:Nat}:∀(m:Nat)(p:Probe),aO t p i q->m<=runEnd t.mask i-i->(adv t m p).j=i+m/\(adv t m p).more=runEnd t.mask i-i-m/\(adv t m p).i=i/\(adv t m p).perturb=q
 | 0,p,h,_=>⟨h.hj,h.more,h.hi,h.perturb⟩
 | m+1,p,h,hm=>by
  obtain⟨h1,h2,h3,h4⟩:=aY m p h (by lia)
  rw[jq];unfold SetTable.advance;rw[if_pos (by lia)]
  exact⟨by show(adv t m p).j+1=_;lia,by show(adv t m p).more-1=_;lia,h3,h4⟩
def rM {t:SetTable}{i q:Nat}{p:Probe}(h:aO t p i q):aO t (adv t (runEnd t.mask i-i+1) p) (leap t.mask i q).1 (leap t.mask i q).2:=by
 obtain⟨h1,h2,h3,h4⟩:=aY (runEnd t.mask i-i) p h (Nat.le_refl _);rw[jq];unfold SetTable.advance;rw[if_neg (by lia),h3,h4]
 exact⟨rfl,rfl,rfl,rfl⟩
def W0 (owner:Array (Option Nat))(j:Nat):Prop:=(owner.getD j (some 0)).isNone=false
theorem fW {t:SetTable}{owner:Array (Option Nat)}:∀(fuel:Nat)(p:Probe)(i q j:Nat),aO t p i q->layClean.free t.mask owner fuel i q=some j->∃n,(adv t n p).j=j/\(owner.getD j (some 0)).isNone=true/\∀m,m<n->W0 owner (adv t m p).j
 | 0,_,_,_,_,_,e=>by cases e
 | fuel+1,p,i,q,j,h,e=>by
  unfold layClean.free at e
  split at e
  ·rename_i k hk
   injection e with e
   have h1:=List.find?_some hk;have h2:=List.mem_of_find?_eq_some hk;have hk2:k<runEnd t.mask i+1-i:=List.mem_range.mp h2;have hrun:i<=runEnd t.mask i:=by unfold runEnd;split<;>lia
   obtain⟨g1,_⟩:=aY k p h (by lia)
   refine⟨k,by lia,by rw[<- e];exact h1,λm hm=>?_⟩
   obtain⟨g2,_⟩:=aY m p h (by lia)
   rw[g2]
   have:=List.find?_range_eq_some.mp hk
   have h3:=this.2.2 m hm
   simpa [W0] using h3
  ·rename_i hk
   have hrun:i<=runEnd t.mask i:=by unfold runEnd;split<;>lia
   have all:∀m,m<runEnd t.mask i+1-i->W0 owner (i+m):=λm hm=>by
    exact Bool.eq_false_iff.mpr (List.find?_eq_none.mp hk m (List.mem_range.mpr hm))
   obtain⟨n,q1,q2,q3⟩:=fW fuel _ _ _ j (rM h) e;refine⟨runEnd t.mask i-i+1+n,by rw[C3];exact q1,q2,λm hm=>?_⟩
   by_cases c:m<runEnd t.mask i-i+1
   ·obtain⟨g2,_⟩:=aY m p h (by lia)
    rw[g2];exact all m (by lia)
   ·obtain⟨m',rfl⟩:∃m',m=runEnd t.mask i-i+1+m':=⟨m-(runEnd t.mask i-i+1),by lia⟩
    rw[C3];exact q3 m' (by lia)
theorem fM {mask:Nat}{owner:Array (Option Nat)}:∀(fuel i q:Nat),layClean.free mask owner fuel i q=none->∀n,n<fuel->W0 owner (L9 mask n (i,q)).1
 | 0,_,_,_,n,hn=>absurd hn (Nat.not_lt_zero _)
 | fuel+1,i,q,e,n,hn=>by
  unfold layClean.free at e
  split at e
  ·cases e
  ·rename_i hk
   cases n with
   | zero =>
    have hrun:i<=runEnd mask i:=by unfold runEnd;split<;>lia
    exact Bool.eq_false_iff.mpr (List.find?_eq_none.mp hk 0 (List.mem_range.mpr (by lia)))
   | succ n=>exact fM fuel _ _ e n (by lia)
theorem qu {mask k:Nat}{owner:Array (Option Nat)}(hk:mask+1=2^k)(i q:Nat)(hi:i<mask+1)(hq:q<2^64){j0:Nat}(hj:j0<=mask)(he:(owner.getD j0 (some 0)).isNone=true):∃j,layClean.free mask owner (turns mask) i q=some j:=by
 cases hf:layClean.free mask owner (turns mask) i q with
 | some j=>exact⟨j,rfl⟩
 | none =>
  exfalso
  have q1:(L9 mask 13 (i,q)).2<32:=by
   rw[S4];exact Nat.div_lt_of_lt_mul (Nat.lt_of_lt_of_le hq (by decide))
  have i1:(L9 mask 13 (i,q)).1<mask+1:=by
   rw[show(13:Nat)=12+1 from rfl,bu];exact Nat.mod_lt _ (Nat.succ_pos _)
  obtain⟨m,hm,e⟩:=mI k (L9 mask 13 (i,q)).1 j0
  have:=fM (turns mask) i q hf (13+m) (by unfold turns;rw[<- hk] at hm;lia)
  rw[bu] at this;have e2:=Y1 mask m (L9 mask 13 (i,q)).1 (L9 mask 13 (i,q)).2 q1 i1;rw[show((L9 mask 13 (i,q)).1,(L9 mask 13 (i,q)).2)=L9 mask 13 (i,q) from rfl] at e2;rw[e2,hk,e,Nat.mod_eq_of_lt (by lia)] at this
  unfold W0 at this;rw[he] at this
  cases this
structure M7 (t:SetTable)(owner:Array (Option Nat))(ds:List Int):Prop where
 size:owner.size=t.mask+1
 each:∀(k:Nat) h,ds[k]? = some h->∃j:Nat,j<=t.mask/\owner[j]? = some (some k)/\∃n,(adv t n (t.probeStart h)).j=j/\∀m,m<n->W0 owner (adv t m (t.probeStart h)).j
 only:∀(j k:Nat),owner[j]? = some (some k)->k<ds.length
 uniq:∀(j j' k:Nat),owner[j]? = some (some k)->owner[j']? = some (some k)->j=j'
 free:owner.toList.countP Option.isNone+ds.length=t.mask+1
theorem M7.start (t:SetTable):M7 t (Array.replicate (t.mask+1) none) [] where
 size:=by simp
 each:=λk h e=>by cases e
 only:=λj k e=>by
  rw[Array.getElem?_replicate] at e
  split at e<;>cases e
 uniq:=λj j' k e=>by
  rw[Array.getElem?_replicate] at e
  split at e<;>cases e
 free:=by
  rw[Array.toList_replicate,List.countP_replicate];rfl
theorem M7.room {t:SetTable}{owner:Array (Option Nat)}{ds:List Int}(L:M7 t owner ds)(h:ds.length<=t.mask):∃j:Nat,j<=t.mask/\(owner.getD j (some 0)).isNone=true:=by
 have:0<owner.toList.countP Option.isNone:=by have:=L.free;lia
 obtain⟨x,hx,hn⟩:=List.countP_pos_iff.mp this;obtain⟨j,hj,e⟩:=getElem_of_mem hx;have hj':j<owner.size:=by simpa using hj
 refine⟨j,by have:=L.size;lia,?_⟩
 rw[Array.getD_eq_getD_getElem?,Array.getElem?_eq_getElem hj',Option.getD_some];rw[Array.getElem_toList] at e;rw[e];exact hn
def gk {owner:Array (Option Nat)}{j j' k:Nat}(h:W0 owner j'):W0 (owner.setIfInBounds j (some k)) j':=by
 unfold W0 at *;rw[Array.getD_eq_getD_getElem?] at *;rw[Array.getElem?_setIfInBounds]
 by_cases c:j=j'
 ·subst c
  rw[if_pos rfl]
  split<;>rfl
 ·rw[if_neg c]
  exact h
theorem M7.put {t:SetTable}{owner:Array (Option Nat)}{ds:List Int}{h:Int}{j n:Nat}(L:M7 t owner ds)(e:(adv t n (t.probeStart h)).j=j)(hj:(owner.getD j (some 0)).isNone=true)(hb:∀m,m<n->W0 owner (adv t m (t.probeStart h)).j) :
  M7 t (owner.setIfInBounds j (some ds.length)) (ds++[h]):=by
 have hjs:j<owner.size:=by
  rcases Nat.lt_or_ge j owner.size with c|c
  ·exact c
  ·rw[Array.getD_eq_getD_getElem?,Array.getElem?_eq_none c] at hj
   cases hj
 have hjn:owner[j]? = some none:=by
  rw[Array.getElem?_eq_getElem hjs];rw[Array.getD_eq_getD_getElem?,Array.getElem?_eq_getElem hjs,Option.getD_some] at hj;exact congrArg some (Option.isNone_iff_eq_none.mp hj)
 have at_:∀i:Nat,(owner.setIfInBounds j (some ds.length))[i]? = if j=i then some (some ds.length) else owner[i]?:=λi=>by
  rw[Array.getElem?_setIfInBounds]
  by_cases c:j=i
  ·subst c
   rw[if_pos rfl,if_pos hjs,if_pos rfl]
  ·rw[if_neg c,if_neg c]
 refine⟨by rw[Array.size_setIfInBounds];exact L.size,λk h' e'=>?_,λi k e'=>?_,λi i' k e1 e2=>?_,?_⟩
 ·by_cases c:k<ds.length
  ·rw[List.getElem?_append_left c] at e'
   obtain⟨i,q1,q2,m,q3,q4⟩:=L.each k h' e';refine⟨i,q1,?_,m,q3,λm' hm'=>gk (q4 m' hm')⟩;rw[at_,if_neg (λz=>by rw[<- z,hjn] at q2;cases q2)]
   exact q2
  ·have hk:k=ds.length:=by
    have:=(List.getElem?_eq_some_iff.mp e').1
    rw[length_append,length_singleton] at this;lia
   subst hk;rw[List.getElem?_append_right (Nat.le_refl _),Nat.sub_self] at e'
   cases e'
   refine⟨j,by have:=L.size;lia,by rw[at_,if_pos rfl],n,e,λm hm=>gk (hb m hm)⟩
 ·rw[at_] at e'
  rw[length_append,length_singleton]
  by_cases c:j=i
  ·rw[if_pos c] at e'
   cases e'
   lia
  ·rw[if_neg c] at e'
   have:=L.only i k e'
   lia
 ·rw[at_] at e1 e2
  by_cases c:j=i
  ·rw[if_pos c] at e1
   cases e1
   by_cases d:j=i'
   ·rw[<- c,<- d]
   ·rw[if_neg d] at e2
    have:=L.only i' _ e2
    lia
  ·rw[if_neg c] at e1
   by_cases d:j=i'
   ·rw[if_pos d] at e2
    cases e2
    have:=L.only i _ e1
    lia
   ·rw[if_neg d] at e2
    exact L.uniq i i' k e1 e2
 ·have hjl:j<owner.toList.length:=by simpa using hjs
  rw[Array.toList_setIfInBounds,List.countP_set hjl,length_append,length_singleton]
  have hz:owner.toList[j]'hjl=none:=by
   rw[Array.getElem_toList]
   have:=hjn
   rw[Array.getElem?_eq_getElem hjs] at this;exact Option.some.inj this
  rw[hz]
  have:=L.free
  have hpos:0<owner.toList.countP Option.isNone:=List.countP_pos_iff.mpr ⟨none,by rw[<- hz];exact getElem_mem hjl,rfl⟩
  rw[show(if (none:Option Nat).isNone=true then 1 else 0)=1 from rfl,show(if (some ds.length:Option Nat).isNone=true then 1 else 0)=0 from rfl];lia
def cH (mask:Nat)(acc:Option (Array (Option Nat)×Nat))(h:Int):Option (Array (Option Nat)×Nat):=do
 let (owner,k) <- acc
 let j <- layClean.free mask owner (turns mask) (bits h%(mask+1)) (bits h)
 pure (owner.setIfInBounds j (some k),k+1)
def uM (h:Int):bits h<2^64:=by
 unfold bits;have h1:=Int.emod_nonneg h (show(2^64:Int)≠0 by decide)
 have h2:=Int.emod_lt_of_pos h (show(0:Int)<2^64 by decide)
 lia
theorem kU {t:SetTable}{k:Nat}(hk:t.mask+1=2^k):∀(hs:List Int)(owner:Array (Option Nat))(ds:List Int),M7 t owner ds->ds.length+hs.length<=t.mask ->
  ∃owner',hs.foldl (cH t.mask) (some (owner,ds.length))=some (owner',(ds++hs).length)/\M7 t owner' (ds++hs)
 | [],owner,ds,L,_=>⟨owner,by rw[append_nil];rfl,by rw[append_nil];exact L⟩
 | h::r,owner,ds,L,hl=>by
  rw[length_cons] at hl;obtain⟨j0,q1,q2⟩:=L.room (by lia)
  obtain⟨j,hj⟩:=qu (owner:=owner) hk (bits h%(t.mask+1)) (bits h) (Nat.mod_lt _ (Nat.succ_pos _)) (uM h) q1 q2;have run:aO t (t.probeStart h) (bits h%(t.mask+1)) (bits h):=⟨rfl,rfl,rfl,rfl⟩;obtain⟨n,e1,e2,e3⟩:=fW (turns t.mask) _ _ _ j run hj;have L':=L.put e1 e2 e3;obtain⟨owner',f1,f2⟩:=kU hk r _ _ L' (by rw[length_append,length_singleton];lia)
  refine⟨owner',?_,by rw[List.append_assoc] at f2;exact f2⟩
  rw[foldl_cons]
  have st:cH t.mask (some (owner,ds.length)) h=some (owner.setIfInBounds j (some ds.length),ds.length+1):=by
   unfold cH
   show(layClean.free t.mask owner (turns t.mask) (bits h%(t.mask+1)) (bits h) >>= λj=>pure (owner.setIfInBounds j (some ds.length),ds.length+1))=_
   rw[hj];rfl
  rw[st];rw[length_append,length_singleton,List.append_assoc] at f1;exact f1
def fm {t:SetTable}{k:Nat}(hk:t.mask+1=2^k)(hs:Array Int)(h:hs.size<=t.mask):∃owner,layClean t.mask hs=some owner/\M7 t owner hs.toList:=by
 obtain⟨owner,e,L⟩:=kU hk hs.toList _ [] (M7.start t) (by rw[length_nil];simpa using h)
 refine⟨owner,?_,L⟩
 have:layClean t.mask hs=(hs.foldl (cH t.mask) (some (Array.replicate (t.mask+1) none,0))).map (·.1):=rfl
 rw[this,<- Array.foldl_toList];rw[show((some (Array.replicate (t.mask+1) none,0)):Option (Array (Option Nat)×Nat))=some (Array.replicate (t.mask+1) none,([]:List Int).length) from rfl,e];rfl
def tm {mask i:Nat}(h:i<mask+1):i+(runEnd mask i-i)<=mask:=by
 unfold runEnd
 split<;>lia
theorem oa {t:SetTable}:∀(m:Nat)(p:Probe),p.j+p.more<=t.mask->(adv t m p).j+(adv t m p).more<=t.mask
 | 0,p,h=>h
 | m+1,p,h=>by
  refine oa m (t.advance p) ?_;unfold SetTable.advance
  split
  ·show p.j+1+(p.more-1)<=t.mask
   lia
  ·exact tm (Nat.mod_lt _ (Nat.succ_pos _))
def wy (t:SetTable)(m:Nat)(h:Int):(adv t m (t.probeStart h)).j<=t.mask:=by
 have:=oa (t:=t) m (t.probeStart h) (tm (Nat.mod_lt _ (Nat.succ_pos _)))
 lia
def C9 (mask:Nat)(owner:Array (Option Nat)):List (Nat×Nat):=(List.range (mask+1)).filterMap λj=>(owner.getD j none).map (j,·)
def T4 {mask:Nat}{owner:Array (Option Nat)}(hz:owner.size=mask+1){j k:Nat}:(j,k)∈C9 mask owner↔owner[j]? = some (some k):=by
 unfold C9;rw[List.mem_filterMap]
 constructor
 ·rintro⟨j',hj,e⟩
  obtain⟨k',e1,e2⟩:=Option.map_eq_some_iff.mp e
  injection e2 with e3 e4
  subst e3 e4;have hj':j'<owner.size:=by rw[hz];exact List.mem_range.mp hj
  rw[Array.getD_eq_getD_getElem?,Array.getElem?_eq_getElem hj',Option.getD_some] at e1;rw[Array.getElem?_eq_getElem hj',e1]
 ·intro e
  have hj:=(Array.getElem?_eq_some_iff.mp e).1;refine⟨j,List.mem_range.mpr (by lia),?_⟩
  rw[Array.getD_eq_getD_getElem?,e];rfl
def cS (mask:Nat)(owner:Array (Option Nat)):((C9 mask owner).map (·.1)).Pairwise (· < ·):=by
 rw[pairwise_map];unfold C9;rw[List.pairwise_filterMap];refine List.pairwise_lt_range.imp λ{a b} hab x hx y hy=>?_;obtain⟨_,_,rfl⟩:=Option.map_eq_some_iff.mp hx;obtain⟨_,_,rfl⟩:=Option.map_eq_some_iff.mp hy;exact hab
def ja {mask:Nat}{owner:Array (Option Nat)}(hz:owner.size=mask+1):(C9 mask owner).length+owner.toList.countP Option.isNone=mask+1:=by
 have e:C9 mask owner=(owner.toList.zipIdx.filterMap λx=>x.1.map (x.2,·)):=by
  unfold C9
  have:owner.toList.zipIdx=(List.range (mask+1)).map λj=>(owner.getD j none,j):=by
   apply ext_getElem
   ·simp[hz]
   ·intro i h1 h2
    have hi:i<owner.size:=by simpa using h1
    simp[Array.getD_eq_getD_getElem?,Array.getElem?_eq_getElem hi]
  rw[this,List.filterMap_map];rfl
 rw[e,<- hz,<- Array.length_toList];generalize owner.toList=l
 have go:∀(l:List (Option Nat))(s:Nat),((l.zipIdx s).filterMap λx=>x.1.map (x.2,·)).length+l.countP Option.isNone=l.length:=by
  intro l
  induction l with
  | nil=>intro s;rfl
  | cons a r ih =>
   intro s
   rw[List.zipIdx_cons,filterMap_cons,List.countP_cons,length_cons]
   have:=ih (s+1)
   cases a with
   | none=>simp only[Option.map_none,Option.isNone_none,if_true];lia
   | some k=>simp only[Option.map_some,Option.isNone_some,Bool.false_eq_true,if_false,length_cons];lia
 exact go l 0
theorem V2:∀(l1 l2:List Nat),l1.Nodup->(∀x∈l1,x∈l2)->l2.length<=l1.length->l1.Perm l2
 | [],l2,_,_,h=>by
  have:l2=[]:=eq_nil_of_length_eq_zero (by simpa using h)
  subst this;exact List.Perm.refl _
 | a::r,l2,hn,hs,hl=>by
  rw[List.nodup_cons] at hn;have ha:=hs a mem_cons_self;have p:=List.perm_cons_erase ha;refine((V2 r (l2.erase a) hn.2 (λx hx=>?_) ?_).cons a).trans p.symm
  ·have hne:x≠a:=λe=>hn.1 (e▸hx)
   exact(List.mem_erase_of_ne hne).mpr (hs x (mem_cons_of_mem _ hx))
  ·have:=p.length_eq
   rw[length_cons] at this hl;lia
def qP {t:SetTable}{owner:Array (Option Nat)}{es:Array (Int×Value)}(L:M7 t owner (es.map (·.1)).toList):((C9 t.mask owner).map (·.2)).Perm (List.range es.size):=by
 have hlen:=ja L.size;have hfree:=L.free
 have hsz:(C9 t.mask owner).length=es.size:=by
  have:(es.map (·.1)).toList.length=es.size:=by simp
  lia
 refine V2 _ _ ?_ (λk hk=>?_) (by rw[length_range,length_map,hsz];exact Nat.le_refl _)
 ·unfold List.Nodup
  rw[pairwise_map]
  have:=pairwise_map.mp (cS t.mask owner)
  refine List.Pairwise.imp_of_mem ?_ this
  intro a b ha hb hab z
  have h1:=(T4 L.size).mp ha;have h2:=(T4 L.size).mp hb;rw[z] at h1
  have:=L.uniq _ _ _ h1 h2
  lia
 ·obtain⟨⟨j,k'⟩,hx,rfl⟩:=mem_map.mp hk
  have:=L.only _ _ ((T4 L.size).mp hx)
  exact List.mem_range.mpr (by simpa using this)
def pY {t:SetTable}{owner:Array (Option Nat)}{es:Array (Int×Value)}(L:M7 t owner (es.map (·.1)).toList):(((C9 t.mask owner).map (·.2)).toArray.filterMap (es[·]?)).toList.Perm es.toList:=by
 rw[Array.toList_filterMap];refine((qP L).filterMap _).trans ?_
 have:(List.range es.size).filterMap (es[·]?)=es.toList:=by
  apply ext_getElem?
  intro i
  have go:∀n,n<=es.size->(List.range n).filterMap (es[·]?)=es.toList.take n:=by
   intro n
   induction n with
   | zero=>intro _;simp
   | succ n ih =>
    intro hn
    rw[range_succ,List.filterMap_append,ih (by lia),take_succ]
    have:es[n]? = some es[n]:=Array.getElem?_eq_getElem (by lia)
    simp[this]
  rw[go es.size (Nat.le_refl _),<- Array.length_toList,take_length]
 rw[this]
def lU {t:SetTable}{owner:Array (Option Nat)}{es:Array (Int×Value)}(L:M7 t owner (es.map (·.1)).toList)(hp:t.place=((C9 t.mask owner).map (·.1)).toArray) :
  db t (((C9 t.mask owner).map (·.2)).toArray.filterMap (es[·]?))/\(((C9 t.mask owner).map (·.2)).toArray.filterMap (es[·]?)).size=es.size/\t.place.size=es.size:=by
 have hlen:=ja L.size;have hfree:=L.free
 have hsz:(C9 t.mask owner).length=es.size:=by
  have:(es.map (·.1)).toList.length=es.size:=by simp
  lia
 have inn:∀x∈C9 t.mask owner,x.2<es.size:=λx hx=>by
  have:=L.only x.1 x.2 ((T4 L.size).mp hx)
  simpa using this
 have em:∀l:List (Nat×Nat),(∀x∈l,x.2<es.size)->(l.map (·.2)).filterMap (es[·]?)=l.map λx=>es.getD x.2 (0,.none):=by
  intro l
  induction l with
  | nil=>intro _;rfl
  | cons a r ih =>
   intro h
   have ha:=h a (mem_cons_self ..);rw[map_cons,filterMap_cons,Array.getElem?_eq_getElem ha]
   dsimp only
   rw[ih λx hx=>h x (mem_cons_of_mem _ hx),map_cons,Array.getD_eq_getD_getElem?,Array.getElem?_eq_getElem ha,Option.getD_some]
 have et:(((C9 t.mask owner).map (·.2)).toArray.filterMap (es[·]?)).toList=(C9 t.mask owner).map λx=>es.getD x.2 (0,.none):=by
  rw[Array.toList_filterMap];exact em _ inn
 refine⟨λj e he=>?_,?_,?_⟩
 ·unfold cf at he
  rw[et,hp] at he
  have he':(j,e)∈(C9 t.mask owner).map λx=>(x.1,es.getD x.2 (0,.none)):=by
   rw[<- List.zip_map']
   simpa using he
  obtain⟨⟨j',k⟩,hx,e2⟩:=mem_map.mp he'
  injection e2 with e3 e4
  subst e3;have ho:=(T4 L.size).mp hx;have hk:=inn _ hx;have e5:e=es[k]:=by rw[<- e4,Array.getD_eq_getD_getElem?,Array.getElem?_eq_getElem hk,Option.getD_some]
  obtain⟨i,q1,q2,n,q3,q4⟩:=L.each k e.1 (by rw[e5];simp[hk])
  have:=L.uniq _ _ _ q2 ho
  subst this;refine⟨n,q3,λm hm=>?_⟩;have ht:=q4 m hm;have hin:=wy t m e.1;rw[hp]
  show _∈(C9 t.mask owner).map (·.1)
  have hsz2:(adv t m (t.probeStart e.1)).j<owner.size:=by rw[L.size];lia
  unfold W0 at ht;rw[Array.getD_eq_getD_getElem?,Array.getElem?_eq_getElem hsz2,Option.getD_some] at ht
  cases hc:owner[(adv t m (t.probeStart e.1)).j] with
  | none=>rw[hc] at ht;cases ht
  | some k'=>exact mem_map.mpr ⟨(_,k'),(T4 L.size).mpr (by rw[Array.getElem?_eq_getElem hsz2,hc]),rfl⟩
 ·rw[<- Array.length_toList,et,length_map,hsz]
 ·rw[hp]
  simp[hsz]
end L2
namespace L2
open PySem PySem.SetTable PyProof.Rows
theorem iX (m:Nat):∀fuel k,m<2^(k+fuel)->∃k',sizeAbove.go m fuel (2^k)=2^k'/\m<2^k'/\k<=k'/\(2^k'<=2*m\/k'=k)
 | 0,k,h=>⟨k,rfl,by simpa using h,Nat.le_refl _,.inr rfl⟩
 | fuel+1,k,h=>by
  unfold sizeAbove.go
  by_cases c:2^k<=m
  ·rw[if_pos c,show 2^k*2=2^(k+1) from(Nat.pow_succ ..).symm]
   obtain⟨k',e1,e2,e3,e4⟩:=iX m fuel (k+1) (by rw[show k+1+fuel=k+(fuel+1) by lia];exact h)
   refine⟨k',e1,e2,by lia,.inl ?_⟩
   rcases e4 with e4|rfl
   ·exact e4
   ·rw[Nat.pow_succ];lia
  ·rw[if_neg c]
   exact⟨k,rfl,by lia,Nat.le_refl _,.inr rfl⟩
def cM {m:Nat}(h:m<2^60):∃k,sizeAbove m=2^k/\m<2^k/\3<=k/\(2^k<=2*m\/k=3) :=
 iX m 64 3 (Nat.lt_trans h (Nat.pow_lt_pow_right (by decide) (by decide)))
structure W3 (t:SetTable)(es:Array (Int×Value)):Prop where
 mask:∃k,t.mask+1=2^k/\3<=k
 dum:t.dummies=#[]
 mono:t.place.toList.Pairwise (· < ·)
 size:t.place.size=es.size
 reach:db t es
 less:es.size*5<t.mask*3
 small:t.mask<8192
theorem W3.fits {t:SetTable}{es:Array (Int×Value)}(T:W3 t es):t.fits es.size=true:=by
 have h1:=T.size;have h2:=T.less;unfold SetTable.fits SetTable.fill;rw[T.dum,h1]
 simp only[beq_self_eq_true,Bool.true_and,decide_eq_true_eq,size_toArray,length_nil]
 lia
theorem W3.odd {t:SetTable}{es:Array (Int×Value)}(T:W3 t es):t.gaveWay=false:=by
 obtain⟨k,hk,h3⟩:=T.mask;obtain⟨k',rfl⟩:∃k',k=k'+1:=⟨k-1,by lia⟩
 rw[Nat.pow_succ] at hk;unfold SetTable.gaveWay
 have:t.mask%2=1:=by lia
 rw[this];rfl
theorem W3.ok {t:SetTable}{es:Array (Int×Value)}(T:W3 t es):∃k,vz t k:=by
 obtain⟨k,hk,h3⟩:=T.mask;refine⟨k,hk,λj=>?_,?_⟩
 ·rcases aA t j T.dum with⟨q,_⟩|⟨i,q⟩<;>rw[q]<;>intro z<;>cases z
 ·refine Classical.byContradiction λno=>?_
  have all:∀j∈List.range (t.mask+1),j∈t.place.toList:=λj hj=>Classical.byContradiction λz=>no ⟨j,by rw[List.mem_range] at hj;lia,(V1 T.dum T.mono).mpr z⟩
  have h1:=T.size;have h2:=T.less;have p:=(V2 _ _ List.nodup_range all (by rw[length_range,Array.length_toList];lia)).length_eq
  rw[length_range,Array.length_toList] at p;lia
theorem W3.fresh (L:Bool):W3 (.fresh 0 0 L) #[] where
 mask:=⟨3,rfl,by decide⟩
 dum:=rfl
 mono:=List.Pairwise.nil
 size:=rfl
 reach:=λj e h=>absurd h (by simp[cf,SetTable.fresh])
 less:=by show 0*5<7*3;decide
 small:=by show 7<8192;decide
theorem W3.relaid {t:SetTable}{es:Array (Int×Value)}{n:Nat}(hn:es.size=n)(h0:0<n)(hb:n<=1023) :
    ∃t' order,t.relaid (es.map (·.1)) (grown n)=some (t',order)/\W3 t' (order.filterMap (es[·]?))/\(order.filterMap (es[·]?)).size=es.size/\(order.filterMap (es[·]?)).toList.Perm es.toList/\t'.led=t.led:=by
  have eg:grown n=n*4:=by unfold grown;rw[if_neg (by lia)]
  rw[eg];obtain⟨k,e1,e2,e3,e4⟩:=cM (m:=n*4) (by have:(4092:Nat)<2^60:=(by decide);lia)
  have hz:(es.map (·.1)).size=n:=by rw[Array.size_map];exact hn
  obtain⟨M,hM⟩:∃M,M+1=2^k:=⟨2^k-1,by have:=Nat.two_pow_pos k;lia⟩
  have eM:sizeAbove (n*4)-1=M:=by rw[e1];lia
  have h8:M<8192:=by
    rcases e4 with e4|e4
    . lia
    . rw[e4] at hM
      have:(2:Nat)^3=8:=rfl
      lia
  have hnM:n*4<=M:=by lia
  clear e1 e2 e4 eg;obtain⟨owner,o1,_⟩:=fm (t:={ t with mask:=M }) (k:=k) hM (es.map (·.1)) (by rw[hz];show n<=M;lia)
  have o1':layClean M (es.map (·.1))=some owner:=o1;obtain⟨t',ht'⟩:∃t':SetTable,t' = { mask:=M,place:=((C9 M owner).map (·.1)).toArray,dummies:=#[],finger:=t.finger,led:=t.led,moves:=t.movedTo M,plain:=t.plain }:=⟨_,rfl⟩;have m1:t'.mask=M:=by rw[ht']
  have m2:t'.place=((C9 M owner).map (·.1)).toArray:=by rw[ht']
  obtain⟨owner',o2,L⟩:=fm (t:=t') (k:=k) (by rw[m1];exact hM) (es.map (·.1)) (by rw[hz,m1];lia)
  rw[m1] at o2;obtain rfl:owner=owner':=Option.some.inj (o1'.symm.trans o2);obtain⟨r1,r2,r3⟩:=lU L (by rw[m1];exact m2)
  have pm:=pY L;rw[m1] at r1 r2 pm;refine⟨t',((C9 M owner).map (·.2)).toArray,?_,⟨⟨k,by rw[m1];exact hM,e3⟩,by rw[ht'],?_,r3.trans r2.symm,r1,?_,?_⟩,r2,pm,by rw[ht']⟩
  . unfold SetTable.relaid SetTable.laid
    rw[eM,o1',ht'];rfl
  . rw[m2]
    exact cS _ _
  . rw[r2,hn,m1]
    lia
  . rw[m1]
    exact h8
theorem W3.put {t:SetTable}{es:Array (Int×Value)}(T:W3 t es){n:Nat}{e:Int×Value}(he:t.slot (adv t n (t.probeStart e.1)).j=.empty)(hb:∀m,m<n->(adv t m (t.probeStart e.1)).j∈t.place.toList)(l:Bool) :
  (∃k,(t.put (adv t n (t.probeStart e.1)).j).1.mask+1=2^k/\3<=k)/\(t.put (adv t n (t.probeStart e.1)).j).1.dummies=#[]/\(t.put (adv t n (t.probeStart e.1)).j).1.place.toList.Pairwise (· < ·) /\
  (t.put (adv t n (t.probeStart e.1)).j).1.place.size=es.size+1/\db (t.put (adv t n (t.probeStart e.1)).j).1 (insertAt es (t.put (adv t n (t.probeStart e.1)).j).2 e)/\(insertAt es (t.put (adv t n (t.probeStart e.1)).j).2 e).size=es.size+1 /\
  (t.put (adv t n (t.probeStart e.1)).j).1.mask=t.mask/\(t.put (adv t n (t.probeStart e.1)).j).1.led=t.led/\(t.put (adv t n (t.probeStart e.1)).j).1.plain=t.plain:=by
 generalize hj:(adv t n (t.probeStart e.1)).j=j at he ⊢;obtain⟨p1,p2⟩:=Y5 T.dum j;have R:=db.put T.dum T.size T.reach (e:=e) hj hb
 have hno:t.place[below t.place j]?≠some j:=λz=>((V1 T.dum T.mono).mp he) (by
  have:=List.mem_of_getElem? (l:=t.place.toList) (i:=below t.place j) (a:=j) (by rw[Array.getElem?_toList];exact z)
  exact this)
 have sz:∀{α:Type}(xs:Array α)(p:Nat)(x:α),(insertAt xs p x).size=xs.size+1:=λxs p x=>by
  have:=(SetTable.insertAt_perm xs p x).length_eq
  simpa using this
 refine⟨?_,?_,?_,?_,R,sz _ _ _,?_,?_,?_⟩
 ·rw[p1];exact T.mask
 ·rw[p1];exact T.dum
 ·rw[p1];exact aT t.place j T.mono hno
 ·rw[p1];exact(sz _ _ _).trans (by rw[T.size])
 ·rw[p1]
 ·rw[p1]
 ·rw[p1]
theorem dl {α β:Type}{g:α->β}{l1 l2:List β}(p:l1.Perm l2):∀fs:List α,l2=fs.map g->∃fs2:List α,fs2.Perm fs/\l1=fs2.map g:=by
 induction p with
 | nil=>intro fs h;exact⟨fs,List.Perm.refl _,h⟩
 | cons x p ih =>
  intro fs h
  cases fs with
  | nil=>cases h
  | cons f r =>
   rw[map_cons] at h
   injection h with h1 h2
   obtain⟨r2,q1,q2⟩:=ih r h2;exact⟨f::r2,q1.cons f,by rw[map_cons,<- h1,<- q2]⟩
 | swap x y l =>
  intro fs h
  match fs,h with
  | [],h=>cases h
  | [f],h=>injection h with h1 h2;cases h2
  | f::f'::r,h =>
   rw[map_cons,map_cons] at h
   injection h with h1 h2
   injection h2 with h2 h3
   exact⟨f'::f::r,List.Perm.swap _ _ _,by rw[map_cons,map_cons,h1,h2,h3]⟩
 | trans p q ih1 ih2 =>
  intro fs h
  obtain⟨f2,a1,a2⟩:=ih2 fs h;obtain⟨f3,b1,b2⟩:=ih1 f2 a2;exact⟨f3,b1.trans a1,b2⟩
section
variable {prog:Program}{w:World}{A:Around}{E:Value->Shared->Prop}{s:Shared}
abbrev tkH (prog:Program)(w:World)(d:List Int):Int:=tupleKeyHash (intKind prog w) d
abbrev TK (prog:Program)(w:World)(h:Heap)(d:List Int)(b:Addr):Prop:=IsTupleKey (intKind prog w) h d b
def ent (prog:Program)(w:World)(f:List Int×Addr):Int×Value:=(tkH prog w f.1,.ref f.2)
theorem cj {ks:List Int}{vs:List Value}(h:ItemsAre (intKind prog w) ks vs):∀v∈vs,∃n t,v=.int n t:=by
 induction h with
 | nil=>intro v hv;simp at hv
 | @cons k v' ks vs h1 _ ih =>
  intro v hv
  rcases mem_cons.mp hv with rfl|hv
  ·obtain⟨t,e⟩:=Value.isInt_shape h1
   exact⟨_,t,e⟩
  ·exact ih v hv
def jP {ks:List Int}{a:Addr}{Q:Bool->Shared->Prop}(hk:TK prog w s.heap ks a)(h:Q false s):wpAny (model prog w) A (ofAClassStatement 8 (.ref a)) Q E s:=by
 have hT:=hk.typeIs;obtain⟨o,items,n,ho,_,hd,hi⟩:=hk;unfold ofAClassStatement;refine w_ (wpAny_typeOf hT ?_)
 dsimp only
 rw[if_pos (by decide)]
 refine w_ (u_ ?_)
 simp only[Bool.not_true,Bool.false_eq_true,if_false]
 refine w_ (wpAny_seqItems ho hd ?_)
 dsimp only
 refine w_ ?_;rw[<- Array.forIn_toList];refine wpAny_forIn_list _ (λrest r s'=>r.1=none/\s'=s/\∀v∈rest,∃n t,v=.int n t) _ ?_ ?_ _ _ ⟨rfl,rfl,cj hi⟩
 ·rintro v rest r s' ⟨hr,rfl,hall⟩
  obtain⟨m,t,rfl⟩:=hall v mem_cons_self;refine w_ ?_;unfold ofAClassStatement;refine u_ ?_
  simp only[Bool.false_eq_true,if_false]
  exact u_ ⟨rfl,rfl,λu hu'=>hall u (mem_cons_of_mem _ hu')⟩
 ·rintro⟨r1,r2⟩ s' ⟨hr,rfl,_⟩
  simp only at hr
  subst hr;exact u_ h
def lq {ks:List Int}{a:Addr}{Q:Bool->Shared->Prop}(hk:TK prog w s.heap ks a)(h:Q true s):wpAny (model prog w) A (hashByValue 8 (.ref a)) Q E s:=by
 have hT:=hk.typeIs;obtain⟨o,items,n,ho,_,hd,hi⟩:=hk;unfold hashByValue;refine w_ (wpAny_specialOf hT F.slot_tuple_hash.lookup ?_)
 dsimp only
 refine w_ (wpAny_seqItems ho hd ?_);refine w_ ?_
 show wpAny _ _ (forIn items _ _) _ _ s
 rw[<- Array.forIn_toList];refine wpAny_forIn_list _ (λrest r s'=>r.1=none/\s'=s/\∀v∈rest,∃n t,v=.int n t) _ ?_ ?_ _ _ ⟨rfl,rfl,cj hi⟩
 ·rintro v rest r s' ⟨hr,rfl,hall⟩
  obtain⟨m,t,rfl⟩:=hall v mem_cons_self;refine w_ ?_;unfold hashByValue;refine u_ ?_
  simp only[Bool.not_true,Bool.false_eq_true,if_false]
  exact u_ ⟨rfl,rfl,λu hu'=>hall u (mem_cons_of_mem _ hu')⟩
 ·rintro⟨r1,r2⟩ s' ⟨hr,rfl,_⟩
  simp only at hr
  subst hr;exact u_ h
def tJ {d:List Int}{b:Addr}{stored:List Value}{Q:Bool->Shared->Prop}(hb:TK prog w s.heap d b)(hst:∀v∈stored,∃d' b',v=.ref b'/\TK prog w s.heap d' b')(h:Q false s) :
  wpAny (model prog w) A (searchCouldBeSeen (.ref b) stored) Q E s:=by
 unfold searchCouldBeSeen;refine w_ ?_;refine wpAny_forIn_list _ (λrest r s'=>r.1=none/\s'=s/\∀v∈rest,∃d' b',v=.ref b'/\TK prog w s.heap d' b') _ ?_ ?_ _ _ ⟨rfl,rfl,hst⟩
 ·rintro v rest r s' ⟨hr,rfl,hall⟩
  obtain⟨d',b',rfl,hb'⟩:=hall v mem_cons_self;have nx:∀u∈rest,∃d' b',u=.ref b'/\TK prog w s'.heap d' b':=λu hu'=>hall u (mem_cons_of_mem _ hu')
  dsimp only
  split
  ·exact u_ ⟨rfl,rfl,nx⟩
  ·refine w_ (wpAny_eqIsQuiet_tuple hb ?_)
   simp only[Bool.not_true,Bool.false_eq_true,if_false]
   refine w_ (wpAny_eqIsQuiet_tuple hb' ?_)
   simp only[Bool.not_true,Bool.false_eq_true,if_false]
   refine w_ (jP hb ?_)
   simp only[Bool.false_eq_true,if_false]
   refine w_ (jP hb' ?_)
   simp only[Bool.false_eq_true,if_false]
   exact u_ ⟨rfl,rfl,nx⟩
 ·rintro⟨r1,r2⟩ s' ⟨hr,rfl,_⟩
  simp only at hr
  subst hr;exact u_ h
def lW {S:Addr}{o:Obj}{es:Array (Int×Value)}{ep:Nat}{t:SetTable}{fs:List (List Int×Addr)}{d:List Int}{b:Addr}{Q:SetFound->Shared->Prop}
  (hu:A.units<cLine)(ho:s.heap.get? S=some o)(hd:o.data=.set es ep t)(T:W3 t es)(hes:es.toList=fs.map (ent prog w))(hk:∀f∈fs,TK prog w s.heap f.1 f.2)(hb:TK prog w s.heap d b)
  (hit:d∈fs.map (·.1)->Q (.there none) s)
  (miss:¬d∈fs.map (·.1)->∀n,t.slot (adv t n (t.probeStart (tkH prog w d))).j=.empty->(∀m,m<n->(adv t m (t.probeStart (tkH prog w d))).j∈t.place.toList)->Q (.free (adv t n (t.probeStart (tkH prog w d))).j false) s) :
  wpAny (model prog w) A (setSearch S (.ref b) (tkH prog w d) true) Q E s:=by
 obtain⟨k,TO⟩:=T.ok;obtain⟨j0,hj0,he0⟩:=TO.room;generalize hst0:t.probeStart (tkH prog w d)=st at miss;have S0:aK st:=hst0▸aK.start t _;obtain⟨N,hN,eN⟩:=jp TO.mask st S0.more S0.perturb j0 hj0;have hNe:t.slot (adv t N st).j=.empty:=by rw[eN];exact he0
 have small:=T.small
 have entAt:∀(i:Nat)(f:List Int×Addr),fs[i]? = some f->es[i]? = some (ent prog w f):=λi f e=>by
  rw[<- Array.getElem?_toList,hes,List.getElem?_map,e];rfl
 have liveIn:∀{j i:Nat},t.slot j=.live i->j∈t.place.toList:=λ{j i} e=>by
  have:=M8 e
  exact List.mem_of_getElem? (by rw[Array.getElem?_toList];exact this)
 have go:∀(fuel n0:Nat)(stand:Option Probe),N<fuel+n0->n0<=N->stand.getD st=adv t n0 st->(∀m,m<n0->∃i f,t.slot (adv t m st).j=.live i/\fs[i]? = some f/\f.1≠d) ->
   wpAny (model prog w) A (setSearchFrom S (.ref b) (tkH prog w d) true fuel stand) Q E s:=by
  intro fuel
  induction fuel with
  | zero=>intro n0 stand h1 h2;lia
  | succ fuel ih =>
   intro n0 stand h1 h2 hst hcl
   unfold setSearchFrom;refine w_ (wpAny_setState_of ho hd T.fits ?_)
   dsimp only
   rw[T.odd]
   simp only[Bool.false_eq_true,if_false]
   rw[hst0,hst]
   rcases nk (ha:=λi=>(es[i]?.map (·.1)).getD 0) (h:=tkH prog w d) TO (S0.adv n0) with⟨n,c1,c2,c3⟩ | ⟨n,i,c1,c2,c3,c4⟩
   ·erw [c3]
    dsimp only
    rw[<- C3] at c2 ⊢;refine u_ (miss (λhm=>?_) _ c2 λm hm=>?_)
    ·obtain⟨f,hf,rfl⟩:=mem_map.mp hm
     obtain⟨i,hi,e⟩:=getElem_of_mem hf;have ef:fs[i]? = some f:=by rw[List.getElem?_eq_getElem hi,e]
     have ee:=entAt i f ef
     have hip:i<t.place.size:=by
      rw[T.size];exact(Array.getElem?_eq_some_iff.mp ee).1
     have ep':t.place[i]? = some t.place[i]:=Array.getElem?_eq_getElem hip
     have hpair:(t.place[i],ent prog w f)∈cf t es:=by
      refine List.mem_of_getElem? (i:=i) ?_;unfold cf;rw[List.getElem?_zip_eq_some];exact⟨by rw[Array.getElem?_toList];exact ep',by rw[Array.getElem?_toList];exact ee⟩
     obtain⟨n',q1,q2⟩:=T.reach _ _ hpair;have q1':(adv t n' st).j=t.place[i]:=by rw[<- hst0];exact q1
     have q2':∀m,m<n'->(adv t m st).j∈t.place.toList:=λm hm=>by rw[<- hst0];exact q2 m hm
     have sl:t.slot (adv t n' st).j=.live i:=by rw[q1'];exact fX T.mono ep'
     have c2':=(V1 T.dum T.mono).mp c2
     rcases Nat.lt_trichotomy n' (n0+n) with z|z|z
     ·by_cases z0:n'<n0
      ·obtain⟨i',f',g1,g2,g3⟩:=hcl n' z0
       rw[sl] at g1
       injection g1 with g1
       subst g1;rw[ef] at g2
       injection g2 with g2
       exact g3 (by rw[g2])
      ·obtain⟨i',g1,g2⟩:=c1 (n'-n0) (by lia)
       rw[<- C3,show n0+(n'-n0)=n' by lia,sl] at g1
       injection g1 with g1
       subst g1;exact g2 (by show(es[i]?.map (·.1)).getD 0=_;rw[ee];rfl)
     ·subst z
      exact c2' (liveIn sl)
     ·exact c2' (q2' _ z)
    ·by_cases z0:m<n0
     ·obtain⟨i',f',g1,_,_⟩:=hcl m z0
      exact liveIn g1
     ·obtain⟨i',g1,_⟩:=c1 (m-n0) (by lia)
      rw[<- C3,show n0+(m-n0)=m by lia] at g1
      exact liveIn g1
   ·erw [c4]
    dsimp only
    have pl:=M8 c2
    have hie:i<es.size:=by
     rw[<- T.size];exact(Array.getElem?_eq_some_iff.mp pl).1
    have hif:i<fs.length:=by
     have:=congrArg List.length hes
     rw[Array.length_toList,length_map] at this;lia
    obtain⟨f,ef⟩:∃f,fs[i]? = some f:=⟨_,List.getElem?_eq_getElem hif⟩;have ee:=entAt i f ef;have hf:=hk f (List.mem_of_getElem? ef)
    have stored:∀v∈(es.filter (λx=>x.1==tkH prog w d)).toList.map (·.2),∃d' b',v=.ref b'/\TK prog w s.heap d' b':=λv hv=>by
     obtain⟨e,he,rfl⟩:=mem_map.mp hv;rw[Array.mem_toList_iff,Array.mem_filter] at he
     have:e∈fs.map (ent prog w):=hes▸Array.mem_toList_iff.mpr he.1
     obtain⟨f',hf',rfl⟩:=mem_map.mp this;exact⟨_,_,rfl,hk f' hf'⟩
    have nlt:n0+n<N:=by
     refine Classical.byContradiction λz=>?_;have hN2:=(V1 T.dum T.mono).mp hNe
     by_cases zz:N=n0+n
     ·rw[zz,C3] at hN2
      exact hN2 (liveIn c2)
     ·obtain⟨i',g1,_⟩:=c1 (N-n0) (by lia)
      rw[<- C3,show n0+(N-n0)=N by lia] at g1
      exact hN2 (liveIn g1)
    cases hl:t.led
    ·simp only[Bool.not_false,if_true]
     refine w_ (tJ hb stored ?_)
     simp only[Bool.false_eq_true,if_false]
     rw[ee]
     dsimp only[ent]
     refine w_ (wpAny_holding (wpAny_eqBool_tuple hu hf hb ?_));refine w_ (wpAny_setState_of ho hd T.fits ?_)
     dsimp only
     by_cases cd:f.1=d
     ·rw[decide_eq_true cd,if_pos (by rfl)]
      exact u_ (hit (cd▸mem_map_of_mem (List.mem_of_getElem? ef)))
     ·rw[decide_eq_false cd,if_neg (by decide)]
      have sm:t.sameMemory t.moves t.mask=some true:=by
       unfold SetTable.sameMemory;rw[if_pos (by simp)]
      rw[sm]
      dsimp only
      rw[if_pos rfl,c2]
      dsimp only
      rw[ee]
      dsimp only[ent]
      refine w_ (wpAny_isSame_ref_self ?_);rw[if_pos rfl];refine w_ (u_ ?_)
      dsimp only
      rw[if_neg Bool.false_ne_true];refine ih (n0+n+1) _ (by lia) (by lia) ?_ λm hm=>?_
      ·rw[Option.getD_some,<- C3,Nat.add_assoc]
      ·by_cases z0:m<n0
       ·exact hcl m z0
       ·by_cases z1:m=n0+n
        ·exact⟨i,f,by rw[z1,C3];exact c2,ef,cd⟩
        ·obtain⟨i',g1,g2⟩:=c1 (m-n0) (by lia)
         rw[<- C3,show n0+(m-n0)=m by lia] at g1
         have hip:i'<fs.length:=by
          have h5:=(Array.getElem?_eq_some_iff.mp (M8 g1)).1;have h6:=congrArg List.length hes;rw[Array.length_toList,length_map] at h6;rw[T.size] at h5;lia
         refine⟨i',_,g1,List.getElem?_eq_getElem hip,λz=>g2 ?_⟩
         show(es[i']?.map (·.1)).getD 0=_
         rw[entAt i' _ (List.getElem?_eq_getElem hip)]
         show tkH prog w (fs[i']'hip).1=_
         rw[z]
    ·simp only[Bool.not_true,Bool.false_eq_true,if_false]
     rw[ee]
     dsimp only[ent]
     refine w_ (wpAny_holding (wpAny_eqBool_tuple hu hf hb ?_));refine w_ (wpAny_setState_of ho hd T.fits ?_)
     dsimp only
     by_cases cd:f.1=d
     ·rw[decide_eq_true cd,if_pos (by rfl)]
      exact u_ (hit (cd▸mem_map_of_mem (List.mem_of_getElem? ef)))
     ·rw[decide_eq_false cd,if_neg (by decide)]
      have sm:t.sameMemory t.moves t.mask=some true:=by
       unfold SetTable.sameMemory;rw[if_pos (by simp)]
      rw[sm]
      dsimp only
      rw[if_pos rfl,c2]
      dsimp only
      rw[ee]
      dsimp only[ent]
      refine w_ (wpAny_isSame_ref_self ?_);rw[if_pos rfl];refine w_ (u_ ?_)
      dsimp only
      rw[if_neg Bool.false_ne_true];refine ih (n0+n+1) _ (by lia) (by lia) ?_ λm hm=>?_
      ·rw[Option.getD_some,<- C3,Nat.add_assoc]
      ·by_cases z0:m<n0
       ·exact hcl m z0
       ·by_cases z1:m=n0+n
        ·exact⟨i,f,by rw[z1,C3];exact c2,ef,cd⟩
        ·obtain⟨i',g1,g2⟩:=c1 (m-n0) (by lia)
         rw[<- C3,show n0+(m-n0)=m by lia] at g1
         have hip:i'<fs.length:=by
          have h5:=(Array.getElem?_eq_some_iff.mp (M8 g1)).1;have h6:=congrArg List.length hes;rw[Array.length_toList,length_map] at h6;rw[T.size] at h5;lia
         refine⟨i',_,g1,List.getElem?_eq_getElem hip,λz=>g2 ?_⟩
         show(es[i']?.map (·.1)).getD 0=_
         rw[entAt i' _ (List.getElem?_eq_getElem hip)]
         show tkH prog w (fs[i']'hip).1=_
         rw[z]
 exact go 100000 0 none (by lia) (Nat.zero_le _) (by rw[<- hst0];rfl) (λm hm=>absurd hm (Nat.not_lt_zero _))
end
def met (ds:List (List Int)):Nat->List (List Int)
 | 0=>[]
 | i+1=>if ds.getD i []∈met ds i then met ds i else met ds i++[ds.getD i []]
theorem cN (ds:List (List Int)):∀i,i<=ds.length->(met ds i).Nodup/\(∀x,x∈met ds i↔x∈ds.take i)/\(met ds i).length<=i/\((met ds i).length=i↔(ds.take i).Nodup)
 | 0,_=>⟨nodup_nil,λx=>by simp[met],Nat.le_refl _,by simp[met]⟩
 | i+1,h=>by
  obtain⟨h1,h2,h3,h4⟩:=cN ds i (by lia)
  have hi:i<ds.length:=by lia
  have eg:ds.getD i []=ds[i]:=by rw[List.getD_eq_getElem?_getD,List.getElem?_eq_getElem hi];rfl
  have et:ds.take (i+1)=ds.take i++[ds[i]]:=by rw[take_succ,List.getElem?_eq_getElem hi];rfl
  unfold met;rw[eg,et]
  by_cases c:ds[i]∈met ds i
  ·rw[if_pos c]
   have c':=(h2 _).mp c;refine⟨h1,λx=>?_,by lia,⟨λz=>by lia,λz=>?_⟩⟩
   ·rw[h2,mem_append,mem_singleton]
    exact⟨.inl,λq=>q.elim id λe=>e▸c'⟩
   ·rw[nodup_append] at z
    exact absurd rfl (z.2.2 _ c' _ (by simp))
  ·rw[if_neg c]
   have c':¬ds[i]∈ds.take i:=λz=>c ((h2 _).mpr z);refine⟨?_,λx=>?_,?_,?_⟩
   ·rw[nodup_append]
    refine⟨h1,by simp,λa ha b hb e=>c ?_⟩
    rw[mem_singleton] at hb;rw[<- hb,<- e];exact ha
   ·rw[mem_append,mem_append,h2]
   ·rw[length_append,length_singleton];lia
   ·rw[length_append,length_singleton,nodup_append]
    constructor
    ·intro z
     refine⟨h4.mp (by lia),by simp,λa ha b hb e=>c' ?_⟩
     rw[mem_singleton] at hb;rw[<- hb,<- e];exact ha
    ·intro z
     have:=h4.mpr z.1
     lia
def nH (ds:List (List Int)):((met ds ds.length).length=ds.length↔ds.Nodup)/\(met ds ds.length).length<=ds.length:=by
 obtain⟨_,_,h3,h4⟩:=cN ds ds.length (Nat.le_refl _);rw[take_length] at h4;exact⟨h4,h3⟩
section
variable {prog:Program}{w:World}{A:Around}{E:Value->Shared->Prop}{s:Shared}
def nX {h0 h:Heap}{d:List Int}{b:Addr}(x:TK prog w h0 d b)(kp:∀c o,h0.get? c=some o->h.get? c=some o):TK prog w h d b:=by
 obtain⟨o,items,n,ho,r⟩:=x;exact⟨o,items,n,kp _ _ ho,r⟩
def cw (prog:Program)(w:World)(h0 h:Heap)(S:Addr)(L:List (List Int)):Prop :=
 ∃(o:Obj)(es:Array (Int×Value))(ep:Nat)(t:SetTable)(fs:List (List Int×Addr)),h.get? S=some o/\o.ExactSet/\o.data=.set es ep t/\W3 t es/\es.toList=fs.map (ent prog w)/\(∀f∈fs,TK prog w h0 f.1 f.2)/\(fs.map (·.1)).Perm L
theorem cw.of_get {h0 h h':Heap}{S:Addr}{L:List (List Int)}(x:cw prog w h0 h S L)(k:∀o,h.get? S=some o->h'.get? S=some o):cw prog w h0 h' S L:=by
 obtain⟨o,es,ep,t,fs,e,r⟩:=x;exact⟨o,es,ep,t,fs,k o e,r⟩
def oJ {h:Heap}{a:Addr}{o:Obj}{es es':Array (Int×Value)}{ep:Nat}{t t':SetTable}(ho:h.get? a=some o)(hd:o.data=.set es ep t):(h.update a (Obj.putSet es' t')).get? a=some { o with data:=.set es' (ep+1) t' }:=by
 have:=Heap.get?_update_self (Obj.putSet es' t') ho (by rw[putSet_of es' t' hd];rfl)
 rw[putSet_of es' t' hd] at this;exact this
def qk {S:Addr}{o:Obj}{es:Array (Int×Value)}{ep:Nat}{t:SetTable}{n:Nat}{Q:Unit->Shared->Prop}(ho:s.heap.get? S=some o)(hd:o.data=.set es ep t)(hf:t.fits es.size=true)(hn:es.size=n)(h0:0<n)(hb:n<=1023)
  (h:∀es' t',W3 t' es'->es'.toList.Perm es.toList->Q () { s with heap:=s.heap.update S (Obj.putSet es' t') }):wpAny (model prog w) A (setRelay S (grown n)) Q E s:=by
 obtain⟨t',order,e1,T',e2,pm,_⟩:=W3.relaid (t:=t) hn h0 hb
 obtain⟨k,a1,a2,a3,a4⟩:=cM (m:=grown n) (by
  unfold grown;rw[if_neg (by lia)]
  have:(4092:Nat)<2^60:=by decide
  lia)
 have hsz:sizeAbove (grown n)<=8192:=by
  rw[a1]
  rcases a4 with a4|rfl
  ·have:grown n=n*4:=by unfold grown;rw[if_neg (by lia)]
   lia
  ·decide
 unfold setRelay;refine w_ (wpAny_setState_of ho hd hf ?_)
 dsimp only
 rw[if_neg (by rw[sizeLine_eq];lia)]
 rw[e1]
 have er:∀{Q':(Array (Int×Value)×SetTable)->Shared->Prop},Q' (order.filterMap (es[·]?),t') s->wpAny (model prog w) A (if ((order.filterMap (es[·]?)).size != es.size)=true then unsupported "internal:set-table-lost-an-element" else pure (order.filterMap (es[·]?),t')) Q' E s:=λ{Q'} z=>by
  rw[if_neg (by rw[e2];simp)]
  exact u_ z
 refine w_ (er ?_);exact wpAny_storeSet_of ho hd (h _ _ T' pm) (by rw[e2,sizeLine_eq];lia)
def yw {h0:Heap}{S:Addr}{L:List (List Int)}{d:List Int}{b:Addr}{Q:Bool->Shared->Prop}(hu:A.units<cLine)(kp:∀c o,h0.get? c=some o->s.heap.get? c=some o)(hb:TK prog w h0 d b)(x:cw prog w h0 s.heap S L)(room:L.length<1023)
  (fin:∀v h',Heap.SameBut S s.heap h'->cw prog w h0 h' S (if d∈L then L else L++[d])->Q v { s with heap:=h' }) :
  wpAny (model prog w) A (setAddHashed S (.ref b) (tkH prog w d)) Q E s:=by
 obtain⟨o,es,ep,t,fs,ho,hx,hd,T,hes,hk,pm⟩:=x
 have hlen:es.size=L.length:=by
  have h1:=congrArg List.length hes;have h2:=pm.length_eq;rw[Array.length_toList,length_map] at h1;rw[length_map] at h2;lia
 unfold setAddHashed setAddHashedIn;refine wpAny_holding (w_ (wpAny_setState_of ho hd T.fits ?_))
 dsimp only
 rw[if_neg (by simp[byScan,Value.scannable])]
 refine w_ (lW hu ho hd T hes (λf hf=>nX (hk f hf) kp) (nX hb kp) (λhm=>?_) (λhm n c2 c3=>?_))
 ·dsimp only
  have z:=fin false s.heap (Heap.SameBut.refl S s.heap);rw[if_pos (pm.mem_iff.mp hm)] at z;exact u_ (z ⟨o,es,ep,t,fs,ho,hx,hd,T,hes,hk,pm⟩)
 ·dsimp only
  have hm':¬d∈L:=λz=>hm (pm.mem_iff.mpr z);refine w_ (wpAny_setState_of ho hd T.fits ?_)
  dsimp only
  obtain⟨p1,p2,p3,p4,p5,p6,p7,p8,p9⟩:=T.put (e:=(tkH prog w d,Value.ref b)) c2 c3 true;have pp:=SetTable.insertAt_perm es (t.put (adv t n (t.probeStart (tkH prog w d))).j).2 (tkH prog w d,Value.ref b)
  dsimp only at p1 p2 p3 p4 p5 p6 p7 p8 p9
  generalize (t.put (adv t n (t.probeStart (tkH prog w d))).j).1=t1 at p1 p2 p3 p4 p5 p6 p7 p8 p9 ⊢;generalize insertAt es (t.put (adv t n (t.probeStart (tkH prog w d))).j).2 (tkH prog w d,Value.ref b)=es1 at p1 p2 p3 p4 p5 p6 p7 p8 p9 pp ⊢;rw[Array.toList_push,hes,show fs.map (ent prog w)++[(tkH prog w d,Value.ref b)]=(fs++[(d,b)]).map (ent prog w) by rw[map_append];rfl] at pp
  obtain⟨fs1,f1,f2⟩:=dl pp _ rfl
  have hk1:∀f∈fs1,TK prog w h0 f.1 f.2:=λf hf=>by
   rcases mem_append.mp (f1.mem_iff.mp hf) with q|q
   ·exact hk f q
   ·rw[mem_singleton] at q
    rw[q];exact hb
  have pm1:(fs1.map (·.1)).Perm (L++[d]):=by
   refine(f1.map _).trans ?_;rw[map_append];exact pm.append_right _
  have less:=T.less;have small:=T.small
  have hf1:t1.fits es1.size=true:=by
   unfold SetTable.fits SetTable.fill;rw[p2,p4,p6]
   simp only[beq_self_eq_true,Bool.true_and,decide_eq_true_eq,size_toArray,length_nil]
   obtain⟨k,hk3,h3⟩:=T.mask
   have:2^3<=2^k:=Nat.pow_le_pow_right (by decide) h3
   lia
  have key:∀R:Bool->Shared->Prop,(∀v h',Heap.SameBut S s.heap h'->cw prog w h0 h' S (L++[d])->R v { s with heap:=h' })->wpAny (model prog w) A (do
    storeSet S es1 t1
    if (!false&&t1.tooFull)=true then setRelay S (grown (es.size+1))
    return true) R E s:=λR hR=>by
   refine w_ (wpAny_storeSet_of ho hd ?_ (by rw[p6,sizeLine_eq];lia))
   have g1:=oJ (es':=es1) (t':=t1) ho hd;have sb1:=Heap.SameBut.update s.heap S (Obj.putSet es1 t1)
   by_cases c:(!false&&t1.tooFull)=true
   ·rw[if_pos c]
    refine w_ (qk (s:={ s with heap:=s.heap.update S (Obj.putSet es1 t1) }) g1 rfl hf1 p6 (by lia) (by lia) λes2 t2 T2 pm2=>?_)
    rw[f2] at pm2;obtain⟨fs2,e1,e2⟩:=dl pm2 _ rfl;have g2:=oJ (es':=es2) (t':=t2) g1 rfl;refine u_ (hR _ _ (sb1.trans (Heap.SameBut.update _ S _)) ⟨_,es2,_,t2,fs2,g2,hx,rfl,T2,e2,λf hf=>hk1 f (e1.mem_iff.mp hf),(e1.map _).trans pm1⟩)
   ·rw[if_neg c]
    refine u_ (hR _ _ sb1 ⟨_,es1,_,t1,fs1,g1,hx,rfl,⟨p1,p2,p3,p4.trans p6.symm,p5,?_,?_⟩,f2,hk1,pm1⟩)
    ·have c':¬t1.fill*5 ≥ t1.mask*3:=λz=>c (by
      unfold SetTable.tooFull
      simp[z])
     unfold SetTable.fill at c';rw[p2,p4] at c'
     simp only[size_toArray,length_nil] at c'
     lia
    ·rw[p7];exact small
  rw[if_neg hm'] at fin
  by_cases c:t1.plain=true
  ·rw[if_pos c]
   refine w_ (lq (nX hb kp) ?_);rw[if_pos rfl];exact key _ fin
  ·rw[if_neg c]
   refine w_ (u_ ?_);rw[if_pos rfl];exact key _ fin
end
end L2
namespace L2
open PySem PyProof.Rows
section
variable {prog:Program}{w:World}{A:Around}{R:Result->Shared->Prop}{I:Addr}{fp wr:List Addr}{G:Array GenState->Array GenState->Prop}{n:Nat}{P:Nat->Value->Prop}{St:Nat->Shared->Prop}
theorem sP (W:WalksS prog w A.in1 I fp wr G n P St)(h0:Heap)(S:Addr)(hSf:S∉fp)(h0S:h0.get? S=none)(h0w:∀b∈wr,h0.get? b=none)(ds:List (List Int))(hn:n<=ds.length)(hu:A.in1.units<cLine)(hval:∀i v,P i v->∃b,v=.ref b/\TK prog w h0 (ds.getD i []) b)(hb:n<=1000) :
  ∀(k i:Nat)(s:Shared),n-i=k->i<=n->St i s->(∀c o,h0.get? c=some o->s.heap.get? c=some o)->cw prog w h0 s.heap S (met ds i)->(∀s',Moved (S::wr) G s s'->cw prog w h0 s'.heap S (met ds n)->R (.ok (.ret .none)) s') ->
   codeAny (model prog w) A (.builtin "set.update.loop" ⟨[.ref S,.ref I],[]⟩) R s:=by
 have hSw:S∉wr:=λz=>hSf (W.sub _ z);have sub:∀b∈wr,b∈S::wr:=λb q=>mem_cons_of_mem _ q
 intro k
 induction k with
 | zero =>
  intro i s hk hi st kp x fin
  obtain rfl:i=n:=by lia
  refine codeAny_builtin PyProof.Rows.F.entry_set_update_loop ?_;rw[Around.under_plainId PyProof.Rows.F.plain_set_update_loop _]
  show wpAny _ A.in1 (pyNext (.ref I) >>= _) _ _ s
  refine w_ (W.done s _ _ st λs' m=>?_)
  show wpAny _ A.in1 (ret Value.none) _ _ s'
  exact u_ (fin s' (m.mono sub) (x.of_get λo e=>m.heap S _ hSw e))
 | succ k ih =>
  intro i s hk hi st kp x fin
  have lt:i<n:=by lia
  refine codeAny_builtin PyProof.Rows.F.entry_set_update_loop ?_;rw[Around.under_plainId PyProof.Rows.F.plain_set_update_loop _]
  show wpAny _ A.in1 (pyNext (.ref I) >>= _) _ _ s
  refine w_ (W.item i s _ _ lt st λv s' pv st' m=>?_);obtain⟨b,rfl,hbk⟩:=hval i v pv;have x':cw prog w h0 s'.heap S (met ds i):=x.of_get λo e=>m.heap S _ hSw e;have kp':∀c o,h0.get? c=some o->s'.heap.get? c=some o:=λc o e=>m.heap c o (λz=>by rw[h0w c z] at e;cases e) (kp c o e)
  show wpAny _ A.in1 (holding [Value.ref b] (setAdd S (.ref b)) >>= _) _ _ s'
  refine w_ (wpAny_holding ?_);unfold setAdd;refine wpAny_holding (w_ (wpAny_pyHash_tuple hu (nX hbk kp') ?_));obtain⟨_,_,hlen,_⟩:=cN ds i (by lia)
  refine yw (s:={ s' with toks:=s'.toks+((ds.getD i []).length+1) }) hu kp' hbk x' (by lia) λv h' sb x2=>?_
  have x3:cw prog w h0 h' S (met ds (i+1)):=x2;refine u_ ⟨plainId_quiet PyProof.Rows.F.plain_set_update_loop _,ih (i+1) _ (by lia) lt (W.frame _ s' _ _ st' (Nat.le_add_right _ _) λb hb o e=>?_) (λc o e=>?_) x3 λs'' m2 x4=>?_⟩
  ·rw[sb.2 b (λz:b=S=>hSf (z▸hb))];exact e
  ·show h'.get? c=some o
   rw[sb.2 c (λz:c=S=>by rw[z,h0S] at e;cases e)];exact kp' c o e
  ·refine fin s'' (Moved.trans W.gtrans ((m.mono sub).then_heap (Nat.le_add_right _ _) λb o hb e=>?_) m2) x4
   rw[sb.2 b (λz:b=S=>hb (z▸mem_cons_self))];exact e
end
section
variable {prog:Program}{w:World}{A:Around}{E:Value->Shared->Prop}{s:Shared}
theorem iS {l:Addr}{items:Array Value}{ds:List (List Int)}{Q:Value->Shared->Prop}(hh:A.handled=none)(hu:A.units+8<cLine)(hl:s.heap.IsList l items)(hn:items.size=ds.length)(hi:∀(i:Nat) v,items[i]? = some v->∃b,v=.ref b/\TK prog w s.heap (ds.getD i []) b)(hb:items.size<=1000)
  (h:∀(h':Heap)(tk:Nat),cw prog w s.heap h' s.heap.objs.size (met ds ds.length)->(∀b o,b<s.heap.objs.size->s.heap.get? b=some o->h'.get? b=some o)->Q (.ref s.heap.objs.size) { s with heap:=h',toks:=tk }) :
  wpAny (model prog w) A (call (.type "set") [.ref l]) Q E s:=by
 obtain⟨c,tl,hmro⟩:=PySem.F.called_set.mro;have hmade:=PySem.F.called_set.made;have hsub:=PySem.F.called_set.sub;refine wpAny_call (codeAny_of_tree ?_)
 show wpAny _ _ (callAny (.type "set") _) _ _ _
 refine u_ ⟨Code.quiet_builtin _ (by decide +kernel),codeAny_builtin PySem.F.entry_type_call ?_⟩
 rw[Around.under_plain (weight_type_call_type "set" [.ref l] []) rfl];have h1:=PySem.F.called_set.notType;have h2:=PySem.F.called_set.canCreate;have hct:=PySem.F.typeCall_set_1 (.ref l)
 repeat (any_goals (first|assumption|wp_step))
 refine codeAny_mono (X8 (.ref l) (E:=E) (Q:=λobj s₁=>obj=.ref s.heap.objs.size/\s₁ = { s with heap:=s.heap.push (C6 w) }) ⟨rfl,rfl⟩) λr s₁ hr=>?_
 cases r with
 | error e=>exact hr
 | ok fl =>
  cases fl with
  | ret obj =>
   obtain⟨rfl,rfl⟩:=hr;have hS:(s.heap.push (C6 w)).get? s.heap.objs.size=some (C6 w):=Heap.get?_push_size _ rfl;have hT:Shared.TypeIs { s with heap:=s.heap.push (C6 w) } (.ref s.heap.objs.size) "set":=⟨_,hS,rfl⟩
   have hli:=PySem.F.called_set.init.lookup;have hbi:=PySem.F.called_set.init.bind (.ref s.heap.objs.size)
   repeat (any_goals (first|assumption|wp_step))
   refine codeAny_mono (codeAny_call_builtin (R:=wants (λr s₂=>r=.none/\∃h' tk,s₂ = { s with heap:=h',toks:=tk }/\cw prog w s.heap h' s.heap.objs.size (met ds ds.length) /\
     (∀b o,b<s.heap.objs.size->s.heap.get? b=some o->h'.get? b=some o)) E) PySem.F.called_set.init.plain PySem.F.entry_set_init (check_set_init_1 hT ?_)) λr₂ s₂ hr₂=>?_
   ·obtain⟨ol,hol,hcl,nl,hdl⟩:=id hl
    have hol':(s.heap.push (C6 w)).get? l=some ol:=Heap.get?_push_of_some _ hol;have hTl:Shared.TypeIs { s with heap:=s.heap.push (C6 w) } (.ref l) "list":=⟨ol,hol',hcl⟩
    have hsls:=PySem.F.sub_list_set;have hslf:=PySem.F.sub_list_frozenset;have hne:(Value.type "list" == Value.type "dict")=false:=by decide
    have hl1:(s.heap.push (C6 w)).IsList l items:=⟨_,hol',hcl,nl,hdl⟩;unfold Builtin.«set.__init__» noKeywords Builtin.Frozenset.updateFrom;generalize hPI:pyIter=PI
    wp_walk
    subst hPI;refine wpAny_pyIter_list hl1 (w_ (wpAny_runValue ?_));have hlS:l<s.heap.objs.size:=Heap.lt_size hol;have hneI:l≠(s.heap.push (C6 w)).objs.size:=by rw[Heap.size_push];exact Nat.ne_of_lt (Nat.lt_succ_of_lt hlS)
    have hSf:s.heap.objs.size∉[(s.heap.push (C6 w)).objs.size,l]:=by
     rw[Heap.size_push]
     simp only[mem_cons,not_mem_nil,or_false,not_or]
     exact⟨Nat.ne_of_lt (Nat.lt_succ_self _),Nat.ne_of_gt hlS⟩
    have h0S:s.heap.get? s.heap.objs.size=none:=by
     cases q:s.heap.get? s.heap.objs.size with
     | none=>rfl
     | some o=>exact absurd (Heap.lt_size q) (Nat.lt_irrefl _)
    have h0I:s.heap.get? (s.heap.push (C6 w)).objs.size=none:=by
     cases q:s.heap.get? (s.heap.push (C6 w)).objs.size with
     | none=>rfl
     | some o =>
      have:=Heap.lt_size q
      rw[Heap.size_push] at this;exact absurd this (by show ¬s.heap.objs.size+1<s.heap.objs.size;lia)
    rw[<- hn]
    refine sP ((Walks.list (by simpa using hh) _ l hneI items).toS) s.heap s.heap.objs.size hSf h0S (λb hb=>by rw[mem_singleton] at hb;rw[hb];exact h0I) ds (by lia) ?hU hi hb (items.size-0) 0 _ (by lia) (Nat.zero_le _)
     ⟨⟨_,Heap.get?_push_size _ rfl,rfl,rfl⟩,(hl1.push _)⟩ (λc o e=>Heap.get?_push_of_some _ (Heap.get?_push_of_some _ e)) ?hS0 ?hR
    case hU=>show A.units+1+1+1<cLine;lia
    case hS0 =>
     exact⟨_,#[],0,_,[],Heap.get?_push_of_some _ hS,⟨rfl,rfl,rfl⟩,rfl,W3.fresh _,rfl,(λf hf=>nomatch hf),List.Perm.refl _⟩
    case hR =>
     intro s' m x
     obtain⟨h',g',d',tk',os'⟩:=s';have eg:g'=s.gens:=m.gens;have ed:d'=s.drawn:=m.drawn;have eo:os'=s.os:=m.os;subst eg ed eo
     show wpAny _ _ _ _ _ _
     refine u_ ?_
     show wpAny _ _ (ret Value.none) _ _ _
     refine u_ ⟨rfl,h',tk',rfl,x,λb o q e=>?_⟩;refine m.heap b o ?_ (Heap.get?_push_of_some _ (Heap.get?_push_of_some _ e))
     simp only[mem_cons,not_mem_nil,or_false,not_or]
     refine⟨Nat.ne_of_lt q,?_⟩;rw[Heap.size_push];exact Nat.ne_of_lt (Nat.lt_succ_of_lt q)
   ·cases r₂ with
    | error e=>exact hr₂
    | ok fl₂ =>
     cases fl₂ with
     | ret r =>
      obtain⟨rfl,h',tk,rfl,x,kp⟩:=hr₂
      repeat (any_goals (first|assumption|wp_step))
      exact h _ _ x kp
     | _=>exact hr₂.elim
  | _=>exact hr.elim
end
end L2
namespace L2
open PySem PySem.Spec PyProof.Rows
def lu (l:Addr)(items:Array Value)(n:Nat)(b:Addr)(items2:Array Value)(n2:Nat)(dc:Option Addr)(sl:Array (Option Value))(hs0:¬(!items.isEmpty&&Builtin.List.listTooLong (items.size+items2.size))=true)(hs1:items.size<=sizeLine)(hs2:items.size+items2.size<=sizeLine+1) :
  Meets (Builtin.«list.extend» ⟨[.ref l,.ref b],[]⟩) (λ_ R s=>s.heap.get? l=some { cls:=.type "list",dict:=none,data:=.seq items n,slots:=#[] }/\s.heap.get? b=some { cls:=.type "tuple",dict:=dc,data:=.seq items2 n2,slots:=sl }/\R (.ok (.ret Value.none)) { s with heap:=s.heap.update l (Obj.mapSeq λx=>x++items2),toks:=s.toks }) :=
 .of_wp λprog w A R s h=>by
  obtain⟨hp,g,d,tk,os⟩:=s;obtain⟨hl,hb,h⟩:=h;have f2:=PySem.AutoSeq1.sub_tuple_tuple;have f3:=PySem.AutoSeq1.sub_list_list;have f4:=PySem.AutoSeq1.sub_tuple_list;have f5:=PySem.AutoSeq1.sub_list_tuple;have hz':(items++items2).size<=sizeLine+1:=by rw[Array.size_append];exact hs2
  wp_walk using (wpAny_updateSeq hl rfl (hz:=hs1) (_hz':=hz')),wpAny_loadPart' hl,wpAny_loadPart' hb
  exact⟨_,rfl,h⟩
section
variable {X:Cx}
def rh (K:Frag):V->List V->Hp->VK->Prop:=λx vs H Q=>∃l b xs zs,x=.ref l/\vs=[.ref b]/\H l=some (.lst xs)/\SqT K H b zs/\xs.length+zs.length<=sizeLine/\Q .non (upd H l (.lst (xs++zs)))
def nq (K:Frag)(hK:X.K=K:=by rfl):MtR X "list.extend" (rh K):=by
 subst hK
 intro pins s σ H x vs v us Q I rx rv h
 obtain⟨l,b,xs,zs,rfl,rfl,hH,hB,hz,q⟩:=h
 cases rx
 obtain⟨u,rfl,ru⟩:=rv.one
 cases ru
 obtain⟨z,its,n,r,hl,e⟩:=I.lstM hH;obtain⟨its2,r2,⟨ob,e2,c2,n2,d2⟩,z2⟩:=I.tuple hB;have hl2:=r2.length;have hsz:its.toArray.size+its2.toArray.size<=sizeLine:=by rw[size_toArray,size_toArray];lia
 have hlong:¬(!its.toArray.isEmpty&&Builtin.List.listTooLong (its.toArray.size+its2.toArray.size))=true:=by
  rw[cZ hsz,Bool.and_false];exact Bool.false_ne_true
 obtain⟨oc,od,oo,os⟩:=ob
 dsimp only at c2 d2
 subst c2 d2
 refine call_meets F.slot_list_extend ⟨_,e,rfl⟩ F.entry_list_extend (F.args_list_extend_2 _ _)
  (lu l its.toArray n b its2.toArray n2 od os hlong (by rw[size_toArray];lia) (by lia)) ⟨e,e2,?_⟩
 refine⟨.non,_,I.lset (its':=its++its2) hH e (by simp) (r.append r2) ?_,rfl,q⟩
 rw[length_append];lia
def tP (l:Addr)(n:Nat):HO:=.ext λh=>∃(o:Obj)(es:Array (Int×Value))(ep:Nat)(t:SetTable),h.get? l=some o/\o.ExactSet/\o.data=.set es ep t/\t.fits es.size=true/\es.size=n/\n<4096
theorem jV {prog:Program}{w:World}:∀{d:List Int}{vs:List Value},o9 (d.map V.int) vs->ItemsAre (intKind prog w) d vs
 | [],_,.nil=>.nil
 | i::d,_,.cons ⟨t,e⟩ r=>.cons (by rw[e];exact intKind_is _ _ _ _) (jV r)
def xA (K:Frag):List V->Hp->VK->Prop:=λxs H Q=>∃(p:Addr)(as:List Addr)(ds:List (List Int)),xs=[.ref p]/\SqL K H p (as.map V.ref)/\sL K H as ds/\ds.length<=1000/\∀l,H l=none->Q (.ref l) (upd H l (tP l (met ds ds.length).length))
def lH (K:Frag)(hc:X.calm=true)(hu:X.A.units+8<cLine)(hK:X.K=K:=by rfl):A3 X (.type "set") (xA K):=by
 subst hK
 intro pins s σ H xs us Q I r h
 obtain⟨p,as,ds,rfl,hq,hD,hle,q⟩:=h;obtain⟨u,rfl,rx⟩:=M3 r
 cases rx
 obtain⟨its,r',pl,hz⟩:=I.list hq;have hlen:=r'.length;have la:=Paired.length hD;rw[length_map] at hlen;refine iS (I.ok.hd hc) hu pl.isList (ds:=ds) (by rw[size_toArray];lia) (λi v hv=>?_) (by rw[size_toArray];lia) λh' tk x kp=>?_
 ·rw[<- Array.getElem?_toList] at hv
  have hi:i<its.length:=(List.getElem?_eq_some_iff.mp hv).1;have ea:as[i]? = some (as[i]'(by lia)):=List.getElem?_eq_getElem (by lia)
  obtain⟨v',hv',rv⟩:=r'.get (i:=i) (x:=.ref (as[i]'(by lia))) (by rw[List.getElem?_map,ea];rfl)
  have:v'=v:=by
   have:=hv'.symm.trans hv
   injection this
  subst this
  cases rv
  obtain⟨d,ed,hd⟩:=j9 hD i _ ea;obtain⟨ti,rt,⟨ob,e2,c2,n2,d2⟩,_⟩:=I.tuple hd;refine⟨_,rfl,ob,ti.toArray,n2,e2,c2,d2,?_⟩;rw[List.getD_eq_getElem?_getD,ed]
  simpa using jV rt
 ·obtain⟨o,es,ep,t,fs,ho,hx,hd,T,hes,hk,pm⟩:=x
  have hm:=(nH ds).2
  have hn:es.size=(met ds ds.length).length:=by
   have h1:=congrArg List.length hes;have h2:=pm.length_eq;rw[Array.length_toList,length_map] at h1;rw[length_map] at h2;lia
  exact⟨.ref s.heap.objs.size,_,I.laid (t':=tk) (o:=tP s.heap.objs.size (met ds ds.length).length) (λb o e=>kp b o (Heap.lt_size e) e) (Nat.le_refl _)
   ⟨⟨o,es,ep,t,ho,hx,hd,T.fits,hn,by lia⟩,⟨o,ho⟩,λh1 h2 y k=>by
    obtain⟨o,es,ep,t,ho,r⟩:=y
    exact⟨o,es,ep,t,k o ho,r⟩⟩,rfl,q _ (I.hok.fresh (Nat.le_refl _))⟩
def xx:List V->Hp->VK->Prop:=λxs H Q=>∃(p:Addr)(n:Nat),xs=[.ref p]/\H p=some (tP p n)/\Q (.int n) H
def mW:A3 X (.builtin "len") xx:=by
 intro pins s σ H xs us Q I r h
 obtain⟨p,n,rfl,he,q⟩:=h;obtain⟨u,rfl,rx⟩:=M3 r
 cases rx
 obtain⟨o,es,ep,t,ho,hx,hd,hf,hn,h4⟩:=(show r9 X.prog X.w H s.heap p (tP p n) from I.hok p _ he).1;refine PySem.call_len_set ho hx hd hf (by lia) ?_
 rw[hn];exact⟨.int n,H,I.tok _,⟨_,rfl⟩,q⟩
end
theorem B5.units9 {k:Nat}{A:Around}(r:B5 k A):A.units+8<cLine:=by have:=r.un;lia
section
variable {X:Cx}
def vw (K:Frag):List V->Hp->VK->Prop:=λxs H Q=>∃(l:Addr)(ns:List Int),xs=[.ref l]/\SqL K H l (ns.map V.int)/\ns≠[]/\∀M,M∈ns->(∀a∈ns,M<=a)->Q (.int M) H
def vI (K:Frag):List V->Hp->VK->Prop:=λxs H Q=>∃(l:Addr)(ns:List Int),xs=[.ref l]/\SqL K H l (ns.map V.int)/\ns≠[]/\∀M,M∈ns->(∀a∈ns,a<=M)->Q (.int M) H
def mJ (K:Frag)(hc:X.calm=true)(h:X.K=K:=by rfl):A3 X (.builtin "min") (vw K):=by
 subst h
 intro pins s σ H xs us Q I r h
 obtain⟨l,ns,rfl,hq,hne,q⟩:=h;obtain⟨u,rfl,rx⟩:=M3 r
 cases rx
 obtain⟨its,r',pl,hz⟩:=I.list hq;have hi:IntsAre its ns:=F6 r';obtain⟨xs,e⟩:=hi.allInts.items;have hns:ns=xs.toList.map (·.1):=by rw[<- hi.numsOf,<- nums_intItems,<- e]
 have hsz:0<xs.size:=by
  have h3:=List.length_pos_iff.mpr hne;rw[hns,length_map,Array.length_toList] at h3;exact h3
 have hl:=pl.isList;rw[e] at hl;refine min_intList (I.ok.hd hc) hl hsz λv h' tk hv hk=>?_;obtain⟨t,rfl⟩:=intItems_at hv;obtain⟨h1,h2⟩:=argBest_lt (numAt xs) (xs.size-1);refine⟨.int _,H,I.kept hk,⟨t,rfl⟩,q _ ?_ λa ha=>?_⟩
 ·rw[hns,numAt_eq];exact getD_mem (by rw[length_map,Array.length_toList];lia)
 ·rw[hns] at ha
  obtain⟨j,hj,rfl⟩:=mem_getD ha;rw[length_map,Array.length_toList] at hj;rw[<- numAt_eq];exact h2 j (by lia)
def mE (K:Frag)(hc:X.calm=true)(h:X.K=K:=by rfl):A3 X (.builtin "max") (vI K):=by
 subst h
 intro pins s σ H xs us Q I r h
 obtain⟨l,ns,rfl,hq,hne,q⟩:=h;obtain⟨u,rfl,rx⟩:=M3 r
 cases rx
 obtain⟨its,r',pl,hz⟩:=I.list hq;have hi:IntsAre its ns:=F6 r';obtain⟨xs,e⟩:=hi.allInts.items;have hns:ns=xs.toList.map (·.1):=by rw[<- hi.numsOf,<- nums_intItems,<- e]
 have hsz:0<xs.size:=by
  have h3:=List.length_pos_iff.mpr hne;rw[hns,length_map,Array.length_toList] at h3;exact h3
 have hl:=pl.isList;rw[e] at hl;refine max_intList (I.ok.hd hc) hl hsz λv h' tk hv hk=>?_;obtain⟨t,rfl⟩:=intItems_at hv;obtain⟨h1,h2⟩:=argBest_gt (numAt xs) (xs.size-1);refine⟨.int _,H,I.kept hk,⟨t,rfl⟩,q _ ?_ λa ha=>?_⟩
 ·rw[hns,numAt_eq];exact getD_mem (by rw[length_map,Array.length_toList];lia)
 ·rw[hns] at ha
  obtain⟨j,hj,rfl⟩:=mem_getD ha;rw[length_map,Array.length_toList] at hj;rw[<- numAt_eq];exact h2 j (by lia)
end
end L2
namespace L2
open PySem PySem.Spec PyProof.Rows PyProof
section
variable {X:Cx}{st:Stmt}{ta tb:TS}
def wX (ta tb:TS):TS:=λD σ H=>ta D σ H\/tb D σ H
def qC (ha:PS X st ta)(hb:PS X st tb):PS X st (wX ta tb):=λpins s σ H D I h=>h.elim (ha pins s σ H D I) (hb pins s σ H D I)
end
end L2
namespace PySem.W.Fast
def tw17204366051192591314:=0
def tw13154134836619689437:=0
def tw10023653349822627275:=0
def tw18065939685906939626:=0
def tw12306688445182328354:=0
def tw16647312313636373496:=0
def tw17807254805829371940:=0
def tw800268874701276618:=0
def tw6997024369140958966:=0
def tw16134363841252461137:=0
def tw12421252139123896762:=0
def tw7767124715678642228:=0
def tw10785077771321182027:=0
def tw11435508211463850004:=0
def tw14103187924210136665:=0
def tw3566341268755615346:=0
def tw16476325658905756014:=0
def tw11053613902978649331:=0
def tw10815622219562306721:=0
def tw706979011975502828:=0
def tw17302522580514002509:=0
def tw17626945741629682115:=0
def tw8774389522281767748:=0
def tw7941340839277849675:=0
def tw4693762678973674937:=0
def tw4326142781243434579:=0
def tw2163927100630026189:=0
def tw1257638466117450595:=0
def tw304472059824623789:=0
def tw6306323053452225739:=0
def tw7105057176424178496:=0
def tw4977641808833843943:=0
def tw17731335557989863173:=0
def tw5096060872165380052:=0
def tw13639495428449701472:=0
def tw9118961128928815156:=0
def tw8876662984259940153:=0
def tw8633915823496210725:=0
def tw6256914280030891307:=0
def tw12028272118303738684:=0
def tw16580540398650561096:=0
def tw118612838514775077:=0
def tw16172248980469400737:=0
def tw2119947962740331438:=0
def tw16933851863216482448:=0
def tw12435969462664786014:=0
def tw577186782408090445:=0
def tw14905510151993559779:=0
def tw13573446439552198996:=0
def tw13489048288833354857:=0
def tw6702456882518767491:=0
def tw13662765239410897651:=0
def tw7853500915271307331:=0
def tw1421039688132257399:=0
def tw14504995712691435632:=0
def tw13550141708204276208:=0
def tw9776775572028315880:=0
def tw6679019273810855969:=0
def tw15519351132218769127:=0
def tw3860720458795309362:=0
def tw1590410118739853087:=0
def tw17827157736965851259:=0
def tw6285764127627123446:=0
def tw15488137716334284357:=0
def tw13357064473510531106:=0
def tw11361827787030264238:=0
def tw13291095601774234130:=0
def tw3600111354734762259:=0
def tw11446783277013786315:=0
def tw15218887753979605013:=0
def tw2247154634395280658:=0
def tw6413333863001731594:=0
def tw17940329326753660541:=0
def tw1340158103590305948:=0
def tw5243060422371338743:=0
def tw1597492191806413280:=0
def tw12299386276201106538:=0
def tw9653151347142495439:=0
def tw5650628630456508943:=0
def tw14521653658130646277:=0
def tw4733892850294689353:=0
def tw3140789032246518871:=0
def tw5523121878802085106:=0
def tw11817220797474559046:=0
def tw15013715412390990973:=0
def tw1975774162176850454:=0
def tw3508773547823494911:=0
def tw12849311119245312496:=0
def tw2080920425180334564:=0
def tw4936271848086686214:=0
def tw12717310350186776142:=0
def tw8832773093373998294:=0
def tw9874506355139695854:=0
def tw6768750074004500538:=0
def tw14362898037528519411:=0
def tw11316133907041795354:=0
def tw6305077202398570370:=0
def tw5927765300051891258:=0
def tw9617298538018721040:=0
def tw16359406173926969252:=0
def tw1105870608759526876:=0
def tw14297653406612842363:=0
def tw17645229425115729423:=0
def tw10423756246765699382:=0
def tw4871790293160716136:=0
def tw4231997772804897056:=0
def tw13282409685689812289:=0
def tw2415030947585939851:=0
def tw8420627500296646039:=0
def tw6766238982984463611:=0
def tw8220943472384667775:=0
def tw7715354319748714086:=0
def tw2177585719751341655:=0
def tw10944756322883362390:=0
def tw8895463984282526248:=0
def tw13672492523066718940:=0
def tw1143168829881092808:=0
def tw5980390382092785262:=0
def tw3528898592107687653:=0
def tw10336502530070373145:=0
def tw4664486621353556438:=0
def tw14329207367690394627:=0
def tw10998248631364146533:=0
def tw15245986496199265732:=0
def tw7683047706342120180:=0
def tw12781514016361106684:=0
def tw17594699711191888376:=0
def tw125969898086733569:=0
def tw11591423605084401738:=0
def tw14304247695710937432:=0
def tw7163742862910096483:=0
def tw174043268233873627:=0
def tw8221164986610222957:=0
def tw10341393093826439715:=0
def tw52359034870341118:=0
def tw13848826220331418977:=0
def tw8601693892777427457:=0
def tw6243999721830601456:=0
def tw4009989108679173564:=0
def tw3247703010989954862:=0
def tw5491198105226926589:=0
def tw7000214369354697809:=0
def tw11277144425492190134:=0
def tw183518280978267216:=0
def tw6608204277349312177:=0
def tw17628765678506234:=0
def tw13149321905677759657:=0
def tw11253563048246737467:=0
def tw14426038397378336562:=0
def tw16804157047997466714:=0
end PySem.W.Fast
namespace My
open PySem L2 PyProof.Rows
theorem mkC (N:List Str)(o:Scope){s:Scope}{w:List Str}{f:List (Nat×Str)}(a:s.kind=.function:=by rfl)(b:∀y∈s.names,y.2=.cell->s.names.lookup y.1=some .cell:=by decide +kernel)(c:∀y∈s.names,y.2=.local->s.names.lookup y.1=some .local:=by decide +kernel)(d:∀y∈s.names,y.2=.free->o.names.lookup y.1=some .cell\/o.names.lookup y.1=some .free:=by decide +kernel)(e:∀p∈f,N[p.1]? =some p.2/\s.names.lookup p.2=some .free:=by decide +kernel):CompScope N o s w f:=⟨a,b,c,d,e⟩
variable {P:Program}{w:World}{K:Frag}{mg:Str->Option Value}{base:Heap}{yD yG yF yC yH yK yE my yI:Addr}
abbrev p_1:List Str:=["hall","calls","caller","ends","shut"]
abbrev p_2:List Str:=["_law_hall_here","_law_calls_here","_law_number_here"]
abbrev p_3:List Str:=["_law_hall_here","_law_calls_here","_law_number_here","_law_caller_here","_law_ends_here","_law_shut","_law_plain","_law_due_here","_law_racks","_law_handed","_law_refused","_law_found","_law_e","_law_behind"]
abbrev p_4:List Str:=["_law_hall_here","_law_calls_here","_law_caller_here","_law_ends_here","_law_shut"]
abbrev p_5:List Str:=["_law_hall_here","_law_taken","_law_number_here","_law_caller_here","_law_ends_here","_law_step","_law_k","_law_need","_law_one"]
abbrev p_6:List Str:=["_law_hall_here","_law_caller_here","_law_ends_here","_law_k"]
abbrev p_7:List Str:=["_law_hall_here","_law_calls_here","_law_caller_here","_law_ends_here"]
abbrev p_8:List Str:=["_law_hall_here","_law_calls_here","_law_caller_here","_law_ends_here","_law_due_here","_law_k","_law_need","_law_held","_law_call","_law_lines_here"]
abbrev p_9:List Str:=["_law_calls_here","_law_caller_here","_law_ends_here"]
abbrev p_10:List Str:=["_law_found","_law_due_here"]
abbrev p_11:List Str:=["_law_hall_here","_law_caller_here","_law_ends_here"]
abbrev p_12:List Str:=["_law_hall_here","_law_taken","_law_number_here"]
abbrev p_13:List Str:=["hall","calls"]
abbrev p_14:List Str:=["hall","calls","caller","ends"]
abbrev p_15:List Str:=["_law_hall_here","_law_number_here"]
abbrev p_16:List Str:=["hall","call","start","goals"]
abbrev p_17:List Str:=["_law_hall_here","_law_kept","_law_shut"]
abbrev p_18:List Str:=["thing","least","most"]
abbrev p_19:List Str:=["hall","thing"]
abbrev p_20:List Str:=["hall","calls","start","goal","shut"]
abbrev p_21:List Str:=["hall","calls","caller","ends","shut","held"]
abbrev p_22:List Str:=["hall","ends"]
abbrev p_23:List Str:=["calls","caller","ends","k"]
abbrev p_24:List Str:=["hall","caller"]
abbrev p_25:List Str:=["self","holds","least"]
abbrev p_26:List Str:=["_law_cell","_law_at"]
abbrev p_27:List Str:=["_law_e","_law_due_here"]
abbrev p_28:List Str:=["_law_hall_here","_law_cells"]
abbrev p_29:List Str:=["hall","calls","goals","move"]
abbrev p_30:List Str:=["_law_script","_law_k"]
abbrev p_31:List Str:=["hall","caller","ends"]
abbrev p_32:List Str:=["_law_script"]
abbrev p_33:List Str:=["hall","shut"]
abbrev p_34:List Str:=["hall","calls","caller","ends","start","goals","found","call"]
abbrev p_35:List Str:=["calls","caller","ends"]
abbrev p_36:List Str:=["hall","calls","moves"]
abbrev p_37:List Str:=["racks","bits"]
abbrev p_38:List Str:=["calls","caller"]
abbrev p_39:List Str:=["hall","calls","moves","goals","move","behind"]
abbrev p_40:List Str:=["thing"]
abbrev p_41:List Str:=["hall","things"]
abbrev p_42:List Str:=["hall","end"]
abbrev p_43:List Str:=["self","who"]
abbrev p_44:List Str:=["numbers"]
abbrev p_45:List Str:=["hall","calls","ends","lines","call"]
abbrev p_46:List Str:=["calls","end"]
abbrev p_47:List Str:=["hall","call"]
abbrev p_48:List Str:=["hall","things","last"]
abbrev p_49:List Str:=["some"]
def z_0:0<=sizeLine:=by decide
def z_1:1<=sizeLine:=by decide
def z_2:2<=sizeLine:=by decide
def z_3:3<=sizeLine:=by decide
def z_5:5<=sizeLine:=by decide
def z_6:6<=sizeLine:=by decide
def z_8:8<=sizeLine:=by decide
def z_11:11<=sizeLine:=by decide
def mkF {N P:List Str}{sc:Scope}(a:sc.kind=.function:=by rfl)(b:sc.isCoroutine=false:=by rfl)(c:sc.isGenerator=false:=by rfl)(d:N.Nodup:=by decide +kernel)(e:N.take P.length=P:=by rfl)(f:∀x∈P,sc.names.lookup x=some .local\/sc.names.lookup x=some .cell:=by decide +kernel)(g:∀y∈sc.names,y.2≠.free:=by decide +kernel):FnScope N P sc:=⟨a,b,c,d,e,f,g⟩
seal PE PT PW PA PS PSs PG PGs PI qw PO OpR UnR A3 xS IxR SlR MtR MtM vL wx PIp PC
def top (i:Nat):Stmt:=PySem.Challenge.pw_crossracks_k36_turning_refused.main.body.getD i (.Pass ⟨0,0,0,0⟩)
structure Txt (K:Frag)(mg:Str->Option Value):Prop where
 yT:mg "len" = none
 yJ:mg "isinstance" = none
 BH:mg "int" = none
 BL:mg "bool" = none
 zm:mg "tuple" = none
 AC:mg "list" = none
 BI:mg "set" = none
 yZ:mg "sorted" = none
 Ci:mg "divmod" = none
 za:mg "range" = none
 Er:mg "abs" = none
 Dr:mg "min" = none
 Es:mg "max" = none
 Et:mg "any" = none
 DO:mg "all" = none
 Eu:mg "zip" = none
 Fd:mg "str" = none
 EJ:mg "dict" = none
 m_ValueError:mg "ValueError" = none
structure bo (K:Frag)(mg:Str->Option Value)(yD:Addr)(yG:Addr)(yF:Addr)(yC:Addr)(yH:Addr)(yK:Addr)(yE:Addr)(my:Addr)(yI:Addr):Prop where
 Af:mg "HallError" = some (.ref yD)
 Dt:mg "NoHall" = some (.ref yG)
 CU:mg "NoCalls" = some (.ref yF)
 Du:mg "NoLine" = some (.ref yC)
 Dv:mg "NoRule" = some (.ref yH)
 DX:mg "Idle" = some (.ref yK)
 DY:mg "Busy" = some (.ref yE)
 CV:mg "Engaged" = some (.ref my)
 Dw:mg "NoMove" = some (.ref yI)
 Cj:uV K mg "NoLine" yC
 DP:de K yC
 Dx:kitOne K (.ref yC) (.type "ValueError")=some true
 Dy:exmOne K (.ref yC) (.ref yD)=some true
 zT:kitOne K (.ref yC) (.ref yD)=some true
 AD:kitOne K (.ref yC) (.ref yG)=some false
 Ag:kitOne K (.ref yC) (.ref yF)=some false
 AE:kitOne K (.ref yC) (.ref yC)=some true
 AF:kitOne K (.ref yC) (.ref yH)=some false
 Bi:kitOne K (.ref yC) (.ref yK)=some false
 Bj:kitOne K (.ref yC) (.ref yE)=some false
 Ah:kitOne K (.ref yC) (.ref my)=some false
 AG:kitOne K (.ref yC) (.ref yI)=some false
 DQ:∃fI,wq K mg "Busy" yE fI
 DR:eY K yE
 CW:de K yE
 DZ:kitOne K (.ref yE) (.type "ValueError")=some true
 Ea:exmOne K (.ref yE) (.ref yD)=some true
 Ai:kitOne K (.ref yE) (.ref yD)=some true
 Bk:kitOne K (.ref yE) (.ref yG)=some false
 AV:kitOne K (.ref yE) (.ref yF)=some false
 Bl:kitOne K (.ref yE) (.ref yC)=some false
 Bm:kitOne K (.ref yE) (.ref yH)=some false
 BM:kitOne K (.ref yE) (.ref yK)=some false
 BN:kitOne K (.ref yE) (.ref yE)=some true
 AW:kitOne K (.ref yE) (.ref my)=some false
 Bn:kitOne K (.ref yE) (.ref yI)=some false
 Bo:findIn K (.ref yE) "who" = some none
 Dz:∃fI,wq K mg "Engaged" my fI
 yY:eY K my
 yX:de K my
 CY:kitOne K (.ref my) (.type "ValueError")=some true
 CZ:exmOne K (.ref my) (.ref yD)=some true
 zD:kitOne K (.ref my) (.ref yD)=some true
 Aj:kitOne K (.ref my) (.ref yG)=some false
 zV:kitOne K (.ref my) (.ref yF)=some false
 Ak:kitOne K (.ref my) (.ref yC)=some false
 Al:kitOne K (.ref my) (.ref yH)=some false
 AX:kitOne K (.ref my) (.ref yK)=some false
 AY:kitOne K (.ref my) (.ref yE)=some false
 zW:kitOne K (.ref my) (.ref my)=some true
 Am:kitOne K (.ref my) (.ref yI)=some false
 zc:findIn K (.ref my) "holds" = some none
 yW:findIn K (.ref my) "least" = some none
def cell (ns:List Int)(k:Nat):Int:=ns.getD k 0
def mS {ns:List Int}{k:Nat}(h:k<ns.length):atI (ns.map V.int) (k:Int)=some (.int (cell ns k)):=B3 (by
 rw[List.getElem?_map,List.getElem?_eq_getElem h]
 simp[cell,List.getD,h])
def c9 {H:Hp}{p:Addr}(h:H p=none)(o:HO):i9 H (upd H p o):=λb u q=>by rw[j2 (n9 q h)];exact q
theorem i9.put {H H':Hp}{l:Addr}{o:HO}(s:i9 H H')(hl:H l=none):i9 H (upd H' l o):=λb u q=>by
 rw[j2 (n9 q hl)];exact s b u q
def tu (K:Frag):Sp:=λvs H Q _=>∃(a:Addr)(ns:List Int)(k:Nat),vs=[.ref a,.int k]/\SqL K H a (ns.map V.int)/\Q (.int (cell ns k)) H
def oN (K:Frag):Sp:=λvs H Q _=>∃(a:Addr)(ns:List Int),vs=[.ref a]/\SqL K H a (ns.map V.int)/\ns.length<=63/\∀H',Q (.bl true) H'
structure l9 where
 i:Int
 c:Int
 m:Int
 o:Int
 e:Int
def l9.row (h:l9):List Int:=[h.i,h.c,h.m,h.o,h.e]
structure l9.Ok (h:l9):Prop where
 i:1<=h.i/\h.i<=12
 c:1<=h.c/\h.c<=12
 m:1<=h.m/\h.m<=24
 o:1<=h.o/\h.o<=12
 e:1<=h.e/\h.e<=12
def mw {a b:Int}(ha:1<=a/\a<=12)(hb:1<=b/\b<=12):1<=a*b/\a*b<=144:=by
 have h1:1*1<=a*b:=Int.mul_le_mul ha.1 hb.1 (by decide) (by lia)
 have h2:a*b<=12*12:=Int.mul_le_mul ha.2 hb.2 (by lia) (by decide)
 lia
theorem l9.Ok.ic {h:l9}(k:h.Ok):1<=h.i*h.c/\h.i*h.c<=144:=mw k.i k.c
theorem l9.Ok.oe {h:l9}(k:h.Ok):1<=h.o*h.e/\h.o*h.e<=144:=mw k.o k.e
def tw (K:Frag):Sp:=λvs H Q _=>∃(a:Addr)(ns:List Int),vs=[.ref a]/\SqL K H a (ns.map V.int)/\∀(p:Addr)(h:l9)(H':Hp),h.Ok->2<=h.m->i9 H H'->H' p=some (.tup (h.row.map V.int))->Q (.ref p) H'
def df (j:Nat):Int:=if j=2 then 24 else 12
def bH (j:Nat):Int:=if j=2 then 1 else 0
def vg (j:Nat):0<=bH j/\bH j<=1:=by
 unfold bH
 split<;>lia
def uU (j:Nat):(if decide (V.int (j:Int)=V.int 2)=true then (1:Int) else 0)=bH j:=by
 unfold bH
 by_cases h:j=2
 ·subst h;rfl
 ·rw[if_neg h,if_neg]
  intro z
  have:=V.int.inj (of_decide_eq_true z)
  lia
theorem uG {i:Nat}(hi:i<5):(∃m:Int,atI ([4,4,5,4,4].map V.int) (i:Int)=some (.int m)/\1<=m/\m<=df i-bH i)/\∃m:Int,atI ([12,12,23,12,12].map V.int) (i:Int)=some (.int m)/\1<=m/\m<=df i-bH i:=by
 match i,hi with
 | 0,_=>exact⟨⟨_,rfl,by decide,by decide⟩,_,rfl,by decide,by decide⟩
 | 1,_=>exact⟨⟨_,rfl,by decide,by decide⟩,_,rfl,by decide,by decide⟩
 | 2,_=>exact⟨⟨_,rfl,by decide,by decide⟩,_,rfl,by decide,by decide⟩
 | 3,_=>exact⟨⟨_,rfl,by decide,by decide⟩,_,rfl,by decide,by decide⟩
 | 4,_=>exact⟨⟨_,rfl,by decide,by decide⟩,_,rfl,by decide,by decide⟩
theorem i9.seqT {H H':Hp}{a:Addr}{xs:List V}(e:i9 H H')(h:SqT K H a xs):SqT K H' a xs:=by
 rcases h with(h|⟨o,h⟩)|h
 ·exact .inl (.inl (e _ _ h))
 ·exact .inl (.inr ⟨o,e _ _ h⟩)
 ·exact .inr h
def cy:FnScope ["_law_script","_law_k"] ["_law_script","_law_k"] (i3 (top 56)):=mkF
def tS (T:Txt K mg)(D:Def K mg "_law_cell_at" (top 56) p_30):i6 P w K mg base 1 "_law_cell_at" p_30 (tu K):=by
 refine D.ok cy (λ_ _ _ _ h=>?_) (λ_ _ _ _ _ H _ Q E hr h=>?_)
 ·obtain⟨a,ns,k,rfl,_⟩:=h
  rfl
 obtain⟨a,ns,k,rfl,hS,q⟩:=h
 refine⟨_,(d9 (m8 (k9 cU (pv 1) (i8 (u6 K) rfl T.yT boot_len (a8 (pv 0) c7 a9)) (m3 _)) (i0 (j6 (j1 (q9 K) (pv 0) (pv 1)))) j7)
  (i0 (j6 c8))),?_⟩
 refine⟨_,rfl,_,rfl,a,_,rfl,.inl hS,_,_,rfl,rfl,_,rfl,?_⟩;refine B1 (λc=>?_) (λc=>?_)
 ·have c':(k:Int)<(((ns.map V.int).length:Nat):Int):=of_decide_eq_true c
  rw[length_map] at c';exact⟨_,rfl,_,rfl,a,_,_,_,rfl,rfl,hS,mS (by lia),q⟩
 ·have c':¬(k:Int)<(((ns.map V.int).length:Nat):Int):=of_decide_eq_false (Bool.eq_false_iff.mpr c)
  rw[length_map] at c';have e:cell ns k=0:=by simp[cell,List.getD,List.getElem?_eq_none (show ns.length<=k by lia)]
  rw[e] at q;exact q
def J6:FnScope ["_law_script","_law_sizes","_law_k","_law_number_here","_law_most"] ["_law_script"] (i3 (top 57)):=mkF
def uc (T:Txt K mg)(zE:i6 P w K mg base 1 "_law_cell_at" p_30 (tu K))(D:Def K mg "_law_hall" (top 57) p_32):i6 P w K mg base 2 "_law_hall" p_32 (tw K):=by
 refine D.ok J6 (λ_ _ _ _ h=>?_) (λ_ _ _ _ _ H _ Q E hr h=>?_)
 ·obtain⟨a,ns,rfl,_⟩:=h
  rfl
 obtain⟨a,ns,rfl,hS,q⟩:=h
 refine⟨_,(d9 (j3 (i:=1) J6.nd rfl (Or.inl rfl) (n6 c7))
  (d9 (A2 PassesOwn.never rfl (D1 rfl T.za (a8 c8 c7 l8)) (m5 (i:=2) J6.nd rfl (Or.inl rfl))
  (d9 (j3 (i:=3) J6.nd rfl (Or.inl rfl) (i7 L6 (i7 r6 (i7 o7 (m6 zE hr rfl (a8 (pv 0) (a8 (pv 2) c7 a9) a9)) (i7 mO c8 c8)) (i7 L6 (i7 r6 c8 (pv 2)) c8)) (i7 r6 c8 (pv 2))))
  (d9 (j3 (i:=4) J6.nd rfl (Or.inl rfl) (j1 (q9 K) (n6 (a8 c8 (a8 c8 (a8 c8 (a8 c8 (a8 c8 c7 l8) l8) l8) l8) l8)) (pv 2)))
  (d9 (m8 (k9 C7 (i7 o7 (m6 zE hr rfl (a8 (pv 0) (a8 c8 c7 l8) a9)) c8) c8 (m3 _)) (i0 (j3 (i:=4) J6.nd rfl (Or.inl rfl) (j1 (q9 K) (n6 (a8 c8 (a8 c8 (a8 c8 (a8 c8 (a8 c8 c7 l8) l8) l8) l8) l8)) (pv 2)))) j7)
  (i0 (C5 (K4 K PySem.F.plainAttrs_list PySem.F.slot_list_append PySem.F.type_list_append B7 (pv 1) (a8 (i7 L6 (i7 L6 c8 (A5 qD rfl T.BH boot_int (a8 (J5 C7 (pv 2) c8 (m3 _)) c7 vN))) (i7 o7 (i7 o7 (pv 3) c8) (pv 4))) c7 O5))))))))
  (i0 (j6 (A5 (O3 K) rfl T.zm boot_tuple (a8 (pv 1) c7 a9)))))),?_⟩
 refine⟨z_0,λl hl=>?_⟩
 have el:=@c6 H l (.lst []);have s1:=c9 hl (.lst []);generalize upd H l _=H1 at el s1 ⊢;refine⟨_,rfl,by decide,by decide,?_⟩
 refine E5 (lo:=0) (n:=5) (λi σ H'=>i9 H H'/\∃xs:List Int,xs.length=i/\(∀j x,xs[j]? = some x->1+bH j<=x/\x<=df j)/\H' l=some (.lst (xs.map V.int))/\∃v2 v3 v4,σ=[some (.ref a),some (.ref l),v2,v3,v4])
  ⟨s1,[],rfl,(λj x hx=>by simp at hx),el,none,none,none,rfl⟩ ?_ ?_
 ·rintro i σ H' hi ⟨s2,xs,hlen,hx,el2,v2,v3,v4,rfl⟩
  rw[Int.zero_add];obtain⟨⟨m1,a1,b1,c1⟩,m2,a2,b2,c2⟩:=uG hi
  have fin:∀(H3:Hp),i9 H' H3->∀n m:Int,1<=m->m<=df i-bH i->H3 l=some (.lst (xs.map V.int))/\(xs.map V.int).length<sizeLine/\(∃xs':List Int,xs'.length=i+1/\(∀j x,xs'[j]? = some x->1+bH j<=x/\x<=df j)/\upd H3 l (.lst (xs.map V.int++[.int (1+bH i+n%999983%m)])) l=some (.lst (xs'.map V.int)))/\i9 H (upd H3 l (.lst (xs.map V.int++[.int (1+bH i+n%999983%m)]))):=λH3 s3 n m hm1 hm2=>by
   refine⟨s3 _ _ el2,k8 (by rw[length_map];lia),⟨xs++[1+bH i+n%999983%m],by rw[length_append,hlen];rfl,λj x hj=>?_,by rw[c6,map_append];rfl⟩,i9.put (s2.trans s3) hl⟩
   rcases Nat.lt_trichotomy j xs.length with c|c|c
   ·rw[List.getElem?_append_left c] at hj
    exact hx j x hj
   ·rw[c,List.getElem?_concat_length] at hj
    cases hj
    rw[c,hlen];have h1:=Int.emod_nonneg (n%999983) (show m≠0 by lia)
    have h2:=Int.emod_lt_of_pos (n%999983) (show 0<m by lia)
    have h3:=vg i;lia
   ·rw[List.getElem?_eq_none (by rw[length_append,length_singleton];lia)] at hj
    cases hj
  refine⟨_,rfl,_,rfl,a,ns,i,rfl,s2.seq hS,_,_,rfl,rfl,⟨by decide,by decide,by decide⟩,_,_,rfl,rfl,(by show(0:Int)<10^18;decide),_,rfl,_,_,rfl,rfl,.inl ⟨by decide,by decide⟩,_,_,rfl,rfl,_,_,rfl,rfl,.inr ⟨by lia,by lia⟩,_,rfl,_,_,rfl,rfl,.inl ⟨by decide,by decide⟩,_,_,rfl,rfl,?_⟩
  refine⟨z_5,λl1 hl1=>?_⟩
  have el1:=@c6 H' l1 (.lst [.int 4,.int 4,.int 5,.int 4,.int 4]);have s3:=c9 hl1 (.lst [.int 4,.int 4,.int 5,.int 4,.int 4]);refine⟨_,rfl,l1,_,_,_,rfl,rfl,SqL.of el1,a1,?_⟩;generalize upd H' l1 _=H3 at s3 ⊢;have s23:=s2.trans s3;refine⟨_,rfl,a,ns,5,rfl,s23.seq hS,_,_,rfl,rfl,(by show(0:Int)<5;decide),rfl,_,rfl,?_⟩
  have o2:=uU i;refine B1 (λ_=>?_) (λ_=>?_)
  ·refine⟨z_5,λl2 hl2=>?_⟩
   have el3:=@c6 H3 l2 (.lst [.int 12,.int 12,.int 23,.int 12,.int 12]);have s4:=s3.trans (c9 hl2 (.lst [.int 12,.int 12,.int 23,.int 12,.int 12]));refine⟨_,rfl,l2,_,_,_,rfl,rfl,SqL.of el3,a2,?_⟩;obtain⟨f1,f2,⟨xs',g1,g2,g3⟩,f4⟩:=fin _ s4 (cell ns i%10^Int.toNat 18*(2*(i:Int)+48271)+7*(i:Int)) m2 b2 c2;rw[<- o2] at f4 g3;exact⟨_,rfl,.inl ⟨rfl,_,SqL.of f1⟩,_,rfl,rfl,.inr ⟨_,rfl,_,_,rfl,rfl,_,rfl,_,_,rfl,rfl,(by show(0:Int)<999983;decide),_,rfl,_,_,rfl,rfl,(by show(0:Int)<m2;lia),_,_,rfl,rfl,l,xs.map V.int,_,rfl,rfl,f1,f2,f4,xs',g1,g2,g3,_,_,_,rfl⟩⟩
  ·obtain⟨f1,f2,⟨xs',g1,g2,g3⟩,f4⟩:=fin _ s3 (cell ns i%10^Int.toNat 18*(2*(i:Int)+48271)+7*(i:Int)) m1 b1 c1
   rw[<- o2] at f4 g3;exact⟨_,rfl,.inl ⟨rfl,_,SqL.of f1⟩,_,rfl,rfl,.inr ⟨_,rfl,_,_,rfl,rfl,_,rfl,_,_,rfl,rfl,(by show(0:Int)<999983;decide),_,rfl,_,_,rfl,rfl,(by show(0:Int)<m1;lia),_,_,rfl,rfl,l,xs.map V.int,_,rfl,rfl,f1,f2,f4,xs',g1,g2,g3,_,_,_,rfl⟩⟩
 ·rintro σ H' ⟨s2,xs,hlen,hx,el2,v2,v3,v4,rfl⟩
  match xs,hlen with
  | [x0,x1,x2,x3,x4],_ =>
   refine⟨_,rfl,l,_,rfl,.inl ⟨SqL.of el2,λp hp=>?_⟩⟩;have y0:1<=x0/\x0<=12:=hx 0 x0 rfl;have y1:1<=x1/\x1<=12:=hx 1 x1 rfl;have y2:2<=x2/\x2<=24:=hx 2 x2 rfl;have y3:1<=x3/\x3<=12:=hx 3 x3 rfl;have y4:1<=x4/\x4<=12:=hx 4 x4 rfl;exact q p ⟨x0,x1,x2,x3,x4⟩ _ ⟨y0,y1,⟨by show 1<=x2;lia,y2.2⟩,y3,y4⟩ y2.1 (s2.trans (c9 hp _)) c6
def S6 (es:List Int):(es.map V.int).all br=true:=by
 rw[all_eq_true]
 intro x hx
 obtain⟨p,_,rfl⟩:=mem_map.mp hx;rfl
def bG (e:Int)(es:List Int):inV (.int e) (es.map V.int)=decide (e∈es):=by
 unfold inV;rw[List.any_map];rw[Bool.eq_iff_iff,any_eq_true,decide_eq_true_iff]
 constructor
 ·rintro⟨q,hq,e'⟩
  have e':(q==e)=true:=e';exact eq_of_beq e'▸hq
 ·intro h
  exact⟨e,h,beq_self_eq_true e⟩
structure we (h:l9)(xs:List Int):Prop where
 nd:xs.Nodup
 es:∀e∈xs,0<=e/\e<h.o*h.e
 some:xs≠[]
 few:xs.length<=12
def cY {x d:Int}(h:0<d):0<=x%d/\x%d<d:=⟨Int.emod_nonneg _ (by lia),Int.emod_lt_of_pos _ h⟩
def vi {h:l9}{r x:Int}(ok:h.Ok)(hr:0<=r/\r<h.o):0<=r*h.e+x%h.e/\r*h.e+x%h.e<h.o*h.e:=by
 have b3:=ok.e;have h1:=cY (x:=x) (d:=h.e) (by lia)
 have h2:0<=r*h.e:=Int.mul_nonneg hr.1 (by lia)
 have h3:(r+1)*h.e<=h.o*h.e:=Int.mul_le_mul_of_nonneg_right (by lia) (by lia)
 rw[Int.add_mul,Int.one_mul] at h3;lia
def lA (K:Frag):Sp:=λvs H Q _=>∃(a:Addr)(h:l9)(n:Int),vs=[.ref a,.int n]/\SqT K H a (h.row.map V.int)/\h.Ok/\∀(l:Addr)(es:List Int)(H':Hp),i9 H H'->H l=none->H' l=some (.lst (es.map V.int))->we h es->Q (.ref l) H'
def x6:FnScope ["_law_hall_here","_law_number_here","_law_ends_here","_law_left","_law_rack","_law_wide","_law_many","_law_k","_law_end"] ["_law_hall_here","_law_number_here"] (i3 (top 58)):=mkF
def tQ (T:Txt K mg)(D:Def K mg "_law_ends" (top 58) p_15):i6 P w K mg base 1 "_law_ends" p_15 (lA K):=by
 refine D.ok x6 (λ_ _ _ _ h=>?_) (λ_ _ _ _ _ H _ Q E hr h=>?_)
 ·obtain⟨a,h,n,rfl,_⟩:=h
  rfl
 obtain⟨a,h,n,rfl,hH,ok,q⟩:=h;have b1:=ok.oe;have b2:=ok.o;have b3:=ok.e
 refine⟨_,(d9 (j3 (i:=2) x6.nd rfl (Or.inl rfl) (n6 c7))
  (d9 (j3 (i:=3) x6.nd rfl (Or.inl rfl) (i7 rH (pv 1) (i7 mO c8 c8)))
  (d9 (j3 (i:=4) x6.nd rfl (Or.inl rfl) (i7 o7 (i7 o7 (i7 r6 (pv 1) c8) c8) (j1 (i4 K) (pv 0) c8)))
  (d9 (j3 (i:=5) x6.nd rfl (Or.inl rfl) (J5 C7 (i7 o7 (i7 o7 (i7 r6 (pv 1) c8) c8) c8) c8 (m3 _)))
  (d9 (j3 (i:=6) x6.nd rfl (Or.inl rfl) (i7 L6 c8 (i7 o7 (i7 o7 (i7 r6 (pv 1) c8) c8) c8)))
  (d9 (m8 (k9 C7 (i7 o7 (i7 o7 (i7 r6 (pv 1) c8) c8) c8) c8 (m3 _)) (i0 (j3 (i:=6) x6.nd rfl (Or.inl rfl) (i7 L6 c8 (i7 o7 (i7 o7 (i7 r6 (pv 1) c8) c8) c8)))) j7)
  (d9 (A2 PassesOwn.never rfl (D1 rfl T.za (a8 (pv 6) c7 a9)) (m5 (i:=7) x6.nd rfl (Or.inl rfl))
  (d9 (j3 (i:=8) x6.nd rfl (Or.inl rfl) (i7 o7 (i7 r6 (pv 1) (i7 L6 c8 (i7 r6 (i7 r6 c8 (pv 7)) (pv 7)))) c8))
  (d9 (m8 (k9 xL (pv 1) (i7 mO c8 c8) (m3 _)) (d9 (j3 (i:=8) x6.nd rfl (Or.inl rfl) (i7 o7 (pv 3) (i7 r6 (j1 (i4 K) (pv 0) c8) (j1 (i4 K) (pv 0) c8))))
  (i0 (j3 (i:=3) x6.nd rfl (Or.inl rfl) (i7 U5 (pv 3) (i7 r6 (j1 (i4 K) (pv 0) c8) (j1 (i4 K) (pv 0) c8)))))) j7)
  (d9 (m8 (w9 K (pv 5) (λ_=>rfl)) (i0 (j3 (i:=8) x6.nd rfl (Or.inl rfl) (i7 o7 (pv 8) (i7 r6 (j1 (i4 K) (pv 0) c8) (j1 (i4 K) (pv 0) c8))))) (i0 (j3 (i:=8) x6.nd rfl (Or.inl rfl) (i7 L6 (i7 r6 (pv 4) (j1 (i4 K) (pv 0) c8)) (i7 o7 (pv 8) (j1 (i4 K) (pv 0) c8))))))
  (i0 (m8 (k9 (fk K) (pv 8) (pv 2) (by with_unfolding_all rfl)) (i0 (C5 (K4 K PySem.F.plainAttrs_list PySem.F.slot_list_append PySem.F.type_list_append B7 (pv 2) (a8 (pv 8) c7 a9)))) j7))))))
  (i0 (j6 (pv 2)))))))))),?_⟩
 refine⟨z_0,λl hl=>?_⟩
 have el:=@c6 H l (.lst []);have s1:=c9 hl (.lst []);generalize upd H l _=H1 at el s1 ⊢;refine⟨_,rfl,_,_,rfl,rfl,⟨by decide,by decide,by decide⟩,_,_,rfl,rfl,⟨by show(0:Int)<10^18;decide,by show(10:Int)^18<18446744073709551616;decide⟩,?_⟩
 refine⟨_,rfl,_,_,rfl,rfl,.inr ⟨by decide,by decide⟩,_,_,rfl,rfl,(by show(0:Int)<999931;decide),_,rfl,a,_,_,_,rfl,rfl,i9.seqT s1 hH,rfl,_,_,rfl,rfl,(by show(0:Int)<h.o;omega),?_⟩
 refine⟨_,rfl,_,_,rfl,rfl,.inr ⟨by decide,by decide⟩,_,_,rfl,rfl,(by show(0:Int)<999917;decide),_,_,rfl,rfl,(by show(0:Int)<5;decide),rfl,?_⟩
 refine⟨_,rfl,_,_,rfl,rfl,.inr ⟨by decide,by decide⟩,_,_,rfl,rfl,(by show(0:Int)<999961;decide),_,_,rfl,rfl,(by show(0:Int)<3;decide),_,_,rfl,rfl,?_⟩
 refine⟨_,rfl,_,_,rfl,rfl,.inr ⟨by decide,by decide⟩,_,_,rfl,rfl,(by show(0:Int)<999863;decide),_,_,rfl,rfl,(by show(0:Int)<6;decide),rfl,_,rfl,?_⟩
 refine B1 (λ_=>⟨_,rfl,_,_,rfl,rfl,.inr ⟨by decide,by decide⟩,_,_,rfl,rfl,(by show(0:Int)<999961;decide),_,_,rfl,rfl,(by show(0:Int)<12;decide),_,_,rfl,rfl,_,rfl,_,rfl,by show -(2^62)<=1+n*16807%999961%12;omega,by show 1+n*16807%999961%12<2^62;omega,?_⟩) (λ_=>⟨_,rfl,_,rfl,by show -(2^62)<=1+n*16807%999961%3;omega,by show 1+n*16807%999961%3<2^62;omega,?_⟩)
 all_goals
  refine E5 (λi σ H'=>i9 H H'/\∃es:List Int,es.Nodup/\(∀e∈es,0<=e/\e<h.o*h.e)/\(i=0\/es≠[])/\es.length<=i/\H' l=some (.lst (es.map V.int))/\∃(v3:Int)(wd:Bool)(v4 v5 v6:Option V),σ=[some (.ref a),some (.int n),some (.ref l),some (.int v3),some (.int (n*62089911%999931%h.o)),some (.bl wd),v4,v5,v6])
   ⟨s1,[],nodup_nil,(λe he=>nomatch he),.inl rfl,Nat.le_refl _,el,_,_,_,none,none,rfl⟩ ?_ ?_
  ·rintro i σ H' hi ⟨s2,es,d1,d2,d3,d4,el2,v3,wd,v4,v5,v6,rfl⟩
   have hi:i<12:=by omega
   rw[Int.zero_add];have hk2:0<=2*(i:Int)*(i:Int)/\2*(i:Int)*(i:Int)<=24*12:=⟨Int.mul_nonneg (by omega) (by omega),Int.mul_le_mul (by omega) (by omega) (by omega) (by omega)⟩
   have hH2:=i9.seqT s2 hH;refine⟨_,rfl,_,rfl,_,_,rfl,rfl,.inl ⟨by decide,by decide⟩,_,rfl,_,_,rfl,rfl,.inr ⟨by omega,by omega⟩,_,_,rfl,rfl,_,_,rfl,rfl,.inr ⟨by omega,by omega⟩,_,_,rfl,rfl,(by show(0:Int)<999983;decide),?_⟩
   refine⟨_,rfl,_,_,rfl,rfl,⟨by decide,by decide,by decide⟩,_,_,rfl,rfl,_,rfl,?_⟩
   have key:∀x:Int,(!inV (.int x) (es.map V.int))=true->¬x∈es:=λx c=>by rw[bG] at c;simpa using c
   have key2:∀x:Int,¬(!inV (.int x) (es.map V.int))=true->x∈es:=λx c=>by rw[bG] at c;simpa using c
   have fin:∀x:Int,0<=x/\x<h.o*h.e->¬x∈es->(i9 H (upd H' l (.lst (es.map V.int++[.int x]))))/\∃es':List Int,es'.Nodup/\(∀e∈es',0<=e/\e<h.o*h.e)/\(i+1=0\/es'≠[])/\es'.length<=i+1/\upd H' l (.lst (es.map V.int++[.int x])) l=some (.lst (es'.map V.int)):=λx hx hn=>by
    refine⟨i9.put s2 hl,es++[x],nodup_append.mpr ⟨d1,by simp,λy hy z hz=>?_⟩,λe he=>?_,.inr (by simp),by rw[length_append,length_singleton];omega,by rw[c6,map_append];rfl⟩
    ·rw[mem_singleton] at hz
     exact λe=>hn (by rw[<- hz,<- e];exact hy)
    ·rcases mem_append.mp he with c|c
     ·exact d2 e c
     ·rw[mem_singleton] at c
      rw[c];exact hx
   refine B1 (λ_=>⟨_,rfl,_,rfl,a,_,_,_,rfl,rfl,hH2,rfl,_,rfl,a,_,_,_,rfl,rfl,hH2,rfl,_,_,rfl,rfl,.inl ⟨by omega,by omega⟩,_,_,rfl,rfl,(by show 0<h.o*h.e;omega),_,rfl,_,rfl,a,_,_,_,rfl,rfl,hH2,rfl,_,rfl,a,_,_,_,rfl,rfl,hH2,rfl,_,_,rfl,rfl,.inl ⟨by omega,by omega⟩,_,_,rfl,rfl,⟨by show 0<h.o*h.e;omega,by show h.o*h.e<1073741824;omega⟩,?_⟩) (λ_=>?_)
   all_goals
    refine⟨_,rfl,_,rfl,?_⟩;refine B1 (λ_=>⟨_,rfl,_,rfl,a,_,_,_,rfl,rfl,hH2,rfl,_,rfl,a,_,_,_,rfl,rfl,hH2,rfl,_,_,rfl,rfl,.inl ⟨by omega,by omega⟩,_,_,rfl,rfl,(by show 0<h.o*h.e;omega),?_⟩) (λ_=>⟨_,rfl,_,rfl,a,_,_,_,rfl,rfl,hH2,rfl,_,_,rfl,rfl,.inr ⟨by omega,by omega⟩,_,rfl,_,rfl,a,_,_,_,rfl,rfl,hH2,rfl,_,_,rfl,rfl,(by show 0<h.e;omega),_,_,rfl,rfl,?_⟩)
   all_goals
    refine⟨_,rfl,_,rfl,l,_,rfl,.inl (SqL.of el2),rfl,S6 es,_,rfl,?_⟩;refine B1 (λc=>?_) (λc=>?_)
    ·have c':=key _ c
     obtain⟨g0,es',g1,g2,g3,g4,g5⟩:=fin _ (by first|exact cY (by omega)|exact vi ok (cY (by omega))) c'
     exact⟨_,rfl,.inl ⟨rfl,_,SqL.of el2⟩,_,rfl,l,_,_,rfl,rfl,el2,k8 (by rw[length_map];omega),g0,es',g1,g2,g3,g4,g5,_,_,_,_,_,rfl⟩
    ·have c':=key2 _ c
     exact⟨s2,es,d1,d2,.inr (List.ne_nil_of_mem c'),by omega,el2,_,_,_,_,_,rfl⟩
  ·rintro σ H' ⟨s2,es,d1,d2,d3,d4,el2,v3,wd,v4,v5,v6,rfl⟩
   exact⟨_,rfl,q l es H' s2 hl el2 ⟨d1,d2,d3.resolve_left (by omega),by omega⟩⟩
def nIn (r k:Int):List Key:=[.inr "in",.inl r,.inl k]
def R8 (r k:Int):List Key:=[.inr "out",.inl r,.inl k]
def x8 (h:l9)(k:Int)(acc:List (List Key))(e:Int):List (List Key):=if inD acc (R8 (e/h.e) k) then acc else acc++[R8 (e/h.e) k]
def B6 (h:l9)(c:Int)(es:List Int)(k:Int):List (List Key):=es.foldl (x8 h k) [nIn (c/h.c) k]
theorem Y3 (h:l9)(k:Int)(d:List Key):∀(es:List Int)(acc:List (List Key)),d∈es.foldl (x8 h k) acc↔d∈acc\/∃e∈es,d=R8 (e/h.e) k
 | [],acc=>by simp
 | e::t,acc=>by
  rw[foldl_cons,Y3 h k d t]
  have st:d∈x8 h k acc e↔d∈acc\/d=R8 (e/h.e) k:=by
   unfold x8
   by_cases c:inD acc (R8 (e/h.e) k)=true
   ·rw[if_pos c]
    have c':=cL.mp c
    constructor
    ·exact .inl
    ·rintro(g|g)
     ·exact g
     ·rw[g];exact c'
   ·rw[if_neg c,mem_append,mem_singleton]
  rw[st]
  constructor
  ·rintro((g|g)|⟨x,hx,g⟩)
   ·exact .inl g
   ·exact .inr ⟨e,mem_cons_self ..,g⟩
   ·exact .inr ⟨x,mem_cons_of_mem _ hx,g⟩
  ·rintro(g|⟨x,hx,g⟩)
   ·exact .inl (.inl g)
   ·rcases mem_cons.mp hx with rfl|hx
    ·exact .inl (.inr g)
    ·exact .inr ⟨x,hx,g⟩
def L8 {h:l9}{c:Int}{es:List Int}{k:Int}{d:List Key}:d∈B6 h c es k↔d=nIn (c/h.c) k\/∃e∈es,d=R8 (e/h.e) k:=by
 unfold B6;rw[Y3,mem_singleton]
theorem N5 (h:l9)(k:Int):∀(es:List Int)(acc:List (List Key)),(es.foldl (x8 h k) acc).length<=acc.length+es.length
 | [],acc=>by simp
 | e::t,acc=>by
  have ih:=N5 h k t (x8 h k acc e)
  have:(x8 h k acc e).length<=acc.length+1:=by
   unfold x8
   split<;>simp
  rw[foldl_cons,length_cons];lia
def bO (h:l9)(c:Int)(es:List Int)(k:Int):(B6 h c es k).length<=1+es.length:=N5 h k es _
def F2 (H:Hp)(as:List Addr)(ds:List (List Key)):Prop:=Paired (λa d=>H a=some (.tup (d.map kV))) as ds
def jN (H:Hp)(l:Addr)(ds:List (List Key)):Prop:=∃as:List Addr,H l=some (.lst (as.map V.ref))/\F2 H as ds
theorem F2.same {H H':Hp}{as:List Addr}{ds:List (List Key)}(s:∀b xs,H b=some (.tup xs)->H' b=some (.tup xs))(h:F2 H as ds):F2 H' as ds:=by
 unfold F2 at h ⊢;exact A4 h λa d _ e=>s _ _ e
theorem jN.push {H:Hp}{l p:Addr}{as:List Addr}{ds:List (List Key)}{d:List Key}(e:H l=some (.lst (as.map V.ref)))(h:F2 H as ds)(hp:H p=some (.tup (d.map kV))) :
  jN (upd H l (.lst (as.map V.ref++[.ref p]))) l (ds++[d]):=by
 have hpl:p≠l:=λz=>by rw[z,e] at hp;cases hp
 refine⟨as++[p],by rw[c6,map_append];rfl,Paired.snoc (F2.same (λb xs hb=>?_) h) ?_⟩
 ·have hbl:b≠l:=λz=>by rw[z,e] at hb;cases hb
  rw[j2 hbl];exact hb
 ·show upd _ l _ p=_
  rw[j2 hpl];exact hp
def iW (K:Frag):Sp:=λvs H Q _=>∃(a e:Addr)(h:l9)(c k:Int)(es:List Int),vs=[.ref a,.int c,.ref e,.int k]/\SqT K H a (h.row.map V.int)/\h.Ok/\(SqT K H e (es.map V.int)\/SqL K H e (es.map V.int))/\es.length<=13 /\
 ∀(l:Addr)(as:List Addr)(H':Hp),i9 H H'->H l=none->H' l=some (.lst (as.map V.ref))->F2 H' as (B6 h c es k)->Q (.ref l) H'
def D7:FnScope ["_law_hall_here","_law_caller_here","_law_ends_here","_law_k","_law_lines_here","_law_end","_law_line"] ["_law_hall_here","_law_caller_here","_law_ends_here","_law_k"] (i3 (top 59)):=mkF
def qX (T:Txt K mg)(D:Def K mg "_law_lines" (top 59) p_6):i6 P w K mg base 1 "_law_lines" p_6 (iW K):=by
 refine D.ok D7 (λ_ _ _ _ h=>?_) (λ_ _ _ _ _ H _ Q E hr h=>?_)
 ·obtain⟨a,e,h,c,k,es,rfl,_⟩:=h
  rfl
 obtain⟨a,e,h,c,k,es,rfl,hH,ok,hE,few,q⟩:=h;have o2:=ok.c;have o3:=ok.e
 rcases hE with hE|hE
 ·refine⟨_,(d9 (j3 (i:=4) D7.nd rfl (Or.inl rfl) (n6 (a8 (C2 (a8 Q5 (a8 (i7 U5 (pv 1) (j1 (i4 K) (pv 0) c8)) (a8 (pv 3) c7 a9) O5) l8)) c7 Q0)))
  (d9 (A2 PassesOwn.never rfl (cD K (pv 2)) (m5 (i:=5) D7.nd rfl (Or.inl rfl))
  (d9 (j3 (i:=6) D7.nd rfl (Or.inl rfl) (C2 (a8 Q5 (a8 (i7 U5 (pv 5) (j1 (i4 K) (pv 0) c8)) (a8 (pv 3) c7 a9) O5) l8)))
  (i0 (m8 (k9 (cR K (B5.unitsT hr)) (pv 6) (pv 4) (by with_unfolding_all rfl)) (i0 (C5 (K4 K PySem.F.plainAttrs_list PySem.F.slot_list_append PySem.F.type_list_append B7 (pv 4) (a8 (pv 6) c7 a9)))) j7))))
  (i0 (j6 (pv 4))))),?_⟩
  refine⟨_,rfl,_,rfl,a,_,_,_,rfl,rfl,hH,rfl,_,_,rfl,rfl,⟨by lia,by lia⟩,_,rfl,z_3,λt1 ht1=>?_⟩
  have e1:=@c6 H t1 (.tup [.str "in",.int (c/h.c),.int k]);have s1:=c9 ht1 (.tup [.str "in",.int (c/h.c),.int k]);generalize upd H t1 _=H1 at e1 s1 ⊢;refine⟨z_1,λl hl=>?_⟩
  have bag0:jN (upd H1 l (.lst [.ref t1])) l [nIn (c/h.c) k]:=⟨[t1],c6,.cons (c9 hl _ _ _ e1) .nil⟩;have sl:=c9 hl (.lst [.ref t1]);generalize upd H1 l _=H3 at bag0 sl ⊢;have s3:=s1.trans sl;refine⟨_,rfl,e,rfl,⟨_,i9.seqT s3 hE⟩,?_⟩
  refine vc (xs:=es.map V.int) (λi σ H'=>i9 H1 H'/\jN H' l ((es.take i).foldl (x8 h k) [nIn (c/h.c) k])/\∃v5 v6,σ=[some (.ref a),some (.int c),some (.ref e),some (.int k),some (.ref l),v5,v6])
   ⟨sl,bag0,none,none,rfl⟩ (λi σ H' _ g=>i9.seqT (s1.trans g.1) hE) ?_ ?_
  ·rintro i x σ H' hx ⟨s5,⟨as,b1,b2⟩,v5,v6,rfl⟩
   rw[List.getElem?_map] at hx;obtain⟨y,hy,rfl⟩:=Option.map_eq_some_iff.mp hx;have hlen:=N5 h k (es.take i) [nIn (c/h.c) k];have hlt:(es.take i).length<=13:=by rw[length_take];lia
   rw[length_singleton] at hlen
   have step:(es.take (i+1)).foldl (x8 h k) [nIn (c/h.c) k]=x8 h k ((es.take i).foldl (x8 h k) [nIn (c/h.c) k]) y:=by
    rw[take_succ,hy,List.foldl_append];rfl
   rw[step];generalize (es.take i).foldl (x8 h k) [nIn (c/h.c) k]=ds at b2 hlen;have hn:=Paired.length b2;have hH5:=i9.seqT (s1.trans s5) hH;refine⟨_,rfl,_,rfl,a,_,_,_,rfl,rfl,hH5,rfl,_,_,rfl,rfl,⟨by lia,by lia⟩,_,rfl,z_3,λu hu=>?_⟩
   have eu:=@c6 H' u (.tup [.str "out",.int (y/h.e),.int k]);have s6:=c9 hu (.tup [.str "out",.int (y/h.e),.int k]);generalize upd H' u _=H6 at eu s6 ⊢;have c1:=s6 _ _ b1;have c2:=F2.same (λb xs hb=>s6 _ _ hb) b2;refine⟨_,rfl,_,rfl,l,u,as,R8 (y/h.e) k,ds,rfl,rfl,SqL.of c1,SqT.of eu,A4 c2 (λ_ _ _ z=>SqT.of z),_,rfl,?_⟩;refine B1 (λcc=>?_) (λcc=>?_)
   ·have cc':inD ds (R8 (y/h.e) k)=false:=by simpa using cc
    refine⟨_,rfl,.inl ⟨rfl,_,SqL.of c1⟩,_,rfl,l,as.map V.ref,.ref u,rfl,rfl,c1,k8 (by rw[length_map,hn];lia),?_⟩
    refine⟨i9.put (s5.trans s6) hl,?_,_,_,rfl⟩;unfold x8;rw[if_neg (by rw[cc'];exact Bool.false_ne_true)]
    exact jN.push (d:=R8 (y/h.e) k) c1 c2 eu
   ·have cc':inD ds (R8 (y/h.e) k)=true:=by simpa using cc
    refine⟨s5.trans s6,?_,_,_,rfl⟩;unfold x8;rw[if_pos cc'];exact⟨as,c1,c2⟩
  ·rintro σ H' ⟨s5,⟨as,b1,b2⟩,v5,v6,rfl⟩
   rw[length_map,take_length] at b2;exact⟨_,rfl,q l as H' (s1.trans s5) (s1.free hl) b1 b2⟩
 ·refine⟨_,(d9 (j3 (i:=4) D7.nd rfl (Or.inl rfl) (n6 (a8 (C2 (a8 Q5 (a8 (i7 U5 (pv 1) (j1 (i4 K) (pv 0) c8)) (a8 (pv 3) c7 a9) O5) l8)) c7 Q0)))
  (d9 (A2 PassesOwn.never rfl (o6 K (pv 2)) (m5 (i:=5) D7.nd rfl (Or.inl rfl))
  (d9 (j3 (i:=6) D7.nd rfl (Or.inl rfl) (C2 (a8 Q5 (a8 (i7 U5 (pv 5) (j1 (i4 K) (pv 0) c8)) (a8 (pv 3) c7 a9) O5) l8)))
  (i0 (m8 (k9 (cR K (B5.unitsT hr)) (pv 6) (pv 4) (by with_unfolding_all rfl)) (i0 (C5 (K4 K PySem.F.plainAttrs_list PySem.F.slot_list_append PySem.F.type_list_append B7 (pv 4) (a8 (pv 6) c7 a9)))) j7))))
  (i0 (j6 (pv 4))))),?_⟩
  refine⟨_,rfl,_,rfl,a,_,_,_,rfl,rfl,hH,rfl,_,_,rfl,rfl,⟨by lia,by lia⟩,_,rfl,z_3,λt1 ht1=>?_⟩
  have e1:=@c6 H t1 (.tup [.str "in",.int (c/h.c),.int k]);have s1:=c9 ht1 (.tup [.str "in",.int (c/h.c),.int k]);generalize upd H t1 _=H1 at e1 s1 ⊢;refine⟨z_1,λl hl=>?_⟩
  have bag0:jN (upd H1 l (.lst [.ref t1])) l [nIn (c/h.c) k]:=⟨[t1],c6,.cons (c9 hl _ _ _ e1) .nil⟩;have sl:=c9 hl (.lst [.ref t1]);generalize upd H1 l _=H3 at bag0 sl ⊢;have s3:=s1.trans sl;refine⟨_,rfl,e,rfl,⟨_,i9.seq s3 hE⟩,?_⟩
  refine B0 (xs:=es.map V.int) (λi σ H'=>i9 H1 H'/\jN H' l ((es.take i).foldl (x8 h k) [nIn (c/h.c) k])/\∃v5 v6,σ=[some (.ref a),some (.int c),some (.ref e),some (.int k),some (.ref l),v5,v6])
   ⟨sl,bag0,none,none,rfl⟩ (λi σ H' _ g=>i9.seq (s1.trans g.1) hE) ?_ ?_
  ·rintro i x σ H' hx ⟨s5,⟨as,b1,b2⟩,v5,v6,rfl⟩
   rw[List.getElem?_map] at hx;obtain⟨y,hy,rfl⟩:=Option.map_eq_some_iff.mp hx;have hlen:=N5 h k (es.take i) [nIn (c/h.c) k];have hlt:(es.take i).length<=13:=by rw[length_take];lia
   rw[length_singleton] at hlen
   have step:(es.take (i+1)).foldl (x8 h k) [nIn (c/h.c) k]=x8 h k ((es.take i).foldl (x8 h k) [nIn (c/h.c) k]) y:=by
    rw[take_succ,hy,List.foldl_append];rfl
   rw[step];generalize (es.take i).foldl (x8 h k) [nIn (c/h.c) k]=ds at b2 hlen;have hn:=Paired.length b2;have hH5:=i9.seqT (s1.trans s5) hH;refine⟨_,rfl,_,rfl,a,_,_,_,rfl,rfl,hH5,rfl,_,_,rfl,rfl,⟨by lia,by lia⟩,_,rfl,z_3,λu hu=>?_⟩
   have eu:=@c6 H' u (.tup [.str "out",.int (y/h.e),.int k]);have s6:=c9 hu (.tup [.str "out",.int (y/h.e),.int k]);generalize upd H' u _=H6 at eu s6 ⊢;have c1:=s6 _ _ b1;have c2:=F2.same (λb xs hb=>s6 _ _ hb) b2;refine⟨_,rfl,_,rfl,l,u,as,R8 (y/h.e) k,ds,rfl,rfl,SqL.of c1,SqT.of eu,A4 c2 (λ_ _ _ z=>SqT.of z),_,rfl,?_⟩;refine B1 (λcc=>?_) (λcc=>?_)
   ·have cc':inD ds (R8 (y/h.e) k)=false:=by simpa using cc
    refine⟨_,rfl,.inl ⟨rfl,_,SqL.of c1⟩,_,rfl,l,as.map V.ref,.ref u,rfl,rfl,c1,k8 (by rw[length_map,hn];lia),?_⟩
    refine⟨i9.put (s5.trans s6) hl,?_,_,_,rfl⟩;unfold x8;rw[if_neg (by rw[cc'];exact Bool.false_ne_true)]
    exact jN.push (d:=R8 (y/h.e) k) c1 c2 eu
   ·have cc':inD ds (R8 (y/h.e) k)=true:=by simpa using cc
    refine⟨s5.trans s6,?_,_,_,rfl⟩;unfold x8;rw[if_pos cc'];exact⟨as,c1,c2⟩
  ·rintro σ H' ⟨s5,⟨as,b1,b2⟩,v5,v6,rfl⟩
   rw[length_map,take_length] at b2;exact⟨_,rfl,q l as H' (s1.trans s5) (s1.free hl) b1 b2⟩
structure Call where
 c:Int
 es:List Int
 k:Int
structure Call.In (k:Call)(h:l9):Prop where
 c:0<=k.c/\k.c<h.i*h.c
 rise:k.es.Pairwise (· < ·)
 es:∀e∈k.es,0<=e/\e<h.o*h.e
 some:k.es≠[]
 few:k.es.length<=12
 k:0<=k.k/\k.k<h.m
def cI (c:Int):List Key:=[.inr "caller",.inl c]
def mZ (e:Int):List Key:=[.inr "end",.inl e]
def O6 (h:l9)(k:Call):List (List Key):=B6 h k.c k.es k.k++[cI k.c]++k.es.map mZ
def B2 {h:l9}{k:Call}{d:List Key}:d∈O6 h k↔d=nIn (k.c/h.c) k.k\/(∃e∈k.es,d=R8 (e/h.e) k.k)\/d=cI k.c\/∃e∈k.es,d=mZ e:=by
 unfold O6;rw[mem_append,mem_append,L8,mem_singleton,mem_map,or_assoc,or_assoc]
 have:(∃a,a∈k.es/\mZ a=d)↔∃e∈k.es,d=mZ e:=⟨λ⟨a,h1,h2⟩=>⟨a,h1,h2.symm⟩,λ⟨a,h1,h2⟩=>⟨a,h1,h2.symm⟩⟩
 rw[this]
def pO {h:l9}{k:Call}(few:k.es.length<=12):(O6 h k).length<=26:=by
 unfold O6
 have:=bO h k.c k.es k.k
 rw[length_append,length_append,length_singleton,length_map];lia
def D5 (H:Hp)(p:Addr)(k:Call):Prop:=∃e:Addr,H e=some (.tup (k.es.map V.int))/\H p=some (.tup [.int k.c,.ref e,.int k.k])
theorem D5.same {H H':Hp}{p:Addr}{k:Call}(s:∀b xs,H b=some (.tup xs)->H' b=some (.tup xs))(h:D5 H p k):D5 H' p k:=by
 obtain⟨e,h1,h2⟩:=h;exact⟨e,s _ _ h1,s _ _ h2⟩
def vF (t:Addr)(H H':Hp):Prop:=∀b u,b≠t->H b=some u->H' b=some u
theorem T6 {K:Frag}{H:Hp}:∀{as:List Addr}{ds:List (List Key)},F2 H as ds->Paired (xF K wW H) (as.map V.ref) ds
 | _,_,.nil=>.nil
 | _,_,.cons h t=>.cons ⟨_,_,rfl,SqT.of h,M4 _⟩ (T6 t)
theorem ao {α β:Type}{R:α->β->Prop}{as':List α}{ds':List β}(h':Paired R as' ds'):∀{as:List α}{ds:List β},Paired R as ds->Paired R (as++as') (ds++ds')
 | _,_,.nil=>h'
 | _,_,.cons h t=>.cons h (ao h' t)
def uj {es es':List Int}(p:es'.Perm es)(s:es'.Pairwise (·<=·))(nd:es.Nodup):es'.Pairwise (· < ·):=by
 have nd':es'.Nodup:=p.nodup_iff.mpr nd;exact(s.and nd').imp λ{a b} ⟨h1,h2⟩=>by lia
def sK:Sp:=λvs H Q _=>∃(c:Int)(i:Nat),vs=[.int c,.int i]/\i<64/\∀n:Int,0<=n->Q (.int n) H
def vD (K:Frag):Sp:=λvs H Q _=>∃(a t:Addr)(h:l9)(n:Int)(kvs:List (List Key×V)),vs=[.ref a,.ref t,.int n]/\SqT K H a (h.row.map V.int)/\h.Ok/\H t=some (.dT kvs)/\kvs.length<=10000 /\
 (∀H',i9 H H'->Q .non H') /\
 ∀(p:Addr)(k:Call)(kvs':List (List Key×V))(H':Hp),vF t H H'->H' t=some (.dT kvs')->D5 H' p k->k.In h->(∀d∈O6 h k,¬(F5 kvs d).isSome=true)->(∀d,(F5 kvs' d).isSome=true↔(F5 kvs d).isSome=true\/d∈O6 h k)->kvs'.length<=kvs.length+26->Q (.ref p) H'
def cV:FnScope ["_law_cell","_law_at"] ["_law_cell","_law_at"] (i3 (top 60)):=mkF
def pP (T:Txt K mg)(D:Def K mg "_law_number" (top 60) p_26):i6 P w K mg base 1 "_law_number" p_26 sK:=by
 refine D.ok cV (λ_ _ _ _ h=>?_) (λ_ _ _ _ _ H _ Q E hr h=>?_)
 ·obtain⟨c,i,rfl,_⟩:=h
  rfl
 obtain⟨c,i,rfl,hi,q⟩:=h;refine⟨_,(i0 (j6 (i7 L6 (i7 r6 (i8 rk rfl T.Er boot_abs (a8 (pv 0) c7 a9)) (i7 L6 (i7 r6 c8 (pv 1)) c8)) (i7 r6 (pv 1) (pv 1))))),?_⟩;refine⟨_,rfl,_,rfl,_,rfl,_,_,rfl,rfl,.inl ⟨by decide,by decide⟩,_,_,rfl,rfl,_,_,rfl,rfl,.inr ⟨by lia,by lia⟩,_,rfl,_,rfl,_,_,rfl,rfl,.inl ⟨by lia,by lia⟩,_,_,rfl,rfl,?_⟩
 refine q _ (Int.add_nonneg (Int.mul_nonneg ?_ (by lia)) (Int.mul_nonneg (by lia) (by lia)))
 split<;>lia
def J3:FnScope ["_law_hall_here","_law_taken","_law_number_here","_law_caller_here","_law_ends_here","_law_step","_law_k","_law_need","_law_one"] ["_law_hall_here","_law_taken","_law_number_here"] (i3 (top 61)):=mkF
def wa (T:Txt K mg)(zF:i6 P w K mg base 1 "_law_ends" p_15 (lA K))(zn:i6 P w K mg base 1 "_law_lines" p_6 (iW K))(D:Def K mg "_law_try" (top 61) p_12):i6 P w K mg base 2 "_law_try" p_12 (vD K):=by
 refine D.ok J3 (λ_ _ _ _ h=>?_) (λ_ _ _ _ _ H _ Q E hr h=>?_)
 ·obtain⟨a,t,h,n,kvs,rfl,_⟩:=h
  rfl
 obtain⟨a,t,h,n,kvs,rfl,hH,ok,ht,hk,qN,q⟩:=h;have b1:=ok.ic;have b2:=ok.i;have b3:=ok.m;have b4:=ok.c
 refine⟨_,(d9 (j3 (i:=3) J3.nd rfl (Or.inl rfl) (i7 o7 (i7 o7 (i7 r6 (pv 2) c8) c8) (i7 r6 (j1 (i4 K) (pv 0) c8) (j1 (i4 K) (pv 0) c8))))
  (d9 (j3 (i:=4) J3.nd rfl (Or.inl rfl) (i8 (aS K) rfl T.yZ boot_sorted (a8 (m6 zF hr rfl (a8 (pv 0) (a8 (pv 2) c7 a9) a9)) c7 o8)))
  (d9 (A2 PassesOwn.never rfl (D1 rfl T.za (a8 (i8 (fD rfl) rfl T.Dr boot_min (a8 (j1 (i4 K) (pv 0) c8) (a8 c8 c7 l8) m9)) c7 o8)) (m5 (i:=5) J3.nd rfl (Or.inl rfl))
  (d9 (j3 (i:=6) J3.nd rfl (Or.inl rfl) (i7 o7 (i7 L6 (i7 o7 (i7 r6 (pv 2) c8) c8) (pv 5)) (j1 (i4 K) (pv 0) c8)))
  (d9 (j3 (i:=7) J3.nd rfl (Or.inl rfl) (i7 Q1 (i7 Q1 (m6 zn hr rfl (a8 (pv 0) (a8 (pv 3) (a8 (pv 4) (a8 (pv 6) c7 a9) a9) a9) a9)) (n6 (a8 (C2 (a8 Q5 (a8 (pv 3) c7 a9) l8)) c7 Q0))) (E9 (own:=["_law_end"]) (fr:=[]) rfl (mkC ["_law_hall_here","_law_taken","_law_number_here","_law_caller_here","_law_ends_here","_law_step","_law_k","_law_need","_law_one"] (i3 (top 61))) (o6 K (pv 4)) (λcl C s H ex=>⟨(m5 (i:=0) (show(["_law_end"]:List Str).Nodup from by decide +kernel) rfl (Or.inl rfl) (Or.inr rfl)),F4,(C2 (a8 Q5 (a8 (pv 0) c7 a9) l8))⟩))))
  (i0 (m8 (k9 (ue K (mf mv) (B5.units2 hr)) (E9 (own:=["_law_one"]) (fr:=[(1,"_law_taken")]) rfl (mkC ["_law_hall_here","_law_taken","_law_number_here","_law_caller_here","_law_ends_here","_law_step","_law_k","_law_need","_law_one"] (i3 (top 61))) (o6 K (pv 7)) (λcl C s H ex=>⟨(m5 (i:=0) (show(["_law_one","_law_taken"]:List Str).Nodup from by decide +kernel) rfl (Or.inl rfl) (Or.inr rfl)),(aM (re (tD (jn hr) (pv 0) (pv 1)))),(pv 0)⟩)) (n6 c7) (m3 _)) (d9 (A2 PassesOwn.never rfl (o6 K (pv 7)) (m5 (i:=8) J3.nd rfl (Or.inl rfl))
  (i0 (nu (jn hr) (pv 1) (pv 8) K2 rfl)))
  (i0 (j6 (C2 (a8 (pv 3) (a8 (A5 (O3 K) rfl T.zm boot_tuple (a8 (pv 4) c7 a9)) (a8 (pv 6) c7 a9) o8) a9))))) j7)))))
  (i0 (j6 w6))))),?_⟩
 refine⟨_,rfl,_,_,rfl,rfl,.inr ⟨by decide,by decide⟩,_,_,rfl,rfl,(by show(0:Int)<1000003;decide),_,rfl,a,_,_,_,rfl,rfl,hH,rfl,_,rfl,a,_,_,_,rfl,rfl,hH,rfl,_,_,rfl,rfl,.inl ⟨by lia,by lia⟩,_,_,rfl,rfl,(by show 0<h.i*h.c;lia),?_⟩
 have hc:0<=n*48271%1000003%(h.i*h.c)/\n*48271%1000003%(h.i*h.c)<h.i*h.c:=cY (by lia)
 refine⟨_,rfl,_,rfl,a,h,n,rfl,hH,ok,λl0 es0 H0 s0 _ el0 eo=>?_⟩;have few:=eo.few;refine⟨l0,es0,rfl,SqL.of el0,by lia,λes pm up le hle=>?_⟩
 have ee:=@c6 H0 le (.lst (es.map V.int));have s1:=s0.trans (c9 hle (.lst (es.map V.int)));generalize upd H0 le _=H1 at ee s1 ⊢;have hes:∀e∈es,0<=e/\e<h.o*h.e:=λe he=>eo.es e (pm.mem_iff.mp he);have hlen:es.length<=12:=by rw[pm.length_eq];exact few
 have hne:es≠[]:=λz=>eo.some (by rw[z] at pm;exact pm.symm.eq_nil)
 have hri:=uj pm up eo.nd;refine⟨_,rfl,a,_,_,_,rfl,rfl,i9.seqT s1 hH,rfl,_,_,rfl,_,rfl,?_,?_,?_⟩
 ·show -(2^62)<=(if (6:Int)<h.m then 6 else h.m)
  split<;>lia
 ·show(if (6:Int)<h.m then 6 else h.m)<2^62
  split<;>lia
 refine E5 (λi σ H'=>i9 H H'/\H' le=some (.lst (es.map V.int))/\∃c v5 v6 v7 v8,(0<=c/\c<h.i*h.c)/\σ=[some (.ref a),some (.ref t),some (.int n),some (.int c),some (.ref le),v5,v6,v7,v8])
  ⟨s1,ee,_,none,none,none,none,hc,rfl⟩ ?_ ?_
 ·rintro i σ H' hi ⟨s2,ee2,c,v5,v6,v7,v8,hc,rfl⟩
  have hH2:=i9.seqT s2 hH;refine⟨_,rfl,_,_,rfl,rfl,.inr ⟨by decide,by decide⟩,_,_,rfl,rfl,(by show(0:Int)<999979;decide),_,rfl,_,_,rfl,rfl,_,rfl,a,_,_,_,rfl,rfl,hH2,rfl,_,_,rfl,rfl,(by show 0<h.m;lia),?_⟩
  have hkk:0<=(n*40692%999979+(0+(i:Int)))%h.m/\(n*40692%999979+(0+(i:Int)))%h.m<h.m:=cY (by lia)
  refine⟨_,rfl,_,rfl,_,rfl,_,rfl,a,le,h,c,(n*40692%999979+(0+(i:Int)))%h.m,es,rfl,hH2,ok,.inr (SqL.of ee2),Nat.le_succ_of_le hlen,λl1 as1 H3 s3 _ el1 tk1=>?_⟩;refine⟨_,rfl,z_2,λt2 ht2=>?_⟩
  have et2:=@c6 H3 t2 (.tup [.str "caller",.int c]);have s4:=c9 ht2 (.tup [.str "caller",.int c]);generalize upd H3 t2 _=H4 at et2 s4 ⊢;refine⟨z_1,λl2 hl2=>?_⟩
  have el2:=@c6 H4 l2 (.lst [.ref t2]);have s5:=c9 hl2 (.lst [.ref t2]);generalize upd H4 l2 _=H5 at el2 s5 ⊢;have ln1:=Paired.length tk1;have ln2:=bO h c es ((n*40692%999979+(0+(i:Int)))%h.m);refine⟨l1,l2,as1.map V.ref,[.ref t2],rfl,rfl,s5 _ _ (s4 _ _ el1),el2,Nat.le_of_lt (k8 (by rw[length_map,length_singleton];lia)),λl3 hl3=>?_⟩
  have el3:=@c6 H5 l3 (.lst (as1.map V.ref++[.ref t2]));have s6:=c9 hl3 (.lst (as1.map V.ref++[.ref t2]));generalize upd H5 l3 _=H6 at el3 s6 ⊢;have s46:=(s4.trans s5).trans s6;have tk3:F2 H6 (as1++[t2]) (B6 h c es ((n*40692%999979+(0+(i:Int)))%h.m)++[cI c]):=Paired.snoc (F2.same (λb xs z=>s46 _ _ z) tk1) (s6 _ _ (s5 _ _ et2));have el3':H6 l3=some (.lst ((as1++[t2]).map V.ref)):=by rw[el3,map_append];rfl
  have ee6:=s46 _ _ (s3 _ _ ee2);refine⟨_,rfl,le,rfl,⟨_,SqL.of ee6⟩,?_⟩
  refine B9 (xs:=es.map V.int) (λj acc σ H''=>i9 H6 H''/\(∃bs,acc=bs.map V.ref/\F2 H'' bs ((es.take j).map mZ))/\∃v,σ=[v])
   ⟨i9.refl H6,⟨[],rfl,.nil⟩,none,rfl⟩ (Nat.le_of_lt (k8 (by rw[length_map];lia))) (λj acc σ H'' g=>?_) (λj acc σ H'' _ g=>SqL.of (g.1 _ _ ee6)) ?_ ?_
  ·obtain⟨_,⟨bs,rfl,hb⟩,_⟩:=g
   have:=Paired.length hb
   rw[length_map,this,length_map,length_take];lia
  ·rintro j y acc σ H'' hy ⟨g1,⟨bs,rfl,hb⟩,v,rfl⟩
   rw[List.getElem?_map] at hy;obtain⟨e,he,rfl⟩:=Option.map_eq_some_iff.mp hy;refine⟨_,rfl,z_2,λu hu=>⟨g1.trans (c9 hu _),⟨bs++[u],by rw[map_append];rfl,?_⟩,_,rfl⟩⟩
   rw[take_succ,he,map_append];exact Paired.snoc (F2.same (λb xs z=>c9 hu _ _ _ z) hb) c6
  rintro acc σ H7 ⟨s7,⟨bs,rfl,hb⟩,v,rfl⟩ l4 hl4
  rw[length_map,take_length] at hb;have el4:=@c6 H7 l4 (.lst (bs.map V.ref));have s8:=c9 hl4 (.lst (bs.map V.ref));generalize upd H7 l4 _=H8 at el4 s8 ⊢;have lb:=Paired.length hb;rw[length_map] at lb;refine⟨l3,l4,(as1++[t2]).map V.ref,bs.map V.ref,rfl,rfl,s8 _ _ (s7 _ _ el3'),el4,Nat.le_of_lt (k8 (by rw[length_map,length_map,length_append,length_singleton];lia)),λnl hnl=>?_⟩
  have en:=@c6 H8 nl (.lst ((as1++[t2]).map V.ref++bs.map V.ref));have s9:=c9 hnl (.lst ((as1++[t2]).map V.ref++bs.map V.ref));generalize upd H8 nl _=H9 at en s9 ⊢;rw[<- map_append] at en;have s79:=(s7.trans s8).trans s9;have tn:F2 H9 ((as1++[t2])++bs) (O6 h ⟨c,es,((n*40692%999979+(0+(i:Int)))%h.m)⟩):=ao (F2.same (λb xs z=>s9 _ _ (s8 _ _ z)) hb) (F2.same (λb xs z=>s79 _ _ z) tk3);generalize (as1++[t2])++bs=nas at en tn;have hIn:Call.In ⟨c,es,((n*40692%999979+(0+(i:Int)))%h.m)⟩ h:=⟨hc,hri,hes,hne,hlen,hkk⟩;have nl26:(O6 h ⟨c,es,((n*40692%999979+(0+(i:Int)))%h.m)⟩).length<=26:=pO hlen;have nn:=Paired.length tn;have s29:i9 H H9:=s2.trans ((s3.trans s46).trans s79);have ht9:=s29 _ _ ht;have ee9:H9 le=some (.lst (es.map V.int)):=s79 _ _ ee6;generalize hds:O6 h ⟨c,es,((n*40692%999979+(0+(i:Int)))%h.m)⟩=ds at tn nl26 nn;refine⟨_,rfl,nl,rfl,⟨_,SqL.of en⟩,?_⟩
  refine B9 (xs:=nas.map V.ref) (λj acc σ H''=>H''=H9/\(∃bs,acc=bs.map V.ref/\F2 H9 bs ((ds.take j).filter λd=>(F5 kvs d).isSome))/\∃v,σ=[v,some (.ref t)])
   ⟨rfl,⟨[],rfl,.nil⟩,none,rfl⟩ (Nat.le_of_lt (k8 (by rw[length_map];lia))) (λj acc σ H'' g=>?_) (λj acc σ H'' _ g=>by rw[g.1];exact SqL.of en) ?_ ?_
  ·obtain⟨_,⟨bs,rfl,hb⟩,_⟩:=g
   have:=Paired.length hb
   rw[length_map,this];exact Nat.le_trans (length_filter_le _ _) (by rw[length_take];lia)
  ·rintro j y acc σ H'' hy ⟨rfl,⟨bs,rfl,hb⟩,v,rfl⟩
   rw[List.getElem?_map] at hy;obtain⟨x,hx,rfl⟩:=Option.map_eq_some_iff.mp hy;obtain⟨d,hd1,hd2⟩:=j9 tn j x hx
   have step:(ds.take (j+1)).filter (λd=>(F5 kvs d).isSome)=(ds.take j).filter (λd=>(F5 kvs d).isSome)++(if (F5 kvs d).isSome=true then [d] else []):=by
    rw[take_succ,hd1,filter_append]
    by_cases c:(F5 kvs d).isSome=true
    ·rw[if_pos c]
     simp[c]
    ·rw[if_neg c]
     simp[c]
   refine⟨_,rfl,_,rfl,t,_,rfl,da.t ht9 hd2,_,rfl,?_⟩;refine B1 (λc=>?_) (λc=>?_)
   ·refine⟨_,rfl,rfl,⟨bs++[_],by rw[map_append];rfl,?_⟩,_,rfl⟩
    rw[step,if_pos c];exact Paired.snoc hb hd2
   ·refine⟨rfl,⟨bs,rfl,?_⟩,_,rfl⟩
    rw[step,if_neg c,append_nil];exact hb
  rintro acc σ H'' ⟨rfl,⟨bs,rfl,hb⟩,v,rfl⟩ l5 hl5
  rw[length_map,nn,take_length] at hb;have el5:=@c6 H'' l5 (.lst (bs.map V.ref));have s10:=c9 hl5 (.lst (bs.map V.ref));generalize upd H'' l5 _=H10 at el5 s10 ⊢;refine⟨z_0,λo ho=>?_⟩
  have eo:=@c6 H10 o (.lst []);have s11:=c9 ho (.lst []);generalize upd H10 o _=H11 at eo s11 ⊢;have sA:=s10.trans s11;refine⟨_,[],⟨l5,_,rfl,SqL.of (s11 _ _ el5),T6 (F2.same (λb xs q=>sA _ _ q) hb)⟩,⟨o,[],rfl,SqL.of eo,.nil⟩,_,rfl,?_⟩;have htA:=sA _ _ ht9;have enA:=sA _ _ en;have eeA:=sA _ _ ee9;have tnA:=F2.same (λb xs q=>sA _ _ q) tn;have sB:i9 H H11:=s29.trans sA;have hnt:nl≠t:=λz=>by rw[z,htA] at enA;cases enA
  have hlt:le≠t:=λz=>by rw[z,htA] at eeA;cases eeA
  refine B1 (λcc=>?_) (λcc=>?_)
  ·have c0:ds.filter (λd=>(F5 kvs d).isSome)=[]:=of_decide_eq_true cc
   have fr:∀d∈ds,¬(F5 kvs d).isSome=true:=λd hd z=>List.filter_eq_nil_iff.mp c0 d hd z;refine⟨_,rfl,nl,rfl,⟨_,SqL.of enA⟩,?_⟩
   refine B0 (xs:=nas.map V.ref) (λj σ H'=>vF t H11 H'/\∃kvs',H' t=some (.dT kvs')/\kvs'.length<=kvs.length+j/\(∀d,(F5 kvs' d).isSome=true↔(F5 kvs d).isSome=true\/d∈ds.take j)/\∃v8,σ=[some (.ref a),some (.ref t),some (.int n),some (.int c),some (.ref le),some (.int (0+(i:Int))),some (.int ((n*40692%999979+(0+(i:Int)))%h.m)),some (.ref nl),v8])
    ⟨λ_ _ _ z=>z,kvs,htA,Nat.le_refl _,(λd=>by simp),_,rfl⟩ (λj σ H' _ g=>SqL.of (g.1 _ _ hnt enA)) ?_ ?_
   ·rintro j y σ H' hy ⟨t1,kvs',t2,t7,t9,v8,rfl⟩
    rw[List.getElem?_map] at hy;obtain⟨x,hx,rfl⟩:=Option.map_eq_some_iff.mp hy;obtain⟨d,hd1,hd2⟩:=j9 tnA j x hx
    have hj:j<26:=by
     have:=(List.getElem?_eq_some_iff.mp hd1).1
     lia
    replace hd2:H11 x=some (.tup (d.map kV)):=hd2
    have hxt:x≠t:=λz=>by rw[z,htA] at hd2;cases hd2
    refine⟨_,rfl,_,rfl,t,_,rfl,kJ.t t2 (t1 _ _ hxt hd2) (by show kvs'.length<16777216;lia),?_⟩
    refine⟨λb u hb z=>by rw[j2 hb];exact t1 b u hb z,_,c6,?_,λd'=>?_,_,rfl⟩
    ·have:=R5 kvs' d (.bl true)
     lia
    ·rw[jH,take_succ,hd1,mem_append]
     by_cases c:d'=d
     ·rw[if_pos c]
      simp[c]
     ·rw[if_neg c,t9]
      simp[c]
   ·rintro σ H' ⟨t1,kvs',t2,t7,t9,v8,rfl⟩
    rw[length_map,nn] at t7 t9;rw[take_length] at t9;refine⟨_,rfl,_,rfl,le,_,rfl,.inl ⟨SqL.of (t1 _ _ hlt eeA),λe he=>?_⟩⟩;refine⟨_,rfl,z_3,λp hp=>?_⟩
    refine q p ⟨c,es,(n*40692%999979+(0+(i:Int)))%h.m⟩ kvs' _ (λb u hb z=>?_) ?_ ⟨e,?_,c6⟩ hIn (by rw[hds];exact fr) (by rw[hds];exact t9) (by lia)
    ·have h1:=t1 b u hb (sB _ _ z)
     exact c9 hp _ _ _ (c9 he _ _ _ h1)
    ·exact c9 hp _ _ _ (c9 he _ _ _ t2)
    ·exact c9 hp _ _ _ c6
  ·exact⟨sB,eeA,c,_,_,_,_,hc,rfl⟩
 ·rintro σ H' ⟨s2,ee2,c,v5,v6,v7,v8,hc,rfl⟩
  exact qN H' s2
def Q2 (h:l9)(k k':Call):Prop:=∀d∈O6 h k,¬d∈O6 h k'
theorem Q2.symm {h:l9}{k k':Call}(f:Q2 h k k'):Q2 h k' k:=λd h1 h2=>f d h2 h1
theorem Q2.caller {h:l9}{k k':Call}(f:Q2 h k k'):k.c≠k'.c:=λz=>f (cI k.c) (B2.mpr (.inr (.inr (.inl rfl)))) (B2.mpr (.inr (.inr (.inl (by rw[z])))))
def j8 (H:Hp)(as:List Addr)(ks:List Call):Prop:=Paired (D5 H) as ks
theorem j8.same {H H':Hp}{as:List Addr}{ks:List Call}(s:∀b xs,H b=some (.tup xs)->H' b=some (.tup xs))(h:j8 H as ks):j8 H' as ks:=by
 unfold j8 at h ⊢;exact A4 h λa d _ e=>D5.same s e
theorem W6 {α β:Type}{R:α->β->Prop}{as:List α}{ds:List β}(a0:α)(d0:β)(h:Paired R as ds):∀(is:List Nat),(∀i∈is,i<ds.length)->Paired R (is.map λi=>as.getD i a0) (is.map λi=>ds.getD i d0)
 | [],_=>.nil
 | i::t,hin=>by
  refine .cons ?_ (W6 a0 d0 h t λj hj=>hin j (mem_cons_of_mem _ hj));have hi:=hin i (mem_cons_self ..);have hl:as.length=ds.length:=Paired.length h;have ea:as[i]? = some (as[i]'(by lia)):=List.getElem?_eq_getElem (by lia)
  obtain⟨d,e2,hs⟩:=j9 h i _ ea
  show R (as.getD i a0) (ds.getD i d0)
  rw[show as.getD i a0=as[i]'(by lia) by rw[List.getD,ea];rfl,show ds.getD i d0=d by rw[List.getD,e2];rfl]
  exact hs
theorem W9 {K:Frag}{H:Hp}:∀{as:List Addr}{ks:List Call},j8 H as ks->∃its:List (List V),bK K H as its/\Paired (λk xs=>∃e,xs=[V.int k.c,V.ref e,V.int k.k]) ks its
 | _,_,.nil=>⟨[],.nil,.nil⟩
 | _,_,.cons (b:=k) ⟨e,h1,h2⟩ t=>by
  obtain⟨its,q1,q2⟩:=W9 t;exact⟨[V.int k.c,V.ref e,V.int k.k]::its,.cons ⟨SqT.of h2,_,_,rfl⟩ q1,.cons ⟨e,rfl⟩ q2⟩
def og (K:Frag):Sp:=λvs H Q _=>∃(a b:Addr)(h:l9)(ns:List Int),vs=[.ref a,.ref b]/\SqT K H a (h.row.map V.int)/\h.Ok/\SqL K H b (ns.map V.int)/\ns.length<=63 /\
 ∀(l:Addr)(as:List Addr)(ks:List Call)(H':Hp),i9 H H'->H' l=some (.lst (as.map V.ref))->j8 H' as ks->(∀k∈ks,k.In h)->ks.Pairwise (λk k'=>k.c<k'.c)->ks.Pairwise (Q2 h)->ks.length<=ns.length->Q (.ref l) H'
def K6:FnScope ["_law_hall_here","_law_cells","_law_taken","_law_calls_here","_law_at","_law_call"] ["_law_hall_here","_law_cells"] (i3 (top 62)):=mkF
def sv (T:Txt K mg)(zv:i6 P w K mg base 1 "_law_number" p_26 sK)(Db:i6 P w K mg base 2 "_law_try" p_12 (vD K))(D:Def K mg "_law_calls" (top 62) p_28):i6 P w K mg base 3 "_law_calls" p_28 (og K):=by
 refine D.ok K6 (λ_ _ _ _ h=>?_) (λ_ _ _ _ _ H _ Q E hr h=>?_)
 ·obtain⟨a,b,h,ns,rfl,_⟩:=h
  rfl
 obtain⟨a,b,h,ns,rfl,hH,ok,hB,h63,q⟩:=h
 refine⟨_,(d9 (j3 (i:=2) K6.nd rfl (Or.inl rfl) sV)
  (d9 (j3 (i:=3) K6.nd rfl (Or.inl rfl) (n6 c7))
  (d9 (A2 PassesOwn.never rfl (D1 rfl T.za (a8 (i8 (u6 K) rfl T.yT boot_len (a8 (pv 1) c7 a9)) c7 o8)) (m5 (i:=4) K6.nd rfl (Or.inl rfl))
  (d9 (j3 (i:=5) K6.nd rfl (Or.inl rfl) (m6 Db hr rfl (a8 (pv 0) (a8 (pv 2) (a8 (m6 zv hr rfl (a8 (j1 (q9 K) (pv 1) (pv 4)) (a8 (pv 4) c7 a9) m9)) c7 o8) a9) a9)))
  (i0 (m8 (k9 T9 (pv 5) w6 (m3 _)) (i0 (C5 (K4 K PySem.F.plainAttrs_list PySem.F.slot_list_append PySem.F.type_list_append B7 (pv 3) (a8 (pv 5) c7 a9)))) j7))))
  (i0 (j6 (i8 (R9 K) rfl T.yZ boot_sorted (a8 (pv 3) c7 a9))))))),?_⟩
 refine λhd hhd=>?_;have ed:=@c6 H hd (.dT []);have s1:=c9 hhd (.dT []);generalize upd H hd _=H1 at ed s1 ⊢;refine⟨z_0,λl hl=>?_⟩
 have el:=@c6 H1 l (.lst []);have s2:=s1.trans (c9 hl (.lst []));have ed2:=c9 hl (.lst []) _ _ ed;generalize upd H1 l _=H2 at el s2 ed2 ⊢;have hlH:H l=none:=s1.free hl;have ln:(ns.map V.int).length=ns.length:=length_map _;refine⟨_,rfl,b,_,rfl,.inl (s2.seq hB),_,rfl,by lia,by lia,?_⟩
 rw[Int.toNat_natCast,ln]
 refine E5 (λi σ H'=>i9 H H'/\∃kvs as ks,H' hd=some (.dT kvs)/\H' l=some (.lst (as.map V.ref))/\j8 H' as ks/\(∀k∈ks,k.In h)/\ks.Pairwise (Q2 h)/\ks.length<=i/\kvs.length<=26*i/\(∀d,(F5 kvs d).isSome=true↔∃k∈ks,d∈O6 h k) /\
   ∃v4 v5,σ=[some (.ref a),some (.ref b),some (.ref hd),some (.ref l),v4,v5])
  ⟨s2,[],[],[],ed2,el,.nil,(λk hk=>nomatch hk),List.Pairwise.nil,Nat.le_refl _,Nat.le_refl _,(λd=>by constructor<;>intro z<;>first | (obtain⟨k,hk,_⟩:=z;cases hk) | cases z),none,none,rfl⟩ ?_ ?_
 ·rintro i σ H' hi ⟨s3,kvs,as,ks,d1,d2,d3,d4,d5,d6,d7,d8,v4,v5,rfl⟩
  rw[Int.zero_add];refine⟨_,rfl,_,rfl,_,rfl,_,rfl,b,_,_,_,rfl,rfl,s3.seq hB,mS hi,_,rfl,_,i,rfl,by lia,λn hn=>?_⟩
  have hl2:l≠hd:=λq=>by rw[q,d1] at d2;cases d2
  refine⟨a,hd,h,n,kvs,rfl,i9.seqT s3 hH,ok,d1,by lia,λH4 s4=>?_,λp k kvs' H4 s4 d1' hc hk fr t9 t7=>?_⟩
  ·refine⟨_,rfl,rfl,_,rfl,D9 ?_⟩
   exact⟨s3.trans s4,kvs,as,ks,s4 _ _ d1,s4 _ _ d2,j8.same (λb xs q=>s4 _ _ q) d3,d4,d5,by lia,by lia,d8,_,_,rfl⟩
  ·have tp:∀b xs,H' b=some (.tup xs)->H4 b=some (.tup xs):=λb xs z=>s4 _ _ (λy=>by rw[y,d1] at z;cases z) z
   have el4:=s4 _ _ hl2 d2;refine⟨_,rfl,rfl,_,rfl,M6 ?_⟩
   refine⟨_,rfl,.inl ⟨rfl,_,SqL.of el4⟩,_,rfl,l,as.map V.ref,.ref p,rfl,rfl,el4,k8 (by
    have:=Paired.length d3
    rw[length_map,this];lia),?_⟩
   have t8:∀b xs,H4 b=some (.tup xs)->upd H4 l (.lst (as.map V.ref++[.ref p])) b=some (.tup xs):=λb xs q=>by
    have:b≠l:=λz=>by rw[z,el4] at q;cases q
    rw[j2 this];exact q
   refine⟨λb u z=>?_,kvs',as++[p],ks++[k],by rw[j2 (Ne.symm hl2)];exact d1',by rw[c6,map_append];rfl,Paired.snoc (j8.same (λb xs q=>t8 _ _ (tp _ _ q)) d3) (D5.same t8 hc),λk' hk'=>?_,?_,by rw[length_append,length_singleton];lia,by lia,λd=>?_,_,_,rfl⟩
   ·have h1:b≠l:=n9 z hlH
    have h2:b≠hd:=n9 z hhd;rw[j2 h1];exact s4 _ _ h2 (s3 _ _ z)
   ·rcases mem_append.mp hk' with q|q
    ·exact d4 k' q
    ·rw[mem_singleton] at q
     rw[q];exact hk
   ·rw[List.pairwise_append]
    refine⟨d5,List.pairwise_singleton _ _,λk1 hk1 k2 hk2=>?_⟩;rw[mem_singleton] at hk2;subst hk2
    intro d g1 g2
    exact fr d g2 ((d8 d).mpr ⟨k1,hk1,g1⟩)
   ·rw[t9,d8]
    constructor
    ·rintro(⟨k1,g1,g2⟩|g)
     ·exact⟨k1,mem_append_left _ g1,g2⟩
     ·exact⟨k,mem_append_right _ (mem_singleton.mpr rfl),g⟩
    ·rintro⟨k1,g1,g2⟩
     rcases mem_append.mp g1 with g|g
     ·exact .inl ⟨k1,g,g2⟩
     ·rw[mem_singleton] at g
      rw[g] at g2;exact .inr g2
 ·rintro σ H' ⟨s3,kvs,as,ks,d1,d2,d3,d4,d5,d6,d7,d8,v4,v5,rfl⟩
  obtain⟨its,t1,t2⟩:=W9 (K:=K) d3;have la:=Paired.length d3;have lk:=Paired.length t2;have gd:∀(i:Nat) k,ks[i]? = some k->ks.getD i ⟨0,[],0⟩=k:=λi k e=>by rw[List.getD,e];rfl
  have uniq:∀(i j:Nat) k k',ks[i]? = some k->ks[j]? = some k'->k.c=k'.c->i=j:=λi j k k' e1 e2 hc=>by
   rcases Nat.lt_trichotomy i j with hij|hij|hij
   ·obtain⟨q1,z1⟩:=List.getElem?_eq_some_iff.mp e1
    obtain⟨q2,z2⟩:=List.getElem?_eq_some_iff.mp e2
    have:=(List.pairwise_iff_getElem.mp d5) i j q1 q2 hij
    rw[z1,z2] at this;exact absurd hc this.caller
   ·exact hij
   ·obtain⟨q1,z1⟩:=List.getElem?_eq_some_iff.mp e1
    obtain⟨q2,z2⟩:=List.getElem?_eq_some_iff.mp e2
    have:=(List.pairwise_iff_getElem.mp d5) j i q2 q1 hij
    rw[z1,z2] at this;exact absurd hc.symm this.caller
  have back:∀(i:Nat) x,its[i]? = some x->∃k e,ks[i]? = some k/\x=[V.int k.c,V.ref e,V.int k.k]:=λi x hx=>by
   have hi:=(List.getElem?_eq_some_iff.mp hx).1;have ek:ks[i]? = some (ks[i]'(by lia)):=List.getElem?_eq_getElem (by lia)
   obtain⟨x',e1,e,e2⟩:=j9 t2 i _ ek;rw[hx] at e1
   cases e1
   exact⟨_,e,ek,e2⟩
  refine⟨_,rfl,l,as,its,λi=>(ks.getD i ⟨0,[],0⟩).c,rfl,SqL.of d2,t1,by lia,λi j x y hx hy=>?_,λpq pm up l2 hl2=>?_⟩
  ·obtain⟨k,e,e1,rfl⟩:=back i x hx
   obtain⟨k',e',e2,rfl⟩:=back j y hy
   show(if k.c=k'.c then R7 [V.ref e,V.int k.k] [V.ref e',V.int k'.k] else some (decide (k.c<k'.c)))=some (decide ((ks.getD i ⟨0,[],0⟩).c<(ks.getD j ⟨0,[],0⟩).c))
   rw[gd i k e1,gd j k' e2]
   by_cases c:k.c=k'.c
   ·obtain rfl:=uniq i j k k' e1 e2 c
    rw[hx] at hy;rw[e1] at e2
    cases e2
    cases hy
    rw[if_pos rfl]
    show(if e=e then (if k.k=k.k then R7 [] [] else some (decide (k.k<k.k))) else none)=_
    rw[if_pos rfl,if_pos rfl,decide_eq_false (Int.lt_irrefl _)];rfl
   ·rw[if_neg c]
  ·rw[la] at pm up
   obtain⟨g1,g2⟩:=kj (xs:=ks) pm up ⟨0,[],0⟩ Call.c λi _=>rfl
   have hin:∀i∈pq.toList,i<ks.length:=λi hi=>by
    have:=(Array.Perm.mem_iff pm (a:=i)).mp (by simpa using hi)
    simpa using this
   have cs:=W6 0 ⟨0,[],0⟩ d3 pq.toList hin;generalize (pq.toList.map λi=>ks.getD i ⟨0,[],0⟩)=ks' at g1 g2 cs;have fr':ks'.Pairwise (Q2 h):=(List.Perm.pairwise_iff (λq=>Q2.symm q) g1).mpr d5;refine q l2 _ ks' _ (s3.trans (c9 hl2 _)) c6 (j8.same (λb xs q=>c9 hl2 _ _ _ q) cs) (λk hk=>d4 k (g1.mem_iff.mp hk)) ?_ fr' (by rw[g1.length_eq];lia)
   exact(g2.and fr').imp λ{k k'} ⟨q1,q2⟩=>by
    have:=q2.caller
    lia
def S2 (x y:V):Prop:=(x=.non/\y=.non)\/∃i:Int,x=.int i/\y=.int i
def O9 (H:Hp):Nat->V->V->Prop
 | 0,x,y=>S2 x y
 | n+1,x,y=>S2 x y\/∃(p q:Addr)(xs ys:List V),x=.ref p/\y=.ref q/\((H p=some (.lst xs)/\H q=some (.lst ys))\/(H p=some (.tup xs)/\H q=some (.tup ys)))/\Paired (O9 H n) xs ys/\xs.length<=1000
def bg (n:Nat):Sp:=λvs H Q _=>∃x y,vs=[x,y]/\O9 H n x y/\Q (.bl true) H
theorem S2.at {H:Hp}{n:Nat}{x y:V}(h:S2 x y):O9 H n x y:=by
 cases n with
 | zero=>exact h
 | succ n=>exact .inl h
theorem U6 {H:Hp}{n:Nat}:∀ns:List Int,Paired (O9 H n) (ns.map V.int) (ns.map V.int)
 | []=>.nil
 | i::t=>.cons (S2.at (.inr ⟨i,rfl,rfl⟩)) (U6 t)
def iO {x:Str}{st:Stmt}{ps:List Str}(D:Def K mg x st ps)(k:Nat):i6 P w K mg base k x ps (λ_ _ _ _=>False):=by
 obtain⟨f,fd,F,b,m⟩:=D.ex;exact⟨f,fd,⟨λ_ _ _ _ h=>h.elim,λ_ _ _ _ _ _ _ _ _ _ _ _ _ h=>h.elim⟩,b,F.kp,m⟩
def aj:FnScope ["_law_found","_law_due_here","_law_k"] ["_law_found","_law_due_here"] (i3 (top 63)):=mkF
def dU (T:Txt K mg)(n:Nat)(sp:Sp)(yQ:i6 P w K mg base n "_law_alike" p_10 sp)(D:Def K mg "_law_alike" (top 63) p_10)(hsp:∀m,n=m+1->sp=bg m):i6 P w K mg base (n+1) "_law_alike" p_10 (bg n):=by
 refine D.ok aj (λ_ _ _ _ h=>?_) (λ_ _ _ _ _ H _ Q E hr h=>?_)
 ·obtain⟨x,y,rfl,_⟩:=h
  rfl
 obtain⟨x,y,rfl,hA,q⟩:=h
 refine⟨_,(d9 (m8 (k9 X0 (pv 1) w6 (m3 _)) (i0 (j6 (J5 X0 (pv 0) w6 (m3 _)))) j7)
  (d9 (m8 (w9 K (i8 (y8 K) rfl T.yJ boot_isinstance (a8 (pv 1) (a8 (D4 (v:=.ty "int") rfl T.BH boot_int rfl) c7 a9) a9)) (λ_=>rfl)) (i0 (j6 (U7 (i8 (y8 K) rfl T.yJ boot_isinstance (a8 (pv 0) (a8 (D4 (v:=.ty "int") rfl T.BH boot_int rfl) c7 a9) a9)) (U7 (mx (i8 (y8 K) rfl T.yJ boot_isinstance (a8 (pv 0) (a8 (D4 (v:=.ty "bool") rfl T.BL boot_bool rfl) c7 a9) a9))) (az (J5 C7 (pv 0) (pv 1) (m3 _))))))) j7)
  (d9 (m8 (w9 K (i8 (y8 K) rfl T.yJ boot_isinstance (a8 (pv 1) (a8 (D4 (v:=.ty "tuple") rfl T.zm boot_tuple rfl) c7 a9) a9)) (λ_=>rfl)) (i0 (m8 (F0 (w9 K (i8 (y8 K) rfl T.yJ boot_isinstance (a8 (pv 0) (a8 (D4 (v:=.ty "tuple") rfl T.zm boot_tuple rfl) c7 a9) a9)) (λ_=>rfl))) (i0 (j6 K2)) j7)) (i0 (m8 (F0 (w9 K (i8 (y8 K) rfl T.yJ boot_isinstance (a8 (pv 0) (a8 (D4 (v:=.ty "list") rfl T.AC boot_list rfl) c7 a9) a9)) (λ_=>rfl))) (i0 (j6 K2)) j7)))
  (d9 (m8 (k9 jg (i8 (u6 K) rfl T.yT boot_len (a8 (pv 0) c7 a9)) (i8 (u6 K) rfl T.yT boot_len (a8 (pv 1) c7 a9)) (m3 _)) (i0 (j6 K2)) j7)
  (d9 (A2 PassesOwn.never rfl (D1 rfl T.za (a8 (i8 (u6 K) rfl T.yT boot_len (a8 (pv 1) c7 a9)) c7 o8)) (m5 (i:=2) aj.nd rfl (Or.inl rfl))
  (i0 (m8 (F0 (w9 K (m6 yQ hr rfl (a8 (j1 lx (pv 0) (pv 2)) (a8 (j1 lx (pv 1) (pv 2)) c7 m9) m9) (Nat.le_refl _)) (λ_=>rfl))) (i0 (j6 K2)) j7)))
  (i0 (j6 K2))))))),?_⟩
 have hB:S2 x y\/∃m,n=m+1/\∃(p q:Addr)(xs ys:List V),x=.ref p/\y=.ref q/\((H p=some (.lst xs)/\H q=some (.lst ys))\/(H p=some (.tup xs)/\H q=some (.tup ys)))/\Paired (O9 H m) xs ys/\xs.length<=1000:=by
  cases n with
  | zero=>exact .inl hA
  | succ m=>exact hA.imp id λz=>⟨m,rfl,z⟩
 rcases hB with(⟨rfl,rfl⟩|⟨i,rfl,rfl⟩)|⟨m,rfl,p,r,xs,ys,rfl,rfl,hk,hp,h1000⟩
 ·exact⟨_,rfl,rfl,_,rfl,M6 ⟨_,rfl,rfl,q⟩⟩
 ·refine⟨_,rfl,rfl,_,rfl,D9 ?_⟩
  refine⟨_,rfl,_,_,_,true,rfl,.int i,V7,true,rfl,M6 ?_⟩;refine⟨_,rfl,_,_,_,true,rfl,.int i,V7,_,rfl,M6 ?_⟩;refine⟨_,rfl,_,_,_,false,rfl,.int i,aW,_,rfl,_,rfl,M6 ?_⟩;refine⟨_,rfl,_,rfl,rfl,?_⟩;rw[decide_eq_true rfl];exact q
 ·obtain rfl:=hsp m rfl
  have ln:=Paired.length hp;refine⟨_,rfl,rfl,_,rfl,D9 ?_⟩
  rcases hk with⟨k1,k2⟩|⟨k1,k2⟩
  ·refine⟨_,rfl,_,_,_,false,rfl,.lst k2,bT,false,rfl,D9 ?_⟩
   refine⟨_,rfl,_,_,_,false,rfl,.lst k2,bU,false,rfl,D9 ?_⟩;refine⟨_,rfl,_,_,_,true,rfl,.lst k1,bZ,true,rfl,D9 ?_⟩;refine⟨_,rfl,p,_,rfl,.inl (SqL.of k1),_,rfl,r,_,rfl,.inl (SqL.of k2),rfl,_,rfl,iy (by simp[ln]) ?_⟩
   refine⟨_,rfl,r,_,rfl,.inl (SqL.of k2),_,rfl,by lia,by lia,?_⟩
   rw[Int.toNat_natCast];refine E5 (λi σ H'=>H'=H/\∃v,σ=[some (.ref p),some (.ref r),v]) ⟨rfl,_,rfl⟩ ?_ ?_
   ·rintro i σ H' hi ⟨rfl,v,rfl⟩
    rw[Int.zero_add];have ex:xs[i]? = some (xs[i]'(by lia)):=List.getElem?_eq_getElem (by lia)
    obtain⟨y,ey,al⟩:=j9 hp i _ ex;refine⟨_,rfl,_,rfl,.inl ⟨p,_,_,_,rfl,rfl,SqL.of k1,B3 ex,_,rfl,_,rfl,.inl ⟨r,_,_,_,rfl,rfl,SqL.of k2,B3 ey,_,_,rfl,al,_,rfl,D9 ⟨rfl,_,rfl⟩⟩⟩⟩
   ·rintro σ H' ⟨rfl,v,rfl⟩
    exact q
  ·refine⟨_,rfl,_,_,_,false,rfl,.tup k2,jS,false,rfl,D9 ?_⟩
   refine⟨_,rfl,_,_,_,true,rfl,.tup k2,Y2,true,rfl,M6 ?_⟩;refine⟨_,rfl,_,_,_,true,rfl,.tup k1,Y2,true,rfl,D9 ?_⟩;refine⟨_,rfl,p,_,rfl,.inr (SqT.of k1),_,rfl,r,_,rfl,.inr (SqT.of k2),rfl,_,rfl,iy (by simp[ln]) ?_⟩
   refine⟨_,rfl,r,_,rfl,.inr (SqT.of k2),_,rfl,by lia,by lia,?_⟩
   rw[Int.toNat_natCast];refine E5 (λi σ H'=>H'=H/\∃v,σ=[some (.ref p),some (.ref r),v]) ⟨rfl,_,rfl⟩ ?_ ?_
   ·rintro i σ H' hi ⟨rfl,v,rfl⟩
    rw[Int.zero_add];have ex:xs[i]? = some (xs[i]'(by lia)):=List.getElem?_eq_getElem (by lia)
    obtain⟨y,ey,al⟩:=j9 hp i _ ex;refine⟨_,rfl,_,rfl,.inr (.inl ⟨p,_,_,_,rfl,rfl,SqT.of k1,B3 ex,_,rfl,_,rfl,.inr (.inl ⟨r,_,_,_,rfl,rfl,SqT.of k2,B3 ey,_,_,rfl,al,_,rfl,D9 ⟨rfl,_,rfl⟩⟩)⟩)⟩
   ·rintro σ H' ⟨rfl,v,rfl⟩
    exact q
theorem cP (T:Txt K mg)(D:Def K mg "_law_alike" (top 63) p_10):∀n,i6 P w K mg base (n+1) "_law_alike" p_10 (bg n)
 | 0=>dU T 0 _ (iO D 0) D λm h=>nomatch h
 | n+1=>dU T (n+1) _ (cP T D n) D λm h=>by cases h;rfl
def l7 (h:l9)(es:List Int):List Int:=y9 (es.map λe=>e/h.e)
def R6 (K:Frag)(d:l9->Int):Sp:=λvs H Q _=>∃(a:Addr)(h:l9)(x:Int),vs=[.ref a,.int x]/\SqT K H a (h.row.map V.int)/\h.Ok/\∀p,H p=none->Q (.ref p) (upd H p (.tup [.int (x/d h),.int (x%d h)]))
def ac (K:Frag):Sp:=λvs H Q _=>∃(a p:Addr)(h:l9)(es:List Int),vs=[.ref a,.ref p]/\SqT K H a (h.row.map V.int)/\h.Ok/\(SqT K H p (es.map V.int)\/SqL K H p (es.map V.int))/\es.length<64/\∀(l:Addr)(H':Hp),i9 H H'->H l=none->H' l=some (.lst ((l7 h es).map V.int))->Q (.ref l) H'
def ku:FnScope ["hall","caller"] ["hall","caller"] (i3 (top 14)):=mkF
def jy (T:Txt K mg)(D:Def K mg "place_in" (top 14) p_24):i6 P w K mg base 1 "place_in" p_24 (R6 K l9.c):=by
 refine D.ok ku (λ_ _ _ _ h=>?_) (λ_ _ _ _ _ H _ Q E hr h=>?_)
 ·obtain⟨a,h,x,rfl,_⟩:=h
  rfl
 obtain⟨a,h,x,rfl,hS,ok,q⟩:=h;have b:=ok.c;refine⟨_,(i0 (j6 (i8 bV rfl T.Ci boot_divmod (a8 (pv 1) (a8 (j1 (i4 K) (pv 0) c8) c7 m9) a9)))),?_⟩;exact⟨_,rfl,_,rfl,a,_,_,_,rfl,rfl,hS,rfl,_,_,rfl,⟨by lia,by lia⟩,q⟩
def ii:FnScope ["hall","end"] ["hall","end"] (i3 (top 15)):=mkF
def gy (T:Txt K mg)(D:Def K mg "place_out" (top 15) p_42):i6 P w K mg base 1 "place_out" p_42 (R6 K l9.e):=by
 refine D.ok ii (λ_ _ _ _ h=>?_) (λ_ _ _ _ _ H _ Q E hr h=>?_)
 ·obtain⟨a,h,x,rfl,_⟩:=h
  rfl
 obtain⟨a,h,x,rfl,hS,ok,q⟩:=h;have b:=ok.e;refine⟨_,(i0 (j6 (i8 bV rfl T.Ci boot_divmod (a8 (pv 1) (a8 (j1 (i4 K) (pv 0) c8) c7 m9) a9)))),?_⟩;exact⟨_,rfl,_,rfl,a,_,_,_,rfl,rfl,hS,rfl,_,_,rfl,⟨by lia,by lia⟩,q⟩
def kH:FnScope ["hall","ends"] ["hall","ends"] (i3 (top 17)):=mkF
def rW (T:Txt K mg)(AT:i6 P w K mg base 1 "place_out" p_42 (R6 K l9.e))(D:Def K mg "racks_of" (top 17) p_22):i6 P w K mg base 2 "racks_of" p_22 (ac K):=by
 refine D.ok kH (λ_ _ _ _ h=>?_) (λ_ _ _ _ _ H _ Q E hr h=>?_)
 ·obtain⟨a,p,h,es,rfl,_⟩:=h
  rfl
 obtain⟨a,p,h,es,rfl,hH,ok,hS,h64,q⟩:=h;have hl:(es.map V.int).length=es.length:=length_map _;have sz:(es.map V.int).length<=sizeLine:=by rw[hl];exact Nat.le_of_lt (k8 (by lia))
 have fin:∀(H':Hp),i9 H H'->∀l,H' l=none->vG K P w [.ref l] (upd H' l (.lst ((es.take (es.map V.int).length).map λe=>V.int (e/h.e)))) λx H1=>ke P w [x] H1 Q:=λH' s1 l hl'=>by
  rw[hl,take_length];have e1:upd H' l (.lst (es.map λe=>V.int (e/h.e))) l=some (.lst ((es.map λe=>e/h.e).map V.int)):=by rw[c6,List.map_map];rfl
  have s2:=s1.trans (c9 hl' (.lst (es.map λe=>V.int (e/h.e))));generalize upd H' l _=H2 at e1 s2 ⊢;refine⟨l,_,rfl,SqL.of e1,by rw[length_map];lia,λl2 hl2=>?_⟩
  refine⟨l2,_,rfl,c6,by rw[length_map];lia,λl3 hl3=>?_⟩
  exact q l3 _ ((s2.trans (c9 hl2 _)).trans (c9 hl3 _)) ((s2.trans (c9 hl2 _)).free hl3) c6
 rcases hS with hS|hS
 ·refine⟨_,(i0 (j6 (i8 (ah P w rfl) rfl T.yZ boot_sorted (a8 (A5 (Z2 K P w rfl) rfl T.BI boot_set (a8 (E9 (own:=["end"]) (fr:=[(0,"hall")]) rfl (mkC ["hall","ends"] (i3 (top 17))) (cD K (pv 1)) (λcl C s H ex=>⟨(m5 (i:=0) (show(["end","hall"]:List Str).Nodup from by decide +kernel) rfl (Or.inl rfl) (Or.inr rfl)),F4,(j1 (i4 K) (m6 AT hr rfl (a8 (pv 1) (a8 (pv 0) c7 a9) a9)) c8)⟩)) c7 R4)) c7 o8)))),?_⟩
  refine⟨_,rfl,p,rfl,⟨_,hS⟩,?_⟩
  refine dA (xs:=es.map V.int) (λi acc σ H'=>i9 H H'/\acc=(es.take i).map (λe=>V.int (e/h.e))/\∃v,σ=[v,some (.ref a)])
   ⟨i9.refl H,rfl,none,rfl⟩ sz (λi acc σ H' g=>?_) (λi acc σ H' _ g=>i9.seqT g.1 hS) ?_ ?_
  ·obtain⟨_,rfl,_⟩:=g
   rw[length_map,length_take];lia
  ·rintro i y acc σ H' hy ⟨s1,rfl,v,rfl⟩
   rw[List.getElem?_map] at hy;obtain⟨e,he,rfl⟩:=Option.map_eq_some_iff.mp hy;refine⟨_,rfl,_,rfl,a,h,e,rfl,i9.seqT s1 hH,ok,λr hr2=>⟨r,_,_,_,rfl,rfl,SqT.of c6,rfl,s1.trans (c9 hr2 _),?_,_,rfl⟩⟩;rw[take_succ,he,map_append];rfl
  ·rintro acc σ H' ⟨s1,rfl,v,rfl⟩ l hl'
   exact fin H' s1 l hl'
 ·refine⟨_,(i0 (j6 (i8 (ah P w rfl) rfl T.yZ boot_sorted (a8 (A5 (Z2 K P w rfl) rfl T.BI boot_set (a8 (E9 (own:=["end"]) (fr:=[(0,"hall")]) rfl (mkC ["hall","ends"] (i3 (top 17))) (o6 K (pv 1)) (λcl C s H ex=>⟨(m5 (i:=0) (show(["end","hall"]:List Str).Nodup from by decide +kernel) rfl (Or.inl rfl) (Or.inr rfl)),F4,(j1 (i4 K) (m6 AT hr rfl (a8 (pv 1) (a8 (pv 0) c7 a9) a9)) c8)⟩)) c7 R4)) c7 o8)))),?_⟩
  refine⟨_,rfl,p,rfl,⟨_,hS⟩,?_⟩
  refine B9 (xs:=es.map V.int) (λi acc σ H'=>i9 H H'/\acc=(es.take i).map (λe=>V.int (e/h.e))/\∃v,σ=[v,some (.ref a)])
   ⟨i9.refl H,rfl,none,rfl⟩ sz (λi acc σ H' g=>?_) (λi acc σ H' _ g=>g.1.seq hS) ?_ ?_
  ·obtain⟨_,rfl,_⟩:=g
   rw[length_map,length_take];lia
  ·rintro i y acc σ H' hy ⟨s1,rfl,v,rfl⟩
   rw[List.getElem?_map] at hy;obtain⟨e,he,rfl⟩:=Option.map_eq_some_iff.mp hy;refine⟨_,rfl,_,rfl,a,h,e,rfl,i9.seqT s1 hH,ok,λr hr2=>⟨r,_,_,_,rfl,rfl,SqT.of c6,rfl,s1.trans (c9 hr2 _),?_,_,rfl⟩⟩;rw[take_succ,he,map_append];rfl
  ·rintro acc σ H' ⟨s1,rfl,v,rfl⟩ l hl'
   exact fin H' s1 l hl'
def F1 {h:l9}{es:List Int}{r:Int}:r∈l7 h es↔∃e∈es,e/h.e=r:=by
 unfold l7;rw[D0,mem_map]
def Y7 (h:l9)(es:List Int):(l7 h es).length<=es.length:=by
 have:=Z9 (es.map λe=>e/h.e)
 rw[length_map] at this;exact this
inductive A0 (K:Frag)(H:Hp):V->Prop where
 | int (i:Int):A0 K H (.int i)
 | odd {x:V} {t:Value} {b1 b2:Bool} (ni:∀i,x≠.int i) (ty:N7 K H x t) (h1:kitOne K t (.type "int")=some b1) (h2:kitOne K t (.type "bool")=some b2) (hb:b1=false\/b2=true):A0 K H x
theorem N7.same {K:Frag}{H H':Hp}{x:V}{t:Value}(s:i9 H H')(h:N7 K H x t):N7 K H' x t:=by
 cases h with
 | non=>exact .non
 | bl b=>exact .bl b
 | int i=>exact .int i
 | str y=>exact .str y
 | flt y=>exact .flt y
 | lst e=>exact .lst (s _ _ e)
 | frz e=>exact .frz (s _ _ e)
 | tup e=>exact .tup (s _ _ e)
 | dK e=>exact .dK (s _ _ e)
 | dT e=>exact .dT (s _ _ e)
 | ins e a b c d f=>exact .ins (s _ _ e) a b c d f
theorem A0.same {K:Frag}{H H':Hp}{x:V}(s:i9 H H')(h:A0 K H x):A0 K H' x:=by
 cases h with
 | int i=>exact .int i
 | odd ni ty h1 h2 hb=>exact .odd ni (N7.same s ty) h1 h2 hb
def m4 (x:V)(lo hi:Int):Bool:=match x with
 | .int i=>decide (lo<=i)&&decide (i<=hi)
 | _=>false
def isInt:V->Bool
 | .int _=>true
 | _=>false
def Z7 (K:Frag):Sp:=λvs H Q _=>∃(x:V)(lo hi:Int),vs=[x,.int lo,.int hi]/\A0 K H x/\Q (.bl (m4 x lo hi)) H
def cC (K:Frag):Sp:=λvs H Q _=>∃x:V,vs=[x]/\A0 K H x/\Q (.bl (isInt x)) H
def gQ:FnScope ["thing"] ["thing"] (i3 (top 11)):=mkF
theorem hW (T:Txt K mg)(D:Def K mg "is_number" (top 11) p_40):i6 P w K mg base 1 "is_number" p_40 (cC K):=by
 refine D.ok gQ (λ_ _ _ _ h=>?_) (λ_ _ _ _ _ H _ Q E hr h=>?_)
 ·obtain⟨x,rfl,_⟩:=h
  rfl
 obtain⟨x,rfl,hp,q⟩:=h;refine⟨_,(i0 (j6 (U7 (i8 (y8 K) rfl T.yJ boot_isinstance (a8 (pv 0) (a8 (D4 (v:=.ty "int") rfl T.BH boot_int rfl) c7 a9) a9)) (az (mx (i8 (y8 K) rfl T.yJ boot_isinstance (a8 (pv 0) (a8 (D4 (v:=.ty "bool") rfl T.BL boot_bool rfl) c7 a9) a9))))))),?_⟩
 cases hp with
 | int i =>
  refine⟨_,rfl,_,_,_,true,rfl,.int i,V7,_,rfl,M6 ?_⟩;exact⟨_,rfl,_,_,_,false,rfl,.int i,aW,_,rfl,q⟩
 | @odd _ t b1 b2 ni ty h1 h2 hb =>
  have e:isInt x=false:=by
   cases x with
   | int i=>exact absurd rfl (ni i)
   | _=>rfl
  rw[e] at q;refine⟨_,rfl,_,_,_,b1,rfl,ty,h1,_,rfl,?_⟩
  cases b1 with
  | false=>exact D9 q
  | true =>
   have hb2:b2=true:=hb.elim (λz=>nomatch z) id;subst hb2;exact M6 ⟨_,rfl,_,_,_,true,rfl,ty,h2,_,rfl,q⟩
def jD:FnScope ["thing","least","most"] ["thing","least","most"] (i3 (top 12)):=mkF
theorem jZ (T:Txt K mg)(zg:i6 P w K mg base 1 "is_number" p_40 (cC K))(D:Def K mg "is_whole" (top 12) p_18):i6 P w K mg base 2 "is_whole" p_18 (Z7 K):=by
 refine D.ok jD (λ_ _ _ _ h=>?_) (λ_ _ _ _ _ H _ Q E hr h=>?_)
 ·obtain⟨x,lo,hi,rfl,_⟩:=h
  rfl
 obtain⟨x,lo,hi,rfl,hp,q⟩:=h;refine⟨_,(i0 (j6 (U7 (m6 zg hr rfl (a8 (pv 0) c7 a9)) (az (kC oH oH (pv 1) (pv 0) (pv 2)))))),?_⟩;refine⟨_,rfl,x,rfl,hp,_,rfl,?_⟩
 cases hp with
 | int i =>
  refine M6 ?_;refine⟨_,rfl,_,rfl,_,_,rfl,rfl,_,rfl,?_⟩;refine B1 (λc=>?_) (λc=>?_)
  ·refine⟨_,rfl,_,_,rfl,rfl,?_⟩
   have e:m4 (.int i) lo hi=decide (i<=hi):=by show(decide (lo<=i)&&decide (i<=hi))=_;rw[c,Bool.true_and]
   rw[e] at q;exact q
  ·have e:m4 (.int i) lo hi=false:=by show(decide (lo<=i)&&decide (i<=hi))=_;rw[Bool.eq_false_iff.mpr c,Bool.false_and]
   rw[e] at q;exact q
 | @odd _ t b1 b2 ni ty h1 h2 hb =>
  have e0:isInt x=false:=by
   cases x with
   | int i=>exact absurd rfl (ni i)
   | _=>rfl
  have e:m4 x lo hi=false:=by
   cases x with
   | int i=>exact absurd rfl (ni i)
   | _=>rfl
  rw[e] at q;rw[e0];exact D9 q
def nV (xs:List V):List Int:=xs.filterMap λx=>match x with | .int i=>some i | _=>none
theorem P6 (ns:List Int):nV (ns.map V.int)=ns:=by
 unfold nV
 induction ns with
 | nil=>rfl
 | cons i t ih=>rw[map_cons,filterMap_cons];exact congrArg (i::·) ih
def E3 (xs:List V):Bool:=decide ((y9 (nV xs)).length=xs.length)
def C0 (h:l9):Option (List V)->Bool
 | none=>false
 | some xs=>!xs.isEmpty&&(xs.all (λx=>m4 x 0 (h.o*h.e-1))&&E3 xs)
inductive O8 (K:Frag)(H:Hp):V->Option (List V)->Prop where
 | lst {a:Addr} {xs:List V} (e:H a=some (.lst xs)) (h:∀x∈xs,A0 K H x) (hn:xs.length<=64):O8 K H (.ref a) (some xs)
 | tup {a:Addr} {xs:List V} (e:H a=some (.tup xs)) (h:∀x∈xs,A0 K H x) (hn:xs.length<=64):O8 K H (.ref a) (some xs)
 | no {x:V} {t:Value} (ty:N7 K H x t) (h1:kitOne K t (.type "list")=some false) (h2:kitOne K t (.type "tuple")=some false):O8 K H x none
theorem O8.same {K:Frag}{H H':Hp}{x:V}{o:Option (List V)}(s:i9 H H')(h:O8 K H x o):O8 K H' x o:=by
 cases h with
 | lst e h hn=>exact .lst (s _ _ e) (λx hx=>(h x hx).same s) hn
 | tup e h hn=>exact .tup (s _ _ e) (λx hx=>(h x hx).same s) hn
 | no ty h1 h2=>exact .no (N7.same s ty) h1 h2
theorem R0 {x:V}{lo hi:Int}(h:m4 x lo hi=true):∃i:Int,x=.int i/\lo<=i/\i<=hi:=by
 cases x with
 | int i =>
  have h':(decide (lo<=i)&&decide (i<=hi))=true:=h;rw[Bool.and_eq_true] at h';exact⟨i,rfl,of_decide_eq_true h'.1,of_decide_eq_true h'.2⟩
 | _=>cases h
theorem bR {lo hi:Int}:∀{xs:List V},xs.all (λx=>m4 x lo hi)=true->∃ns:List Int,xs=ns.map V.int
 | [],_=>⟨[],rfl⟩
 | x::t,h=>by
  rw[all_cons,Bool.and_eq_true] at h;obtain⟨i,rfl,_⟩:=R0 h.1;obtain⟨ns,rfl⟩:=bR h.2;exact⟨i::ns,rfl⟩
def dR (K:Frag):Sp:=λvs H Q _=>∃(a:Addr)(h:l9)(x:V),vs=[.ref a,x]/\SqT K H a (h.row.map V.int)/\h.Ok/\A0 K H x/\Q (.bl (m4 x 0 (h.i*h.c-1))) H
def fQ (K:Frag):Sp:=λvs H Q _=>∃(a p:Addr)(h:l9)(xs:List V),vs=[.ref a,.ref p]/\SqT K H a (h.row.map V.int)/\h.Ok/\(SqL K H p xs\/SqT K H p xs)/\(∀x∈xs,A0 K H x)/\xs.length<=64/\∀H',i9 H H'->Q (.bl (xs.all λx=>m4 x 0 (h.o*h.e-1))) H'
def iY (K:Frag):Sp:=λvs H Q _=>∃(p:Addr)(ns:List Int),vs=[.ref p]/\(SqL K H p (ns.map V.int)\/SqT K H p (ns.map V.int))/\ns.length<=64/\∀H',i9 H H'->Q (.bl (decide ((y9 ns).length=ns.length))) H'
def kn (K:Frag):Sp:=λvs H Q _=>∃(a:Addr)(h:l9)(x:V)(o:Option (List V)),vs=[.ref a,x]/\SqT K H a (h.row.map V.int)/\h.Ok/\O8 K H x o/\∀H',i9 H H'->Q (.bl (C0 h o)) H'
def gH:FnScope ["hall","thing"] ["hall","thing"] (i3 (top 26)):=mkF
def iC (T:Txt K mg)(ze:i6 P w K mg base 2 "is_whole" p_18 (Z7 K))(D:Def K mg "is_caller" (top 26) p_19):i6 P w K mg base 3 "is_caller" p_19 (dR K):=by
 refine D.ok gH (λ_ _ _ _ h=>?_) (λ_ _ _ _ _ H _ Q E hr h=>?_)
 ·obtain⟨a,h,x,rfl,_⟩:=h
  rfl
 obtain⟨a,h,x,rfl,hH,ok,hp,q⟩:=h;have o1:=ok.i;refine⟨_,(i0 (j6 (m6 ze hr rfl (a8 (pv 1) (a8 c8 (a8 (i7 bL (i7 r6 (j1 (i4 K) (pv 0) c8) (j1 (i4 K) (pv 0) c8)) c8) c7 O5) l8) a9)))),?_⟩;exact⟨_,rfl,_,rfl,a,_,_,_,rfl,rfl,hH,rfl,_,rfl,a,_,_,_,rfl,rfl,hH,rfl,_,_,rfl,rfl,.inl ⟨by lia,by lia⟩,_,_,rfl,rfl,x,_,_,rfl,hp,q⟩
def X4:FnScope ["hall","things","last"] ["hall","things"] (i3 (top 16)):=mkF
def ki (T:Txt K mg)(ze:i6 P w K mg base 2 "is_whole" p_18 (Z7 K))(D:Def K mg "are_ends" (top 16) p_41):i6 P w K mg base 3 "are_ends" p_41 (fQ K):=by
 refine D.ok X4 (λ_ _ _ _ h=>?_) (λ_ _ _ _ _ H _ Q E hr h=>?_)
 ·obtain⟨a,p,h,xs,rfl,_⟩:=h
  rfl
 obtain⟨a,p,h,xs,rfl,hH,ok,hS,hx,h64,q⟩:=h;have o1:=ok.o
 rcases hS with hS|hS
 ·refine⟨_,(d9 (j3 (i:=2) X4.nd rfl (Or.inr rfl) (i7 bL (i7 r6 (j1 (i4 K) (pv 0) c8) (j1 (i4 K) (pv 0) c8)) c8))
  (i0 (j6 (i8 (bM K rfl) rfl T.DO boot_all (a8 (E9 (own:=["thing"]) (fr:=[(2,"last")]) rfl (mkC ["hall","things","last"] (i3 (top 16))) (o6 K (pv 1)) (λcl C s H ex=>⟨(m5 (i:=0) (show(["thing","last"]:List Str).Nodup from by decide +kernel) rfl (Or.inl rfl) (Or.inr rfl)),F4,(m6 ze hr rfl (a8 (pv 0) (a8 c8 (a8 (pv 1) c7 a9) l8) a9))⟩)) c7 R4))))),?_⟩
  refine⟨_,rfl,a,_,_,_,rfl,rfl,hH,rfl,_,rfl,a,_,_,_,rfl,rfl,hH,rfl,_,_,rfl,rfl,.inl ⟨by lia,by lia⟩,_,_,rfl,rfl,?_⟩
  refine⟨_,rfl,p,rfl,⟨_,hS⟩,?_⟩
  refine B9 (xs:=xs) (λi acc σ H'=>H'=H/\acc=((xs.take i).map λx=>m4 x 0 (h.o*h.e-1)).map V.bl/\∃v,σ=[v,some (.int (h.o*h.e-1))])
   ⟨rfl,rfl,none,rfl⟩ (Nat.le_of_lt (k8 (by lia))) (λi acc σ H' g=>?_) (λi acc σ H' _ g=>by rw[g.1];exact hS) ?_ ?_
  ·obtain⟨_,rfl,_⟩:=g
   rw[length_map,length_map,length_take];lia
  ·rintro i y acc σ H' hy ⟨rfl,rfl,v,rfl⟩
   refine⟨_,rfl,_,rfl,y,_,_,rfl,hx y (List.mem_of_getElem? hy),rfl,?_,_,rfl⟩;rw[take_succ,hy,map_append,map_append];rfl
  ·rintro acc σ H' ⟨rfl,rfl,v,rfl⟩ l hl
   rw[take_length];refine⟨l,_,rfl,SqL.of c6,?_⟩
   have:=q _ (c9 hl (.lst ((xs.map λx=>m4 x 0 (h.o*h.e-1)).map V.bl)))
   rw[List.all_map];exact this
 ·refine⟨_,(d9 (j3 (i:=2) X4.nd rfl (Or.inr rfl) (i7 bL (i7 r6 (j1 (i4 K) (pv 0) c8) (j1 (i4 K) (pv 0) c8)) c8))
  (i0 (j6 (i8 (bM K rfl) rfl T.DO boot_all (a8 (E9 (own:=["thing"]) (fr:=[(2,"last")]) rfl (mkC ["hall","things","last"] (i3 (top 16))) (cD K (pv 1)) (λcl C s H ex=>⟨(m5 (i:=0) (show(["thing","last"]:List Str).Nodup from by decide +kernel) rfl (Or.inl rfl) (Or.inr rfl)),F4,(m6 ze hr rfl (a8 (pv 0) (a8 c8 (a8 (pv 1) c7 a9) l8) a9))⟩)) c7 R4))))),?_⟩
  refine⟨_,rfl,a,_,_,_,rfl,rfl,hH,rfl,_,rfl,a,_,_,_,rfl,rfl,hH,rfl,_,_,rfl,rfl,.inl ⟨by lia,by lia⟩,_,_,rfl,rfl,?_⟩
  refine⟨_,rfl,p,rfl,⟨_,hS⟩,?_⟩
  refine dA (xs:=xs) (λi acc σ H'=>H'=H/\acc=((xs.take i).map λx=>m4 x 0 (h.o*h.e-1)).map V.bl/\∃v,σ=[v,some (.int (h.o*h.e-1))])
   ⟨rfl,rfl,none,rfl⟩ (Nat.le_of_lt (k8 (by lia))) (λi acc σ H' g=>?_) (λi acc σ H' _ g=>by rw[g.1];exact hS) ?_ ?_
  ·obtain⟨_,rfl,_⟩:=g
   rw[length_map,length_map,length_take];lia
  ·rintro i y acc σ H' hy ⟨rfl,rfl,v,rfl⟩
   refine⟨_,rfl,_,rfl,y,_,_,rfl,hx y (List.mem_of_getElem? hy),rfl,?_,_,rfl⟩;rw[take_succ,hy,map_append,map_append];rfl
  ·rintro acc σ H' ⟨rfl,rfl,v,rfl⟩ l hl
   rw[take_length];refine⟨l,_,rfl,SqL.of c6,?_⟩
   have:=q _ (c9 hl (.lst ((xs.map λx=>m4 x 0 (h.o*h.e-1)).map V.bl)))
   rw[List.all_map];exact this
def ai:FnScope ["some"] ["some"] (i3 (top 23)):=mkF
def pQ (T:Txt K mg)(D:Def K mg "are_unlike" (top 23) p_49):i6 P w K mg base 1 "are_unlike" p_49 (iY K):=by
 refine D.ok ai (λ_ _ _ _ h=>?_) (λ_ _ _ _ _ H _ Q E hr h=>?_)
 ·obtain⟨p,ns,rfl,_⟩:=h
  rfl
 obtain⟨p,ns,rfl,hS,h64,q⟩:=h;have ln:(ns.map V.int).length=ns.length:=length_map _
 rcases hS with hS|hS
 ·refine⟨_,(i0 (j6 (J5 C7 (i8 (ap P w) rfl T.yT boot_len (a8 (A5 (Z2 K P w rfl) rfl T.BI boot_set (a8 (pv 0) c7 a9)) c7 o8)) (i8 (u6 K) rfl T.yT boot_len (a8 (pv 0) c7 a9)) (m3 _)))),?_⟩
  refine⟨_,rfl,p,ns,rfl,hS,by lia,λl hl=>?_⟩
  have s1:=c9 hl (qh P w l ns);refine⟨l,ns,rfl,c6,_,rfl,p,_,rfl,.inl (s1.seq hS),rfl,?_⟩
  have:=q _ s1
  rw[ln]
  have e:decide (V.int (((y9 ns).length:Nat):Int)=V.int ((ns.length:Nat):Int))=decide ((y9 ns).length=ns.length):=by
   rw[Bool.eq_iff_iff,decide_eq_true_iff,decide_eq_true_iff]
   constructor
   ·intro z
    have:=V.int.inj z
    lia
   ·intro z
    rw[z]
  rw[e];exact this
 ·refine⟨_,(i0 (j6 (J5 C7 (i8 (ap P w) rfl T.yT boot_len (a8 (A5 (mF K P w rfl) rfl T.BI boot_set (a8 (pv 0) c7 a9)) c7 o8)) (i8 (u6 K) rfl T.yT boot_len (a8 (pv 0) c7 a9)) (m3 _)))),?_⟩
  refine⟨_,rfl,p,ns,rfl,hS,by lia,λl hl=>?_⟩
  have s1:=c9 hl (qh P w l ns);refine⟨l,ns,rfl,c6,_,rfl,p,_,rfl,.inr (i9.seqT s1 hS),rfl,?_⟩
  have:=q _ s1
  rw[ln]
  have e:decide (V.int (((y9 ns).length:Nat):Int)=V.int ((ns.length:Nat):Int))=decide ((y9 ns).length=ns.length):=by
   rw[Bool.eq_iff_iff,decide_eq_true_iff,decide_eq_true_iff]
   constructor
   ·intro z
    have:=V.int.inj z
    lia
   ·intro z
    rw[z]
  rw[e];exact this
def mL:FnScope ["hall","thing"] ["hall","thing"] (i3 (top 27)):=mkF
theorem mB (T:Txt K mg)(Dc:i6 P w K mg base 3 "are_ends" p_41 (fQ K))(zo:i6 P w K mg base 1 "are_unlike" p_49 (iY K))(D:Def K mg "is_ends" (top 27) p_19):i6 P w K mg base 4 "is_ends" p_19 (kn K):=by
 refine D.ok mL (λ_ _ _ _ h=>?_) (λ_ _ _ _ _ H _ Q E hr h=>?_)
 ·obtain⟨a,h,x,o,rfl,_⟩:=h
  rfl
 obtain⟨a,h,x,o,rfl,hH,ok,hT,q⟩:=h
 refine⟨_,(d9 (m8 (PW.pt (bn (F0 (w9 K (i8 (af K) rfl T.yJ boot_isinstance (a8 (pv 1) (a8 (C2 (a8 (D4 (v:=.ty "list") rfl T.AC boot_list rfl) (a8 (D4 (v:=.ty "tuple") rfl T.zm boot_tuple rfl) c7 a9) a9)) c7 Q0) a9)) (λ_=>rfl))) (aB (k9 C7 (i8 (u6 K) rfl T.yT boot_len (a8 (pv 1) c7 a9)) c8 (m3 _))))) (i0 (j6 K2)) j7)
  (i0 (j6 (U7 (m6 Dc hr rfl (a8 (pv 0) (a8 (pv 1) c7 a9) a9)) (az (m6 zo hr rfl (a8 (pv 1) c7 a9))))))),?_⟩
 refine⟨_,rfl,z_2,λtp htp=>?_⟩
 have etp:=@c6 H tp (.tup [.ty "list",.ty "tuple"]);have s1:=c9 htp (.tup [.ty "list",.ty "tuple"]);generalize upd H tp _=H1 at etp s1 ⊢;have hT1:=hT.same s1
 cases hT1 with
 | no ty h1 h2 =>
  refine⟨_,tp,_,_,_,_,_,rfl,etp,ty,h1,h2,_,rfl,M6 ?_⟩;exact q _ s1
 | @lst p xs e hx h64 =>
  refine⟨_,tp,_,_,_,_,_,rfl,etp,.lst e,bZ,bU,_,rfl,D9 ?_⟩;refine⟨_,rfl,p,xs,rfl,.inl (SqL.of e),rfl,_,rfl,?_⟩;refine B1 (λc=>?_) (λc=>?_)
  ·have c':xs=[]:=by
    have:((xs.length:Nat):Int)=0:=by simpa using c
    exact List.length_eq_zero_iff.mp (by lia)
   have:=q _ s1
   rw[c'] at this;exact this
  ·have c':xs≠[]:=λz=>c (by rw[z];rfl)
   have ne:(!xs.isEmpty)=true:=by cases xs with
    | nil=>exact absurd rfl c'
    | cons _ _=>rfl
   refine⟨_,rfl,_,rfl,a,p,h,xs,rfl,i9.seqT s1 hH,ok,.inl (SqL.of e),hx,h64,λH2 s2=>⟨_,rfl,?_⟩⟩;refine B1 (λd=>?_) (λd=>?_)
   ·obtain⟨ns,rfl⟩:=bR d
    have e2:=s2 _ _ e;refine⟨_,rfl,p,ns,rfl,.inl (SqL.of e2),by rw[length_map] at h64;exact h64,λH3 s3=>?_⟩
    have:=q _ ((s1.trans s2).trans s3)
    rw[show C0 h (some (ns.map V.int))=decide ((y9 ns).length=ns.length) by
     show(!(ns.map V.int).isEmpty&&((ns.map V.int).all (λx=>m4 x 0 (h.o*h.e-1))&&E3 (ns.map V.int)))=_
     rw[ne,d,Bool.true_and,Bool.true_and];unfold E3
     rw[P6,length_map]] at this
    exact this
   ·have:=q _ (s1.trans s2)
    rw[show C0 h (some xs)=false by
     show(!xs.isEmpty&&(xs.all (λx=>m4 x 0 (h.o*h.e-1))&&E3 xs))=_
     rw[Bool.eq_false_iff.mpr d,Bool.false_and,Bool.and_false]] at this
    exact this
 | @tup p xs e hx h64 =>
  refine⟨_,tp,_,_,_,_,_,rfl,etp,.tup e,jU,Y2,_,rfl,D9 ?_⟩;refine⟨_,rfl,p,xs,rfl,.inr (SqT.of e),rfl,_,rfl,?_⟩;refine B1 (λc=>?_) (λc=>?_)
  ·have c':xs=[]:=by
    have:((xs.length:Nat):Int)=0:=by simpa using c
    exact List.length_eq_zero_iff.mp (by lia)
   have:=q _ s1
   rw[c'] at this;exact this
  ·have c':xs≠[]:=λz=>c (by rw[z];rfl)
   have ne:(!xs.isEmpty)=true:=by cases xs with
    | nil=>exact absurd rfl c'
    | cons _ _=>rfl
   refine⟨_,rfl,_,rfl,a,p,h,xs,rfl,i9.seqT s1 hH,ok,.inr (SqT.of e),hx,h64,λH2 s2=>⟨_,rfl,?_⟩⟩;refine B1 (λd=>?_) (λd=>?_)
   ·obtain⟨ns,rfl⟩:=bR d
    have e2:=s2 _ _ e;refine⟨_,rfl,p,ns,rfl,.inr (SqT.of e2),by rw[length_map] at h64;exact h64,λH3 s3=>?_⟩
    have:=q _ ((s1.trans s2).trans s3)
    rw[show C0 h (some (ns.map V.int))=decide ((y9 ns).length=ns.length) by
     show(!(ns.map V.int).isEmpty&&((ns.map V.int).all (λx=>m4 x 0 (h.o*h.e-1))&&E3 (ns.map V.int)))=_
     rw[ne,d,Bool.true_and,Bool.true_and];unfold E3
     rw[P6,length_map]] at this
    exact this
   ·have:=q _ (s1.trans s2)
    rw[show C0 h (some xs)=false by
     show(!xs.isEmpty&&(xs.all (λx=>m4 x 0 (h.o*h.e-1))&&E3 xs))=_
     rw[Bool.eq_false_iff.mpr d,Bool.false_and,Bool.and_false]] at this
    exact this
def mU (as:List Addr)(ks:List Call)(c:Int)(v:V):Prop:=(v=.non/\∀k∈ks,k.c≠c)\/∃(j:Nat)(a:Addr)(k:Call),as[j]? = some a/\ks[j]? = some k/\k.c=c/\v=.ref a
def dw (K:Frag):Sp:=λvs H Q _=>∃(l:Addr)(x:V)(as:List Addr)(ks:List Call),vs=[.ref l,x]/\SqL K H l (as.map V.ref)/\j8 H as ks/\A0 K H x /\
 ((isInt x=false/\Q .non H)\/∃c,x=.int c/\∀v,mU as ks c v->Q v H)
def eD:FnScope ["calls","caller","call"] ["calls","caller"] (i3 (top 33)):=mkF
def lT (T:Txt K mg)(zg:i6 P w K mg base 1 "is_number" p_40 (cC K))(D:Def K mg "call_of" (top 33) p_38):i6 P w K mg base 2 "call_of" p_38 (dw K):=by
 refine D.ok eD (λ_ _ _ _ h=>?_) (λ_ _ _ _ _ H _ Q E hr h=>?_)
 ·obtain⟨l,x,as,ks,rfl,_⟩:=h
  rfl
 obtain⟨l,x,as,ks,rfl,hL,hC,hp,q⟩:=h
 refine⟨_,(d9 (m8 (F0 (w9 K (m6 zg hr rfl (a8 (pv 1) c7 a9)) (λ_=>rfl))) (i0 (j6 w6)) j7)
  (d9 (A2 PassesOwn.never rfl (o6 K (pv 0)) (m5 (i:=2) eD.nd rfl (Or.inl rfl))
  (i0 (m8 (k9 C7 (j1 (i4 K) (pv 2) c8) (pv 1) (m3 _)) (i0 (j6 (pv 2))) j7)))
  (i0 (j6 w6)))),?_⟩
 refine⟨_,rfl,x,rfl,hp,_,rfl,?_⟩
 rcases q with⟨hx,q⟩|⟨c,rfl,q⟩
 ·rw[hx]
  exact M6 q
 refine D9 ?_;have la:=Paired.length hC;refine⟨_,rfl,l,rfl,⟨_,hL⟩,?_⟩
 refine B0 (xs:=as.map V.ref) (λi σ H'=>H'=H/\(∀(j:Nat) k,j<i->ks[j]? = some k->k.c≠c)/\∃v,σ=[some (.ref l),some (.int c),v])
  ⟨rfl,(λj k hj=>absurd hj (Nat.not_lt_zero _)),none,rfl⟩ (λi σ H' _ g=>g.1▸hL) ?_ ?_
 ·rintro i x σ H' hx ⟨rfl,hno,v,rfl⟩
  rw[List.getElem?_map] at hx;obtain⟨a,ha,rfl⟩:=Option.map_eq_some_iff.mp hx;obtain⟨k,hk,ce,e1,e2⟩:=j9 hC i a ha;refine⟨_,rfl,a,_,_,_,rfl,rfl,SqT.of e2,rfl,_,rfl,rfl,_,rfl,?_⟩;refine B1 (λcc=>?_) (λcc=>?_)
  ·have cc':k.c=c:=by simpa using cc
   exact⟨_,rfl,q _ (.inr ⟨i,a,k,ha,hk,cc',rfl⟩)⟩
  ·have cc':k.c≠c:=by simpa using cc
   refine⟨rfl,λj k' hj hk'=>?_,_,rfl⟩
   by_cases z:j=i
   ·subst z
    rw[hk] at hk'
    cases hk'
    exact cc'
   ·exact hno j k' (by lia) hk'
 ·rintro σ H' ⟨rfl,hno,v,rfl⟩
  refine q _ (.inl ⟨rfl,λk hk=>?_⟩);obtain⟨j,hj⟩:=List.mem_iff_getElem?.mp hk
  have:=(List.getElem?_eq_some_iff.mp hj).1
  exact hno j k (by rw[length_map];lia) hj
def xE (ks:List Call)(e:Int)(v:V):Prop:=(v=.non/\∀k∈ks,¬e∈k.es)\/∃k∈ks,e∈k.es/\v=.int k.c
def dF (K:Frag):Sp:=λvs H Q _=>∃(l:Addr)(e:Int)(as:List Addr)(ks:List Call),vs=[.ref l,.int e]/\SqL K H l (as.map V.ref)/\j8 H as ks/\∀v,xE ks e v->Q v H
def aQ:FnScope ["calls","end","call"] ["calls","end"] (i3 (top 34)):=mkF
def ix (T:Txt K mg)(zg:i6 P w K mg base 1 "is_number" p_40 (cC K))(D:Def K mg "holder_of" (top 34) p_46):i6 P w K mg base 2 "holder_of" p_46 (dF K):=by
 refine D.ok aQ (λ_ _ _ _ h=>?_) (λ_ _ _ _ _ H _ Q E hr h=>?_)
 ·obtain⟨l,x,as,ks,rfl,_⟩:=h
  rfl
 obtain⟨l,e,as,ks,rfl,hL,hC,q⟩:=h
 refine⟨_,(d9 (m8 (F0 (w9 K (m6 zg hr rfl (a8 (pv 1) c7 a9)) (λ_=>rfl))) (i0 (j6 w6)) j7)
  (d9 (A2 PassesOwn.never rfl (o6 K (pv 0)) (m5 (i:=2) aQ.nd rfl (Or.inl rfl))
  (i0 (m8 (k9 (gZ K) (pv 1) (j1 (i4 K) (pv 2) c8) (by with_unfolding_all rfl)) (i0 (j6 (j1 (i4 K) (pv 2) c8))) j7)))
  (i0 (j6 w6)))),?_⟩
 refine⟨_,rfl,.int e,rfl,.int e,_,rfl,D9 ?_⟩;have la:=Paired.length hC;refine⟨_,rfl,l,rfl,⟨_,hL⟩,?_⟩
 refine B0 (xs:=as.map V.ref) (λi σ H'=>H'=H/\(∀(j:Nat) k,j<i->ks[j]? = some k->¬e∈k.es)/\∃v,σ=[some (.ref l),some (.int e),v])
  ⟨rfl,(λj k hj=>absurd hj (Nat.not_lt_zero _)),none,rfl⟩ (λi σ H' _ g=>g.1▸hL) ?_ ?_
 ·rintro i x σ H' hx ⟨rfl,hno,v,rfl⟩
  rw[List.getElem?_map] at hx;obtain⟨a,ha,rfl⟩:=Option.map_eq_some_iff.mp hx;obtain⟨k,hk,ce,e1,e2⟩:=j9 hC i a ha;refine⟨_,rfl,_,rfl,a,_,_,_,rfl,rfl,SqT.of e2,rfl,ce,_,rfl,.inr (SqT.of e1),rfl,S6 k.es,_,rfl,?_⟩;rw[bG];refine B1 (λcc=>?_) (λcc=>?_)
  ·have cc':e∈k.es:=by simpa using cc
   exact⟨_,rfl,a,_,_,_,rfl,rfl,SqT.of e2,rfl,q _ (.inr ⟨k,List.mem_of_getElem? hk,cc',rfl⟩)⟩
  ·have cc':¬e∈k.es:=by simpa using cc
   refine⟨rfl,λj k' hj hk'=>?_,_,rfl⟩
   by_cases z:j=i
   ·subst z
    rw[hk] at hk'
    cases hk'
    exact cc'
   ·exact hno j k' (by lia) hk'
 ·rintro σ H' ⟨rfl,hno,v,rfl⟩
  refine q _ (.inl ⟨rfl,λk hk=>?_⟩);obtain⟨j,hj⟩:=List.mem_iff_getElem?.mp hk
  have:=(List.getElem?_eq_some_iff.mp hj).1
  exact hno j k (by rw[length_map];lia) hj
def Q6 (h:l9)(s:Int)(gs:List Int)(k:Call):Bool:=decide (k.c/h.c=s) || (l7 h k.es).any λr=>decide (r∈gs)
def K5 (h:l9)(ks:List Call)(s:Int)(gs:List Int)(r:Nat):List Int:=(ks.filter λk=>decide (k.k=(r:Int))&&Q6 h s gs k).map Call.c
def M0 (h:l9)(ks:List Call)(s:Int)(gs:List Int):List (List Int):=(List.range h.m.toNat).map (K5 h ks s gs)
def E7 (h:l9)(ks:List Call)(c:Int)(es:List Int):List (List Int):=M0 h ks (c/h.c) (l7 h es)
def Z6 (h:l9)(ks:List Call)(s:Int)(gs:List Int)(r:Nat)(k:Call):K5 h (ks++[k]) s gs r=K5 h ks s gs r++(if (decide (k.k=(r:Int))&&Q6 h s gs k)=true then [k.c] else []):=by
 unfold K5;rw[filter_append,map_append]
 have e:List.filter (λk=>decide (k.k=(r:Int))&&Q6 h s gs k) [k]=if (decide (k.k=(r:Int))&&Q6 h s gs k)=true then [k] else []:=by
  rw[List.filter_cons];rfl
 rw[e]
 by_cases c:(decide (k.k=(r:Int))&&Q6 h s gs k)=true
 ·rw[if_pos c,if_pos c]
  rfl
 ·rw[if_neg c,if_neg c]
  rfl
def aV (h:l9)(ks:List Call)(s:Int)(gs:List Int)(r:Nat):(K5 h ks s gs r).length<=ks.length:=by
 unfold K5;rw[length_map];exact length_filter_le _ _
def Y0 (h:l9)(ks:List Call)(s:Int)(gs:List Int):(M0 h ks s gs).length=h.m.toNat:=by
 unfold M0;rw[length_map,length_range]
def u9 (H:Hp)(rs:List Addr)(rows:List (List Int)):Prop:=Paired (λa row=>H a=some (.lst (row.map V.int))) rs rows
theorem u9.other {H:Hp}{a:Addr}{o:HO}:∀{rs:List Addr}{rows:List (List Int)},u9 H rs rows->¬a∈rs->u9 (upd H a o) rs rows
 | _,_,.nil,_=>.nil
 | _,_,.cons (a:=b) h t,hn=>.cons (by
   have:b≠a:=λz=>hn (by rw[z];exact mem_cons_self ..)
   show upd H a o b=_
   rw[j2 this];exact h) (u9.other t λz=>hn (mem_cons_of_mem _ z))
theorem u9.set {H:Hp}{a:Addr}{row:List Int}:∀{rs:List Addr}{rows:List (List Int)}{j:Nat},u9 H rs rows->rs.Nodup->rs[j]? = some a->u9 (upd H a (.lst (row.map V.int))) rs (rows.set j row)
 | _,_,_,.nil,_,h=>by cases h
 | _,_,0,.cons (a:=b) h t,nd,hj=>by
  cases hj
  exact .cons c6 (u9.other t (List.nodup_cons.mp nd).1)
 | _,_,j+1,.cons (a:=b) h t,nd,hj=>by
  have hj':_:=hj;rw[List.getElem?_cons_succ] at hj';have hm:=List.mem_of_getElem? hj';have hb:b≠a:=λz=>(List.nodup_cons.mp nd).1 (by rw[z];exact hm)
  exact .cons (by
   show upd H a _ b=_
   rw[j2 hb];exact h) (u9.set t (List.nodup_cons.mp nd).2 hj')
theorem u9.same {H H':Hp}{rs:List Addr}{rows:List (List Int)}(s:i9 H H')(h:u9 H rs rows):u9 H' rs rows:=by
 unfold u9 at h ⊢;exact A4 h λa d _ e=>s _ _ e
def mR {n j:Nat}(f:Nat->List Int)(x:List Int):((List.range n).map f).set j x=(List.range n).map λr=>if r=j then x else f r:=by
 refine ext_getElem? λi=>?_;rw[List.getElem?_set,List.getElem?_map,List.getElem?_map]
 by_cases hi:i<n
 ·rw[List.getElem?_range hi]
  simp only[length_map,length_range,Option.map_some]
  by_cases c:j=i
  ·subst c;simp[hi]
  ·simp[c,Ne.symm c]
 ·rw[List.getElem?_eq_none (by simpa using hi)]
  simp only[length_map,length_range,Option.map_none]
  by_cases c:j=i
  ·subst c;simp[hi]
  ·simp[c]
def kQ (K:Frag):Sp:=λvs H Q _=>∃(a p g:Addr)(h:l9)(k:Call)(st:Int)(gs:List Int),vs=[.ref a,.ref p,.int st,.ref g]/\SqT K H a (h.row.map V.int)/\h.Ok/\D5 H p k/\k.In h/\SqL K H g (gs.map V.int)/\∀H',i9 H H'->Q (.bl (Q6 h st gs k)) H'
def Z3 (K:Frag):Sp:=λvs H Q _=>∃(a l e:Addr)(h:l9)(as:List Addr)(ks:List Call)(c:Int)(es:List Int),vs=[.ref a,.ref l,.int c,.ref e]/\SqT K H a (h.row.map V.int)/\h.Ok/\SqL K H l (as.map V.ref)/\j8 H as ks/\(∀k∈ks,k.In h)/\ks.length<=63/\(SqT K H e (es.map V.int)\/SqL K H e (es.map V.int))/\es.length<64 /\
 ∀(f:Addr)(rs:List Addr)(H':Hp),i9 H H'->H f=none->(∀r∈rs,H r=none)->rs.Nodup->¬f∈rs->H' f=some (.lst (rs.map V.ref))->u9 H' rs (E7 h ks c es)->Q (.ref f) H'
def cB:FnScope ["hall","call","start","goals"] ["hall","call","start","goals"] (i3 (top 28)):=mkF
def pL (T:Txt K mg)(yU:i6 P w K mg base 1 "place_in" p_24 (R6 K l9.c))(yV:i6 P w K mg base 2 "racks_of" p_22 (ac K))(D:Def K mg "holds_needed" (top 28) p_16):i6 P w K mg base 3 "holds_needed" p_16 (kQ K):=by
 refine D.ok cB (λ_ _ _ _ h=>?_) (λ_ _ _ _ _ H _ Q E hr h=>?_)
 ·obtain⟨a,p,g,h,k,st,gs,rfl,_⟩:=h
  rfl
 obtain⟨a,p,g,h,k,st,gs,rfl,hH,ok,⟨e,ee,ep⟩,hk,hG,q⟩:=h;have few:=hk.few
 refine⟨_,(d9 (m8 (k9 C7 (j1 (i4 K) (m6 yU hr rfl (a8 (pv 0) (a8 (j1 (i4 K) (pv 1) c8) c7 m9) a9)) c8) (pv 2) (m3 _)) (i0 (j6 K2)) j7)
  (i0 (j6 (i8 (qH K rfl) rfl T.Et boot_any (a8 (E9 (own:=["rack"]) (fr:=[(3,"goals")]) rfl (mkC ["hall","call","start","goals"] (i3 (top 28))) (o6 K (m6 yV hr rfl (a8 (pv 0) (a8 (j1 (i4 K) (pv 1) c8) c7 m9) a9))) (λcl C s H ex=>⟨(m5 (i:=0) (show(["rack","goals"]:List Str).Nodup from by decide +kernel) rfl (Or.inl rfl) (Or.inr rfl)),F4,(J5 (gZ K) (pv 0) (pv 1) (by with_unfolding_all rfl))⟩)) c7 R4))))),?_⟩
 refine⟨_,rfl,_,rfl,p,_,_,_,rfl,rfl,SqT.of ep,rfl,a,h,k.c,rfl,hH,ok,λr hr1=>?_⟩;have er:=@c6 H r (.tup [.int (k.c/h.c),.int (k.c%h.c)]);have s1:=c9 hr1 (.tup [.int (k.c/h.c),.int (k.c%h.c)]);generalize upd H r _=H1 at er s1 ⊢;refine⟨r,_,_,_,rfl,rfl,SqT.of er,rfl,_,rfl,rfl,_,rfl,?_⟩;refine B1 (λc=>?_) (λc=>?_)
 ·have c':k.c/h.c=st:=by simpa using c
  have:=q H1 s1
  rw[show Q6 h st gs k=true by unfold Q6;rw[decide_eq_true c'];rfl] at this
  exact this
 ·have c':¬k.c/h.c=st:=by simpa using c
  refine⟨_,rfl,_,rfl,p,_,_,_,rfl,rfl,SqT.of (s1 _ _ ep),rfl,a,e,h,k.es,rfl,i9.seqT s1 hH,ok,.inl (SqT.of (s1 _ _ ee)),by lia,λl H2 s2 _ el=>?_⟩
  have s12:=s1.trans s2;have rl:=Y7 h k.es;refine⟨l,rfl,⟨_,SqL.of el⟩,?_⟩
  refine B9 (xs:=(l7 h k.es).map V.int) (λi acc σ H'=>H'=H2/\acc=(((l7 h k.es).take i).map λr=>decide (r∈gs)).map V.bl/\∃v,σ=[v,some (.ref g)])
   ⟨rfl,rfl,none,rfl⟩ (Nat.le_of_lt (k8 (by rw[length_map];lia))) (λi acc σ H' gg=>?_) (λi acc σ H' _ gg=>by rw[gg.1];exact SqL.of el) ?_ ?_
  ·obtain⟨_,rfl,_⟩:=gg
   rw[length_map,length_map,length_take];lia
  ·rintro i y acc σ H' hy ⟨rfl,rfl,v,rfl⟩
   rw[List.getElem?_map] at hy;obtain⟨x,hx,rfl⟩:=Option.map_eq_some_iff.mp hy;refine⟨_,rfl,_,rfl,g,_,rfl,.inl (s12.seq hG),rfl,S6 gs,rfl,?_,_,rfl⟩;rw[take_succ,hx,map_append,map_append]
   show _=_++[V.bl _]
   rw[bG];rfl
  ·rintro acc σ H' ⟨rfl,rfl,v,rfl⟩ l2 hl2
   rw[length_map,take_length];refine⟨l2,_,rfl,SqL.of c6,?_⟩
   have:=q _ (s12.trans (c9 hl2 (.lst (((l7 h k.es).map λr=>decide (r∈gs)).map V.bl))))
   rw[show Q6 h st gs k=((l7 h k.es).map λr=>decide (r∈gs)).any id by
    unfold Q6;rw[decide_eq_false c',Bool.false_or,List.any_map]
    rfl] at this
   exact this
def Q3:FnScope ["hall","calls","caller","ends","start","goals","found","call"] ["hall","calls","caller","ends"] (i3 (top 29)):=mkF
def mr (T:Txt K mg)(yU:i6 P w K mg base 1 "place_in" p_24 (R6 K l9.c))(yV:i6 P w K mg base 2 "racks_of" p_22 (ac K))(Bp:i6 P w K mg base 3 "holds_needed" p_16 (kQ K))(D:Def K mg "holders" (top 29) p_14):i6 P w K mg base 4 "holders" p_14 (Z3 K):=by
 refine D.ok Q3 (λ_ _ _ _ h=>?_) (λ_ _ _ _ _ H _ Q E hr h=>?_)
 ·obtain⟨a,l,e,h,as,ks,c,es,rfl,_⟩:=h
  rfl
 obtain⟨a,l,e,h,as,ks,c,es,rfl,hH,ok,hL,hC,hin,h63,hE,h64,q⟩:=h;have b3:=ok.m;have la:=Paired.length hC
 refine⟨_,(d9 (j3 (i:=4) Q3.nd rfl (Or.inl rfl) (j1 (i4 K) (m6 yU hr rfl (a8 (pv 0) (a8 (pv 2) c7 a9) a9)) c8))
  (d9 (j3 (i:=5) Q3.nd rfl (Or.inl rfl) (m6 yV hr rfl (a8 (pv 0) (a8 (pv 3) c7 a9) a9)))
  (d9 (cJ (i:=6) (own:=["k"]) (fr:=[]) rfl Q3.nd rfl rfl (mkC ["hall","calls","caller","ends","start","goals","found","call"] (i3 (top 29))) (D1 rfl T.za (a8 (j1 (i4 K) (pv 0) c8) c7 m9)) (λcl C s H ex=>⟨(m5 (i:=0) (show(["k"]:List Str).Nodup from by decide +kernel) rfl (Or.inl rfl) (Or.inr rfl)),F4,(n6 c7)⟩) rfl)
  (d9 (A2 PassesOwn.never rfl (o6 K (pv 1)) (m5 (i:=7) Q3.nd rfl (Or.inl rfl))
  (i0 (m8 (w9 K (m6 Bp hr rfl (a8 (pv 0) (a8 (pv 7) (a8 (pv 4) (a8 (pv 5) c7 a9) a9) a9) a9)) (λ_=>rfl)) (i0 (C5 (K4 K PySem.F.plainAttrs_list PySem.F.slot_list_append PySem.F.type_list_append B7 (j1 (q9 K) (pv 6) (j1 (i4 K) (pv 7) c8)) (a8 (j1 (i4 K) (pv 7) c8) c7 m9)))) j7)))
  (i0 (j6 (pv 6))))))),?_⟩
 refine⟨_,rfl,_,rfl,a,h,c,rfl,hH,ok,λr hr1=>?_⟩;have er:=@c6 H r (.tup [.int (c/h.c),.int (c%h.c)]);have s1:=c9 hr1 (.tup [.int (c/h.c),.int (c%h.c)]);generalize upd H r _=H1 at er s1 ⊢;refine⟨r,_,_,_,rfl,rfl,SqT.of er,rfl,?_⟩;refine⟨_,rfl,_,rfl,a,e,h,es,rfl,i9.seqT s1 hH,ok,hE.imp (λz=>i9.seqT s1 z) (λz=>s1.seq z),h64,λg H2 s2 _ eg=>?_⟩;have s12:=s1.trans s2;refine⟨_,rfl,a,_,_,_,rfl,rfl,i9.seqT s12 hH,rfl,_,rfl,by show -(2^62)<=h.m;lia,by show h.m<2^62;lia,?_⟩
 refine dM (λi acc σ H'=>i9 H2 H'/\(∃rs:List Addr,acc=rs.map V.ref/\rs.length=i/\rs.Nodup/\(∀r∈rs,H2 r=none)/\u9 H' rs (List.replicate i []))/\∃v,σ=[v])
  ⟨i9.refl _,⟨[],rfl,rfl,nodup_nil,(λr hr=>nomatch hr),.nil⟩,none,rfl⟩ (by show h.m.toNat<=16777216;lia) (λi acc σ H' gg=>?_) ?_ ?_
 ·obtain⟨_,⟨rs,rfl,hl,_⟩,_⟩:=gg
  rw[length_map,hl];exact Nat.le_refl _
 ·rintro i acc σ H' hi ⟨g1,⟨rs,rfl,hl,nd,hn,hr⟩,v,rfl⟩
  refine⟨z_0,λu hu=>⟨g1.trans (c9 hu _),⟨rs++[u],by rw[map_append];rfl,by rw[length_append,hl];rfl,?_,?_,?_⟩,_,rfl⟩⟩
  ·refine nodup_append.mpr ⟨nd,by simp,λx hx y hy=>?_⟩
   rw[mem_singleton] at hy
   rintro rfl
   have:H' x≠none:=by
    obtain⟨j,hj⟩:=List.mem_iff_getElem?.mp hx;obtain⟨row,_,e2⟩:=j9 hr j x hj;exact λz=>by rw[e2] at z;cases z
   exact this (by rw[hy];exact hu)
  ·intro x hx
   rcases mem_append.mp hx with z|z
   ·exact hn x z
   ·rw[mem_singleton] at z
    rw[z];exact g1.free hu
  ·rw[List.replicate_succ']
   exact Paired.snoc (u9.same (c9 hu _) hr) c6
 ·rintro acc σ H3 ⟨s3,⟨rs,rfl,hl,nd,hn,hr⟩,v,rfl⟩ F hF
  have eF:=@c6 H3 F (.lst (rs.map V.ref));have s4:=s3.trans (c9 hF (.lst (rs.map V.ref)));have hr4:=u9.same (c9 hF (.lst (rs.map V.ref))) hr
  have hFn:¬F∈rs:=λz=>by
   obtain⟨j,hj⟩:=List.mem_iff_getElem?.mp z;obtain⟨row,_,e2⟩:=j9 hr j F hj;rw[hF] at e2
   cases e2
  generalize upd H3 F _=H4 at eF s4 hr4 ⊢;have hF2:H2 F=none:=s3.free hF
  have e0:List.replicate h.m.toNat []=M0 h (ks.take 0) (c/h.c) (l7 h es):=by
   unfold M0 K5;rw[take_zero];refine ext_getElem? λi=>?_;rw[List.getElem?_map,List.getElem?_replicate]
   by_cases hi:i<h.m.toNat
   ·rw[if_pos hi,List.getElem?_range hi]
    rfl
   ·rw[if_neg hi,List.getElem?_eq_none (by simpa using hi)]
    rfl
  rw[e0] at hr4;refine⟨_,rfl,l,rfl,⟨_,(s12.trans s4).seq hL⟩,?_⟩
  refine B0 (xs:=as.map V.ref) (λi σ H'=>i9 H2 H'/\H' F=some (.lst (rs.map V.ref))/\u9 H' rs (M0 h (ks.take i) (c/h.c) (l7 h es))/\∃v7,σ=[some (.ref a),some (.ref l),some (.int c),some (.ref e),some (.int (c/h.c)),some (.ref g),some (.ref F),v7])
   ⟨s4,eF,hr4,none,rfl⟩ (λi σ H' _ gg=>(s12.trans gg.1).seq hL) ?_ ?_
  ·rintro i x σ H' hx ⟨s5,eF5,hr5,v7,rfl⟩
   rw[List.getElem?_map] at hx;obtain⟨p,hp,rfl⟩:=Option.map_eq_some_iff.mp hx;obtain⟨k,hk1,hk2⟩:=j9 hC i p hp;have hkI:=hin k (List.mem_of_getElem? hk1);have hkk:=hkI.k;have tk:ks.take (i+1)=ks.take i++[k]:=by rw[take_succ,hk1];rfl
   have s25:=s12.trans s5;have hk5:D5 H' p k:=D5.same (λb xs z=>s25 _ _ z) hk2;refine⟨_,rfl,_,rfl,_,rfl,_,rfl,a,p,g,h,k,c/h.c,l7 h es,rfl,i9.seqT s25 hH,ok,hk5,hkI,SqL.of (s5 _ _ eg),λH6 s6=>?_⟩;refine⟨_,rfl,?_⟩;have hr6:=u9.same s6 hr5;have eF6:=s6 _ _ eF5;refine B1 (λcc=>?_) (λcc=>?_)
   ·obtain⟨ce,e1,e2⟩:=D5.same (λb xs z=>s6 _ _ z) hk5
    obtain⟨n,hnk⟩:∃n:Nat,k.k=(n:Int):=⟨k.k.toNat,by lia⟩
    have hn1:n<h.m.toNat:=by lia
    have lr:=Paired.length hr6;rw[Y0] at lr;have ea:rs[n]? = some (rs[n]'(by lia)):=List.getElem?_eq_getElem _
    generalize rs[n]'(by lia)=ra at ea
    obtain⟨row,w1,w2⟩:=j9 hr6 n ra ea
    have w1':row=K5 h (ks.take i) (c/h.c) (l7 h es) n:=by
     unfold M0 at w1;rw[List.getElem?_map,List.getElem?_range hn1] at w1;exact(Option.some.inj w1).symm
    have hat:atI (rs.map V.ref) k.k=some (.ref ra):=by rw[hnk];exact B3 (by rw[List.getElem?_map,ea];rfl)
    have rlen:row.length<=63:=by
     rw[w1'];have h1:=aV h (ks.take i) (c/h.c) (l7 h es) n;have h2:(ks.take i).length<=ks.length:=by rw[length_take];lia
     lia
    refine⟨_,rfl,_,rfl,p,_,_,_,rfl,rfl,SqT.of e2,rfl,F,_,_,_,rfl,rfl,SqL.of eF6,hat,.inl ⟨rfl,_,SqL.of w2⟩,_,rfl,p,_,_,_,rfl,rfl,SqT.of e2,rfl,ra,row.map V.int,_,rfl,rfl,w2,k8 (by rw[length_map];lia),?_⟩
    have hra:=List.mem_of_getElem? ea;have hFra:F≠ra:=λz=>hFn (by rw[z];exact hra)
    refine⟨i9.put (s5.trans s6) (hn ra hra),by rw[j2 hFra];exact eF6,?_,_,rfl⟩
    have em:(M0 h (ks.take i) (c/h.c) (l7 h es)).set n (row++[k.c])=M0 h (ks.take (i+1)) (c/h.c) (l7 h es):=by
     unfold M0;rw[mR];refine map_congr_left λr hr=>?_;rw[tk,Z6]
     by_cases z:r=n
     ·subst z
      rw[if_pos rfl,if_pos (by rw[decide_eq_true hnk,cc];rfl),w1']
     ·rw[if_neg z,if_neg (by rw[decide_eq_false (λy=>z (by lia))];exact Bool.false_ne_true),append_nil]
    rw[<- em,show row.map V.int++[V.int k.c]=(row++[k.c]).map V.int by rw[map_append];rfl]
    exact u9.set hr6 nd ea
   ·refine⟨s5.trans s6,eF6,?_,_,rfl⟩
    have em:M0 h (ks.take (i+1)) (c/h.c) (l7 h es)=M0 h (ks.take i) (c/h.c) (l7 h es):=by
     unfold M0;refine map_congr_left λr hr=>?_;rw[tk,Z6,if_neg (λz=>cc (Bool.and_eq_true_iff.mp z).2),append_nil]
    rw[em];exact hr6
  ·rintro σ H' ⟨s5,eF5,hr5,v7,rfl⟩
   rw[length_map,la,take_length] at hr5;exact⟨_,rfl,q F rs H' (s12.trans s5) (s12.free hF2) (λr hr=>s12.free (hn r hr)) nd hFn eF5 hr5⟩
def A1 (sh:Int)(k:Nat):Bool:=decide (Builtin.bitAnd (sh/2^k) 1=0)
def x9 (h:l9)(sh:Int):List Nat:=(List.range h.m.toNat).filter (A1 sh)
def A9 (ks:List Nat):List V:=ks.map λ(k:Nat)=>V.int k
def km (h:l9)(sh:Int):(x9 h sh).length<=h.m.toNat:=by
 have:=length_filter_le (A1 sh) (List.range h.m.toNat)
 rw[length_range] at this;exact this
def bb {h:l9}{sh:Int}{k:Nat}(hk:k∈x9 h sh):k<h.m.toNat:=List.mem_range.mp (List.mem_filter.mp hk).1
def gU (K:Frag):Sp:=λvs H Q _=>∃(a:Addr)(h:l9)(sh:Int),vs=[.ref a,.int sh]/\SqT K H a (h.row.map V.int)/\h.Ok/\∀l,H l=none->Q (.ref l) (upd H l (.lst (A9 (x9 h sh))))
def iA:FnScope ["hall","shut"] ["hall","shut"] (i3 (top 19)):=mkF
def tT (T:Txt K mg)(D:Def K mg "left_open" (top 19) p_33):i6 P w K mg base 1 "left_open" p_33 (gU K):=by
 refine D.ok iA (λ_ _ _ _ h=>?_) (λ_ _ _ _ _ H _ Q E hr h=>?_)
 ·obtain⟨a,h,sh,rfl,_⟩:=h
  rfl
 obtain⟨a,h,sh,rfl,hH,ok,q⟩:=h;have b3:=ok.m;refine⟨_,(i0 (j6 (E9 (own:=["k"]) (fr:=[(1,"shut")]) rfl (mkC ["hall","shut"] (i3 (top 19))) (D1 rfl T.za (a8 (j1 (i4 K) (pv 0) c8) c7 m9)) (λcl C s H ex=>⟨(m5 (i:=0) (show(["k","shut"]:List Str).Nodup from by decide +kernel) rfl (Or.inl rfl) (Or.inr rfl)),(aM (k9 C7 (i7 iK (i7 iw (pv 1) (pv 0)) c8) c8 (m3 _))),(pv 0)⟩)))),?_⟩
 refine⟨_,rfl,a,_,_,_,rfl,rfl,hH,rfl,_,rfl,by show -(2^62)<=h.m;lia,by show h.m<2^62;lia,?_⟩
 refine dM (λi acc σ H'=>H'=H/\acc=A9 ((List.range i).filter (A1 sh))/\∃v,σ=[v,some (.int sh)])
  ⟨rfl,rfl,none,rfl⟩ (by show h.m.toNat<=16777216;lia) (λi acc σ H' g=>?_) ?_ ?_
 ·obtain⟨_,rfl,_⟩:=g
  unfold A9;rw[length_map]
  have:=length_filter_le (A1 sh) (List.range i)
  rw[length_range] at this;exact this
 ·rintro i acc σ H' hi ⟨rfl,rfl,v,rfl⟩
  rw[Int.zero_add]
  have step:A9 ((List.range (i+1)).filter (A1 sh))=A9 ((List.range i).filter (A1 sh))++(if A1 sh i=true then [V.int (i:Int)] else []):=by
   unfold A9;rw[range_succ,filter_append,map_append]
   by_cases c:A1 sh i=true
   ·rw[if_pos c]
    simp[c]
   ·rw[if_neg c]
    simp[c]
  refine⟨_,rfl,_,rfl,_,_,rfl,rfl,by lia,_,_,rfl,rfl,rfl,_,rfl,?_⟩
  refine B1 (λc=>?_) (λc=>?_)
  ·have c':A1 sh i=true:=by
    unfold A1
    simpa using c
   refine⟨_,rfl,rfl,?_,_,rfl⟩;rw[step,if_pos c']
  ·have c':¬A1 sh i=true:=by
    unfold A1
    simpa using c
   refine⟨rfl,?_,_,rfl⟩;rw[step,if_neg c',append_nil]
 ·rintro acc σ H' ⟨rfl,rfl,v,rfl⟩ l hl
  exact q l hl
structure bp (K:Frag)(H:Hp)(a l e:Addr)(h:l9)(as:List Addr)(ks:List Call)(es:List Int):Prop where
 a:SqT K H a (h.row.map V.int)
 ok:h.Ok
 l:SqL K H l (as.map V.ref)
 c:j8 H as ks
 hin:∀k∈ks,k.In h
 few:ks.length<=63
 e:SqT K H e (es.map V.int)\/SqL K H e (es.map V.int)
 len:es.length<64
theorem bp.same {K:Frag}{H H':Hp}{a l e:Addr}{h:l9}{as:List Addr}{ks:List Call}{es:List Int}(s:i9 H H')(k:bp K H a l e h as ks es):bp K H' a l e h as ks es :=
 ⟨i9.seqT s k.a,k.ok,s.seq k.l,j8.same (λb xs z=>s _ _ z) k.c,k.hin,k.few,k.e.imp (λz=>i9.seqT s z) (λz=>s.seq z),k.len⟩
def O7 (h:l9)(ks:List Call)(c:Int)(es:List Int)(k:Nat):Bool:=decide (K5 h ks (c/h.c) (l7 h es) k=[])
def N4 (h:l9)(ks:List Call)(c:Int)(es:List Int)(sh:Int):List Nat:=(x9 h sh).filter (O7 h ks c es)
def rN (K:Frag):Sp:=λvs H Q _=>∃(a l e:Addr)(h:l9)(as:List Addr)(ks:List Call)(c:Int)(es:List Int)(sh:Int),vs=[.ref a,.ref l,.int c,.ref e,.int sh]/\bp K H a l e h as ks es /\
 ∀(f:Addr)(H':Hp),i9 H H'->H f=none->H' f=some (.lst (A9 (N4 h ks c es sh)))->Q (.ref f) H'
def oM:FnScope ["hall","calls","caller","ends","shut","held"] ["hall","calls","caller","ends","shut"] (i3 (top 30)):=mkF
def uW (T:Txt K mg)(zw:i6 P w K mg base 4 "holders" p_14 (Z3 K))(zi:i6 P w K mg base 1 "left_open" p_33 (gU K))(D:cA K mg "ways" (top 30) p_1 [.int 0]):U8 P w K mg base 5 "ways" p_1 [.int 0] (rN K):=by
 refine D.ok oM (λ_ _ _ _ h=>?_) (λ_ _ _ _ _ H _ Q E hr h=>?_)
 ·obtain⟨a,l,e,h,as,ks,c,es,sh,rfl,_⟩:=h
  rfl
 obtain⟨a,l,e,h,as,ks,c,es,sh,rfl,ask,q⟩:=h;have b3:=ask.ok.m
 refine⟨_,(d9 (j3 (i:=5) oM.nd rfl (Or.inr rfl) (m6 zw hr rfl (a8 (pv 0) (a8 (pv 1) (a8 (pv 2) (a8 (pv 3) c7 a9) a9) a9) a9)))
  (i0 (j6 (E9 (own:=["k"]) (fr:=[(5,"held")]) rfl (mkC ["hall","calls","caller","ends","shut","held"] (i3 (top 30))) (o6 K (m6 zi hr rfl (a8 (pv 0) (a8 (pv 4) c7 a9) a9))) (λcl C s H ex=>⟨(m5 (i:=0) (show(["k","held"]:List Str).Nodup from by decide +kernel) rfl (Or.inl rfl) (Or.inr rfl)),(aM (k9 (tU K (B5.units0 hr)) (j1 (q9 K) (pv 1) (pv 0)) (n6 c7) (m3 _))),(pv 0)⟩))))),?_⟩
 refine⟨_,rfl,_,rfl,_,rfl,_,rfl,a,l,e,h,as,ks,c,es,rfl,ask.a,ask.ok,ask.l,ask.c,ask.hin,ask.few,ask.e,ask.len,λF rs H1 s1 hF hrs nd hFn eF hrows=>?_⟩;refine⟨_,rfl,_,rfl,a,h,sh,rfl,i9.seqT s1 ask.a,ask.ok,λlo hlo=>?_⟩;have elo:=@c6 H1 lo (.lst (A9 (x9 h sh)));have s2:=c9 hlo (.lst (A9 (x9 h sh)));generalize upd H1 lo _=H2 at elo s2 ⊢;have ol:=km h sh;refine⟨lo,rfl,⟨_,SqL.of elo⟩,?_⟩
 refine B9 (xs:=A9 (x9 h sh)) (λi acc σ H'=>i9 H2 H'/\acc=A9 (((x9 h sh).take i).filter (O7 h ks c es))/\∃v,σ=[v,some (.ref F)])
  ⟨i9.refl _,rfl,none,rfl⟩ (Nat.le_of_lt (k8 (by unfold A9;rw[length_map];lia))) (λi acc σ H' g=>?_) (λi acc σ H' _ g=>SqL.of (g.1 _ _ elo)) ?_ ?_
 ·obtain⟨_,rfl,_⟩:=g
  unfold A9;rw[length_map];exact Nat.le_trans (length_filter_le _ _) (by rw[length_take];lia)
 ·rintro i y acc σ H' hy ⟨s3,rfl,v,rfl⟩
  unfold A9 at hy;rw[List.getElem?_map] at hy;obtain⟨k,hk,rfl⟩:=Option.map_eq_some_iff.mp hy;have hkm:=bb (List.mem_of_getElem? hk)
  have step:A9 (((x9 h sh).take (i+1)).filter (O7 h ks c es))=A9 (((x9 h sh).take i).filter (O7 h ks c es))++(if O7 h ks c es k=true then [V.int (k:Int)] else []):=by
   unfold A9;rw[take_succ,hk,filter_append,map_append]
   by_cases cc:O7 h ks c es k=true
   ·rw[if_pos cc]
    simp[cc]
   ·rw[if_neg cc]
    simp[cc]
  have s13:=s2.trans s3;have hr3:=u9.same s13 hrows;have lr:=Paired.length hr3;unfold E7 at lr;rw[Y0] at lr;have ea:rs[k]? = some (rs[k]'(by lia)):=List.getElem?_eq_getElem _
  generalize rs[k]'(by lia)=ra at ea
  obtain⟨row,w1,w2⟩:=j9 hr3 k ra ea
  have w1':row=K5 h ks (c/h.c) (l7 h es) k:=by
   unfold E7 M0 at w1;rw[List.getElem?_map,List.getElem?_range hkm] at w1;exact(Option.some.inj w1).symm
  have hat:atI (rs.map V.ref) (k:Int)=some (.ref ra):=B3 (by rw[List.getElem?_map,ea];rfl)
  refine⟨_,rfl,_,rfl,F,_,_,_,rfl,rfl,SqL.of (s13 _ _ eF),hat,z_0,λo ho=>?_⟩
  have s4:=c9 ho (.lst []);refine⟨ra,o,row,[],rfl,rfl,SqL.of (s4 _ _ w2),SqL.of c6,_,rfl,?_⟩;refine B1 (λcc=>?_) (λcc=>?_)
  ·refine⟨_,rfl,s3.trans s4,?_,_,rfl⟩
   have c':O7 h ks c es k=true:=by
    unfold O7;rw[<- w1'];exact cc
   rw[step,if_pos c']
  ·refine⟨s3.trans s4,?_,_,rfl⟩
   have c':¬O7 h ks c es k=true:=by
    unfold O7;rw[<- w1'];exact cc
   rw[step,if_neg c',append_nil]
 ·rintro acc σ H' ⟨s3,rfl,v,rfl⟩ l2 hl2
  have ln:(A9 (x9 h sh)).length=(x9 h sh).length:=by unfold A9;rw[length_map]
  rw[ln,take_length];have s13:=s1.trans (s2.trans s3);exact q l2 _ (s13.trans (c9 hl2 _)) (s13.free hl2) c6
def kE {h:l9}{k:Call}{c:Int}{es:List Int}:(B6 h k.c k.es k.k).filter (λd=>inD (B6 h c es k.k) d)≠[]↔Q6 h (c/h.c) (l7 h es) k=true:=by
 unfold Q6;rw[Bool.or_eq_true,decide_eq_true_iff,any_eq_true]
 constructor
 ·intro z
  obtain⟨d,hd⟩:=List.exists_mem_of_ne_nil _ z;obtain⟨h1,h2⟩:=List.mem_filter.mp hd;rw[cL] at h2
  rcases L8.mp h1 with rfl|⟨e,he,rfl⟩
  ·rcases L8.mp h2 with q|⟨e',he',q⟩
   ·left
    unfold nIn at q
    simp only[List.cons.injEq,Sum.inl.injEq] at q
    exact q.2.1
   ·unfold nIn R8 at q
    simp at q
    exact absurd q.1 (by decide)
  ·rcases L8.mp h2 with q|⟨e',he',q⟩
   ·unfold nIn R8 at q
    simp at q
    exact absurd q.1 (by decide)
   ·right
    unfold R8 at q
    simp only[List.cons.injEq,Sum.inl.injEq] at q
    exact⟨e/h.e,F1.mpr ⟨e,he,rfl⟩,decide_eq_true (F1.mpr ⟨e',he',q.2.1.symm⟩)⟩
 ·intro z
  have:∃d,d∈B6 h k.c k.es k.k/\d∈B6 h c es k.k:=by
   rcases z with z|⟨r,h1,h2⟩
   ·exact⟨nIn (k.c/h.c) k.k,L8.mpr (.inl rfl),L8.mpr (.inl (by rw[z]))⟩
   ·obtain⟨e,he,q1⟩:=F1.mp h1
    obtain⟨e',he',q2⟩:=F1.mp (of_decide_eq_true h2);exact⟨R8 r k.k,L8.mpr (.inr ⟨e,he,by rw[q1]⟩),L8.mpr (.inr ⟨e',he',by rw[q2]⟩)⟩
  obtain⟨d,h1,h2⟩:=this;exact List.ne_nil_of_mem (List.mem_filter.mpr ⟨h1,cL.mpr h2⟩)
theorem eG {H:Hp}{F:Addr}{rs:List Addr}{rows:List (List Int)}(h:u9 H rs rows)(e:H F=some (.lst (rs.map V.ref)))(hm:F∈rs):False:=by
 obtain⟨m,hm'⟩:=List.mem_iff_getElem?.mp hm;obtain⟨row,_,e2⟩:=j9 h m F hm';have e2:H F=some (.lst (row.map V.int)):=e2;rw[e] at e2
 have e3:rs.map V.ref=row.map V.int:=by
  have:=Option.some.inj e2
  exact HO.lst.inj this
 match rs,row,e3,hm with
 | x::_,[],e3,_=>simp at e3
 | x::_,y::_,e3,_=>simp at e3
def jk (K:Frag):Sp:=λvs H Q _=>∃(a l e:Addr)(h:l9)(as:List Addr)(ks:List Call)(c:Int)(es:List Int),vs=[.ref a,.ref l,.int c,.ref e]/\SqT K H a (h.row.map V.int)/\h.Ok/\SqL K H l (as.map V.ref)/\j8 H as ks/\(∀k∈ks,k.In h)/\ks.length<=63/\(SqT K H e (es.map V.int)\/SqL K H e (es.map V.int))/\es.length<=13 /\
 ∀(f:Addr)(rs:List Addr)(H':Hp),i9 H H'->H' f=some (.lst (rs.map V.ref))->u9 H' rs (E7 h ks c es)->Q (.ref f) H'
def D6:FnScope ["_law_hall_here","_law_calls_here","_law_caller_here","_law_ends_here","_law_due_here","_law_k","_law_need","_law_held","_law_call","_law_lines_here"] ["_law_hall_here","_law_calls_here","_law_caller_here","_law_ends_here"] (i3 (top 65)):=mkF
def oY (T:Txt K mg)(zn:i6 P w K mg base 1 "_law_lines" p_6 (iW K))(D:Def K mg "_law_holds" (top 65) p_7):i6 P w K mg base 2 "_law_holds" p_7 (jk K):=by
 refine D.ok D6 (λ_ _ _ _ h=>?_) (λ_ _ _ _ _ H _ Q E hr h=>?_)
 ·obtain⟨a,l,e,h,as,ks,c,es,rfl,_⟩:=h
  rfl
 obtain⟨a,l,e,h,as,ks,c,es,rfl,hH,ok,hL,hC,hin,h63,hE,few,q⟩:=h;have b3:=ok.m;have la:=Paired.length hC
 refine⟨_,(d9 (j3 (i:=4) D6.nd rfl (Or.inl rfl) (n6 c7))
  (d9 (A2 PassesOwn.never rfl (D1 rfl T.za (a8 (j1 (i4 K) (pv 0) c8) c7 m9)) (m5 (i:=5) D6.nd rfl (Or.inl rfl))
  (d9 (j3 (i:=6) D6.nd rfl (Or.inr rfl) (m6 zn hr rfl (a8 (pv 0) (a8 (pv 2) (a8 (pv 3) (a8 (pv 5) c7 a9) a9) a9) a9)))
  (d9 (j3 (i:=7) D6.nd rfl (Or.inl rfl) (n6 c7))
  (d9 (A2 PassesOwn.never rfl (o6 K (pv 1)) (m5 (i:=8) D6.nd rfl (Or.inl rfl))
  (d9 (j3 (i:=9) D6.nd rfl (Or.inl rfl) (m6 zn hr rfl (a8 (pv 0) (a8 (j1 (i4 K) (pv 8) c8) (a8 (j1 (i4 K) (pv 8) c8) (a8 (j1 (i4 K) (pv 8) c8) c7 m9) m9) m9) a9)))
  (i0 (m8 (PW.pt (dD (k9 C7 (j1 (i4 K) (pv 8) c8) (pv 5) (m3 _)) (aN (k9 (uv K (mf mv) (B5.units2 hr)) (E9 (own:=["_law_line"]) (fr:=[(6,"_law_need")]) rfl (mkC ["_law_hall_here","_law_calls_here","_law_caller_here","_law_ends_here","_law_due_here","_law_k","_law_need","_law_held","_law_call","_law_lines_here"] (i3 (top 65))) (o6 K (pv 9)) (λcl C s H ex=>⟨(m5 (i:=0) (show(["_law_line","_law_need"]:List Str).Nodup from by decide +kernel) rfl (Or.inl rfl) (Or.inr rfl)),(aM (k9 (tY K (B5.unitsT hr)) (pv 0) (pv 1) (by with_unfolding_all rfl))),(pv 0)⟩)) (n6 c7) (m3 _))))) (i0 (C5 (K4 K PySem.F.plainAttrs_list PySem.F.slot_list_append PySem.F.type_list_append B7 (pv 7) (a8 (j1 (i4 K) (pv 8) c8) c7 m9)))) j7))))
  (i0 (C5 (K4 K PySem.F.plainAttrs_list PySem.F.slot_list_append PySem.F.type_list_append B7 (pv 4) (a8 (pv 7) c7 a9))))))))
  (i0 (j6 (pv 4))))),?_⟩
 refine⟨z_0,λF hF=>?_⟩
 have eF:=@c6 H F (.lst []);have s1:=c9 hF (.lst []);generalize upd H F _=H1 at eF s1 ⊢;refine⟨_,rfl,a,_,_,_,rfl,rfl,i9.seqT s1 hH,rfl,_,rfl,by show -(2^62)<=h.m;lia,by show h.m<2^62;lia,?_⟩
 refine E5 (λi σ H'=>i9 H H'/\(∃rs:List Addr,H' F=some (.lst (rs.map V.ref))/\u9 H' rs ((List.range i).map (K5 h ks (c/h.c) (l7 h es))))/\∃v5 v6 v7 v8 v9,σ=[some (.ref a),some (.ref l),some (.int c),some (.ref e),some (.ref F),v5,v6,v7,v8,v9])
  ⟨s1,⟨[],eF,.nil⟩,none,none,none,none,none,rfl⟩ ?_ ?_
 ·rintro i σ H' hi ⟨s2,⟨rs,eF2,hr2⟩,v5,v6,v7,v8,v9,rfl⟩
  rw[Int.zero_add];refine⟨_,rfl,_,rfl,_,rfl,_,rfl,a,e,h,c,(i:Int),es,rfl,i9.seqT s2 hH,ok,(hE.imp (λz=>i9.seqT s2 z) λz=>s2.seq z),few,λnl nas H3 s3 hnl enl tnl=>?_⟩;refine⟨z_0,λhd hhd=>?_⟩
  have ehd:=@c6 H3 hd (.lst []);have s4:=c9 hhd (.lst []);generalize upd H3 hd _=H4 at ehd s4 ⊢;have s24:=(s2.trans s3).trans s4;have lr:=Paired.length hr2;rw[length_map,length_range] at lr;refine⟨_,rfl,l,rfl,⟨_,s24.seq hL⟩,?_⟩
  refine B0 (xs:=as.map V.ref) (λj σ H'=>i9 H3 H'/\H' hd=some (.lst ((K5 h (ks.take j) (c/h.c) (l7 h es) i).map V.int))/\∃v8 v9,σ=[some (.ref a),some (.ref l),some (.int c),some (.ref e),some (.ref F),some (.int i),some (.ref nl),some (.ref hd),v8,v9])
   ⟨s4,ehd,_,_,rfl⟩ (λj σ H' _ gg=>((s2.trans s3).trans gg.1).seq hL) ?_ ?_
  ·rintro j x σ H' hx ⟨s5,ehd5,v8,v9,rfl⟩
   rw[List.getElem?_map] at hx;obtain⟨p,hp,rfl⟩:=Option.map_eq_some_iff.mp hx;obtain⟨k,hk1,hk2⟩:=j9 hC j p hp;have hkI:=hin k (List.mem_of_getElem? hk1);have tk:ks.take (j+1)=ks.take j++[k]:=by rw[take_succ,hk1];rfl
   have s25:=(s2.trans s3).trans s5;obtain⟨ce,e1,e2⟩:=D5.same (λb xs z=>s25 _ _ z) hk2;have kf:=hkI.few;refine⟨_,rfl,_,rfl,p,_,_,_,rfl,rfl,SqT.of e2,rfl,_,rfl,p,_,_,_,rfl,rfl,SqT.of e2,rfl,_,rfl,p,_,_,_,rfl,rfl,SqT.of e2,rfl,a,ce,h,k.c,k.k,k.es,rfl,i9.seqT s25 hH,ok,.inl (SqT.of e1),Nat.le_succ_of_le kf,λll las H6 s6 hll ell tll=>?_⟩;have e26:=s6 _ _ e2;refine⟨_,rfl,p,_,_,_,rfl,rfl,SqT.of e26,rfl,_,rfl,rfl,_,rfl,?_⟩;have ehd6:=s6 _ _ ehd5;have s36:=s5.trans s6;have lnl:=Paired.length tll;have ll2:=bO h k.c k.es k.k;have tn6:=F2.same (λb xs z=>s36 _ _ z) tnl
   have skip:(decide (k.k=(i:Int))&&Q6 h (c/h.c) (l7 h es) k)=false->K5 h (ks.take (j+1)) (c/h.c) (l7 h es) i=K5 h (ks.take j) (c/h.c) (l7 h es) i:=λz=>by
    rw[tk,Z6,if_neg (by rw[z];exact Bool.false_ne_true),append_nil]
   refine B1 (λcc=>?_) (λcc=>?_)
   ·have cc':k.k=(i:Int):=by simpa using cc
    rw[<- cc'] at tn6;refine⟨_,rfl,ll,rfl,⟨_,SqL.of ell⟩,?_⟩
    refine B9 (xs:=las.map V.ref) (λm acc σ H''=>H''=H6/\(∃bs,acc=bs.map V.ref/\F2 H6 bs (((B6 h k.c k.es k.k).take m).filter λd=>inD (B6 h c es k.k) d))/\∃v,σ=[v,some (.ref nl)])
     ⟨rfl,⟨[],rfl,.nil⟩,none,rfl⟩ (Nat.le_of_lt (k8 (by rw[length_map];lia))) (λm acc σ H'' g=>?_) (λm acc σ H'' _ g=>by rw[g.1];exact SqL.of ell) ?_ ?_
    ·obtain⟨_,⟨bs,rfl,hb⟩,_⟩:=g
     have:=Paired.length hb
     rw[length_map,this];exact Nat.le_trans (length_filter_le _ _) (by rw[length_take];lia)
    ·rintro m y acc σ H'' hy ⟨rfl,⟨bs,rfl,hb⟩,v,rfl⟩
     rw[List.getElem?_map] at hy;obtain⟨x,hx,rfl⟩:=Option.map_eq_some_iff.mp hy;obtain⟨d,hd1,hd2⟩:=j9 tll m x hx
     have step:((B6 h k.c k.es k.k).take (m+1)).filter (λd=>inD (B6 h c es k.k) d)=((B6 h k.c k.es k.k).take m).filter (λd=>inD (B6 h c es k.k) d)++(if inD (B6 h c es k.k) d=true then [d] else []):=by
      rw[take_succ,hd1,filter_append]
      by_cases c:inD (B6 h c es k.k) d=true
      ·rw[if_pos c]
       simp[c]
      ·rw[if_neg c]
       simp[c]
     refine⟨_,rfl,_,rfl,nl,x,nas,d,B6 h c es k.k,rfl,rfl,SqL.of (s36 _ _ enl),SqT.of hd2,A4 tn6 (λ_ _ _ z=>SqT.of z),_,rfl,?_⟩;refine B1 (λcd=>?_) (λcd=>?_)
     ·refine⟨_,rfl,rfl,⟨bs++[_],by rw[map_append];rfl,?_⟩,_,rfl⟩
      rw[step,if_pos (show inD (B6 h c es k.k) d=true from cd)];exact Paired.snoc hb hd2
     ·refine⟨rfl,⟨bs,rfl,?_⟩,_,rfl⟩
      rw[step,if_neg (show ¬inD (B6 h c es k.k) d=true from cd),append_nil];exact hb
    rintro acc σ H'' ⟨rfl,⟨bs,rfl,hb⟩,v,rfl⟩ l5 hl5
    rw[length_map,lnl,take_length] at hb;have el5:=@c6 H'' l5 (.lst (bs.map V.ref));have s10:=c9 hl5 (.lst (bs.map V.ref));generalize upd H'' l5 _=H10 at el5 s10 ⊢;refine⟨z_0,λo ho=>?_⟩
    have eo:=@c6 H10 o (.lst []);have s11:=c9 ho (.lst []);generalize upd H10 o _=H11 at eo s11 ⊢;have sA:=s10.trans s11;have ehdA:=sA _ _ ehd6;have e2A:=sA _ _ e26;refine⟨_,[],⟨l5,_,rfl,SqL.of (s11 _ _ el5),T6 (F2.same (λb xs q=>sA _ _ q) hb)⟩,⟨o,[],rfl,SqL.of eo,.nil⟩,_,rfl,?_⟩;refine B1 (λc2=>?_) (λc2=>?_)
    ·have c3:(B6 h k.c k.es k.k).filter (λd=>inD (B6 h c es k.k) d)≠[]:=by simpa using c2
     have c4:=kE.mp c3;have hlen:=aV h (ks.take j) (c/h.c) (l7 h es) i;have hl2:(ks.take j).length<=ks.length:=by rw[length_take];lia
     refine⟨_,rfl,.inl ⟨rfl,_,SqL.of ehdA⟩,_,rfl,p,_,_,_,rfl,rfl,SqT.of e2A,rfl,hd,_,_,rfl,rfl,ehdA,k8 (by rw[length_map];lia),?_⟩
     refine⟨i9.put (s36.trans sA) hhd,?_,_,_,rfl⟩;rw[c6,tk,Z6,if_pos (by rw[decide_eq_true cc',c4];rfl),map_append]
     rfl
    ·have c3:(B6 h k.c k.es k.k).filter (λd=>inD (B6 h c es k.k) d)=[]:=by simpa using c2
     have c4:Q6 h (c/h.c) (l7 h es) k=false:=Bool.eq_false_iff.mpr λz=>kE.mpr z c3;refine⟨s36.trans sA,?_,_,_,rfl⟩;rw[skip (by rw[c4,Bool.and_false])]
     exact ehdA
   ·have cc':¬k.k=(i:Int):=by simpa using cc
    refine⟨s36,?_,_,_,rfl⟩;rw[skip (by rw[decide_eq_false cc'];rfl)]
    exact ehd6
  ·rintro σ H' ⟨s5,ehd5,v8,v9,rfl⟩
   rw[length_map,la,take_length] at ehd5;have s25:=(s2.trans s3).trans s5;have eF5:=s5 _ _ (s3 _ _ eF2);refine⟨_,rfl,.inl ⟨rfl,_,SqL.of eF5⟩,_,rfl,F,_,_,rfl,rfl,eF5,k8 (by rw[length_map,lr];lia),?_⟩
   have hFd:hd≠F:=λz=>by rw[z] at hhd;rw[s3 _ _ eF2] at hhd;cases hhd
   refine⟨i9.put s25 hF,⟨rs++[hd],by rw[c6,map_append];rfl,?_⟩,_,_,_,_,_,rfl⟩
   rw[range_succ,map_append];refine Paired.snoc (u9.other (u9.same (s3.trans s5) hr2) λz=>?_) ?_
   ·exact eG (u9.same (s3.trans s5) hr2) eF5 z
   ·show upd H' F _ hd=_
    rw[j2 hFd];exact ehd5
 ·rintro σ H' ⟨s2,⟨rs,eF2,hr2⟩,v5,v6,v7,v8,v9,rfl⟩
  exact⟨_,rfl,q F rs H' s2 eF2 hr2⟩
def ae (h:l9)(ks:List Call)(c:Int)(es:List Int)(k:Nat):Nat:=(K5 h ks (c/h.c) (l7 h es) k).length
def bB (h:l9)(ks:List Call)(c:Int)(es:List Int)(sh:Int)(k:Nat):Prop:=k∈x9 h sh/\∀k'∈x9 h sh,ae h ks c es k<=ae h ks c es k'/\(k'<k->ae h ks c es k<ae h ks c es k')
theorem bB.uniq {h:l9}{ks:List Call}{c:Int}{es:List Int}{sh:Int}{k k':Nat}(a:bB h ks c es sh k)(b:bB h ks c es sh k'):k=k':=by
 rcases Nat.lt_trichotomy k k' with z|z|z
 ·have h1:=(b.2 k a.1).2 z
  have h2:=(a.2 k' b.1).1;lia
 ·exact z
 ·have h1:=(a.2 k' b.1).2 z
  have h2:=(b.2 k a.1).1;lia
def qy (h:l9)(sh:Int):(x9 h sh).Pairwise (· < ·):=List.Pairwise.filter _ List.pairwise_lt_range
def nE (K:Frag):Sp:=λvs H Q _=>∃(a l e:Addr)(h:l9)(as:List Addr)(ks:List Call)(c:Int)(es:List Int)(sh:Int),vs=[.ref a,.ref l,.int c,.ref e,.int sh]/\bp K H a l e h as ks es /\
 (∀H',i9 H H'->x9 h sh=[]->Q .non H')/\∀(r:Addr)(k:Nat)(H':Hp),i9 H H'->bB h ks c es sh k->H' r=some (.lst ((K5 h ks (c/h.c) (l7 h es) k).map V.int))->Q (.ref r) H'
def X7:FnScope ["hall","calls","caller","ends","shut","held"] ["hall","calls","caller","ends","shut"] (i3 (top 31)):=mkF
def rF (T:Txt K mg)(zw:i6 P w K mg base 4 "holders" p_14 (Z3 K))(zi:i6 P w K mg base 1 "left_open" p_33 (gU K))(D:cA K mg "least_ended" (top 31) p_1 [.int 0]):U8 P w K mg base 5 "least_ended" p_1 [.int 0] (nE K):=by
 refine D.ok X7 (λ_ _ _ _ h=>?_) (λ_ _ _ _ _ H _ Q E hr h=>?_)
 ·obtain⟨a,l,e,h,as,ks,c,es,sh,rfl,_⟩:=h
  rfl
 obtain⟨a,l,e,h,as,ks,c,es,sh,rfl,ask,qN,q⟩:=h;have b3:=ask.ok.m
 refine⟨_,(d9 (j3 (i:=5) X7.nd rfl (Or.inr rfl) (m6 zw hr rfl (a8 (pv 0) (a8 (pv 1) (a8 (pv 2) (a8 (pv 3) c7 a9) a9) a9) a9)))
  (i0 (j6 (qO K rfl rfl T.Dr rfl T.yT (a8 (E9 (own:=["k"]) (fr:=[(5,"held")]) rfl (mkC ["hall","calls","caller","ends","shut","held"] (i3 (top 31))) (o6 K (m6 zi hr rfl (a8 (pv 0) (a8 (pv 4) c7 a9) a9))) (λcl C s H ex=>⟨(m5 (i:=0) (show(["k","held"]:List Str).Nodup from by decide +kernel) rfl (Or.inl rfl) (Or.inr rfl)),F4,(j1 (q9 K) (pv 1) (pv 0))⟩)) c7 R4))))),?_⟩
 refine⟨_,rfl,_,rfl,_,rfl,_,rfl,a,l,e,h,as,ks,c,es,rfl,ask.a,ask.ok,ask.l,ask.c,ask.hin,ask.few,ask.e,ask.len,λF rs H1 s1 hF hrs nd hFn eF hrows=>?_⟩;refine⟨_,rfl,_,rfl,a,h,sh,rfl,i9.seqT s1 ask.a,ask.ok,λlo hlo=>?_⟩;have elo:=@c6 H1 lo (.lst (A9 (x9 h sh)));have s2:=c9 hlo (.lst (A9 (x9 h sh)));generalize upd H1 lo _=H2 at elo s2 ⊢;have ol:=km h sh;have lno:(A9 (x9 h sh)).length=(x9 h sh).length:=by unfold A9;rw[length_map]
 have rowAt:∀k,k∈x9 h sh->∃ra,rs[k]? = some ra/\H2 ra=some (.lst ((K5 h ks (c/h.c) (l7 h es) k).map V.int)):=λk hk=>by
  have hkm:=bb hk;have hr3:=u9.same s2 hrows;have lr:=Paired.length hr3;unfold E7 at lr;rw[Y0] at lr;have ea:rs[k]? = some (rs[k]'(by lia)):=List.getElem?_eq_getElem _
  obtain⟨row,w1,w2⟩:=j9 hr3 k _ ea
  have w1':row=K5 h ks (c/h.c) (l7 h es) k:=by
   unfold E7 M0 at w1;rw[List.getElem?_map,List.getElem?_range hkm] at w1;exact(Option.some.inj w1).symm
  rw[w1'] at w2;exact⟨_,ea,w2⟩
 refine⟨lo,rfl,⟨_,SqL.of elo⟩,?_⟩
 refine B9 (xs:=A9 (x9 h sh)) (λi acc σ H'=>H'=H2/\(∃bs:List Addr,acc=bs.map V.ref/\Paired (λb k=>H2 b=some (.lst ((K5 h ks (c/h.c) (l7 h es) k).map V.int))) bs ((x9 h sh).take i))/\∃v,σ=[v,some (.ref F)])
  ⟨rfl,⟨[],rfl,.nil⟩,none,rfl⟩ (Nat.le_of_lt (k8 (by lia))) (λi acc σ H' g=>?_) (λi acc σ H' _ g=>by rw[g.1];exact SqL.of elo) ?_ ?_
 ·obtain⟨_,⟨bs,rfl,hb⟩,_⟩:=g
  have:=Paired.length hb
  rw[length_map,this,length_take];lia
 ·rintro i y acc σ H' hy ⟨rfl,⟨bs,rfl,hb⟩,v,rfl⟩
  unfold A9 at hy;rw[List.getElem?_map] at hy;obtain⟨k,hk,rfl⟩:=Option.map_eq_some_iff.mp hy;obtain⟨ra,e1,e2⟩:=rowAt k (List.mem_of_getElem? hk);have hat:atI (rs.map V.ref) (k:Int)=some (.ref ra):=B3 (by rw[List.getElem?_map,e1];rfl)
  refine⟨_,rfl,_,rfl,F,_,_,_,rfl,rfl,SqL.of (s2 _ _ eF),hat,rfl,⟨bs++[ra],by rw[map_append];rfl,?_⟩,_,rfl⟩
  rw[take_succ,hk];exact Paired.snoc hb e2
 ·rintro acc σ H' ⟨rfl,⟨bs,rfl,hb⟩,v,rfl⟩ lm hlm
  rw[lno,take_length] at hb;have elm:=@c6 H' lm (.lst (bs.map V.ref));have s3:=c9 hlm (.lst (bs.map V.ref));generalize upd H' lm _=H3 at elm s3 ⊢;have s13:=s1.trans (s2.trans s3);have lb:=Paired.length hb
  have rowsL:∀{bs:List Addr}{os:List Nat},Paired (λb k=>H' b=some (.lst ((K5 h ks (c/h.c) (l7 h es) k).map V.int))) bs os->vv K H3 bs (os.map λk=>(K5 h ks (c/h.c) (l7 h es) k).map V.int):=by
   intro bs os hp
   induction hp with
   | nil=>exact .nil
   | cons h1 _ ih=>exact .cons (SqL.of (s3 _ _ h1)) ih
  have lenAt:∀j k,(x9 h sh)[j]? = some k->V8 ((x9 h sh).map λk=>(K5 h ks (c/h.c) (l7 h es) k).map V.int) j=((ae h ks c es k:Nat):Int):=λj k hj=>by
   unfold V8 ae;rw[List.getD,List.getElem?_map,hj]
   simp
  refine⟨lm,bs,_,rfl,SqL.of elm,rowsL hb,λz=>qN H3 s13 ?_,λi r hi hbest=>?_⟩
  ·rw[z] at lb
   exact List.length_eq_zero_iff.mp lb.symm
  ·obtain⟨k,k1,k2⟩:=j9 hb i r hi
   refine q r k H3 s13 ⟨List.mem_of_getElem? k1,λk' hk'=>?_⟩ (s3 _ _ k2);obtain⟨j,hj⟩:=List.mem_iff_getElem?.mp hk';have hjl:=(List.getElem?_eq_some_iff.mp hj).1
   have:=hbest j (by lia)
   rw[lenAt i k k1,lenAt j k' hj] at this;refine⟨by lia,λz=>?_⟩
   have hji:j<i:=by
    rcases Nat.lt_trichotomy j i with y|y|y
    ·exact y
    ·subst y
     rw[k1] at hj
     cases hj
     lia
    ·obtain⟨q1,z1⟩:=List.getElem?_eq_some_iff.mp k1
     obtain⟨q2,z2⟩:=List.getElem?_eq_some_iff.mp hj
     have:=(List.pairwise_iff_getElem.mp (qy h sh)) i j q1 q2 y
     lia
   have:=this.2 hji
   lia
theorem D3 {α β:Type}{R R':α->β->Prop}:∀{as:List α}{bs:List β},Paired R as bs->(∀a b,a∈as->R a b->R' a b)->Paired R' as bs
 | _,_,.nil,_=>.nil
 | _,_,.cons h t,k=>.cons (k _ _ (mem_cons_self ..) h) (D3 t λa b ha=>k a b (mem_cons_of_mem _ ha))
def gL (C:Addr):Sp:=λvs H Q _=>∃(e:Addr)(v:V),vs=[.ref e,v]/\H e=some (M5 e C none)/\∀(dx:Addr)(H':Hp),H dx=none->dx≠e->(∀b,b≠e->b≠dx->H' b=H b)->H' e=some (M5 e C (some dx))->H' dx=some (XdO dx [("who",v)])->Q .non H'
structure fP (H:Hp)(dx:Addr)(rows:List (List Int))(lst:Option (List Int))(nh:Addr)(nas:List Addr)(lv:V):Prop where
 d:H dx=some (XdO dx [("least",lv),("holds",.ref nh)])
 h:H nh=some (.lst (nas.map V.ref))
 rows:u9 H nas rows
 nd:nas.Nodup
 l:match lst with
  | none=>lv=.non
  | some ms=>∃m,lv=.ref m/\¬m∈nas/\m≠nh/\H m=some (.lst (ms.map V.int))
def X1 (H:Hp)(nas:List Addr)(nlv:V):Prop:=(∀a∈nas,H a=none)/\∀m,nlv=.ref m->H m=none
theorem X1.back {H H':Hp}{nas:List Addr}{nlv:V}(s:i9 H H')(f:X1 H' nas nlv):X1 H nas nlv:=⟨λa ha=>s.free (f.1 a ha),λm e=>s.free (f.2 m e)⟩
def lG (K:Frag)(C:Addr):Sp:=λvs H Q _=>∃(e f:Addr)(rs:List Addr)(rows:List (List Int))(lv:V)(lst:Option (List Int)),vs=[.ref e,.ref f,lv]/\H e=some (M5 e C none)/\SqL K H f (rs.map V.ref)/\u9 H rs rows/\rows.length<=64/\(match lst with | none=>lv=.non | some ms=>∃m,lv=.ref m/\H m=some (.lst (ms.map V.int))) /\
 ∀(dx nh:Addr)(nas:List Addr)(nlv:V)(H':Hp),(∀b u,b≠e->H b=some u->H' b=some u)->H' e=some (M5 e C (some dx))->H dx=none->dx≠e->fP H' dx rows lst nh nas nlv->X1 H nas nlv->nh≠e->(∀a∈nas,a≠e)->(∀m,nlv=.ref m->m≠e)->Q .non H'
def bw:FnScope ["self","who"] ["self","who"] (i3 (J8 (top 7) 0)):=mkF
def tF (T:Txt K mg)(Z:bo K mg yD yG yF yC yH yK yE my yI)(D:pR K yE "__init__" "Busy.__init__" (J8 (top 7) 0) p_43 [] noKw):Z0 P w K mg base 1 yE "__init__" p_43 [] noKw (gL yE):=by
 refine D.ok bw (λ_ _ _ _ h=>?_) (λ_ _ _ _ _ H _ Q E hr h=>?_)
 ·obtain⟨e,v,rfl,_⟩:=h
  rfl
 obtain⟨e,v,rfl,he,q⟩:=h;refine⟨_,(i0 (vE K (pv 0) (pv 1) rfl)),?_⟩;refine⟨_,rfl,_,rfl,e,yE,rfl,he,Z.DR,Z.CW.mo,Z.Bo,λdx hdx=>?_⟩;have ne:dx≠e:=λz=>by rw[z,he] at hdx;cases hdx
 exact q dx _ hdx ne (λb n1 n2=>by rw[j2 n2,j2 n1]) (by rw[j2 (Ne.symm ne),c6]) c6
def ad:FnScope ["self","holds","least"] ["self","holds","least"] (i3 (J8 (top 8) 0)):=mkF
def uI (T:Txt K mg)(Z:bo K mg yD yG yF yC yH yK yE my yI)(D:pR K my "__init__" "Engaged.__init__" (J8 (top 8) 0) p_25 [] noKw):Z0 P w K mg base 1 my "__init__" p_25 [] noKw (lG K my):=by
 refine D.ok ad (λ_ _ _ _ h=>?_) (λ_ _ _ _ _ H _ Q E hr h=>?_)
 ·obtain⟨e,f,rs,rows,lv,lst,rfl,_⟩:=h
  rfl
 obtain⟨e,f,rs,rows,lv,lst,rfl,he,hf,hR,few,hlv,q⟩:=h;have ln:rs.length=rows.length:=Paired.length hR
 refine⟨_,(d9 (vE K (pv 0) (E9 (own:=["callers"]) (fr:=[]) rfl (mkC ["self","holds","least"] (i3 (J8 (top 8) 0))) (o6 K (pv 1)) (λcl C s H ex=>⟨(m5 (i:=0) (show(["callers"]:List Str).Nodup from by decide +kernel) rfl (Or.inl rfl) (Or.inr rfl)),F4,(A5 (aH K) rfl T.AC boot_list (a8 (pv 0) c7 a9))⟩)) rfl)
  (i0 (xR K (pv 0) (qY (k9 X0 (pv 2) w6 (m3 _)) w6 (A5 (aH K) rfl T.AC boot_list (a8 (pv 2) c7 a9))) rfl))),?_⟩
 refine⟨_,rfl,f,rfl,⟨_,hf⟩,?_⟩
 refine B9 (xs:=rs.map V.ref) (λi acc σ H'=>i9 H H'/\(∃nas:List Addr,acc=nas.map V.ref/\nas.length=i/\u9 H' nas (rows.take i)/\nas.Nodup/\∀a∈nas,H a=none)/\∃v0,σ=[v0])
  ⟨λb u z=>z,⟨[],rfl,rfl,.nil,nodup_nil,λa ha=>nomatch ha⟩,none,rfl⟩ (Nat.le_of_lt (k8 (by rw[length_map];lia))) (λi acc σ H' g=>by
   obtain⟨_,⟨nas,rfl,hl,_⟩,_⟩:=g;rw[length_map]
   lia) (λi acc σ H' _ g=>g.1.seq hf) ?_ ?_
 ·rintro i x acc σ H' hx ⟨s1,⟨nas,rfl,hl,hN,nd,fr⟩,v0,rfl⟩
  rw[List.getElem?_map] at hx;obtain⟨a,ha,rfl⟩:=Option.map_eq_some_iff.mp hx;obtain⟨row,K5,ea⟩:=j9 hR i a ha;refine⟨_,rfl,a,_,rfl,.inl (SqL.of (s1 _ _ ea)),λp hp=>?_⟩;have s2:=c9 hp (.lst (row.map V.int))
  have pn:¬p∈nas:=λz=>by
   obtain⟨j,hj⟩:=List.mem_iff_getElem?.mp z;obtain⟨r,_,e⟩:=j9 hN j p hj;rw[hp] at e
   cases e
  refine⟨s1.trans s2,⟨nas++[p],by rw[map_append];rfl,by rw[length_append,hl];rfl,?_,gw nd pn,λb hb=>?_⟩,_,rfl⟩
  ·rw[take_add_one,K5]
   exact Paired.snoc (Paired.mapP hN λa r z=>s2 _ _ z) c6
  ·rcases mem_append.mp hb with z|z
   ·exact fr b z
   ·rw[mem_singleton.mp z]
    exact s1.free hp
 ·rintro acc σ H' ⟨s1,⟨nas,rfl,hl,hN,nd,fr⟩,v0,rfl⟩ nh hnh
  rw[length_map] at hl hN;rw[ln,take_length] at hN;have s2:=c9 hnh (.lst (nas.map V.ref));have enh:=@c6 H' nh (.lst (nas.map V.ref));have hN2:u9 (upd H' nh (.lst (nas.map V.ref))) nas rows:=Paired.mapP hN λa r z=>s2 _ _ z;have fnh:=s1.free hnh;have s3:=s1.trans s2;generalize upd H' nh _=H2 at s2 enh hN2 s3 ⊢;refine⟨_,rfl,e,my,rfl,s3 _ _ he,Z.yY,Z.yX.mo,Z.zc,λdx hdx=>?_⟩;have fdx:=s3.free hdx;have ne:dx≠e:=λz=>by rw[z,he] at fdx;cases fdx
  have old:∀b u,b≠e->H2 b=some u->upd (upd H2 e (M5 e my (some dx))) dx (XdO dx [("holds",.ref nh)]) b=some u:=λb u n1 z=>by rw[j2 (n9 z hdx),j2 n1];exact z
  have e1:upd (upd H2 e (M5 e my (some dx))) dx (XdO dx [("holds",.ref nh)]) e=some (M5 e my (some dx)):=by rw[j2 (Ne.symm ne),c6]
  have e2:=c6 (H:=upd H2 e (M5 e my (some dx))) (a:=dx) (o:=XdO dx [("holds",.ref nh)]);generalize upd (upd H2 e (M5 e my (some dx))) dx (XdO dx [("holds",.ref nh)])=H3 at old e1 e2 ⊢;have nhe:nh≠e:=λz=>by rw[z,he] at fnh;cases fnh
  have nae:∀a∈nas,a≠e:=λa ha z=>by have:=fr a ha;rw[z,he] at this;cases this
  have old0:∀b u,b≠e->H b=some u->H3 b=some u:=λb u n1 z=>old b u n1 (s3 _ _ z);have ndx:nh≠dx:=λz=>by rw[z] at enh;rw[enh] at hdx;cases hdx
  have adx:∀a∈nas,a≠dx:=λa ha z=>by
   obtain⟨j,hj⟩:=List.mem_iff_getElem?.mp ha;obtain⟨r,_,y⟩:=j9 hN2 j a hj;rw[z,hdx] at y
   cases y
  have rows3:u9 H3 nas rows:=by
   refine D3 hN2 λa r ha z=>old a _ (nae a ha) z
  refine⟨_,rfl,rfl,_,rfl,?_⟩
  cases lst with
  | none =>
   subst hlv;refine M6 ⟨_,rfl,e,my,dx,_,rfl,e1,e2,Z.yY,Z.yX.mo,Z.yW,(by show 1<1000;decide),?_⟩
   refine q dx nh nas .non _ (λb u n1 z=>by rw[j2 (n9 z fdx)];exact old0 b u n1 z) (by rw[j2 (Ne.symm ne)];exact e1) fdx ne ⟨c6,by rw[j2 ndx];exact old nh _ nhe enh,D3 rows3 λa r ha z=>by rw[j2 (adx a ha)];exact z,nd,rfl⟩ ⟨fr,λm z=>nomatch z⟩ nhe nae (λm z=>nomatch z)
  | some ms =>
   obtain⟨m,rfl,em⟩:=hlv;have mne:m≠e:=λz=>by rw[z,he] at em;cases em
   refine D9 ⟨_,rfl,m,_,rfl,.inl (SqL.of (old0 m _ mne em)),λq2 hq2=>?_⟩;have s4:=c9 hq2 (.lst (ms.map V.int));have eq2:=@c6 H3 q2 (.lst (ms.map V.int));have e1':=s4 _ _ e1;have e2':=s4 _ _ e2;have hq2e:q2≠e:=λz=>by rw[z,e1] at hq2;cases hq2
   have hq2d:q2≠dx:=λz=>by rw[z,e2] at hq2;cases hq2
   have hq2n:q2≠nh:=λz=>by rw[z,old nh _ nhe enh] at hq2;cases hq2
   have hq2a:¬q2∈nas:=λha=>by
    obtain⟨j,hj⟩:=List.mem_iff_getElem?.mp ha;obtain⟨r,_,y⟩:=j9 rows3 j q2 hj;rw[hq2] at y
    cases y
   generalize upd H3 q2 _=H4 at s4 eq2 e1' e2' ⊢;refine⟨_,rfl,e,my,dx,_,rfl,e1',e2',Z.yY,Z.yX.mo,Z.yW,(by show 1<1000;decide),?_⟩
   refine q dx nh nas (.ref q2) _ (λb u n1 z=>by rw[j2 (n9 z fdx)];exact s4 _ _ (old0 b u n1 z)) (by rw[j2 (Ne.symm ne)];exact e1') fdx ne ⟨c6,by rw[j2 ndx];exact s4 _ _ (old nh _ nhe enh),D3 rows3 λa r ha z=>by rw[j2 (adx a ha)];exact s4 _ _ z,nd,q2,rfl,hq2a,hq2n,by rw[j2 hq2d];exact eq2⟩ ⟨fr,λm z=>by
    cases z
    cases y:H q2 with
    | none=>rfl
    | some u=>rw[old0 q2 u hq2e y] at hq2;cases hq2⟩ nhe nae (λm z=>by cases z;exact hq2e)
theorem dG {α β:Type}{R:α->β->Prop}:∀{as as':List α}{ds ds':List β},Paired R as ds->Paired R as' ds'->Paired R (as++as') (ds++ds')
 | _,_,_,_,.nil,h=>h
 | _,_,_,_,.cons q t,h=>.cons q (dG t h)
def bj {K:Frag}{H:Hp}{l:Addr}{as:List Addr}{ks:List Call}{Q:VK}(el:H l=some (.lst (as.map V.ref)))(hC:j8 H as ks)(h64:ks.length<64)(ne:ks.Pairwise λk k'=>k.c≠k'.c)
  (q:∀l2 as' ks',H l2=none->j8 H as' ks'->ks'.Perm ks->ks'.Pairwise (λk k'=>k.c<k'.c)->Q (.ref l2) (upd H l2 (.lst (as'.map V.ref)))):jO K [.ref l] H Q:=by
 obtain⟨its,t1,t2⟩:=W9 (K:=K) hC;have la:=Paired.length hC;have lk:=Paired.length t2;have gd:∀(i:Nat) k,ks[i]? = some k->ks.getD i ⟨0,[],0⟩=k:=λi k e=>by rw[List.getD,e];rfl
 have uniq:∀(i j:Nat) k k',ks[i]? = some k->ks[j]? = some k'->k.c=k'.c->i=j:=λi j k k' e1 e2 hc=>by
  obtain⟨q1,z1⟩:=List.getElem?_eq_some_iff.mp e1;obtain⟨q2,z2⟩:=List.getElem?_eq_some_iff.mp e2
  rcases Nat.lt_trichotomy i j with hij|hij|hij
  ·have:=(List.pairwise_iff_getElem.mp ne) i j q1 q2 hij
   rw[z1,z2] at this;exact absurd hc this
  ·exact hij
  ·have:=(List.pairwise_iff_getElem.mp ne) j i q2 q1 hij
   rw[z1,z2] at this;exact absurd hc.symm this
 have back:∀(i:Nat) x,its[i]? = some x->∃k e,ks[i]? = some k/\x=[V.int k.c,V.ref e,V.int k.k]:=λi x hx=>by
  have hi:=(List.getElem?_eq_some_iff.mp hx).1;have ek:ks[i]? = some (ks[i]'(by lia)):=List.getElem?_eq_getElem (by lia)
  obtain⟨x',e1,e,e2⟩:=j9 t2 i _ ek;rw[hx] at e1
  cases e1
  exact⟨_,e,ek,e2⟩
 refine⟨l,as,its,λi=>(ks.getD i ⟨0,[],0⟩).c,rfl,SqL.of el,t1,by lia,λi j x y hx hy=>?_,λpq pm up l2 hl2=>?_⟩
 ·obtain⟨k,e,e1,rfl⟩:=back i x hx
  obtain⟨k',e',e2,rfl⟩:=back j y hy
  show(if k.c=k'.c then R7 [V.ref e,V.int k.k] [V.ref e',V.int k'.k] else some (decide (k.c<k'.c)))=some (decide ((ks.getD i ⟨0,[],0⟩).c<(ks.getD j ⟨0,[],0⟩).c))
  rw[gd i k e1,gd j k' e2]
  by_cases c:k.c=k'.c
  ·obtain rfl:=uniq i j k k' e1 e2 c
   rw[hx] at hy;rw[e1] at e2
   cases e2
   cases hy
   rw[if_pos rfl]
   show(if e=e then (if k.k=k.k then R7 [] [] else some (decide (k.k<k.k))) else none)=_
   rw[if_pos rfl,if_pos rfl,decide_eq_false (Int.lt_irrefl _)];rfl
  ·rw[if_neg c]
 ·rw[la] at pm up
  obtain⟨g1,g2⟩:=kj (xs:=ks) pm up ⟨0,[],0⟩ Call.c λi _=>rfl
  have hin:∀i∈pq.toList,i<ks.length:=λi hi=>by
   have:=(Array.Perm.mem_iff pm (a:=i)).mp (by simpa using hi)
   simpa using this
  have cs:=W6 0 ⟨0,[],0⟩ hC pq.toList hin;generalize (pq.toList.map λi=>ks.getD i ⟨0,[],0⟩)=ks' at g1 g2 cs;have ne':ks'.Pairwise λk k'=>k.c≠k'.c:=(List.Perm.pairwise_iff (λq=>Ne.symm q) g1).mpr ne;exact q l2 _ ks' hl2 cs g1 ((g2.and ne').imp λ{k k'} ⟨q1,q2⟩=>by lia)
def nW (K:Frag)(C:Addr):Sp:=λvs H Q E=>∃(a:Addr)(h:l9)(x y:V)(o:Option (List V)),vs=[.ref a,x,y]/\SqT K H a (h.row.map V.int)/\h.Ok/\A0 K H x/\O8 K H y o /\
 (∀H',i9 H H'->m4 x 0 (h.i*h.c-1)=true->C0 h o=true->Q .non H')/\∀H',i9 H H'->(m4 x 0 (h.i*h.c-1)&&C0 h o)=false->E (.ref C) none H'
def P9 (ks:List Call)(c:Int)(es:List Int)(w:Int):Prop:=((∃k∈ks,k.c=c)/\w=c)\/((∀k∈ks,k.c≠c)/\∃e∈es,(∃k∈ks,e∈k.es/\w=k.c)/\∀e'∈es,e'<e->∀k∈ks,¬e'∈k.es)
def X9 (ks:List Call)(c:Int)(es:List Int):Prop:=(∀k∈ks,k.c≠c)/\∀e∈es,∀k∈ks,¬e∈k.es
def fY (K:Frag)(C:Addr):Sp:=λvs H Q E=>∃(l e:Addr)(as:List Addr)(ks:List Call)(c:Int)(es:List Int),vs=[.ref l,.int c,.ref e]/\SqL K H l (as.map V.ref)/\j8 H as ks/\(SqT K H e (es.map V.int)\/SqL K H e (es.map V.int))/\es.length<64 /\
 (∀H',i9 H H'->X9 ks c es->Q .non H')/\∀(w:Int)(dx:Addr)(H':Hp),i9 H H'->P9 ks c es w->H' dx=some (XdO dx [("who",.int w)])->E (.ref C) (some dx) H'
def T8 (h:l9)(ks:List Call)(c:Int)(es:List Int)(sh:Int):Option (List Int)->Prop
 | none=>x9 h sh=[]
 | some ms=>∃k,bB h ks c es sh k/\ms=K5 h ks (c/h.c) (l7 h es) k
def kA (K:Frag)(C:Addr):Sp:=λvs H Q E=>∃(a l e:Addr)(h:l9)(as:List Addr)(ks:List Call)(c:Int)(es:List Int)(sh:Int),vs=[.ref a,.ref l,.int c,.ref e,.int sh]/\bp K H a l e h as ks es /\
 ∀(dx nh:Addr)(nas:List Addr)(nlv:V)(o:Option (List Int))(H':Hp),i9 H H'->T8 h ks c es sh o->fP H' dx (E7 h ks c es) o nh nas nlv->X1 H nas nlv->E (.ref C) (some dx) H'
def sr (K:Frag):Sp:=λvs H Q _=>∃(l e:Addr)(as:List Addr)(ks:List Call)(c k:Int)(es:List Int),vs=[.ref l,.int c,.ref e,.int k]/\H l=some (.lst (as.map V.ref))/\j8 H as ks/\ks.length<63/\(ks.Pairwise λk k'=>k.c≠k'.c)/\(∀k∈ks,k.c≠c)/\(SqT K H e (es.map V.int)\/SqL K H e (es.map V.int))/\es.length<64 /\
 ∀(r:Addr)(bs:List Addr)(ks':List Call)(es':List Int)(H':Hp),i9 H H'->H' r=some (.lst (bs.map V.ref))->j8 H' bs ks'->es'.Perm es->es'.Pairwise (·<=·)->ks'.Perm (ks++[⟨c,es',k⟩])->ks'.Pairwise (λk k'=>k.c<k'.c)->Q (.ref r) H'
theorem mU.yes {as:List Addr}{ks:List Call}{c:Int}{v:V}(h:mU as ks c v)(n:v≠.non):∃k∈ks,k.c=c:=by
 rcases h with⟨rfl,_⟩|⟨j,a,k,_,h2,h3,_⟩
 ·exact absurd rfl n
 ·exact⟨k,List.mem_of_getElem? h2,h3⟩
def cr:FnScope ["hall","caller","ends"] ["hall","caller","ends"] (i3 (top 35)):=mkF
theorem sZ (T:Txt K mg)(Z:bo K mg yD yG yF yC yH yK yE my yI)(Ck:i6 P w K mg base 3 "is_caller" p_19 (dR K))(DA:i6 P w K mg base 4 "is_ends" p_19 (kn K))(D:Def K mg "refuse_wrong" (top 35) p_31):K0 P w K mg base 5 "refuse_wrong" p_31 [] (nW K yC):=by
 refine D.okF cr (λ_ _ _ _ h=>?_) (λ_ _ _ _ _ H _ Q E hr h=>?_)
 ·obtain⟨a,h,x,y,o,rfl,_⟩:=h
  rfl
 obtain⟨a,h,x,y,o,rfl,hH,ok,px,ey,q,qE⟩:=h
 refine⟨_,(d9 (m8 (F0 (w9 K (m6 Ck hr rfl (a8 (pv 0) (a8 (pv 1) c7 a9) a9)) (λ_=>rfl))) (i0 (jM (oE V9) Z.Cj hr.hd rfl Q5)) j7)
  (i0 (m8 (F0 (w9 K (m6 DA hr rfl (a8 (pv 0) (a8 (pv 2) c7 a9) a9)) (λ_=>rfl))) (i0 (jM (oE V9) Z.Cj hr.hd rfl Q5)) j7))),?_⟩
 refine⟨_,rfl,_,rfl,a,h,x,rfl,hH,ok,px,_,rfl,?_⟩
 cases c1:m4 x 0 (h.i*h.c-1) with
 | false=>exact M6 (qE H (λb u z=>z) (by rw[c1];rfl))
 | true =>
  refine D9 ⟨_,rfl,_,rfl,a,h,y,o,rfl,hH,ok,ey,λH1 s1=>⟨_,rfl,?_⟩⟩
  cases c2:C0 h o with
  | false=>exact M6 (qE H1 s1 (by rw[c2,Bool.and_false]))
  | true=>exact D9 (q H1 s1 c1 c2)
def P7:FnScope ["calls","caller","ends","end","who"] ["calls","caller","ends"] (i3 (top 36)):=mkF
def lJ (T:Txt K mg)(Z:bo K mg yD yG yF yC yH yK yE my yI)(AH:i6 P w K mg base 2 "call_of" p_38 (dw K))(Cl:i6 P w K mg base 2 "holder_of" p_46 (dF K))(zC:Z0 P w K mg base 1 yE "__init__" p_43 [] noKw (gL yE))(D:Def K mg "refuse_busy" (top 36) p_35):K0 P w K mg base 4 "refuse_busy" p_35 [] (fY K yE):=by
 refine D.okF P7 (λ_ _ _ _ h=>?_) (λ_ _ _ _ _ H _ Q E hr h=>?_)
 ·obtain⟨l,e,as,ks,c,es,rfl,_⟩:=h
  rfl
 obtain⟨l,e,as,ks,c,es,rfl,hl,hC,he,h64,q,qE⟩:=h
 refine⟨_,(d9 (m8 (k9 T9 (m6 AH hr rfl (a8 (pv 0) (a8 (pv 1) c7 a9) a9)) w6 (m3 _)) (i0 (bA V9 Z.DQ zC hr hr.hd rfl (a8 (pv 1) c7 a9))) j7)
  (i0 (A2 PassesOwn.leaving rfl (o6 K (i8 (P4 K) rfl T.yZ boot_sorted (a8 (pv 2) c7 a9))) (m5 (i:=3) P7.nd rfl (Or.inl rfl))
  (d9 (j3 (i:=4) P7.nd rfl (Or.inl rfl) (m6 Cl hr rfl (a8 (pv 0) (a8 (pv 3) c7 a9) a9)))
  (i0 (m8 (k9 T9 (pv 4) w6 (m3 _)) (i0 (bA V9 Z.DQ zC hr hr.hd rfl (a8 (pv 4) c7 a9))) j7)))))),?_⟩
 have fly:∀{G:Hp}{ea:Addr}{w:Int}(s:i9 H G)(b:P9 ks c es w)(hea:G ea=none),gL yE [.ref ea,.int w] (upd G ea (M5 ea yE none)) (λr H2=>r=.non/\∃od,H2 ea=some (M5 ea yE od)/\E (.ref yE) od (iP H2 ea)) E0:=by
  intro G ea w s b hea
  refine⟨ea,.int w,rfl,c6,λdx H4 hdx ne oth e1 e2=>⟨rfl,some dx,e1,?_⟩⟩;rw[j2 ne] at hdx;refine qE w dx _ (s.trans λb u z=>?_) b (by rw[E8 ne];exact e2)
  have nb:b≠ea:=λy=>by rw[y,hea] at z;cases z
  have nd':b≠dx:=λy=>by rw[y,hdx] at z;cases z
  rw[E8 nb,oth b nb nd',j2 nb];exact z
 refine⟨_,rfl,_,rfl,l,.int c,as,ks,rfl,hl,hC,.int c,.inr ⟨c,rfl,λv mine=>⟨rfl,_,rfl,?_⟩⟩⟩
 by_cases hv:v=.non
 ·rw[hv]
  refine D9 ?_
  have no:∀k∈ks,k.c≠c:=by
   rcases mine with⟨_,z⟩|⟨j,a,k,_,_,_,z⟩
   ·exact z
   ·rw[hv] at z;cases z
  refine⟨_,rfl,e,es,rfl,he,h64,λns' pm srt sl hsl=>?_⟩;have s1:=c9 hsl (.lst (ns'.map V.int));have esl:=@c6 H sl (.lst (ns'.map V.int));generalize upd H sl _=H1 at s1 esl ⊢;refine⟨sl,rfl,⟨_,SqL.of esl⟩,?_⟩
  refine B0 (xs:=ns'.map V.int) (λi σ H'=>H'=H1/\(∀e∈ns'.take i,∀k∈ks,¬e∈k.es)/\∃v3 v4,σ=[some (.ref l),some (.int c),some (.ref e),v3,v4])
   ⟨rfl,(λe z=>nomatch z),none,none,rfl⟩ (λi σ H' _ g=>by rw[g.1];exact SqL.of esl) ?_ ?_
  ·rintro i x σ G hx ⟨rfl,low,v3,v4,rfl⟩
   rw[List.getElem?_map] at hx;obtain⟨en,hen,rfl⟩:=Option.map_eq_some_iff.mp hx;refine⟨_,rfl,_,rfl,l,en,as,ks,rfl,s1.seq hl,j8.same (λb xs z=>s1 _ _ z) hC,λv who=>?_⟩;refine⟨_,rfl,rfl,_,rfl,?_⟩
   rcases who with⟨rfl,none⟩|⟨k,hk,ek,rfl⟩
   ·refine D9 ⟨rfl,λe' he'=>?_,_,_,rfl⟩
    rw[take_add_one,hen] at he'
    rcases mem_append.mp he' with z|z
    ·exact low e' z
    ·rw[mem_singleton.mp z]
     exact none
   ·refine M6 ⟨_,rfl,(by show 1<=1000;decide),λea hea=>fly s1 (.inr ⟨no,en,pm.mem_iff.mp (List.mem_of_getElem? hen),⟨k,hk,ek,rfl⟩,λe' he' lt=>?_⟩) hea⟩
    refine low e' ?_;obtain⟨j,hj,ej⟩:=getElem_of_mem (pm.mem_iff.mpr he');have hi:=List.getElem?_eq_some_iff.mp hen
    by_cases z:j<i
    ·rw[List.mem_take_iff_getElem]
     exact⟨j,by lia,ej⟩
    ·by_cases y:j=i
     ·subst y
      rw[hi.2] at ej;lia
     ·have:=(List.pairwise_iff_getElem.mp srt) i j hi.1 hj (by lia)
      rw[hi.2,ej] at this;lia
  ·rintro σ G ⟨rfl,low,v3,v4,rfl⟩
   rw[length_map,take_length] at low;exact q _ s1 ⟨no,λe he=>low e (pm.mem_iff.mpr he)⟩
 ·have dv:decide (v=V.non)=false:=decide_eq_false hv
  rw[dv];exact M6 ⟨_,rfl,(by show 1<=1000;decide),λea hea=>fly (λb u z=>z) (.inl ⟨mine.yes hv,rfl⟩) hea⟩
def aJ:FnScope ["hall","calls","caller","ends","shut"] ["hall","calls","caller","ends","shut"] (i3 (top 37)):=mkF
def pS (T:Txt K mg)(Z:bo K mg yD yG yF yC yH yK yE my yI)(zw:i6 P w K mg base 4 "holders" p_14 (Z3 K))(Bv:U8 P w K mg base 5 "least_ended" p_1 [.int 0] (nE K))(zX:Z0 P w K mg base 1 my "__init__" p_25 [] noKw (lG K my))(D:Def K mg "refuse_engaged" (top 37) p_1):K0 P w K mg base 6 "refuse_engaged" p_1 [] (kA K my):=by
 refine D.okF aJ (λ_ _ _ _ h=>?_) (λ_ _ _ _ _ H _ Q E hr h=>?_)
 ·obtain⟨a,l,e,h,as,ks,c,es,sh,rfl,_⟩:=h
  rfl
 obtain⟨a,l,e,h,as,ks,c,es,sh,rfl,ask,qE⟩:=h;refine⟨_,(i0 (bA V9 Z.Dz zX hr hr.hd rfl (a8 (m6 zw hr rfl (a8 (pv 0) (a8 (pv 1) (a8 (pv 2) (a8 (pv 3) c7 a9) a9) a9) a9)) (a8 (m6 Bv.all hr rfl (a8 (pv 0) (a8 (pv 1) (a8 (pv 2) (a8 (pv 3) (a8 (pv 4) c7 a9) a9) a9) a9) a9)) c7 o8) o8))),?_⟩;refine⟨_,rfl,_,rfl,_,rfl,_,rfl,a,l,e,h,as,ks,c,es,rfl,ask.a,ask.ok,ask.l,ask.c,ask.hin,ask.few,ask.e,ask.len,λf rs H1 s1 hf0 hrs nd nf ef hR=>?_⟩
 have rl:(E7 h ks c es).length<=64:=by
  have:=ask.ok.m
  unfold E7 M0;rw[length_map,length_range];lia
 have go:∀(lv:V)(o:Option (List Int))(H2:Hp),i9 H1 H2->T8 h ks c es sh o->(match o with | none=>lv=.non | some ms=>∃m,lv=.ref m/\H2 m=some (.lst (ms.map V.int)))->∀ea,H2 ea=none->lG K my [.ref ea,.ref f,lv] (upd H2 ea (M5 ea my none)) (λr H3=>r=.non/\∃od,H3 ea=some (M5 ea my od)/\E (.ref my) od (iP H3 ea)) E0:=by
  intro lv o H2 s2 ho hlv ea hea
  have s3:=c9 hea (M5 ea my none);refine⟨ea,f,rs,E7 h ks c es,lv,o,rfl,c6,SqL.of (s3 _ _ (s2 _ _ ef)),Paired.mapP hR λa r z=>s3 _ _ (s2 _ _ z),rl,?_,λdx nh nas nlv H4 old e1 hdx ne eng frs nhe nae nme=>⟨rfl,some dx,e1,?_⟩⟩
  ·cases o with
   | none=>exact hlv
   | some ms =>
    obtain⟨m,e1,e2⟩:=hlv;exact⟨m,e1,s3 _ _ e2⟩
  ·refine qE dx nh nas nlv o _ (s1.trans (s2.trans λb u z=>?_)) ho ⟨by rw[E8 ne];exact eng.d,by rw[E8 nhe];exact eng.h,D3 eng.rows λa r ha z=>by rw[E8 (nae a ha)];exact z,eng.nd,?_⟩ (frs.back ((s1.trans s2).trans s3))
   ·have nb:b≠ea:=λy=>by rw[y,hea] at z;cases z
    rw[E8 nb];exact old b u nb (s3 _ _ z)
   ·have:=eng.l
    cases o with
    | none=>exact this
    | some ms =>
     obtain⟨m,y1,y2,y3,y4⟩:=this;exact⟨m,y1,y2,y3,by rw[E8 (nme m y1)];exact y4⟩
 refine⟨_,rfl,_,rfl,_,rfl,_,rfl,_,rfl,a,l,e,h,as,ks,c,es,sh,rfl,ask.same s1,λH2 s2 hno=>⟨(by show 2<=1000;decide),go _ none H2 s2 hno rfl⟩,λr k H2 s2 lk er=>⟨(by show 2<=1000;decide),go _ (some _) H2 s2 ⟨k,lk,rfl⟩ ⟨r,rfl,er⟩⟩⟩
theorem cF {K:Frag}{H:Hp}{y:V}{o:Option (List V)}{h:l9}(ey:O8 K H y o)(w:C0 h o=true):∃(e:Addr)(es:List Int),y=.ref e/\o=some (es.map V.int)/\(SqT K H e (es.map V.int)\/SqL K H e (es.map V.int)):=by
 cases ey with
 | lst e hp hn =>
  rename_i a xs
  have w':(!xs.isEmpty&&(xs.all (λx=>m4 x 0 (h.o*h.e-1))&&E3 xs))=true:=w;rw[Bool.and_eq_true,Bool.and_eq_true] at w';obtain⟨ns,rfl⟩:=bR w'.2.1;exact⟨a,ns,rfl,rfl,.inr (SqL.of e)⟩
 | tup e hp hn =>
  rename_i a xs
  have w':(!xs.isEmpty&&(xs.all (λx=>m4 x 0 (h.o*h.e-1))&&E3 xs))=true:=w;rw[Bool.and_eq_true,Bool.and_eq_true] at w';obtain⟨ns,rfl⟩:=bR w'.2.1;exact⟨a,ns,rfl,rfl,.inl (SqT.of e)⟩
 | no=>cases w
def iJ:FnScope ["calls","caller","ends","k"] ["calls","caller","ends","k"] (i3 (top 38)):=mkF
def uE (T:Txt K mg)(D:Def K mg "with_call" (top 38) p_23):i6 P w K mg base 1 "with_call" p_23 (sr K):=by
 refine D.ok iJ (λ_ _ _ _ h=>?_) (λ_ _ _ _ _ H _ Q E hr h=>?_)
 ·obtain⟨l,e,as,ks,c,k,es,rfl,_⟩:=h
  rfl
 obtain⟨l,e,as,ks,c,k,es,rfl,el,hC,h63,nc,no,he,h64,q⟩:=h;have ln:as.length=ks.length:=Paired.length hC;refine⟨_,(i0 (j6 (i8 (R9 K) rfl T.yZ boot_sorted (a8 (i7 Q1 (pv 0) (n6 (a8 (C2 (a8 (pv 1) (a8 (A5 (O3 K) rfl T.zm boot_tuple (a8 (i8 (P4 K) rfl T.yZ boot_sorted (a8 (pv 2) c7 a9)) c7 o8)) (a8 (pv 3) c7 a9) o8) a9)) c7 Q0))) c7 O5)))),?_⟩;refine⟨_,rfl,_,rfl,_,rfl,e,es,rfl,he,h64,λes' pm srt sl hsl=>?_⟩;have s1:=c9 hsl (.lst (es'.map V.int));have e1:=@c6 H sl (.lst (es'.map V.int));generalize upd H sl _=H1 at s1 e1 ⊢;refine⟨sl,_,rfl,.inl ⟨SqL.of e1,λt ht=>?_⟩⟩;have s2:=s1.trans (c9 ht (.tup (es'.map V.int)));have e2:=@c6 H1 t (.tup (es'.map V.int));generalize upd H1 t _=H2 at s2 e2 ⊢;refine⟨_,rfl,z_3,λp hp=>?_⟩
 have s3':=c9 hp (.tup [.int c,.ref t,.int k]);have s3:=s2.trans s3';have e3:D5 (upd H2 p (.tup [.int c,.ref t,.int k])) p ⟨c,es',k⟩:=⟨t,s3' _ _ e2,c6⟩;generalize upd H2 p _=H3 at s3 e3 ⊢;refine⟨z_1,λnl hnl=>?_⟩
 have s4':=c9 hnl (.lst [.ref p]);have s4:=s3.trans s4';have e4:=@c6 H3 nl (.lst [.ref p]);have c4:=D5.same (λb xs z=>s4' _ _ z) e3;generalize upd H3 nl _=H4 at s4 e4 c4 ⊢;refine⟨l,nl,_,_,rfl,rfl,s4 _ _ el,e4,Nat.le_of_lt (k8 (by rw[length_map];show as.length+1<=1000;lia)),λcl hcl=>?_⟩
 have s5':=c9 hcl (.lst (as.map V.ref++[.ref p]));have s5:=s4.trans s5';have e5:upd H4 cl (.lst (as.map V.ref++[.ref p])) cl=some (.lst ((as++[p]).map V.ref)):=by rw[c6,map_append];rfl
 have c5:=D5.same (λb xs z=>s5' _ _ z) c4;generalize upd H4 cl _=H5 at s5 e5 c5 ⊢;have hC5:j8 H5 (as++[p]) (ks++[⟨c,es',k⟩]):=Paired.snoc (j8.same (λb xs z=>s5 _ _ z) hC) c5;refine bj e5 hC5 (by rw[length_append,length_singleton];lia) (List.pairwise_append.mpr ⟨nc,List.pairwise_singleton ..,λk1 h1 k2 h2=>?_⟩) λl2 as' ks' h1 h2 h3 h4=>?_
 ·rw[mem_singleton.mp h2]
  exact no k1 h1
 ·exact q l2 as' ks' es' _ (s5.trans (c9 h1 _)) c6 (j8.same (λb xs z=>c9 h1 _ _ _ z) h2) pm srt h3 h4
structure gF (K:Frag)(C CH:Addr)(cs:List Addr)(bs:List Bool)(j:Nat):Prop where
 x:de K C
 hall:kitOne K (.ref C) (.ref CH)=some true
 val:kitOne K (.ref C) (.type "ValueError")=some true
 each:Paired (λD b=>kitOne K (.ref C) (.ref D)=some b) cs bs
 one:bs.count true=1
 at_:bs[j]? = some true
 no:∀m<j,bs[m]? = some (!true)
 few:j<=1000
def sg (K:Frag)(CH:Addr)(cs:List Addr):Sp:=λvs H Q _=>∃(ea C:Addr)(od:Option Addr)(bs:List Bool)(j:Nat),vs=[.ref ea]/\H ea=some (U1 ea C od)/\gF K C CH cs bs j/\∀H',i9 H H'->Q (.int (j:Nat)) H'
def P0:FnScope ["_law_e","_law_some"] ["_law_e"] (i3 (top 64)):=mkF
def uf (T:Txt K mg)(Z:bo K mg yD yG yF yC yH yK yE my yI)(D:Def K mg "_law_kind" (top 64) ["_law_e"]):i6 P w K mg base 1 "_law_kind" ["_law_e"] (sg K yD [yC,yE,my,yK,yH,yI,yG,yF]):=by
 refine D.ok P0 (λ_ _ _ _ h=>?_) (λ_ _ _ _ _ H _ Q E hr h=>?_)
 ·obtain⟨ea,C,od,bs,j,rfl,_⟩:=h
  rfl
 obtain⟨ea,C,od,bs,j,rfl,he,ko,q⟩:=h
 obtain⟨b0,b1,b2,b3,b4,b5,b6,b7,rfl,k0,k1,k2,k3,k4,k5,k6,k7⟩:∃b0 b1 b2 b3 b4 b5 b6 b7,bs=[b0,b1,b2,b3,b4,b5,b6,b7]/\kitOne K (.ref C) (.ref yC)=some b0/\kitOne K (.ref C) (.ref yE)=some b1/\kitOne K (.ref C) (.ref my)=some b2/\kitOne K (.ref C) (.ref yK)=some b3 /\
   kitOne K (.ref C) (.ref yH)=some b4/\kitOne K (.ref C) (.ref yI)=some b5/\kitOne K (.ref C) (.ref yG)=some b6/\kitOne K (.ref C) (.ref yF)=some b7:=by
  have:=ko.each
  match bs,this with
  | _,.cons a0 (.cons a1 (.cons a2 (.cons a3 (.cons a4 (.cons a5 (.cons a6 (.cons a7 .nil)))))))=>exact⟨_,_,_,_,_,_,_,_,rfl,a0,a1,a2,a3,a4,a5,a6,a7⟩
 have rr:∀{D:Addr}(u:Value),u7 (.ref D) u->u=.ref D:=λ{D} u h=>h
 refine⟨_,(d9 (j3 (i:=1) P0.nd rfl (Or.inl rfl) (n6 (a8 (i8 (A6 K) rfl T.yJ boot_isinstance (a8 (pv 0) (a8 (P3 (v:=.ref yC) rfl Z.Du rfl) c7 a9) a9)) (a8 (i8 (A6 K) rfl T.yJ boot_isinstance (a8 (pv 0) (a8 (P3 (v:=.ref yE) rfl Z.DY rfl) c7 a9) a9)) (a8 (i8 (A6 K) rfl T.yJ boot_isinstance (a8 (pv 0) (a8 (P3 (v:=.ref my) rfl Z.CV rfl) c7 a9) a9)) c7 o8) o8) o8)))
  (d9 (j3 (i:=1) P0.nd rfl (Or.inl rfl) (i7 Q1 (pv 1) (n6 (a8 (i8 (A6 K) rfl T.yJ boot_isinstance (a8 (pv 0) (a8 (P3 (v:=.ref yK) rfl Z.DX rfl) c7 a9) a9)) (a8 (i8 (A6 K) rfl T.yJ boot_isinstance (a8 (pv 0) (a8 (P3 (v:=.ref yH) rfl Z.Dv rfl) c7 a9) a9)) (a8 (i8 (A6 K) rfl T.yJ boot_isinstance (a8 (pv 0) (a8 (P3 (v:=.ref yI) rfl Z.Dw rfl) c7 a9) a9)) c7 o8) o8) o8))))
  (d9 (j3 (i:=1) P0.nd rfl (Or.inl rfl) (i7 Q1 (pv 1) (n6 (a8 (i8 (A6 K) rfl T.yJ boot_isinstance (a8 (pv 0) (a8 (P3 (v:=.ref yG) rfl Z.Dt rfl) c7 a9) a9)) (a8 (i8 (A6 K) rfl T.yJ boot_isinstance (a8 (pv 0) (a8 (P3 (v:=.ref yF) rfl Z.CU rfl) c7 a9) a9)) c7 o8) o8))))
  (d9 (m8 (PW.pt (bn (F0 (w9 K (i8 (A6 K) rfl T.yJ boot_isinstance (a8 (pv 0) (a8 (P3 (v:=.ref yD) rfl Z.Af rfl) c7 a9) a9)) (λ_=>rfl))) (bn (F0 (w9 K (i8 (A6 K) rfl T.yJ boot_isinstance (a8 (pv 0) (a8 (D4 (v:=.ty "ValueError") rfl T.m_ValueError cz rfl) c7 a9) a9)) (λ_=>rfl))) (aB (k9 jg (K4 K PySem.F.plainAttrs_list PySem.F.slot_list_count PySem.F.type_list_count qA (pv 1) (a8 K2 c7 l8)) c8 (m3 _)))))) (i0 (j6 (fi bQ c8))) j7)
  (i0 (j6 (K4 K PySem.F.plainAttrs_list PySem.F.slot_list_index PySem.F.type_list_index pW (pv 1) (a8 K2 c7 l8)))))))),?_⟩
 refine⟨_,rfl,ea,C,od,_,_,b0,rfl,rr,he,ko.x,k0,?_⟩;refine⟨_,rfl,ea,C,od,_,_,b1,rfl,rr,he,ko.x,k1,?_⟩;refine⟨_,rfl,ea,C,od,_,_,b2,rfl,rr,he,ko.x,k2,?_⟩;refine⟨z_3,λp1 hp1=>?_⟩
 have s1:=c9 hp1 (.lst [.bl b0,.bl b1,.bl b2]);have e1:=@c6 H p1 (.lst [.bl b0,.bl b1,.bl b2]);generalize upd H p1 _=H1 at s1 e1 ⊢;have he1:=s1 _ _ he;refine⟨_,rfl,?_⟩;refine⟨_,rfl,ea,C,od,_,_,b3,rfl,rr,he1,ko.x,k3,?_⟩;refine⟨_,rfl,ea,C,od,_,_,b4,rfl,rr,he1,ko.x,k4,?_⟩;refine⟨_,rfl,ea,C,od,_,_,b5,rfl,rr,he1,ko.x,k5,?_⟩;refine⟨z_3,λp2 hp2=>?_⟩
 have s2:=c9 hp2 (.lst [.bl b3,.bl b4,.bl b5]);have e2:=@c6 H1 p2 (.lst [.bl b3,.bl b4,.bl b5]);generalize upd H1 p2 _=H2 at s2 e2 ⊢;refine⟨p1,p2,_,_,rfl,rfl,s2 _ _ e1,e2,z_6,λp3 hp3=>?_⟩
 have s3:=c9 hp3 (.lst ([.bl b0,.bl b1,.bl b2]++[.bl b3,.bl b4,.bl b5]));have e3:=@c6 H2 p3 (.lst ([.bl b0,.bl b1,.bl b2]++[.bl b3,.bl b4,.bl b5]));generalize upd H2 p3 _=H3 at s3 e3 ⊢;have he3:=s3 _ _ (s2 _ _ he1);refine⟨_,rfl,?_⟩;refine⟨_,rfl,ea,C,od,_,_,b6,rfl,rr,he3,ko.x,k6,?_⟩;refine⟨_,rfl,ea,C,od,_,_,b7,rfl,rr,he3,ko.x,k7,?_⟩;refine⟨z_2,λp4 hp4=>?_⟩
 have s4:=c9 hp4 (.lst [.bl b6,.bl b7]);have e4:=@c6 H3 p4 (.lst [.bl b6,.bl b7]);generalize upd H3 p4 _=H4 at s4 e4 ⊢;refine⟨p3,p4,_,_,rfl,rfl,s4 _ _ e3,e4,z_8,λp5 hp5=>?_⟩
 have s5:=c9 hp5 (.lst (([.bl b0,.bl b1,.bl b2]++[.bl b3,.bl b4,.bl b5])++[.bl b6,.bl b7]));have e5:=@c6 H4 p5 (.lst (([.bl b0,.bl b1,.bl b2]++[.bl b3,.bl b4,.bl b5])++[.bl b6,.bl b7]));generalize upd H4 p5 _=H5 at s5 e5 ⊢;have he5:=s5 _ _ (s4 _ _ he3);have s15:=s1.trans (s2.trans (s3.trans (s4.trans s5)));have e5':H5 p5=some (.lst ([b0,b1,b2,b3,b4,b5,b6,b7].map V.bl)):=e5;refine⟨_,rfl,ea,C,od,_,_,true,rfl,rr,he5,ko.x,ko.hall,_,rfl,D9 ?_⟩;refine⟨_,rfl,ea,C,od,_,_,true,rfl,(λu h=>h),he5,ko.x,ko.val,_,rfl,D9 ?_⟩;refine⟨_,rfl,.inl ⟨rfl,_,SqL.of e5'⟩,p5,true,_,rfl,rfl,e5',rfl,_,rfl,iy (by rw[ko.one];decide) ?_⟩
 exact⟨_,rfl,.inl ⟨rfl,_,SqL.of e5'⟩,p5,true,_,j,rfl,rfl,e5',ko.at_,ko.no,ko.few,q _ s15⟩
def nN (h:l9)(ks:List Call)(c:Int)(es:List Int)(sh:Int)(i:Nat)(v:V):Prop :=
 (v=.non/\∀k∈x9 h sh,¬k<i)\/∃k:Nat,v=.int (k:Int)/\k<i/\k∈x9 h sh/\∀k'∈x9 h sh,k'<i->ae h ks c es k<=ae h ks c es k'/\(k'<k->ae h ks c es k<ae h ks c es k')
def rS (K:Frag):Sp:=λvs H Q _=>∃(a L:Addr)(rs:List Addr)(h:l9)(ks:List Call)(c:Int)(es:List Int)(sh:Int),vs=[.ref a,.ref L,.int sh]/\SqT K H a (h.row.map V.int)/\h.Ok/\H L=some (.lst (rs.map V.ref))/\u9 H rs (E7 h ks c es) /\
 (x9 h sh=[]->Q .non H)/\∀k ra,bB h ks c es sh k->H ra=some (.lst ((K5 h ks (c/h.c) (l7 h es) k).map V.int))->Q (.ref ra) H
def nI (K:Frag):Sp:=λvs H Q _=>∃(l e:Addr)(as:List Addr)(ks:List Call)(c:Int)(es:List Int),vs=[.ref l,.int c,.ref e]/\SqL K H l (as.map V.ref)/\j8 H as ks/\(SqT K H e (es.map V.int)\/SqL K H e (es.map V.int))/\es.length<64 /\
 (∀H',i9 H H'->X9 ks c es->Q .non H')/\∀(w:Int)(H':Hp),i9 H H'->P9 ks c es w->Q (.int w) H'
def P2:FnScope ["_law_hall_here","_law_kept","_law_shut","_law_best_here","_law_k"] ["_law_hall_here","_law_kept","_law_shut"] (i3 (top 66)):=mkF
def uD (T:Txt K mg)(D:Def K mg "_law_best" (top 66) p_17):i6 P w K mg base 1 "_law_best" p_17 (rS K):=by
 refine D.ok P2 (λ_ _ _ _ h=>?_) (λ_ _ _ _ _ H _ Q E hr h=>?_)
 ·obtain⟨a,L,rs,h,ks,c,es,sh,rfl,_⟩:=h
  rfl
 obtain⟨a,L,rs,h,ks,c,es,sh,rfl,hH,ok,hL,hrows,qN,q⟩:=h;have b3:=ok.m
 refine⟨_,(d9 (j3 (i:=3) P2.nd rfl (Or.inl rfl) w6)
  (d9 (A2 PassesOwn.never rfl (D1 rfl T.za (a8 (j1 (i4 K) (pv 0) c8) c7 m9)) (m5 (i:=4) P2.nd rfl (Or.inl rfl))
  (i0 (m8 (k9 C7 (i7 iK (i7 iw (pv 2) (pv 4)) c8) c8 (m3 _)) (i0 (m8 (PW.pt (bn (k9 X0 (pv 3) w6 (m3 _)) (aB (k9 cU (i8 (u6 K) rfl T.yT boot_len (a8 (j1 (q9 K) (pv 1) (pv 4)) c7 m9)) (i8 (u6 K) rfl T.yT boot_len (a8 (j1 (q9 K) (pv 1) (pv 3)) c7 m9)) (m3 _))))) (i0 (j3 (i:=3) P2.nd rfl (Or.inl rfl) (pv 4))) j7)) j7)))
  (d9 (m8 (k9 X0 (pv 3) w6 (m3 _)) (i0 (j6 w6)) j7)
  (i0 (j6 (j1 (q9 K) (pv 1) (pv 3))))))),?_⟩
 have lr:=Paired.length hrows;unfold E7 at lr;rw[Y0] at lr
 have rowAt:∀k:Nat,k<h.m.toNat->∃ra,atI (rs.map V.ref) (k:Int)=some (.ref ra)/\H ra=some (.lst ((K5 h ks (c/h.c) (l7 h es) k).map V.int)):=λk hk=>by
  have ea:rs[k]? = some (rs[k]'(by lia)):=List.getElem?_eq_getElem _
  obtain⟨row,w1,w2⟩:=j9 hrows k _ ea
  have w1':row=K5 h ks (c/h.c) (l7 h es) k:=by
   unfold E7 M0 at w1;rw[List.getElem?_map,List.getElem?_range hk] at w1;exact(Option.some.inj w1).symm
  rw[w1'] at w2;exact⟨_,B3 (by rw[List.getElem?_map,ea];rfl),w2⟩
 have lenE:∀k:Nat,((((K5 h ks (c/h.c) (l7 h es) k).map V.int).length:Nat):Int)=((ae h ks c es k:Nat):Int):=λk=>by
  unfold ae;rw[length_map]
 have memO:∀i:Nat,i<h.m.toNat->(i∈x9 h sh↔A1 sh i=true):=λi hi=>by
  unfold x9;rw[List.mem_filter,List.mem_range];exact⟨λz=>z.2,λz=>⟨hi,z⟩⟩
 refine⟨_,rfl,a,_,_,_,rfl,rfl,hH,rfl,_,rfl,by show -(2^62)<=h.m;lia,by show h.m<2^62;lia,?_⟩
 refine E5 (λi σ H'=>H'=H/\∃v3 v4,nN h ks c es sh i v3/\σ=[some (.ref a),some (.ref L),some (.int sh),some v3,v4])
  ⟨rfl,.non,none,.inl ⟨rfl,λk _ z=>absurd z (Nat.not_lt_zero _)⟩,rfl⟩ ?_ ?_
 ·rintro i σ H' hi ⟨rfl,v3,v4,ht,rfl⟩
  rw[Int.zero_add];refine⟨_,rfl,_,rfl,_,_,rfl,rfl,by lia,_,_,rfl,rfl,rfl,_,rfl,?_⟩
  have stay:¬i∈x9 h sh->nN h ks c es sh (i+1) v3:=λhn=>by
   rcases ht with⟨rfl,z⟩|⟨k,rfl,k1,k2,k3⟩
   ·refine .inl ⟨rfl,λk hk y=>?_⟩
    by_cases e:k=i
    ·exact hn (e▸hk)
    ·exact z k hk (by lia)
   ·refine .inr ⟨k,rfl,by lia,k2,λk' hk' y=>?_⟩
    by_cases e:k'=i
    ·exact absurd (e▸hk') hn
    ·exact k3 k' hk' (by lia)
  refine B1 (λc1=>?_) (λc1=>?_)
  ·have c1':i∈x9 h sh:=(memO i hi).mpr (by unfold A1;simpa using c1)
   rcases ht with⟨rfl,z⟩|⟨k,rfl,k1,k2,k3⟩
   ·refine⟨_,rfl,rfl,_,rfl,M6 ?_⟩
    refine⟨_,rfl,rfl,_,_,.inr ⟨i,rfl,by lia,c1',λk' hk' y=>?_⟩,rfl⟩
    have e:k'=i:=by
     have:=z k' hk'
     lia
    subst e;exact⟨Nat.le_refl _,λz=>absurd z (Nat.lt_irrefl _)⟩
   ·refine⟨_,rfl,rfl,_,rfl,D9 ?_⟩
    obtain⟨ra,a1,a2⟩:=rowAt i hi;obtain⟨rb,b1,b2⟩:=rowAt k (by lia)
    refine⟨_,rfl,_,rfl,L,_,_,_,rfl,rfl,SqL.of hL,a1,ra,_,rfl,.inl (SqL.of a2),_,rfl,_,rfl,L,_,_,_,rfl,rfl,SqL.of hL,b1,rb,_,rfl,.inl (SqL.of b2),_,_,rfl,rfl,_,rfl,?_⟩;rw[lenE,lenE];refine B1 (λc2=>?_) (λc2=>?_)
    ·have c2':((ae h ks c es i:Nat):Int)<((ae h ks c es k:Nat):Int):=of_decide_eq_true c2
     refine⟨_,rfl,rfl,_,_,.inr ⟨i,rfl,by lia,c1',λk' hk' y=>?_⟩,rfl⟩
     by_cases e:k'=i
     ·subst e
      exact⟨Nat.le_refl _,λz=>absurd z (Nat.lt_irrefl _)⟩
     ·have:=(k3 k' hk' (by lia)).1
      exact⟨by lia,λ_=>by lia⟩
    ·have c2':¬((ae h ks c es i:Nat):Int)<((ae h ks c es k:Nat):Int):=λz=>c2 (decide_eq_true z)
     refine⟨rfl,_,_,.inr ⟨k,rfl,by lia,k2,λk' hk' y=>?_⟩,rfl⟩
     by_cases e:k'=i
     ·subst e
      exact⟨by lia,λz=>by lia⟩
     ·exact k3 k' hk' (by lia)
  ·have c1':¬i∈x9 h sh:=λz=>c1 (by
    have:=(memO i hi).mp z
    unfold A1 at this
    simpa using this)
   exact⟨rfl,_,_,stay c1',rfl⟩
 ·rintro σ H' ⟨rfl,v3,v4,ht,rfl⟩
  rcases ht with⟨rfl,z⟩|⟨k,rfl,k1,k2,k3⟩
  ·refine⟨_,rfl,rfl,_,rfl,M6 (qN ?_)⟩
   refine List.eq_nil_iff_forall_not_mem.mpr λk hk=>z k hk (bb hk)
  ·obtain⟨ra,a1,a2⟩:=rowAt k (bb k2)
   exact⟨_,rfl,rfl,_,rfl,D9 ⟨_,rfl,_,rfl,L,_,_,_,rfl,rfl,SqL.of hL,a1,q k ra ⟨k2,λk' hk'=>k3 k' hk' (bb hk')⟩ a2⟩⟩
def P5:FnScope ["_law_calls_here","_law_caller_here","_law_ends_here","_law_call","_law_end"] ["_law_calls_here","_law_caller_here","_law_ends_here"] (i3 (top 67)):=mkF
def qZ (T:Txt K mg)(D:Def K mg "_law_busy" (top 67) p_9):i6 P w K mg base 1 "_law_busy" p_9 (nI K):=by
 refine D.ok P5 (λ_ _ _ _ h=>?_) (λ_ _ _ _ _ H _ Q E hr h=>?_)
 ·obtain⟨l,e,as,ks,c,es,rfl,_⟩:=h
  rfl
 obtain⟨l,e,as,ks,c,es,rfl,hl,hC,he,h64,q,qB⟩:=h;have la:=Paired.length hC
 refine⟨_,(d9 (A2 PassesOwn.never rfl (o6 K (pv 0)) (m5 (i:=3) P5.nd rfl (Or.inl rfl))
  (i0 (m8 (k9 C7 (j1 (i4 K) (pv 3) c8) (pv 1) (m3 _)) (i0 (j6 (pv 1))) j7)))
  (d9 (A2 PassesOwn.never rfl (o6 K (i8 (P4 K) rfl T.yZ boot_sorted (a8 (pv 2) c7 a9))) (m5 (i:=4) P5.nd rfl (Or.inl rfl))
  (i0 (A2 PassesOwn.never rfl (o6 K (pv 0)) (m5 (i:=3) P5.nd rfl (Or.inl rfl))
  (i0 (m8 (k9 (gZ K) (pv 4) (j1 (i4 K) (pv 3) c8) (by with_unfolding_all rfl)) (i0 (j6 (j1 (i4 K) (pv 3) c8))) j7)))))
  (i0 (j6 w6)))),?_⟩
 refine⟨_,rfl,l,rfl,⟨_,hl⟩,?_⟩
 refine B0 (xs:=as.map V.ref) (λi σ H'=>H'=H/\(∀k∈ks.take i,k.c≠c)/\∃v3,σ=[some (.ref l),some (.int c),some (.ref e),v3,none])
  ⟨rfl,(λk z=>nomatch z),none,rfl⟩ (λi σ H' _ g=>by rw[g.1];exact hl) ?_ ?_
 ·rintro i x σ G hx ⟨rfl,no,v3,rfl⟩
  rw[List.getElem?_map] at hx;obtain⟨p,hp,rfl⟩:=Option.map_eq_some_iff.mp hx;obtain⟨k,hk,ce,e1,e2⟩:=j9 hC i p hp;refine⟨_,rfl,p,_,_,_,rfl,rfl,SqT.of e2,rfl,_,rfl,rfl,_,rfl,?_⟩;refine B1 (λz=>?_) (λz=>?_)
  ·have z':k.c=c:=V.int.inj (of_decide_eq_true z)
   exact⟨_,rfl,qB c _ (λb u y=>y) (.inl ⟨⟨k,List.mem_of_getElem? hk,z'⟩,rfl⟩)⟩
  ·have z':¬k.c=c:=λy=>z (decide_eq_true (by rw[y]))
   refine⟨rfl,λk' hk'=>?_,_,rfl⟩;rw[take_add_one,hk] at hk'
   rcases mem_append.mp hk' with y|y
   ·exact no k' y
   ·rw[mem_singleton.mp y]
    exact z'
 ·rintro σ G ⟨rfl,no,v3,rfl⟩
  rw[length_map,la,take_length] at no;refine⟨_,rfl,e,es,rfl,he,h64,λns' pm srt sl hsl=>?_⟩;have s1:=c9 hsl (.lst (ns'.map V.int));have esl:=@c6 G sl (.lst (ns'.map V.int));generalize upd G sl _=H1 at s1 esl ⊢;refine⟨sl,rfl,⟨_,SqL.of esl⟩,?_⟩
  refine B0 (xs:=ns'.map V.int) (λi σ H'=>H'=H1/\(∀e∈ns'.take i,∀k∈ks,¬e∈k.es)/\∃v3 v4,σ=[some (.ref l),some (.int c),some (.ref e),v3,v4])
   ⟨rfl,(λe z=>nomatch z),_,_,rfl⟩ (λi σ H' _ g=>by rw[g.1];exact SqL.of esl) ?_ ?_
  ·rintro i x σ G2 hx ⟨rfl,low,v3,v4,rfl⟩
   rw[List.getElem?_map] at hx;obtain⟨en,hen,rfl⟩:=Option.map_eq_some_iff.mp hx;refine⟨_,rfl,l,rfl,⟨_,s1.seq hl⟩,?_⟩
   refine B0 (xs:=as.map V.ref) (λj σ H'=>H'=G2/\(∀k∈ks.take j,¬en∈k.es)/\∃v3,σ=[some (.ref l),some (.int c),some (.ref e),v3,some (.int en)])
    ⟨rfl,(λk z=>nomatch z),_,rfl⟩ (λj σ H' _ g=>by rw[g.1];exact s1.seq hl) ?_ ?_
   ·rintro j x σ G3 hx ⟨rfl,lo2,v3,rfl⟩
    rw[List.getElem?_map] at hx;obtain⟨p,hp,rfl⟩:=Option.map_eq_some_iff.mp hx;obtain⟨k,hk,ce,e1,e2⟩:=j9 hC j p hp;refine⟨_,rfl,_,rfl,p,_,_,_,rfl,rfl,SqT.of (s1 _ _ e2),rfl,ce,_,rfl,.inr (SqT.of (s1 _ _ e1)),rfl,S6 k.es,_,rfl,?_⟩;rw[bG];refine B1 (λz=>?_) (λz=>?_)
    ·have z':en∈k.es:=by simpa using z
     refine⟨_,rfl,p,_,_,_,rfl,rfl,SqT.of (s1 _ _ e2),rfl,qB k.c _ s1 (.inr ⟨no,en,pm.mem_iff.mp (List.mem_of_getElem? hen),⟨k,List.mem_of_getElem? hk,z',rfl⟩,λe' he' lt=>?_⟩)⟩;refine low e' ?_;obtain⟨j',hj,ej⟩:=getElem_of_mem (pm.mem_iff.mpr he');have hi:=List.getElem?_eq_some_iff.mp hen
     by_cases z:j'<i
     ·rw[List.mem_take_iff_getElem]
      exact⟨j',by lia,ej⟩
     ·by_cases y:j'=i
      ·subst y
       rw[hi.2] at ej;lia
      ·have:=(List.pairwise_iff_getElem.mp srt) i j' hi.1 hj (by lia)
       rw[hi.2,ej] at this;lia
    ·have z':¬en∈k.es:=by simpa using z
     refine⟨rfl,λk' hk'=>?_,_,rfl⟩;rw[take_add_one,hk] at hk'
     rcases mem_append.mp hk' with y|y
     ·exact lo2 k' y
     ·rw[mem_singleton.mp y]
      exact z'
   ·rintro σ G3 ⟨rfl,lo2,v3,rfl⟩
    rw[length_map,la,take_length] at lo2;refine⟨rfl,λe' he'=>?_,_,_,rfl⟩;rw[take_add_one,hen] at he'
    rcases mem_append.mp he' with y|y
    ·exact low e' y
    ·rw[mem_singleton.mp y]
     exact lo2
  ·rintro σ G2 ⟨rfl,low,v3,v4,rfl⟩
   rw[length_map,take_length] at low;exact q _ s1 ⟨no,λe he=>low e (pm.mem_iff.mpr he)⟩
def dI (ns:List Int):(y9 ns).length=ns.length↔ns.Nodup:=by
 have n2:=A7 (D8 ns)
 constructor
 ·intro h
  have:=E6 (y9 ns) ns n2 (λx hx=>(D0 x ns).mp hx) (by lia)
  exact this.nodup_iff.mp n2
 ·intro h
  have:=E6 ns (y9 ns) h (λx hx=>(D0 x ns).mpr hx) (Z9 ns)
  exact this.length_eq.symm
def eT {h:l9}{xs ys:List V}{x:V}(hx:m4 x 0 (h.o*h.e-1)=false):C0 h (some (xs++[x]++ys))=false:=by
 show(!(xs++[x]++ys).isEmpty&&((xs++[x]++ys).all (λx=>m4 x 0 (h.o*h.e-1))&&E3 (xs++[x]++ys)))=false
 have:(xs++[x]++ys).all (λx=>m4 x 0 (h.o*h.e-1))=false:=by
  rw[List.all_append,List.all_append,all_cons,hx,Bool.false_and,Bool.and_false,Bool.false_and]
 rw[this,Bool.false_and,Bool.and_false]
def lE (xs:List V)(a:Nat):S7 xs none (some (a:Int))=xs.take a:=by
 unfold S7;rw[HT.sIx_none,show HT.sIx xs.length xs.length (some (a:Int))=min a xs.length from HT.sIx_nat _ _ a,drop_zero,Nat.sub_zero];exact List.take_eq_take_iff.mpr (by lia)
def rP (xs:List V)(a:Nat):S7 xs (some (a:Int)) none=xs.drop a:=by
 unfold S7;rw[HT.sIx_none,show HT.sIx xs.length 0 (some (a:Int))=min a xs.length from HT.sIx_nat _ _ a]
 rcases Nat.le_total a xs.length with h|h
 ·rw[Nat.min_eq_left h]
  exact List.take_of_length_le (by rw[length_drop];lia)
 ·rw[Nat.min_eq_right h,List.drop_length,List.drop_eq_nil_of_le h,List.take_nil]
def iU {K:Frag}:kitOne K (.type "tuple") (.type "list")=some false:=B4 (by decide +kernel)
def gY {K:Frag}:kitOne K (.type "tuple") (.type "tuple")=some true:=B4 (by decide +kernel)
def iT {K:Frag}:kitOne K (.type "list") (.type "tuple")=some false:=B4 (by decide +kernel)
def gX {K:Frag}:kitOne K (.type "list") (.type "list")=some true:=B4 (by decide +kernel)
def U2 {K:Frag}:kitOne K (.type "int") (.type "int")=some true:=B4 (by decide +kernel)
def S1 {K:Frag}:kitOne K (.type "int") (.type "bool")=some false:=B4 (by decide +kernel)
theorem rC {x:V}{lo hi:Int}(ni:∀i,x≠.int i):m4 x lo hi=false:=by
 cases x with
 | int i=>exact absurd rfl (ni i)
 | _=>rfl
def gz {b:Bool}{A B:Prop}(h1:b=true->B)(h2:¬b=true->A):if (!b)=true then A else B:=by
 cases b
 ·exact h2 (by decide)
 ·exact h1 rfl
structure N8 (h:l9)(xs:List V)(i:Nat)(ns:List Int):Prop where
 at_:xs.take i=ns.map V.int
 nd:ns.Nodup
 bd:∀e∈ns,0<=e/\e<h.o*h.e
theorem N8.bad {h:l9}{xs:List V}{i:Nat}{x:V}(hx:xs[i]? = some x)(b:m4 x 0 (h.o*h.e-1)=false):C0 h (some xs)=false:=by
 have e:xs=xs.take i++[x]++xs.drop (i+1):=by
  have:=take_append_drop (i+1) xs
  rw[take_add_one,hx] at this;exact this.symm
 rw[e];exact eT b
theorem N8.twice {h:l9}{xs:List V}{i:Nat}{e:Int}{ns:List Int}(g:N8 h xs i ns)(hx:xs[i]? = some (.int e))(he:e∈ns):C0 h (some xs)=false:=by
 show(!xs.isEmpty&&(xs.all (λx=>m4 x 0 (h.o*h.e-1))&&E3 xs))=false
 cases a:xs.all (λx=>m4 x 0 (h.o*h.e-1)) with
 | false=>rw[Bool.false_and,Bool.and_false]
 | true =>
  obtain⟨ms,rfl⟩:=bR a
  have:E3 (ms.map V.int)=false:=by
   unfold E3;rw[P6,length_map];refine decide_eq_false λz=>?_;have nd:=(dI _).mp z;rw[List.getElem?_map] at hx;obtain⟨e',he',y⟩:=Option.map_eq_some_iff.mp hx
   cases y
   have at_:=g.at_;rw[<- List.map_take] at at_;have at2:ms.take i=ns:=(List.map_inj_right (λa b z=>V.int.inj z)).mp at_
   have m2:ms=ms.take i++[e]++ms.drop (i+1):=by
    have:=take_append_drop (i+1) ms
    rw[take_add_one,he'] at this;exact this.symm
   rw[m2,at2] at nd;have nd1:=(nodup_append.mp nd).1;exact(nodup_append.mp nd1).2.2 e he e (mem_singleton.mpr rfl) rfl
  rw[this,Bool.and_false,Bool.and_false]
theorem N8.snoc {h:l9}{xs:List V}{i:Nat}{e:Int}{ns:List Int}(g:N8 h xs i ns)(hx:xs[i]? = some (.int e))(no:¬e∈ns)(b:0<=e/\e<h.o*h.e):N8 h xs (i+1) (ns++[e]):=by
 refine⟨?_,gw g.nd no,λe' he'=>?_⟩
 ·rw[take_add_one,hx,map_append,g.at_]
  rfl
 ·rcases mem_append.mp he' with z|z
  ·exact g.bd e' z
  ·rw[mem_singleton.mp z]
   exact b
theorem N8.done {h:l9}{xs:List V}{ns:List Int}(g:N8 h xs xs.length ns)(ne:xs≠[]):C0 h (some xs)=true:=by
 have at_:=g.at_;rw[take_length] at at_;subst at_
 show(!(ns.map V.int).isEmpty&&((ns.map V.int).all (λx=>m4 x 0 (h.o*h.e-1))&&E3 (ns.map V.int)))=true
 have h1:(!(ns.map V.int).isEmpty)=true:=by
  cases ns with
  | nil=>exact absurd rfl ne
  | cons _ _=>rfl
 have h2:(ns.map V.int).all (λx=>m4 x 0 (h.o*h.e-1))=true:=by
  rw[all_eq_true]
  intro x hx
  obtain⟨e,he,rfl⟩:=mem_map.mp hx
  have:=g.bd e he
  show(decide (0<=e)&&decide (e<=h.o*h.e-1))=true
  rw[decide_eq_true this.1,decide_eq_true (by lia)]
  rfl
 rw[h1,h2];unfold E3;rw[P6,length_map,decide_eq_true ((dI ns).mpr g.nd)];rfl
def rK (K:Frag):Sp:=λvs H Q _=>∃(a:Addr)(h:l9)(x y:V)(o:Option (List V)),vs=[.ref a,x,y]/\SqT K H a (h.row.map V.int)/\h.Ok/\A0 K H x/\O8 K H y o/\∀H',i9 H H'->Q (.bl (!(m4 x 0 (h.i*h.c-1)&&C0 h o))) H'
def jF {ta tb:TE}{σ:L2.St}{H:Hp}{Q:VK}(R:V->Hp->Prop)(h1:(∀v G,R v G->Q v G)->ta σ H Q\/tb σ H Q)(h2:∀v G,R v G->Q v G):vB ta tb σ H Q:=h1 h2
theorem O8.split {K:Frag}{H:Hp}{y:V}{o:Option (List V)}(h:O8 K H y o):(o=none/\∃t,N7 K H y t/\kitOne K t (.type "list")=some false/\kitOne K t (.type "tuple")=some false)\/∃e xs,y=.ref e/\o=some xs/\(H e=some (.lst xs)\/H e=some (.tup xs))/\(∀x∈xs,A0 K H x)/\xs.length<=64:=by
 cases h with
 | lst e hp hn=>exact .inr ⟨_,_,rfl,rfl,.inl e,hp,hn⟩
 | tup e hp hn=>exact .inr ⟨_,_,rfl,rfl,.inr e,hp,hn⟩
 | no t a b=>exact .inl ⟨rfl,_,t,a,b⟩
def T5:FnScope ["_law_hall_here","_law_caller_here","_law_ends_here","_law_k","_law_end"] ["_law_hall_here","_law_caller_here","_law_ends_here"] (i3 (top 70)):=mkF
theorem uw (T:Txt K mg)(D:Def K mg "_law_none" (top 70) p_11):i6 P w K mg base 1 "_law_none" p_11 (rK K):=by
 refine D.ok T5 (λ_ _ _ _ h=>?_) (λ_ _ _ _ _ H _ Q E hr h=>?_)
 ·obtain⟨a,h,x,y,o,rfl,_⟩:=h
  rfl
 obtain⟨a,h,x,y,o,rfl,hH,ok,px,ey,q⟩:=h
 refine⟨_,(d9 (m8 (PW.pt (bn (w9 K (i8 (y8 K) rfl T.yJ boot_isinstance (a8 (pv 1) (a8 (D4 (v:=.ty "bool") rfl T.BL boot_bool rfl) c7 a9) a9)) (λ_=>rfl)) (aB (F0 (w9 K (i8 (y8 K) rfl T.yJ boot_isinstance (a8 (pv 1) (a8 (D4 (v:=.ty "int") rfl T.BH boot_int rfl) c7 a9) a9)) (λ_=>rfl)))))) (i0 (j6 K2)) j7)
  (d9 (m8 (PW.pt (bn (F0 (w9 K (i8 (af K) rfl T.yJ boot_isinstance (a8 (pv 2) (a8 (C2 (a8 (D4 (v:=.ty "list") rfl T.AC boot_list rfl) (a8 (D4 (v:=.ty "tuple") rfl T.zm boot_tuple rfl) c7 a9) a9)) c7 Q0) a9)) (λ_=>rfl))) (aB (k9 C7 (i8 (u6 K) rfl T.yT boot_len (a8 (pv 2) c7 a9)) c8 (m3 _))))) (i0 (j6 K2)) j7)
  (d9 (A2 PassesOwn.never rfl (D1 rfl T.za (a8 (i8 (u6 K) rfl T.yT boot_len (a8 (pv 2) c7 a9)) c7 o8)) (m5 (i:=3) T5.nd rfl (Or.inl rfl))
  (d9 (j3 (i:=4) T5.nd rfl (Or.inl rfl) (gb (j1 (q9 K) (pv 2) (pv 3)) (j1 (i4 K) (pv 2) (pv 3))))
  (d9 (m8 (PW.pt (bn (w9 K (i8 (y8 K) rfl T.yJ boot_isinstance (a8 (pv 4) (a8 (D4 (v:=.ty "bool") rfl T.BL boot_bool rfl) c7 a9) a9)) (λ_=>rfl)) (bn (F0 (w9 K (i8 (y8 K) rfl T.yJ boot_isinstance (a8 (pv 4) (a8 (D4 (v:=.ty "int") rfl T.BH boot_int rfl) c7 a9) a9)) (λ_=>rfl))) (aB (k9 (gZ K) (pv 4) (gb (Q4 (S5 K) (pv 2) Y9 (R3 (pv 3))) (Q4 tV (pv 2) Y9 (R3 (pv 3)))) (by with_unfolding_all rfl)))))) (i0 (j6 K2)) j7)
  (i0 (m8 (F0 (qS oH cU c8 (pv 4) (i7 r6 (j1 (i4 K) (pv 0) c8) (j1 (i4 K) (pv 0) c8)))) (i0 (j6 K2)) j7)))))
  (i0 (j6 (mx (kC oH cU c8 (pv 1) (i7 r6 (j1 (i4 K) (pv 0) c8) (j1 (i4 K) (pv 0) c8))))))))),?_⟩
 cases px with
 | @odd _ t b1 b2 ni ty k1 k2 hb =>
  have q':=q H (λb u z=>z);rw[rC ni] at q';refine⟨_,rfl,_,_,_,b2,rfl,ty,k2,b2,rfl,?_⟩
  cases b2 with
  | true=>exact M6 q'
  | false =>
   have:b1=false:=hb.elim id λz=>nomatch z
   subst this;exact D9 ⟨_,rfl,_,_,_,false,rfl,ty,k1,false,rfl,M6 q'⟩
 | int c =>
  have s2:∀t,i9 H (upd H t (.tup [.ty "list",.ty "tuple"]))->True:=λ_ _=>True.intro
  rcases ey.split with⟨rfl,t,ty,k1,k2⟩|⟨e,xs,rfl,rfl,eK,hp,hn⟩
  ·refine⟨_,rfl,_,_,_,false,rfl,.int c,S1,false,rfl,D9 ?_⟩
   refine⟨_,rfl,_,_,_,true,rfl,.int c,U2,true,rfl,D9 ?_⟩;refine⟨_,rfl,z_2,λtp htp=>?_⟩
   have s1:=c9 htp (.tup [.ty "list",.ty "tuple"]);have q':=q _ s1;rw[show C0 h none=false from rfl,Bool.and_false] at q';exact⟨y,tp,t,_,_,false,false,rfl,c6,N7.same s1 ty,k1,k2,false,rfl,M6 q'⟩
  ·have sq:∀{G:Hp},i9 H G->SqL K G e xs\/SqT K G e xs:=λs=>eK.imp (λz=>SqL.of (s _ _ z)) λz=>SqT.of (s _ _ z)
   refine⟨_,rfl,_,_,_,false,rfl,.int c,S1,false,rfl,D9 ?_⟩;refine⟨_,rfl,_,_,_,true,rfl,.int c,U2,true,rfl,D9 ?_⟩;refine⟨_,rfl,z_2,λtp htp=>?_⟩
   have s1:=c9 htp (.tup [.ty "list",.ty "tuple"]);have etp:=@c6 H tp (.tup [.ty "list",.ty "tuple"]);generalize upd H tp _=H1 at s1 etp ⊢;obtain⟨ty,b1,b2,hty,k1,k2,hb⟩:∃ty b1 b2,N7 K H1 (.ref e) ty/\kitOne K ty (.type "list")=some b1/\kitOne K ty (.type "tuple")=some b2/\(b1 || b2)=true:=eK.elim (λz=>⟨_,_,_,.lst (s1 _ _ z),gX,iT,rfl⟩) λz=>⟨_,_,_,.tup (s1 _ _ z),iU,gY,rfl⟩
   refine⟨.ref e,tp,ty,_,_,b1,b2,rfl,etp,hty,k1,k2,_,rfl,iy (by rw[hb];decide) ?_⟩
   refine⟨_,rfl,e,_,rfl,sq s1,rfl,_,rfl,?_⟩;refine B1 (λz=>?_) (λz=>?_)
   ·have z':xs=[]:=by
     have:=V.int.inj (of_decide_eq_true z)
     exact eq_nil_of_length_eq_zero (by lia)
    have q':=q _ s1;rw[z',show C0 h (some [])=false from rfl,Bool.and_false] at q';exact q'
   have ne:xs≠[]:=λy=>z (decide_eq_true (by rw[y];rfl))
   refine⟨_,rfl,e,_,rfl,sq s1,_,rfl,by show -(2^62)<=((xs.length:Nat):Int);lia,by show((xs.length:Nat):Int)<2^62;lia,?_⟩
   refine E5 (λi σ H'=>i9 H H'/\(∃ns,N8 h xs i ns)/\∃v3 v4,σ=[some (.ref a),some (.int c),some (.ref e),v3,v4])
    ⟨s1,⟨[],rfl,nodup_nil,λe z=>nomatch z⟩,none,none,rfl⟩ ?_ ?_
   ·rintro i σ H' hi ⟨s2,⟨ns,g⟩,v3,v4,rfl⟩
    rw[Int.zero_add];have hi':i<xs.length:=by lia
    have ex:xs[i]? = some (xs[i]'hi'):=List.getElem?_eq_getElem hi';have pX:=hp _ (getElem_mem hi');generalize xs[i]'hi'=xv at ex pX
    have q0:∀H',i9 H H'->C0 h (some xs)=false->Q (.bl true) H':=λH' s z=>by
     have q':=q H' s;rw[z,Bool.and_false] at q';exact q'
    refine jF (λv G=>xv=v/\H'=G) (λkey=>(sq s2).imp (λz=>⟨_,rfl,_,rfl,e,_,_,_,rfl,rfl,z,B3 ex,key _ _ ⟨rfl,rfl⟩⟩) λz=>⟨_,rfl,_,rfl,e,_,_,_,rfl,rfl,z,B3 ex,key _ _ ⟨rfl,rfl⟩⟩) ?_
    rintro _ _ ⟨rfl,rfl⟩
    cases pX with
    | @odd _ t b1 b2 ni ty k1 k2 hb =>
     have ty2:=N7.same s2 ty;have bad:=q0 H' s2 (N8.bad ex (rC ni));refine⟨_,rfl,_,_,_,b2,rfl,ty2,k2,b2,rfl,?_⟩
     cases b2 with
     | true=>exact M6 bad
     | false =>
      have:b1=false:=hb.elim id λz=>nomatch z
      subst this;exact D9 ⟨_,rfl,_,_,_,false,rfl,ty2,k1,false,rfl,M6 bad⟩
    | int en =>
     refine⟨_,rfl,_,_,_,false,rfl,.int en,S1,false,rfl,D9 ?_⟩;refine⟨_,rfl,_,_,_,true,rfl,.int en,U2,true,rfl,D9 ?_⟩;refine⟨_,rfl,jF (λv G=>∃cp,v=.ref cp/\i9 H' G/\(SqL K G cp (ns.map V.int)\/SqT K G cp (ns.map V.int))) (λkey=>eK.imp (λz=>⟨_,rfl,_,rfl,_,rfl,e,_,rfl,SqL.of (s2 _ _ z),λcp hcp=>key _ _ ⟨cp,rfl,c9 hcp _,.inl (SqL.of (by rw[c6,lE,g.at_]))⟩⟩) λz=>⟨_,rfl,_,rfl,_,rfl,e,_,rfl,s2 _ _ z,λcp H3 s3 ecp=>key _ _ ⟨cp,rfl,s3,.inr (SqT.of (by rw[ecp,lE,g.at_]))⟩⟩) ?_⟩
     rintro _ H3 ⟨cp,rfl,s3,ecp⟩
     refine⟨cp,_,rfl,ecp,rfl,S6 ns,_,rfl,?_⟩;have s23:=s2.trans s3;rw[bG];refine B1 (λz=>?_) (λz=>?_)
     ·exact q0 _ s23 (g.twice ex (by simpa using z))
     ·have no:¬en∈ns:=by simpa using z
      refine⟨_,rfl,_,_,rfl,rfl,_,rfl,?_⟩;have o1:=ok.o;have hH2:=i9.seqT s23 hH;refine B1 (λc1=>?_) (λc1=>?_)
      ·have c1':(0:Int)<=en:=of_decide_eq_true c1
       refine⟨_,rfl,a,_,_,_,rfl,rfl,hH2,rfl,_,rfl,a,_,_,_,rfl,rfl,hH2,rfl,_,_,rfl,rfl,.inl ⟨by lia,by lia⟩,_,_,rfl,rfl,_,rfl,?_⟩
       refine gz (λc2=>?_) (λc2=>?_)
       ·exact⟨s23,⟨_,g.snoc ex no ⟨c1',of_decide_eq_true c2⟩⟩,_,_,rfl⟩
       ·refine q0 _ s23 (N8.bad ex ?_)
        show(decide (0<=en)&&decide (en<=h.o*h.e-1))=false
        have:¬en<h.o*h.e:=λy=>c2 (decide_eq_true y)
        rw[decide_eq_false (by lia:¬en<=h.o*h.e-1),Bool.and_false]
      ·have c1':¬(0:Int)<=en:=λy=>c1 (decide_eq_true y)
       refine⟨_,rfl,M6 (q0 _ s23 (N8.bad ex ?_))⟩
       show(decide (0<=en)&&decide (en<=h.o*h.e-1))=false
       rw[decide_eq_false c1',Bool.false_and]
   ·rintro σ H' ⟨s2,⟨ns,g⟩,v3,v4,rfl⟩
    have g':N8 h xs xs.length ns:=g;have q':=q H' s2;rw[g'.done ne,Bool.and_true] at q';have i1:=ok.i;have hH2:=i9.seqT s2 hH;refine⟨_,rfl,_,_,rfl,rfl,_,rfl,?_⟩;refine B1 (λc1=>?_) (λc1=>?_)
    ·have c1':(0:Int)<=c:=of_decide_eq_true c1
     refine⟨_,rfl,a,_,_,_,rfl,rfl,hH2,rfl,_,rfl,a,_,_,_,rfl,rfl,hH2,rfl,_,_,rfl,rfl,.inl ⟨by lia,by lia⟩,_,_,rfl,rfl,_,rfl,?_⟩
     rw[show m4 (.int c) 0 (h.i*h.c-1)=decide (c<h.i*h.c) by
      show(decide (0<=c)&&decide (c<=h.i*h.c-1))=decide (c<h.i*h.c)
      rw[decide_eq_true c1',Bool.true_and]
      exact decide_eq_decide.mpr (by lia)] at q'
     exact q'
    ·have c1':¬(0:Int)<=c:=λy=>c1 (decide_eq_true y)
     rw[show m4 (.int c) 0 (h.i*h.c-1)=false by
      show(decide (0<=c)&&decide (c<=h.i*h.c-1))=false
      rw[decide_eq_false c1',Bool.false_and]] at q'
     exact⟨_,rfl,q'⟩
def ny {K:Frag}{H:Hp}(b:Bool):A0 K H (.bl b):=.odd (λ_ z=>nomatch z) (.bl b) gN eS (.inr rfl)
def jT {K:Frag}{H:Hp}:A0 K H .non:=.odd (λ_ z=>nomatch z) .non jc iI (.inl rfl)
def kq {K:Frag}{H:Hp}(x:Str):A0 K H (.str x):=.odd (λ_ z=>nomatch z) (.str x) jB hV (.inl rfl)
def kO {K:Frag}{H:Hp}{a:Addr}{xs:List V}(e:H a=some (.lst xs)):A0 K H (.ref a):=.odd (λ_ z=>nomatch z) (.lst e) bT iG (.inl rfl)
def fO (K:Frag):Sp:=λvs H Q _=>∃(a l:Addr)(h:l9)(as:List Addr)(ks:List Call)(n:Int),vs=[.ref a,.ref l,.int n]/\SqT K H a (h.row.map V.int)/\h.Ok/\SqL K H l (as.map V.ref)/\j8 H as ks/\∀(v:V)(H':Hp),i9 H H'->A0 K H' v->Q v H'
def tj {as:List Addr}{n:Int}(hp:as≠[]):∃(j:Nat)(p:Addr),as[j]? = some p/\atI (as.map V.ref) (n%(((as.map V.ref).length:Nat):Int))=some (.ref p):=by
 have hpos:0<as.length:=List.length_pos_iff.mpr hp;have ln:(as.map V.ref).length=as.length:=length_map _;obtain⟨ie,hie⟩:∃ie:Nat,n%(((as.map V.ref).length:Nat):Int)=(ie:Int):=⟨_,(Int.toNat_of_nonneg (Int.emod_nonneg _ (by lia))).symm⟩
 have hie2:ie<as.length:=by
  have:=Int.emod_lt_of_pos n (show(0:Int)<(((as.map V.ref).length:Nat):Int) by lia)
  lia
 refine⟨ie,as[ie]'hie2,List.getElem?_eq_getElem hie2,?_⟩;rw[hie];exact B3 (by rw[List.getElem?_map,List.getElem?_eq_getElem hie2];rfl)
def P8:FnScope ["_law_hall_here","_law_calls_here","_law_number_here","_law_many","_law_way"] ["_law_hall_here","_law_calls_here","_law_number_here"] (i3 (top 68)):=mkF
def mK (T:Txt K mg)(D:Def K mg "_law_caller" (top 68) p_2):i6 P w K mg base 1 "_law_caller" p_2 (fO K):=by
 refine D.ok P8 (λ_ _ _ _ h=>?_) (λ_ _ _ _ _ H _ Q E hr h=>?_)
 ·obtain⟨a,l,h,as,ks,n,rfl,_⟩:=h
  rfl
 obtain⟨a,l,h,as,ks,n,rfl,hH,ok,hl,hC,q⟩:=h;have b1:=mw ok.i ok.c;have b2:=ok.i
 refine⟨_,(d9 (j3 (i:=3) P8.nd rfl (Or.inl rfl) (i7 r6 (j1 (i4 K) (pv 0) c8) (j1 (i4 K) (pv 0) c8)))
  (d9 (j3 (i:=4) P8.nd rfl (Or.inl rfl) (i7 o7 (i7 o7 (i7 r6 (pv 2) c8) c8) c8))
  (d9 (m8 (k9 C7 (pv 4) c8 (m3 _)) (i0 (j6 (j1 (q9 K) (n6 (a8 (fi bQ c8) (a8 (pv 3) (a8 K2 (a8 w6 (a8 Q5 (a8 (n6 (a8 c8 c7 l8)) c7 J4) l8) l8) l8) a9) jR)) (i7 o7 (i7 o7 (i7 r6 (pv 2) c8) c8) c8)))) j7)
  (d9 (m8 (PW.pt (dD (k9 cU (pv 4) c8 (m3 _)) (aN (k9 (bJ K (B5.units0 hr)) (pv 1) (n6 c7) (m3 _))))) (i0 (j6 (j1 (i4 K) (j1 (q9 K) (pv 1) (i7 o7 (i7 o7 (i7 r6 (pv 2) c8) c8) (i8 (u6 K) rfl T.yT boot_len (a8 (pv 1) c7 a9)))) c8))) j7)
  (i0 (j6 (i7 o7 (i7 o7 (i7 r6 (pv 2) c8) c8) (pv 3)))))))),?_⟩
 refine⟨_,rfl,a,_,_,_,rfl,rfl,hH,rfl,_,rfl,a,_,_,_,rfl,rfl,hH,rfl,_,_,rfl,rfl,.inl ⟨by lia,by lia⟩,?_⟩
 refine⟨_,rfl,_,_,rfl,rfl,.inr ⟨by decide,by decide⟩,_,_,rfl,rfl,(by show(0:Int)<999953;decide),_,_,rfl,rfl,(by show(0:Int)<8;decide),?_⟩
 refine⟨_,rfl,rfl,_,rfl,?_⟩;refine B1 (λ_=>?_) (λ_=>?_)
 ·refine⟨_,rfl,_,rfl,z_1,λl6 hl6=>?_⟩
  have el6:=@c6 H l6 (.lst [.int 0]);have s6:=c9 hl6 (.lst [.int 0]);generalize upd H l6 _=H6 at el6 s6 ⊢;refine⟨z_6,λld hld=>?_⟩
  have eld:=@c6 H6 ld (.lst [.int (-1),.int (h.i*h.c),.bl true,.non,.str "0",.ref l6]);have s7':=c9 hld (.lst [.int (-1),.int (h.i*h.c),.bl true,.non,.str "0",.ref l6]);have s7:=s6.trans s7';have el7:=s7' _ _ el6;generalize upd H6 ld _=H7 at eld s7 el7 ⊢;obtain⟨j,hj,hj6⟩:∃j:Nat,n*16807%999907%6=(j:Int)/\j<6:=⟨(n*16807%999907%6).toNat,by lia,by lia⟩
  obtain⟨odd,ho1,ho2⟩:∃odd:V,atI [.int (-1),.int (h.i*h.c),.bl true,.non,.str "0",.ref l6] (n*16807%999907%6)=some odd/\A0 K H7 odd:=by
   rw[hj]
   match j,hj6 with
   | 0,_=>exact⟨_,rfl,.int _⟩
   | 1,_=>exact⟨_,rfl,.int _⟩
   | 2,_=>exact⟨_,rfl,ny _⟩
   | 3,_=>exact⟨_,rfl,jT⟩
   | 4,_=>exact⟨_,rfl,kq _⟩
   | 5,_=>exact⟨_,rfl,kO el7⟩
  exact⟨_,rfl,_,_,rfl,rfl,.inr ⟨by decide,by decide⟩,_,_,rfl,rfl,(by show(0:Int)<999907;decide),_,_,rfl,rfl,(by show(0:Int)<6;decide),ld,_,_,_,rfl,rfl,SqL.of eld,ho1,q odd H7 s7 ho2⟩
 ·have fin:∀{G:Hp},i9 H G->Q (.int (n*62089911%999931%(h.i*h.c))) G:=λs=>q _ _ s (.int _)
  refine⟨_,rfl,_,_,rfl,rfl,_,rfl,?_⟩;refine B1 (λ_=>?_) (λ_=>?_)
  ·refine⟨_,rfl,z_0,λnl hnl=>?_⟩
   have s3:=c9 hnl (.lst []);have enl:=@c6 H nl (.lst []);generalize upd H nl _=H3 at s3 enl ⊢;refine⟨l,nl,_,rfl,rfl,s3.seq hl,SqL.of enl,_,rfl,?_⟩;refine gz (λc2=>?_) (λc2=>?_)
   ·exact⟨_,rfl,_,_,rfl,rfl,.inr ⟨by decide,by decide⟩,_,_,rfl,rfl,(by show(0:Int)<999931;decide),_,rfl,_,_,rfl,rfl,(by show(0:Int)<h.i*h.c;lia),fin s3⟩
   ·have ne:as≠[]:=λz=>c2 (decide_eq_true (by rw[z];rfl))
    have pos:0<as.length:=List.length_pos_iff.mpr ne;obtain⟨j,p,hj,hat⟩:=tj (n:=n*742938285%999959) ne;obtain⟨k,hk,ce,e1,e2⟩:=j9 hC j p hj;exact⟨_,rfl,_,rfl,_,_,rfl,rfl,.inr ⟨by decide,by decide⟩,_,_,rfl,rfl,(by show(0:Int)<999959;decide),_,rfl,l,_,rfl,.inl (s3.seq hl),_,_,rfl,rfl,(by show(0:Int)<(((as.map V.ref).length:Nat):Int);rw[length_map];lia),l,_,_,_,rfl,rfl,s3.seq hl,hat,p,_,_,_,rfl,rfl,SqT.of (s3 _ _ e2),rfl,q _ _ s3 (.int _)⟩
  ·exact⟨_,rfl,_,_,rfl,rfl,.inr ⟨by decide,by decide⟩,_,_,rfl,rfl,(by show(0:Int)<999931;decide),_,rfl,_,_,rfl,rfl,(by show(0:Int)<h.i*h.c;lia),fin λb u z=>z⟩
def kr (K:Frag):Sp:=λvs H Q _=>∃(a l:Addr)(h:l9)(as:List Addr)(ks:List Call)(n:Int),vs=[.ref a,.ref l,.int n]/\SqT K H a (h.row.map V.int)/\h.Ok/\SqL K H l (as.map V.ref)/\j8 H as ks/\(∀k∈ks,k.In h)/\∀(v:V)(o:Option (List V))(H':Hp),i9 H H'->O8 K H' v o->(∀xs,o=some xs->xs.length<=13)->wQ v o->Q v H'
def gE {K:Frag}:kitOne K (.type "NoneType") (.type "list")=some false:=B4 (by decide +kernel)
def iN {K:Frag}:kitOne K (.type "NoneType") (.type "tuple")=some false:=B4 (by decide +kernel)
def hZ {K:Frag}:kitOne K (.type "str") (.type "list")=some false:=B4 (by decide +kernel)
def gT {K:Frag}:kitOne K (.type "str") (.type "tuple")=some false:=B4 (by decide +kernel)
def I9 {K:Frag}{H:Hp}(es:List Int):∀x∈es.map V.int,A0 K H x:=λx hx=>by
 obtain⟨i,_,rfl⟩:=mem_map.mp hx;exact .int i
def y7:FnScope ["_law_hall_here","_law_calls_here","_law_number_here","_law_ends_here","_law_many","_law_way","_law_odd","_law_some","_law_end","_law_at"] ["_law_hall_here","_law_calls_here","_law_number_here"] (i3 (top 69)):=mkF
def qF (T:Txt K mg)(zF:i6 P w K mg base 1 "_law_ends" p_15 (lA K))(D:Def K mg "_law_wanted" (top 69) p_2):i6 P w K mg base 2 "_law_wanted" p_2 (kr K):=by
 refine D.ok y7 (λ_ _ _ _ h=>?_) (λ_ _ _ _ _ H _ Q E hr h=>?_)
 ·obtain⟨a,l,h,as,ks,n,rfl,_⟩:=h
  rfl
 obtain⟨a,l,h,as,ks,n,rfl,hH,ok,hl,hC,hin,q⟩:=h;have b2:=ok.o
 refine⟨_,(d9 (j3 (i:=3) y7.nd rfl (Or.inl rfl) (m6 zF hr rfl (a8 (pv 0) (a8 (i7 L6 (i7 r6 (pv 2) c8) c8) c7 O5) a9)))
  (d9 (j3 (i:=4) y7.nd rfl (Or.inl rfl) (i7 r6 (j1 (i4 K) (pv 0) c8) (j1 (i4 K) (pv 0) c8)))
  (d9 (j3 (i:=5) y7.nd rfl (Or.inl rfl) (i7 o7 (i7 o7 (i7 r6 (pv 2) c8) c8) c8))
  (d9 (m8 (k9 C7 (pv 5) c8 (m3 _)) (d9 (j3 (i:=6) y7.nd rfl (Or.inl rfl) (n6 (a8 (n6 c7) (a8 (C2 c7) (a8 (n6 (a8 (pv 4) c7 a9)) (a8 (n6 (a8 (fi bQ c8) c7 jR)) (a8 (n6 (a8 (j1 (q9 K) (pv 3) c8) (a8 (j1 (q9 K) (pv 3) c8) c7 m9) m9)) (a8 (n6 (a8 K2 c7 l8)) (a8 w6 (a8 Q5 c7 l8) l8) J4) J4) J4) J4) Q0) J4)))
  (d9 (j3 (i:=6) y7.nd rfl (Or.inl rfl) (i7 Q1 (pv 6) (n6 (a8 (n6 (a8 (j1 (q9 K) (pv 3) c8) (a8 w6 c7 l8) m9)) (a8 (n6 (a8 (n6 (a8 (j1 (q9 K) (pv 3) c8) c7 m9)) c7 J4)) (a8 (n6 (a8 (j1 (q9 K) (pv 3) c8) (a8 Q5 c7 l8) m9)) c7 J4) J4) J4))))
  (i0 (j6 (j1 (q9 K) (pv 6) (i7 o7 (i7 o7 (i7 r6 (pv 2) c8) c8) c8)))))) j7)
  (d9 (m8 (PW.pt (dD (k9 cU (pv 5) c8 (m3 _)) (aN (k9 (bJ K (B5.units0 hr)) (pv 1) (n6 c7) (m3 _))))) (d9 (j3 (i:=7) y7.nd rfl (Or.inl rfl) (j1 (i4 K) (j1 (q9 K) (pv 1) (i7 o7 (i7 o7 (i7 r6 (pv 2) c8) c8) (i8 (u6 K) rfl T.yT boot_len (a8 (pv 1) c7 a9)))) c8))
  (d9 (j3 (i:=8) y7.nd rfl (Or.inl rfl) (j1 (i4 K) (pv 7) (i7 o7 (pv 2) (i8 (u6 K) rfl T.yT boot_len (a8 (pv 7) c7 a9)))))
  (d9 (j3 (i:=9) y7.nd rfl (Or.inl rfl) (i7 o7 (i7 o7 (i7 r6 (pv 2) c8) c8) (i7 L6 (i8 (u6 K) rfl T.yT boot_len (a8 (pv 3) c7 a9)) c8)))
  (i0 (m8 (k9 (fk K) (pv 8) (pv 3) (by with_unfolding_all rfl)) (i0 (j3 (i:=3) y7.nd rfl (Or.inl rfl) (i7 Q1 (i7 Q1 (Q4 (S5 K) (pv 3) Y9 (R3 (pv 9))) (n6 (a8 (pv 8) c7 a9))) (Q4 (S5 K) (pv 3) (R3 (pv 9)) Y9)))) j7))))) j7)
  (d9 (m8 (k9 C7 (i7 o7 (pv 2) c8) c8 (m3 _)) (i0 (j6 (A5 (O3 K) rfl T.zm boot_tuple (a8 (pv 3) c7 a9)))) j7)
  (i0 (j6 (pv 3))))))))),?_⟩
 refine⟨_,rfl,_,rfl,_,_,rfl,rfl,.inr ⟨by decide,by decide⟩,_,_,rfl,rfl,a,h,_,rfl,hH,ok,λel es H1 s1 hel0 eel eo=>?_⟩
 have few:=eo.few;have hpos:0<es.length:=List.length_pos_iff.mpr eo.some;have ln:(es.map V.int).length=es.length:=length_map _;have hH1:=i9.seqT s1 hH;refine⟨_,rfl,a,_,_,_,rfl,rfl,hH1,rfl,_,rfl,a,_,_,_,rfl,rfl,hH1,rfl,_,_,rfl,rfl,.inl ⟨by lia,by lia⟩,?_⟩
 refine⟨_,rfl,_,_,rfl,rfl,.inr ⟨by decide,by decide⟩,_,_,rfl,rfl,(by show(0:Int)<999917;decide),_,_,rfl,rfl,(by show(0:Int)<8;decide),?_⟩
 refine⟨_,rfl,rfl,_,rfl,?_⟩;refine B1 (λ_=>?_) (λ_=>?_)
 ·have at0:atI (es.map V.int) 0=some (.int (es[0]'hpos)):=B3 (j:=0) (by rw[List.getElem?_map,List.getElem?_eq_getElem hpos];rfl)
  generalize es[0]'hpos=e0 at at0;refine⟨z_0,λp0 h0=>?_⟩
  have t0:=c9 h0 (.lst []);have g0:=@c6 H1 p0 (.lst []);generalize upd H1 p0 _=G0 at t0 g0 ⊢;refine⟨z_0,λp1 h1=>?_⟩
  have t1:=c9 h1 (.tup []);have g1:=@c6 G0 p1 (.tup []);generalize upd G0 p1 _=G1 at t1 g1 ⊢;refine⟨_,rfl,z_1,λp2 h2=>?_⟩
  have t2:=c9 h2 (.lst [.int (h.o*h.e)]);have g2:=@c6 G1 p2 (.lst [.int (h.o*h.e)]);generalize upd G1 p2 _=G2 at t2 g2 ⊢;refine⟨_,rfl,z_1,λp3 h3=>?_⟩
  have t3:=c9 h3 (.lst [.int (-1)]);have g3:=@c6 G2 p3 (.lst [.int (-1)]);generalize upd G2 p3 _=G3 at t3 g3 ⊢;have u3:=t0.trans (t1.trans (t2.trans t3));refine⟨_,rfl,el,_,_,_,rfl,rfl,SqL.of (u3 _ _ eel),at0,_,rfl,el,_,_,_,rfl,rfl,SqL.of (u3 _ _ eel),at0,z_2,λp4 h4=>?_⟩
  have t4:=c9 h4 (.lst [.int e0,.int e0]);have g4:=@c6 G3 p4 (.lst [.int e0,.int e0]);generalize upd G3 p4 _=G4 at t4 g4 ⊢;refine⟨z_1,λp5 h5=>?_⟩
  have t5:=c9 h5 (.lst [.bl true]);have g5:=@c6 G4 p5 (.lst [.bl true]);generalize upd G4 p5 _=G5 at t5 g5 ⊢;refine⟨z_8,λpA hA=>?_⟩
  have tA:=c9 hA (.lst [.ref p0,.ref p1,.ref p2,.ref p3,.ref p4,.ref p5,.non,.str "0"]);have gA:=@c6 G5 pA (.lst [.ref p0,.ref p1,.ref p2,.ref p3,.ref p4,.ref p5,.non,.str "0"]);generalize upd G5 pA _=GA at tA gA ⊢;have uA:=u3.trans (t4.trans (t5.trans tA));refine⟨_,rfl,_,rfl,el,_,_,_,rfl,rfl,SqL.of (uA _ _ eel),at0,z_2,λp6 h6=>?_⟩
  have t6:=c9 h6 (.lst [.int e0,.non]);have g6:=@c6 GA p6 (.lst [.int e0,.non]);generalize upd GA p6 _=G6 at t6 g6 ⊢;refine⟨_,rfl,el,_,_,_,rfl,rfl,SqL.of (t6 _ _ (uA _ _ eel)),at0,z_1,λp7 h7=>?_⟩
  have t7:=c9 h7 (.lst [.int e0]);have g7:=@c6 G6 p7 (.lst [.int e0]);generalize upd G6 p7 _=G7 at t7 g7 ⊢;refine⟨z_1,λp8 h8=>?_⟩
  have t8:=c9 h8 (.lst [.ref p7]);have g8:=@c6 G7 p8 (.lst [.ref p7]);generalize upd G7 p8 _=G8 at t8 g8 ⊢;have u8:=t6.trans (t7.trans t8);refine⟨_,rfl,el,_,_,_,rfl,rfl,SqL.of (u8 _ _ (uA _ _ eel)),at0,z_2,λp9 h9=>?_⟩
  have t9:=c9 h9 (.lst [.int e0,.str "0"]);have g9:=@c6 G8 p9 (.lst [.int e0,.str "0"]);generalize upd G8 p9 _=G9 at t9 g9 ⊢;refine⟨z_3,λpB hB=>?_⟩
  have tB:=c9 hB (.lst [.ref p6,.ref p8,.ref p9]);have gB:=@c6 G9 pB (.lst [.ref p6,.ref p8,.ref p9]);generalize upd G9 pB _=GB at tB gB ⊢;have uB:=u8.trans (t9.trans tB);refine⟨pA,pB,_,_,rfl,rfl,uB _ _ gA,gB,z_11,λpC hC'=>?_⟩
  have tC:=c9 hC' (.lst ([.ref p0,.ref p1,.ref p2,.ref p3,.ref p4,.ref p5,.non,.str "0"]++[.ref p6,.ref p8,.ref p9]));have gC:=@c6 GB pC (.lst ([.ref p0,.ref p1,.ref p2,.ref p3,.ref p4,.ref p5,.non,.str "0"]++[.ref p6,.ref p8,.ref p9]));generalize upd GB pC _=GC at tC gC ⊢;have v9:i9 G9 GC:=tB.trans tC;have v8:i9 G8 GC:=t9.trans v9;have v7:i9 G7 GC:=t8.trans v8;have v6:i9 G6 GC:=t7.trans v7;have vA:i9 GA GC:=t6.trans v6;have v5:i9 G5 GC:=tA.trans vA;have v4:i9 G4 GC:=t5.trans v5;have v3:i9 G3 GC:=t4.trans v4;have v2:i9 G2 GC:=t3.trans v3;have v1:i9 G1 GC:=t2.trans v2;have v0:i9 G0 GC:=t1.trans v1;have vH:i9 H GC:=s1.trans (t0.trans v0);obtain⟨j,hj,hj11⟩:∃j:Nat,n*48271%999883%11=(j:Int)/\j<11:=⟨(n*48271%999883%11).toNat,by lia,by lia⟩
  have nil:∀x∈([]:List V),A0 K GC x:=λx hx=>nomatch hx;have one:∀{y:V},A0 K GC y->∀x∈[y],A0 K GC x:=λpy x hx=>by rw[mem_singleton.mp hx];exact py
  have two:∀{y z:V},A0 K GC y->A0 K GC z->∀x∈[y,z],A0 K GC x:=λpy pz x hx=>by
   rcases mem_cons.mp hx with rfl|hx
   ·exact py
   ·rw[mem_singleton.mp hx];exact pz
  obtain⟨odd,o,ho1,ho2,ho3,ho4⟩:∃(odd:V)(o:Option (List V)),atI ([.ref p0,.ref p1,.ref p2,.ref p3,.ref p4,.ref p5,.non,.str "0"]++[.ref p6,.ref p8,.ref p9]) (n*48271%999883%11)=some odd/\O8 K GC odd o/\(∀xs,o=some xs->xs.length<=13)/\wQ odd o:=by
   rw[hj]
   match j,hj11 with
   | 0,_=>exact⟨_,_,rfl,.lst (v0 _ _ g0) nil (by decide),(λxs z=>by cases z;decide),⟨λxs z=>by cases z;rfl,λz=>nomatch z⟩⟩
   | 1,_=>exact⟨_,_,rfl,.tup (v1 _ _ g1) nil (by decide),(λxs z=>by cases z;decide),⟨λxs z=>by cases z;rfl,λz=>nomatch z⟩⟩
   | 2,_=>exact⟨_,_,rfl,.lst (v2 _ _ g2) (one (.int _)) (by show 1<=64;decide),(λxs z=>by cases z;show 1<=13;decide),⟨λxs z=>by cases z;rfl,λz=>nomatch z⟩⟩
   | 3,_=>exact⟨_,_,rfl,.lst (v3 _ _ g3) (one (.int _)) (by show 1<=64;decide),(λxs z=>by cases z;show 1<=13;decide),⟨λxs z=>by cases z;rfl,λz=>nomatch z⟩⟩
   | 4,_=>exact⟨_,_,rfl,.lst (v4 _ _ g4) (two (.int _) (.int _)) (by show 2<=64;decide),(λxs z=>by cases z;show 2<=13;decide),⟨λxs z=>by cases z;rfl,λz=>nomatch z⟩⟩
   | 5,_=>exact⟨_,_,rfl,.lst (v5 _ _ g5) (one (ny _)) (by show 1<=64;decide),(λxs z=>by cases z;show 1<=13;decide),⟨λxs z=>by cases z;rfl,λz=>nomatch z⟩⟩
   | 6,_=>exact⟨_,none,rfl,.no .non gE iN,(λxs z=>nomatch z),⟨(λxs z=>nomatch z),λ_=>.inl rfl⟩⟩
   | 7,_=>exact⟨_,none,rfl,.no (.str _) hZ gT,(λxs z=>nomatch z),⟨(λxs z=>nomatch z),λ_=>.inr ⟨_,rfl⟩⟩⟩
   | 8,_=>exact⟨_,_,rfl,.lst (v6 _ _ g6) (two (.int _) jT) (by show 2<=64;decide),(λxs z=>by cases z;show 2<=13;decide),⟨λxs z=>by cases z;rfl,λz=>nomatch z⟩⟩
   | 9,_=>exact⟨_,_,rfl,.lst (v8 _ _ g8) (one (kO (v7 _ _ g7))) (by show 1<=64;decide),(λxs z=>by cases z;show 1<=13;decide),⟨λxs z=>by cases z;rfl,λz=>nomatch z⟩⟩
   | 10,_=>exact⟨_,_,rfl,.lst (v9 _ _ g9) (two (.int _) (kq _)) (by show 2<=64;decide),(λxs z=>by cases z;show 2<=13;decide),⟨λxs z=>by cases z;rfl,λz=>nomatch z⟩⟩
  exact⟨_,rfl,_,rfl,_,_,rfl,rfl,.inr ⟨by decide,by decide⟩,_,_,rfl,rfl,(by show(0:Int)<999883;decide),_,_,rfl,rfl,(by show(0:Int)<11;decide),pC,_,_,_,rfl,rfl,SqL.of gC,ho1,q odd o GC vH ho2 ho3 ho4⟩
 ·refine⟨_,rfl,_,_,rfl,rfl,_,rfl,?_⟩
  refine B1 (λ_=>?_) (λ_=>?_)
  ·refine⟨_,rfl,z_0,λnl hnl=>?_⟩
   have s3':=c9 hnl (.lst []);have s3:=s1.trans s3';have enl:=@c6 H1 nl (.lst []);have eel3:=s3' _ _ eel;generalize upd H1 nl _=H3 at s3 enl eel3 ⊢;refine⟨l,nl,_,rfl,rfl,s3.seq hl,SqL.of enl,_,rfl,?_⟩;refine gz (λc2=>?_) (λc2=>?_)
   ·refine⟨_,rfl,_,_,rfl,rfl,(by show(0:Int)<2;decide),rfl,_,rfl,?_⟩
    refine B1 (λ_=>?_) (λ_=>?_)
    ·exact⟨_,rfl,el,_,rfl,.inl ⟨SqL.of eel3,λt ht=>q _ _ _ (s3.trans (c9 ht _)) (.tup c6 (I9 es) (by rw[length_map];lia)) (λxs z=>by cases z;rw[length_map];lia) (O4 ..)⟩⟩
    ·exact⟨_,rfl,q _ _ _ s3 (.lst eel3 (I9 es) (by rw[length_map];lia)) (λxs z=>by cases z;rw[length_map];lia) (O4 ..)⟩
   ·have ne:as≠[]:=λz=>c2 (decide_eq_true (by rw[z];rfl))
    obtain⟨j,p,hj,hat⟩:=tj (n:=n*69621%999863) ne;obtain⟨k,hk,ce,e1,e2⟩:=j9 hC j p hj;have kin:=hin k (List.mem_of_getElem? hk);have pos:0<as.length:=List.length_pos_iff.mpr ne;have kpos:0<k.es.length:=List.length_pos_iff.mpr kin.some;refine⟨_,rfl,_,rfl,_,_,rfl,rfl,.inr ⟨by decide,by decide⟩,_,_,rfl,rfl,(by show(0:Int)<999863;decide),_,rfl,l,_,rfl,.inl (s3.seq hl),_,_,rfl,rfl,(by show(0:Int)<(((as.map V.ref).length:Nat):Int);rw[length_map];lia),l,_,_,_,rfl,rfl,s3.seq hl,hat,p,_,_,_,rfl,rfl,SqT.of (s3 _ _ e2),rfl,?_⟩
    obtain⟨ie,hie⟩:∃ie:Nat,n%(((k.es.map V.int).length:Nat):Int)=(ie:Int):=⟨_,(Int.toNat_of_nonneg (Int.emod_nonneg _ (by rw[length_map];lia))).symm⟩
    have hie2:ie<k.es.length:=by
     have:=Int.emod_lt_of_pos n (show(0:Int)<(((k.es.map V.int).length:Nat):Int) by rw[length_map];lia)
     rw[length_map] at this hie;lia
    have ate:atI (k.es.map V.int) (n%(((k.es.map V.int).length:Nat):Int))=some (.int (k.es[ie]'hie2)):=by
     rw[hie];exact B3 (by rw[List.getElem?_map,List.getElem?_eq_getElem hie2];rfl)
    generalize k.es[ie]'hie2=en at ate;refine⟨_,rfl,_,rfl,_,rfl,ce,_,rfl,.inr (SqT.of (s3 _ _ e1)),_,_,rfl,rfl,(by show(0:Int)<(((k.es.map V.int).length:Nat):Int);rw[length_map];lia),ce,_,_,_,rfl,rfl,SqT.of (s3 _ _ e1),ate,?_⟩
    refine⟨_,rfl,_,_,rfl,rfl,.inr ⟨by decide,by decide⟩,_,_,rfl,rfl,(by show(0:Int)<999853;decide),_,rfl,el,_,rfl,.inl (SqL.of eel3),_,_,rfl,rfl,_,_,rfl,rfl,(by show(0:Int)<(((es.map V.int).length:Nat):Int)+1;lia),?_⟩
    obtain⟨at1,hat1⟩:∃at1:Nat,n*40692%999853%((((es.map V.int).length:Nat):Int)+1)=(at1:Int):=⟨_,(Int.toNat_of_nonneg (Int.emod_nonneg _ (by lia))).symm⟩
    refine⟨_,rfl,_,rfl,el,_,rfl,.inl (SqL.of eel3),rfl,S6 es,_,rfl,?_⟩;refine gz (λc3=>?_) (λc3=>?_)
    ·refine⟨_,rfl,_,_,rfl,rfl,(by show(0:Int)<2;decide),rfl,_,rfl,?_⟩
     refine B1 (λ_=>?_) (λ_=>?_)
     ·exact⟨_,rfl,el,_,rfl,.inl ⟨SqL.of eel3,λt ht=>q _ _ _ (s3.trans (c9 ht _)) (.tup c6 (I9 es) (by rw[length_map];lia)) (λxs z=>by cases z;rw[length_map];lia) (O4 ..)⟩⟩
     ·exact⟨_,rfl,q _ _ _ s3 (.lst eel3 (I9 es) (by rw[length_map];lia)) (λxs z=>by cases z;rw[length_map];lia) (O4 ..)⟩
    ·refine⟨_,rfl,_,rfl,_,rfl,el,_,rfl,SqL.of eel3,λla hla=>?_⟩
     rw[hat1,lE];have ela:=@c6 H3 la (.lst ((es.map V.int).take at1));have s9:=c9 hla (.lst ((es.map V.int).take at1));generalize upd H3 la _=H9 at ela s9 ⊢;refine⟨_,rfl,z_1,λlb hlb=>?_⟩
     have elb:=@c6 H9 lb (.lst [.int en]);have s10:=c9 hlb (.lst [.int en]);generalize upd H9 lb _=H10 at elb s10 ⊢;refine⟨la,lb,_,_,rfl,rfl,s10 _ _ ela,elb,Nat.le_of_lt (k8 (by rw[length_take,length_singleton];lia)),λlc hlc=>?_⟩
     have elc:=@c6 H10 lc (.lst ((es.map V.int).take at1++[.int en]));have s11:=c9 hlc (.lst ((es.map V.int).take at1++[.int en]));generalize upd H10 lc _=H11 at elc s11 ⊢;have s311:=s9.trans (s10.trans s11);refine⟨_,rfl,_,rfl,_,rfl,el,_,rfl,SqL.of (s311 _ _ eel3),λle hle=>?_⟩;rw[hat1,rP];have ele:=@c6 H11 le (.lst ((es.map V.int).drop at1));have s12:=c9 hle (.lst ((es.map V.int).drop at1));generalize upd H11 le _=H12 at ele s12 ⊢;refine⟨lc,le,_,_,rfl,rfl,s12 _ _ elc,ele,Nat.le_of_lt (k8 (by rw[length_append,length_take,length_singleton,length_drop];lia)),λr hr=>?_⟩
     have sAll:=s3.trans ((s311.trans s12).trans (c9 hr (.lst ((es.map V.int).take at1++[.int en]++(es.map V.int).drop at1))))
     have er:upd H12 r (.lst ((es.map V.int).take at1++[.int en]++(es.map V.int).drop at1)) r=some (.lst ((es.take at1++[en]++es.drop at1).map V.int)):=by
      rw[c6,map_append,map_append,List.map_take,List.map_drop];rfl
     have lr:(es.take at1++[en]++es.drop at1).length<=13:=by
      rw[length_append,length_append,length_take,length_singleton,length_drop];lia
     generalize upd H12 r _=H13 at sAll er ⊢;generalize es.take at1++[en]++es.drop at1=es' at er lr;refine⟨_,rfl,_,_,rfl,rfl,(by show(0:Int)<2;decide),rfl,_,rfl,?_⟩
     refine B1 (λ_=>?_) (λ_=>?_)
     ·exact⟨_,rfl,r,_,rfl,.inl ⟨SqL.of er,λt ht=>q _ _ _ (sAll.trans (c9 ht _)) (.tup c6 (I9 es') (by rw[length_map];lia)) (λxs z=>by cases z;rw[length_map];lia) (O4 ..)⟩⟩
     ·exact⟨_,rfl,q _ _ _ sAll (.lst er (I9 es') (by rw[length_map];lia)) (λxs z=>by cases z;rw[length_map];lia) (O4 ..)⟩
  ·refine⟨_,rfl,_,_,rfl,rfl,(by show(0:Int)<2;decide),rfl,_,rfl,?_⟩
   refine B1 (λ_=>?_) (λ_=>?_)
   ·exact⟨_,rfl,el,_,rfl,.inl ⟨SqL.of eel,λt ht=>q _ _ _ (s1.trans (c9 ht _)) (.tup c6 (I9 es) (by rw[length_map];lia)) (λxs z=>by cases z;rw[length_map];lia) (O4 ..)⟩⟩
   ·exact⟨_,rfl,q _ _ _ s1 (.lst eel (I9 es) (by rw[length_map];lia)) (λxs z=>by cases z;rw[length_map];lia) (O4 ..)⟩
def wN {H:Hp}{rs:List Addr}{h:l9}{ks:List Call}{c:Int}{es:List Int}(hrows:u9 H rs (E7 h ks c es)){k:Nat}(hk:k<h.m.toNat):∃ra,atI (rs.map V.ref) (k:Int)=some (.ref ra)/\H ra=some (.lst ((K5 h ks (c/h.c) (l7 h es) k).map V.int)):=by
 have lr:=Paired.length hrows;unfold E7 at lr;rw[Y0] at lr;have ea:rs[k]? = some (rs[k]'(by lia)):=List.getElem?_eq_getElem _
 obtain⟨row,w1,w2⟩:=j9 hrows k _ ea
 have w1':row=K5 h ks (c/h.c) (l7 h es) k:=by
  unfold E7 M0 at w1;rw[List.getElem?_map,List.getElem?_range hk] at w1;exact(Option.some.inj w1).symm
 rw[w1'] at w2;exact⟨_,B3 (by rw[List.getElem?_map,ea];rfl),w2⟩
inductive fw (h:l9)(ks:List Call)(x:V)(o:Option (List V))(sh:Int)(H:Hp)(t:Addr):Prop where
 | wrong (b:(m4 x 0 (h.i*h.c-1)&&C0 h o)=false) (e:H t=some (.tup [.int 0,.non,.non])):fw h ks x o sh H t
 | busy (c:Int) (es:List Int) (w:Int) (ex:x=.int c) (eo:o=some (es.map V.int)) (w1:m4 x 0 (h.i*h.c-1)=true) (w2:C0 h o=true) (b:P9 ks c es w) (e:H t=some (.tup [.int 1,.int w,.non])):fw h ks x o sh H t
 | eng (c:Int) (es:List Int) (kf:Addr) (rs:List Addr) (lv:V) (lo:Option (List Int)) (ex:x=.int c) (eo:o=some (es.map V.int)) (w1:m4 x 0 (h.i*h.c-1)=true) (w2:C0 h o=true) (i:X9 ks c es) (n:N4 h ks c es sh=[]) (e:H t=some (.tup [.int 2,.ref kf,lv])) (ek:H kf=some (.lst (rs.map V.ref))) (er:u9 H rs (E7 h ks c es)) (hl:T8 h ks c es sh lo) (el:match (generalizing:=false) lo with | none=>lv=.non | some ms=>∃m,lv=.ref m/\H m=some (.lst (ms.map V.int))):fw h ks x o sh H t
 | way (c:Int) (es:List Int) (fl:Addr) (ex:x=.int c) (eo:o=some (es.map V.int)) (w1:m4 x 0 (h.i*h.c-1)=true) (w2:C0 h o=true) (i:X9 ks c es) (n:N4 h ks c es sh≠[]) (e:H t=some (.tup [.int 9,.ref fl,.non])) (ef:H fl=some (.lst (A9 (N4 h ks c es sh)))):fw h ks x o sh H t
def nM (K:Frag):Sp:=λvs H Q _=>∃(a l:Addr)(h:l9)(as:List Addr)(ks:List Call)(x y:V)(o:Option (List V))(sh:Int),vs=[.ref a,.ref l,x,y,.int sh]/\SqT K H a (h.row.map V.int)/\h.Ok/\SqL K H l (as.map V.ref)/\j8 H as ks/\(∀k∈ks,k.In h)/\ks.length<=63/\A0 K H x/\O8 K H y o/\(∀xs,o=some xs->xs.length<=13)/\∀(t:Addr)(H':Hp),i9 H H'->fw h ks x o sh H' t->Q (.ref t) H'
def aE (h:l9)(ks:List Call)(c:Int)(es:List Int)(sh:Int)(i:Nat):List Nat:=((List.range i).filter (A1 sh)).filter (O7 h ks c es)
theorem W2 (h:l9)(ks:List Call)(c:Int)(es:List Int)(sh:Int)(i:Nat):aE h ks c es sh (i+1)=aE h ks c es sh i++(if (A1 sh i&&O7 h ks c es i)=true then [i] else []):=by
 unfold aE;rw[range_succ,filter_append,filter_append]
 congr 1
 rw[List.filter_cons]
 cases A1 sh i with
 | false=>rfl
 | true =>
  rw[if_pos rfl,List.filter_cons]
  cases O7 h ks c es i<;>rfl
def O0:FnScope ["_law_hall_here","_law_calls_here","_law_caller_here","_law_ends_here","_law_shut","_law_busy_here","_law_kept","_law_free","_law_k"] ["_law_hall_here","_law_calls_here","_law_caller_here","_law_ends_here","_law_shut"] (i3 (top 71)):=mkF
theorem tI (T:Txt K mg)(Cm:i6 P w K mg base 1 "_law_none" p_11 (rK K))(Cn:i6 P w K mg base 1 "_law_busy" p_9 (nI K))(BO:i6 P w K mg base 2 "_law_holds" p_7 (jk K))(Co:i6 P w K mg base 1 "_law_best" p_17 (rS K))(D:Def K mg "_law_due" (top 71) p_4):i6 P w K mg base 3 "_law_due" p_4 (nM K):=by
 refine D.ok O0 (λ_ _ _ _ h=>?_) (λ_ _ _ _ _ H _ Q E hr h=>?_)
 ·obtain⟨a,l,h,as,ks,x,y,o,sh,rfl,_⟩:=h
  rfl
 obtain⟨a,l,h,as,ks,x,y,o,sh,rfl,hH,ok,hl,hC,hin,h63,px,ey,l13,q⟩:=h;have b3:=ok.m
 refine⟨_,(d9 (m8 (w9 K (m6 Cm hr rfl (a8 (pv 0) (a8 (pv 2) (a8 (pv 3) c7 a9) a9) a9)) (λ_=>rfl)) (i0 (j6 (C2 (a8 c8 (a8 w6 (a8 w6 c7 l8) l8) l8)))) j7)
  (d9 (j3 (i:=5) O0.nd rfl (Or.inl rfl) (m6 Cn hr rfl (a8 (pv 1) (a8 (pv 2) (a8 (pv 3) c7 a9) a9) a9)))
  (d9 (m8 (k9 T9 (pv 5) w6 (m3 _)) (i0 (j6 (C2 (a8 c8 (a8 (pv 5) (a8 w6 c7 l8) a9) l8)))) j7)
  (d9 (j3 (i:=6) O0.nd rfl (Or.inl rfl) (m6 BO hr rfl (a8 (pv 0) (a8 (pv 1) (a8 (pv 2) (a8 (pv 3) c7 a9) a9) a9) a9)))
  (d9 (j3 (i:=7) O0.nd rfl (Or.inl rfl) (n6 c7))
  (d9 (A2 PassesOwn.never rfl (D1 rfl T.za (a8 (j1 (i4 K) (pv 0) c8) c7 m9)) (m5 (i:=8) O0.nd rfl (Or.inl rfl))
  (i0 (m8 (PW.pt (dD (k9 (gf K (B5.units0 hr)) (j1 (q9 K) (pv 6) (pv 8)) (n6 c7) (m3 _)) (aN (k9 C7 (i7 iK (i7 iw (pv 4) (pv 8)) c8) c8 (m3 _))))) (i0 (C5 (K4 K PySem.F.plainAttrs_list PySem.F.slot_list_append PySem.F.type_list_append B7 (pv 7) (a8 (pv 8) c7 a9)))) j7)))
  (d9 (m8 (k9 (gf K (B5.units0 hr)) (pv 7) (n6 c7) (m3 _)) (i0 (j6 (C2 (a8 c8 (a8 (pv 6) (a8 (m6 Co hr rfl (a8 (pv 0) (a8 (pv 6) (a8 (pv 4) c7 a9) a9) a9)) c7 o8) a9) l8)))) j7)
  (i0 (j6 (C2 (a8 c8 (a8 (pv 7) (a8 w6 c7 l8) a9) l8))))))))))),?_⟩
 refine⟨_,rfl,_,rfl,_,rfl,a,h,x,y,o,rfl,hH,ok,px,ey,λH1 s1=>⟨_,rfl,?_⟩⟩
 cases cb:(m4 x 0 (h.i*h.c-1)&&C0 h o) with
 | false=>exact M6 ⟨z_3,λt ht=>q t _ (s1.trans (c9 ht _)) (.wrong cb c6)⟩
 | true =>
  rw[Bool.and_eq_true] at cb;obtain⟨w1,w2⟩:=cb;obtain⟨c,rfl,c0,c1⟩:=R0 w1;obtain⟨e,es,rfl,rfl,he⟩:=cF ey w2;have le13:es.length<=13:=by have:=l13 _ rfl;rwa [length_map] at this
  have he':∀{G:Hp},i9 H G->(SqT K G e (es.map V.int)\/SqL K G e (es.map V.int)):=λs=>he.imp (λz=>i9.seqT s z) λz=>s.seq z;have hC':∀{G:Hp},i9 H G->j8 G as ks:=λs=>j8.same (λb xs z=>s _ _ z) hC;refine D9 ⟨_,rfl,_,rfl,_,rfl,l,e,as,ks,c,es,rfl,s1.seq hl,hC' s1,he' s1,by lia,λH2 s2 idle=>?_,λw H2 s2 b=>?_⟩
  rotate_left
  ·refine⟨_,rfl,rfl,_,rfl,M6 ⟨_,rfl,z_3,λt ht=>q t _ (s1.trans (s2.trans (c9 ht _))) (.busy c es w rfl rfl w1 w2 b c6)⟩⟩
  have s12:=s1.trans s2;refine⟨_,rfl,rfl,_,rfl,D9 ?_⟩;refine⟨_,rfl,_,rfl,_,rfl,_,rfl,a,l,e,h,as,ks,c,es,rfl,i9.seqT s12 hH,ok,s12.seq hl,hC' s12,hin,h63,he' s12,le13,λkf rs H3 s3 ekf hR=>?_⟩;have s13:=s12.trans s3;refine⟨z_0,λfl hfl=>?_⟩
  have s4:=c9 hfl (.lst []);have efl:=@c6 H3 fl (.lst []);generalize upd H3 fl _=H4 at s4 efl ⊢;have hH4:=i9.seqT (s13.trans s4) hH;refine⟨_,rfl,a,_,_,_,rfl,rfl,hH4,rfl,_,rfl,by show -(2^62)<=h.m;lia,by show h.m<2^62;lia,?_⟩
  refine E5 (λi σ G=>i9 H3 G/\G fl=some (.lst (A9 (aE h ks c es sh i)))/\∃v8,σ=[some (.ref a),some (.ref l),some (.int c),some (.ref e),some (.int sh),some .non,some (.ref kf),some (.ref fl),v8])
   ⟨s4,efl,none,rfl⟩ ?_ ?_
  ·rintro i σ G hi ⟨s5,ef5,v8,rfl⟩
   rw[Int.zero_add];obtain⟨ra,a1,a2⟩:=wN hR hi;refine⟨_,rfl,_,rfl,kf,_,_,_,rfl,rfl,SqL.of (s5 _ _ ekf),a1,z_0,λnl hnl=>?_⟩
   have s6':=c9 hnl (.lst []);have s6:=s5.trans s6';have enl:=@c6 G nl (.lst []);have ef6:=s6' _ _ ef5;generalize upd G nl _=G6 at s6 enl ef6 ⊢;refine⟨ra,nl,_,rfl,rfl,SqL.of (s6 _ _ a2),SqL.of enl,_,rfl,?_⟩
   have fb:O7 h ks c es i=decide ((K5 h ks (c/h.c) (l7 h es) i).map V.int=[]):=by
    unfold O7;exact decide_eq_decide.mpr List.map_eq_nil_iff.symm
   rw[<- fb];refine B1 (λz1=>?_) (λz1=>?_)
   ·refine⟨_,rfl,_,rfl,_,_,rfl,rfl,by lia,_,_,rfl,rfl,rfl,_,rfl,?_⟩
    refine B1 (λz2=>?_) (λz2=>?_)
    ·have ob:A1 sh i=true:=by unfold A1;simpa using z2
     have wl:(A9 (aE h ks c es sh i)).length<=24:=by
      unfold A9 aE;rw[length_map];refine Nat.le_trans (length_filter_le ..) (Nat.le_trans (length_filter_le ..) ?_);rw[length_range];lia
     refine⟨_,rfl,.inl ⟨rfl,_,SqL.of ef6⟩,_,rfl,fl,_,_,rfl,rfl,ef6,k8 (by lia),?_⟩
     refine⟨λb u zb=>?_,?_,_,rfl⟩
     ·rw[j2 (n9 zb hfl)]
      exact s6 _ _ zb
     ·rw[c6,W2,ob,z1]
      unfold A9;rw[map_append];rfl
    ·have ob:A1 sh i=false:=by
      refine Bool.eq_false_iff.mpr λy=>z2 ?_;unfold A1 at y
      simpa using y
     refine⟨s6,?_,_,rfl⟩;rw[W2,ob,Bool.false_and,if_neg (by decide),append_nil]
     exact ef6
   ·have zf:O7 h ks c es i=false:=Bool.eq_false_iff.mpr z1
    refine⟨s6,?_,_,rfl⟩;rw[W2,zf,Bool.and_false,if_neg (by decide),append_nil]
    exact ef6
  ·rintro σ G ⟨s5,ef5,v8,rfl⟩
   have ew:aE h ks c es sh h.m.toNat=N4 h ks c es sh:=rfl;have ef5:G fl=some (.lst (A9 (N4 h ks c es sh))):=ef5;refine⟨_,rfl,z_0,λnl hnl=>?_⟩
   have s6':=c9 hnl (.lst []);have s6:=s5.trans s6';have enl:=@c6 G nl (.lst []);have ef6:=s6' _ _ ef5;generalize upd G nl _=G6 at s6 enl ef6 ⊢;have sAll:=s13.trans s6;refine⟨fl,nl,_,rfl,rfl,SqL.of ef6,SqL.of enl,_,rfl,?_⟩;refine B1 (λz=>?_) (λz=>?_)
   ·have z':N4 h ks c es sh=[]:=by
     have:=of_decide_eq_true z
     unfold A9 at this;exact List.map_eq_nil_iff.mp this
    have hR6:u9 G6 rs (E7 h ks c es):=Paired.mapP hR λa r z=>s6 _ _ z;refine⟨_,rfl,_,rfl,_,rfl,_,rfl,a,kf,rs,h,ks,c,es,sh,rfl,i9.seqT sAll hH,ok,s6 _ _ ekf,hR6,λhno=>?_,λk ra lk ea=>?_⟩
    ·refine⟨z_3,λt ht=>?_⟩
     have sT:=c9 ht (.tup [.int 2,.ref kf,.non]);exact q t _ (sAll.trans sT) (.eng c es kf rs .non none rfl rfl w1 w2 idle z' c6 (sT _ _ (s6 _ _ ekf)) (Paired.mapP hR6 λa r z=>sT _ _ z) hno rfl)
    ·refine⟨z_3,λt ht=>?_⟩
     have sT:=c9 ht (.tup [.int 2,.ref kf,.ref ra]);exact q t _ (sAll.trans sT) (.eng c es kf rs (.ref ra) (some _) rfl rfl w1 w2 idle z' c6 (sT _ _ (s6 _ _ ekf)) (Paired.mapP hR6 λa r z=>sT _ _ z) ⟨k,lk,rfl⟩ ⟨ra,rfl,sT _ _ ea⟩)
   ·have z':N4 h ks c es sh≠[]:=λy=>z (decide_eq_true (by rw[y];rfl))
    refine⟨_,rfl,z_3,λt ht=>?_⟩
    have sT:=c9 ht (.tup [.int 9,.ref fl,.non]);exact q t _ (sAll.trans sT) (.way c es fl rfl rfl w1 w2 idle z' c6 (sT _ _ ef6))
def iR {i j:Int}{A B:Prop}(h:i≠j)(b:B):if decide (V.int i=V.int j)=true then A else B:=by
 rw[if_neg λz=>h (V.int.inj (of_decide_eq_true z))];exact b
def dQ {i:Int}{A B:Prop}(a:A):if decide (V.int i=V.int i)=true then A else B:=by
 rw[if_pos (decide_eq_true rfl)];exact a
theorem aF {H:Hp}:∀{rs1 rs2:List Addr}{rows:List (List Int)},u9 H rs1 rows->u9 H rs2 rows->(∀row∈rows,row.length<=1000)->Paired (O9 H 1) (rs1.map V.ref) (rs2.map V.ref)
 | _,_,_,.nil,.nil,_=>.nil
 | _,_,_,.cons (a:=a) (b:=row) h t,.cons h' t',hl=>.cons (.inr ⟨_,_,_,_,rfl,rfl,.inl ⟨h,h'⟩,U6 row,by rw[length_map];exact hl row (mem_cons_self ..)⟩) (aF t t' λr hr=>hl r (mem_cons_of_mem _ hr))
def si {b:Bool}{H:Hp}{tt:TS}{D:aI}{σ:L2.St}(R:Hp->Prop)(hr:∀G,R G->D.nx σ G)(h1:b=true->(∀G,R G->D.nx σ G)->tt D σ H)(h2:b=false->R H):(λ(b:Bool) H1=>if b=true then tt D σ H1 else nG D σ H1) b H:=by
 cases b
 ·exact hr H (h2 rfl)
 ·exact h1 rfl hr
inductive U4 (CN CB CE:Addr)(H:Hp)(ea t:Addr)(N:Addr->Prop):Prop where
 | wrong (e:H ea=some (U1 ea CN none)) (d:H t=some (.tup [.int 0,.non,.non])):U4 CN CB CE H ea t N
 | busy (dx:Addr) (w:Int) (e:H ea=some (U1 ea CB (some dx))) (x:H dx=some (XdO dx [("who",.int w)])) (d:H t=some (.tup [.int 1,.int w,.non])):U4 CN CB CE H ea t N
 | eng (dx nh kf:Addr) (nas rs:List Addr) (nlv lv:V) (rows:List (List Int)) (lo:Option (List Int)) (e:H ea=some (U1 ea CE (some dx))) (g:fP H dx rows lo nh nas nlv) (ne:rows≠[]) (few:rows.length<=64) (fe:∀row∈rows,row.length<=99) (fl:∀ms,lo=some ms->ms.length<=99) (d:H t=some (.tup [.int 2,.ref kf,lv])) (ek:H kf=some (.lst (rs.map V.ref))) (er:u9 H rs rows) (el:match (generalizing:=false) lo with | none=>lv=.non | some ms=>∃m,lv=.ref m/\H m=some (.lst (ms.map V.int))) (d1:∀a∈nas,N a/\¬a∈rs/\a≠kf) (d2:∀m,nlv=.ref m->N m/\¬m∈rs/\m≠kf):U4 CN CB CE H ea t N
def oC (CN CB CE:Addr):Sp:=λvs H Q _=>∃(ea t:Addr)(N:Addr->Prop),vs=[.ref ea,.ref t]/\U4 CN CB CE H ea t N/\∀H',(∀b u,H b=some u->¬N b->H' b=some u)->Q (.bl true) H'
def kW (Z:bo K mg yD yG yF yC yH yK yE my yI):gF K yC yD [yC,yE,my,yK,yH,yI,yG,yF] [true,false,false,false,false,false,false,false] 0 :=
 ⟨Z.DP,Z.zT,Z.Dx,.cons Z.AE (.cons Z.Bj (.cons Z.Ah (.cons Z.Bi (.cons Z.AF (.cons Z.AG (.cons Z.AD (.cons Z.Ag .nil))))))),by decide,rfl,(λm hm=>absurd hm (Nat.not_lt_zero _)),by decide⟩
def pK (Z:bo K mg yD yG yF yC yH yK yE my yI):gF K yE yD [yC,yE,my,yK,yH,yI,yG,yF] [false,true,false,false,false,false,false,false] 1 :=
 ⟨Z.CW,Z.Ai,Z.DZ,.cons Z.Bl (.cons Z.BN (.cons Z.AW (.cons Z.BM (.cons Z.Bm (.cons Z.Bn (.cons Z.Bk (.cons Z.AV .nil))))))),by decide,rfl,(λm hm=>by match m,hm with | 0,_=>rfl),by decide⟩
def iE (Z:bo K mg yD yG yF yC yH yK yE my yI):gF K my yD [yC,yE,my,yK,yH,yI,yG,yF] [false,false,true,false,false,false,false,false] 2 :=
 ⟨Z.yX,Z.zD,Z.CY,.cons Z.Ak (.cons Z.AY (.cons Z.zW (.cons Z.AX (.cons Z.Al (.cons Z.Am (.cons Z.Aj (.cons Z.zV .nil))))))),by decide,rfl,(λm hm=>by match m,hm with | 0,_=>rfl | 1,_=>rfl),by decide⟩
def eJ:FnScope ["_law_e","_law_due_here"] ["_law_e","_law_due_here"] (i3 (top 72)):=mkF
theorem sO (T:Txt K mg)(Z:bo K mg yD yG yF yC yH yK yE my yI)(Cp:i6 P w K mg base 1 "_law_kind" ["_law_e"] (sg K yD [yC,yE,my,yK,yH,yI,yG,yF]))(yQ:i6 P w K mg base 3 "_law_alike" p_10 (bg 2))(D:Def K mg "_law_paper" (top 72) p_27):i6 P w K mg base 4 "_law_paper" p_27 (oC yC yE my):=by
 refine D.ok eJ (λ_ _ _ _ h=>?_) (λ_ _ _ _ _ H _ Q E hr h=>?_)
 ·obtain⟨ea,t,N,rfl,_⟩:=h
  rfl
 obtain⟨ea,t,N,rfl,pi,q⟩:=h
 refine⟨_,(d9 (m8 (k9 jg (m6 Cp hr rfl (a8 (pv 0) c7 a9)) (j1 (i4 K) (pv 1) c8) (m3 _)) (i0 (j6 K2)) j7)
  (d9 (m8 (k9 C7 (j1 (i4 K) (pv 1) c8) c8 (m3 _)) (i0 (j6 (m6 yQ hr rfl (a8 (dE K (pv 0)) (a8 (j1 (i4 K) (pv 1) c8) c7 m9) cG)))) j7)
  (d9 (m8 (k9 C7 (j1 (i4 K) (pv 1) c8) c8 (m3 _)) (d9 (m8 (PW.pt (bn (F0 (w9 K (m6 yQ hr rfl (a8 (dE K (pv 0)) (a8 (j1 (i4 K) (pv 1) c8) c7 m9) cG)) (λ_=>rfl))) (aB (F0 (w9 K (m6 yQ hr rfl (a8 (dE K (pv 0)) (a8 (j1 (i4 K) (pv 1) c8) c7 m9) cG)) (λ_=>rfl)))))) (i0 (j6 K2)) j7)
  (d9 (m8 (k9 T9 (dE K (pv 0)) w6 (m3 _)) (i0 (C5 (K4 K PySem.F.plainAttrs_list PySem.F.slot_list_append PySem.F.type_list_append B7 (dE K (pv 0)) (a8 (fi bQ c8) c7 jR)))) j7)
  (d9 (C5 (K4 K PySem.F.plainAttrs_list PySem.F.slot_list_append PySem.F.type_list_append B7 (j1 lx (dE K (pv 0)) c8) (a8 (fi bQ c8) c7 jR)))
  (i0 (j6 (m6 yQ hr rfl (a8 (dE K (pv 0)) (a8 (i7 Q1 (n6 (a8 (i7 Q1 (j1 (q9 K) (j1 (i4 K) (pv 1) c8) c8) (n6 (a8 (fi bQ c8) c7 jR))) c7 O5)) (Q4 (S5 K) (j1 (i4 K) (pv 1) c8) (R3 c8) Y9)) c7 O5) cG))))))) j7)
  (i0 (j6 K2))))),?_⟩
 cases pi with
 | wrong he ht =>
  refine⟨_,rfl,ea,yC,none,_,0,rfl,he,kW Z,λH1 s1=>?_⟩;have ht1:=s1 _ _ ht;refine⟨_,rfl,t,_,_,_,rfl,rfl,SqT.of ht1,rfl,rfl,_,rfl,iy (by simp) ?_⟩
  refine⟨_,rfl,t,_,_,_,rfl,rfl,SqT.of ht1,rfl,rfl,_,rfl,iR (by decide) ?_⟩
  refine⟨_,rfl,t,_,_,_,rfl,rfl,SqT.of ht1,rfl,rfl,_,rfl,iR (by decide) ?_⟩
  exact q _ λb u z _=>s1 _ _ z
 | busy dx w he hx ht =>
  refine⟨_,rfl,ea,yE,some dx,_,1,rfl,he,pK Z,λH1 s1=>?_⟩;have ht1:=s1 _ _ ht;refine⟨_,rfl,t,_,_,_,rfl,rfl,SqT.of ht1,rfl,rfl,_,rfl,iy (by simp) ?_⟩
  refine⟨_,rfl,t,_,_,_,rfl,rfl,SqT.of ht1,rfl,rfl,_,rfl,dQ ?_⟩;refine⟨_,rfl,ea,yE,dx,_,.int w,rfl,s1 _ _ he,s1 _ _ hx,Z.CW,Z.DR,Z.Bo,rfl,_,rfl,t,_,_,_,rfl,rfl,SqT.of ht1,rfl,_,_,rfl,S2.at (.inr ⟨w,rfl,rfl⟩),q _ λb u z _=>s1 _ _ z⟩
 | eng dx nh kf nas rs nlv lv rows lo he g ne few fe fl ht ek er el d1 d2 =>
  refine⟨_,rfl,ea,my,some dx,_,2,rfl,he,iE Z,λH1 s1=>?_⟩;have ht1:=s1 _ _ ht;have he1:=s1 _ _ he;have gd:=s1 _ _ g.d;have gh:=s1 _ _ g.h;have gr:u9 H1 nas rows:=Paired.mapP g.rows λa r z=>s1 _ _ z;have ek1:=s1 _ _ ek;have er1:u9 H1 rs rows:=Paired.mapP er λa r z=>s1 _ _ z;have ln:nas.length=rows.length:=Paired.length gr;have l99:∀row∈rows,row.length<=1000:=λrow hr=>Nat.le_trans (fe row hr) (by decide)
  refine⟨_,rfl,t,_,_,_,rfl,rfl,SqT.of ht1,rfl,rfl,_,rfl,iy (by simp) ?_⟩
  refine⟨_,rfl,t,_,_,_,rfl,rfl,SqT.of ht1,rfl,rfl,_,rfl,iR (by decide) ?_⟩
  refine⟨_,rfl,t,_,_,_,rfl,rfl,SqT.of ht1,rfl,rfl,_,rfl,dQ ?_⟩;refine⟨_,rfl,ea,my,dx,_,.ref nh,rfl,he1,gd,Z.yX,Z.yY,Z.zc,rfl,_,rfl,t,_,_,_,rfl,rfl,SqT.of ht1,rfl,_,_,rfl,.inr ⟨nh,kf,_,_,rfl,rfl,.inl ⟨gh,ek1⟩,aF gr er1 l99,by rw[length_map];lia⟩,_,rfl,D9 ?_⟩
  have alL:O9 H1 2 nlv lv:=by
   have gl:=g.l
   cases lo with
   | none =>
    have e1:nlv=.non:=gl;have e2:lv=.non:=el;rw[e1,e2];exact S2.at (.inl ⟨rfl,rfl⟩)
   | some ms =>
    obtain⟨m,rfl,_,_,em⟩:=gl;obtain⟨m',rfl,em'⟩:=el;exact .inr ⟨m,m',_,_,rfl,rfl,.inl ⟨s1 _ _ em,s1 _ _ em'⟩,U6 ms,by rw[length_map];exact Nat.le_trans (fl ms rfl) (by decide)⟩
  refine⟨_,rfl,ea,my,dx,_,nlv,rfl,he1,gd,Z.yX,Z.yY,Z.yW,rfl,_,rfl,t,_,_,_,rfl,rfl,SqT.of ht1,rfl,_,_,rfl,alL,_,rfl,D9 ?_⟩;refine⟨_,rfl,ea,my,dx,_,nlv,rfl,he1,gd,Z.yX,Z.yY,Z.yW,rfl,rfl,_,rfl,?_⟩;refine si (λG=>G ea=some (U1 ea my (some dx))/\G dx=some (XdO dx [("least",nlv),("holds",.ref nh)])/\G nh=some (.lst (nas.map V.ref))/\u9 G nas rows/\G t=some (.tup [.int 2,.ref kf,lv])/\G kf=some (.lst (rs.map V.ref))/\u9 G rs rows/\∀b u,H b=some u->¬N b->G b=some u) ?_ ?_ ?_
  ·rintro G ⟨he2,gd2,gh2,gr2,ht2,ek2,er2,st⟩
   obtain⟨row0,rows',rfl⟩:=List.exists_cons_of_ne_nil ne
   cases gr2 with
   | cons ea0 gr' =>
   cases er2 with
   | cons er0 er' =>
   rename_i a0 nas' r0 rs'
   have nd0:=(List.nodup_cons.mp g.nd).1;obtain⟨x1,x2,x3⟩:=d1 a0 (mem_cons_self ..);have f0:=fe row0 (mem_cons_self ..);have at0:∀(b:Addr)(bs:List Addr),atI ((b::bs).map V.ref) 0=some (.ref b):=λb bs=>(show atI _ ((0:Nat):Int)=_ from B3 rfl);refine⟨_,rfl,ea,my,dx,_,.ref nh,rfl,he2,gd2,Z.yX,Z.yY,Z.zc,rfl,.inl ⟨nh,_,_,_,rfl,rfl,SqL.of gh2,at0 _ _,.inl ⟨rfl,_,SqL.of ea0⟩,_,rfl,a0,_,_,rfl,rfl,ea0,k8 (by rw[length_map];lia),?_⟩⟩
   have up:∀b u,b≠a0->G b=some u->upd G a0 (.lst (row0.map V.int++[.int (-2)])) b=some u:=λb u nb z=>by rw[j2 nb];exact z
   have nm:∀{b:Addr}{u:HO},G b=some u->u≠.lst (row0.map V.int)->b≠a0:=λz nz y=>by rw[y,ea0] at z;exact nz (Option.some.inj z).symm
   have he3:=up _ _ (nm he2 (λz=>nomatch z)) he2;have gd3:=up _ _ (nm gd2 (λz=>nomatch z)) gd2;have ht3:=up _ _ (nm ht2 (λz=>nomatch z)) ht2
   have gh3:=up _ _ (nm gh2 (λz=>by
    have:=HO.lst.inj z
    cases row0 with
    | nil=>cases this
    | cons _ _=>simp at this)) gh2
   have ek3:=up _ _ (Ne.symm x3) ek2;have er03:=up _ _ (λy=>x2 (y▸mem_cons_self ..)) er0;have er3:u9 (upd G a0 (.lst (row0.map V.int++[.int (-2)]))) rs' rows':=D3 er' λa r ha z=>up _ _ (λy=>x2 (y▸mem_cons_of_mem _ ha)) z;have gr3:u9 (upd G a0 (.lst (row0.map V.int++[.int (-2)]))) nas' rows':=D3 gr' λa r ha z=>up _ _ (λy=>nd0 (y▸ha)) z;have ea3:upd G a0 (.lst (row0.map V.int++[.int (-2)])) a0=some (.lst ((row0++[-2]).map V.int)):=by rw[c6,map_append];rfl
   have st3:∀b u,H b=some u->¬N b->upd G a0 (.lst (row0.map V.int++[.int (-2)])) b=some u:=λb u z nb=>up _ _ (λy=>nb (y▸x1)) (st b u z nb);generalize upd G a0 _=G3 at he3 gd3 ht3 gh3 ek3 er03 er3 gr3 ea3 st3 ⊢;refine⟨_,rfl,ea,my,dx,_,.ref nh,rfl,he3,gd3,Z.yX,Z.yY,Z.zc,rfl,?_⟩;refine⟨_,rfl,t,_,_,_,rfl,rfl,SqT.of ht3,rfl,kf,_,_,_,rfl,rfl,SqL.of ek3,at0 _ _,_,rfl,z_1,λp1 hp1=>?_⟩
   have u1:=c9 hp1 (.lst [.int (-2)]);have w1:=@c6 G3 p1 (.lst [.int (-2)]);generalize upd G3 p1 _=G4 at u1 w1 ⊢;refine⟨r0,p1,_,_,rfl,rfl,u1 _ _ er03,w1,Nat.le_of_lt (k8 (by rw[length_map];show row0.length+1<=1000;lia)),λp2 hp2=>?_⟩
   have u2':=c9 hp2 (.lst (row0.map V.int++[.int (-2)]));have u2:=u1.trans u2';have w2:upd G4 p2 (.lst (row0.map V.int++[.int (-2)])) p2=some (.lst ((row0++[-2]).map V.int)):=by rw[c6,map_append];rfl
   generalize upd G4 p2 _=G5 at u2 w2 ⊢;refine⟨z_1,λp3 hp3=>?_⟩
   have u3':=c9 hp3 (.lst [.ref p2]);have u3:=u2.trans u3';have w3:=@c6 G5 p3 (.lst [.ref p2]);have w23:=u3' _ _ w2;generalize upd G5 p3 _=G6 at u3 w3 w23 ⊢;refine⟨_,rfl,t,_,_,_,rfl,rfl,SqT.of (u3 _ _ ht3),rfl,_,rfl,kf,_,rfl,SqL.of (u3 _ _ ek3),λp4 hp4=>?_⟩;have cut:S7 ((r0::rs').map V.ref) (some 1) none=rs'.map V.ref:=(rP _ 1).trans rfl;rw[cut];have u4':=c9 hp4 (.lst (rs'.map V.ref));have u4:=u3.trans u4';have w4:=@c6 G6 p4 (.lst (rs'.map V.ref));have w34:=u4' _ _ w3;have w24:=u4' _ _ w23;generalize upd G6 p4 _=G7 at u4 w4 w34 w24 ⊢;have lrs:rs'.length=rows'.length:=Paired.length er';have few':rows'.length+1<=64:=few;refine⟨p3,p4,_,_,rfl,rfl,w34,w4,Nat.le_of_lt (k8 (by rw[length_map];show 1+rs'.length<=1000;lia)),λp5 hp5=>?_⟩
   have u5':=c9 hp5 (.lst ([.ref p2]++rs'.map V.ref));have u5:=u4.trans u5';have w5:upd G7 p5 (.lst ([.ref p2]++rs'.map V.ref)) p5=some (.lst ((p2::rs').map V.ref)):=c6;have w25:=u5' _ _ w24;generalize upd G7 p5 _=G8 at u5 w5 w25 ⊢;have R1:u9 G8 (a0::nas') ((row0++[-2])::rows'):=.cons (u5 _ _ ea3) (Paired.mapP gr3 λa r z=>u5 _ _ z);have R2:u9 G8 (p2::rs') ((row0++[-2])::rows'):=.cons w25 (Paired.mapP er3 λa r z=>u5 _ _ z);refine⟨_,_,rfl,.inr ⟨nh,p5,_,_,rfl,rfl,.inl ⟨u5 _ _ gh3,w5⟩,aF R1 R2 (λrow hr=>?_),?_⟩,q _ λb u z nb=>u5 _ _ (st3 b u z nb)⟩
   ·rcases mem_cons.mp hr with rfl|z
    ·rw[length_append,length_singleton]
     lia
    ·exact l99 row (mem_cons_of_mem _ z)
   ·have:nas'.length=rows'.length:=Paired.length gr'
    rw[length_map,length_cons];lia
  ·intro hb last
   have gl:=g.l
   cases lo with
   | none =>
    have e1:nlv=.non:=gl;rw[e1] at hb
    cases hb
   | some ms =>
    obtain⟨m,rfl,mn,mh,em⟩:=gl;obtain⟨n1,n2,n3⟩:=d2 m rfl;have em1:=s1 _ _ em;have up:∀b u,b≠m->H1 b=some u->upd H1 m (.lst (ms.map V.int++[.int (-1)])) b=some u:=λb u nb z=>by rw[j2 nb];exact z
    have nm:∀{b:Addr}{u:HO},H1 b=some u->u≠.lst (ms.map V.int)->b≠m:=λz nz y=>by rw[y,em1] at z;exact nz (Option.some.inj z).symm
    refine⟨_,rfl,ea,my,dx,_,.ref m,rfl,he1,gd,Z.yX,Z.yY,Z.yW,rfl,.inl ⟨rfl,_,SqL.of em1⟩,_,rfl,m,_,_,rfl,rfl,em1,k8 (by rw[length_map];have:=fl ms rfl;lia),?_⟩
    refine last _ ⟨up _ _ (nm he1 (λz=>nomatch z)) he1,up _ _ (nm gd (λz=>nomatch z)) gd,up _ _ (Ne.symm mh) gh,D3 gr λa r ha z=>up _ _ (λy=>mn (y▸ha)) z,up _ _ (nm ht1 (λz=>nomatch z)) ht1,up _ _ (Ne.symm n3) ek1,D3 er1 λa r ha z=>up _ _ (λy=>n2 (y▸ha)) z,λb u z nb=>up _ _ (λy=>nb (y▸n1)) (s1 _ _ z)⟩
  ·intro hb
   exact⟨he1,gd,gh,gr,ht1,ek1,er1,λb u z _=>s1 _ _ z⟩
theorem Q2.end {h:l9}{k k':Call}(f:Q2 h k k'){e:Int}(h1:e∈k.es):¬e∈k'.es:=λh2=>f (mZ e) (B2.mpr (.inr (.inr (.inr ⟨e,h1,rfl⟩)))) (B2.mpr (.inr (.inr (.inr ⟨e,h2,rfl⟩))))
def qx {h:l9}{ks:List Call}(fr:ks.Pairwise (Q2 h)){k k':Call}{e:Int}(hk:k∈ks)(hk':k'∈ks)(h1:e∈k.es)(h2:e∈k'.es):k=k':=by
 obtain⟨i,hi,ei⟩:=getElem_of_mem hk;obtain⟨j,hj,ej⟩:=getElem_of_mem hk'
 rcases Nat.lt_trichotomy i j with z|z|z
 ·have:=(List.pairwise_iff_getElem.mp fr) i j hi hj z
  rw[ei,ej] at this;exact absurd h2 (this.end h1)
 ·subst z
  exact ei.symm.trans ej
 ·have:=(List.pairwise_iff_getElem.mp fr) j i hj hi z
  rw[ei,ej] at this;exact absurd h1 (this.end h2)
theorem P9.one {h:l9}{ks:List Call}(fr:ks.Pairwise (Q2 h)){c:Int}{es:List Int}{w w':Int}(a:P9 ks c es w)(b:P9 ks c es w'):w=w':=by
 rcases a with⟨⟨k,hk,ek⟩,rfl⟩|⟨no,e,he,⟨k,hk,ek,rfl⟩,low⟩
 ·rcases b with⟨_,rfl⟩|⟨no,_⟩
  ·rfl
  ·exact absurd ek (no k hk)
 ·rcases b with⟨⟨k',hk',ek'⟩,rfl⟩|⟨_,e',he',⟨k',hk',ek',rfl⟩,low'⟩
  ·exact absurd ek' (no k' hk')
  ·have ee:e=e':=by
    rcases Int.lt_trichotomy e e' with z|z|z
    ·exact absurd ek (low' e he z k hk)
    ·exact z
    ·exact absurd ek' (low e' he' z k' hk')
   subst ee;rw[qx fr hk hk' ek ek']
theorem P9.not_idle {ks:List Call}{c:Int}{es:List Int}{w:Int}(a:P9 ks c es w)(i:X9 ks c es):False:=by
 rcases a with⟨⟨k,hk,ek⟩,_⟩|⟨_,e,he,⟨k,hk,ek,_⟩,_⟩
 ·exact i.1 k hk ek
 ·exact i.2 e he k hk ek
theorem T8.one {h:l9}{ks:List Call}{c:Int}{es:List Int}{sh:Int}{o o':Option (List Int)}(a:T8 h ks c es sh o)(b:T8 h ks c es sh o'):o=o':=by
 cases o with
 | none =>
  cases o' with
  | none=>rfl
  | some ms =>
   obtain⟨k,lk,_⟩:=b;have a':x9 h sh=[]:=a
   have:=lk.1
   rw[a'] at this
   cases this
 | some ms =>
  obtain⟨k,lk,rfl⟩:=a
  cases o' with
  | none =>
   have b':x9 h sh=[]:=b
   have:=lk.1
   rw[b'] at this
   cases this
  | some ms' =>
   obtain⟨k',lk',rfl⟩:=b;rw[lk.uniq lk']
inductive Y8 (h:l9)(ks:List Call)(x:V)(o:Option (List V))(sh:Int)(CN CB CE:Addr)(G H:Hp):Value->Option Addr->Prop where
 | wrong (b:(m4 x 0 (h.i*h.c-1)&&C0 h o)=false):Y8 h ks x o sh CN CB CE G H (.ref CN) none
 | busy (c:Int) (es:List Int) (w:Int) (dx:Addr) (ex:x=.int c) (eo:o=some (es.map V.int)) (w1:m4 x 0 (h.i*h.c-1)=true) (w2:C0 h o=true) (b:P9 ks c es w) (e:H dx=some (XdO dx [("who",.int w)])):Y8 h ks x o sh CN CB CE G H (.ref CB) (some dx)
 | eng (c:Int) (es:List Int) (dx nh:Addr) (nas:List Addr) (nlv:V) (lo:Option (List Int)) (ex:x=.int c) (eo:o=some (es.map V.int)) (w1:m4 x 0 (h.i*h.c-1)=true) (w2:C0 h o=true) (i:X9 ks c es) (n:N4 h ks c es sh=[]) (hl:T8 h ks c es sh lo) (g:fP H dx (E7 h ks c es) lo nh nas nlv) (f:X1 G nas nlv):Y8 h ks x o sh CN CB CE G H (.ref CE) (some dx)
def F3 {es es':List Int}{o:Option (List V)}(h:o=some (es.map V.int))(h':o=some (es'.map V.int)):es=es':=by
 rw[h] at h'
 have:=congrArg nV (Option.some.inj h')
 rwa [P6,P6] at this
theorem kI {h:l9}{ks:List Call}{x:V}{o:Option (List V)}{sh:Int}{CN CB CE:Addr}{H3 G H:Hp}{t ea C:Addr}{d:Option Addr}(ok:h.Ok)(few:ks.length<=63)(fr:ks.Pairwise (Q2 h))(due:fw h ks x o sh H3 t)(s3:i9 H3 G)(s:i9 G H)(fl:Y8 h ks x o sh CN CB CE G H (.ref C) d)(hea:H ea=none) :
  ∃N:Addr->Prop,U4 CN CB CE (upd H ea (U1 ea C d)) ea t N/\∀b,N b->G b=none:=by
 have sN:=c9 hea (U1 ea C d);have sA:=s3.trans (s.trans sN)
 cases fl with
 | wrong b =>
  cases due with
  | wrong b' e=>exact⟨λ_=>False,.wrong c6 (sA _ _ e),λ_ z=>z.elim⟩
  | busy c es w ex eo w1 w2=>rw[w1,w2] at b;cases b
  | eng c es kf rs lv lo ex eo w1 w2=>rw[w1,w2] at b;cases b
  | way c es fl ex eo w1 w2=>rw[w1,w2] at b;cases b
 | busy c es w dx ex eo w1 w2 b e =>
  cases due with
  | wrong b' _=>rw[w1,w2] at b';cases b'
  | busy c' es' w' ex' eo' _ _ b' e' =>
   cases ex.symm.trans ex'
   obtain rfl:=F3 eo eo';obtain rfl:=b.one fr b';exact⟨λ_=>False,.busy dx w c6 (sN _ _ e) (sA _ _ e'),λ_ z=>z.elim⟩
  | eng c' es' kf rs lv lo ex' eo' _ _ i =>
   cases ex.symm.trans ex'
   obtain rfl:=F3 eo eo';exact(b.not_idle i).elim
  | way c' es' fl ex' eo' _ _ i =>
   cases ex.symm.trans ex'
   obtain rfl:=F3 eo eo';exact(b.not_idle i).elim
 | eng c es dx nh nas nlv lo ex eo w1 w2 i n hl g f =>
  cases due with
  | wrong b' _=>rw[w1,w2] at b';cases b'
  | busy c' es' w' ex' eo' _ _ b' e' =>
   cases ex.symm.trans ex'
   obtain rfl:=F3 eo eo';exact(b'.not_idle i).elim
  | way c' es' fl ex' eo' _ _ _ n' =>
   cases ex.symm.trans ex'
   obtain rfl:=F3 eo eo';exact absurd n n'
  | eng c' es' kf rs lv lo' ex' eo' _ _ _ _ e' ek er hl' el =>
   cases ex.symm.trans ex'
   obtain rfl:=F3 eo eo';obtain rfl:=hl.one hl'
   have lr:∀row∈E7 h ks c es,row.length<=99:=λrow hr=>by
    unfold E7 M0 at hr;obtain⟨k,_,rfl⟩:=mem_map.mp hr
    have:=aV h ks (c/h.c) (l7 h es) k
    lia
   have lh:(E7 h ks c es).length=h.m.toNat:=by
    unfold E7 M0;rw[length_map,length_range]
   have m1:=ok.m
   have nn:∀a,G a=none->¬a∈rs/\a≠kf:=λa ha=>by
    refine⟨λz=>?_,λz=>?_⟩
    ·obtain⟨j,hj⟩:=List.mem_iff_getElem?.mp z
     obtain⟨r,_,e⟩:=j9 er j a hj;have e2:=s3 _ _ e;rw[ha] at e2
     cases e2
    ·have e2:=s3 _ _ ek
     rw[<- z,ha] at e2
     cases e2
   have gl:match (generalizing:=false) lo with | none=>nlv=.non | some ms=>∃m,nlv=.ref m/\¬m∈nas/\m≠nh/\upd H ea (U1 ea CE (some dx)) m=some (.lst (ms.map V.int)):=by
    have:=g.l
    cases lo with
    | none=>exact this
    | some ms =>
     obtain⟨m,y1,y2,y3,y4⟩:=this;exact⟨m,y1,y2,y3,sN _ _ y4⟩
   have ll:match (generalizing:=false) lo with | none=>lv=.non | some ms=>∃m,lv=.ref m/\upd H ea (U1 ea CE (some dx)) m=some (.lst (ms.map V.int)):=by
    cases lo with
    | none=>exact el
    | some ms =>
     obtain⟨m,y1,y2⟩:=el;exact⟨m,y1,sA _ _ y2⟩
   have fl9:∀ms,lo=some ms->ms.length<=99:=λms z=>by
    subst z;obtain⟨k,_,rfl⟩:=hl
    have:=aV h ks (c/h.c) (l7 h es) k
    lia
   refine⟨λb=>b∈nas\/nlv=.ref b,.eng dx nh kf nas rs nlv lv (E7 h ks c es) lo c6 ⟨sN _ _ g.d,sN _ _ g.h,Paired.mapP g.rows λa r z=>sN _ _ z,g.nd,gl⟩ (λz=>?_) (by lia) lr fl9 (sA _ _ e') (sA _ _ ek) (Paired.mapP er λa r z=>sA _ _ z) ll (λa ha=>⟨.inl ha,nn a (f.1 a ha)⟩) (λm hm=>⟨.inr hm,nn m (f.2 m hm)⟩),λb z=>?_⟩
   ·rw[z] at lh
    have:(0:Nat)=h.m.toNat:=lh
    lia
   ·rcases z with z|z
    ·exact f.1 b z
    ·exact f.2 b z
theorem U4.first {CN CB CE:Addr}{H:Hp}{ea t:Addr}{N:Addr->Prop}(p:U4 CN CB CE H ea t N):∃(i:Int)(u v:V),H t=some (.tup [.int i,u,v])/\i≠9:=by
 cases p with
 | wrong e d=>exact⟨_,_,_,d,by decide⟩
 | busy dx w e x d=>exact⟨_,_,_,d,by decide⟩
 | eng dx nh kf nas rs nlv lv rows lo e g ne few fe fl d=>exact⟨_,_,_,d,by decide⟩
theorem sx {h:l9}{ks:List Call}{x:V}{o:Option (List V)}{sh:Int}{CN CB CE CH:Addr}{K:Frag}{G H:Hp}{c:Value}{d:Option Addr}(k1:exmOne K (.ref CN) (.ref CH)=some true)(k2:exmOne K (.ref CB) (.ref CH)=some true)(k3:exmOne K (.ref CE) (.ref CH)=some true)(fl:Y8 h ks x o sh CN CB CE G H c d):exmOne K c (.ref CH)=some true:=by
 cases fl with
 | wrong=>exact k1
 | busy=>exact k2
 | eng=>exact k3
def fU {b:Bool}{H0:Hp}{tt:TS}{D:aI}{σ:Int->L2.St}{x:Int}(P:Int->Prop)(hx:b=false->P x)(h:∀W,P W->D.nx (σ W) H0)(h1:b=true->(∀W,P W->D.nx (σ W) H0)->tt D (σ x) H0):(λ(b:Bool) H1=>if b=true then tt D (σ x) H1 else nG D (σ x) H1) b H0:=by
 cases b
 ·exact h x (hx rfl)
 ·exact h1 rfl h
def jm {b:Bool}{H:Hp}{ta tb:TS}{D:aI}{σ:L2.St}(R:L2.St->Hp->Prop)(hr:∀σ' G,R σ' G->D.nx σ' G)(h1:b=true->(∀σ' G,R σ' G->D.nx σ' G)->ta D σ H)(h2:b=false->(∀σ' G,R σ' G->D.nx σ' G)->tb D σ H):(λ(b:Bool) H1=>if b=true then ta D σ H1 else tb D σ H1) b H:=by
 cases b
 ·exact h2 rfl hr
 ·exact h1 rfl hr
def fJ (as:List Addr):(as.map V.ref).all rf=true:=by
 rw[all_eq_true]
 intro x hx
 obtain⟨c,_,rfl⟩:=mem_map.mp hx;rfl
def rX {l1 l2:List Int}(p:l1.Perm l2)(s1:l1.Pairwise (·<=·))(s2:l2.Pairwise (·<=·)):l1=l2:=p.eq_of_pairwise (λa b _ _ h1 h2=>Int.le_antisymm h1 h2) s1 s2
def oV {l1 l2:List Call}(p:l1.Perm l2)(s1:l1.Pairwise λk k'=>k.c<k'.c)(s2:l2.Pairwise λk k'=>k.c<k'.c):l1=l2:=p.eq_of_pairwise (λa b _ _ h1 h2=>absurd h1 (by lia)) s1 s2
def nj {H:Hp}{p p':Addr}{κ:Call}(h:D5 H p κ)(h':D5 H p' κ)(few:κ.es.length<=1000):O9 H 2 (.ref p) (.ref p'):=by
 obtain⟨t,t1,t2⟩:=h;obtain⟨t',t1',t2'⟩:=h';exact .inr ⟨p,p',_,_,rfl,rfl,.inr ⟨t2,t2'⟩,.cons (S2.at (.inr ⟨_,rfl,rfl⟩)) (.cons (.inr ⟨t,t',_,_,rfl,rfl,.inr ⟨t1,t1'⟩,U6 κ.es,by rw[length_map];exact few⟩) (.cons (S2.at (.inr ⟨_,rfl,rfl⟩)) .nil)),by show 3<=1000;decide⟩
theorem cg {H:Hp}:∀{bs as':List Addr}{ks:List Call},j8 H bs ks->j8 H as' ks->(∀κ∈ks,κ.es.length<=1000)->Paired (O9 H 2) (bs.map V.ref) (as'.map V.ref)
 | _,_,[],.nil,.nil,_=>.nil
 | _,_,κ::_,.cons h t,.cons h' t',few=>.cons (nj h h' (few _ (mem_cons_self ..))) (cg t t' λκ hκ=>few κ (mem_cons_of_mem _ hκ))
noncomputable def dB (p:Prop):Bool:=@decide p (Classical.propDecidable p)
def gW {p:Prop}:dB p=true↔p:=by unfold dB;exact @decide_eq_true_iff p (Classical.propDecidable p)
theorem ou {p:Prop}(h:¬p):dB p=false:=by cases q:dB p with
 | false=>rfl
 | true=>exact absurd (gW.mp q) h
def dZ {p:Prop}(h:p):dB p=true:=gW.mpr h
def sD {p:Prop}{b:Bool}(h:b=true↔p):b=dB p:=by
 rw[Bool.eq_iff_iff,gW];exact h
theorem yl (xs:List V):S7 xs (some 1) none=xs.tail:=by
 unfold S7;rw[show HT.sIx xs.length 0 (some 1)=min 1 xs.length from HT.sIx_nat _ 0 1,HT.sIx_none]
 cases xs with
 | nil=>rfl
 | cons x t =>
  have e:min 1 (x::t).length=1:=by rw[length_cons];lia
  rw[e,length_cons,Nat.add_sub_cancel,List.drop_succ_cons,drop_zero,take_length];rfl
def E4 (h:l9)(k:Call):List (List Int):=[0,k.c/h.c,k.k]::(l7 h k.es).map λr=>[1,k.k,r]
def xH (h:l9)(k k':Call):Prop:=k.c/h.c=k'.c/h.c\/∃e∈k.es,e/h.e∈k'.es.map λe=>e/h.e
structure Fit (h:l9)(k k':Call):Prop where
 c:k.c<k'.c
 es:∀e∈k.es,¬e∈k'.es
 l:¬(k.k=k'.k/\xH h k k')
structure wH (h:l9)(ks:List Call):Prop where
 c:(ks.map Call.c).Pairwise (· < ·)
 es:(ks.flatMap Call.es).Nodup
 l:(ks.flatMap (E4 h)).Nodup
theorem U9 {α β:Type}(f:α->List β):∀ks:List α,(ks.flatMap f).Nodup↔(∀k∈ks,(f k).Nodup)/\ks.Pairwise λa b=>∀x∈f a,¬x∈f b
 | []=>by simp
 | k::t=>by
  rw[List.flatMap_cons,nodup_append,U9 f t,pairwise_cons]
  constructor
  ·rintro⟨h1,⟨h2,h3⟩,h4⟩
   refine⟨λk' hk'=>?_,λb hb x hx hx'=>h4 x hx x (List.mem_flatMap.mpr ⟨b,hb,hx'⟩) rfl,h3⟩
   rcases mem_cons.mp hk' with rfl|q
   ·exact h1
   ·exact h2 k' q
  ·rintro⟨h1,h2,h3⟩
   refine⟨h1 k mem_cons_self,⟨λk' hk'=>h1 k' (mem_cons_of_mem _ hk'),h3⟩,λx hx y hy e=>?_⟩;obtain⟨b,hb,hy'⟩:=List.mem_flatMap.mp hy;exact h2 b hb x hx (e▸hy')
def eO {α β:Type}{f:α->β}(hf:∀a b,f a=f b->a=b){l:List α}(h:l.Nodup):(l.map f).Nodup:=by
 unfold List.Nodup;rw[pairwise_map];exact h.imp λ{a b} q e=>q (hf a b e)
def L5 {h:l9}{k:Call}{d:List Int}:d∈E4 h k↔d=[0,k.c/h.c,k.k]\/∃e∈k.es,d=[1,k.k,e/h.e]:=by
 unfold E4 l7;rw[mem_cons,mem_map]
 constructor
 ·rintro(z|⟨r,hr,rfl⟩)
  ·exact .inl z
  ·rw[D0,mem_map] at hr
   obtain⟨e,he,rfl⟩:=hr;exact .inr ⟨e,he,rfl⟩
 ·rintro(z|⟨e,he,rfl⟩)
  ·exact .inl z
  ·exact .inr ⟨_,(D0 _ _).mpr (mem_map_of_mem he),rfl⟩
def iM (h:l9)(k:Call):(E4 h k).Nodup:=by
 unfold E4;rw[List.nodup_cons];refine⟨λz=>?_,eO (λa b e=>by injection e with _ e;injection e with _ e;injection e) (A7 (D8 _))⟩
 obtain⟨r,_,e⟩:=mem_map.mp z
 injection e with e _
 exact absurd e (by decide)
def fF {h:l9}{k k':Call}:(∀d∈E4 h k,¬d∈E4 h k')↔¬(k.k=k'.k/\xH h k k'):=by
 constructor
 ·rintro g ⟨e,z|⟨e1,h1,h2⟩⟩
  ·exact g _ (L5.mpr (.inl rfl)) (L5.mpr (.inl (by rw[e,z])))
  ·obtain⟨e2,h3,h4⟩:=mem_map.mp h2
   exact g _ (L5.mpr (.inr ⟨e1,h1,rfl⟩)) (L5.mpr (.inr ⟨e2,h3,by rw[e,h4]⟩))
 ·intro g d hd hd'
  rcases L5.mp hd with rfl|⟨e1,h1,rfl⟩
  ·rcases L5.mp hd' with z|⟨e2,h2,z⟩
   ·injection z with _ z
    injection z with z1 z
    injection z with z2 _
    exact g ⟨z2,.inl z1⟩
   ·injection z with z _
    exact absurd z (by decide)
  ·rcases L5.mp hd' with z|⟨e2,h2,z⟩
   ·injection z with z _
    exact absurd z (by decide)
   ·injection z with _ z
    injection z with z1 z
    injection z with z2 _
    exact g ⟨z1,.inr ⟨e1,h1,mem_map.mpr ⟨e2,h2,z2.symm⟩⟩⟩
def fZ {h:l9}{ks:List Call}(hin:∀k∈ks,k.es.Nodup):wH h ks↔ks.Pairwise (Fit h):=by
 constructor
 ·rintro⟨h1,h2,h3⟩
  rw[pairwise_map] at h1;rw[U9] at h2 h3;exact((h1.and h2.2).and h3.2).imp λ{a b} q=>⟨q.1.1,q.1.2,fF.mp q.2⟩
 ·intro g
  refine⟨?_,(U9 _ _).mpr ⟨hin,g.imp λ{a b} q=>q.es⟩,(U9 _ _).mpr ⟨λk _=>iM h k,g.imp λ{a b} q=>fF.mpr q.l⟩⟩;rw[pairwise_map];exact g.imp λ{a b} q=>q.c
def mQ {ns:List Int}:(y9 ns).length=ns.length↔ns.Nodup:=by
 constructor
 ·intro z
  exact(E6 (y9 ns) ns (A7 (D8 ns)) (λx hx=>(D0 x ns).mp hx) (by lia)).nodup_iff.mp (A7 (D8 ns))
 ·intro z
  have h1:=Z9 ns;exact(E6 ns (y9 ns) z (λx hx=>(D0 x ns).mpr hx) h1).length_eq.symm
def fH (K:Frag):Sp:=λvs H Q _=>∃p:Addr,vs=[.ref p] /\
  ((∃ns:List Int,SqL K H p (ns.map V.int)/\ns.length<4000/\∀H',i9 H H'->Q (.bl (dB ns.Nodup)) H') \/
   (∃(as:List Addr)(ds:List (List Int)),SqL K H p (as.map V.ref)/\sL K H as ds/\ds.length<=1000/\∀H',i9 H H'->Q (.bl (dB ds.Nodup)) H'))
def dn (H:Hp)(l:Addr)(ds:List (List Int)):Prop:=∃as:List Addr,H l=some (.lst (as.map V.ref))/\Paired (λa d=>H a=some (.tup (d.map V.int))) as ds
def jx (K:Frag):Sp:=λvs H Q _=>∃(a p:Addr)(h:l9)(k:Call),vs=[.ref a,.ref p]/\SqT K H a (h.row.map V.int)/\h.Ok/\D5 H p k/\k.In h /\
 ∀(l:Addr)(H':Hp),i9 H H'->H l=none->dn H' l (E4 h k)->Q (.ref l) H'
def jG:Sp:=λvs H Q _=>∃(a:Addr)(ns:List Int),vs=[.ref a]/\H a=some (.lst (ns.map V.int))/\ns.length<=200/\∀H',i9 H H'->Q (.bl (dB (ns.Pairwise (· < ·)))) H'
def fA (K:Frag):Sp:=λvs H Q _=>∃(a b:Addr)(h:l9)(as:List Addr)(ks:List Call),vs=[.ref a,.ref b]/\SqT K H a (h.row.map V.int)/\h.Ok/\SqL K H b (as.map V.ref)/\j8 H as ks/\(∀k∈ks,k.In h)/\ks.length<=63 /\
 ∀H',i9 H H'->Q (.bl (dB (ks.Pairwise (Fit h)))) H'
theorem fz:∀ns:List Int,(ns.zip ns.tail).all (id ∘ λp=>decide (p.1<p.2))=true↔ns.Pairwise (· < ·)
 | []=>by simp
 | [a]=>by simp
 | a::b::t=>by
  have ih:=fz (b::t);rw[List.tail_cons] at ih ⊢;rw[List.zip_cons_cons,all_cons,Bool.and_eq_true,pairwise_cons,ih]
  constructor
  ·rintro⟨h1,h2⟩
   have h1':a<b:=of_decide_eq_true h1;refine⟨λx hx=>?_,h2⟩
   rcases mem_cons.mp hx with rfl|q
   ·exact h1'
   ·exact Int.lt_trans h1' ((pairwise_cons.mp h2).1 x q)
  ·rintro⟨h1,h2⟩
   exact⟨decide_eq_true (h1 b mem_cons_self),h2⟩
theorem ez {α β:Type}(n:Nat)(f:α->List β):∀(ks:List α),(∀k∈ks,(f k).length<=n)->∀i,((ks.take i).flatMap f).length<=n*i
 | [],_,i=>by simp
 | k::t,h,0=>by simp
 | k::t,h,i+1=>by
  rw[List.take_succ_cons,List.flatMap_cons,length_append];have h1:=h k mem_cons_self;have h2:=ez n f t (λk' hk'=>h k' (mem_cons_of_mem _ hk')) i;rw[Nat.mul_add];lia
theorem dn.same {H H':Hp}{l:Addr}{ds:List (List Int)}(s:i9 H H')(h:dn H l ds):dn H' l ds:=by
 obtain⟨as,e1,e2⟩:=h;exact⟨as,s _ _ e1,A4 e2 λa d _ e=>s _ _ e⟩
theorem dn.push {H:Hp}{l t:Addr}{as:List Addr}{ds:List (List Int)}{d:List Int}(b1:H l=some (.lst (as.map V.ref)))(b2:Paired (λa d=>H a=some (.tup (d.map V.int))) as ds)(ht:H t=none) :
  dn (upd (upd H t (.tup (d.map V.int))) l (.lst (as.map V.ref++[.ref t]))) l (ds++[d]):=by
 have htl:t≠l:=λz=>by rw[z,b1] at ht;cases ht
 have s1:=c9 ht (.tup (d.map V.int));refine⟨as++[t],by rw[c6,map_append];rfl,Paired.snoc (A4 b2 λa d' _ e=>?_) ?_⟩
 ·have:a≠l:=λz=>by rw[z,b1] at e;cases e
  rw[j2 this];exact s1 _ _ e
 ·rw[j2 htl,c6]
def mT (T:Txt K mg)(D:Def K mg "are_unlike" (top 23) p_49):i6 P w K mg base 1 "are_unlike" p_49 (fH K):=by
 refine D.ok ai (λ_ _ _ _ h=>?_) (λ_ _ _ _ _ H _ Q E hr h=>?_)
 ·obtain⟨p,rfl,_⟩:=h
  rfl
 obtain⟨p,rfl,⟨ns,hS,hlt,q⟩|⟨as,ds,hS,hD,hle,q⟩⟩:=h
 ·refine⟨_,(i0 (j6 (J5 C7 (i8 (ap P w) rfl T.yT boot_len (a8 (A5 (Z2 K P w rfl) rfl T.BI boot_set (a8 (pv 0) c7 a9)) c7 o8)) (i8 (u6 K) rfl T.yT boot_len (a8 (pv 0) c7 a9)) (m3 _)))),?_⟩
  refine⟨_,rfl,p,ns,rfl,hS,hlt,λl hl=>⟨l,ns,rfl,c6,_,rfl,p,_,rfl,.inl ((c9 hl _).seq hS),rfl,?_⟩⟩
  rw[show decide (V.int (((y9 ns).length:Nat):Int)=V.int (((ns.map V.int).length:Nat):Int))=dB ns.Nodup from sD (by
   rw[decide_eq_true_iff,length_map,<- mQ]
   constructor
   ·intro z;injection z with z;lia
   ·intro z;rw[z])]
  exact q _ (c9 hl _)
 ·refine⟨_,(i0 (j6 (J5 C7 (i8 mW rfl T.yT boot_len (a8 (A5 (lH K rfl (B5.units9 hr)) rfl T.BI boot_set (a8 (pv 0) c7 a9)) c7 o8)) (i8 (u6 K) rfl T.yT boot_len (a8 (pv 0) c7 a9)) (m3 _)))),?_⟩
  have la:=Paired.length hD;refine⟨_,rfl,p,as,ds,rfl,hS,hD,hle,λl hl=>⟨l,_,rfl,c6,_,rfl,p,_,rfl,.inl ((c9 hl _).seq hS),rfl,?_⟩⟩
  rw[show decide (V.int (((met ds ds.length).length:Nat):Int)=V.int (((as.map V.ref).length:Nat):Int))=dB ds.Nodup from sD (by
   rw[decide_eq_true_iff,length_map,la,<- (nH ds).1]
   constructor
   ·intro z;injection z with z;lia
   ·intro z;rw[z])]
  exact q _ (c9 hl _)
def sC:FnScope ["numbers"] ["numbers"] (i3 (top 13)):=mkF
def pr (T:Txt K mg)(D:Def K mg "rises" (top 13) p_44):i6 P w K mg base 1 "rises" p_44 jG:=by
 refine D.ok sC (λ_ _ _ _ h=>?_) (λ_ _ _ _ _ H _ Q E hr h=>?_)
 ·obtain⟨a,ns,rfl,_⟩:=h
  rfl
 obtain⟨a,ns,rfl,e,h64,q⟩:=h;refine⟨_,(i0 (j6 (i8 (bM K rfl) rfl T.DO boot_all (a8 (E9 (own:=["one","other"]) (fr:=[]) rfl (mkC ["numbers"] (i3 (top 13))) (um false K rfl T.Eu (a8 (pv 0) (a8 (Q4 (S5 K) (pv 0) (R3 c8) Y9) c7 m9) a9)) (λcl C s H ex=>⟨(yA K rfl (show(["one","other"]:List Str).Nodup from by decide +kernel) (Nm.mk (i:=0) rfl (Or.inl rfl) (Or.inr rfl)) (Nm.mk (i:=1) rfl (Or.inl rfl) (Or.inr rfl))),F4,(J5 cU (pv 0) (pv 1) (m3 _))⟩)) c7 R4)))),?_⟩
 refine⟨_,rfl,_,rfl,_,rfl,a,_,rfl,SqL.of e,λp hp=>?_⟩;have e1:=@c6 H p (.lst (S7 (ns.map V.int) (some 1) none));have s1:=c9 hp (.lst (S7 (ns.map V.int) (some 1) none));generalize upd H p _=H1 at e1 s1 ⊢;rw[yl] at e1;have hlen:(ns.map V.int).length<=200:=by rw[length_map];exact h64
 have et:(ns.map V.int).tail=ns.tail.map V.int:=(List.map_tail ..).symm;refine⟨a,p,ns.map V.int,(ns.map V.int).tail,rfl,SqL.of (s1 _ _ e),SqL.of e1,?_⟩
 refine rT (b:=false) (xs:=ns.map V.int) (ys:=(ns.map V.int).tail) (λi acc σ H'=>i9 H1 H'/\acc=((ns.zip ns.tail).take i).map (λp=>V.bl (decide (p.1<p.2)))/\∃v0 v1,σ=[v0,v1])
  ⟨i9.refl H1,rfl,none,none,rfl⟩ (Nat.le_of_lt (k8 (by lia))) (λi acc σ H' h=>?_) (λi acc σ H' _ _ h=>?_) ?_ ?_
 ·obtain⟨_,rfl,_⟩:=h
  rw[length_map,length_take];lia
 ·obtain⟨s2,_⟩:=h
  exact⟨SqL.of (s2 _ _ (s1 _ _ e)),SqL.of (s2 _ _ e1)⟩
 ·rintro i x y acc σ H' p hxi hyi ⟨s2,rfl,v0,v1,rfl⟩ hpn
  rw[et] at hyi;rw[List.getElem?_map] at hxi hyi;obtain⟨n,hn,rfl⟩:=Option.map_eq_some_iff.mp hxi;obtain⟨m,hm,rfl⟩:=Option.map_eq_some_iff.mp hyi;refine⟨p,[.int n,.int m],rfl,SqT.of c6,rfl,.int n,[.int m],rfl,.int m,[],rfl,rfl,?_⟩;refine⟨_,rfl,_,rfl,_,_,rfl,rfl,s2.trans (c9 hpn _),?_,_,_,rfl⟩;have hz:(ns.zip ns.tail)[i]? = some (n,m):=by rw[List.getElem?_zip_eq_some];exact⟨hn,hm⟩
  rw[take_succ,hz,map_append];rfl
 ·rintro acc σ H' ⟨s2,rfl,v0,v1,rfl⟩ l hl
  have hm:min (ns.map V.int).length (ns.map V.int).tail.length=(ns.zip ns.tail).length:=by rw[List.length_zip,et,length_map,length_map]
  rw[hm,take_length];refine⟨l,(ns.zip ns.tail).map (λp=>decide (p.1<p.2)),rfl,SqL.of (by rw[c6,List.map_map];rfl),?_⟩
  rw[List.all_map,show(ns.zip ns.tail).all (id ∘ λp=>decide (p.1<p.2))=dB (ns.Pairwise (· < ·)) from sD (fz ns)];exact q _ ((s1.trans s2).trans (c9 hl _))
def S3:FnScope ["hall","call","lines","rack"] ["hall","call"] (i3 (top 22)):=mkF
def sQ (T:Txt K mg)(yU:i6 P w K mg base 1 "place_in" p_24 (R6 K l9.c))(yV:i6 P w K mg base 2 "racks_of" p_22 (ac K))(D:Def K mg "held_lines" (top 22) p_47):i6 P w K mg base 3 "held_lines" p_47 (jx K):=by
 refine D.ok S3 (λ_ _ _ _ h=>?_) (λ_ _ _ _ _ H _ Q E hr h=>?_)
 ·obtain⟨a,p,h,k,rfl,_⟩:=h
  rfl
 obtain⟨a,p,h,k,rfl,hH,ok,⟨e,ee,ep⟩,hk,q⟩:=h
 refine⟨_,(d9 (j3 (i:=2) S3.nd rfl (Or.inl rfl) (n6 (a8 (C2 (a8 c8 (a8 (j1 (i4 K) (m6 yU hr rfl (a8 (pv 0) (a8 (j1 (i4 K) (pv 1) c8) c7 m9) a9)) c8) (a8 (j1 (i4 K) (pv 1) c8) c7 m9) m9) l8)) c7 Q0)))
  (d9 (A2 PassesOwn.never rfl (o6 K (m6 yV hr rfl (a8 (pv 0) (a8 (j1 (i4 K) (pv 1) c8) c7 m9) a9))) (m5 (i:=3) S3.nd rfl (Or.inl rfl))
  (i0 (C5 (K4 K PySem.F.plainAttrs_list PySem.F.slot_list_append PySem.F.type_list_append B7 (pv 2) (a8 (C2 (a8 c8 (a8 (j1 (i4 K) (pv 1) c8) (a8 (pv 3) c7 a9) m9) l8)) c7 Q0)))))
  (i0 (j6 (pv 2))))),?_⟩
 refine⟨_,rfl,_,rfl,p,_,_,_,rfl,rfl,SqT.of ep,rfl,a,h,k.c,rfl,hH,ok,λr hr2=>?_⟩;have er:=@c6 H r (.tup [.int (k.c/h.c),.int (k.c%h.c)]);have s1:=c9 hr2 (.tup [.int (k.c/h.c),.int (k.c%h.c)]);generalize upd H r _=H1 at er s1 ⊢;refine⟨r,_,_,_,rfl,rfl,SqT.of er,rfl,_,rfl,p,_,_,_,rfl,rfl,SqT.of (s1 _ _ ep),rfl,z_3,λt ht=>?_⟩
 dsimp only[W7]
 have et:=@c6 H1 t (.tup [.int 0,.int (k.c/h.c),.int k.k]);have s2:=s1.trans (c9 ht (.tup [.int 0,.int (k.c/h.c),.int k.k]));generalize upd H1 t _=H2 at et s2 ⊢;refine⟨z_1,λl hl=>?_⟩
 have el:=@c6 H2 l (.lst [.ref t]);have s3:=s2.trans (c9 hl (.lst [.ref t]));have et3:=c9 hl (.lst [.ref t]) _ _ et;have hlH:H l=none:=s2.free hl;generalize upd H2 l _=H3 at el s3 et3 ⊢;have bag3:dn H3 l [[0,k.c/h.c,k.k]]:=⟨[t],el,.cons et3 .nil⟩;have rl:=Y7 h k.es;have few:=hk.few;refine⟨_,rfl,_,rfl,p,_,_,_,rfl,rfl,SqT.of (s3 _ _ ep),rfl,a,e,h,k.es,rfl,i9.seqT s3 hH,ok,.inl (SqT.of (s3 _ _ ee)),by lia,λrl2 H4 s4 hrl er4=>?_⟩
 refine⟨rl2,rfl,⟨_,SqL.of er4⟩,?_⟩
 have hne:rl2≠l:=λz=>by
  rw[z,el] at hrl
  cases hrl
 have bag4:dn H4 l [[0,k.c/h.c,k.k]]:=bag3.same s4;have s34:=s3.trans s4
 refine B0 (xs:=(l7 h k.es).map V.int) (λi σ H'=>i9 H H'/\H' rl2=some (.lst ((l7 h k.es).map V.int))/\dn H' l ([0,k.c/h.c,k.k]::((l7 h k.es).take i).map λr=>[1,k.k,r])/\∃v3,σ=[some (.ref a),some (.ref p),some (.ref l),v3])
  ⟨s34,er4,bag4,none,rfl⟩ (λi σ H' _ gg=>SqL.of gg.2.1) ?_ ?_
 ·rintro i x σ H' hx ⟨s5,e5,⟨as,b1,b2⟩,v3,rfl⟩
  rw[List.getElem?_map] at hx;obtain⟨r,hr2,rfl⟩:=Option.map_eq_some_iff.mp hx;refine⟨_,rfl,.inl ⟨rfl,_,SqL.of b1⟩,_,rfl,p,_,_,_,rfl,rfl,SqT.of (s5 _ _ ep),rfl,_,rfl,z_3,λt2 ht2=>?_⟩
  have htl:t2≠l:=λz=>by rw[z,b1] at ht2;cases ht2
  have htr:t2≠rl2:=λz=>by rw[z,e5] at ht2;cases ht2
  have hn:=Paired.length b2;refine⟨l,as.map V.ref,.ref t2,rfl,rfl,by rw[j2 (Ne.symm htl)];exact b1,k8 (by rw[length_map,hn,length_cons,length_map,length_take];lia),?_⟩
  refine⟨i9.put (s5.trans (c9 ht2 _)) hlH,by rw[j2 hne,j2 (Ne.symm htr)];exact e5,?_,_,rfl⟩
  have:=dn.push (d:=[1,k.k,r]) b1 b2 ht2
  rw[take_succ,hr2,map_append];exact this
 ·rintro σ H5 ⟨s5,e5,bag5,v3,rfl⟩
  rw[length_map,take_length] at bag5;exact⟨_,rfl,q l H5 s5 hlH bag5⟩
def Q7:FnScope ["hall","calls","ends","lines","call"] ["hall","calls"] (i3 (top 24)):=mkF
def kd (T:Txt K mg)(BP:i6 P w K mg base 3 "held_lines" p_47 (jx K))(Eb:i6 P w K mg base 1 "rises" p_44 jG)(zo:i6 P w K mg base 1 "are_unlike" p_49 (fH K))(D:Def K mg "is_right" (top 24) p_13):i6 P w K mg base 4 "is_right" p_13 (fA K):=by
 refine D.ok Q7 (λ_ _ _ _ h=>?_) (λ_ _ _ _ _ H _ Q E hr h=>?_)
 ·obtain⟨a,b,h,as,ks,rfl,_⟩:=h
  rfl
 obtain⟨a,b,h,as,ks,rfl,hH,ok,hB,hC,hin,h95,q⟩:=h;have la:=Paired.length hC;have few:∀i,((ks.take i).flatMap Call.es).length<=12*i:=λi=>ez 12 Call.es ks (λk hk=>(hin k hk).few) i
 have few2:∀i,((ks.take i).flatMap (E4 h)).length<=13*i:=λi=>ez 13 (E4 h) ks (λk hk=>by
  have h1:=(hin k hk).few;have h2:=Y7 h k.es;unfold E4;rw[length_cons,length_map]
  lia) i
 refine⟨_,(d9 (j3 (i:=2) Q7.nd rfl (Or.inl rfl) (n6 c7))
  (d9 (j3 (i:=3) Q7.nd rfl (Or.inl rfl) (n6 c7))
  (d9 (A2 PassesOwn.never rfl (o6 K (pv 1)) (m5 (i:=4) Q7.nd rfl (Or.inl rfl))
  (d9 (C5 (K4 K PySem.F.plainAttrs_list PySem.F.slot_list_extend PySem.F.type_list_extend (nq K) (pv 2) (a8 (j1 (i4 K) (pv 4) c8) c7 m9)))
  (i0 (C5 (K4 K PySem.F.plainAttrs_list PySem.F.slot_list_extend PySem.F.type_list_extend lK (pv 3) (a8 (m6 BP hr rfl (a8 (pv 0) (a8 (pv 4) c7 a9) a9)) c7 o8))))))
  (i0 (j6 (U7 (m6 Eb hr rfl (a8 (E9 (own:=["call"]) (fr:=[]) rfl (mkC ["hall","calls","ends","lines","call"] (i3 (top 24))) (o6 K (pv 1)) (λcl C s H ex=>⟨(m5 (i:=0) (show(["call"]:List Str).Nodup from by decide +kernel) rfl (Or.inl rfl) (Or.inr rfl)),F4,(j1 (i4 K) (pv 0) c8)⟩)) c7 R4)) (U7 (m6 zo hr rfl (a8 (pv 2) c7 a9)) (az (m6 zo hr rfl (a8 (pv 3) c7 a9)))))))))),?_⟩
 refine⟨z_0,λle hle=>?_⟩
 have e1:=@c6 H le (.lst []);have s1:=c9 hle (.lst []);generalize upd H le _=H1 at e1 s1 ⊢;refine⟨z_0,λll hll=>?_⟩
 have e2:=@c6 H1 ll (.lst []);have s2:=c9 hll (.lst []);have hllH:=s1.free hll;have e1':=s2 _ _ e1;have hne:le≠ll:=λz=>by rw[<- z,e1] at hll;cases hll
 generalize upd H1 ll _=H2 at e2 s2 e1' ⊢;have s12:=s1.trans s2;refine⟨_,rfl,b,rfl,⟨_,s12.seq hB⟩,?_⟩
 refine B0 (xs:=as.map V.ref) (λi σ H'=>i9 H H'/\H' le=some (.lst (((ks.take i).flatMap Call.es).map V.int))/\dn H' ll ((ks.take i).flatMap (E4 h))/\∃v4,σ=[some (.ref a),some (.ref b),some (.ref le),some (.ref ll),v4])
  ⟨s12,e1',⟨[],e2,.nil⟩,none,rfl⟩ (λi σ H' _ gg=>gg.1.seq hB) ?_ ?_
 ·rintro i x σ H' hx ⟨s3,d1,⟨ts,d2,d3⟩,v4,rfl⟩
  rw[List.getElem?_map] at hx;obtain⟨p,hp,rfl⟩:=Option.map_eq_some_iff.mp hx;obtain⟨k,hk,⟨e,ee,ep⟩⟩:=j9 hC i p hp;have hkm:=List.mem_of_getElem? hk
  have hi:i<63:=by
   have:=(List.getElem?_eq_some_iff.mp hk).1
   lia
  have f1:=few i;have f2:=few2 i;have f3:=(hin k hkm).few;have hts:=Paired.length d3;refine⟨_,rfl,.inl ⟨rfl,_,SqL.of d1⟩,_,rfl,p,_,_,_,rfl,rfl,SqT.of (s3 _ _ ep),rfl,le,e,_,_,rfl,rfl,d1,SqT.of (s3 _ _ ee),Nat.le_of_lt (k8 (by rw[length_map,length_map];lia)),?_⟩
  have t1:upd H' le (.lst (((ks.take i).flatMap Call.es).map V.int++k.es.map V.int)) le=some (.lst (((ks.take (i+1)).flatMap Call.es).map V.int)):=by
   rw[c6,take_succ,hk,List.flatMap_append,map_append]
   simp
  have s4:i9 H (upd H' le (.lst (((ks.take i).flatMap Call.es).map V.int++k.es.map V.int))):=i9.put s3 hle;have d2':upd H' le (.lst (((ks.take i).flatMap Call.es).map V.int++k.es.map V.int)) ll=some (.lst (ts.map V.ref)):=by rw[j2 (Ne.symm hne)];exact d2
  have d3':Paired (λa d=>upd H' le (.lst (((ks.take i).flatMap Call.es).map V.int++k.es.map V.int)) a=some (.tup (d.map V.int))) ts ((ks.take i).flatMap (E4 h)):=A4 d3 λa d _ z=>by
   have:a≠le:=λy=>by rw[y,d1] at z;cases z
   rw[j2 this];exact z
  generalize upd H' le _=H4 at t1 s4 d2' d3' ⊢;refine⟨_,rfl,.inl ⟨rfl,_,SqL.of d2'⟩,_,rfl,_,rfl,a,p,h,k,rfl,i9.seqT s4 hH,ok,⟨e,s4 _ _ ee,s4 _ _ ep⟩,hin k hkm,λnl H5 s5 hnl ⟨us,g1,g2⟩=>?_⟩;have hus:=Paired.length g2
  have f4:(E4 h k).length<=13:=by
   have h2:=Y7 h k.es;unfold E4;rw[length_cons,length_map];lia
  refine⟨ll,nl,_,_,rfl,rfl,s5 _ _ d2',g1,Nat.le_of_lt (k8 (by rw[length_map,length_map];lia)),?_⟩
  refine⟨i9.put (s4.trans s5) hllH,by rw[j2 hne];exact s5 _ _ t1,⟨ts++us,by rw[c6,map_append],?_⟩,_,rfl⟩
  rw[take_succ,hk,List.flatMap_append,show(some k).toList.flatMap (E4 h)=E4 h k by simp]
  have up:∀(c:Addr)(d:List Int),H5 c=some (.tup (d.map V.int))->upd H5 ll (.lst (ts.map V.ref++us.map V.ref)) c=some (.tup (d.map V.int)):=λc d z=>by
   have:c≠ll:=λy=>by rw[y,s5 _ _ d2'] at z;cases z
   rw[j2 this];exact z
  exact dG (A4 d3' λc d _ z=>up c d (s5 _ _ z)) (A4 g2 λc d _ z=>up c d z)
 ·rintro σ H' ⟨s3,d1,⟨ts,d2,d3⟩,v4,rfl⟩
  rw[length_map,la,take_length] at d1 d3;have f1:=few ks.length;have f2:=few2 ks.length;rw[take_length] at f1 f2;have hin':∀k∈ks,k.es.Nodup:=λk hk=>A7 (hin k hk).rise
  have nope:¬((ks.map Call.c).Pairwise (· < ·)/\(ks.flatMap Call.es).Nodup/\(ks.flatMap (E4 h)).Nodup)->dB (ks.Pairwise (Fit h))=false:=λz=>ou λy=>z (by
   obtain⟨a1,a2,a3⟩:=(fZ hin').mpr y
   exact⟨a1,a2,a3⟩)
  refine⟨_,rfl,b,rfl,⟨_,s3.seq hB⟩,?_⟩
  refine B9 (xs:=as.map V.ref) (λi acc σ H''=>H''=H'/\acc=(ks.take i).map (λk=>V.int k.c)/\∃v,σ=[v])
   ⟨rfl,rfl,none,rfl⟩ (Nat.le_of_lt (k8 (by rw[length_map];lia))) (λi acc σ H'' g=>?_) (λi acc σ H'' _ g=>by rw[g.1];exact s3.seq hB) ?_ ?_
  ·obtain⟨_,rfl,_⟩:=g
   rw[length_map,length_take];lia
  ·rintro i x acc σ H'' hx ⟨rfl,rfl,v,rfl⟩
   rw[List.getElem?_map] at hx;obtain⟨p,hp,rfl⟩:=Option.map_eq_some_iff.mp hx;obtain⟨k,hk,⟨e,ee,ep⟩⟩:=j9 hC i p hp;refine⟨_,rfl,p,_,_,_,rfl,rfl,SqT.of (s3 _ _ ep),rfl,rfl,?_,_,rfl⟩;rw[take_succ,hk,map_append];rfl
  ·rintro acc σ H'' ⟨rfl,rfl,v,rfl⟩ lc hlc
   rw[length_map,la,take_length];have ec:upd H'' lc (.lst (ks.map λk=>V.int k.c)) lc=some (.lst ((ks.map Call.c).map V.int)):=by rw[c6,List.map_map];rfl
   have s4:=c9 hlc (.lst (ks.map λk=>V.int k.c));generalize upd H'' lc _=H4 at ec s4 ⊢;have s34:=s3.trans s4;refine⟨lc,_,rfl,ec,by rw[length_map];lia,λH5 s5=>⟨_,rfl,?_⟩⟩
   by_cases c1:(ks.map Call.c).Pairwise (· < ·)
   ·refine xq (dZ c1) ?_
    refine⟨_,rfl,le,rfl,.inl ⟨_,SqL.of (s5 _ _ (s4 _ _ d1)),by lia,λH6 s6=>⟨_,rfl,?_⟩⟩⟩
    by_cases c2:(ks.flatMap Call.es).Nodup
    ·refine xq (dZ c2) ?_
     have s46:=(s4.trans s5).trans s6;refine⟨_,rfl,ll,rfl,.inr ⟨ts,_,SqL.of (s46 _ _ d2),A4 d3 λc d _ z=>SqT.of (s46 _ _ z),by lia,λH7 s7=>?_⟩⟩
     have:dB (ks.flatMap (E4 h)).Nodup=dB (ks.Pairwise (Fit h)):=by
      by_cases c3:(ks.flatMap (E4 h)).Nodup
      ·rw[dZ c3,dZ ((fZ hin').mp ⟨c1,c2,c3⟩)]
      ·rw[ou c3,nope λz=>c3 z.2.2]
     rw[this];exact q _ ((s3.trans s46).trans s7)
    ·refine iy (by rw[ou c2];decide) ?_
     have:=q _ ((s34.trans s5).trans s6)
     rw[nope λz=>c2 z.2.1] at this;exact this
   ·refine iy (by rw[ou c1];decide) ?_
    have:=q _ (s34.trans s5)
    rw[nope λz=>c1 z.1] at this;exact this
def sE {h:l9}{k k':Call}(f:Q2 h k k')(c:k.c<k'.c):Fit h k k':=by
 refine⟨c,λe h1 h2=>f (mZ e) (B2.mpr (.inr (.inr (.inr ⟨e,h1,rfl⟩)))) (B2.mpr (.inr (.inr (.inr ⟨e,h2,rfl⟩)))),?_⟩
 rintro⟨e,z|⟨e1,h1,h2⟩⟩
 ·exact f (nIn (k.c/h.c) k.k) (B2.mpr (.inl rfl)) (B2.mpr (.inl (by rw[z,e])))
 ·obtain⟨e2,h3,h4⟩:=mem_map.mp h2
  exact f (R8 (e1/h.e) k.k) (B2.mpr (.inr (.inl ⟨e1,h1,rfl⟩))) (B2.mpr (.inr (.inl ⟨e2,h3,by rw[<- e,h4]⟩)))
structure Mv where
 c:Int
 k:Int
 o:Int
def vY (H:Hp)(p:Addr)(m:Mv):Prop:=H p=some (.tup [.int m.c,.int m.k,.int m.o])
def vh (H:Hp)(as:List Addr)(ms:List Mv):Prop:=Paired (vY H) as ms
def Ok1 (h:l9)(ks:List Call)(pre:List Mv)(m:Mv):Prop:=(∀m'∈pre,m'.c≠m.c)/\(∃k∈ks,k.c=m.c/\k.k=m.k)/\0<=m.o/\m.o<h.m
def nA (h:l9)(ks:List Call)(ms:List Mv):Prop:=∀(i:Nat) m,ms[i]? = some m->Ok1 h ks (ms.take i) m
def M1 (ms:List Mv)(c:Int):Option Int:=(ms.find? λm=>decide (m.c=c)).map Mv.o
def vW (ms:List Mv)(k:Call):Call:=⟨k.c,k.es,(M1 ms k.c).getD k.k⟩
def N9 (ks:List Call)(ms:List Mv):List Call:=ks.map (vW ms)
def qM {pre:List Mv}{m:Mv}(h:∀m'∈pre,m'.c≠m.c)(c:Int):M1 (pre++[m]) c=if c=m.c then some m.o else M1 pre c:=by
 unfold M1;rw[List.find?_append]
 by_cases e:c=m.c
 ·rw[if_pos e,List.find?_eq_none.mpr λm' hm'=>by simp[e,h m' hm']]
  simp[e]
 ·rw[if_neg e]
  cases hf:pre.find? (λm=>decide (m.c=c)) with
  | some x=>rfl
  | none=>simp[Ne.symm e]
def kD {ms:List Mv}{c o:Int}(h:M1 ms c=some o):∃m∈ms,m.c=c/\m.o=o:=by
 unfold M1 at h;obtain⟨m,hm,rfl⟩:=Option.map_eq_some_iff.mp h;exact⟨m,List.mem_of_find?_eq_some hm,by simpa using List.find?_some hm,rfl⟩
theorem vn {h:l9}{ks:List Call}{ms:List Mv}(hin:∀k∈ks,k.In h)(hm:∀m∈ms,0<=m.o/\m.o<h.m):∀k∈N9 ks ms,k.In h:=λk hk=>by
 obtain⟨k0,hk0,rfl⟩:=mem_map.mp hk;have i:=hin k0 hk0;refine⟨i.c,i.rise,i.es,i.some,i.few,?_⟩
 show 0<=(M1 ms k0.c).getD k0.k/\(M1 ms k0.c).getD k0.k<h.m
 cases e:M1 ms k0.c with
 | none=>exact i.k
 | some o =>
  obtain⟨m,h1,_,h2⟩:=kD e;rw[<- h2];exact hm m h1
theorem nA.pre {h:l9}{ks:List Call}{ms:List Mv}(v:nA h ks ms):∀m∈ms,0<=m.o/\m.o<h.m:=λm hm=>by
 obtain⟨i,hi⟩:=List.mem_iff_getElem?.mp hm;exact(v i m hi).2.2
def vK {ks:List Call}(up:ks.Pairwise λk k'=>k.c<k'.c){k k':Call}(hk:k∈ks)(hk':k'∈ks)(e:k.c=k'.c):k=k':=by
 obtain⟨i,hi⟩:=List.mem_iff_getElem?.mp hk;obtain⟨j,hj⟩:=List.mem_iff_getElem?.mp hk';obtain⟨q1,z1⟩:=List.getElem?_eq_some_iff.mp hi;obtain⟨q2,z2⟩:=List.getElem?_eq_some_iff.mp hj
 rcases Nat.lt_trichotomy i j with w|w|w
 ·have:=(List.pairwise_iff_getElem.mp up) i j q1 q2 w
  rw[z1,z2] at this;lia
 ·subst w
  rw[hi] at hj
  injection hj
 ·have:=(List.pairwise_iff_getElem.mp up) j i q2 q1 w
  rw[z1,z2] at this;lia
def rV (h:l9)(ks:List Call)(ms:List Mv)(i:Nat):Prop:=∀(j:Nat) m,j<i->ms[j]? = some m->Ok1 h ks (ms.take j) m
def ph (h:l9)(ks:List Call)(ms:List Mv):rV h ks ms 0:=λ_ _ z=>absurd z (Nat.not_lt_zero _)
def pH {h:l9}{ks:List Call}{ms:List Mv}{i:Nat}{m:Mv}(u:rV h ks ms i)(hm:ms[i]? = some m)(o:Ok1 h ks (ms.take i) m):rV h ks ms (i+1):=λj m' hj hm'=>by
 by_cases e:j=i
 ·subst e
  rw[hm] at hm'
  injection hm' with hm'
  rw[<- hm'];exact o
 ·exact u j m' (by lia) hm'
def tK {h:l9}{ks:List Call}{ms:List Mv}(u:rV h ks ms ms.length):nA h ks ms:=λi m hm=>u i m (List.getElem?_eq_some_iff.mp hm).1 hm
def gK (h:l9)(ks:List Call)(ms:List Mv):Prop:=nA h ks ms/\(N9 ks ms).Pairwise (Fit h)
def kZ (K:Frag):Sp:=λvs H Q _=>∃(a l g p:Addr)(h:l9)(as:List Addr)(ks:List Call)(kvs:List (Key×V))(pre:List Mv)(m:Mv),vs=[.ref a,.ref l,.ref g,.ref p]/\SqT K H a (h.row.map V.int)/\h.Ok/\SqL K H l (as.map V.ref)/\j8 H as ks/\ks.Pairwise (λk k'=>k.c<k'.c)/\H g=some (.dK kvs)/\(∀c,(F5 kvs (.inl c)).isSome=true↔∃m'∈pre,m'.c=c)/\vY H p m /\
 (Ok1 h ks pre m->Q .non H)/\(¬Ok1 h ks pre m->False)
def oQ (K:Frag):Sp:=λvs H Q _=>∃(a l ml:Addr)(h:l9)(as mas:List Addr)(ks:List Call)(ms:List Mv),vs=[.ref a,.ref l,.ref ml]/\SqT K H a (h.row.map V.int)/\h.Ok/\SqL K H l (as.map V.ref)/\j8 H as ks/\(∀k∈ks,k.In h)/\ks.Pairwise (λk k'=>k.c<k'.c)/\ks.length<=63/\SqL K H ml (mas.map V.ref)/\vh H mas ms/\ms.length<=100 /\
 (gK h ks ms->∀(f:Addr)(bs:List Addr)(H':Hp),i9 H H'->H' f=some (.lst (bs.map V.ref))->j8 H' bs (N9 ks ms)->Q (.ref f) H')/\(¬gK h ks ms->∀H':Hp,i9 H H'->False)
def X3:FnScope ["hall","calls","goals","move","call"] ["hall","calls","goals","move"] (i3 (top 47)):=mkF
def pN (T:Txt K mg)(AH:i6 P w K mg base 2 "call_of" p_38 (dw K))(ze:i6 P w K mg base 2 "is_whole" p_18 (Z7 K))(D:Def K mg "refuse_move" (top 47) p_29):i6 P w K mg base 3 "refuse_move" p_29 (kZ K):=by
 refine D.ok X3 (λ_ _ _ _ h=>?_) (λ_ _ _ _ _ H _ Q E hr h=>?_)
 ·obtain⟨a,l,g,p,h,as,ks,kvs,pre,m,rfl,_⟩:=h
  rfl
 obtain⟨a,l,g,p,h,as,ks,kvs,pre,m,rfl,hH,ok,hL,hC,up,eg,hg,ep,yes,no⟩:=h;have o3:=ok.m
 replace ep:H p=some (.tup [.int m.c,.int m.k,.int m.o]):=ep
 have hP:SqT K H p [.int m.c,.int m.k,.int m.o]:=SqT.of ep
 refine⟨_,(d9 (j3 (i:=4) X3.nd rfl (Or.inl rfl) (m6 AH hr rfl (a8 (pv 1) (a8 (j1 (i4 K) (pv 3) c8) c7 m9) a9)))
  (d9 (m8 (k9 X0 (pv 4) w6 (m3 _)) (i0 W4) j7)
  (d9 (m8 (re (tD (jn hr) (j1 (i4 K) (pv 3) c8) (pv 2))) (i0 W4) j7)
  (d9 (m8 (k9 jg (j1 (i4 K) (pv 4) c8) (j1 (i4 K) (pv 3) c8) (m3 _)) (i0 W4) j7)
  (i0 (m8 (F0 (w9 K (m6 ze hr rfl (a8 (j1 (i4 K) (pv 3) c8) (a8 c8 (a8 (i7 bL (j1 (i4 K) (pv 0) c8) c8) c7 O5) l8) m9)) (λ_=>rfl))) (i0 W4) j7)))))),?_⟩
 refine⟨_,rfl,_,rfl,p,_,_,_,rfl,rfl,hP,rfl,l,.int m.c,as,ks,rfl,hL,hC,.int m.c,.inr ⟨m.c,rfl,λv hv=>?_⟩⟩
 rcases hv with⟨rfl,z⟩|⟨j,pa,k,ha,hk,hkc,rfl⟩
 ·exact⟨_,rfl,rfl,_,rfl,M6 (no λ⟨_,⟨k,h1,h2,_⟩,_⟩=>z k h1 h2)⟩
 obtain⟨k',hk',ce,x1,x2⟩:=j9 hC j pa ha;rw[hk] at hk'
 injection hk' with hk'
 subst hk';have hkm:=List.mem_of_getElem? hk;refine⟨_,rfl,rfl,_,rfl,D9 ?_⟩;refine⟨_,rfl,p,_,_,_,rfl,rfl,hP,rfl,_,rfl,g,_,rfl,da.k (k:=.inl m.c) eg,_,rfl,?_⟩;refine B1 (λc1=>?_) (λc1=>?_)
 ·obtain⟨m',h1,h2⟩:=(hg m.c).mp c1
  exact no λo=>o.1 m' h1 h2
 have n1:∀m'∈pre,m'.c≠m.c:=λm' h1 h2=>c1 ((hg m.c).mpr ⟨m',h1,h2⟩);refine⟨_,rfl,pa,_,_,_,rfl,rfl,SqT.of x2,rfl,_,rfl,p,_,_,_,rfl,rfl,hP,rfl,rfl,_,rfl,?_⟩;refine B1 (λc2=>?_) (λc2=>?_)
 ·have c2':¬k.k=m.k:=by simpa using c2
  refine no λ⟨_,⟨k0,h1,h2,h3⟩,_⟩=>c2' ?_;rw[vK up hkm h1 (by rw[hkc,h2])]
  exact h3
 have c2':k.k=m.k:=by simpa using c2
 refine⟨_,rfl,p,_,_,_,rfl,rfl,hP,rfl,_,rfl,a,_,_,_,rfl,rfl,hH,rfl,_,_,rfl,rfl,.int m.o,0,h.m-1,rfl,.int m.o,_,rfl,?_⟩;refine B1 (λc3=>?_) (λc3=>?_)
 ·have c3':¬m4 (.int m.o) 0 (h.m-1)=true:=by simpa using c3
  refine no λ⟨_,_,h1,h2⟩=>c3' ?_
  show(decide (0<=m.o)&&decide (m.o<=h.m-1))=true
  rw[decide_eq_true h1,decide_eq_true (show m.o<=h.m-1 by lia)]
  rfl
 ·have c3':m4 (.int m.o) 0 (h.m-1)=true:=by simpa using c3
  have c4:(decide (0<=m.o)&&decide (m.o<=h.m-1))=true:=c3';rw[Bool.and_eq_true,decide_eq_true_iff,decide_eq_true_iff] at c4;exact yes ⟨n1,⟨k,hkm,hkc,c2'⟩,c4.1,by lia⟩
def be:FnScope ["hall","calls","moves","goals","move","behind"] ["hall","calls","moves"] (i3 (top 48)):=mkF
def sj (T:Txt K mg)(Bw:i6 P w K mg base 3 "refuse_move" p_29 (kZ K))(Dd:i6 P w K mg base 4 "is_right" p_13 (fA K))(D:Def K mg "moved" (top 48) p_36):i6 P w K mg base 5 "moved" p_36 (oQ K):=by
 refine D.ok be (λ_ _ _ _ h=>?_) (λ_ _ _ _ _ H _ Q E hr h=>?_)
 ·obtain⟨a,l,ml,h,as,mas,ks,ms,rfl,_⟩:=h
  rfl
 obtain⟨a,l,ml,h,as,mas,ks,ms,rfl,hH,ok,hL,hC,hin,up,h63,hM,hMs,h100,yes,no⟩:=h;have la:=Paired.length hC;have lm:=Paired.length hMs
 refine⟨_,(d9 (j3 (i:=3) be.nd rfl (Or.inr rfl) qV)
  (d9 (A2 PassesOwn.never rfl (o6 K (pv 2)) (m5 (i:=4) be.nd rfl (Or.inl rfl))
  (d9 (C5 (m6 Bw hr rfl (a8 (pv 0) (a8 (pv 1) (a8 (pv 3) (a8 (pv 4) c7 a9) a9) a9) a9)))
  (i0 (nu (jn hr) (pv 3) (j1 (i4 K) (pv 4) c8) (j1 (i4 K) (pv 4) c8) rfl))))
  (d9 (cJ (i:=5) (own:=["call"]) (fr:=[(3,"goals")]) rfl be.nd rfl rfl (mkC ["hall","calls","moves","goals","move","behind"] (i3 (top 48))) (o6 K (pv 1)) (λcl C s H ex=>⟨(m5 (i:=0) (show(["call","goals"]:List Str).Nodup from by decide +kernel) rfl (Or.inl rfl) (Or.inr rfl)),F4,(C2 (a8 (j1 (i4 K) (pv 0) c8) (a8 (j1 (i4 K) (pv 0) c8) (a8 (rq (jn hr) (pv 1) (j1 (i4 K) (pv 0) c8) (j1 (i4 K) (pv 0) c8) ⟨rfl,rfl,rfl,rfl⟩) c7 o8) m9) m9))⟩) rfl)
  (d9 (m8 (F0 (w9 K (m6 Dd hr rfl (a8 (pv 0) (a8 (pv 5) c7 a9) a9)) (λ_=>rfl))) (i0 W4) j7)
  (i0 (j6 (pv 5))))))),?_⟩
 refine λg hg=>?_;have eg:=@c6 H g (.dK []);have s1:=c9 hg (.dK []);generalize upd H g _=H1 at eg s1 ⊢;refine⟨_,rfl,ml,rfl,⟨_,s1.seq hM⟩,?_⟩
 refine B0 (xs:=mas.map V.ref) (λi σ H'=>i9 H H'/\rV h ks ms i/\(∃kvs,H' g=some (.dK kvs)/\kvs.length<=i/\∀c,F5 kvs (.inl c)=(M1 (ms.take i) c).map V.int)/\∃v4 v5,σ=[some (.ref a),some (.ref l),some (.ref ml),some (.ref g),v4,v5])
  ⟨s1,ph _ _ _,⟨[],eg,Nat.le_refl _,λc=>rfl⟩,_,_,rfl⟩ (λi σ H' _ gg=>gg.1.seq hM) ?_ ?_
 ·rintro i y σ H' hy ⟨s2,u2,⟨kvs,e2,hl,hv⟩,v4,v5,rfl⟩
  rw[List.getElem?_map] at hy;obtain⟨pm,hpm,rfl⟩:=Option.map_eq_some_iff.mp hy;obtain⟨m,hm,em⟩:=j9 hMs i pm hpm
  have hi:i<100:=by
   have:=(List.getElem?_eq_some_iff.mp hm).1
   lia
  have em2:vY H' pm m:=s2 _ _ em;refine⟨_,rfl,_,rfl,_,rfl,_,rfl,a,l,g,pm,h,as,ks,kvs,ms.take i,m,rfl,i9.seqT s2 hH,ok,s2.seq hL,j8.same (λb xs z=>s2 _ _ z) hC,up,e2,λc=>?_,em2,λo1=>?_,λn1=>no (λz=>n1 (z.1 i m hm)) _ s2⟩
  ·rw[hv]
   constructor
   ·intro z
    cases q:M1 (ms.take i) c with
    | none=>rw[q] at z;cases z
    | some o =>
     obtain⟨m',h1,h2,_⟩:=kD q;exact⟨m',h1,h2⟩
   ·rintro⟨m',h1,h2⟩
    cases q:M1 (ms.take i) c with
    | some o=>rfl
    | none =>
     unfold M1 at q
     have:=List.find?_eq_none.mp (Option.map_eq_none_iff.mp q) m' h1
     simp[h2] at this
  ·refine⟨_,rfl,pm,_,_,_,rfl,rfl,SqT.of em2,rfl,_,rfl,_,rfl,pm,_,_,_,rfl,rfl,SqT.of em2,rfl,g,_,rfl,kJ.k (k:=.inl m.c) e2 (Nat.lt_of_le_of_lt hl (k8 (by lia))),?_⟩
   refine⟨i9.put s2 hg,pH u2 hm o1,⟨_,c6,?_,λc=>?_⟩,_,_,rfl⟩
   ·have:=R5 kvs (.inl m.c) (.int m.o)
    lia
   ·rw[jH,take_succ,hm]
    show _=(M1 (ms.take i++[m]) c).map V.int
    rw[qM o1.1]
    by_cases e:c=m.c
    ·rw[if_pos (by rw[e]),if_pos e]
     rfl
    ·rw[if_neg (λz=>e (by injection z)),if_neg e]
     exact hv c
 ·rintro σ H2 ⟨s2,u2,⟨kvs,e2,hl,hv⟩,v4,v5,rfl⟩
  rw[length_map,lm] at u2 hv;rw[take_length] at hv;have vd:=tK u2;have hin':=vn hin vd.pre;have hC2:=j8.same (λb xs z=>s2 _ _ z) hC;refine⟨_,rfl,l,rfl,⟨_,s2.seq hL⟩,?_⟩
  refine B9 (xs:=as.map V.ref) (λj acc σ G=>i9 H2 G/\(∃bs:List Addr,acc=bs.map V.ref/\j8 G bs (N9 (ks.take j) ms))/\∃v,σ=[v,some (.ref g)])
   ⟨i9.refl _,⟨[],rfl,.nil⟩,none,rfl⟩ (Nat.le_of_lt (k8 (by rw[length_map];lia))) (λj acc σ G gg=>?_) (λj acc σ G _ gg=>(s2.trans gg.1).seq hL) ?_ ?_
  ·obtain⟨_,⟨bs,rfl,hb⟩,_⟩:=gg
   have:=Paired.length hb
   rw[length_map,this];unfold N9;rw[length_map,length_take];lia
  ·rintro j y acc σ G hy ⟨g1,⟨bs,rfl,hb⟩,v,rfl⟩
   rw[List.getElem?_map] at hy;obtain⟨pc,hpc,rfl⟩:=Option.map_eq_some_iff.mp hy;obtain⟨k,hk,ce,x1,x2⟩:=j9 hC2 j pc hpc;have x2G:=SqT.of (K:=K) (g1 _ _ x2);have egG:=g1 _ _ e2;refine⟨_,rfl,pc,_,_,_,rfl,rfl,x2G,rfl,_,rfl,pc,_,_,_,rfl,rfl,x2G,rfl,_,rfl,g,rfl,.inl ⟨kvs,.inl egG⟩,_,rfl,pc,_,_,_,rfl,rfl,x2G,rfl,_,rfl,pc,_,_,_,rfl,rfl,x2G,rfl,_,da.k (k:=.inl k.c) egG,?_⟩;rw[hv,show((M1 ms k.c).map V.int).getD (V.int k.k)=V.int ((M1 ms k.c).getD k.k) by cases M1 ms k.c<;>rfl]
   refine⟨z_3,λt ht=>?_⟩
   have g2:=c9 ht (.tup [.int k.c,.ref ce,.int ((M1 ms k.c).getD k.k)]);have et:=@c6 G t (.tup [.int k.c,.ref ce,.int ((M1 ms k.c).getD k.k)]);generalize upd G t _=G2 at g2 et ⊢;refine⟨g1.trans g2,⟨bs++[t],by rw[map_append];rfl,?_⟩,_,rfl⟩
   unfold N9;rw[take_succ,hk,map_append];exact Paired.snoc (j8.same (λb xs z=>g2 _ _ z) hb) ⟨ce,g2 _ _ (g1 _ _ x1),et⟩
  rintro acc σ G ⟨g1,⟨bs,rfl,hb⟩,v,rfl⟩ lb hlb
  rw[length_map,la,take_length] at hb;have g2:=c9 hlb (.lst (bs.map V.ref));have elb:=@c6 G lb (.lst (bs.map V.ref));generalize upd G lb _=G2 at g2 elb ⊢;have sG:=(s2.trans g1).trans g2;have hb2:=j8.same (λb xs z=>g2 _ _ z) hb;refine⟨_,rfl,_,rfl,a,lb,h,bs,N9 ks ms,rfl,i9.seqT sG hH,ok,SqL.of elb,hb2,hin',by unfold N9;rw[length_map];exact h63,λG3 g3=>⟨_,rfl,?_⟩⟩
  refine B1 (λc1=>?_) (λc1=>?_)
  ·refine no (λz=>?_) _ (sG.trans g3)
   rw[dZ z.2] at c1
   cases c1
  ·have gd:gK h ks ms:=⟨vd,gW.mp (by simpa using c1)⟩
   exact⟨_,rfl,yes gd lb bs _ (sG.trans g3) (g3 _ _ elb) (j8.same (λb xs z=>g3 _ _ z) hb2)⟩
def uC {x p q:Nat}(h:x.testBit p=false):(x+2^p).testBit q=if q=p then true else x.testBit q:=by
 by_cases hq:q=p
 ·subst hq
  rw[if_pos rfl,Nat.add_comm,Nat.testBit_two_pow_add_eq,h];rfl
 ·rw[if_neg hq]
  rcases Nat.lt_or_gt_of_ne hq with hlt|hgt
  ·rw[Nat.add_comm,Nat.testBit_two_pow_add_gt hlt]
  ·have e:(x+2^p)/2^(p+1)=x/2^(p+1):=by
    rw[Nat.pow_succ,<- Nat.div_div_eq_div_mul,<- Nat.div_div_eq_div_mul,Nat.add_div_right x (Nat.two_pow_pos p)];rw[Nat.testBit_eq_decide_div_mod_eq] at h;have h':¬x/2^p%2=1:=of_decide_eq_false h;lia
   have hk:q=(p+1)+(q-(p+1)):=by lia
   rw[Nat.testBit_eq_decide_div_mod_eq,Nat.testBit_eq_decide_div_mod_eq,hk,Nat.pow_add,<- Nat.div_div_eq_div_mul,<- Nat.div_div_eq_div_mul,e]
def ax (ps:List Nat):Nat:=(ps.map λp=>2^p).sum
def tf:ax []=0:=rfl
def qc (ps:List Nat)(p:Nat):ax (ps++[p])=ax ps+2^p:=by
 unfold ax;rw[map_append,List.sum_append]
 simp
def oX (ps:List Nat)(p:Nat):ax (p::ps)=2^p+ax ps:=by
 unfold ax;rw[map_cons,List.sum_cons]
theorem jI:∀(ps:List Nat),ps.Nodup->∀q,(ax ps).testBit q=decide (q∈ps)
 | [],_,q=>by rw[tf,Nat.zero_testBit];simp
 | p::ps,h,q=>by
  have hn:=List.nodup_cons.mp h;have ih:=jI ps hn.2;rw[oX,Nat.add_comm,uC (by rw[ih p];exact decide_eq_false hn.1),ih q]
  by_cases e:q=p
  ·subst e;simp
  ·simp[e]
def wI {b p:Nat}(h:b.testBit p=false):Builtin.bitOr (b:Int) (1*2^((p:Int)).toNat)=((b+2^p:Nat):Int):=by
 have e1:(1*2^((p:Int)).toNat:Int)=((2^p:Nat):Int):=by
  rw[Int.one_mul,Int.toNat_natCast];exact(Int.natCast_pow 2 p).symm
 have e2:b &&& 2^p=0:=by
  refine Nat.eq_of_testBit_eq λi=>?_;rw[Nat.testBit_and,Nat.testBit_two_pow,Nat.zero_testBit]
  by_cases hi:p=i
  ·subst hi;rw[h];rfl
  ·simp[hi]
 rw[e1,bitOr_and,bitAnd_pp (Int.natCast_nonneg _) (Int.natCast_nonneg _),Int.toNat_natCast,Int.toNat_natCast,e2]
 simp
def iL (p:Call->Nat->Bool)(ks:List Call)(r:Nat):List Nat:=(ks.filter λk=>p k r).map λk=>k.k.toNat
def pIn (h:l9)(k:Call)(r:Nat):Bool:=decide (k.c/h.c=(r:Int))
def bt (h:l9)(k:Call)(r:Nat):Bool:=decide ((r:Int)∈l7 h k.es)
def Z4 (p:Call->Nat->Bool)(ks:List Call)(k:Call)(r:Nat):iL p (ks++[k]) r=iL p ks r++(if p k r=true then [k.k.toNat] else []):=by
 unfold iL;rw[filter_append,map_append]
 by_cases c:p k r=true
 ·rw[if_pos c]
  simp[c]
 ·rw[if_neg c]
  simp[c]
def qU (p:Call->Nat->Bool)(k k':Call):Prop:=∀r,p k r=true->p k' r=true->k.k≠k'.k
def cT {p:Call->Nat->Bool}{h:l9}(r:Nat):∀{ks:List Call},ks.Pairwise (qU p)->(∀k∈ks,k.In h)->(iL p ks r).Nodup:=λ{ks} hp hi=>by
 unfold iL List.Nodup;rw[pairwise_map,List.pairwise_filter];refine List.Pairwise.imp_of_mem ?_ hp
 intro a b ha hb hab pa pb e
 have h1:=(hi a ha).k;have h2:=(hi b hb).k;exact hab r pa pb (by lia)
def rE {h:l9}{k k':Call}(f:Q2 h k k'):qU (pIn h) k k':=λr h1 h2 e=>by
 have h1':k.c/h.c=(r:Int):=of_decide_eq_true h1;have h2':k'.c/h.c=(r:Int):=of_decide_eq_true h2;exact f (nIn (k.c/h.c) k.k) (B2.mpr (.inl rfl)) (B2.mpr (.inl (by rw[h1',h2',e])))
def qd {h:l9}{k k':Call}(f:Q2 h k k'):qU (bt h) k k':=λr h1 h2 e=>by
 obtain⟨x,hx,q1⟩:=F1.mp (of_decide_eq_true h1);obtain⟨y,hy,q2⟩:=F1.mp (of_decide_eq_true h2);exact f (R8 (x/h.e) k.k) (B2.mpr (.inr (.inl ⟨x,hx,rfl⟩))) (B2.mpr (.inr (.inl ⟨y,hy,by rw[q1,q2,e]⟩)))
def nO {row:List Nat}{k:Int}(h:(row++[k.toNat]).Nodup)(hk:0<=k):Builtin.bitOr ((ax row:Nat):Int) (1*2^k.toNat)=((ax (row++[k.toNat]):Nat):Int):=by
 have nd:=nodup_append.mp h
 have b:(ax row).testBit k.toNat=false:=by
  rw[jI row nd.1];exact decide_eq_false λz=>nd.2.2 _ z _ (mem_singleton.mpr rfl) rfl
 have:=wI b
 rw[Int.toNat_natCast] at this;rw[this,qc]
def gq {α:Type}{n j:Nat}{v:α}{f:Nat->α}:((List.range n).map f).set j v=(List.range n).map λr=>if r=j then v else f r:=by
 apply ext_getElem?
 intro i
 rw[List.getElem?_set,List.getElem?_map,List.getElem?_map]
 by_cases hi:i<n
 ·rw[List.getElem?_range hi]
  by_cases c:j=i
  ·subst c
   simp[hi]
  ·rw[if_neg c]
   simp[show ¬i=j from λz=>c z.symm]
 ·rw[List.getElem?_eq_none (by simpa using hi)]
  by_cases c:j=i
  ·subst c
   simp[hi]
  ·rw[if_neg c]
   rfl
def K3 (p:Call->Nat->Bool)(ks:List Call)(n:Nat):List V:=(List.range n).map λr=>V.int ((ax (iL p ks r):Nat):Int)
def fq {p:Call->Nat->Bool}{ks:List Call}{n r:Nat}(h:r<n):(K3 p ks n)[r]? = some (V.int ((ax (iL p ks r):Nat):Int)):=by
 unfold K3;rw[List.getElem?_map,List.getElem?_range h];rfl
def lw {p:Call->Nat->Bool}{ks:List Call}{n:Nat}:(K3 p ks n).length=n:=by simp[K3]
def rQ {n:Nat}{i:Int}(h0:0<=i)(h1:i<n):ixN n i=some i.toNat:=by
 unfold ixN;rw[if_pos h0,if_pos h1]
def iD (K:Frag)(p:l9->Call->Nat->Bool)(n:l9->Int):Sp:=λvs H Q _=>∃(a b:Addr)(h:l9)(as:List Addr)(ks:List Call),vs=[.ref a,.ref b]/\SqT K H a (h.row.map V.int)/\h.Ok/\SqL K H b (as.map V.ref)/\j8 H as ks/\(∀k∈ks,k.In h)/\ks.Pairwise (Q2 h)/\ks.length<=63 /\
 ∀(l:Addr)(H':Hp),i9 H H'->H l=none->H' l=some (.lst (K3 (p h) ks (n h).toNat))->Q (.ref l) H'
def au:FnScope ["hall","calls","found","call"] ["hall","calls"] (i3 (top 20)):=mkF
def ng (T:Txt K mg)(yU:i6 P w K mg base 1 "place_in" p_24 (R6 K l9.c))(D:Def K mg "in_bits" (top 20) p_13):i6 P w K mg base 2 "in_bits" p_13 (iD K pIn l9.i):=by
 refine D.ok au (λ_ _ _ _ h=>?_) (λ_ _ _ _ _ H _ Q E hr h=>?_)
 ·obtain⟨a,b,h,as,ks,rfl,_⟩:=h
  rfl
 obtain⟨a,b,h,as,ks,rfl,hH,ok,hB,hC,hin,hfr,h63,q⟩:=h;have o1:=ok.i;have o2:=ok.c;have o3:=ok.m
 refine⟨_,(d9 (j3 (i:=2) au.nd rfl (Or.inl rfl) (i7 tL (n6 (a8 c8 c7 l8)) (j1 (i4 K) (pv 0) c8)))
  (d9 (A2 PassesOwn.never rfl (o6 K (pv 1)) (m5 (i:=3) au.nd rfl (Or.inl rfl))
  (i0 (oF (pv 2) (j1 (i4 K) (m6 yU hr rfl (a8 (pv 0) (a8 (j1 (i4 K) (pv 3) c8) c7 m9) a9)) c8) (fV K) (i7 cQ c8 (j1 (i4 K) (pv 3) c8)) rm kR)))
  (i0 (j6 (pv 2))))),?_⟩
 refine⟨z_1,λl0 hl0=>?_⟩
 have s0:=c9 hl0 (.lst [.int 0]);have e0:=@c6 H l0 (.lst [.int 0]);generalize upd H l0 _=H0 at s0 e0 ⊢;refine⟨_,rfl,a,_,_,_,rfl,rfl,i9.seqT s0 hH,rfl,l0,h.i,_,rfl,rfl,e0,by lia,by lia,Nat.le_of_lt (k8 (by show 1*h.i.toNat<=1000;lia)),λl hl=>?_⟩
 have start:(List.replicate h.i.toNat [V.int 0]).flatten=K3 (pIn h) (ks.take 0) h.i.toNat:=by
  rw[take_zero];unfold K3;generalize h.i.toNat=n
  induction n with
  | zero=>rfl
  | succ n ih =>
   rw[range_succ,map_append,List.replicate_succ',List.flatten_append,ih];rfl
 rw[start];have hlH:H l=none:=s0.free hl;refine⟨_,rfl,b,rfl,⟨_,(s0.trans (c9 hl _)).seq hB⟩,?_⟩;refine B0 (xs:=as.map V.ref) (λi σ H'=>i9 H H'/\H' l=some (.lst (K3 (pIn h) (ks.take i) h.i.toNat))/\∃v3,σ=[some (.ref a),some (.ref b),some (.ref l),v3]) ⟨s0.trans (c9 hl _),c6,none,rfl⟩ (λi σ H' _ g=>g.1.seq hB) ?_ ?_
 ·rintro i x σ H' hx ⟨s1,e1,v3,rfl⟩
  rw[List.getElem?_map] at hx;obtain⟨p,hp,rfl⟩:=Option.map_eq_some_iff.mp hx;obtain⟨k,hk,e,ee,ep⟩:=j9 hC i p hp;have hkI:=hin k (List.mem_of_getElem? hk);have ep1:=s1 _ _ ep;have k1:=hkI.c;have k2:=hkI.k;have r0:0<=k.c/h.c:=Int.ediv_nonneg k1.1 (by lia)
  have r1:k.c/h.c<h.i:=Int.ediv_lt_of_lt_mul (by lia) k1.2
  refine⟨_,rfl,_,rfl,_,rfl,p,_,_,_,rfl,rfl,SqT.of ep1,rfl,a,h,k.c,rfl,i9.seqT s1 hH,ok,λg hg=>?_⟩;have eg:=@c6 H' g (.tup [.int (k.c/h.c),.int (k.c%h.c)]);have s2:=c9 hg (.tup [.int (k.c/h.c),.int (k.c%h.c)]);generalize upd H' g _=H2 at eg s2 ⊢;have e2:=s2 _ _ e1;refine⟨g,_,_,_,rfl,rfl,SqT.of eg,rfl,l,_,k.c/h.c,_,rfl,rfl,SqL.of e2,r0,fq (by lia),?_⟩
  refine⟨_,rfl,p,_,_,_,rfl,rfl,SqT.of (s2 _ _ ep1),rfl,_,_,rfl,rfl,⟨by lia,by lia,by decide⟩,_,_,rfl,rfl,l,_,k.c/h.c,_,rfl,rfl,e2,rQ r0 (by rw[lw];lia),?_⟩
  refine⟨i9.put (s1.trans s2) hlH,?_,_,rfl⟩;rw[c6]
  congr 2
  have tk:ks.take (i+1)=ks.take i++[k]:=by rw[take_succ,hk];rfl
  have nd:=cT (p:=pIn h) (h:=h) (k.c/h.c).toNat (ks:=ks.take (i+1)) ((hfr.imp λq=>rE q).sublist (take_sublist _ _)) λk' hk'=>hin k' (List.mem_of_mem_take hk');rw[tk,Z4,if_pos (show pIn h k (k.c/h.c).toNat=true from decide_eq_true (by lia))] at nd
  dsimp only
  rw[nO nd k2.1];unfold K3;rw[gq];refine map_congr_left λr hr=>?_;rw[tk,Z4]
  by_cases c:r=(k.c/h.c).toNat
  ·subst c
   rw[if_pos rfl,if_pos (show pIn h k (k.c/h.c).toNat=true from decide_eq_true (by lia))]
  ·rw[if_neg c,if_neg (show ¬pIn h k r=true from λz=>c (by have:k.c/h.c=(r:Int):=of_decide_eq_true z;lia)),append_nil]
 ·rintro σ H' ⟨s1,e1,v3,rfl⟩
  have hl2:ks.take (as.map V.ref).length=ks:=by rw[length_map,Paired.length hC,take_length]
  rw[hl2] at e1;exact⟨_,rfl,q l H' s1 hlH e1⟩
def bX (h:l9)(ks:List Call)(k:Call)(rs:List Int)(n:Nat):List V:=(List.range n).map λr=>V.int ((ax (iL (bt h) ks r++(if (r:Int)∈rs then [k.k.toNat] else [])):Nat):Int)
def Q9:FnScope ["hall","calls","found","call","rack"] ["hall","calls"] (i3 (top 21)):=mkF
def jJ (T:Txt K mg)(yV:i6 P w K mg base 2 "racks_of" p_22 (ac K))(D:Def K mg "out_bits" (top 21) p_13):i6 P w K mg base 3 "out_bits" p_13 (iD K bt l9.o):=by
 refine D.ok Q9 (λ_ _ _ _ h=>?_) (λ_ _ _ _ _ H _ Q E hr h=>?_)
 ·obtain⟨a,b,h,as,ks,rfl,_⟩:=h
  rfl
 obtain⟨a,b,h,as,ks,rfl,hH,ok,hB,hC,hin,hfr,h63,q⟩:=h;have o1:=ok.o;have o2:=ok.e;have o3:=ok.m
 refine⟨_,(d9 (j3 (i:=2) Q9.nd rfl (Or.inl rfl) (i7 tL (n6 (a8 c8 c7 l8)) (j1 (i4 K) (pv 0) c8)))
  (d9 (A2 PassesOwn.never rfl (o6 K (pv 1)) (m5 (i:=3) Q9.nd rfl (Or.inl rfl))
  (i0 (A2 PassesOwn.never rfl (o6 K (m6 yV hr rfl (a8 (pv 0) (a8 (j1 (i4 K) (pv 3) c8) c7 m9) a9))) (m5 (i:=4) Q9.nd rfl (Or.inl rfl))
  (i0 (oF (pv 2) (pv 4) (fV K) (i7 cQ c8 (j1 (i4 K) (pv 3) c8)) rm kR)))))
  (i0 (j6 (pv 2))))),?_⟩
 refine⟨z_1,λl0 hl0=>?_⟩
 have s0:=c9 hl0 (.lst [.int 0]);have e0:=@c6 H l0 (.lst [.int 0]);generalize upd H l0 _=H0 at s0 e0 ⊢;refine⟨_,rfl,a,_,_,_,rfl,rfl,i9.seqT s0 hH,rfl,l0,h.o,_,rfl,rfl,e0,by lia,by lia,Nat.le_of_lt (k8 (by show 1*h.o.toNat<=1000;lia)),λl hl=>?_⟩
 have start:(List.replicate h.o.toNat [V.int 0]).flatten=K3 (bt h) (ks.take 0) h.o.toNat:=by
  rw[take_zero];unfold K3;generalize h.o.toNat=n
  induction n with
  | zero=>rfl
  | succ n ih =>
   rw[range_succ,map_append,List.replicate_succ',List.flatten_append,ih];rfl
 rw[start];have hlH:H l=none:=s0.free hl;refine⟨_,rfl,b,rfl,⟨_,(s0.trans (c9 hl _)).seq hB⟩,?_⟩;refine B0 (xs:=as.map V.ref) (λi σ H'=>i9 H H'/\H' l=some (.lst (K3 (bt h) (ks.take i) h.o.toNat))/\∃v3 v4,σ=[some (.ref a),some (.ref b),some (.ref l),v3,v4]) ⟨s0.trans (c9 hl _),c6,none,none,rfl⟩ (λi σ H' _ g=>g.1.seq hB) ?_ ?_
 ·rintro i x σ H' hx ⟨s1,e1,v3,v4,rfl⟩
  rw[List.getElem?_map] at hx;obtain⟨p,hp,rfl⟩:=Option.map_eq_some_iff.mp hx;obtain⟨k,hk,e,ee,ep⟩:=j9 hC i p hp;have hkI:=hin k (List.mem_of_getElem? hk);have k2:=hkI.k;have few:=hkI.few;have tk:ks.take (i+1)=ks.take i++[k]:=by rw[take_succ,hk];rfl
  refine⟨_,rfl,_,rfl,p,_,_,_,rfl,rfl,SqT.of (s1 _ _ ep),rfl,a,e,h,k.es,rfl,i9.seqT s1 hH,ok,.inl (SqT.of (s1 _ _ ee)),by lia,λrl H2 s2 hrl er=>?_⟩
  refine⟨rl,rfl,⟨_,SqL.of er⟩,?_⟩;have hne:rl≠l:=λz=>by rw[z,e1] at hrl;cases hrl
  have mid0:K3 (bt h) (ks.take i) h.o.toNat=bX h (ks.take i) k ((l7 h k.es).take 0) h.o.toNat:=by
   unfold K3 bX;refine map_congr_left λr hr=>?_;rw[take_zero,if_neg (by simp),append_nil]
  have e2:=s2 _ _ e1;rw[mid0] at e2;refine B0 (xs:=(l7 h k.es).map V.int) (λj σ H''=>i9 H H''/\H'' rl=some (.lst ((l7 h k.es).map V.int))/\H'' l=some (.lst (bX h (ks.take i) k ((l7 h k.es).take j) h.o.toNat))/\∃v4,σ=[some (.ref a),some (.ref b),some (.ref l),some (.ref p),v4]) ⟨s1.trans s2,er,e2,_,rfl⟩ (λj σ H'' _ g=>SqL.of g.2.1) ?_ ?_
  ·rintro j x σ H'' hx ⟨s3,er3,e3,v4,rfl⟩
   rw[List.getElem?_map] at hx;obtain⟨r,hr2,rfl⟩:=Option.map_eq_some_iff.mp hx;have hrm:r∈l7 h k.es:=List.mem_of_getElem? hr2;obtain⟨y,hy,hyr⟩:=F1.mp hrm;have hye:=hkI.es y hy;have r0:0<=r:=by rw[<- hyr];exact Int.ediv_nonneg hye.1 (by lia)
   have r1:r<h.o:=by rw[<- hyr];exact Int.ediv_lt_of_lt_mul (by lia) hye.2
   have hrt:((r.toNat:Nat):Int)=r:=by lia
   have hnot:¬r∈(l7 h k.es).take j:=λz=>by
    have nd:=A7 (D8 (k.es.map λe=>e/h.e));have e4:(l7 h k.es).take (j+1)=(l7 h k.es).take j++[r]:=by rw[take_succ,hr2];rfl
    have nd2:((l7 h k.es).take (j+1)).Nodup:=nd.sublist (take_sublist _ _);rw[e4] at nd2;exact(nodup_append.mp nd2).2.2 r z r (mem_singleton.mpr rfl) rfl
   have at1:(bX h (ks.take i) k ((l7 h k.es).take j) h.o.toNat)[r.toNat]? = some (V.int ((ax (iL (bt h) (ks.take i) r.toNat):Nat):Int)):=by
    unfold bX;rw[List.getElem?_map,List.getElem?_range (by lia),Option.map_some,hrt,if_neg hnot,append_nil]
   refine⟨_,rfl,_,rfl,l,_,r,_,rfl,rfl,SqL.of e3,r0,at1,?_⟩;refine⟨_,rfl,p,_,_,_,rfl,rfl,SqT.of (s3 _ _ ep),rfl,_,_,rfl,rfl,⟨by lia,by lia,by decide⟩,_,_,rfl,rfl,l,_,r,_,rfl,rfl,e3,rQ r0 (by unfold bX;rw[length_map,length_range];lia),?_⟩
   refine⟨i9.put s3 hlH,by rw[j2 hne];exact er3,?_,_,rfl⟩
   rw[c6]
   congr 2
   have pk:bt h k r.toNat=true:=decide_eq_true (by rw[hrt];exact hrm)
   have nd:=cT (p:=bt h) (h:=h) r.toNat (ks:=ks.take (i+1)) ((hfr.imp λq=>qd q).sublist (take_sublist _ _)) λk' hk'=>hin k' (List.mem_of_mem_take hk');rw[tk,Z4,if_pos pk] at nd
   dsimp only
   rw[nO nd k2.1];unfold bX;rw[gq];refine map_congr_left λm hm=>?_;have e4:(l7 h k.es).take (j+1)=(l7 h k.es).take j++[r]:=by rw[take_succ,hr2];rfl
   rw[e4]
   by_cases c:m=r.toNat
   ·subst c
    rw[if_pos rfl,hrt,if_pos (mem_append_right _ (mem_singleton.mpr rfl))]
   ·rw[if_neg c]
    have:((m:Int)∈(l7 h k.es).take j++[r])↔(m:Int)∈(l7 h k.es).take j:=by
     rw[mem_append,mem_singleton]
     constructor
     ·rintro(z|z)
      ·exact z
      ·exact absurd (show m=r.toNat by lia) c
     ·exact .inl
    by_cases d:(m:Int)∈(l7 h k.es).take j
    ·rw[if_pos d,if_pos (this.mpr d)]
    ·rw[if_neg d,if_neg (λz=>d (this.mp z))]
  ·rintro σ H'' ⟨s3,er3,e3,v4,rfl⟩
   refine⟨s3,?_,_,_,rfl⟩;rw[e3,length_map,take_length,tk]
   congr 2
   unfold bX K3;refine map_congr_left λm hm=>?_;rw[Z4]
   by_cases d:(m:Int)∈l7 h k.es
   ·rw[if_pos d,if_pos (show bt h k m=true from decide_eq_true d)]
   ·rw[if_neg d,if_neg (show ¬bt h k m=true from λz=>d (of_decide_eq_true z))]
 ·rintro σ H' ⟨s1,e1,v3,v4,rfl⟩
  have hl2:ks.take (as.map V.ref).length=ks:=by rw[length_map,Paired.length hC,take_length]
  rw[hl2] at e1;exact⟨_,rfl,q l H' s1 hlH e1⟩
def oy (K:Frag):Sp:=λvs H Q _=>∃(rl:Addr)(rs:List Nat)(b:Int),vs=[.ref rl,.int b]/\SqL K H rl (A9 rs)/\rs.length<=64/\∀l,H l=none->Q (.ref l) (upd H l (.lst (A9 (rs.filter (A1 b)))))
def dL (K:Frag):Sp:=λvs H Q _=>∃(a l:Addr)(h:l9)(as:List Addr)(ks:List Call)(st g sh:Int),vs=[.ref a,.ref l,.int st,.int g,.int sh]/\SqT K H a (h.row.map V.int)/\h.Ok/\SqL K H l (as.map V.ref)/\j8 H as ks/\(∀k∈ks,k.In h)/\ks.Pairwise (Q2 h)/\ks.length<=63/\(0<=st/\st<h.i)/\(0<=g/\g<h.o)/\x9 h sh=[]/\∀H',i9 H H'->Q .non H'
def dW {p:Call->Nat->Bool}{ks:List Call}{n:Nat}{r:Int}(h0:0<=r)(h:r<n):∃b:Nat,atI (K3 p ks n) r=some (.int (b:Int)):=by
 obtain⟨j,rfl⟩:=Int.eq_ofNat_of_zero_le h0;exact⟨_,B3 (fq (by lia))⟩
def eW:FnScope ["racks","bits"] ["racks","bits"] (i3 (top 50)):=mkF
def vf (T:Txt K mg)(D:Def K mg "idle_racks" (top 50) p_37):i6 P w K mg base 1 "idle_racks" p_37 (oy K):=by
 refine D.ok eW (λ_ _ _ _ h=>?_) (λ_ _ _ _ _ H _ Q E hr h=>?_)
 ·obtain⟨rl,rs,b,rfl,_⟩:=h
  rfl
 obtain⟨rl,rs,b,rfl,hR,few,q⟩:=h;have ln:(A9 rs).length=rs.length:=length_map _;refine⟨_,(i0 (j6 (E9 (own:=["k"]) (fr:=[(1,"bits")]) rfl (mkC ["racks","bits"] (i3 (top 50))) (o6 K (pv 0)) (λcl C s H ex=>⟨(m5 (i:=0) (show(["k","bits"]:List Str).Nodup from by decide +kernel) rfl (Or.inl rfl) (Or.inr rfl)),(aM (k9 C7 (i7 iK (i7 iw (pv 1) (pv 0)) c8) c8 (m3 _))),(pv 0)⟩)))),?_⟩
 refine⟨_,rfl,rl,rfl,⟨_,hR⟩,?_⟩
 refine B9 (xs:=A9 rs) (λi acc σ H'=>H'=H/\acc=A9 ((rs.take i).filter (A1 b))/\∃v,σ=[v,some (.int b)])
  ⟨rfl,rfl,none,rfl⟩ (Nat.le_of_lt (k8 (by rw[ln];lia))) (λi acc σ H' g=>?_) (λi acc σ H' _ g=>by rw[g.1];exact hR) ?_ ?_
 ·obtain⟨_,rfl,_⟩:=g
  unfold A9;rw[length_map];exact Nat.le_trans (length_filter_le _ _) (by rw[length_take];lia)
 ·rintro i y acc σ H' hy ⟨rfl,rfl,v,rfl⟩
  unfold A9 at hy;rw[List.getElem?_map] at hy;obtain⟨k,hk,rfl⟩:=Option.map_eq_some_iff.mp hy
  have step:A9 ((rs.take (i+1)).filter (A1 b))=A9 ((rs.take i).filter (A1 b))++(if A1 b k=true then [V.int (k:Int)] else []):=by
   unfold A9;rw[take_succ,hk,filter_append,map_append]
   by_cases c:A1 b k=true
   ·rw[if_pos c]
    simp[c]
   ·rw[if_neg c]
    simp[c]
  refine⟨_,rfl,_,rfl,_,_,rfl,rfl,by lia,_,_,rfl,rfl,rfl,_,rfl,?_⟩
  refine B1 (λc=>?_) (λc=>?_)
  ·have c':A1 b k=true:=by
    unfold A1
    simpa using c
   refine⟨_,rfl,rfl,?_,_,rfl⟩;rw[step,if_pos c']
  ·have c':¬A1 b k=true:=by
    unfold A1
    simpa using c
   refine⟨rfl,?_,_,rfl⟩;rw[step,if_neg c',append_nil]
 ·rintro acc σ H' ⟨rfl,rfl,v,rfl⟩ l hl
  rw[ln,take_length];exact q l hl
def B8:FnScope ["hall","calls","start","goal","shut","ready","goal_idle","a","b","chosen"] ["hall","calls","start","goal","shut"] (i3 (top 52)):=mkF
def kL (T:Txt K mg)(zi:i6 P w K mg base 1 "left_open" p_33 (gU K))(DB:i6 P w K mg base 2 "in_bits" p_13 (iD K pIn l9.i))(De:i6 P w K mg base 3 "out_bits" p_13 (iD K bt l9.o))(An:i6 P w K mg base 1 "idle_racks" p_37 (oy K))(D:Def K mg "room_by_chain" (top 52) p_20):i6 P w K mg base 4 "room_by_chain" p_20 (dL K):=by
 refine D.ok B8 (λ_ _ _ _ h=>?_) (λ_ _ _ _ _ H _ Q E hr h=>?_)
 ·obtain⟨a,l,h,as,ks,st,g,sh,rfl,_⟩:=h
  rfl
 obtain⟨a,l,h,as,ks,st,g,sh,rfl,hH,ok,hL,hC,hin,fr,h63,hst,hg,bN,q⟩:=h;have hC':∀{G:Hp},i9 H G->j8 G as ks:=λs=>j8.same (λb xs z=>s _ _ z) hC
 refine⟨_,(d9 (j3 (i:=5) B8.nd rfl (Or.inl rfl) (m6 zi hr rfl (a8 (pv 0) (a8 (pv 4) c7 a9) a9)))
  (d9 (j3 (i:=6) B8.nd rfl (Or.inl rfl) (m6 An hr rfl (a8 (pv 5) (a8 (j1 (q9 K) (m6 De hr rfl (a8 (pv 0) (a8 (pv 1) c7 a9) a9)) (pv 3)) c7 m9) a9)))
  (d9 (A2 PassesOwn.never rfl (o6 K (m6 An hr rfl (a8 (pv 5) (a8 (j1 (q9 K) (m6 DB hr rfl (a8 (pv 0) (a8 (pv 1) c7 a9) a9)) (pv 2)) c7 m9) a9))) (m5 (i:=7) B8.nd rfl (Or.inl rfl))
  (i0 (A2 PassesOwn.never rfl (o6 K (pv 6)) (m5 (i:=8) B8.nd rfl (Or.inl rfl))
  (d9 (j3 (i:=9) B8.nd rfl (Or.inl rfl) ju)
  (i0 (m8 (k9 T9 (pv 9) w6 (m3 _)) (i0 (j6 (C2 (a8 ju (a8 (j1 (i4 K) (pv 9) c8) c7 m9) o8)))) j7))))))
  (i0 (j6 w6))))),?_⟩
 refine⟨_,rfl,_,rfl,a,h,sh,rfl,hH,ok,λrl hrl=>?_⟩;rw[bN];have s1:=c9 hrl (.lst (A9 []));have e1:=@c6 H rl (.lst (A9 []));generalize upd H rl _=H1 at s1 e1 ⊢;refine⟨_,rfl,_,rfl,_,rfl,a,l,h,as,ks,rfl,i9.seqT s1 hH,ok,s1.seq hL,hC' s1,hin,fr,h63,λol H2 s2' hol eol=>?_⟩;have s2:=s1.trans s2';obtain⟨ob,hob⟩:=dW (p:=bt h) (ks:=ks) (n:=h.o.toNat) hg.1 (by lia)
 refine⟨_,rfl,ol,_,_,_,rfl,rfl,SqL.of eol,hob,rl,[],ob,rfl,SqL.of (s2' _ _ e1),by decide,λgl hgl=>?_⟩
 have s3':=c9 hgl (.lst (A9 (([]:List Nat).filter (A1 ob))));have s3:=s2.trans s3';have e3:=s3' _ _ (s2' _ _ e1);generalize upd H2 gl _=H3 at s3 e3 ⊢;refine⟨_,rfl,_,rfl,_,rfl,a,l,h,as,ks,rfl,i9.seqT s3 hH,ok,s3.seq hL,hC' s3,hin,fr,h63,λil H4 s4' hil eil=>?_⟩;have s4:=s3.trans s4';obtain⟨ib,hib⟩:=dW (p:=pIn h) (ks:=ks) (n:=h.i.toNat) hst.1 (by lia)
 refine⟨_,rfl,il,_,_,_,rfl,rfl,SqL.of eil,hib,rl,[],ib,rfl,SqL.of (s4' _ _ e3),by decide,λal hal=>?_⟩
 have s5:=s4.trans (c9 hal (.lst (A9 (([]:List Nat).filter (A1 ib)))));have e5:=@c6 H4 al (.lst (A9 (([]:List Nat).filter (A1 ib))));generalize upd H4 al _=H5 at s5 e5 ⊢;refine⟨al,rfl,⟨_,SqL.of e5⟩,?_⟩;refine B0 (xs:=[]) (λi σ H'=>H'=H5) rfl (λi σ H' _ g=>by rw[g];exact SqL.of e5) ?_ ?_
 ·rintro i x σ H' hx
  rw[List.getElem?_nil] at hx
  cases hx
 ·rintro σ H' rfl
  exact q _ s5
def jA (K:Frag)(CE:Addr):Sp:=λvs H Q E=>∃(a l e:Addr)(h:l9)(as:List Addr)(ks:List Call)(c:Int)(es:List Int)(sh:Int),vs=[.ref a,.ref l,.int c,.ref e,.int sh]/\bp K H a l e h as ks es/\ks.Pairwise (Q2 h)/\(0<=c/\c<h.i*h.c)/\(∀x∈es,0<=x/\x<h.o*h.e)/\(N4 h ks c es sh=[]->(l7 h es).length≠1\/x9 h sh=[]) /\
 (∀(k:Nat)(ws:List Nat)(t ml:Addr)(H':Hp),N4 h ks c es sh=k::ws->i9 H H'->H' t=some (.tup [.ref ml,.int k])->H' ml=some (.lst [])->Q (.ref t) H') /\
 (N4 h ks c es sh=[]->∀(dx nh:Addr)(nas:List Addr)(nlv:V)(o:Option (List Int))(H':Hp),i9 H H'->T8 h ks c es sh o->fP H' dx (E7 h ks c es) o nh nas nlv->X1 H nas nlv->E (.ref CE) (some dx) H')
def bh:FnScope ["hall","calls","caller","ends","shut","free","goals","found"] ["hall","calls","caller","ends","shut"] (i3 (top 53)):=mkF
theorem qo (T:Txt K mg)(Z:bo K mg yD yG yF yC yH yK yE my yI)(Ei:U8 P w K mg base 5 "ways" p_1 [.int 0] (rN K))(yV:i6 P w K mg base 2 "racks_of" p_22 (ac K))(yU:i6 P w K mg base 1 "place_in" p_24 (R6 K l9.c))(AZ:i6 P w K mg base 4 "room_by_chain" p_20 (dL K))(AI:K0 P w K mg base 6 "refuse_engaged" p_1 [] (kA K my))(D:cA K mg "room" (top 53) p_1 [.int 0]):K0 P w K mg base 7 "room" p_1 [.int 0] (jA K my):=by
 refine D.okF bh (λ_ _ _ _ h=>?_) (λ_ _ _ _ _ H _ Q E hr h=>?_)
 ·obtain⟨a,l,e,h,as,ks,c,es,sh,rfl,_⟩:=h
  rfl
 obtain⟨a,l,e,h,as,ks,c,es,sh,rfl,ask,fr,hc,he,cond,q,qE⟩:=h
 refine⟨_,(d9 (j3 (i:=5) bh.nd rfl (Or.inl rfl) (m6 Ei.all hr rfl (a8 (pv 0) (a8 (pv 1) (a8 (pv 2) (a8 (pv 3) (a8 (pv 4) c7 a9) a9) a9) a9) a9)))
  (d9 (m8 (k9 (bJ K (B5.units0 hr)) (pv 5) (n6 c7) (m3 _)) (i0 (j6 (C2 (a8 (n6 c7) (a8 (j1 (q9 K) (pv 5) c8) c7 m9) J4)))) j7)
  (d9 (j3 (i:=6) bh.nd rfl (Or.inl rfl) (m6 yV hr rfl (a8 (pv 0) (a8 (pv 3) c7 a9) a9)))
  (d9 (j3 (i:=7) bh.nd rfl (Or.inl rfl) w6)
  (d9 (m8 (k9 C7 (i8 (u6 K) rfl T.yT boot_len (a8 (pv 6) c7 a9)) c8 (m3 _)) (i0 (j3 (i:=7) bh.nd rfl (Or.inl rfl) (m6 AZ hr rfl (a8 (pv 0) (a8 (pv 1) (a8 (j1 (i4 K) (m6 yU hr rfl (a8 (pv 0) (a8 (pv 2) c7 a9) a9)) c8) (a8 (j1 (q9 K) (pv 6) c8) (a8 (pv 4) c7 a9) m9) m9) a9) a9)))) j7)
  (d9 (m8 (k9 X0 (pv 7) w6 (m3 _)) (i0 (C5 (bF 0 AI (bq λ_ _ _ z=>z) hr rfl (a8 (pv 0) (a8 (pv 1) (a8 (pv 2) (a8 (pv 3) (a8 (pv 4) c7 a9) a9) a9) a9) a9)))) j7)
  (i0 (j6 (pv 7))))))))),?_⟩
 refine⟨_,rfl,_,rfl,_,rfl,_,rfl,_,rfl,a,l,e,h,as,ks,c,es,sh,rfl,ask,λfl H1 s1 hf0 ef=>?_⟩;refine⟨_,rfl,z_0,λnl hnl=>?_⟩
 have s2':=c9 hnl (.lst []);have s2:=s1.trans s2';have e2:=@c6 H1 nl (.lst []);have ef2:=s2' _ _ ef;generalize upd H1 nl _=H2 at s2 e2 ef2 ⊢;refine⟨fl,nl,_,rfl,rfl,SqL.of ef2,SqL.of e2,_,rfl,?_⟩
 cases ew:N4 h ks c es sh with
 | cons k ws =>
  rw[ew] at ef2;refine B1 (λz=>?_) (λz=>?_)
  ·refine⟨z_0,λml hml=>?_⟩
   have s3':=c9 hml (.lst []);have s3:=s2.trans s3';have e3:=@c6 H2 ml (.lst []);have ef3:=s3' _ _ ef2;generalize upd H2 ml _=H3 at s3 e3 ef3 ⊢;refine⟨_,rfl,fl,_,_,_,rfl,rfl,SqL.of ef3,(show atI _ ((0:Nat):Int)=_ from B3 rfl),z_2,λt ht=>?_⟩
   have s4':=c9 ht (.tup [.ref ml,.int (k:Nat)]);exact q k ws t ml _ ew (s3.trans s4') c6 (s4' _ _ e3)
  ·exact absurd rfl z
 | nil =>
  refine B1 (λz=>?_) (λz=>?_)
  ·exact absurd z (by decide)
  have k2:=ask.same s2;refine⟨_,rfl,_,rfl,a,e,h,es,rfl,k2.a,k2.ok,k2.e,k2.len,λgl H3 s3' hgl egl=>?_⟩;have s3:=s2.trans s3';have k3:=ask.same s3;refine⟨_,rfl,gl,_,rfl,.inl (SqL.of egl),rfl,_,rfl,?_⟩;rw[length_map];refine jm (λσ' G=>i9 H G/\σ'=[some (.ref a),some (.ref l),some (.int c),some (.ref e),some (.int sh),some (.ref fl),some (.ref gl),some .non]) (λσ' G z=>?_) (λhb key=>?_) (λhb key=>?_)
  ·obtain⟨sG,rfl⟩:=z
   refine⟨_,rfl,rfl,_,rfl,M6 ?_⟩;exact⟨_,rfl,_,rfl,_,rfl,_,rfl,_,rfl,a,l,e,h,as,ks,c,es,sh,rfl,ask.same sG,λdx nh nas nlv o H5 s5 lo eng frs=>qE ew dx nh nas nlv o H5 (sG.trans s5) lo eng (frs.back sG)⟩
  ·have hb1:(l7 h es).length=1:=by
    have:=of_decide_eq_true hb
    injection this with this
    lia
   have no:=(cond ew).resolve_left λz=>z hb1;obtain⟨r,hr1⟩:=List.length_eq_one_iff.mp hb1;obtain⟨x,hx,hxr⟩:=F1.mp (show r∈l7 h es by rw[hr1];exact mem_cons_self ..)
   have o1:=ask.ok.c;have o2:=ask.ok.e;have x1:=he x hx;refine⟨_,rfl,_,rfl,_,rfl,_,rfl,a,h,c,rfl,k3.a,k3.ok,λp hp=>?_⟩;have s4':=c9 hp (.tup [.int (c/h.c),.int (c%h.c)]);have s4:=s3.trans s4';have e4:=@c6 H3 p (.tup [.int (c/h.c),.int (c%h.c)]);have eg4:=s4' _ _ egl;generalize upd H3 p _=H4 at s4 e4 eg4 ⊢;have k4:=ask.same s4;rw[hr1] at eg4;refine⟨p,_,_,_,rfl,rfl,SqT.of e4,rfl,_,rfl,gl,_,_,_,rfl,rfl,SqL.of eg4,(show atI _ ((0:Nat):Int)=_ from B3 rfl),_,rfl,a,l,h,as,ks,c/h.c,r,sh,rfl,k4.a,k4.ok,k4.l,k4.c,k4.hin,fr,k4.few,⟨Int.ediv_nonneg hc.1 (by lia),Int.ediv_lt_of_lt_mul (by lia) hc.2⟩,?_,no,λH5 s5=>key _ _ ⟨s4.trans s5,rfl⟩⟩
   rw[<- hxr];exact⟨Int.ediv_nonneg x1.1 (by lia),Int.ediv_lt_of_lt_mul (by lia) x1.2⟩
  ·exact key _ _ ⟨s3,rfl⟩
def dm (ks:List Call):N9 ks []=ks:=by
 unfold N9;refine(map_congr_left λk _=>?_).trans (List.map_id _);rfl
def rL {h:l9}{ks:List Call}(fr:ks.Pairwise (Q2 h))(up:ks.Pairwise λk k'=>k.c<k'.c):gK h ks []:=by
 refine⟨λi m z=>(by rw[List.getElem?_nil] at z;cases z),?_⟩
 rw[dm];exact(fr.and up).imp λz=>sE z.1 z.2
def uF {h:l9}{es:List Int}(w:C0 h (some (es.map V.int))=true):∀x∈es,0<=x/\x<h.o*h.e:=λx hx=>by
 have w':(!(es.map V.int).isEmpty&&((es.map V.int).all (λx=>m4 x 0 (h.o*h.e-1))&&E3 (es.map V.int)))=true:=w;rw[Bool.and_eq_true,Bool.and_eq_true,all_eq_true] at w';obtain⟨c,ec,c0,c1⟩:=R0 (w'.2.1 _ (mem_map_of_mem hx))
 cases ec
 exact⟨c0,by lia⟩
def rn (K:Frag)(CN CB CE:Addr):Sp:=λvs H Q E=>∃(a l:Addr)(h:l9)(as:List Addr)(ks:List Call)(x y:V)(o:Option (List V))(sh:Int),vs=[.ref a,.ref l,x,y,.int sh]/\SqT K H a (h.row.map V.int)/\h.Ok/\H l=some (.lst (as.map V.ref))/\j8 H as ks/\(∀k∈ks,k.In h)/\ks.Pairwise (Q2 h)/\(ks.Pairwise λk k'=>k.c<k'.c)/\ks.length<63/\A0 K H x/\O8 K H y o/\(∀xs,o=some xs->xs.length<64) /\
 (∀H',i9 H H'->(m4 x 0 (h.i*h.c-1)&&C0 h o)=false->E (.ref CN) none H') /\
 (∀(c:Int)(es:List Int),x=.int c->o=some (es.map V.int)->m4 x 0 (h.i*h.c-1)=true->C0 h o=true ->
  (X9 ks c es->N4 h ks c es sh=[]->(l7 h es).length≠1\/x9 h sh=[]) /\
  (∀(w:Int)(dx:Addr)(H':Hp),i9 H H'->P9 ks c es w->H' dx=some (XdO dx [("who",.int w)])->E (.ref CB) (some dx) H') /\
  (X9 ks c es->N4 h ks c es sh=[]->∀(dx nh:Addr)(nas:List Addr)(nlv:V)(o:Option (List Int))(H':Hp),i9 H H'->T8 h ks c es sh o->fP H' dx (E7 h ks c es) o nh nas nlv->X1 H nas nlv->E (.ref CE) (some dx) H') /\
  (X9 ks c es->∀(k:Nat)(ws:List Nat),N4 h ks c es sh=k::ws->∀(t ml r:Addr)(bs:List Addr)(ks':List Call)(es':List Int)(H':Hp),i9 H H'->H' t=some (.tup [.ref ml,.ref r])->H' ml=some (.lst [])->H' r=some (.lst (bs.map V.ref))->j8 H' bs ks'->es'.Perm es->es'.Pairwise (·<=·)->ks'.Perm (ks++[⟨c,es',k⟩])->ks'.Pairwise (λk k'=>k.c<k'.c)->Q (.ref t) H'))
def N3:FnScope ["hall","calls","caller","ends","shut","found","behind"] ["hall","calls","caller","ends","shut"] (i3 (top 54)):=mkF
def ug (T:Txt K mg)(Z:bo K mg yD yG yF yC yH yK yE my yI)(Bq:K0 P w K mg base 5 "refuse_wrong" p_31 [] (nW K yC))(Bx:K0 P w K mg base 4 "refuse_busy" p_35 [] (fY K yE))(Ej:K0 P w K mg base 7 "room" p_1 [.int 0] (jA K my))(Ec:i6 P w K mg base 5 "moved" p_36 (oQ K))(Cq:i6 P w K mg base 1 "with_call" p_23 (sr K))(D:cA K mg "joined_turning" (top 54) p_1 [.int 0]):K0 P w K mg base 8 "joined_turning" p_1 [.int 0] (rn K yC yE my):=by
 refine D.okF N3 (λ_ _ _ _ h=>?_) (λ_ _ _ _ _ H _ Q E hr h=>?_)
 ·obtain⟨a,l,h,as,ks,x,y,o,sh,rfl,_⟩:=h
  rfl
 obtain⟨a,l,h,as,ks,x,y,o,sh,rfl,hH,ok,el,hC,hin,fr,up,h63,px,ey,h64,qW,q⟩:=h
 refine⟨_,(d9 (C5 (bF 0 Bq (bq λ_ _ _ z=>z) hr rfl (a8 (pv 0) (a8 (pv 2) (a8 (pv 3) c7 a9) a9) a9)))
  (d9 (C5 (bF 0 Bx (bq λ_ _ _ z=>z) hr rfl (a8 (pv 1) (a8 (pv 2) (a8 (pv 3) c7 a9) a9) a9)))
  (d9 (j3 (i:=5) N3.nd rfl (Or.inl rfl) (bF 1 Ej (bq λ_ _ _ z=>z) hr rfl (a8 (pv 0) (a8 (pv 1) (a8 (pv 2) (a8 (pv 3) (a8 (pv 4) c7 a9) a9) a9) a9) a9)))
  (d9 (j3 (i:=6) N3.nd rfl (Or.inl rfl) (m6 Ec hr rfl (a8 (pv 0) (a8 (pv 1) (a8 (j1 (i4 K) (pv 5) c8) c7 m9) a9) a9)))
  (i0 (j6 (C2 (a8 (j1 (i4 K) (pv 5) c8) (a8 (m6 Cq hr rfl (a8 (pv 6) (a8 (pv 2) (a8 (pv 3) (a8 (j1 (i4 K) (pv 5) c8) c7 m9) a9) a9) a9)) c7 o8) m9)))))))),?_⟩
 refine⟨_,rfl,_,rfl,_,rfl,a,h,x,y,o,rfl,hH,ok,px,ey,λH1 s1 w1 w2=>?_,qW⟩;obtain⟨c,rfl,c0,c1⟩:=R0 w1;obtain⟨e,es,rfl,rfl,he⟩:=cF ey w2;have l64:es.length<64:=by have:=h64 _ rfl;rwa [length_map] at this
 obtain⟨cond,qB,qG,qR⟩:=q c es rfl rfl w1 w2;have ask:∀{G:Hp},i9 H G->bp K G a l e h as ks es:=λs=>bp.same s ⟨hH,ok,SqL.of el,hC,hin,by lia,he,l64⟩
 have k1:=ask s1;refine⟨_,rfl,_,rfl,_,rfl,l,e,as,ks,c,es,rfl,k1.l,k1.c,k1.e,l64,λH2 s2 idle=>?_,λw dx H2 s2 b ed=>qB w dx H2 (s1.trans s2) b ed⟩;have s12:=s1.trans s2;refine⟨_,rfl,_,rfl,_,rfl,_,rfl,_,rfl,a,l,e,h,as,ks,c,es,sh,rfl,ask s12,fr,⟨c0,by lia⟩,uF w2,cond idle,λk ws t ml H3 ew s3' et eml=>?_,λew dx nh nas nlv o H3 s3 lo eng frs=>qG idle ew dx nh nas nlv o H3 (s12.trans s3) lo eng (frs.back s12)⟩
 have s3:=s12.trans s3';have k3:=ask s3;refine⟨_,rfl,_,rfl,_,rfl,t,_,_,_,rfl,rfl,SqT.of et,rfl,a,l,ml,h,as,[],ks,[],rfl,k3.a,ok,k3.l,k3.c,hin,up,by lia,SqL.of eml,.nil,by decide,λ_ bl bs H4 s4' ebl hbs=>?_,λz=>absurd (rL fr up) z⟩
 rw[dm] at hbs;have s4:=s3.trans s4';have k4:=ask s4;have et4:=s4' _ _ et;refine⟨_,rfl,t,_,_,_,rfl,rfl,SqT.of et4,rfl,_,rfl,_,rfl,_,rfl,_,rfl,t,_,_,_,rfl,rfl,SqT.of et4,rfl,bl,e,bs,ks,c,k,es,rfl,ebl,hbs,h63,up.imp (λ{x y} z=>by lia),idle.1,k4.e,l64,λr cs ks' es' H5 s5' er hcs pe se pk sk=>?_⟩
 refine⟨z_2,λt2 ht2=>?_⟩
 have s6':=c9 ht2 (.tup [.ref ml,.ref r]);exact qR idle k ws ew t2 ml r cs ks' es' _ (s4.trans (s5'.trans s6')) c6 (s6' _ _ (s5' _ _ (s4' _ _ eml))) (s6' _ _ er) (j8.same (λb xs z=>s6' _ _ z) hcs) pe se pk sk
def sY (b k:Nat):A1 (b:Int) k = !b.testBit k:=by
 unfold A1
 have e1:((b:Int)/2^k)=((b/2^k:Nat):Int):=by
  rw[Int.natCast_ediv,Int.natCast_pow];rfl
 rw[e1,bitAnd_pp (Int.natCast_nonneg _) (by decide),Int.toNat_natCast,show((1:Int)).toNat=1 from rfl,Nat.and_one_is_mod,Nat.testBit_eq_decide_div_mod_eq]
 by_cases z:b/2^k%2=1
 ·rw[z];rfl
 ·have:b/2^k%2=0:=by lia
  rw[this];rfl
def bN (h:l9):x9 h (1*2^h.m.toNat-1)=[]:=by
 have e:(1*2^h.m.toNat-1:Int)=((2^h.m.toNat-1:Nat):Int):=by
  have:0<2^h.m.toNat:=Nat.two_pow_pos _
  rw[Int.one_mul,Int.natCast_sub this,Int.natCast_pow];rfl
 unfold x9;rw[e,List.filter_eq_nil_iff]
 intro k hk
 rw[sY,Nat.testBit_two_pow_sub_one,decide_eq_true (List.mem_range.mp hk)]
 decide
def qr {h:l9}{es:List Int}{M N:Int}(hM:M∈es.map λe=>e/h.e)(hN:N∈es.map λe=>e/h.e)(h1:(l7 h es).length=1):M=N:=by
 obtain⟨r,hr⟩:=List.length_eq_one_iff.mp h1
 have all:∀x∈es.map (λe=>e/h.e),x=r:=λx hx=>by
  obtain⟨e,he,rfl⟩:=mem_map.mp hx
  have:e/h.e∈l7 h es:=F1.mpr ⟨e,he,rfl⟩
  rw[hr] at this;exact mem_singleton.mp this
 rw[all M hM,all N hN]
def tN (h:l9)(ks:List Call)(x:V)(o:Option (List V))(sh:Int):Prop:=∀(c:Int)(es:List Int),x=.int c->o=some (es.map V.int)->m4 x 0 (h.i*h.c-1)=true->C0 h o=true->X9 ks c es->N4 h ks c es sh=[]->(l7 h es).length≠1\/x9 h sh=[]
structure xf (h:l9)(ks:List Call)(x:V)(o:Option (List V))(sh:Int)(G H:Hp)(t ml r:Addr)(c:Int)(es es':List Int)(k:Nat)(ws:List Nat)(bs:List Addr)(ks':List Call):Prop where
 ex:x=.int c
 eo:o=some (es.map V.int)
 w1:m4 x 0 (h.i*h.c-1)=true
 w2:C0 h o=true
 i:X9 ks c es
 hk:N4 h ks c es sh=k::ws
 s:i9 G H
 et:H t=some (.tup [.ref ml,.ref r])
 em:H ml=some (.lst [])
 er:H r=some (.lst (bs.map V.ref))
 hb:j8 H bs ks'
 pe:es'.Perm es
 se:es'.Pairwise (·<=·)
 pk:ks'.Perm (ks++[⟨c,es',k⟩])
 sk:ks'.Pairwise λk k'=>k.c<k'.c
def fR (K:Frag):Sp:=λvs H Q _=>∃(a l:Addr)(h:l9)(as:List Addr)(ks:List Call)(n:Int),vs=[.ref a,.ref l,.int n]/\SqT K H a (h.row.map V.int)/\h.Ok/\H l=some (.lst (as.map V.ref))/\j8 H as ks/\(∀k∈ks,k.In h)/\ks.Pairwise (Q2 h)/\(ks.Pairwise λk k'=>k.c<k'.c)/\ks.length<63/\∀(H':Hp),i9 H H'->Q (.bl true) H'
def n5:FnScope ["_law_hall_here","_law_calls_here","_law_number_here","_law_caller_here","_law_ends_here","_law_shut","_law_plain","_law_due_here","_law_racks","_law_handed","_law_refused","_law_found","_law_e","_law_behind"] ["_law_hall_here","_law_calls_here","_law_number_here"] (i3 (top 73)):=mkF
def lB (T:Txt K mg)(Z:bo K mg yD yG yF yC yH yK yE my yI)(By:i6 P w K mg base 1 "_law_caller" p_2 (fO K))(Bz:i6 P w K mg base 2 "_law_wanted" p_2 (kr K))(Df:i6 P w K mg base 3 "_law_due" p_4 (nM K))(zx:K0 P w K mg base 8 "joined_turning" p_1 [.int 0] (rn K yC yE my))(yQ:i6 P w K mg base 5 "_law_alike" p_10 (bg 4))(BQ:i6 P w K mg base 4 "_law_paper" p_27 (oC yC yE my))(D:Def K mg "_law_asked" (top 73) p_2):i6 P w K mg base 9 "_law_asked" p_2 (fR K):=by
 refine D.ok n5 (λ_ _ _ _ h=>?_) (λ_ _ _ _ _ H _ Q E hr h=>?_)
 ·obtain⟨a,l,h,as,ks,n,rfl,_⟩:=h
  rfl
 obtain⟨a,l,h,as,ks,n,rfl,hH,ok,el,hC,hin,fr,up,h63,q⟩:=h;have om:=ok.m;have nc:ks.Pairwise λk k'=>k.c≠k'.c:=fr.imp λz=>z.caller;have hC':∀{G:Hp},i9 H G->j8 G as ks:=λs=>j8.same (λb xs z=>s _ _ z) hC
 refine⟨_,(d9 (j3 (i:=3) n5.nd rfl (Or.inl rfl) (m6 By hr rfl (a8 (pv 0) (a8 (pv 1) (a8 (pv 2) c7 a9) a9) a9)))
  (d9 (j3 (i:=4) n5.nd rfl (Or.inl rfl) (m6 Bz hr rfl (a8 (pv 0) (a8 (pv 1) (a8 (pv 2) c7 a9) a9) a9)))
  (d9 (j3 (i:=5) n5.nd rfl (Or.inl rfl) (i7 o7 (i7 o7 (i7 r6 (pv 2) c8) c8) (i7 cQ c8 (j1 (i4 K) (pv 0) c8))))
  (d9 (m8 (k9 C7 (i7 o7 (i7 o7 (i7 r6 (pv 2) c8) c8) c8) c8 (m3 _)) (i0 (j3 (i:=5) n5.nd rfl (Or.inl rfl) (i7 bL (i7 cQ c8 (j1 (i4 K) (pv 0) c8)) c8))) j7)
  (d9 (j3 (i:=6) n5.nd rfl (Or.inl rfl) (J5 C7 (i7 o7 (i7 o7 (i7 r6 (pv 2) c8) c8) c8) c8 (m3 _)))
  (d9 (m8 (w9 K (pv 6) (λ_=>rfl)) (i0 (j3 (i:=5) n5.nd rfl (Or.inl rfl) c8)) j7)
  (d9 (j3 (i:=7) n5.nd rfl (Or.inl rfl) (m6 Df hr rfl (a8 (pv 0) (a8 (pv 1) (a8 (pv 3) (a8 (pv 4) (a8 (pv 5) c7 a9) a9) a9) a9) a9)))
  (d9 (m8 (PW.pt (dD (k9 C7 (j1 (i4 K) (pv 7) c8) c8 (m3 _)) (aN (k9 jg (pv 5) (i7 bL (i7 cQ c8 (j1 (i4 K) (pv 0) c8)) c8) (m3 _))))) (d9 (qC (cJ (i:=8) (own:=["_law_end"]) (fr:=[(0,"_law_hall_here")]) rfl n5.nd rfl rfl (mkC ["_law_hall_here","_law_calls_here","_law_number_here","_law_caller_here","_law_ends_here","_law_shut","_law_plain","_law_due_here","_law_racks","_law_handed","_law_refused","_law_found","_law_e","_law_behind"] (i3 (top 73))) (cD K (pv 4)) (λcl C s H ex=>⟨(m5 (i:=0) (show(["_law_end","_law_hall_here"]:List Str).Nodup from by decide +kernel) rfl (Or.inl rfl) (Or.inr rfl)),F4,(i7 U5 (pv 0) (j1 (i4 K) (pv 1) c8))⟩) rfl) (cJ (i:=8) (own:=["_law_end"]) (fr:=[(0,"_law_hall_here")]) rfl n5.nd rfl rfl (mkC ["_law_hall_here","_law_calls_here","_law_number_here","_law_caller_here","_law_ends_here","_law_shut","_law_plain","_law_due_here","_law_racks","_law_handed","_law_refused","_law_found","_law_e","_law_behind"] (i3 (top 73))) (o6 K (pv 4)) (λcl C s H ex=>⟨(m5 (i:=0) (show(["_law_end","_law_hall_here"]:List Str).Nodup from by decide +kernel) rfl (Or.inl rfl) (Or.inr rfl)),F4,(i7 U5 (pv 0) (j1 (i4 K) (pv 1) c8))⟩) rfl))
  (i0 (m8 (k9 C7 (i8 (mJ K rfl) rfl T.Dr boot_min (a8 (pv 8) c7 a9)) (i8 (mE K rfl) rfl T.Es boot_max (a8 (pv 8) c7 a9)) (m3 _)) (i0 (j6 K2)) j7))) j7)
  (d9 (j3 (i:=9) n5.nd rfl (Or.inl rfl) (A5 (aH K) rfl T.AC boot_list (a8 (pv 1) c7 a9)))
  (d9 (j3 (i:=10) n5.nd rfl (Or.inl rfl) w6)
  (d9 (j3 (i:=11) n5.nd rfl (Or.inl rfl) w6)
  (d9 (uL (c:=.ref yD) (i:=12) rfl Z.Af n5.nd rfl rfl rfl rfl rfl (λpn E =>
  (i0 (m8 (w9 K (pv 6) (λ_=>rfl)) (i0 (j3 (i:=11) n5.nd rfl (Or.inl rfl) (bF 0 zx fE hr rfl (a8 (pv 0) (a8 (pv 9) (a8 (pv 3) (a8 (pv 4) c7 a9) a9) a9) a9)))) (i0 (j3 (i:=11) n5.nd rfl (Or.inl rfl) (bF 1 zx fE hr rfl (a8 (pv 0) (a8 (pv 9) (a8 (pv 3) (a8 (pv 4) (a8 (pv 5) c7 a9) a9) a9) a9) a9))))))) (λea =>
  (i0 (j3 (i:=10) n5.nd rfl (Or.inl rfl) (pv 12)))))
  (d9 (m8 (k9 (lR K (B5.units0 hr)) (pv 9) (pv 1) (m3 _)) (i0 (j6 K2)) j7)
  (d9 (m8 (k9 C7 (j1 (i4 K) (pv 7) c8) c8 (m3 _)) (d9 (j3 (i:=13) n5.nd rfl (Or.inl rfl) (i8 (R9 K) rfl T.yZ boot_sorted (a8 (i7 Q1 (pv 1) (n6 (a8 (C2 (a8 (pv 3) (a8 (A5 (O3 K) rfl T.zm boot_tuple (a8 (i8 (P4 K) rfl T.yZ boot_sorted (a8 (pv 4) c7 a9)) c7 o8)) (a8 (j1 (q9 K) (j1 (i4 K) (pv 7) c8) c8) c7 m9) o8) a9)) c7 Q0))) c7 O5)))
  (i0 (j6 (U7 (J5 X0 (pv 10) w6 (m3 _)) (az (m6 yQ hr rfl (a8 (pv 11) (a8 (C2 (a8 (n6 c7) (a8 (pv 13) c7 a9) J4)) c7 Q0) a9))))))) j7)
  (i0 (j6 (U7 (J5 T9 (pv 10) w6 (m3 _)) (az (m6 BQ hr rfl (a8 (pv 10) (a8 (pv 7) c7 a9) a9)))))))))))))))))))),?_⟩
 refine⟨_,rfl,_,rfl,_,rfl,a,l,h,as,ks,n,rfl,hH,ok,SqL.of el,hC,λx H1 s1 px=>?_⟩;refine⟨_,rfl,_,rfl,_,rfl,a,l,h,as,ks,n,rfl,i9.seqT s1 hH,ok,SqL.of (s1 _ _ el),hC' s1,hin,λy o H2 s2' ey l13 own=>?_⟩;have s2:=s1.trans s2';have px2:=px.same s2';have hH2:=i9.seqT s2 hH;refine⟨_,rfl,_,_,rfl,rfl,.inr ⟨by decide,by decide⟩,_,_,rfl,rfl,(by show(0:Int)<16777183;decide),_,rfl,a,_,_,_,rfl,rfl,hH2,rfl,_,_,rfl,rfl,⟨by show 0<=h.m;lia,by show h.m<=1000000;lia,by decide⟩,_,_,rfl,rfl,(by show(0:Int)<1*2^h.m.toNat;rw[Int.one_mul];exact Int.pow_pos (by decide)),?_⟩
 refine⟨_,rfl,_,_,rfl,rfl,.inr ⟨by decide,by decide⟩,_,_,rfl,rfl,(by show(0:Int)<999979;decide),_,_,rfl,rfl,(by show(0:Int)<4;decide),rfl,_,rfl,?_⟩
 refine fU (σ:=λW=>[some (.ref a),some (.ref l),some (.int n),some x,some y,some (.int W),none,none,none,none,none,none,none,none]) (λ_=>True) (λ_=>trivial) (λsh0 _=>?_) (λ_ key=>?_)
 rotate_left
 ·exact⟨_,rfl,a,_,_,_,rfl,rfl,hH2,rfl,_,_,rfl,rfl,⟨by show 0<=h.m;lia,by show h.m<=1000000;lia,by decide⟩,_,_,rfl,rfl,key _ trivial⟩
 refine⟨_,rfl,_,_,rfl,rfl,.inr ⟨by decide,by decide⟩,_,_,rfl,rfl,(by show(0:Int)<999961;decide),_,_,rfl,rfl,(by show(0:Int)<2;decide),rfl,?_⟩
 dsimp only
 generalize decide (V.int (n*16807%999961%2)=V.int 0)=pb;refine⟨_,rfl,_,rfl,?_⟩;refine fU (σ:=λW=>[some (.ref a),some (.ref l),some (.int n),some x,some y,some (.int W),some (.bl pb),none,none,none,none,none,none,none]) (λW=>pb=true->W=0) (λz y=>by rw[z] at y;cases y) (λsh hsh=>?_) (λ_ key=>?_)
 rotate_left
 ·exact key _ λ_=>rfl
 refine⟨_,rfl,_,rfl,_,rfl,_,rfl,_,rfl,a,l,h,as,ks,x,y,o,sh,rfl,hH2,ok,SqL.of (s2 _ _ el),hC' s2,hin,by lia,px2,ey,l13,λt H3 s3' due=>?_⟩
 have s3:=s2.trans s3'
 obtain⟨i,u,v,et,d2,d1⟩:∃i u v,H3 t=some (.tup [.int i,u,v])/\(i=2->∃(c:Int)(es:List Int),x=.int c/\o=some (es.map V.int)/\C0 h o=true)/\(i≠2->tN h ks x o sh):=by
  cases due with
  | wrong b e=>exact⟨_,_,_,e,λz=>absurd z (by decide),λ_ c es ex eo w1 w2=>by rw[w1,w2] at b;cases b⟩
  | busy c es w ex eo w1 w2 b e=>
   refine⟨_,_,_,e,λz=>absurd z (by decide),λ_ c' es' ex' eo' _ _ i=>?_⟩
   cases ex.symm.trans ex'
   obtain rfl:=F3 eo eo';exact(b.not_idle i).elim
  | eng c es kf rs lv lo ex eo w1 w2 i n e=>exact⟨_,_,_,e,λ_=>⟨c,es,ex,eo,w2⟩,λz=>absurd rfl z⟩
  | way c es fl ex eo w1 w2 i n e=>
   refine⟨_,_,_,e,λz=>absurd z (by decide),λ_ c' es' ex' eo' _ _ i n'=>?_⟩
   cases ex.symm.trans ex'
   obtain rfl:=F3 eo eo';exact absurd n' n
 dsimp only[W7,nG]
 refine ux (λσ' G=>i9 H3 G/\tN h ks x o sh/\∃v8,σ'=[some (.ref a),some (.ref l),some (.int n),some x,some y,some (.int sh),some (.bl pb),some (.ref t),v8,none,none,none,none,none]) (λR rest=>?_) ?_
 ·refine⟨_,rfl,t,_,_,_,rfl,rfl,SqT.of et,rfl,rfl,_,rfl,B1 (λz1=>?_) (λz1=>?_)⟩
  rotate_left
  ·exact D9 (rest _ _ ⟨i9.refl _,d1 λz=>z1 (decide_eq_true (by rw[z])),_,rfl⟩)
  have i2:i=2:=V.int.inj (of_decide_eq_true z1);obtain⟨c,es,rfl,rfl,w2⟩:=d2 i2;refine⟨_,rfl,_,rfl,a,_,_,_,rfl,rfl,i9.seqT s3 hH,rfl,_,_,rfl,rfl,⟨by show 0<=h.m;lia,by show h.m<=1000000;lia,by decide⟩,_,_,rfl,rfl,rfl,_,rfl,B1 (λz2=>?_) (λz2=>?_)⟩
  rotate_left
  ·refine rest _ _ ⟨i9.refl _,λc es _ _ _ _ _ _=>.inr ?_,_,rfl⟩
   have:sh=1*2^h.m.toNat-1:=by simpa using z2
   rw[this];exact bN h
  obtain⟨e,es',rfl,eo',he⟩:=cF (ey.same s3') w2;obtain rfl:=F3 rfl eo';have ne:es≠[]:=λz=>by rw[z] at w2;cases w2
  have l13':=l13 _ rfl;rw[length_map] at l13';have oe:=ok.e
  have behind:∀(r:Addr)(G:Hp),i9 H3 G->G r=some (.lst ((es.map λe=>e/h.e).map V.int))->xr (sU (tOp rEq (tCB (vw K) (rG (uO 8) uk)) (tCB (vI K) (rG (uO 8) uk)))) (xJ (tC (V.bl true))) (λD σ H=>D.nx σ H) { nx:=R,rt:=Q } [some (.ref a),some (.ref l),some (.int n),some (.int c),some (.ref e),some (.int sh),some (.bl pb),some (.ref t),some (.ref r),none,none,none,none,none] G:=by
   intro r G sG er
   have ne':es.map (λe=>e/h.e)≠[]:=λz=>ne (List.map_eq_nil_iff.mp z);refine⟨_,rfl,r,_,rfl,SqL.of er,ne',λM hM lM=>⟨_,rfl,r,_,rfl,SqL.of er,ne',λN hN lN=>⟨rfl,_,rfl,B1 (λz=>?_) (λz=>?_)⟩⟩⟩
   ·exact q G (s3.trans sG)
   ·refine rest _ _ ⟨sG,λc2 es2 _ eo2 _ _ _ _=>.inl λy=>z ?_,_,rfl⟩
    obtain rfl:=F3 rfl eo2;rw[qr hM hN y];exact decide_eq_true rfl
  rcases he with he|he
  ·refine .inl ?_
   refine⟨_,rfl,e,rfl,⟨_,he⟩,?_⟩
   refine dA (xs:=es.map V.int) (λi acc σ H'=>H'=H3/\acc=((es.take i).map λe=>e/h.e).map V.int/\∃v,σ=[v,some (.ref a)])
    ⟨rfl,rfl,none,rfl⟩ (Nat.le_of_lt (k8 (by rw[length_map];lia))) (λi acc σ H' g=>?_) (λi acc σ H' _ g=>by rw[g.1];exact he) ?_ ?_
   ·obtain⟨_,rfl,_⟩:=g
    rw[length_map,length_map,length_take];lia
   ·rintro i y acc σ H' hy ⟨rfl,rfl,v,rfl⟩
    rw[List.getElem?_map] at hy;obtain⟨e1,he1,rfl⟩:=Option.map_eq_some_iff.mp hy;refine⟨_,rfl,_,rfl,a,_,_,_,rfl,rfl,i9.seqT s3 hH,rfl,_,_,rfl,rfl,⟨by show 0<h.e;lia,by show h.e<1073741824;lia⟩,rfl,?_,_,rfl⟩
    rw[take_succ,he1,map_append,map_append];rfl
   ·rintro acc σ H' ⟨rfl,rfl,v,rfl⟩ r hr1
    rw[length_map,take_length];exact behind r _ (c9 hr1 _) c6
  ·refine .inr ?_
   refine⟨_,rfl,e,rfl,⟨_,he⟩,?_⟩
   refine B9 (xs:=es.map V.int) (λi acc σ H'=>H'=H3/\acc=((es.take i).map λe=>e/h.e).map V.int/\∃v,σ=[v,some (.ref a)])
    ⟨rfl,rfl,none,rfl⟩ (Nat.le_of_lt (k8 (by rw[length_map];lia))) (λi acc σ H' g=>?_) (λi acc σ H' _ g=>by rw[g.1];exact he) ?_ ?_
   ·obtain⟨_,rfl,_⟩:=g
    rw[length_map,length_map,length_take];lia
   ·rintro i y acc σ H' hy ⟨rfl,rfl,v,rfl⟩
    rw[List.getElem?_map] at hy;obtain⟨e1,he1,rfl⟩:=Option.map_eq_some_iff.mp hy;refine⟨_,rfl,_,rfl,a,_,_,_,rfl,rfl,i9.seqT s3 hH,rfl,_,_,rfl,rfl,⟨by show 0<h.e;lia,by show h.e<1073741824;lia⟩,rfl,?_,_,rfl⟩
    rw[take_succ,he1,map_append,map_append];rfl
   ·rintro acc σ H' ⟨rfl,rfl,v,rfl⟩ r hr1
    rw[length_map,take_length];exact behind r _ (c9 hr1 _) c6
 rintro σ' H4 ⟨s4',cond,v8,rfl⟩
 have s4:=s3.trans s4';refine⟨_,rfl,l,_,rfl,.inl (SqL.of (s4 _ _ el)),λhd hhd=>?_⟩;have s5':=c9 hhd (.lst (as.map V.ref));have ehd:=@c6 H4 hd (.lst (as.map V.ref));generalize upd H4 hd _=G at s5' ehd ⊢;have sG:=s4.trans s5';have s3G:=s4'.trans s5';have s2G:=s3'.trans s3G;have eyG:=ey.same s2G;have pxG:=px2.same s2G;have hHG:=i9.seqT sG hH;have elG:=sG _ _ el;have l64:∀xs,o=some xs->xs.length<64:=λxs z=>Nat.lt_of_le_of_lt (l13 xs z) (by decide)
 refine⟨λσ' c0 d H'=>σ'=[some (.ref a),some (.ref l),some (.int n),some x,some y,some (.int sh),some (.bl pb),some (.ref t),v8,some (.ref hd),some .non,some .non,none,none]/\i9 G H'/\Y8 h ks x o sh yC yE my G H' c0 d,?_,?_⟩
 ·refine⟨_,rfl,_,rfl,?_⟩
  refine jm (λσ' H'=>∃t2 ml r c es es' k ws bs ks',σ'=[some (.ref a),some (.ref l),some (.int n),some x,some y,some (.int sh),some (.bl pb),some (.ref t),v8,some (.ref hd),some .non,some (.ref t2),none,none]/\xf h ks x o sh G H' t2 ml r c es es' k ws bs ks') ?_ ?_ ?_
  ·rintro σ' H' ⟨t2,ml,r,c,es,es',k,ws,bs,ks',rfl,t1⟩
   obtain⟨fl,et,ef⟩:∃fl,H3 t=some (.tup [.int 9,.ref fl,.non])/\H3 fl=some (.lst (A9 (N4 h ks c es sh))):=by
    cases due with
    | wrong b' _=>rw[t1.w1,t1.w2] at b';cases b'
    | busy c' es2 w' ex' eo' _ _ b' e' =>
     cases t1.ex.symm.trans ex'
     obtain rfl:=F3 t1.eo eo';exact(b'.not_idle t1.i).elim
    | eng c' es2 kf rs lv lo' ex' eo' _ _ _ n' =>
     cases t1.ex.symm.trans ex'
     obtain rfl:=F3 t1.eo eo'
     have:=t1.hk
     rw[n'] at this
     cases this
    | way c' es2 fl ex' eo' _ _ _ _ e' ef' =>
     cases t1.ex.symm.trans ex'
     obtain rfl:=F3 t1.eo eo';exact⟨fl,e',ef'⟩
   rw[t1.hk] at ef;have s6:=t1.s;have sA:=sG.trans s6;have et':=s6 _ _ (s3G _ _ et);have ef':=s6 _ _ (s3G _ _ ef);have el':=s6 _ _ elG;refine⟨_,rfl,_,rfl,hd,l,_,rfl,rfl,SqL.of (s6 _ _ ehd),SqL.of el',fJ as,_,rfl,D9 ?_⟩;refine⟨_,rfl,t,_,_,_,rfl,rfl,SqT.of et',rfl,rfl,_,rfl,dQ ?_⟩;obtain rfl:=t1.ex;obtain⟨e,es2,rfl,eo2,he⟩:=cF eyG t1.w2;obtain rfl:=F3 t1.eo eo2;have he':SqT K H' e (es.map V.int)\/SqL K H' e (es.map V.int):=he.imp (λz=>i9.seqT s6 z) λz=>s6.seq z;have le:es.length<64:=by have:=l64 _ t1.eo;rwa [length_map] at this
   have ln:as.length=ks.length:=Paired.length hC;refine⟨_,rfl,_,rfl,_,rfl,e,es,rfl,he',le,λes3 pm srt sl hsl=>?_⟩;obtain rfl:es3=es':=rX (pm.trans t1.pe.symm) srt t1.se;have q1:=c9 hsl (.lst (es3.map V.int));have e1:=@c6 H' sl (.lst (es3.map V.int));generalize upd H' sl _=G1 at q1 e1 ⊢;refine⟨sl,_,rfl,.inl ⟨SqL.of e1,λtt htt=>?_⟩⟩;have q2:=q1.trans (c9 htt (.tup (es3.map V.int)));have e2:=@c6 G1 tt (.tup (es3.map V.int));generalize upd G1 tt _=G2 at q2 e2 ⊢;refine⟨_,rfl,t,_,_,_,rfl,rfl,SqT.of (q2 _ _ et'),rfl,fl,_,_,_,rfl,rfl,SqL.of (q2 _ _ ef'),(show atI _ ((0:Nat):Int)=_ from B3 rfl),z_3,λp hp=>?_⟩
   have q3':=c9 hp (.tup [.int c,.ref tt,.int (k:Nat)]);have q3:=q2.trans q3';have c3:D5 (upd G2 p (.tup [.int c,.ref tt,.int (k:Nat)])) p ⟨c,es3,(k:Nat)⟩:=⟨tt,q3' _ _ e2,c6⟩;generalize upd G2 p _=G3 at q3 c3 ⊢;refine⟨z_1,λnl hnl=>?_⟩
   have q4':=c9 hnl (.lst [.ref p]);have q4:=q3.trans q4';have e4:=@c6 G3 nl (.lst [.ref p]);have c4:=D5.same (λb xs z=>q4' _ _ z) c3;generalize upd G3 nl _=G4 at q4 e4 c4 ⊢;refine⟨l,nl,_,_,rfl,rfl,q4 _ _ el',e4,Nat.le_of_lt (k8 (by rw[length_map];show as.length+1<=1000;lia)),λcl hcl=>?_⟩
   have q5':=c9 hcl (.lst (as.map V.ref++[.ref p]));have q5:=q4.trans q5';have e5:upd G4 cl (.lst (as.map V.ref++[.ref p])) cl=some (.lst ((as++[p]).map V.ref)):=by rw[c6,map_append];rfl
   have c5:=D5.same (λb xs z=>q5' _ _ z) c4;generalize upd G4 cl _=G5 at q5 e5 c5 ⊢;have hC5:j8 G5 (as++[p]) (ks++[⟨c,es3,(k:Nat)⟩]):=Paired.snoc (j8.same (λb xs z=>q5 _ _ z) (hC' sA)) c5
   dsimp only[uk]
   refine bj e5 hC5 (by rw[length_append,length_singleton];lia) (List.pairwise_append.mpr ⟨nc,List.pairwise_singleton ..,λk1 h1 k2 h2=>?_⟩) λl2 as' ks'' h1 h2 h3 h4=>?_
   ·rw[mem_singleton.mp h2]
    exact t1.i.1 k1 h1
   obtain rfl:ks''=ks':=oV (h3.trans t1.pk.symm) h4 t1.sk;have q6':=c9 h1 (.lst (as'.map V.ref));have q6:=q5.trans q6';have hB6:j8 (upd G5 l2 (.lst (as'.map V.ref))) bs ks'':=j8.same (λb xs z=>q6 _ _ z) t1.hb;have hA6:j8 (upd G5 l2 (.lst (as'.map V.ref))) as' ks'':=j8.same (λb xs z=>q6' _ _ z) h2;have e6:=@c6 G5 l2 (.lst (as'.map V.ref));generalize upd G5 l2 _=G6 at q6 hB6 hA6 e6 ⊢;refine⟨_,rfl,rfl,_,rfl,M6 ⟨_,rfl,z_0,λn0 hn0=>?_⟩⟩
   have q7':=c9 hn0 (.lst []);have e7:=@c6 G6 n0 (.lst []);have hB7:=j8.same (λb xs z=>q7' _ _ z) hB6;have hA7:=j8.same (λb xs z=>q7' _ _ z) hA6;have e67:=q7' _ _ e6;have q7:=q6.trans q7';generalize upd G6 n0 _=G7 at q7 e7 hB7 hA7 e67 ⊢;refine⟨_,rfl,z_2,λp2 hp2=>?_⟩
   have q8':=c9 hp2 (.tup [.ref n0,.ref l2]);have e8:=@c6 G7 p2 (.tup [.ref n0,.ref l2]);have hB8:=j8.same (λb xs z=>q8' _ _ z) hB7;have hA8:=j8.same (λb xs z=>q8' _ _ z) hA7;have e68:=q8' _ _ e67;have e78:=q8' _ _ e7;have q8:=q7.trans q8';generalize upd G7 p2 _=G8 at q8 e8 hB8 hA8 e68 e78 ⊢
   have few':∀κ∈ks'',κ.es.length<=1000:=λκ hκ=>by
    rcases mem_append.mp (t1.pk.mem_iff.mp hκ) with z|z
    ·have:=(hin κ z).few
     lia
    ·rw[mem_singleton.mp z]
     have:=t1.pe.length_eq
     show es3.length<=1000
     lia
   have kl:bs.length<=1000:=by
    rw[Paired.length t1.hb,t1.pk.length_eq,length_append,length_singleton];lia
   refine⟨_,_,rfl,.inr ⟨t2,p2,_,_,rfl,rfl,.inr ⟨q8 _ _ t1.et,e8⟩,.cons (.inr ⟨ml,n0,[],[],rfl,rfl,.inl ⟨q8 _ _ t1.em,e78⟩,.nil,by decide⟩) (.cons (.inr ⟨r,l2,_,_,rfl,rfl,.inl ⟨q8 _ _ t1.er,e68⟩,cg hB8 hA8 few',by rw[length_map];exact kl⟩) .nil),by show 2<=1000;decide⟩,?_⟩
   exact q G8 (sA.trans q8)
  ·intro hpb last
   obtain rfl:=hsh hpb;refine⟨_,rfl,_,rfl,_,rfl,_,rfl,a,hd,h,as,ks,x,y,o,0,rfl,hHG,ok,ehd,hC' sG,hin,fr,up,h63,pxG,eyG,l64,λH7 s7 bad=>⟨rfl,s7,.wrong bad⟩,λc es ex eo w1 w2=>⟨cond c es ex eo w1 w2,λw dx' H7 s7 b' e'=>⟨rfl,s7,.busy c es w dx' ex eo w1 w2 b' e'⟩,λi n' dx' nh nas nlv lo H7 s7 hl g f=>⟨rfl,s7,.eng c es dx' nh nas nlv lo ex eo w1 w2 i n' hl g f⟩,λi k ws hk t2 ml r bs ks' es' H7 s7 et2 em er cs pm srt pk up=>last _ _ ⟨t2,ml,r,c,es,es',k,ws,bs,ks',rfl,ex,eo,w1,w2,i,hk,s7,et2,em,er,cs,pm,srt,pk,up⟩⟩⟩
  ·intro hpb last
   refine⟨_,rfl,_,rfl,_,rfl,_,rfl,_,rfl,a,hd,h,as,ks,x,y,o,sh,rfl,hHG,ok,ehd,hC' sG,hin,fr,up,h63,pxG,eyG,l64,λH7 s7 bad=>⟨rfl,s7,.wrong bad⟩,λc es ex eo w1 w2=>⟨cond c es ex eo w1 w2,λw dx' H7 s7 b' e'=>⟨rfl,s7,.busy c es w dx' ex eo w1 w2 b' e'⟩,λi n' dx' nh nas nlv lo H7 s7 hl g f=>⟨rfl,s7,.eng c es dx' nh nas nlv lo ex eo w1 w2 i n' hl g f⟩,λi k ws hk t2 ml r bs ks' es' H7 s7 et2 em er cs pm srt pk up=>last _ _ ⟨t2,ml,r,c,es,es',k,ws,bs,ks',rfl,ex,eo,w1,w2,i,hk,s7,et2,em,er,cs,pm,srt,pk,up⟩⟩⟩
 ·rintro σ' c0 d H6 ⟨rfl,s6,fl⟩
  refine⟨rfl,sx Z.Dy Z.Ea Z.CZ fl,λea C hc hea=>?_⟩;subst hc;obtain⟨N,pi,hN⟩:=kI ok (by lia) fr due s3G s6 fl hea
  have s7:=s6.trans (c9 hea (U1 ea C d));generalize upd H6 ea _=H7 at pi s7 ⊢;refine⟨_,rfl,?_⟩;refine⟨_,rfl,_,rfl,hd,l,_,rfl,rfl,SqL.of (s7 _ _ ehd),SqL.of (s7 _ _ elG),fJ as,_,rfl,D9 ?_⟩;obtain⟨i,u,v,et,ni⟩:=pi.first;refine⟨_,rfl,t,_,_,_,rfl,rfl,SqT.of et,rfl,rfl,_,rfl,iR ni ?_⟩;refine⟨_,rfl,rfl,_,rfl,M6 ⟨_,rfl,_,rfl,ea,t,N,rfl,pi,λH8 s8=>?_⟩⟩;have keep:∀b u,G b=some u->H8 b=some u:=λb u z=>s8 b u (s7 _ _ z) (λy=>by have:=hN b y;rw[z] at this;cases this)
  exact q H8 λb u z=>keep _ _ (sG _ _ z)
def bP:FnScope ["_law_script","_law_hall_here","_law_cells","_law_calls_here","_law_at","_law_number_here"] ["_law_script"] (i3 (top 74)):=mkF
def wE (T:Txt K mg)(Cr:i6 P w K mg base 2 "_law_hall" p_32 (tw K))(BR:i6 P w K mg base 3 "_law_calls" p_28 (og K))(zv:i6 P w K mg base 1 "_law_number" p_26 sK)(Ao:i6 P w K mg base 9 "_law_asked" p_2 (fR K)){f:Addr}{fd:FuncData}(F:Fun K "law" "law" (top 74) f fd):aL P w K mg base CX0 10 f fd p_32 (oN K):=by
 refine F.ok bP (λ_ _ _ _ h=>?_) (λcdv A outer s H vs Q E hr h=>?_)
 ·obtain⟨a,ns,rfl,_⟩:=h
  rfl
 obtain⟨a,ns,rfl,hS,h63,q⟩:=h
 refine⟨_,(d9 (j3 (i:=1) bP.nd rfl (Or.inl rfl) (m6 Cr hr rfl (a8 (pv 0) c7 a9)))
  (d9 (j3 (i:=2) bP.nd rfl (Or.inl rfl) (Q4 (S5 K) (pv 0) (R3 c8) (R3 c8)))
  (d9 (j3 (i:=3) bP.nd rfl (Or.inl rfl) (m6 BR hr rfl (a8 (pv 1) (a8 (pv 2) c7 a9) a9)))
  (d9 (A2 PassesOwn.never rfl (D1 rfl T.za (a8 (i8 (fD rfl) rfl T.Dr boot_min (a8 (i8 (u6 K) rfl T.yT boot_len (a8 (pv 2) c7 a9)) (a8 c8 c7 l8) o8)) c7 o8)) (m5 (i:=4) bP.nd rfl (Or.inl rfl))
  (d9 (j3 (i:=5) bP.nd rfl (Or.inl rfl) (i7 L6 (i7 L6 (i7 r6 (m6 zv hr rfl (a8 (j1 (q9 K) (pv 2) (pv 4)) (a8 (pv 4) c7 a9) m9)) c8) (i7 r6 c8 (pv 4))) c8))
  (i0 (m8 (F0 (w9 K (m6 Ao hr rfl (a8 (pv 1) (a8 (pv 3) (a8 (pv 5) c7 a9) a9) a9)) (λ_=>rfl))) (i0 (j6 K2)) j7))))
  (i0 (j6 (m6 Ao hr rfl (a8 (pv 1) (a8 (n6 c7) (a8 (i8 (u6 K) rfl T.yT boot_len (a8 (pv 0) c7 a9)) c7 o8) J4) a9)))))))),?_⟩
 refine⟨_,rfl,a,ns,rfl,hS,λp h H1 ok _ s1 ep=>?_⟩;refine⟨_,rfl,_,rfl,_,rfl,a,_,rfl,s1.seq hS,λl hl=>?_⟩
 obtain⟨cs,hcs,hc57⟩:∃cs:List Int,S7 (ns.map V.int) (some 6) (some 70)=cs.map V.int/\cs.length<=57:=by
  refine⟨(ns.drop (HT.sIx (ns.map V.int).length 0 (some 6))).take (HT.sIx (ns.map V.int).length (ns.map V.int).length (some 70)-HT.sIx (ns.map V.int).length 0 (some 6)),?_,?_⟩
  ·unfold S7
   rw[List.map_take,List.map_drop]
  ·rw[length_take,length_drop,show HT.sIx (ns.map V.int).length 0 (some 6)=min 6 (ns.map V.int).length from HT.sIx_nat _ _ 6,length_map]
   lia
 rw[hcs];have el:=@c6 H1 l (.lst (cs.map V.int));have s2:=c9 hl (.lst (cs.map V.int));generalize upd H1 l _=H2 at el s2 ⊢;refine⟨_,rfl,_,rfl,p,l,h,cs,rfl,SqT.of (s2 _ _ ep),ok,SqL.of el,by lia,λlc as ks H3 s3 ec hC hin hlt hfr hkl=>?_⟩
 have ep3:=s3 _ _ (s2 _ _ ep);have el3:=s3 _ _ el;have hS3:SqL K H3 a (ns.map V.int):=(s1.trans (s2.trans s3)).seq hS;refine⟨_,rfl,l,_,rfl,.inl (SqL.of el3),_,_,rfl,_,rfl,?_,?_,?_⟩
 ·show -(2^62)<=(if (12:Int)<(((cs.map V.int).length:Nat):Int) then 12 else (((cs.map V.int).length:Nat):Int))
  split<;>lia
 ·rw[length_map]
  show(if (12:Int)<((cs.length:Nat):Int) then 12 else ((cs.length:Nat):Int))<2^62
  split<;>lia
 rw[length_map]
 have bnd:∀i:Nat,i<(if (12:Int)<((cs.length:Nat):Int) then (12:Int) else ((cs.length:Nat):Int)).toNat->i<cs.length/\i<13:=λi hi=>by
  split at hi<;>lia
 refine E5 (λi σ H'=>i9 H3 H'/\∃v5 v6,σ=[some (.ref a),some (.ref p),some (.ref l),some (.ref lc),v5,v6])
  ⟨i9.refl _,_,_,rfl⟩ ?_ ?_
 ·rintro i σ H' hi ⟨s6,v5,v6,rfl⟩
  obtain⟨hi1,hi2⟩:=bnd i hi;rw[Int.zero_add];refine⟨_,rfl,_,rfl,l,_,_,_,rfl,rfl,SqL.of (s6 _ _ el3),mS hi1,_,rfl,_,i,rfl,by lia,λn0 hn0=>?_⟩
  refine⟨_,_,rfl,rfl,.inr ⟨by decide,by decide⟩,_,rfl,_,_,rfl,rfl,.inl ⟨by decide,by decide⟩,_,_,rfl,rfl,_,_,rfl,rfl,?_⟩
  exact⟨_,rfl,_,rfl,_,rfl,p,lc,h,as,ks,_,rfl,SqT.of (s6 _ _ ep3),ok,s6 _ _ ec,j8.same (λb xs z=>s6 _ _ z) hC,hin,hfr,hlt,by lia,λH7 s7=>⟨_,rfl,D9 ⟨s6.trans s7,_,_,rfl⟩⟩⟩
 ·rintro σ H' ⟨s6,v5,v6,rfl⟩
  refine⟨_,rfl,z_0,λl0 hl0=>?_⟩
  have el0:=@c6 H' l0 (.lst []);have s7:=c9 hl0 (.lst []);generalize upd H' l0 _=H7 at el0 s7 ⊢;exact⟨_,rfl,a,_,rfl,.inl (s7.seq (s6.seq hS3)),p,l0,h,[],[],_,rfl,SqT.of (s7 _ _ (s6 _ _ ep3)),ok,el0,.nil,(λk hk=>nomatch hk),List.Pairwise.nil,List.Pairwise.nil,by decide,λH8 _=>q H8⟩
section
variable {l:PySem.W.OpenLaw}{w:World}{K:Frag}{h:Heap}{mg:Str->Option Value}
def wA {x:Str}{st:Stmt}{ps:List Str}{f:Addr}{oc:Value}{od an:Option Addr}{sl:Array (Option Value)}{kV dc pm cd ct:Value}(X:K.In h)(G:h.Ns mainGlobals mg)(a:nsIn K mainGlobals x=some (some (.ref f)))
  (l:K.lookup f=some ⟨oc,od,.func (fnOf x x (C4 st) (z9 st) (i3 st) .none kV dc pm an cd ct),sl⟩)(c:codeIn K cd x=true)(k:keepIn K (.ref f)=true)
  (b:∀us:List Value,us.length=ps.length->bindArgs (fnOf x x (C4 st) (z9 st) (i3 st) .none kV dc pm an cd ct) ⟨us,[]⟩=pure (ps.zip us)):Def K mg x st ps :=
 ⟨f,_,ss l c k,.all b,PySem.W.mg_of X G a⟩
def Fnd (K:Frag)(x:Str)(st:Stmt)(f:Addr):Prop:=nsIn K mainGlobals x=some (some (.ref f))/\∃(oc:Value)(od an:Option Addr)(sl:Array (Option Value))(kV dc pm cd ct:Value),K.lookup f=some ⟨oc,od,.func (fnOf x x (C4 st) (z9 st) (i3 st) .none kV dc pm an cd ct),sl⟩/\codeIn K cd x=true/\keepIn K (.ref f)=true
def vO {x:Str}{st:Stmt}{f:Addr}{oc:Value}{od an:Option Addr}{sl:Array (Option Value)}{kV dc pm cd ct:Value}(a:nsIn K mainGlobals x=some (some (.ref f)))(l:K.lookup f=some ⟨oc,od,.func (fnOf x x (C4 st) (z9 st) (i3 st) .none kV dc pm an cd ct),sl⟩)(c:codeIn K cd x=true)(k:keepIn K (.ref f)=true):Fnd K x st f:=⟨a,_,_,_,_,_,_,_,_,_,l,c,k⟩
def m7 {x:Str}{st:Stmt}{ps:List Str}{f:Addr}(X:K.In h)(G:h.Ns mainGlobals mg)(F:Fnd K x st f)(b:∀(kV dc pm cd ct:Value)(an:Option Addr)(us:List Value),us.length=ps.length->bindArgs (fnOf x x (C4 st) (z9 st) (i3 st) .none kV dc pm an cd ct) ⟨us,[]⟩=pure (ps.zip us)):Def K mg x st ps:=by
 obtain⟨a,_,_,_,_,_,_,_,_,_,l,c,k⟩:=F;exact wA X G a l c k (b _ _ _ _ _ _)
def vZ {fa f1 f2 f3 f4 f5 f6 f7 f8 f9 f10 f11 f12 f13 f14 f15 f16 f17 f18 f19 f20 f21 f22 f23 f24 f25 f26 f27 f28 f29 f30 f31 f32 f33 f34 f35 f36 f37 f38 f39 f40 f41 f42 f43 f44 f45 f46 f47 f48 f49 f50  yD yG yF yC yH yK yE my yI yP yN:Addr}(X:K.In h)(G:h.Ns mainGlobals mg)(hfa:mg "law" = some (.ref fa))
  {EK an18 EL an19 EM an30 EN an31 EO an50:Option Addr}{EQ ER ES ET EU:Array (Option Value)}{oc18 kV18 dc18 pm18 cd18 ct18 oc19 kV19 dc19 pm19 cd19 ct19 oc30 kV30 dc30 pm30 cd30 ct30 oc31 kV31 dc31 pm31 cd31 ct31 oc50 kV50 dc50 pm50 cd50 ct50:Value}
  {dv18:Addr}{Ev:Option Addr}{Ew:Array (Option Value)}{nv18:Nat}{td18_0:Tok}
  {dv19:Addr}{Ex:Option Addr}{Ey:Array (Option Value)}{nv19:Nat}{td19_0:Tok}
  {dv30:Addr}{Ez:Option Addr}{EA:Array (Option Value)}{nv30:Nat}{td30_0:Tok}
  {dv31:Addr}{EB:Option Addr}{EC:Array (Option Value)}{nv31:Nat}{td31_0:Tok}
  (b1:Fnd K "is_number" (top 11) f1)
  (b2:Fnd K "is_whole" (top 12) f2)
  (b3:Fnd K "rises" (top 13) f3)
  (b4:Fnd K "place_in" (top 14) f4)
  (b5:Fnd K "place_out" (top 15) f5)
  (b6:Fnd K "are_ends" (top 16) f6)
  (b7:Fnd K "racks_of" (top 17) f7)
  (b8:Fnd K "left_open" (top 19) f8)
  (b9:Fnd K "in_bits" (top 20) f9)
  (b10:Fnd K "out_bits" (top 21) f10)
  (b11:Fnd K "held_lines" (top 22) f11)
  (b12:Fnd K "are_unlike" (top 23) f12)
  (b13:Fnd K "is_right" (top 24) f13)
  (b14:Fnd K "is_caller" (top 26) f14)
  (b15:Fnd K "is_ends" (top 27) f15)
  (b16:Fnd K "holds_needed" (top 28) f16)
  (b17:Fnd K "holders" (top 29) f17)
  (dl18:K.lookup dv18=some ⟨.type "tuple",Ev,.seq #[.int 0 td18_0] nv18,Ew⟩)
  (a18:nsIn K mainGlobals "ways" = some (some (.ref f18)))(l18:K.lookup f18=some ⟨oc18,EK,.func (fnOf "ways" "ways" (C4 (top 30)) (z9 (top 30)) (i3 (top 30)) (.ref dv18) kV18 dc18 pm18 an18 cd18 ct18),EQ⟩)(c18:codeIn K cd18 "ways" = true)(k18:keepIn K (.ref f18)=true)
  (dl19:K.lookup dv19=some ⟨.type "tuple",Ex,.seq #[.int 0 td19_0] nv19,Ey⟩)
  (a19:nsIn K mainGlobals "least_ended" = some (some (.ref f19)))(l19:K.lookup f19=some ⟨oc19,EL,.func (fnOf "least_ended" "least_ended" (C4 (top 31)) (z9 (top 31)) (i3 (top 31)) (.ref dv19) kV19 dc19 pm19 an19 cd19 ct19),ER⟩)(c19:codeIn K cd19 "least_ended" = true)(k19:keepIn K (.ref f19)=true)
  (b20:Fnd K "call_of" (top 33) f20)
  (b21:Fnd K "holder_of" (top 34) f21)
  (b22:Fnd K "refuse_wrong" (top 35) f22)
  (b23:Fnd K "refuse_busy" (top 36) f23)
  (b24:Fnd K "refuse_engaged" (top 37) f24)
  (b25:Fnd K "with_call" (top 38) f25)
  (b26:Fnd K "refuse_move" (top 47) f26)
  (b27:Fnd K "moved" (top 48) f27)
  (b28:Fnd K "idle_racks" (top 50) f28)
  (b29:Fnd K "room_by_chain" (top 52) f29)
  (dl30:K.lookup dv30=some ⟨.type "tuple",Ez,.seq #[.int 0 td30_0] nv30,EA⟩)
  (a30:nsIn K mainGlobals "room" = some (some (.ref f30)))(l30:K.lookup f30=some ⟨oc30,EM,.func (fnOf "room" "room" (C4 (top 53)) (z9 (top 53)) (i3 (top 53)) (.ref dv30) kV30 dc30 pm30 an30 cd30 ct30),ES⟩)(c30:codeIn K cd30 "room" = true)(k30:keepIn K (.ref f30)=true)
  (dl31:K.lookup dv31=some ⟨.type "tuple",EB,.seq #[.int 0 td31_0] nv31,EC⟩)
  (a31:nsIn K mainGlobals "joined_turning" = some (some (.ref f31)))(l31:K.lookup f31=some ⟨oc31,EN,.func (fnOf "joined_turning" "joined_turning" (C4 (top 54)) (z9 (top 54)) (i3 (top 54)) (.ref dv31) kV31 dc31 pm31 an31 cd31 ct31),ET⟩)(c31:codeIn K cd31 "joined_turning" = true)(k31:keepIn K (.ref f31)=true)
  (b32:Fnd K "_law_cell_at" (top 56) f32)
  (b33:Fnd K "_law_hall" (top 57) f33)
  (b34:Fnd K "_law_ends" (top 58) f34)
  (b35:Fnd K "_law_lines" (top 59) f35)
  (b36:Fnd K "_law_number" (top 60) f36)
  (b37:Fnd K "_law_try" (top 61) f37)
  (b38:Fnd K "_law_calls" (top 62) f38)
  (b39:Fnd K "_law_alike" (top 63) f39)
  (b40:Fnd K "_law_kind" (top 64) f40)
  (b41:Fnd K "_law_holds" (top 65) f41)
  (b42:Fnd K "_law_best" (top 66) f42)
  (b43:Fnd K "_law_busy" (top 67) f43)
  (b44:Fnd K "_law_caller" (top 68) f44)
  (b45:Fnd K "_law_wanted" (top 69) f45)
  (b46:Fnd K "_law_none" (top 70) f46)
  (b47:Fnd K "_law_due" (top 71) f47)
  (b48:Fnd K "_law_paper" (top 72) f48)
  (b49:Fnd K "_law_asked" (top 73) f49)
  (a50:nsIn K mainGlobals "law" = some (some (.ref f50)))(l50:K.lookup f50=some ⟨oc50,EO,.func (fnOf "law" "law" (C4 (top 74)) (z9 (top 74)) (i3 (top 74)) .none kV50 dc50 pm50 an50 cd50 ct50),EU⟩)(c50:codeIn K cd50 "law" = true)(k50:keepIn K (.ref f50)=true)
  (Br:nsIn K mainGlobals "HallError" = some (some (.ref yD)))
  (Cs:nsIn K mainGlobals "NoHall" = some (some (.ref yG)))
  (BS:nsIn K mainGlobals "NoCalls" = some (some (.ref yF)))
  (AU:nsIn K mainGlobals "NoLine" = some (some (.ref yC)))
  (Ct:nsIn K mainGlobals "NoRule" = some (some (.ref yH)))
  (DC:nsIn K mainGlobals "Idle" = some (some (.ref yK)))
  (BJ:nsIn K mainGlobals "Busy" = some (some (.ref yE)))
  (Ap:nsIn K mainGlobals "Engaged" = some (some (.ref my)))
  (Cu:nsIn K mainGlobals "NoMove" = some (some (.ref yI)))
  (yR:isClsIn K yD=true)(yS:typeIn K (.ref yD)=some (.type "type"))
  (zG:isClsIn K yG=true)(zH:typeIn K (.ref yG)=some (.type "type"))
  (zy:isClsIn K yF=true)(zA:typeIn K (.ref yF)=some (.type "type"))
  (zr:isClsIn K yC=true)(zI:typeIn K (.ref yC)=some (.type "type"))
  (zJ:isClsIn K yH=true)(zK:typeIn K (.ref yH)=some (.type "type"))
  (AJ:isClsIn K yK=true)(AK:typeIn K (.ref yK)=some (.type "type"))
  (zR:isClsIn K yE=true)(AL:typeIn K (.ref yE)=some (.type "type"))
  (zp:isClsIn K my=true)(zB:typeIn K (.ref my)=some (.type "type"))
  (zL:isClsIn K yI=true)(zM:typeIn K (.ref yI)=some (.type "type"))
  (Ek:subIn K (.ref yD) (.type "BaseException")=some true)(El:PySem.W.specialIn K (.builtin "object.__class__") "__get__" = some (some (.builtin "getset_descriptor.__get__")))(Em:PySem.W.takesIn K (.builtin "object.__class__")=some true)
  (Cv:PySem.W.excIn K yC [.type "ValueError",.type "Exception",.type "BaseException",.type "object"] "ValueError.__new__" = true)
  (Cw:findIn K (.ref yC) "__getattribute__" = some (some (.builtin "BaseException.__getattribute__")))(Cy:findIn K (.ref yC) "__getattr__" = some none)(Cz:findIn K (.ref yC) "__class__" = some (some (.builtin "object.__class__")))(CA:PySem.W.mroIn K yC (.type "object")=some true)(CC:PySem.W.mroIn K yC (.type "BaseException")=some true)(CD:subIn K (.ref yC) (.type "ValueError")=some true)
  (zj:subIn K (.ref yC) (.ref yD)=some true)
  (Aq:subIn K (.ref yC) (.ref yG)=some false)
  (zY:subIn K (.ref yC) (.ref yF)=some false)
  (yM:subIn K (.ref yC) (.ref yC)=some true)
  (Ar:subIn K (.ref yC) (.ref yH)=some false)
  (Ba:subIn K (.ref yC) (.ref yK)=some false)
  (Bb:subIn K (.ref yC) (.ref yE)=some false)
  (zZ:subIn K (.ref yC) (.ref my)=some false)
  (As:subIn K (.ref yC) (.ref yI)=some false)
  (DD:findIn K (.ref yE) "__setattr__" = some (some (.builtin "object.__setattr__")))
  (BT:findIn K (.ref yE) "who" = some none)
  (DE:findIn K (.ref yE) "__getattribute__" = some (some (.builtin "BaseException.__getattribute__")))(DF:findIn K (.ref yE) "__getattr__" = some none)(DG:findIn K (.ref yE) "__class__" = some (some (.builtin "object.__class__")))(DH:PySem.W.mroIn K yE (.type "object")=some true)(DI:PySem.W.mroIn K yE (.type "BaseException")=some true)(DJ:subIn K (.ref yE) (.type "ValueError")=some true)
  (zq:subIn K (.ref yE) (.ref yD)=some true)
  (Bc:subIn K (.ref yE) (.ref yG)=some false)
  (AM:subIn K (.ref yE) (.ref yF)=some false)
  (Bd:subIn K (.ref yE) (.ref yC)=some false)
  (Be:subIn K (.ref yE) (.ref yH)=some false)
  (BA:subIn K (.ref yE) (.ref yK)=some false)
  (yO:subIn K (.ref yE) (.ref yE)=some true)
  (AN:subIn K (.ref yE) (.ref my)=some false)
  (Bf:subIn K (.ref yE) (.ref yI)=some false)
  (BU:findIn K (.ref my) "__setattr__" = some (some (.builtin "object.__setattr__")))
  (At:findIn K (.ref my) "holds" = some none)
  (Au:findIn K (.ref my) "least" = some none)
  (BV:findIn K (.ref my) "__getattribute__" = some (some (.builtin "BaseException.__getattribute__")))(BW:findIn K (.ref my) "__getattr__" = some none)(BX:findIn K (.ref my) "__class__" = some (some (.builtin "object.__class__")))(BY:PySem.W.mroIn K my (.type "object")=some true)(BZ:PySem.W.mroIn K my (.type "BaseException")=some true)(Ca:subIn K (.ref my) (.type "ValueError")=some true)
  (zd:subIn K (.ref my) (.ref yD)=some true)
  (Aa:subIn K (.ref my) (.ref yG)=some false)
  (zU:subIn K (.ref my) (.ref yF)=some false)
  (Ab:subIn K (.ref my) (.ref yC)=some false)
  (Ac:subIn K (.ref my) (.ref yH)=some false)
  (AO:subIn K (.ref my) (.ref yK)=some false)
  (AQ:subIn K (.ref my) (.ref yE)=some false)
  (yL:subIn K (.ref my) (.ref my)=some true)
  (Ad:subIn K (.ref my) (.ref yI)=some false)
  {odm_Busy___init__ anm_Busy___init__:Option Addr}{slm_Busy___init__:Array (Option Value)}{ocm_Busy___init__ kvm_Busy___init__ dcm_Busy___init__ pmm_Busy___init__ ctm_Busy___init__ zt:Value}
  (zu:findIn K (.ref yE) "__init__" = some (some (.ref yP)))(Av:PySem.W.isFn K (.ref yP)=true)(Aw:K.lookup yP=some ⟨ocm_Busy___init__,odm_Busy___init__,.func (fnOf "__init__" "Busy.__init__" (C4 (J8 (top 7) 0)) (z9 (J8 (top 7) 0)) (i3 (J8 (top 7) 0)) .none kvm_Busy___init__ dcm_Busy___init__ pmm_Busy___init__ anm_Busy___init__ zt ctm_Busy___init__),slm_Busy___init__⟩)(Ax:codeIn K zt "Busy.__init__" = true)(Ay:keepIn K (.ref yP)=true)
  {odm_Engaged___init__ anm_Engaged___init__:Option Addr}{slm_Engaged___init__:Array (Option Value)}{ocm_Engaged___init__ kvm_Engaged___init__ dcm_Engaged___init__ pmm_Engaged___init__ ctm_Engaged___init__ zk:Value}
  (zl:findIn K (.ref my) "__init__" = some (some (.ref yN)))(zN:PySem.W.isFn K (.ref yN)=true)(zO:K.lookup yN=some ⟨ocm_Engaged___init__,odm_Engaged___init__,.func (fnOf "__init__" "Engaged.__init__" (C4 (J8 (top 8) 0)) (z9 (J8 (top 8) 0)) (i3 (J8 (top 8) 0)) .none kvm_Engaged___init__ dcm_Engaged___init__ pmm_Engaged___init__ anm_Engaged___init__ zk ctm_Engaged___init__),slm_Engaged___init__⟩)(zP:codeIn K zk "Engaged.__init__" = true)(zQ:keepIn K (.ref yN)=true)
  (BK:aG K yE yP=true)
  (Az:aG K my yN=true)
  (z_len:nsIn K mainGlobals "len" = some none)(z_isinstance:nsIn K mainGlobals "isinstance" = some none)(z_int:nsIn K mainGlobals "int" = some none)(z_bool:nsIn K mainGlobals "bool" = some none)(z_tuple:nsIn K mainGlobals "tuple" = some none)(z_list:nsIn K mainGlobals "list" = some none)(z_set:nsIn K mainGlobals "set" = some none)(z_sorted:nsIn K mainGlobals "sorted" = some none)(z_divmod:nsIn K mainGlobals "divmod" = some none)(z_range:nsIn K mainGlobals "range" = some none)(z_abs:nsIn K mainGlobals "abs" = some none)(z_min:nsIn K mainGlobals "min" = some none)(z_max:nsIn K mainGlobals "max" = some none)(z_any:nsIn K mainGlobals "any" = some none)(z_all:nsIn K mainGlobals "all" = some none)(z_zip:nsIn K mainGlobals "zip" = some none)(z_str:nsIn K mainGlobals "str" = some none)(z_dict:nsIn K mainGlobals "dict" = some none)(z_ValueError:nsIn K mainGlobals "ValueError" = some none) :
  ∃fd:FuncData,(∀(s:Shared)(v:Value),BindsTo s fd ⟨[v],[]⟩ [("_law_script",v)])/\∀base:Heap,K.In base->base.Ns mainGlobals mg->aL l.prog w K mg base CX0 10 fa fd ["_law_script"] (oN K):=by
 have e:=hfa.symm.trans (PySem.W.mg_of X G a50)
 cases e
 have T:Txt K mg:=⟨PySem.W.mg_none_of X G z_len,PySem.W.mg_none_of X G z_isinstance,PySem.W.mg_none_of X G z_int,PySem.W.mg_none_of X G z_bool,PySem.W.mg_none_of X G z_tuple,PySem.W.mg_none_of X G z_list,PySem.W.mg_none_of X G z_set,PySem.W.mg_none_of X G z_sorted,PySem.W.mg_none_of X G z_divmod,PySem.W.mg_none_of X G z_range,PySem.W.mg_none_of X G z_abs,PySem.W.mg_none_of X G z_min,PySem.W.mg_none_of X G z_max,PySem.W.mg_none_of X G z_any,PySem.W.mg_none_of X G z_all,PySem.W.mg_none_of X G z_zip,PySem.W.mg_none_of X G z_str,PySem.W.mg_none_of X G z_dict,PySem.W.mg_none_of X G z_ValueError⟩;have Z:bo K mg yD yG yF yC yH yK yE my yI:=⟨PySem.W.mg_of X G Br,PySem.W.mg_of X G Cs,PySem.W.mg_of X G BS,PySem.W.mg_of X G AU,PySem.W.mg_of X G Ct,PySem.W.mg_of X G DC,PySem.W.mg_of X G BJ,PySem.W.mg_of X G Ap,PySem.W.mg_of X G Cu,⟨PySem.W.mg_of X G AU,Cv⟩,⟨Cw,Cy,Cz,El,Em,CA,CC,zr⟩,gJ CD,iQ yR yS zj Ek,Z5 yR yS zj,A8 zG zH Aq yM,A8 zy zA zY yM,Z5 zr zI yM,A8 zJ zK Ar yM,A8 AJ AK Ba yM,A8 zR AL Bb yM,A8 zp zB zZ yM,A8 zL zM As yM,⟨_,PySem.W.mg_of X G BJ,BK,zu⟩,oB BK DD,⟨DE,DF,DG,El,Em,DH,DI,zR⟩,gJ DJ,iQ yR yS zq Ek,Z5 yR yS zq,A8 zG zH Bc yO,A8 zy zA AM yO,A8 zr zI Bd yO,A8 zJ zK Be yO,A8 AJ AK BA yO,Z5 zR AL yO,A8 zp zB AN yO,A8 zL zM Bf yO,BT,⟨_,PySem.W.mg_of X G Ap,Az,zl⟩,oB Az BU,⟨BV,BW,BX,El,Em,BY,BZ,zp⟩,gJ Ca,iQ yR yS zd Ek,Z5 yR yS zd,A8 zG zH Aa yL,A8 zy zA zU yL,A8 zr zI Ab yL,A8 zJ zK Ac yL,A8 AJ AK AO yL,A8 zR AL AQ yL,Z5 zp zB yL,A8 zL zM Ad yL,At,Au⟩;have Bg:pR K yE "__init__" "Busy.__init__" (J8 (top 7) 0) ["self","who"] [] noKw:=⟨yP,_,⟨⟨_,_,_,_,_,_,_,_,_,_,rfl,Aw,Ax⟩⟩,⟨zu,Av,Ay⟩,trivial,λm hm=>match m,hm with | 0,_=>⟨[],.nil,.all λus hl=>match us,hl with | [_,_],_=>rfl⟩ | _+1,h=>absurd h (by simp)⟩
 have Ae:pR K my "__init__" "Engaged.__init__" (J8 (top 8) 0) ["self","holds","least"] [] noKw:=⟨yN,_,⟨⟨_,_,_,_,_,_,_,_,_,_,rfl,zO,zP⟩⟩,⟨zl,zN,zQ⟩,trivial,λm hm=>match m,hm with | 0,_=>⟨[],.nil,.all λus hl=>match us,hl with | [_,_,_],_=>rfl⟩ | _+1,h=>absurd h (by simp)⟩
 have CF:Def K mg "is_number" (top 11) ["thing"]:=m7 X G b1 λ_ _ _ _ _ _ us hl=>match us,hl with | [_],_=>rfl
 have Dg:Def K mg "is_whole" (top 12) ["thing","least","most"]:=m7 X G b2 λ_ _ _ _ _ _ us hl=>match us,hl with | [_,_,_],_=>rfl
 have Ed:Def K mg "rises" (top 13) ["numbers"]:=m7 X G b3 λ_ _ _ _ _ _ us hl=>match us,hl with | [_],_=>rfl
 have Dh:Def K mg "place_in" (top 14) ["hall","caller"]:=m7 X G b4 λ_ _ _ _ _ _ us hl=>match us,hl with | [_,_],_=>rfl
 have CG:Def K mg "place_out" (top 15) ["hall","end"]:=m7 X G b5 λ_ _ _ _ _ _ us hl=>match us,hl with | [_,_],_=>rfl
 have Di:Def K mg "are_ends" (top 16) ["hall","things"]:=m7 X G b6 λ_ _ _ _ _ _ us hl=>match us,hl with | [_,_],_=>rfl
 have Dj:Def K mg "racks_of" (top 17) ["hall","ends"]:=m7 X G b7 λ_ _ _ _ _ _ us hl=>match us,hl with | [_,_],_=>rfl
 have CI:Def K mg "left_open" (top 19) ["hall","shut"]:=m7 X G b8 λ_ _ _ _ _ _ us hl=>match us,hl with | [_,_],_=>rfl
 have DK:Def K mg "in_bits" (top 20) ["hall","calls"]:=m7 X G b9 λ_ _ _ _ _ _ us hl=>match us,hl with | [_,_],_=>rfl
 have Dk:Def K mg "out_bits" (top 21) ["hall","calls"]:=m7 X G b10 λ_ _ _ _ _ _ us hl=>match us,hl with | [_,_],_=>rfl
 have Cb:Def K mg "held_lines" (top 22) ["hall","call"]:=m7 X G b11 λ_ _ _ _ _ _ us hl=>match us,hl with | [_,_],_=>rfl
 have AA:Def K mg "are_unlike" (top 23) ["some"]:=m7 X G b12 λ_ _ _ _ _ _ us hl=>match us,hl with | [_],_=>rfl
 have Dl:Def K mg "is_right" (top 24) ["hall","calls"]:=m7 X G b13 λ_ _ _ _ _ _ us hl=>match us,hl with | [_,_],_=>rfl
 have CJ:Def K mg "is_caller" (top 26) ["hall","thing"]:=m7 X G b14 λ_ _ _ _ _ _ us hl=>match us,hl with | [_,_],_=>rfl
 have DL:Def K mg "is_ends" (top 27) ["hall","thing"]:=m7 X G b15 λ_ _ _ _ _ _ us hl=>match us,hl with | [_,_],_=>rfl
 have Bs:Def K mg "holds_needed" (top 28) ["hall","call","start","goals"]:=m7 X G b16 λ_ _ _ _ _ _ us hl=>match us,hl with | [_,_,_,_],_=>rfl
 have DM:Def K mg "holders" (top 29) ["hall","calls","caller","ends"]:=m7 X G b17 λ_ _ _ _ _ _ us hl=>match us,hl with | [_,_,_,_],_=>rfl
 have En:cA K mg "ways" (top 30) ["hall","calls","caller","ends","shut"] [.int 0]:=⟨f18,_,⟨_,_,_,_,_,_,_,_,_,_,rfl,l18,c18⟩,k18,λm hm=>match m,hm with | 0,_=>⟨[.int 0 td18_0],(.cons ⟨_,rfl⟩ .nil),λs us X hl=>match us,(show us.length=4 from by simpa using hl) with | [_,_,_,_],_=>BindsTo.of_defaults rfl (X _ _ dl18) rfl rfl rfl⟩ | 1,_=>⟨[],.nil,λs us X hl=>match us,(show us.length=5 from by simpa using hl) with | [_,_,_,_,_],_=>BindsTo.of_defaults rfl (X _ _ dl18) rfl rfl rfl⟩ | _+2,h=>absurd h (by simp),PySem.W.mg_of X G a18⟩
 have BB:cA K mg "least_ended" (top 31) ["hall","calls","caller","ends","shut"] [.int 0]:=⟨f19,_,⟨_,_,_,_,_,_,_,_,_,_,rfl,l19,c19⟩,k19,λm hm=>match m,hm with | 0,_=>⟨[.int 0 td19_0],(.cons ⟨_,rfl⟩ .nil),λs us X hl=>match us,(show us.length=4 from by simpa using hl) with | [_,_,_,_],_=>BindsTo.of_defaults rfl (X _ _ dl19) rfl rfl rfl⟩ | 1,_=>⟨[],.nil,λs us X hl=>match us,(show us.length=5 from by simpa using hl) with | [_,_,_,_,_],_=>BindsTo.of_defaults rfl (X _ _ dl19) rfl rfl rfl⟩ | _+2,h=>absurd h (by simp),PySem.W.mg_of X G a19⟩
 have DN:Def K mg "call_of" (top 33) ["calls","caller"]:=m7 X G b20 λ_ _ _ _ _ _ us hl=>match us,hl with | [_,_],_=>rfl
 have CK:Def K mg "holder_of" (top 34) ["calls","end"]:=m7 X G b21 λ_ _ _ _ _ _ us hl=>match us,hl with | [_,_],_=>rfl
 have Bt:Def K mg "refuse_wrong" (top 35) ["hall","caller","ends"]:=m7 X G b22 λ_ _ _ _ _ _ us hl=>match us,hl with | [_,_,_],_=>rfl
 have BC:Def K mg "refuse_busy" (top 36) ["calls","caller","ends"]:=m7 X G b23 λ_ _ _ _ _ _ us hl=>match us,hl with | [_,_,_],_=>rfl
 have AR:Def K mg "refuse_engaged" (top 37) ["hall","calls","caller","ends","shut"]:=m7 X G b24 λ_ _ _ _ _ _ us hl=>match us,hl with | [_,_,_,_,_],_=>rfl
 have CL:Def K mg "with_call" (top 38) ["calls","caller","ends","k"]:=m7 X G b25 λ_ _ _ _ _ _ us hl=>match us,hl with | [_,_,_,_],_=>rfl
 have BD:Def K mg "refuse_move" (top 47) ["hall","calls","goals","move"]:=m7 X G b26 λ_ _ _ _ _ _ us hl=>match us,hl with | [_,_,_,_],_=>rfl
 have Ee:Def K mg "moved" (top 48) ["hall","calls","moves"]:=m7 X G b27 λ_ _ _ _ _ _ us hl=>match us,hl with | [_,_,_],_=>rfl
 have Cc:Def K mg "idle_racks" (top 50) ["racks","bits"]:=m7 X G b28 λ_ _ _ _ _ _ us hl=>match us,hl with | [_,_],_=>rfl
 have Bh:Def K mg "room_by_chain" (top 52) ["hall","calls","start","goal","shut"]:=m7 X G b29 λ_ _ _ _ _ _ us hl=>match us,hl with | [_,_,_,_,_],_=>rfl
 have Eo:cA K mg "room" (top 53) ["hall","calls","caller","ends","shut"] [.int 0]:=⟨f30,_,⟨_,_,_,_,_,_,_,_,_,_,rfl,l30,c30⟩,k30,λm hm=>match m,hm with | 0,_=>⟨[.int 0 td30_0],(.cons ⟨_,rfl⟩ .nil),λs us X hl=>match us,(show us.length=4 from by simpa using hl) with | [_,_,_,_],_=>BindsTo.of_defaults rfl (X _ _ dl30) rfl rfl rfl⟩ | 1,_=>⟨[],.nil,λs us X hl=>match us,(show us.length=5 from by simpa using hl) with | [_,_,_,_,_],_=>BindsTo.of_defaults rfl (X _ _ dl30) rfl rfl rfl⟩ | _+2,h=>absurd h (by simp),PySem.W.mg_of X G a30⟩
 have AS:cA K mg "joined_turning" (top 54) ["hall","calls","caller","ends","shut"] [.int 0]:=⟨f31,_,⟨_,_,_,_,_,_,_,_,_,_,rfl,l31,c31⟩,k31,λm hm=>match m,hm with | 0,_=>⟨[.int 0 td31_0],(.cons ⟨_,rfl⟩ .nil),λs us X hl=>match us,(show us.length=4 from by simpa using hl) with | [_,_,_,_],_=>BindsTo.of_defaults rfl (X _ _ dl31) rfl rfl rfl⟩ | 1,_=>⟨[],.nil,λs us X hl=>match us,(show us.length=5 from by simpa using hl) with | [_,_,_,_,_],_=>BindsTo.of_defaults rfl (X _ _ dl31) rfl rfl rfl⟩ | _+2,h=>absurd h (by simp),PySem.W.mg_of X G a31⟩
 have Bu:Def K mg "_law_cell_at" (top 56) ["_law_script","_law_k"]:=m7 X G b32 λ_ _ _ _ _ _ us hl=>match us,hl with | [_,_],_=>rfl
 have CM:Def K mg "_law_hall" (top 57) ["_law_script"]:=m7 X G b33 λ_ _ _ _ _ _ us hl=>match us,hl with | [_],_=>rfl
 have CO:Def K mg "_law_ends" (top 58) ["_law_hall_here","_law_number_here"]:=m7 X G b34 λ_ _ _ _ _ _ us hl=>match us,hl with | [_,_],_=>rfl
 have Cd:Def K mg "_law_lines" (top 59) ["_law_hall_here","_law_caller_here","_law_ends_here","_law_k"]:=m7 X G b35 λ_ _ _ _ _ _ us hl=>match us,hl with | [_,_,_,_],_=>rfl
 have BE:Def K mg "_law_number" (top 60) ["_law_cell","_law_at"]:=m7 X G b36 λ_ _ _ _ _ _ us hl=>match us,hl with | [_,_],_=>rfl
 have Dm:Def K mg "_law_try" (top 61) ["_law_hall_here","_law_taken","_law_number_here"]:=m7 X G b37 λ_ _ _ _ _ _ us hl=>match us,hl with | [_,_,_],_=>rfl
 have Ce:Def K mg "_law_calls" (top 62) ["_law_hall_here","_law_cells"]:=m7 X G b38 λ_ _ _ _ _ _ us hl=>match us,hl with | [_,_],_=>rfl
 have AB:Def K mg "_law_alike" (top 63) ["_law_found","_law_due_here"]:=m7 X G b39 λ_ _ _ _ _ _ us hl=>match us,hl with | [_,_],_=>rfl
 have CP:Def K mg "_law_kind" (top 64) ["_law_e"]:=m7 X G b40 λ_ _ _ _ _ _ us hl=>match us,hl with | [_],_=>rfl
 have Cf:Def K mg "_law_holds" (top 65) ["_law_hall_here","_law_calls_here","_law_caller_here","_law_ends_here"]:=m7 X G b41 λ_ _ _ _ _ _ us hl=>match us,hl with | [_,_,_,_],_=>rfl
 have CQ:Def K mg "_law_best" (top 66) ["_law_hall_here","_law_kept","_law_shut"]:=m7 X G b42 λ_ _ _ _ _ _ us hl=>match us,hl with | [_,_,_],_=>rfl
 have CS:Def K mg "_law_busy" (top 67) ["_law_calls_here","_law_caller_here","_law_ends_here"]:=m7 X G b43 λ_ _ _ _ _ _ us hl=>match us,hl with | [_,_,_],_=>rfl
 have BF:Def K mg "_law_caller" (top 68) ["_law_hall_here","_law_calls_here","_law_number_here"]:=m7 X G b44 λ_ _ _ _ _ _ us hl=>match us,hl with | [_,_,_],_=>rfl
 have BG:Def K mg "_law_wanted" (top 69) ["_law_hall_here","_law_calls_here","_law_number_here"]:=m7 X G b45 λ_ _ _ _ _ _ us hl=>match us,hl with | [_,_,_],_=>rfl
 have CT:Def K mg "_law_none" (top 70) ["_law_hall_here","_law_caller_here","_law_ends_here"]:=m7 X G b46 λ_ _ _ _ _ _ us hl=>match us,hl with | [_,_,_],_=>rfl
 have Do:Def K mg "_law_due" (top 71) ["_law_hall_here","_law_calls_here","_law_caller_here","_law_ends_here","_law_shut"]:=m7 X G b47 λ_ _ _ _ _ _ us hl=>match us,hl with | [_,_,_,_,_],_=>rfl
 have Cg:Def K mg "_law_paper" (top 72) ["_law_e","_law_due_here"]:=m7 X G b48 λ_ _ _ _ _ _ us hl=>match us,hl with | [_,_],_=>rfl
 have Ch:Def K mg "_law_asked" (top 73) ["_law_hall_here","_law_calls_here","_law_number_here"]:=m7 X G b49 λ_ _ _ _ _ _ us hl=>match us,hl with | [_,_,_],_=>rfl
 have F:=ss (st:=top 74) l50 c50 k50;refine⟨fnOf "law" "law" (C4 (top 74)) (z9 (top 74)) (i3 (top 74)) .none kV50 dc50 pm50 an50 cd50 ct50,λs v=>.of_eq rfl,λbase _ _=>?_⟩;have Ep:=tS (P:=l.prog) (w:=w) (base:=base) T Bu;have Ds:=qX (P:=l.prog) (w:=w) (base:=base) T Cd;have DS:=tQ (P:=l.prog) (w:=w) (base:=base) T CO;have Eh:=pP (P:=l.prog) (w:=w) (base:=base) T BE;have DT:=jy (P:=l.prog) (w:=w) (base:=base) T Dh;have DU:=rW (P:=l.prog) (w:=w) (base:=base) T (gy T CG) Dj;have Dp:=mr T DT DU (pL T DT DU Bs) DM;have Dq:=tT (P:=l.prog) (w:=w) (base:=base) T CI;have Ef:=rF T Dp Dq BB;have DV:=hW (P:=l.prog) (w:=w) (base:=base) T CF;have DW:=jZ T DV Dg;have ED:=mB T (ki T DW Di) (pQ T AA) DL;have EE:=lT T DV DN;have EV:=ix T DV CK;have EW:=sZ T Z (iC T DW CJ) ED Bt;have EX:=lJ T Z EE EV (tF T Z Bg) BC;have EY:=pS T Z Dp Ef (uI T Z Ae) AR;have Eg:=kd (P:=l.prog) (w:=w) (base:=base) T (sQ T DT DU Cb) (pr T Ed) (mT T AA) Dl;have EZ:=pN (P:=l.prog) (w:=w) (base:=base) T EE DW BD;have Fa:=sj (P:=l.prog) (w:=w) (base:=base) T EZ Eg Ee;have Fb:=kL (P:=l.prog) (w:=w) (base:=base) T Dq (ng T DT DK) (jJ T DU Dk) (vf T Cc) Bh;have EF:=qo T Z (uW T Dp Dq En) DU DT Fb EY Eo;have Fc:=ug T Z EW EX EF Fa (uE T CL) AS;have EG:=tI T (uw T CT) (qZ T CS) (oY T Ds Cf) (uD T CQ) Do;have EH:=sO (P:=l.prog) (w:=w) (base:=base) T Z (uf T Z CP) (cP T AB 2) Cg;have EI:=lB T Z (mK T BF) (qF T DS BG) EG Fc (cP T AB 4) EH Ch;exact wE T (uc T Ep CM) (sv T Eh (wa T DS Ds Dm) Ce) Eh EI F
end
def walk {l:PySem.W.OpenLaw}{q:Program}{loose:List Str}{XP:(Str->Option Value)->Heap->Prop}{YP:World->Heap->Prop}{d:DefRec}{K:Params->Frag}(hn:l.most=some 63)(hdf:d.params.defaults=[])
  (hY:∀(w:World)(h:Heap),YP w h->(K w.params).In h)
  (F:∀(w:World)(mg:Str->Option Value)(fa:Addr)(h:Heap),(K w.params).In h->h.Ns mainGlobals mg->mg d.name=some (.ref fa) ->
   ∃fd:FuncData,(∀(s:Shared)(u:Value),BindsTo s fd ⟨[u],[]⟩ [("_law_script",u)])/\∀base:Heap,(K w.params).In base->base.Ns mainGlobals mg->aL l.prog w (K w.params) mg base CX0 10 fa fd ["_law_script"] (oN (K w.params))) :
  PySem.W.WalkO q loose XP YP l.row.toRowW d [] (λf vs=>PySem.call f vs) :=
 L2.vk (n:=63) (k:=10) (x:="_law_script") (CX:=λ_=>CX0) (sp:=λw=>oN (K w.params)) hn (by decide) hdf ⟨rfl,by decide,by decide⟩ hY F (λ_ _ a ns hl _ hS=>⟨a,ns,rfl,hS,hl,λ_=>rfl⟩) λ_ _ _ _ _ z=>z
end My
open PySem PySem.W PyProof.Rows
set_option maxRecDepth 100000 in
set_option maxHeartbeats 0 in
theorem PySem.Challenge.cw_crossracks_k36_turning_refused_holds : PySem.Challenge.rw_crossracks_k36_turning_refused.Holds := by
 w_on;o_law;k_head;(case hw=>w_witness2)
 k_fill
 refine My.walk (l:=PySem.Challenge.rw_crossracks_k36_turning_refused) rfl rfl (fun w h Y=>PySem.W.kIn_of Y) ?F
 case F =>
  intro w mg fa h KX G hmg
  refine' My.vZ KX G hmg _ _ _ _ _ _ _ _ _ _ _ _ _ _ _ _ _ ?dl18 ?a18 ?l18 ?c18 ?k18 ?dl19 ?a19 ?l19 ?c19 ?k19 _ _ _ _ _ _ _ _ _ _ ?dl30 ?a30 ?l30 ?c30 ?k30 ?dl31 ?a31 ?l31 ?c31 ?k31 _ _ _ _ _ _ _ _ _ _ _ _ _ _ _ _ _ _ ?a50 ?l50 ?c50 ?k50   _ _ _ _ _ _ _ _ _ _ _ _ _ _ _ _ _ _ _ _ _ _ _ _ _ _ _ _ _ _ _ _ _ _ _ _ _ _ _ _ _ _ _ _ _ _ _ _ _ _ _ _ _ _ _ _ _ _ _ _ _ _ _ _ _ _ _ _ _ _ _ _ _ _ _ _ _ _ _ _ _ _ _ _ _ _ _ _ _ _ _ _ _ _ _ _ _ _ _ _ _ _ _ _ _ _ _ _ _ _ _ _
  (case a18=>k_is);(case l18=>k_is);(case dl18=>k_is);(case c18=>k_is);(case k18=>k_is)
  (case a19=>k_is);(case l19=>k_is);(case dl19=>k_is);(case c19=>k_is);(case k19=>k_is)
  (case a30=>k_is);(case l30=>k_is);(case dl30=>k_is);(case c30=>k_is);(case k30=>k_is)
  (case a31=>k_is);(case l31=>k_is);(case dl31=>k_is);(case c31=>k_is);(case k31=>k_is)
  (case a50=>k_is);(case l50=>k_is);(case c50=>k_is);(case k50=>k_is)
  any_goals (refine' My.vO _ _ _ _;any_goals k_is)
  any_goals k_is
  all_goals try k_is
  all_goals try k_exc
  all_goals try kernel_rfl
