import PyProof.Rows.All
import Wide.All
import OpenK.AllK
import Wide.FinOn
import Lean
import PyProof.EqAt
import PyProof.EqKinds
import PyProof.TupleCall
import PySem.SetOps
import PyProof.SetKind
import PyProof.CollectWalk
import PyProof.FactsAll.set
import PyProof.ForAny
import PyProof.Rows.SortWalk
import PyProof.Rows.SetFrom
import KE.KSortAsk
import KE.KSortTup
import KE.KDictList
import KE.KMinBuiltin
import PyProof.EnumMake
import PyProof.NsDelKeeps
import PyProof.ExcInit
import PyProof.ExcClass2
import PyProof.WalksMore
import PyProof.TupleOfSeq
import PyProof.TupleKey
import PyProof.IsRules
import KE.KRevIter
import PyProof.AttrMissHeap
import KE.KDictOf
import PyProof.Rows.MinMaxN
import PySem.Challenge.RW_crossracks_k34_room
set_option Elab.async false
set_option linter.all false
set_option maxRecDepth 100000
open PySem.W (Frag kitOne findIn keepIn nsIn codeIn fnOf subIn exmOne typeIn clsIn isClsIn)
open List (filterMap_cons mem_cons_self mem_cons_of_mem mem_append_left mem_append_right size_toArray length_cons length_nil append_nil length_take take_sublist length_append length_map map_nil map_cons length_drop all_cons any_cons replicate_succ flatten_cons foldl_cons length_singleton cons_append nodup_nil lookup_cons mem_singleton all_eq_true getElem_of_mem getElem_mem any_eq_true ext_getElem mem_cons not_mem_nil pairwise_append pairwise_cons eq_nil_of_length_eq_zero getElem_map nodup_append ext_getElem? map_congr_left mem_of_find?_eq_some pairwise_map length_range range_succ take_succ take_length mem_map_of_mem mem_append map_append foldl_append mem_map length_filter_le filter_append pairwise_singleton take_zero)
open PySem PySem.Spec PyProof.Rows in
def w_:type_of% @wpAny_bind:=@wpAny_bind
open PySem PySem.Spec PyProof.Rows in
def u_:type_of% @wpAny_pure:=@wpAny_pure
def a_:=@Sum.inl.inj
def b_:=@decide_eq_false
def c_:=@beq_eq_false_iff_ne
def d_:=@PySem.Paired.length
def e_:=@Option.some.inj
def f_:=@PySem.Heap.lt_size
def ff:=@Nat.lt_of_lt_of_le
def g_:=@Nat.lt_irrefl
def h_:=@Nat.ne_of_lt
def i_:=@List.mem_filter
def j_:=@List.mem_range
def k_:=@Nat.le_trans
def l_:=@Nat.le_of_lt
def m_:=@List.filterMap_cons
def n_:=@List.mem_cons_self
def o_:=@List.mem_cons_of_mem
def on:=@PySem.Heap.get?_none_of_le
def p_:=@List.mem_cons
def q_:=@List.mem_append
def r_:=@List.mem_append_left
def s_:=@List.getElem?_eq_some_iff
def t_:=@List.getElem?_set_self
def v_:=@List.getElem?_set_ne
def x_:=@PySem.wpAny_mono
def y_:=@PySem.wpAny_truthy_bool
def A_:=@Array.length_toList
def B_:=@congrArg
def C_:=@PySem.wpAny_execs_nil
def D_:=@PySem.wpAny_holding
def E_:=@PySem.wpAny_standAt
def Eh:=@PySem.wpAny_passesOwn
def Ei:=@Bool.false_ne_true
def Ej:=@Nat.ne_of_gt
def Ek:=@Bool.false_and
def El:=@PySem.wpAny_pyIter_list
def Em:=@PySem.Heap.get?_push_of_some
def En:=@PySem.Heap.get?_push_size
def Eo:=@Nat.le_refl
def Ep:=@PyProof.Rows.callWith_type1
def Er:=@List.mem_filterMap
def Es:=@List.mem_append_right
def Et:=@Nat.zero_le
def Eu:=@Int.natCast_nonneg
def Ev:=@Int.fdiv_eq_ediv_of_nonneg
def Ew:=@Bool.eq_iff_iff
def Ex:=@PySem.sizeLine_eq
def Ey:=@List.size_toArray
def Ez:=@List.length_cons
def EA:=@List.length_nil
def EB:=@Array.mem_toList_iff
def EC:=@PySem.W.kia_one
def ED:=@True.intro
def EE:=@PySem.W.kitx_list
def EF:=@PySem.W.kitx_dict
def EG:=@PySem.Calls.spliced_cons
def EH:=@List.append_nil
def EI:=@PySem.wpAny_call
def EJ:=@PySem.codeAny_mono
def EK:=@PySem.wpAny_Call_Name_kw
def EL:=@List.nodup_cons
def EM:=@List.length_take
def EN:=@PySem.mem_of_lookup
def EO:=@List.getElem?_append_right
def EQ:=@List.getElem?_append_left
def ER:=@List.getElem?_map
def ES:=@List.take_sublist
def ET:=@List.mem_of_getElem?
def EU:=@List.length_append
def EV:=@List.length_map
def EW:=@Int.toNat_natCast
def EX:=@List.map_cons
def EY:=@PySem.Heap.get?_update_self
def EZ:=@PySem.Heap.get?_update_other
def F_:=@if_true
def Fa:=@if_false
def Fb:=@PySem.SeqAt.EqAt.same
def Fc:=@PySem.SeqAt.EqAt.int_int
def Fd:=@Bool.and_eq_true
def Fe:=@PySem.Calls.callWith_builtin
def Ff:=@PySem.Calls.evalArgs_plain
def Fg:=@List.replicate_succ
def Fh:=@List.append_assoc
def Fi:=@PySem.call_meets
def Fj:=@List.length_singleton
def Fk:=@Bool.and_false
def Fl:=@Nat.mul_comm
def Fm:=@decide_eq_true
def Fn:=@List.Pairwise.nil
def Fo:=@Nat.lt_of_le_of_lt
def Fp:=@List.find?_cons
def Fq:=@Option.map_some
def Fr:=@PySem.Paired.snoc
def Fs:=@Nat.lt_trans
def Ft:=@PySem.tupleKind_room_in1
def Fu:=@List.nodup_nil
def Fv:=@PySem.F.slot_dict_get
def Fw:=@PySem.F.entry_dict_get
def Fx:=@List.mem_singleton
def Fy:=@Bool.false_eq_true
def Fz:=@List.lookup_cons
def FA:=@beq_self_eq_true
def FB:=@PySem.Heap.size_push
def FC:=@PySem.wpAny_newObj_type
def FD:=@Nat.lt_succ_self
def FE:=@Nat.le_succ
def FF:=@List.all_eq_true
def FG:=@List.getElem_of_mem
def FH:=@List.any_eq_true
def FI:=@PySem.Walks.list
def FJ:=@decide_eq_true_iff
def FK:=@List.ext_getElem
def FL:=@PySem.SeqAt.RcAt.lists
def FM:=@PySem.SeqAt.RcAt.lists_lengths
def FN:=@List.not_mem_nil
def FO:=@or_false
def FP:=@Nat.le_add_right
def FQ:=@Nat.lt_or_eq_of_le
def FR:=@List.pairwise_iff_getElem
def FS:=@Array.getElem_toList
def FT:=@Array.getD_eq_getD_getElem?
def FU:=@Array.getElem?_eq_getElem
def FV:=@Option.getD_some
def FW:=@List.pairwise_append
def FX:=@List.pairwise_cons
def FY:=@List.pairwise_lt_range
def FZ:=@List.Perm.refl
def G_:=@List.eq_nil_of_length_eq_zero
def Ga:=@Nat.mod_lt
def Gb:=@List.getElem?_eq_getElem
def Gc:=@PySem.Heap.SameBut.update
def Gd:=@PySem.wpAny_storeSet_of
def Ge:=@PySem.wpAny_rule
def Gf:=@PySem.wpAny_setState_of
def Gg:=@bne_self_eq_false
def Gh:=@Bool.not_true
def Gi:=@PySem.wpAny_attempt
def Gj:=@PySem.wpAny_callSpecial?_slot
def Gk:=@PySem.wpAny_call_entry
def Gm:=@PySem.wpAny_setField_rec
def Gn:=@PySem.wpAny_seqItems
def Go:=@List.getElem?_eq_none
def Gp:=@Nat.lt_succ_of_lt
def Gq:=@Bool.eq_false_iff
def Gr:=@Array.getElem?_toList
def Gs:=@beq_iff_eq
def Gu:=@PySem.wpAny_typeOf
def Gv:=@PySem.wpAny_runValue
def Gw:=@PySem.codeAny_builtin
def Gx:=@PySem.Around.under_plainId
def Gy:=@PySem.plainId_quiet
def Gz:=@PySem.F.plain_list_iadd
def GB:=@PySem.wpAny_updateSeq
def GC:=@PySem.Calls.call_function_entry
def GD:=@PySem.wpAny_newList
def GE:=@PyProof.Rows.F.entry_set_update_loop
def GF:=@PyProof.Rows.F.plain_set_update_loop
def GG:=@PySem.codeAny_of_tree
def GH:=@PySem.Code.quiet_builtin
def GI:=@PySem.F.entry_type_call
def GJ:=@PySem.weight_type_call_type
def GK:=@PySem.F.typeCall_set_1
def GL:=@PySem.codeAny_call_builtin
def GM:=@PySem.F.entry_set_init
def GN:=@Int.le_refl
def GO:=@Nat.le_of_lt_succ
def GP:=@Array.Perm.refl
def GQ:=@Array.Perm.mem_iff
def GR:=@List.nodup_append
def GS:=@List.ext_getElem?
def GT:=@of_decide_eq_true
def GU:=@PyProof.Rows.get?_update_seq
def GV:=@List.map_map
def GW:=@List.map_congr_left
def GX:=@List.mem_map
def GY:=@List.getElem?_of_mem
def GZ:=@PySem.F.plain_min_loop
def H_:=@PySem.wpAny_tryCatch
def Ha:=@List.length_eq_zero_iff
def Hb:=@PySem.W.looks_findIn
def Hc:=@PySem.W.looks_mroIn
def Hd:=@Array.getElem?_eq_some_iff
def He:=@PySem.wpAny_loadPart_at
def Hf:=@PySem.Within.cons
def Hg:=@Option.map_eq_some_iff
def Hi:=@Nat.pow_succ
def Hj:=@Nat.mul_assoc
def Hk:=@Nat.mod_eq_of_lt
def Hl:=@Nat.div_div_eq_div_mul
def Hm:=@Nat.succ_pos
def Hn:=@Nat.not_lt_zero
def Ho:=@Int.emod_nonneg
def Hq:=@Int.emod_lt_of_pos
def Hr:=@Nat.lt_trichotomy
def Hs:=@PySem.SetTable.insertAt_perm
def Ht:=@List.find?_some
def Hu:=@List.mem_of_find?_eq_some
def Hv:=@List.find?_eq_none
def Hw:=@List.pairwise_map
def Hx:=@List.length_range
def Hy:=@List.Pairwise.imp_of_mem
def Hz:=@List.range_succ
def HA:=@List.take_succ
def HB:=@List.take_length
def HC:=@Bool.true_and
def HD:=@Classical.byContradiction
def HE:=@List.map_append
def HF:=@PySem.boot_len
def HG:=@of_decide_eq_false
def HI:=@PySem.PassesOwn.never
def HJ:=@PySem.F.plainAttrs_list
def HK:=@PySem.F.slot_list_append
def HL:=@PySem.F.type_list_append
def HM:=@PyProof.Rows.boot_tuple
def HN:=@Int.zero_add
def HP:=@PyProof.Rows.boot_sorted
def HQ:=@List.length_filter_le
def HR:=@List.filter_append
def HS:=@List.filter_eq_nil_iff
def HU:=@List.pairwise_singleton
def HV:=@PyProof.Rows.boot_isinstance
def HW:=@PyProof.Rows.boot_list
def HX:=@List.mem_iff_getElem?
def HY:=@List.take_zero
def HZ:=@List.exists_mem_of_ne_nil
def I_:=@List.getElem?_range
def Ia:=@Bool.and_eq_true_iff
def Ib:=@Nat.testBit_eq_decide_div_mod_eq
def Ic:=@Int.ediv_nonneg
def Ie:=@Int.ediv_lt_of_lt_mul
def Ig:=@List.map_eq_nil_iff
def Ih:=@PySem.W.mg_of
def Ii:=@PySem.W.mg_none_of
def Ij:=@PySem.BindsTo.of_defaults
def Ik:=@if_pos
def Il:=@if_neg
def Im:=@Ne.symm
theorem Iu {α:Sort u}{a:α}:a=a:=rfl
namespace L2
open PySem PySem.Spec PyProof.Rows
abbrev Key:=Sum Int Str
def iu:Key->Value->Bool
 | .inl k,v=>Value.isInt k v
 | .inr x,v=>Value.isStrOf x v
def zC (w:World):Key->Int
 | .inl k=>hashInt k
 | .inr x=>hashStr w x
theorem D5:∀{k:Key}{v:Value},iu k v=true->(∃i t,k=Sum.inl i/\v=Value.int i t)\/(∃x t,k=Sum.inr x/\v=Value.str x t)
 | .inl i,v,h=>by
  obtain⟨t,e⟩:=Value.isInt_shape (k:=i) (v:=v) h;exact .inl ⟨i,t,Iu,e⟩
 | .inr x,v,h=>by
  obtain⟨t,e⟩:=Value.isStrOf_shape (x:=x) (v:=v) h;exact .inr ⟨x,t,Iu,e⟩
def qB (i:Int)(t:Tok):iu (.inl i) (.int i t)=true:=by simp[iu,Value.isInt]
def rH (x:Str)(t:Tok):iu (.inr x) (.str x t)=true:=by simp[iu,Value.isStrOf]
def xQ (a b:Int):decide ((Sum.inl a:Key)=Sum.inl b)=(a==b):=by
 by_cases e:a=b
 ·subst e;simp
 ·have h:¬(Sum.inl a:Key)=Sum.inl b:=λq=>e (a_ q)
  rw[b_ h];exact(c_.mpr e).symm
def xS (a b:Str):decide ((Sum.inr a:Key)=Sum.inr b)=decide (a=b):=by
 by_cases e:a=b
 ·subst e;simp
 ·have h:¬(Sum.inr a:Key)=Sum.inr b:=λq=>e (Sum.inr.inj q)
  rw[b_ h,b_ e]
def wW (a:Int)(b:Str):decide ((Sum.inl a:Key)=Sum.inr b)=false:=b_ (λq=>nomatch q)
def xc (a:Str)(b:Int):decide ((Sum.inr a:Key)=Sum.inl b)=false:=b_ (λq=>nomatch q)
def z8 (prog:Program)(w:World):PySem.KeyKind prog w Key where
 is:=iu
 hash:=zC w
 inj:=λv a b ha hb=>by
  rcases D5 ha with⟨i,t,rfl,rfl⟩|⟨x,t,rfl,rfl⟩
  ·rcases D5 hb with⟨j,u,rfl,e⟩|⟨y,u,rfl,e⟩
   ·injection e with e1 _;rw[e1]
   ·exact nomatch e
  ·rcases D5 hb with⟨j,u,rfl,e⟩|⟨y,u,rfl,e⟩
   ·exact nomatch e
   ·injection e with e1 _;rw[e1]
 byValue:=λk v h=>by
  rcases D5 h with⟨i,t,rfl,rfl⟩|⟨x,t,rfl,rfl⟩<;>rfl
 pyHash:=λhv h=>by
  rcases D5 hv with⟨i,t,rfl,rfl⟩|⟨x,t,rfl,rfl⟩
  ·exact wpAny_pyHash_int h
  ·exact wpAny_pyHash_str h
 eqBool:=λhu hv h=>by
  rcases D5 hu with⟨i,t,rfl,rfl⟩|⟨x,t,rfl,rfl⟩
  ·rcases D5 hv with⟨j,u,rfl,rfl⟩|⟨y,u,rfl,rfl⟩
   ·rw[xQ] at h;exact wpAny_eqBool_int h
   ·rw[wW] at h;exact SeqAt.EqAt.int_str i t y u _ _ _ _ h
  ·rcases D5 hv with⟨j,u,rfl,rfl⟩|⟨y,u,rfl,rfl⟩
   ·rw[xc] at h;exact SeqAt.EqAt.str_int x t j u _ _ _ _ h
   ·rw[xS] at h;exact wpAny_eqBool_str h
 «strs»:=λk x t v h=>by
  rcases D5 h with⟨i,u,rfl,e⟩|⟨y,u,rfl,e⟩
  ·exact nomatch e
  ·injection e with e1 _
   subst e1
   cases v<;>rfl
def jQ (prog:Program)(w:World)(i:Int)(t:Tok):(z8 prog w).is (.inl i) (.int i t)=true:=qB i t
def ku (prog:Program)(w:World)(x:Str)(t:Tok):(z8 prog w).is (.inr x) (.str x t)=true:=rH x t
inductive V where
 | non | bl (b:Bool) | int (i:Int) | str (x:Str) | byt (b:Array UInt8) | flt (b:UInt64) | ref (a:Addr) | ty (n:String)
 deriving DecidableEq
def u9:V->Value->Prop
 | .non,u=>u=Value.none
 | .bl b,u=>u=Value.bool b
 | .int i,u=>∃t,u=Value.int i t
 | .str x,u=>∃t,u=Value.str x t
 | .byt b,u=>∃t,u=Value.bytes b t
 | .flt b,u=>∃t,u=Value.float b t
 | .ref a,u=>u=Value.ref a
 | .ty n,u=>u=Value.type n
abbrev o6:List V->List Value->Prop:=Paired u9
theorem o6.length (r:o6 xs us):xs.length=us.length:=d_ r
theorem o6.get:∀{xs:List V}{us:List Value}{i:Nat}{x:V},o6 xs us->xs[i]? = some x->∃u,us[i]? = some u/\u9 x u
 | _,_,_,_,.nil,e=>by simp at e
 | _,_,0,_,.cons r _,e=>by simp at e;subst e;exact⟨_,Iu,r⟩
 | _,_,i+1,x,.cons _ t,e=>by
  obtain⟨u,h1,h2⟩:=o6.get (i:=i) (x:=x) t (by simpa using e)
  exact⟨u,by simpa using h1,h2⟩
theorem o6.set (r:u9 x u):∀{xs:List V}{us:List Value}(i:Nat),o6 xs us->o6 (xs.set i x) (us.set i u)
 | _,_,_,.nil=>.nil
 | _,_,0,.cons _ t=>.cons r t
 | _,_,i+1,.cons q t=>.cons q (o6.set r i t)
theorem o6.append:∀{xs ys:List V}{us ws:List Value},o6 xs us->o6 ys ws->o6 (xs++ys) (us++ws)
 | _,_,_,_,.nil,s=>s
 | _,_,_,_,.cons r t,s=>.cons r (o6.append t s)
theorem o6.take:∀{xs:List V}{us:List Value}(n:Nat),o6 xs us->o6 (xs.take n) (us.take n)
 | _,_,0,_=>.nil
 | _,_,_+1,.nil=>.nil
 | _,_,n+1,.cons r t=>.cons r (o6.take n t)
theorem o6.drop:∀{xs:List V}{us:List Value}(n:Nat),o6 xs us->o6 (xs.drop n) (us.drop n)
 | _,_,0,r=>r
 | _,_,_+1,.nil=>.nil
 | _,_,n+1,.cons _ t=>o6.drop n t
def cj:Option V->Option Value->Prop
 | some v,some u=>u9 v u
 | none,none=>True
 | _,_=>False
def KV {κ:Type}:List (κ×V)->List (κ×Value)->Prop:=Paired λ(p:κ×V) (q:κ×Value)=>p.1=q.1/\u9 p.2 q.2
def kV:Key->V
 | .inl i=>.int i
 | .inr x=>.str x
inductive HO where
  | lst (xs:List V)
  | tup (xs:List V)
  | dK (kvs:List (Key×V)) | dT (kvs:List (List Key×V))
  | set (S:Int->Bool) (n:Nat)
  | ins (C dx:Addr) (fs:List (Str×V))
  | own (x:Addr)
  | xd (fs:List (Str×V))
  | met (f x:Addr)
  | rng (lo hi:Int)
  | frz (o:Obj) (u:HO)
  | tbl (ps:Array Value)
  | ext (φ:Heap->Prop)
abbrev Hp:=Addr->Option HO
def upd (H:Hp)(a:Addr)(o:HO):Hp:=λb=>if b=a then some o else H b
def c9 {H:Hp}{a:Addr}{o:HO}:upd H a o a=some o:=by unfold upd;rw[Ik rfl]
def j9 (h:b≠a):upd H a o b=H b:=by unfold upd;rw[Il h]
def yd {H:Hp}(h:H a=some o)(h':H b=some u)(d:o≠u):a≠b:=by
 intro e;subst e;rw[h] at h';exact d (e_ h')
def n5 {H:Hp}(h:H a=some o)(h':H b=none):a≠b:=by
 intro e;subst e;rw[h] at h';cases h'
section
variable (P:Program)(w:World)
def u6 (H:Hp)(h:Heap)(a:Addr):HO->Prop
 | .lst xs=>xs.length<=sizeLine/\∃(its:List Value)(n:Nat),o6 xs its/\h.get? a=some { cls:=.type "list",data:=.seq its.toArray n }
 | .tup xs=>xs.length<=sizeLine/\∃its:List Value,o6 xs its/\IsTup h a its.toArray
 | .dK kvs=>kvs.length<=sizeLine/\(a==sysModules)=false/\∃vs,KV kvs vs/\h.DictOf (z8 P w) a vs
 | .dT kvs=>kvs.length<=sizeLine/\(a==sysModules)=false/\∃xs:List (List Key×Addr×Value),
   Paired (λ(p:List Key×V) (q:List Key×Addr×Value)=>p.1=q.1/\H q.2.1=some (.tup (p.1.map kV))/\u9 p.2 q.2.2) kvs xs /\
   ∃o es ep,h.get? a=some o/\o.ExactDict/\o.data=.dict es ep/\es.toList=xs.map (entryOfKey (tupleKind (z8 P w)))/\(xs.map (·.1)).Nodup
 | .set S n=>h.SetOf (intKind P w) a S n
 | .ins C dx fs=>H dx=some (.own a)/\fs.length<=1000/\dx≠a/\h.get? a=some (PySem.W.instObj C dx) /\
   ∃mA,h.Ns1 dx mA/\(∀f,cj (fs.lookup f) (mA f))/\PySem.Within mA (fs.map (·.1))
 | .own _=>∃o,h.get? a=some o
 | .xd fs=>∃mA,h.Ns1 a mA/\∀f,cj (fs.lookup f) (mA f)
 | .rng lo hi=>∃t u v,h.get? a=some { cls:=.type "range",data:=.fields #[.int lo t,.int hi u,.int 1 v] }
 | .frz o u=>h.get? a=some o/\u6 H h a u
 | .tbl ps=>h.get? a=some { cls:=.none,data:=.fields ps }
 | .met f x=>h.get? a=some (PySem.W.methodObj (.ref f) (.ref x))
 | .ext φ=>φ h/\(∃o,h.get? a=some o)/\∀h1 h2:Heap,φ h1->(∀o,h1.get? a=some o->h2.get? a=some o)->φ h2
def HOk (H:Hp)(h:Heap):Prop:=∀a o,H a=some o->u6 P w H h a o
end
theorem u6.lt (x:u6 P w H h a o):a<h.objs.size:=by
 cases o with
 | lst xs=>obtain⟨_,_,_,_,e⟩:=x;exact f_ e
 | tup xs=>obtain⟨_,_,_,p⟩:=x;exact p.lt
 | dK kvs=>obtain⟨_,_,_,_,o,_,_,e,_⟩:=x;exact f_ e
 | dT kvs=>obtain⟨_,_,_,_,o,_,_,e,_⟩:=x;exact f_ e
 | set S n=>obtain⟨o,_,_,_,e,_⟩:=x;exact f_ e
 | ins C dx fs=>obtain⟨_,_,_,e,_⟩:=x;exact f_ e
 | own y=>obtain⟨_,e⟩:=x;exact f_ e
 | xd fs=>obtain⟨_,⟨_,_,_,e,_⟩,_⟩:=x;exact f_ e
 | rng lo hi=>obtain⟨_,_,_,e⟩:=x;exact f_ e
 | frz ob u=>obtain⟨e,_⟩:=x;exact f_ e
 | tbl ps=>exact f_ (show h.get? a=some _ from x)
 | met f y=>exact f_ (show h.get? a=some _ from x)
 | ext φ=>obtain⟨_,⟨_,e⟩,_⟩:=x;exact f_ e
theorem Paired.mapP {α β:Type}{F G:α->β->Prop}:∀{l₁:List α}{l₂:List β},Paired F l₁ l₂->(∀a b,F a b->G a b)->Paired G l₁ l₂
 | _,_,.nil,_=>.nil
 | _,_,.cons r t,f=>.cons (f _ _ r) (Paired.mapP t f)
theorem u6.stay {H H':Hp}{h h':Heap}(x:u6 P w H h a o)(k:∀b u,(b=a\/H b=some (.own a))->h.get? b=some u->h'.get? b=some u)
  (ho:∀b,H b=some (.own a)->H' b=some (.own a))(ht:∀b xs,H b=some (.tup xs)->H' b=some (.tup xs)):u6 P w H' h' a o:=by
 induction o with
 | lst xs=>obtain⟨z,its,n,r,e⟩:=x;exact⟨z,its,n,r,k _ _ (.inl rfl) e⟩
 | tup xs=>obtain⟨z,its,r,ob,e,c⟩:=x;exact⟨z,its,r,ob,k _ _ (.inl rfl) e,c⟩
 | dK kvs=>obtain⟨z,y,vs,r,ob,es,ep,e,c⟩:=x;exact⟨z,y,vs,r,ob,es,ep,k _ _ (.inl rfl) e,c⟩
 | dT kvs =>
  obtain⟨z,y,xs,r,ob,es,ep,e,c⟩:=x;exact⟨z,y,xs,Paired.mapP r λp q z=>⟨z.1,ht _ _ z.2.1,z.2.2⟩,ob,es,ep,k _ _ (.inl rfl) e,c⟩
 | set S n=>obtain⟨ob,es,ep,t,e,c⟩:=x;exact⟨ob,es,ep,t,k _ _ (.inl rfl) e,c⟩
 | ins C dx fs =>
  obtain⟨d,z,ne,e,mA,⟨od,es,ep,e2,c⟩,r⟩:=x;exact⟨ho _ d,z,ne,k _ _ (.inl rfl) e,mA,⟨od,es,ep,k _ _ (.inr d) e2,c⟩,r⟩
 | own y=>obtain⟨ob,e⟩:=x;exact⟨ob,k _ _ (.inl rfl) e⟩
 | xd fs=>obtain⟨mA,⟨od,es,ep,e,c⟩,r⟩:=x;exact⟨mA,⟨od,es,ep,k _ _ (.inl rfl) e,c⟩,r⟩
 | rng lo hi=>obtain⟨t,u,v,e⟩:=x;exact⟨t,u,v,k _ _ (.inl rfl) e⟩
 | frz ob u ih=>obtain⟨e,q⟩:=x;exact⟨k _ _ (.inl rfl) e,ih q⟩
 | tbl ps =>
  have e:h.get? a=some { cls:=.none,data:=.fields ps }:=x
  show h'.get? a=some { cls:=.none,data:=.fields ps }
  exact k a _ (.inl rfl) e
 | met f y =>
  have e:h.get? a=some (PySem.W.methodObj (.ref f) (.ref y)):=x
  show h'.get? a=some (PySem.W.methodObj (.ref f) (.ref y))
  exact k a _ (.inl rfl) e
 | ext φ=>obtain⟨p,⟨o,e⟩,st⟩:=x;exact⟨st _ _ p λo q=>k _ _ (.inl rfl) q,⟨o,k _ _ (.inl rfl) e⟩,st⟩
theorem HOk.lt (x:HOk P w H h)(e:H a=some o):a<h.objs.size:=(x a o e).lt
theorem HOk.fresh (x:HOk P w H h)(e:h.objs.size<=a):H a=none:=by
 cases q:H a with
 | none=>rfl
 | some u=>exact absurd (ff (x.lt q) e) (g_ _)
theorem HOk.kept {h h':Heap}(x:HOk P w H h)(k:∀b u,h.get? b=some u->h'.get? b=some u):HOk P w H h':=λa o e =>
 (x a o e).stay (λb u _ q=>k b u q) (λ_ q=>q) λ_ _ q=>q
theorem HOk.laid {h h':Heap}(x:HOk P w H h)(k:∀b u,h.get? b=some u->h'.get? b=some u)(hp:h.objs.size<=a)(new:u6 P w (upd H a o) h' a o):HOk P w (upd H a o) h':=λb u e=>by
 have hn:=x.fresh hp
 by_cases hb:b=a
 ·subst hb;rw[c9] at e;cases e;exact new
 ·rw[j9 hb] at e
  exact(x b u e).stay (λc v _ q=>k c v q) (λc q=>by rw[j9 (n5 q hn)];exact q) λc xs q=>by rw[j9 (n5 q hn)];exact q
def Rd (H:Hp)(a:Addr)(u:HO):Prop:=H a=some u\/∃o,H a=some (.frz o u)
theorem Rd.ok (r:Rd H a u)(x:HOk P w H h):u6 P w H h a u:=by
 rcases r with r|⟨o,r⟩
 ·exact x a u r
 ·obtain⟨_,q⟩:=x a _ r
  exact q
def Mut:Option HO->Prop
 | some (.lst _)=>True
 | some (.dK _)=>True
 | some (.dT _)=>True
 | some (.set _ _)=>True
 | some (.ins _ _ _)=>True
 | some (.ext _)=>True
 | _=>False
theorem HOk.write {h h':Heap}(ok:HOk P w H h)(mu:Mut (H x))(he:e=x\/H e=some (.own x))(k:∀b u,b≠e->h.get? b=some u->h'.get? b=some u)(heo:∃u,h'.get? e=some u)
  (new:u6 P w (upd H x o') h' x o'):HOk P w (upd H x o') h':=λb u q=>by
 have nown:∀c y,H c=some (.own y)->c≠x:=λc y r z=>by subst z;rw[r] at mu;exact mu
 have ntup:∀c xs,H c=some (.tup xs)->c≠x:=λc xs r z=>by subst z;rw[r] at mu;exact mu
 by_cases hb:b=x
 ·subst hb;rw[c9] at q;cases q;exact new
 ·rw[j9 hb] at q
  by_cases hbe:b=e
  ·have q':H b=some (.own x):=by
    rcases he with z|z
    ·exact absurd (hbe.trans z) hb
    ·rw[hbe];exact z
   rw[q] at q';cases q';obtain⟨v,hv⟩:=heo;exact⟨v,by rw[hbe];exact hv⟩
  ·refine(ok b u q).stay (λc v hc r=>k c v ?_ r) (λc r=>by rw[j9 (nown c b r)];exact r) λc xs r=>by rw[j9 (ntup c xs r)];exact r
   rcases hc with rfl|hc
   ·exact hbe
   ·rintro rfl
    rcases he with z|z
    ·exact nown c b hc z
    ·rw[hc] at z;cases z;exact hb rfl
structure Un (fs ex:List Addr)(H H':Hp)(h h':Heap):Prop where
 keep:∀b o,h.get? b=some o->H b=none->b∉fs->b∉ex->h'.get? b=some o
 slot:∀b o,h.get? b=some o->H b=none->b∈fs->b∉ex->∃sl,h'.get? b=some { o with slots:=sl }
 free:∀b o,h.get? b=some o->H b=none->b∉ex->H' b=none
 there:∀b o,h.get? b=some o->b∉ex->∃o',h'.get? b=some o'
 tups:∀b xs,H b=some (.tup xs)->H' b=some (.tup xs)
 frzs:∀b o u,H b=some (.frz o u)->H' b=some (.frz o u)
 tbls:∀b ps,H b=some (.tbl ps)->∃more,H' b=some (.tbl (ps++more))
section
variable {fs fs' ex ex':List Addr}
theorem Un.any (u:Un fs ex H H1 h h1)(q:h.get? b=some ob)(n:H b=none)(hx:b∉ex):∃sl,h1.get? b=some { ob with slots:=sl }:=by
 by_cases hb:b∈fs
 ·exact u.slot b ob q n hb hx
 ·exact⟨ob.slots,u.keep b ob q n hb hx⟩
theorem Un.kept {h h':Heap}(k:∀b u,h.get? b=some u->h'.get? b=some u):Un fs ex H H h h' :=
 ⟨λb ob q _ _ _=>k b ob q,λb ob q _ _ _=>⟨ob.slots,k b ob q⟩,λ_ _ _ n _=>n,λb ob q _=>⟨ob,k b ob q⟩,λ_ _ q=>q,λ_ _ _ q=>q,λ_ ps q=>⟨#[],by rw[q];simp⟩⟩
theorem Un.refl:Un fs ex H H h h:=Un.kept λ_ _ q=>q
theorem Un.laid {H:Hp}{h h':Heap}(k:∀b u,h.get? b=some u->h'.get? b=some u)(hp:h.objs.size<=a)(hn:H a=none):Un fs ex H (upd H a o) h h' where
 keep:=λb u q _ _ _=>k b u q
 slot:=λb u q _ _ _=>⟨u.slots,k b u q⟩
 free:=λb u q n _=>by rw[j9 (h_ (ff (f_ q) hp))];exact n
 there:=λb u q _=>⟨u,k b u q⟩
 tups:=λb xs q=>by rw[j9 (n5 q hn)];exact q
 frzs:=λb u xs q=>by rw[j9 (n5 q hn)];exact q
 tbls:=λb ps q=>⟨#[],by rw[j9 (n5 q hn),q];simp⟩
theorem Un.write {H:Hp}{h h':Heap}(mu:Mut (H x))(he:e=x\/H e=some (.own x))(k:∀b u,b≠e->h.get? b=some u->h'.get? b=some u)(heo:∃u,h'.get? e=some u):Un fs ex H (upd H x o) h h':=by
 have hx:∀b,H b=none->b≠x:=λb n z=>by subst z;rw[n] at mu;exact mu
 have hb:∀b,H b=none->b≠e:=λb n z=>by
  subst z
  rcases he with r|r
  ·exact hx b n r
  ·rw[n] at r;cases r
 have hm:∀b u,H b=some u->¬Mut (some u)->b≠x:=λb u q nm z=>by subst z;rw[q] at mu;exact nm mu
 refine⟨λb u q n _ _=>k b u (hb b n) q,λb u q n _ _=>⟨u.slots,k b u (hb b n) q⟩,λb u q n _=>by rw[j9 (hx b n)];exact n,λb u q _=>?_,
  λb xs q=>by rw[j9 (hm b _ q λz=>z)];exact q,λb u xs q=>by rw[j9 (hm b _ q λz=>z)];exact q,λb ps q=>⟨#[],by rw[j9 (hm b _ q λz=>z),q];simp⟩⟩
 by_cases hbe:b=e
 ·subst hbe;exact heo
 ·exact⟨u,k b u hbe q⟩
end
def trk (h:Heap)(H:Hp):List Addr:=(List.range h.objs.size).filter λa=>(H a).isSome
def js (h:Heap)(H:Hp):Heap:=PySem.W.hideAll h (trk h H)
def qp (h:Heap)(H:Hp):(js h H).objs.size=h.objs.size:=PySem.W.hideAll_size _ _
def tM {h:Heap}{H:Hp}(e:h.get? b=some o)(n:H b=none):(js h H).get? b=some o :=
 PySem.W.hideAll_get _ e λhm=>by
  have q:(H b).isSome=true:=(i_.mp hm).2;rw[n] at q;simp at q
theorem wn (e:(js h H).get? b=some o):h.get? b=some o/\H b=none:=by
 have e':h.get? b=some o:=PySem.W.of_hideAll (trk h H) e;refine⟨e',?_⟩
 cases q:H b with
 | none=>rfl
 | some x =>
  have hm:b∈trk h H:=i_.mpr ⟨j_.mpr (f_ e'),by simp[q]⟩
  have z:(js h H).get? b=none:=PySem.W.hideAll_none (trk h H) hm;rw[z] at e;cases e
structure Mod (K:Frag)(mg:Str->Option Value)(base:Heap):Prop where
 kin:K.In base
 glob:base.Ns mainGlobals mg
 blt:∃mb,base.Ns builtinsNs mb/\∀x:Str,x≠"__name__"->mb x=bootBuiltins x
 nolimit:base.NoLimit
structure Cx where
 prog:Program
 w:World
 K:Frag
 mg:Str->Option Value
 base:Heap
 A:Around
 N:List Str
 s₀:Shared
 H₀:Hp
 env:Env
 outer:List Env
 stack:List Env
 ex:List Addr
 fn:Str->Bool
 calm:Bool
 pn:List (Addr×Obj)
 xe:Value->Shared->Prop
def frs (l:List Env):List Addr:=l.filterMap (·.frame)
abbrev Cx.fs (X:Cx):List Addr:=frs X.outer
def Vis (sc:Scope)(x:Str):Prop:=sc.names.lookup x=some .local\/sc.names.lookup x=some .cell\/sc.names.lookup x=some .free
def Loc (sc:Scope)(x:Str):Prop:=sc.names.lookup x=some .local\/sc.names.lookup x=some .cell
def zk (env:Env)(h:Heap)(m:Str->Option Value)(x:Str)(u:Value):Prop :=
 (env.kindOf x=some .local/\m x=some u)\/((env.kindOf x=some .cell\/env.kindOf x=some .free)/\∃c,env.cells.lookup x=some c/\h.IsCell c (some u))
structure Cx.Ok (X:Cx):Prop where
 mod:Mod X.K X.mg X.base
 kind:X.env.scope.kind=.function
 glob:X.env.globals=mainGlobals
 blt:X.env.builtins=builtinsNs
 above:X.s₀.heap.objs.size<=X.env.locals
 inj:∀x y c,X.env.cells.lookup x=some c->X.env.cells.lookup y=some c->x=y
 has:∀x,(X.env.kindOf x=some .cell\/X.env.kindOf x=some .free)->∃c,X.env.cells.lookup x=some c
 cab:∀x c,X.fn x=true->X.env.cells.lookup x=some c->X.s₀.heap.objs.size<=c
 hd:X.calm=true->X.A.handled=none
 frames:X.A.frames=some X.stack
 stk:X.stack=X.outer\/(X.stack=X.env::X.outer/\X.env.frame=some X.env.locals)
 exf:∀b∈X.ex,b≠X.env.locals/\∀x c,X.env.cells.lookup x=some c->c≠b
 bs:∀b o,X.base.get? b=some o->X.s₀.heap.get? b=some o/\X.H₀ b=none
 bsz:X.base.objs.size<=X.s₀.heap.objs.size
 noex:∀b o,X.base.get? b=some o->b∉X.ex
 exfs:∀b∈X.ex,b∉X.fs
 funs:X.s₀.heap.FunFrames X.base X.outer
 frf:∀b∈X.fs,X.H₀ b=none
structure Inv (X:Cx)(pins:List (Addr×Obj))(σ:List (Option V))(H:Hp)(s:Shared):Prop where
 ok:X.Ok
 os:s.os=X.s₀.os
 bare:AllBare s.gens
 base:Un X.fs X.ex X.H₀ H X.s₀.heap s.heap
 loc:∃m,s.heap.Ns X.env.locals m/\∀(i:Nat)(x:Str)(v:V),X.N[i]? = some x->σ[i]? = some (some v)->Vis X.env.scope x->∃u,u9 v u/\zk X.env s.heap m x u
 cell:∀x c,X.env.cells.lookup x=some c->∃v,s.heap.IsCell c v
 free:H X.env.locals=none
 freeC:∀x c,X.env.cells.lookup x=some c->H c=none
 pin:∀p∈X.pn++pins,s.heap.get? p.1=some p.2/\H p.1=none/\p.1≠X.env.locals/\p.1∉X.fs/\∀v,p.2.data≠.cell v
 hok:HOk X.prog X.w H s.heap
 len:σ.length=X.N.length
theorem Cx.Ok.nofr {X:Cx}(ok:X.Ok)(e:X.base.get? b=some o):b∉X.fs:=λhb=>by
 have:=(ok.funs.mem hb).1
 rw[e] at this;cases this
theorem Inv.bs (I:Inv X pins σ H s):∀b o,X.base.get? b=some o->s.heap.get? b=some o/\H b=none:=λb o e =>
 ⟨I.base.keep b o (I.ok.bs b o e).1 (I.ok.bs b o e).2 (I.ok.nofr e) (I.ok.noex b o e),I.base.free b o (I.ok.bs b o e).1 (I.ok.bs b o e).2 (I.ok.noex b o e)⟩
theorem Inv.bk (I:Inv X pins σ H s):∀b o,X.base.get? b=some o->s.heap.get? b=some o:=λb o e=>(I.bs b o e).1
theorem Inv.mod (I:Inv X pins σ H s):Mod X.K X.mg X.base:=I.ok.mod
theorem Inv.kIn (I:Inv X pins σ H s):X.K.In s.heap:=I.ok.mod.kin.keeps I.bk
theorem Inv.lt (I:Inv X pins σ H s):X.env.locals<s.heap.objs.size:=let ⟨_,hn,_⟩:=I.loc;hn.lt
theorem Inv.sz (I:Inv X pins σ H s):X.s₀.heap.objs.size<=s.heap.objs.size:=k_ I.ok.above (l_ I.lt)
theorem Inv.nofs (I:Inv X pins σ H s)(h:s.heap.objs.size<=a):a∉X.fs:=λhb=>by
 obtain⟨_,o,ho,_⟩:=I.ok.funs.mem hb;exact absurd (ff (f_ ho) (k_ I.sz h)) (g_ _)
theorem Inv.cne (I:Inv X pins σ H s):∀x c,X.env.cells.lookup x=some c->c≠X.env.locals:=λx c e z=>by
 obtain⟨v,o,ho,hd⟩:=I.cell x c e;obtain⟨m,⟨o',es,ep,ho',hd',_⟩,_⟩:=I.loc;rw[z,ho'] at ho;cases ho;rw[hd'] at hd;cases hd
theorem Inv.funs (I:Inv X pins σ H s):s.heap.FunFrames X.base X.outer:=by
 have all:∀(l:List Env),(∀b∈frs l,b∈X.fs)->X.s₀.heap.FunFrames X.base l->s.heap.FunFrames X.base l:=by
  intro l
  induction l with
  | nil=>intro _ _;trivial
  | cons env r ih =>
   intro hs hl
   obtain⟨hk,⟨L,o,hf,hn,ho,hd⟩,hr⟩:=hl;have hL:L∈X.fs:=hs L (by unfold frs;rw[m_,hf];exact n_)
   obtain⟨sl,e⟩:=I.base.slot L o ho (I.ok.frf L hL) hL λz=>I.ok.exfs L z hL;exact⟨hk,⟨L,_,hf,hn,e,hd⟩,ih (λb hb=>hs b (by unfold frs;rw[m_,hf];exact o_ _ hb)) hr⟩
 exact all X.outer (λ_ hb=>hb) I.ok.funs
theorem Inv.stack (I:Inv X pins σ H s):s.heap.FunFrames X.base X.stack:=by
 rcases I.ok.stk with e|⟨e,hf⟩
 ·rw[e];exact I.funs
 ·rw[e]
  obtain⟨m,hn,_⟩:=I.loc;refine .cons (by rw[I.ok.kind];decide) hf hn ?_ I.funs
  exact on (k_ I.ok.bsz I.ok.above)
theorem Inv.stkSub (I:Inv X pins σ H s):∀b∈frs X.stack,b∈X.env.locals::X.fs:=λb hb=>by
 rcases I.ok.stk with e|⟨e,hf⟩
 ·rw[e] at hb;exact o_ _ hb
 ·rw[e] at hb
  unfold frs at hb;rw[m_,hf] at hb;exact hb
theorem Inv.stkFree (I:Inv X pins σ H s):∀b∈frs X.stack,H b=none:=λb hb=>by
 rcases p_.mp (I.stkSub b hb) with e|hb
 ·rw[e];exact I.free
 ·obtain⟨_,o,ho,_⟩:=I.ok.funs.mem hb
  exact I.base.free b o ho (I.ok.frf b hb) λz=>I.ok.exfs b z hb
theorem Inv.step {X:Cx}{pins:List (Addr×Obj)}{σ:List (Option V)}{H H':Hp}{s:Shared}{h':Heap}{g':Array GenState}{t':Nat}{d':Drawn}{ch:List Addr}(I:Inv X pins σ H s)
  (hch:∀b∈ch,(b∈X.ex\/X.s₀.heap.objs.size<=b)/\b≠X.env.locals/\(∀x c,X.env.cells.lookup x=some c->c≠b)/\∀p∈X.pn++pins,p.1≠b)
  (keep:∀b o,b≠X.env.locals->b∉X.fs->b∉ch->s.heap.get? b=some o->H b=none->h'.get? b=some o)
  (slot:∀b o,b≠X.env.locals->b∈X.fs->b∉ch->s.heap.get? b=some o->H b=none->∃sl,h'.get? b=some { o with slots:=sl })(free:∀b o,b∉ch->s.heap.get? b=some o->H b=none->H' b=none)
  (there:∀b o,b∉ch->s.heap.get? b=some o->∃o',h'.get? b=some o')
  (tups:∀b xs,H b=some (.tup xs)->H' b=some (.tup xs)) (frzs:∀b o u,H b=some (.frz o u)->H' b=some (.frz o u)) (tbls:∀b ps,H b=some (.tbl ps)->∃more,H' b=some (.tbl (ps++more)))
  (ns:∀m,s.heap.Ns X.env.locals m->h'.Ns X.env.locals m) (hok:HOk X.prog X.w H' h') (hg:AllBare g') :
  Inv X pins σ H' { s with heap:=h',gens:=g',drawn:=d',toks:=t' }:=by
 have neL:∀b o,X.s₀.heap.get? b=some o->b≠X.env.locals:=λb o e=>h_ (ff (f_ e) I.ok.above)
 have neC:∀b o,X.s₀.heap.get? b=some o->b∉X.ex->b∉ch:=λb o e hx hb=>by
  rcases(hch b hb).1 with z|z
  ·exact hx z
  ·exact absurd (ff (f_ e) z) (g_ _)
 have cellK:∀x c,X.env.cells.lookup x=some c->∀v,s.heap.IsCell c v->h'.IsCell c v:=λx c e v ⟨o,ho,hd⟩=>by
  have nch:c∉ch:=λz=>(hch c z).2.2.1 x c e rfl
  by_cases hc:c∈X.fs
  ·obtain⟨sl,q⟩:=slot c o (I.cne x c e) hc nch ho (I.freeC x c e)
   exact⟨_,q,hd⟩
  ·exact⟨o,keep c o (I.cne x c e) hc nch ho (I.freeC x c e),hd⟩
 refine⟨I.ok,I.os,hg,⟨λb o e n hb hx=>?_,λb o e n hb hx=>?_,λb o e n hx=>?_,λb o e hx=>?_,λb xs e=>tups b xs (I.base.tups b xs e),λb o xs e=>frzs b o xs (I.base.frzs b o xs e),λb ps e=>?_⟩,?_,λx c e=>?_,?_,λx c e=>?_,λp hp=>?_,hok,I.len⟩
 ·exact keep b o (neL b o e) hb (neC b o e hx) (I.base.keep b o e n hb hx) (I.base.free b o e n hx)
 ·obtain⟨sl,e1⟩:=I.base.slot b o e n hb hx
  obtain⟨sl',e2⟩:=slot b _ (neL b o e) hb (neC b o e hx) e1 (I.base.free b o e n hx);exact⟨sl',e2⟩
 ·obtain⟨o',e1⟩:=I.base.there b o e hx
  exact free b o' (neC b o e hx) e1 (I.base.free b o e n hx)
 ·obtain⟨o',e1⟩:=I.base.there b o e hx
  exact there b o' (neC b o e hx) e1
 ·obtain⟨m1,e1⟩:=I.base.tbls b ps e
  obtain⟨m2,e2⟩:=tbls b _ e1;exact⟨m1++m2,by rw[e2,Array.append_assoc]⟩
 ·obtain⟨m,hn,hl⟩:=I.loc
  refine⟨m,ns m hn,λi x v e1 e2 e3=>?_⟩;obtain⟨u,r,l⟩:=hl i x v e1 e2 e3;refine⟨u,r,?_⟩
  rcases l with l|⟨k,c,e,z⟩
  ·exact .inl l
  ·exact .inr ⟨k,c,e,cellK x c e _ z⟩
 ·obtain⟨v,z⟩:=I.cell x c e
  exact⟨v,cellK x c e v z⟩
 ·obtain⟨m,⟨o,_,_,ho,_⟩,_⟩:=I.loc
  exact free _ o (λz=>(hch _ z).2.1 rfl) ho I.free
 ·obtain⟨v,o,ho,hd⟩:=I.cell x c e
  exact free c o (λz=>(hch c z).2.2.1 x c e rfl) ho (I.freeC x c e)
 ·obtain⟨e,n,ne,nf,d⟩:=I.pin p hp
  have nch:p.1∉ch:=λz=>(hch p.1 z).2.2.2 p hp rfl;exact⟨keep p.1 p.2 ne nf nch e n,free p.1 p.2 nch e n,ne,nf,d⟩
theorem Inv.un {X:Cx}{pins:List (Addr×Obj)}{σ:List (Option V)}{H H':Hp}{s:Shared}{h':Heap}{t':Nat}(I:Inv X pins σ H s)(u:Un X.fs [] H H' s.heap h')(hok:HOk X.prog X.w H' h'):Inv X pins σ H' { s with heap:=h',toks:=t' }:=by
 obtain⟨m,⟨o,es,ep,ho,r⟩,_⟩:=id I.loc;obtain⟨sl,hL⟩:=u.any ho I.free (by simp)
 exact I.step (g':=s.gens) (d':=s.drawn) (ch:=[]) (λ_ z=>nomatch z) (λb o _ hb _ e n=>u.keep b o e n hb (by simp)) (λb o _ hb _ e n=>u.slot b o e n hb (by simp)) (λb o _ e n=>u.free b o e n (by simp)) (λb o _ e=>u.there b o e (by simp)) u.tups u.frzs u.tbls (λm' hm=>by
  obtain⟨o',es',ep',ho',r'⟩:=hm;rw[ho] at ho';cases ho'
  exact⟨_,es',ep',hL,r'⟩) hok I.bare
theorem Inv.call {X:Cx}{pins:List (Addr×Obj)}{σ:List (Option V)}{H H':Hp}{s:Shared}{h':Heap}{g':Array GenState}{t':Nat}{d':Drawn}{ch:List Addr}(I:Inv X pins σ H s)(u:Un (frs X.stack) ch H H' s.heap h')(hok:HOk X.prog X.w H' h')(hg:AllBare g')
  (hch:∀b∈ch,(b∈X.ex\/X.s₀.heap.objs.size<=b)/\b≠X.env.locals/\(∀x c,X.env.cells.lookup x=some c->c≠b)/\∀p∈X.pn++pins,p.1≠b) :
  Inv X pins σ H' { s with heap:=h',gens:=g',drawn:=d',toks:=t' }:=by
 obtain⟨m,⟨o,es,ep,ho,r⟩,_⟩:=id I.loc;obtain⟨sl,hL⟩:=u.any ho I.free λz=>(hch _ z).2.1 rfl
 exact I.step (ch:=ch) hch (λb o hL hb hc e n=>u.keep b o e n (λz=>(p_.mp (I.stkSub b z)).elim hL hb) hc) (λb o _ _ hc e n=>u.any e n hc) (λb o hc e n=>u.free b o e n hc) (λb o hc e=>u.there b o e hc) u.tups u.frzs u.tbls (λm' hm=>by
  obtain⟨o',es',ep',ho',r'⟩:=hm;rw[ho] at ho';cases ho'
  exact⟨_,es',ep',hL,r'⟩) hok hg
theorem Inv.turned {X:Cx}{pins:List (Addr×Obj)}{σ:List (Option V)}{H:Hp}{s:Shared}{h':Heap}{t':Nat}{it:Addr}(I:Inv X pins σ H s)(k:∀b o,b≠it->s.heap.get? b=some o->h'.get? b=some o)(hn:H it=none)(hL:it≠X.env.locals)
  (h1:it∈X.ex\/X.s₀.heap.objs.size<=it)(h2:∀x c,X.env.cells.lookup x=some c->c≠it)(h3:∀p∈X.pn++pins,p.1≠it):Inv X pins σ H { s with heap:=h',toks:=t' }:=by
 have nit:∀b u,H b=some u->b≠it:=λb u e z=>by rw[z,hn] at e;cases e
 refine I.step (g':=s.gens) (d':=s.drawn) (ch:=[it]) (λb hb=>?_) (λb o _ _ hc e _=>k b o (λz=>hc (by simp[z])) e) (λb o _ _ hc e _=>⟨o.slots,k b o (λz=>hc (by simp[z])) e⟩) (λ_ _ _ _ n=>n)
  (λb o hc e=>⟨o,k b o (λz=>hc (by simp[z])) e⟩) (λ_ _ e=>e) (λ_ _ _ e=>e) (λb ps e=>⟨#[],by rw[e];simp⟩) (λm hm=>?_) (λb u e=>?_) I.bare
 ·have e:b=it:=by simpa using hb
  subst e;exact⟨h1,hL,h2,h3⟩
 ·obtain⟨o,es,ep,ho,r⟩:=hm
  exact⟨o,es,ep,k _ o (Im hL) ho,r⟩
 ·refine(I.hok b u e).stay (λc v hc q=>k c v ?_ q) (λ_ q=>q) λ_ _ q=>q
  rcases hc with z|z
  ·rw[z];exact nit b u e
  ·exact nit c _ z
theorem Inv.tok (I:Inv X pins σ H s)(t:Nat):Inv X pins σ H { s with toks:=t }:=I.un (h':=s.heap) (t':=t) Un.refl I.hok
theorem Inv.kept {h':Heap}{t':Nat}(I:Inv X pins σ H s)(k:∀b u,s.heap.get? b=some u->h'.get? b=some u):Inv X pins σ H { s with heap:=h',toks:=t' }:=I.un (Un.kept k) (I.hok.kept k)
theorem Inv.laid {h':Heap}{t':Nat}(I:Inv X pins σ H s)(k:∀b u,s.heap.get? b=some u->h'.get? b=some u)(hp:s.heap.objs.size<=a)(new:u6 X.prog X.w (upd H a o) h' a o) :
  Inv X pins σ (upd H a o) { s with heap:=h',toks:=t' }:=I.un (Un.laid k hp (I.hok.fresh hp)) (I.hok.laid k hp new)
theorem Inv.write {h':Heap}{t':Nat}(I:Inv X pins σ H s)(mu:Mut (H x))(he:e=x\/H e=some (.own x))(k:∀b u,b≠e->s.heap.get? b=some u->h'.get? b=some u)(heo:∃u,h'.get? e=some u)
  (new:u6 X.prog X.w (upd H x o) h' x o):Inv X pins σ (upd H x o) { s with heap:=h',toks:=t' }:=I.un (Un.write mu he k heo) (I.hok.write mu he k heo new)
theorem Inv.pins_of (I:Inv X pins σ H s)(h:∀p∈pins',s.heap.get? p.1=some p.2/\H p.1=none/\p.1≠X.env.locals/\p.1∉X.fs/\∀v,p.2.data≠.cell v):Inv X pins' σ H s :=
 ⟨I.ok,I.os,I.bare,I.base,I.loc,I.cell,I.free,I.freeC,λp hp=>(q_.mp hp).elim (λz=>I.pin p (r_ _ z)) (h p),I.hok,I.len⟩
def eP {N:List Str}(hN:N.Nodup){i j:Nat}(a:N[i]? = some x)(b:N[j]? = some x):i=j:=by
 obtain⟨h1,e1⟩:=s_.mp a;obtain⟨h2,e2⟩:=s_.mp b;exact(List.getElem_inj hN).mp (e1.trans e2.symm)
def iD {i:Nat}{Q:Unit->Shared->Prop}(I:Inv X pins σ H s)(hN:X.N.Nodup)(hi:X.N[i]? = some x)(hx:Loc X.env.scope x)(r:u9 v u)
  (h:∀s',Inv X pins (σ.set i (some v)) H s'->(∃a,Heap.SameBut a s.heap s'.heap/\(a=X.env.locals\/X.env.cells.lookup x=some a))->Q () s')(hf:X.fn x=true\/X.env.scope.names.lookup x=some .local:=by first|exact .inl rfl|exact .inr rfl|assumption):wpAny M A (storeName X.env x u) Q E s:=by
 obtain⟨m,hn,hl⟩:=id I.loc;have hcls:(X.env.scope.kind==.class || (X.env.scope.kind==.module&&X.env.locals != X.env.globals))=false:=by rw[I.ok.kind];rfl
 have hiσ:i<σ.length:=by rw[I.len];exact(s_.mp hi).1
 have cne:=I.cne
 have tracked:∀{a:Addr}{h':Heap},(∃o,s.heap.get? a=some o/\H a=none)->Heap.SameBut a s.heap h'->HOk X.prog X.w H h':=λ{a h'} ha hs b ob e=>by
  obtain⟨_,_,hfree⟩:=ha;refine(I.hok b ob e).stay (λc w' hc q=>(hs.2 c ?_).trans q) (λ_ q=>q) λ_ _ q=>q
  rintro rfl
  rcases hc with rfl|hc
  ·rw[hfree] at e;cases e
  ·rw[hfree] at hc;cases hc
 rcases hx with hk|hk
 ·refine wpAny_storeName_local hk hn (λh' hn' hs=>?_) hcls
  obtain⟨oL,_,_,hoL,_⟩:=id hn;refine h _ ⟨I.ok,I.os,I.bare,⟨λb o e n hb hx=>?_,λb o e n hb hx=>?_,I.base.free,λb o e hx=>?_,I.base.tups,I.base.frzs,I.base.tbls⟩,⟨_,hn',λj y v' e1 e2 e3=>?_⟩,λy c e=>?_,I.free,I.freeC,λp hp=>?_,tracked ⟨oL,hoL,I.free⟩ hs,by simpa using I.len⟩ ⟨_,hs,.inl rfl⟩
  ·exact(hs.2 b (h_ (ff (f_ e) I.ok.above))).trans (I.base.keep b o e n hb hx)
  ·obtain⟨sl,e1⟩:=I.base.slot b o e n hb hx
   exact⟨sl,(hs.2 b (h_ (ff (f_ e) I.ok.above))).trans e1⟩
  ·obtain⟨o',e1⟩:=I.base.there b o e hx
   exact⟨o',(hs.2 b (h_ (ff (f_ e) I.ok.above))).trans e1⟩
  ·by_cases hj:j=i
   ·subst hj
    rw[hi] at e1;cases e1;rw[t_ hiσ] at e2
    cases e2
    exact⟨u,r,.inl ⟨hk,by simp⟩⟩
   ·rw[v_ (Im hj)] at e2
    obtain⟨u',r',q⟩:=hl j y v' e1 e2 e3;refine⟨u',r',?_⟩
    rcases q with⟨k,e⟩|⟨k,c,e,z⟩
    ·refine .inl ⟨k,?_⟩
     have:y≠x:=λe=>hj (eP hN e1 (e▸hi))
     simp[this,e]
    ·exact .inr ⟨k,c,e,z.sameBut hs (cne y c e)⟩
  ·obtain⟨w',z⟩:=I.cell y c e
   exact⟨w',z.sameBut hs (cne y c e)⟩
  ·obtain⟨e,n,ne,nf,d⟩:=I.pin p hp
   exact⟨(hs.2 p.1 ne).trans e,n,ne,nf,d⟩
 ·have hfn:X.fn x=true:=by
   rcases hf with z|z
   ·exact z
   ·rw[z] at hk;cases hk
  obtain⟨c,hc⟩:=I.ok.has x (.inl hk);obtain⟨w',z⟩:=I.cell x c hc;refine wpAny_storeName_cell I.ok.kind hk hc z (λh' hc' hs=>?_);obtain⟨oc,hoc,hocd⟩:=id z;refine h { s with heap:=h' } ⟨I.ok,I.os,I.bare,⟨λb o e n hb hx=>?_,λb o e n hb hx=>?_,I.base.free,λb o e hx=>?_,I.base.tups,I.base.frzs,I.base.tbls⟩,⟨m,hn.sameBut hs (Im (cne x c hc)),λj y v' e1 e2 e3=>?_⟩,λy c' e=>?_,I.free,I.freeC,λp hp=>?_,tracked ⟨oc,hoc,I.freeC x c hc⟩ hs,by simpa using I.len⟩ ⟨c,hs,.inr hc⟩
  ·exact(hs.2 b (h_ (ff (f_ e) (I.ok.cab x c hfn hc)))).trans (I.base.keep b o e n hb hx)
  ·obtain⟨sl,e1⟩:=I.base.slot b o e n hb hx
   exact⟨sl,(hs.2 b (h_ (ff (f_ e) (I.ok.cab x c hfn hc)))).trans e1⟩
  ·obtain⟨o',e1⟩:=I.base.there b o e hx
   exact⟨o',(hs.2 b (h_ (ff (f_ e) (I.ok.cab x c hfn hc)))).trans e1⟩
  ·by_cases hj:j=i
   ·subst hj
    rw[hi] at e1;cases e1;rw[t_ hiσ] at e2
    cases e2
    exact⟨u,r,.inr ⟨.inl hk,c,hc,hc'⟩⟩
   ·rw[v_ (Im hj)] at e2
    obtain⟨u',r',q⟩:=hl j y v' e1 e2 e3;refine⟨u',r',?_⟩
    rcases q with q|⟨k,c',e,z'⟩
    ·exact .inl q
    ·refine .inr ⟨k,c',e,z'.sameBut hs ?_⟩
     rintro rfl
     exact hj (eP hN e1 (I.ok.inj _ _ _ e hc▸hi))
  ·by_cases hcc:c'=c
   ·subst hcc;exact⟨_,hc'⟩
   ·obtain⟨w2,z2⟩:=I.cell y c' e
    exact⟨w2,z2.sameBut hs hcc⟩
  ·obtain⟨e,n,ne,nf,d⟩:=I.pin p hp
   refine⟨(hs.2 p.1 ?_).trans e,n,ne,nf,d⟩
   intro q
   rw[q,hoc] at e;have q':oc=p.2:=e_ e;exact d w' (by rw[<- q'];exact hocd)
def fL {i:Nat}{Q:Unit->Shared->Prop}(I:Inv X pins σ H s)(hN:X.N.Nodup)(hi:X.N[i]? = some x)(hx:Loc X.env.scope x)(r:u9 v u)
  (h:∀s',Inv X pins (σ.set i (some v)) H s'->Q () s')(hf:X.fn x=true\/X.env.scope.names.lookup x=some .local:=by first|exact .inl rfl|exact .inr rfl|assumption):wpAny M A (storeName X.env x u) Q E s :=
 iD I hN hi hx r (λs' I' _=>h s' I') hf
theorem Inv.call' {s':Shared}(I:Inv X pins σ H s)(ho:s'.os=s.os)(u:Un (frs X.stack) ch H H' s.heap s'.heap)(hok:HOk X.prog X.w H' s'.heap)(hg:AllBare s'.gens)
  (hch:∀b∈ch,(b∈X.ex\/X.s₀.heap.objs.size<=b)/\b≠X.env.locals/\(∀x c,X.env.cells.lookup x=some c->c≠b)/\∀p∈X.pn++pins,p.1≠b):Inv X pins σ H' s':=by
 obtain⟨h',g',d',t',o'⟩:=s';have e:o'=s.os:=ho;subst e;exact I.call (g':=g') (t':=t') (d':=d') u hok hg hch
abbrev XK:=Value->Option Addr->Hp->Prop
abbrev St:=List (Option V)
abbrev VK:=V->Hp->Prop
abbrev TE:=St->Hp->VK->Prop
abbrev TT:=St->Hp->(Bool->Hp->Prop)->Prop
abbrev TA:=St->Hp->(List V->Hp->Prop)->Prop
structure bL where
 nx:St->Hp->Prop
 rt:VK
 bk:St->Hp->Prop:=λ_ _=>False
 ct:St->Hp->Prop:=λ_ _=>False
abbrev TS:=bL->St->Hp->Prop
def EP (X:Cx)(pins:List (Addr×Obj))(σ:St)(Q:VK)(u:Value)(s':Shared):Prop:=∃v H',Inv X pins σ H' s'/\u9 v u/\Q v H'
def TP (X:Cx)(pins:List (Addr×Obj))(σ:St)(Q:Bool->Hp->Prop)(b:Bool)(s':Shared):Prop:=∃H',Inv X pins σ H' s'/\Q b H'
def AP (X:Cx)(pins:List (Addr×Obj))(σ:St)(Q:List V->Hp->Prop)(us:List Value)(s':Shared):Prop:=∃vs H',Inv X pins σ H' s'/\o6 vs us/\Q vs H'
def SP (X:Cx)(pins:List (Addr×Obj))(D:bL)(f:Flow)(s':Shared):Prop :=
 match f with
 | .next=>∃σ' H',Inv X pins σ' H' s'/\D.nx σ' H'
 | .brk=>∃σ' H',Inv X pins σ' H' s'/\D.bk σ' H'
 | .cont=>∃σ' H',Inv X pins σ' H' s'/\D.ct σ' H'
 | .ret u=>∃v σ' H',Inv X pins σ' H' s'/\u9 v u/\D.rt v H'
def PE (X:Cx)(e:Expr)(t:TE):Prop :=
 ∀(pins:List (Addr×Obj))(s:Shared)(σ:St)(H:Hp)(Q:VK),Inv X pins σ H s->t σ H Q->wpAny (model X.prog X.w) X.A (eval e X.env) (EP X pins σ Q) X.xe s
def PT (X:Cx)(e:Expr)(t:TT):Prop :=
 ∀(pins:List (Addr×Obj))(s:Shared)(σ:St)(H:Hp)(Q:Bool->Hp->Prop),Inv X pins σ H s->t σ H Q->wpAny (model X.prog X.w) X.A (isTrue e X.env (eval e X.env)) (TP X pins σ Q) X.xe s
def PW (X:Cx)(e:Expr)(t:TT):Prop :=
 ∀(whole:Sem Value)(pins:List (Addr×Obj))(s:Shared)(σ:St)(H:Hp)(Q:Bool->Hp->Prop),Inv X pins σ H s->t σ H Q->wpAny (model X.prog X.w) X.A (isTrue e X.env whole) (TP X pins σ Q) X.xe s
theorem PW.pt {t:TT}(h:PW X e t):PT X e t:=h _
def PA (X:Cx)(es:List Expr)(t:TA):Prop :=
 ∀(pos:Pos)(pins:List (Addr×Obj))(s:Shared)(σ:St)(H:Hp)(Q:List V->Hp->Prop),Inv X pins σ H s->t σ H Q->wpAny (model X.prog X.w) X.A (spliced (backTo pos (starEach es X.env))) (AP X pins σ Q) X.xe s
def PS (X:Cx)(st:Stmt)(t:TS):Prop :=
 ∀(pins:List (Addr×Obj))(s:Shared)(σ:St)(H:Hp)(D:bL),Inv X pins σ H s->t D σ H->wpAny (model X.prog X.w) X.A (exec st X.env) (SP X pins D) X.xe s
def PSs (X:Cx)(st:List Stmt)(t:TS):Prop :=
 ∀(pins:List (Addr×Obj))(s:Shared)(σ:St)(H:Hp)(D:bL),Inv X pins σ H s->t D σ H->wpAny (model X.prog X.w) X.A (execs st X.env) (SP X pins D) X.xe s
def thn {α:Type}{t:Sem α}{Q Q':α->Shared->Prop}(h:wpAny M A t Q E s)(hQ:∀a s,Q a s->Q' a s):wpAny M A t Q' E s:=x_ h hQ λ_ _ x=>x
def thx {α β:Type}{t:Sem α}{R:β->Hp->Shared->Prop}{S:β->α->Prop}{Q:β->Hp->Prop}{Q':α->Shared->Prop}(h:wpAny M A t (λv s=>∃x H,R x H s/\S x v/\Q x H) E s)(k:∀v s x H,R x H s->S x v->Q x H->Q' v s):wpAny M A t Q' E s:=thn h λv s ⟨x,H,a,b,c⟩=>k v s x H a b c
def bin {X:Cx}{a b:Expr}{ta tb:TE}(ha:PE X a ta)(hb:PE X b tb){pins:List (Addr×Obj)}{s:Shared}{σ:St}{H:Hp}{R:V->V->Hp->Prop}(I:Inv X pins σ H s)(h:ta σ H λx H1=>tb σ H1 λy H2=>R x y H2)
  {α:Type}{Q:α->Shared->Prop}{f:Value->Value->Sem α}
  (hf:∀v u s2 x y H2,Inv X pins σ H2 s2->u9 x v->u9 y u->R x y H2->wpAny (model X.prog X.w) X.A (f v u) Q X.xe s2) :
  wpAny (model X.prog X.w) X.A (eval a X.env) (λv s₁=>wpAny (model X.prog X.w) X.A (eval b X.env) (λu s₂=>wpAny (model X.prog X.w) X.A (f v u) Q X.xe s₂) X.xe s₁) X.xe s:=by
 refine thx (ha pins s σ H _ I h) λv s1 x H1 I1 r1 q1=>?_;refine thx (hb pins s1 σ H1 _ I1 q1) λu s2 y H2 I2 r2 q2=>?_;exact hf v u s2 x y H2 I2 r1 r2 q2
def yT (i:Nat):TE:=λσ H Q=>∃v,σ[i]? = some (some v)/\Q v H
def tC (v:V):TE:=λ_ H Q=>Q v H
def xn {X:Cx}{i:Nat}(hN:X.N[i]? = some x)(hv:Vis X.env.scope x)(hd:(x==("__debug__":Str))=false:=by decide)(hcd:(x==("__classdict__":Str))=false:=by decide):PE X (.Name x pos) (yT i):=by
 intro pins s σ H Q I h
 obtain⟨v,e,h⟩:=h;obtain⟨m,hn,hl⟩:=I.loc;obtain⟨u,r,l⟩:=hl i x v hN e hv;have fin:EP X pins σ Q u s:=⟨v,H,I,r,h⟩
 rcases l with⟨hk,hm⟩|⟨hk,c,hc,hcell⟩
 ·exact wpAny_Name (wpAny_loadName_local I.ok.kind hk hn hm fin) hd
 ·rcases hk with hk|hk
  ·exact wpAny_Name (wpAny_loadName_cell I.ok.kind hk hc hcell fin) hd
  ·exact wpAny_Name (wpAny_loadName_free I.ok.kind hk hc hcell fin hcd) hd
def h7 {i j pos}:PE X (.Constant (.int i) j pos) (tC (.int i)):=λ_ _ _ H _ I h=>wpAny_Constant_int ⟨.int i,H,I.tok _,⟨_,Iu⟩,h⟩
def F2 {b j pos}:PE X (.Constant (.bool b) j pos) (tC (.bl b)):=λ_ _ _ H _ I h=>Constant_bool ⟨.bl b,H,I,Iu,h⟩
def o5 {j pos}:PE X (.Constant .none j pos) (tC .non):=λ_ _ _ H _ I h=>Constant_none ⟨.non,H,I,Iu,h⟩
def U1 {x j pos}:PE X (.Constant (.str x) j pos) (tC (.str x)):=λ_ _ _ H _ I h=>Calls.Constant_str ⟨.str x,H,I.tok _,⟨_,Iu⟩,h⟩
def Gl (X:Cx)(x:Str):Prop:=X.env.kindOf x=some .globalImplicit
def ci {Q:Value->Shared->Prop}(I:Inv X pins σ H s)(hg:Gl X x)(hm:X.mg x=some u)(h:Q u s)
  (hd:(x==("__debug__":Str))=false:=by decide):wpAny (model X.prog X.w) X.A (eval (.Name x pos) X.env) Q E s :=
 Calls.Name_function_global I.ok.kind hg (Calls.loadGlobal_global (by rw[I.ok.glob];exact I.mod.glob.keeps I.bk) hm h) hd
def bh {Q:Value->Shared->Prop}(I:Inv X pins σ H s)(hg:Gl X x)(hm:X.mg x=none)(hv:bootBuiltins x=some u)(h:Q u s)
  (hn:x≠"__name__":=by decide)(hd:(x==("__debug__":Str))=false:=by decide):wpAny (model X.prog X.w) X.A (eval (.Name x pos) X.env) Q E s:=by
 obtain⟨mb,h1,h2⟩:=I.mod.blt;exact Calls.Name_function_global I.ok.kind hg (Calls.loadGlobal_builtin (by rw[I.ok.glob];exact I.mod.glob.keeps I.bk) hm (by rw[I.ok.blt];exact h1.keeps I.bk) ((h2 x hn).trans hv) h) hd
def R3 (hg:Gl X x)(hm:X.mg x=some u)(r:u9 v u)(hd:(x==("__debug__":Str))=false:=by decide):PE X (.Name x pos) (tC v) :=
 λ_ _ _ H _ I h=>ci I hg hm ⟨v,H,I,r,h⟩ hd
def N3 (hg:Gl X x)(hm:X.mg x=none)(hv:bootBuiltins x=some u)(r:u9 v u)(hn:x≠"__name__":=by decide)(hd:(x==("__debug__":Str))=false:=by decide):PE X (.Name x pos) (tC v) :=
 λ_ _ _ H _ I h=>bh I hg hm hv ⟨v,H,I,r,h⟩ hn hd
def PC (X:Cx)(op:CmpOp)(a b:Expr)(t:TE):Prop :=
 ∀(pins:List (Addr×Obj))(s:Shared)(σ:St)(H:Hp)(Q:VK),Inv X pins σ H s->t σ H Q ->
  wpAny (model X.prog X.w) X.A (eval a X.env) (λv s₁=>wpAny (model X.prog X.w) X.A (eval b X.env) (λu s₂=>wpAny (model X.prog X.w) X.A (compareOp op v u) (EP X pins σ Q) X.xe s₂) X.xe s₁) X.xe s
def tB (t:TE):TT:=λσ H Q=>t σ H λx H1=>∃c,x=.bl c/\Q c H1
def bg {t:TE}(h:PC X op a b t)(h1:behindInMarks op b=false:=by first|exact nobehind _ (by decide) (by decide)|rfl):PT X (.Compare a [op] [b] pos) (tB t):=by
 intro pins s σ H Q I hw
 refine wpAny_isTrue_Compare1 (thn (h pins s σ H _ I hw) λv s1 h1=>thn h1 λu s2 h2=>thn h2 λc s3 z_=>?_) h1;obtain⟨x,H1,I1,r1,q1⟩:=z_;obtain⟨d,rfl,q⟩:=q1
 cases r1
 exact y_ ⟨H1,I1,q⟩
def zb (t u:TT):TT:=λσ H Q=>t σ H λc H1=>if c=true then u σ H1 Q else Q false H1
def tOr (t u:TT):TT:=λσ H Q=>t σ H λc H1=>if c=true then Q true H1 else u σ H1 Q
def zx (t:TT):TT:=λσ H Q=>t σ H λc H1=>Q (!c) H1
theorem aA (ha:PT X a tA):PW X (.BoolOp .And [a] pos) tA:=by
 intro wh pins s σ H Q I h
 refine isTrue_and (thn (ha pins s σ H Q I h) λc s1 e=>?_)
 cases c with
 | true=>exact isTrue_and_nil e
 | false=>exact e
theorem aT (ha:PT X a tA):PW X (.BoolOp .Or [a] pos) tA:=by
 intro wh pins s σ H Q I h
 refine isTrue_or (thn (ha pins s σ H Q I h) λc s1 e=>?_)
 cases c with
 | false=>exact isTrue_or_nil e
 | true=>exact e
theorem cJ (ha:PT X a tA)(hb:PW X (.BoolOp .And (b::rest) pos) tB'):PW X (.BoolOp .And (a::b::rest) pos) (zb tA tB'):=by
 intro wh pins s σ H Q I h
 refine isTrue_and (thn (ha pins s σ H _ I h) λc s1 z_=>?_);obtain⟨H1,I1,q1⟩:=z_
 cases c with
 | true=>exact hb wh pins s1 σ H1 Q I1 q1
 | false=>exact⟨H1,I1,q1⟩
theorem dg (ha:PT X a tA)(hb:PW X (.BoolOp .Or (b::rest) pos) tB'):PW X (.BoolOp .Or (a::b::rest) pos) (tOr tA tB'):=by
 intro wh pins s σ H Q I h
 refine isTrue_or (thn (ha pins s σ H _ I h) λc s1 z_=>?_);obtain⟨H1,I1,q1⟩:=z_
 cases c with
 | true=>exact⟨H1,I1,q1⟩
 | false=>exact hb wh pins s1 σ H1 Q I1 q1
def F0 (ha:PT X a tA):PT X (.UnaryOp .Not a pos) (zx tA):=by
 intro pins s σ H Q I h
 exact isTrue_not (ha pins s σ H (λc H1=>Q (!c) H1) I h)
def yk (ta tb:TE):TE:=λσ H Q=>ta σ H λx H1=>∃c,x=.bl c/\if c=true then tb σ H1 Q else Q (.bl false) H1
def yI (ta:TE):TE:=λσ H Q=>ta σ H λx H1=>∃c,x=.bl c/\Q (.bl (!c)) H1
def Y8 {op}{t:TE}(h:PE X a t):PE X (.BoolOp op [a] pos) t:=λpins s σ H Q I hw=>BoolOp_one (h pins s σ H Q I hw)
theorem T8 (ha:PE X a ta)(hb:PE X (.BoolOp .And (b::rest) pos) tb):PE X (.BoolOp .And (a::b::rest) pos) (yk ta tb):=by
 intro pins s σ H Q I h
 refine BoolOp_and (thx (ha pins s σ H _ I h) λv s1 x H1 I1 r1 q1=>?_);obtain⟨c,rfl,q1⟩:=q1
 cases r1
 refine y_ ?_
 cases c with
 | true=>exact hb pins s1 σ H1 Q I1 q1
 | false=>exact⟨.bl false,H1,I1,Iu,q1⟩
def oB (ha:PE X a ta):PE X (.UnaryOp .Not a pos) (yI ta):=by
 intro pins s σ H Q I h
 refine UnaryOp_ (thx (ha pins s σ H _ I h) λv s1 x H1 I1 r1 q1=>?_);obtain⟨c,rfl,q1⟩:=q1
 cases r1
 exact not_of (y_ ⟨.bl (!c),H1,I1,Iu,q1⟩)
def tIf (t:TT)(ta tb:TE):TE:=λσ H Q=>t σ H λc H1=>if c=true then ta σ H1 Q else tb σ H1 Q
theorem kK (hc:PT X c tA)(ha:PE X a ta)(hb:PE X b tb):PE X (.IfExp c a b pos) (tIf tA ta tb):=by
 intro pins s σ H Q I h
 refine wpAny_IfExp (thn (hc pins s σ H _ I h) λd s1 z_=>?_);obtain⟨H1,I1,q1⟩:=z_
 cases d with
 | true=>exact ha pins s1 σ H1 Q I1 q1
 | false=>exact hb pins s1 σ H1 Q I1 q1
def SqL (K:Frag)(H:Hp)(a:Addr)(xs:List V):Prop :=
 Rd H a (.lst xs) \/
  ∃(o:Obj)(its:Array Value)(n:Nat),K.lookup a=some o/\o.cls=.type "list"/\o.dict=none/\o.data=.seq its n/\its.size<=sizeLine/\o6 xs its.toList
def SqT (K:Frag)(H:Hp)(a:Addr)(xs:List V):Prop :=
 Rd H a (.tup xs) \/
  ∃(o:Obj)(its:Array Value)(n:Nat),K.lookup a=some o/\o.cls=.type "tuple"/\o.data=.seq its n/\its.size<=sizeLine/\o6 xs its.toList
def zG:Value->Option V
 | .none=>some .non
 | .bool b=>some (.bl b)
 | .int i _=>some (.int i)
 | .str x _=>some (.str x)
 | .bytes b _=>some (.byt b)
 | .float b _=>some (.flt b)
 | .ref a=>some (.ref a)
 | .type n=>some (.ty n)
 | _=>none
theorem u9.abs (r:u9 x u):zG u=some x:=by
 cases x with
 | non=>cases r;rfl
 | bl _=>cases r;rfl
 | int _=>obtain⟨t,rfl⟩:=r;rfl
 | str _=>obtain⟨t,rfl⟩:=r;rfl
 | byt _=>obtain⟨t,rfl⟩:=r;rfl
 | flt _=>obtain⟨t,rfl⟩:=r;rfl
 | ref _=>cases r;rfl
 | ty _=>cases r;rfl
theorem u9.inj (r:u9 x u)(q:u9 y u):x=y:=e_ (r.abs.symm.trans q.abs)
theorem o6.inj:∀{xs ys:List V}{us:List Value},o6 xs us->o6 ys us->xs=ys
 | _,_,_,.nil,.nil=>rfl
 | _,_,_,.cons r t,.cons r' t'=>by rw[r.inj r',o6.inj t t']
theorem SqL.of {H:Hp}{K:Frag}(h:H a=some (.lst xs)):SqL K H a xs:=.inl (.inl h)
theorem SqT.of {H:Hp}{K:Frag}(h:H a=some (.tup xs)):SqT K H a xs:=.inl (.inl h)
theorem Inv.list (I:Inv X pins σ H s)(h:SqL X.K H a xs):∃its:List Value,o6 xs its/\PlainL s.heap a its.toArray/\xs.length<=sizeLine:=by
 rcases h with h|⟨o,its,n,hk,hc,hd,hs,hz,r⟩
 ·obtain⟨z,its,n,r,e⟩:=h.ok I.hok
  exact⟨its,r,⟨_,n,e,Iu,Iu,Iu⟩,z⟩
 ·refine⟨its.toList,r,⟨o,n,I.kIn a o hk,hc,hd,by simpa using hs⟩,?_⟩
  have e:=r.length
  simp only[A_] at e
  lia
theorem Inv.tuple (I:Inv X pins σ H s)(h:SqT X.K H a xs):∃its:List Value,o6 xs its/\IsTup s.heap a its.toArray/\xs.length<=sizeLine:=by
 rcases h with h|⟨o,its,n,hk,hc,hs,hz,r⟩
 ·obtain⟨z,its,r,p⟩:=h.ok I.hok
  exact⟨its,r,p,z⟩
 ·refine⟨its.toList,r,⟨o,I.kIn a o hk,hc,n,by simpa using hs⟩,?_⟩
  have e:=r.length
  simp only[A_] at e
  lia
theorem Inv.list_inj (I:Inv X pins σ H s)(h:SqL X.K H a xs)(h':SqL X.K H a ys):xs=ys:=by
 obtain⟨its,r,⟨o,n,e,_,_,d⟩,_⟩:=I.list h;obtain⟨its',r',⟨o',n',e',_,_,d'⟩,_⟩:=I.list h';rw[e] at e';cases e';rw[d] at d'
 injection d' with d1 _
 have:its=its':=by simpa using B_ Array.toList d1
 subst this;exact r.inj r'
theorem Inv.tuple_inj (I:Inv X pins σ H s)(h:SqT X.K H a xs)(h':SqT X.K H a ys):xs=ys:=by
 obtain⟨its,r,⟨o,e,_,n,d⟩,_⟩:=I.tuple h;obtain⟨its',r',⟨o',e',_,n',d'⟩,_⟩:=I.tuple h';rw[e] at e';cases e';rw[d] at d'
 injection d' with d1 _
 have:its=its':=by simpa using B_ Array.toList d1
 subst this;exact r.inj r'
abbrev Cx.wish (X:Cx)(E:Value->Shared->Prop):Cx:={ X with xe:=E }
abbrev Cx.nox (X:Cx):Cx:=X.wish λ_ _=>False
theorem Cx.Ok.wish {X:Cx}(ok:X.Ok)(E:Value->Shared->Prop):(X.wish E).Ok :=
 ⟨ok.mod,ok.kind,ok.glob,ok.blt,ok.above,ok.inj,ok.has,ok.cab,ok.hd,ok.frames,ok.stk,ok.exf,ok.bs,ok.bsz,ok.noex,ok.exfs,ok.funs,ok.frf⟩
theorem Cx.Ok.unwish {X:Cx}(ok:(X.wish E).Ok):X.Ok :=
 ⟨ok.mod,ok.kind,ok.glob,ok.blt,ok.above,ok.inj,ok.has,ok.cab,ok.hd,ok.frames,ok.stk,ok.exf,ok.bs,ok.bsz,ok.noex,ok.exfs,ok.funs,ok.frf⟩
theorem Inv.wish (I:Inv X pins σ H s)(E:Value->Shared->Prop):Inv (X.wish E) pins σ H s:=⟨I.ok.wish E,I.os,I.bare,I.base,I.loc,I.cell,I.free,I.freeC,I.pin,I.hok,I.len⟩
theorem Inv.unwish {X:Cx}(I:Inv (X.wish E) pins σ H s):Inv X pins σ H s:=⟨I.ok.unwish,I.os,I.bare,I.base,I.loc,I.cell,I.free,I.freeC,I.pin,I.hok,I.len⟩
theorem SP.unwish {X:Cx}(h:SP (X.wish E) pins D f s'):SP X pins D f s':=by
 cases f with
 | next=>obtain⟨σ',H',I,q⟩:=h;exact⟨σ',H',I.unwish,q⟩
 | brk=>obtain⟨σ',H',I,q⟩:=h;exact⟨σ',H',I.unwish,q⟩
 | cont=>obtain⟨σ',H',I,q⟩:=h;exact⟨σ',H',I.unwish,q⟩
 | ret u=>obtain⟨v,σ',H',I,r,q⟩:=h;exact⟨v,σ',H',I.unwish,r,q⟩
theorem PSs.nox {X:Cx}{st:List Stmt}{t:TS}(h:PSs X.nox st t):PSs X st t:=λpins s σ H D I hw =>
 x_ (h pins s σ H D (I.wish _) hw) (λ_ _ q=>q.unwish) λ_ _ z=>False.elim z
section
variable {st:Stmt}{t u:TS}
def tD:TS:=λD σ H=>D.nx σ H
def yl (t u:TS):TS:=λD σ H=>t { D with nx:=u D } σ H
def l7:PSs X [] tD:=λ_ _ σ H _ I h=>C_ ⟨σ,H,I,h⟩
theorem d9 (h1:PS X st t)(h2:PSs X rest u):PSs X (st::rest) (yl t u):=by
 intro pins s σ H D I h
 refine wpAny_execs_cons (thn (h1 pins s σ H { D with nx:=u D } I h) λf s1 q=>?_)
 cases f with
 | next =>
  obtain⟨σ',H',I',q⟩:=q;exact h2 pins s1 σ' H' D I' q
 | ret v=>exact q
 | brk=>exact q
 | cont=>exact q
theorem h9 (h1:PS X st t):PSs X [st] t:=by
 intro pins s σ H D I h
 refine wpAny_execs_cons (thn (h1 pins s σ H D I h) λf s1 q=>?_)
 cases f with
 | next=>exact C_ q
 | ret v=>exact q
 | brk=>exact q
 | cont=>exact q
theorem Inv.quiet (I:Inv X pins σ H s):interactive X.env=false:=by simp[interactive,I.ok.kind]
def yL (te:TE):TS:=λD σ H=>te σ H λ_ H1=>D.nx σ H1
def C3 {pos:Pos}(he:PE X e te)(hs:swapsWith e none pos.line X.env=pure false:=by rfl):PS X (.Expr e pos) (yL te):=by
 intro pins s σ H D I h
 exact wpAny_Expr_any (thx (he pins s σ H _ I h) λv s1 x H1 I1 r1 q1=>⟨σ,H1,I1,q1⟩) I.quiet hs
def zl (te:TE):TS:=λD σ H=>te σ H D.rt
def j5 (he:PE X e te):PS X (.Return (some e) pos) (zl te):=by
 intro pins s σ H D I h
 exact wpAny_Return_some (thx (he pins s σ H _ I h) λv s1 x H1 I1 r1 q1=>⟨x,σ,H1,I1,r1,q1⟩)
def zA (c:TT)(t u:TS):TS:=λD σ H=>c σ H λb H1=>if b=true then t D σ H1 else u D σ H1
theorem n6 (hc:PT X c tc)(ha:PSs X a t)(hb:PSs X b u):PS X (.If c a b pos) (zA tc t u):=by
 intro pins s σ H D I h
 refine wpAny_If (thn (hc pins s σ H _ I h) λd s1 z_=>?_);obtain⟨H1,I1,q1⟩:=z_
 cases d with
 | true=>exact ha pins s1 σ H1 D I1 q1
 | false=>exact hb pins s1 σ H1 D I1 q1
def wL:TS:=λ_ _ _=>False
def N0:PS X st wL:=λ_ _ _ _ _ _ h=>h.elim
end
abbrev TG:=V->St->Hp->(St->Hp->Prop)->Prop
abbrev TGs:=List V->St->Hp->(St->Hp->Prop)->Prop
def PG (X:Cx)(target:Expr)(t:TG):Prop :=
 ∀(pins:List (Addr×Obj))(s:Shared)(σ:St)(H:Hp)(v:V)(u:Value)(Q:St->Hp->Prop),Inv X pins σ H s->u9 v u->t v σ H Q ->
  wpAny (model X.prog X.w) X.A (assign target X.env u) (λ_ s'=>∃σ' H',Inv X pins σ' H' s'/\Q σ' H') X.xe s
def PGs (X:Cx)(ts:List Expr)(t:TGs):Prop :=
 ∀(pins:List (Addr×Obj))(s:Shared)(σ:St)(H:Hp)(vs:List V)(us:List Value)(Q:St->Hp->Prop),Inv X pins σ H s->o6 vs us->t vs σ H Q ->
  wpAny (model X.prog X.w) X.A (assignInOrder ((assignEach ts X.env).map (·.2)) us) (λ_ s'=>∃σ' H',Inv X pins σ' H' s'/\Q σ' H') X.xe s
abbrev ug:=V->V->V->Hp->(Hp->Prop)->Prop
def vI (X:Cx)(t:ug):Prop :=
 ∀(pins:List (Addr×Obj))(s:Shared)(σ:St)(H:Hp)(o i v:V)(ov iv u:Value)(Q:Hp->Prop),Inv X pins σ H s->u9 o ov->u9 i iv->u9 v u->t o i v H Q ->
  wpAny (model X.prog X.w) X.A (setItem ov iv u) (λ_ s'=>∃H',Inv X pins σ H' s'/\Q H') X.xe s
abbrev TIp:=V->V->Hp->VK->Prop
def PIp (X:Cx)(op:Operator)(t:TIp):Prop :=
 ∀(pins:List (Addr×Obj))(s:Shared)(σ:St)(H:Hp)(x y:V)(v u:Value)(Q:VK),Inv X pins σ H s->u9 x v->u9 y u->t x y H Q ->
  wpAny (model X.prog X.w) X.A (inplaceOp op v u) (EP X pins σ Q) X.xe s
def P2 (i:Nat):TG:=λv σ H Q=>Q (σ.set i (some v)) H
def l8 {X:Cx}{i:Nat}(hN:X.N.Nodup)(hi:X.N[i]? = some x)(hx:Loc X.env.scope x)(hf:X.fn x=true\/X.env.scope.names.lookup x=some .local:=by first|exact .inl rfl|exact .inr rfl|assumption):PG X (.Name x pos) (P2 i):=by
 intro pins s σ H v u Q I r h
 exact wpAny_assign_Name (fL I hN hi hx r (λs' I'=>⟨_,H,I',h⟩) hf)
def tq:TGs:=λvs σ H Q=>vs=[]/\Q σ H
def Z4 (t:TG)(u:TGs):TGs:=λvs σ H Q=>∃v r,vs=v::r/\t v σ H λσ' H'=>u r σ' H' Q
def pX:PGs X [] tq:=by
 intro pins s σ H vs us Q I r h
 obtain⟨e,h⟩:=h;subst e
 cases r
 exact assignInOrder_nil ⟨σ,H,I,h⟩
theorem af {t:TG}(h1:PG X e t)(h2:PGs X es u)
  (hs:(assignEach (e::es) X.env).map (·.2)=assign e X.env::(assignEach es X.env).map (·.2):=by rfl):PGs X (e::es) (Z4 t u):=by
 intro pins s σ H vs us Q I r h
 obtain⟨v,vr,e1,h⟩:=h;subst e1
 cases r with
 | cons r rr =>
  rw[hs];refine assignInOrder_cons (thn (h1 pins s σ H _ _ _ I r h) λ_ s1 z_=>?_);obtain⟨σ1,H1,I1,q1⟩:=z_;exact h2 pins s1 σ1 H1 _ _ Q I1 rr q1
def um (K:Frag)(n:Nat)(t:TGs):TG:=λv σ H Q=>∃a xs,v=.ref a/\SqT K H a xs/\xs.length=n/\t xs σ H Q
def uq {X:Cx}{k:Nat}{t:TGs}{n:Nat}(hc:X.calm=true)(h:PGs X es t)
  (hn:(assignEach es X.env).length=n:=by rfl)(hst:(assignEach es X.env).findIdx? (·.1)=none:=by rfl):PG X (.Tuple es k pos) (um X.K n t):=by
 intro pins s σ H v u Q I r hw
 obtain⟨a,xs,e1,hq,hl,hw⟩:=hw;subst e1
 cases r
 obtain⟨its,rv,ht,hz⟩:=I.tuple hq;refine assign_Tuple_tuple (I.ok.hd hc) ht (by simp[hn,<- hl,rv.length]) hst λh' hx=>?_
 have I1:Inv X pins σ H { s with heap:=h' }:=I.kept (t':=s.toks) λb o e=>hx b o (h_ (f_ e)) e
 exact h pins _ σ H xs _ Q I1 (by simpa using rv) hw
def zw (to ti:TE)(t:ug):TG:=λv σ H Q=>to σ H λo H1=>ti σ H1 λi H2=>t o i v H2 λH3=>Q σ H3
def wH {t:ug}(ho:PE X o to)(hi:PE X i ti)(hs:vI X t)
  (ha:∀v,assign (.Subscript o i pos) X.env v=(do
   let ov <- holding [v] (eval o X.env)
   let iv <- holding [v,ov] (eval i X.env)
   standAt pos
   holding [v,ov,iv] (setItem ov iv v)
   release [v,ov,iv] []):=by intro _;rfl):PG X (.Subscript o i pos) (zw to ti t):=by
 intro pins s σ H v u Q I r h
 rw[ha];refine w_ (D_ (thx (ho pins s σ H _ I h) λov s1 x H1 I1 r1 q1=>?_));refine w_ (D_ (thx (hi pins s1 σ H1 _ I1 q1) λiv s2 y H2 I2 r2 q2=>?_));refine w_ (E_ (w_ (D_ (thn (hs pins s2 σ H2 x y v ov iv u _ I2 r1 r2 r q2) λ_ s3 z_=>?_))));obtain⟨H3,I3,q3⟩:=z_;exact wpAny_release ⟨σ,H3,I3,q3⟩
def wS (te:TE)(g:TG):TS:=λD σ H=>te σ H λx H1=>g x σ H1 D.nx
def tL {pos:Pos}(he:PE X e te)(hg:PG X tg g)(hs:swapsWithSole [tg] e pos.line X.env=pure false:=by rfl)(hw:swappedStores [tg] e X.env=pure none:=by rfl)
  (h1:(assignEach [tg] X.env).map (·.2)=[assign tg X.env]:=by rfl):PS X (.Assign [tg] e pos) (wS te g):=by
 intro pins s σ H D I h
 refine wpAny_Assign_stores (thx (he pins s σ H _ I h) λv s1 x H1 I1 r1 q1=>?_) hs hw;rw[h1];exact thn (hg pins s1 σ H1 x v _ I1 r1 q1) λ_ s2 q=>q
def j4 {X:Cx}{pos:Pos}{i:Nat}(hN:X.N.Nodup)(hi:X.N[i]? = some x)(hx:Loc X.env.scope x)(he:PE X e te)(hs:swapsWith e (some (.Name x pos')) pos.line X.env=pure false:=by rfl)(hf:X.fn x=true\/X.env.scope.names.lookup x=some .local:=by first|exact .inl rfl|exact .inr rfl|assumption) :
  PS X (.Assign [.Name x pos'] e pos) (wS te (P2 i)):=by
 intro pins s σ H D I h
 refine wpAny_Assign_Name (thx (he pins s σ H _ I h) λv s1 y H1 I1 r1 q1=>?_) hs;exact fL I1 hN hi hx r1 (λs2 I2=>⟨_,H1,I2,q1⟩) hf
def yV (to ti te:TE)(tget:V->V->Hp->VK->Prop)(tip:TIp)(tset:ug):TS:=λD σ H=>to σ H λo H1=>ti σ H1 λi H2=>tget o i H2 λx H3=>te σ H3 λy H4=>tip x y H4 λz H5=>tset o i z H5 λH6=>D.nx σ H6
def xu (X:Cx)(t:V->V->Hp->VK->Prop):Prop :=
 ∀(pins:List (Addr×Obj))(s:Shared)(σ:St)(H:Hp)(o i:V)(ov iv:Value)(Q:VK),Inv X pins σ H s->u9 o ov->u9 i iv->t o i H Q ->
  wpAny (model X.prog X.w) X.A (getItem ov iv) (EP X pins σ Q) X.xe s
def ql (ho:PE X o to)(hi:PE X i ti)(hg:xu X tget)(he:PE X e te)(hp:PIp X op tip)(hs:vI X tset)
  (ha:∀ov iv new,augStore i ov iv new=(do holding [new,ov,iv] (setItem ov iv new);release [new,ov,iv] [];pure .next):=by intros;rfl):PS X (.AugAssign (.Subscript o i tpos) op e pos) (yV to ti te tget tip tset):=by
 intro pins s σ H D I h
 refine wpAny_AugAssign_SubscriptAny (thx (ho pins s σ H _ I h) λov s1 x1 H1 I1 r1 q1=>?_) ha;refine thx (hi pins s1 σ H1 _ I1 q1) λiv s2 x2 H2 I2 r2 q2=>?_;refine thx (hg pins s2 σ H2 x1 x2 ov iv _ I2 r1 r2 q2) λold s3 x3 H3 I3 r3 q3=>?_;refine thx (he pins s3 σ H3 _ I3 q3) λv s4 x4 H4 I4 r4 q4=>?_;refine thx (hp pins s4 σ H4 x3 x4 old v _ I4 r3 r4 q4) λnew s5 x5 H5 I5 r5 q5=>?_;exact thn (hs pins s5 σ H5 x1 x2 x5 ov iv new _ I5 r1 r2 r5 q5) λ_ s6 ⟨H6,I6,q6⟩=>⟨σ,H6,I6,q6⟩
def xa (c:TT)(tb:TS):TS:=λD σ H=>∃W:Nat->St->Hp->Prop,(∃m,W m σ H)/\∀m σ H,W m σ H ->
 c σ H λb H1=>if b=true then ∃N:St->Hp->Prop,(∀σ' H',N σ' H'->∃m',m'<m/\W m' σ' H')/\tb { D with nx:=N,ct:=N,bk:=D.nx } σ H1 else D.nx σ H1
theorem lM {X:Cx}(hp:PassesOwn (model X.prog X.w) X.A X.env X.xe)(hc:PT X c tc)(hb:PSs X body tb):PS X (.While c body [] pos) (xa tc tb):=by
 intro pins s σ H D I h
 obtain⟨W,⟨m0,w0⟩,turn⟩:=h;refine wpAny_While (codeAny_whileLoop (λn s'=>∃σ' H',Inv X pins σ' H' s'/\W n σ' H') ?_ m0 ⟨σ,H,I,w0⟩)
 rintro n s1 ⟨σ1,H1,I1,w1⟩
 refine Eh hp (thn (hc pins s1 σ1 H1 _ I1 (turn n σ1 H1 w1)) λb s2 z_=>?_);obtain⟨H2,I2,q2⟩:=z_
 cases b with
 | true =>
  obtain⟨N,hN,q2⟩:=q2;rw[Ik rfl];refine Eh hp (thn (hb pins s2 σ1 H2 _ I2 q2) λf s3 q3=>?_)
  cases f with
  | next =>
   obtain⟨σ3,H3,I3,n3⟩:=q3;obtain⟨m',hm,w3⟩:=hN σ3 H3 n3;exact⟨m',hm,σ3,H3,I3,w3⟩
  | cont =>
   obtain⟨σ3,H3,I3,n3⟩:=q3;obtain⟨m',hm,w3⟩:=hN σ3 H3 n3;exact⟨m',hm,σ3,H3,I3,w3⟩
  | brk=>exact q3
  | ret v=>exact q3
 | false =>
  rw[Il Ei];exact C_ ⟨σ1,H2,I2,q2⟩
structure It where
 go:Nat->Hp->Prop
 yld:Nat->Hp->V->Hp->Prop
 stop:Nat->Hp->Prop
def gf (X:Cx)(pins:List (Addr×Obj))(H:Hp)(b:Addr):Prop :=
 H b=none/\b≠X.env.locals/\b∉X.fs/\(b∈X.ex\/X.s₀.heap.objs.size<=b)/\(∀x c,X.env.cells.lookup x=some c->c≠b)/\∀p∈X.pn++pins,p.1≠b
theorem Inv.fpOk {H H':Hp}(I:Inv X pins σ H s)(hb:s.heap.objs.size<=b)(hn:H' b=none):gf X pins H' b:=by
 refine⟨hn,Ej (ff I.lt hb),I.nofs hb,.inr (k_ I.sz hb),λx c e z=>?_,λp hp z=>?_⟩
 ·obtain⟨v,q⟩:=I.cell x c e
  exact absurd (ff q.lt (by rw[z];exact hb)) (g_ _)
 ·exact absurd (ff (f_ (I.pin p hp).1) (by rw[z];exact hb)) (g_ _)
structure qW (P:Program)(w:World)(K:Frag)(tg:Expr)(J:It)(fp:List Addr)(it:Addr)(tn:Nat->Heap->Prop):Prop where
 mem:it∈fp
 obj:∀i h,tn i h->∀b∈fp,∃o,h.get? b=some o/\∀v,o.data≠.cell v
 keep:∀i h h',tn i h->(∀b∈fp,∀o,h.get? b=some o->h'.get? b=some o)->tn i h'
 item:∀(X:Cx),X.prog=P->X.w=w->X.K=K->X.calm=true->∀(i:Nat)(pins:List (Addr×Obj))(s:Shared)(σ:St)(H:Hp)(E:Value->Shared->Prop),Inv X pins σ H s->(∀b∈fp,gf X pins H b)->tn i s.heap->J.go i H ->
  wpAny (model P w) X.A (pyNext (.ref it)) (λr s1=>∃u,r=some u /\
   wpAny (model P w) X.A (letOwnedTupleGo tg (.ref it) u) (λ_ s2=>∃x H',Inv X pins σ H' s2/\u9 x u/\J.yld i H x H'/\tn (i+1) s2.heap/\∀b∈fp,H' b=none) E s1) E s
 done:∀(X:Cx),X.prog=P->X.w=w->X.K=K->X.calm=true->∀(i:Nat)(pins:List (Addr×Obj))(s:Shared)(σ:St)(H:Hp)(E:Value->Shared->Prop),Inv X pins σ H s->(∀b∈fp,gf X pins H b)->tn i s.heap->J.stop i H ->
  wpAny (model P w) X.A (pyNext (.ref it)) (λr s1=>r=none/\Inv X pins σ H s1) E s
 self:∀(A:Around)(i:Nat)(s:Shared)(Q:Value->Shared->Prop)(E:Value->Shared->Prop),tn i s.heap->Q (.ref it) s->wpAny (model P w) A (pyIter (.ref it)) Q E s
abbrev TI:=St->Hp->(It->Hp->Prop)->Prop
def PIE (X:Cx)(pins:List (Addr×Obj))(σ:St)(tg:Expr)(R:It->Hp->Prop)(itv:Value)(s2:Shared):Prop :=
 ∃(it:Addr)(fp:List Addr)(tn:Nat->Heap->Prop)(J:It)(H':Hp),itv=.ref it/\Inv X pins σ H' s2/\qW X.prog X.w X.K tg J fp it tn/\tn 0 s2.heap/\(∀b∈fp,gf X pins H' b)/\R J H'
def PI (X:Cx)(tg iter:Expr)(wi:TI):Prop :=
 ∀(pins:List (Addr×Obj))(s:Shared)(σ:St)(H:Hp)(R:It->Hp->Prop),Inv X pins σ H s->wi σ H R ->
  wpAny (model X.prog X.w) X.A (eval iter X.env) (λv s1=>wpAny (model X.prog X.w) X.A (pyIter v) (PIE X pins σ tg R) X.xe s1) X.xe s
def sy {s:Shared}{Q:Unit->Shared->Prop}(ho:s.heap.get? it=some o)(hc:o.cls=.type n)(hd:o.data=.fields vs)
    (hn:["enumerate","zip","dict_itemiterator","dict_reverseitemiterator","odict_iterator","itertools.zip_longest","itertools.pairwise"].contains n=false)(hQ:Q () s):wpAny M A (letOwnedTupleGo tg (.ref it) u) Q E s:=by
  unfold letOwnedTupleGo
  cases tg<;>first
    | exact u_ hQ
    | (cases u<;>first
        | exact u_ hQ
        | (refine w_ (wpAny_load ho ?_)
           rw[hc,hd]
           show wpAny M A (if (["enumerate","zip","dict_itemiterator","dict_reverseitemiterator","odict_iterator","itertools.zip_longest","itertools.pairwise"].contains n&&vs[0]?==some (rawInt _))=true then _ else _) Q E s
           rw[Il (by intro h;rw[hn,Ek] at h;cases h)]
           exact u_ hQ))
def Itl (K:Frag)(a:Addr):It :=
 ⟨λi H=>∃xs x,SqL K H a xs/\xs[i]? = some x,λi H x H'=>H'=H/\∀xs,SqL K H a xs->xs[i]? = some x,λi H=>∃xs,SqL K H a xs/\xs.length<=i⟩
def Itt (K:Frag)(a:Addr):It :=
 ⟨λi H=>∃xs x,SqT K H a xs/\xs[i]? = some x,λi H x H'=>H'=H/\∀xs,SqT K H a xs->xs[i]? = some x,λi H=>∃xs,SqT K H a xs/\xs.length<=i⟩
def Itr (lo:Int)(n:Nat):It:=⟨λi _=>i<n,λi H x H'=>H'=H/\x=.int (lo+i),λi _=>n<=i⟩
def rp {K:Frag}(a it:Addr):qW P w K tg (Itl K a) [it] it (λi h=>h.IsListIter it a i) where
 mem:=by simp
 obj:=λi h st b hb=>by
  have e:b=it:=by simpa using hb
  subst e;obtain⟨o,e,c,d⟩:=st;exact⟨o,e,λv z=>by rw[d] at z;cases z⟩
 keep:=λi h h' st k=>st.at λo e=>k it (by simp) o e
 item:=by
  intro X hP hw hK hc i pins s σ H E I hf st hg
  subst hP hw hK;obtain⟨xs,x,hq,hx⟩:=hg;obtain⟨its,rv,p,hz⟩:=I.list hq;obtain⟨u,hu,ru⟩:=rv.get hx;obtain⟨f0,f1,f2,f3,f4,f5⟩:=hf it (by simp)
  refine wpAny_pyNext_list_item st p.isList (x:=u) (by simpa using hu) λh' st' sb=>?_
  have I1:Inv X pins σ H { s with heap:=h' }:=I.turned (t':=s.toks) (λb o hb e=>(sb.2 b hb).trans e) f0 f1 f3 f4 f5
  obtain⟨o,e,c,d⟩:=id st';exact⟨u,Iu,sy (s:={ s with heap:=h' }) e c d (by decide) ⟨x,H,I1,ru,⟨Iu,λys hy=>by rw[I.list_inj hy hq];exact hx⟩,st',λb hb=>(hf b hb).1⟩⟩
 done:=by
  intro X hP hw hK hc i pins s σ H E I hf st hg
  subst hP hw hK;obtain⟨xs,hq,hx⟩:=hg;obtain⟨its,rv,p,hz⟩:=I.list hq;obtain⟨f0,f1,f2,f3,f4,f5⟩:=hf it (by simp)
  have hl:=rv.length;exact wpAny_pyNext_list_end (I.ok.hd hc) st p.isList (by simp;lia) λh' eb=>⟨Iu,I.turned (t':=s.toks) (λb o hb e=>eb b o hb e) f0 f1 f3 f4 f5⟩
 self:=λ_ _ _ _ _ st h=>wpAny_pyIter_listiter st h
def oE {K:Frag}(a it:Addr):qW P w K tg (Itt K a) [it] it (λi h=>h.IsTupleIter it a i) where
 mem:=by simp
 obj:=λi h st b hb=>by
  have e:b=it:=by simpa using hb
  subst e;obtain⟨o,e,c,d⟩:=st;exact⟨o,e,λv z=>by rw[d] at z;cases z⟩
 keep:=λi h h' st k=>st.at λo e=>k it (by simp) o e
 item:=by
  intro X hP hw hK hc i pins s σ H E I hf st hg
  subst hP hw hK;obtain⟨xs,x,hq,hx⟩:=hg;obtain⟨its,rv,p,hz⟩:=I.tuple hq;obtain⟨u,hu,ru⟩:=rv.get hx;obtain⟨f0,f1,f2,f3,f4,f5⟩:=hf it (by simp)
  refine wpAny_pyNext_tuple_item st (show s.heap.IsTuple a its.toArray from p) (x:=u) (by simpa using hu) λh' st' sb=>?_
  have I1:Inv X pins σ H { s with heap:=h' }:=I.turned (t':=s.toks) (λb o hb e=>(sb.2 b hb).trans e) f0 f1 f3 f4 f5
  obtain⟨o,e,c,d⟩:=id st';exact⟨u,Iu,sy (s:={ s with heap:=h' }) e c d (by decide) ⟨x,H,I1,ru,⟨Iu,λys hy=>by rw[I.tuple_inj hy hq];exact hx⟩,st',λb hb=>(hf b hb).1⟩⟩
 done:=by
  intro X hP hw hK hc i pins s σ H E I hf st hg
  subst hP hw hK;obtain⟨xs,hq,hx⟩:=hg;obtain⟨its,rv,p,hz⟩:=I.tuple hq;obtain⟨f0,f1,f2,f3,f4,f5⟩:=hf it (by simp)
  have hl:=rv.length;exact wpAny_pyNext_tuple_end (I.ok.hd hc) st (show s.heap.IsTuple a its.toArray from p) (by simp;lia) λh' eb=>⟨Iu,I.turned (t':=s.toks) (λb o hb e=>eb b o hb e) f0 f1 f3 f4 f5⟩
 self:=λ_ _ _ _ _ st h=>wpAny_pyIter_tupleiter st h
def nF {K:Frag}(it:Addr)(lo:Int)(n:Nat):qW P w K tg (Itr lo n) [it] it (λi h=>IsRangeIter h it (lo+(i:Nat)*1) ((n:Int)-(i:Nat)) 1) where
 mem:=by simp
 obj:=λi h st b hb=>by
  have e:b=it:=by simpa using hb
  subst e
  exact⟨_,st,λv z=>by
   have z':Data.fields _=Data.cell v:=z
   cases z'⟩
 keep:=λi h h' st k=>k it (by simp) _ st
 item:=by
  intro X hP hw hK hc i pins s σ H E I hf st hg
  subst hP hw hK;obtain⟨f0,f1,f2,f3,f4,f5⟩:=hf it (by simp)
  have W:=Walks.range (prog:=X.prog) (w:=X.w) (I.ok.hd hc) it lo 1 n;refine W.item i s _ _ hg st λv h' tk hv st' kk=>?_;obtain⟨t,rfl⟩:=hv;have I1:Inv X pins σ H { s with heap:=h',toks:=tk }:=I.turned (λb o hb e=>kk b o (by simpa using hb) e) f0 f1 f3 f4 f5
  refine⟨_,Iu,sy (s:={ s with heap:=h',toks:=tk }) (n:="range_iterator") st' rfl rfl (by decide) ⟨.int (lo+i),H,I1,⟨t,?_⟩,⟨Iu,Iu⟩,st',λb hb=>(hf b hb).1⟩⟩
  rw[Int.mul_one]
 done:=by
  intro X hP hw hK hc i pins s σ H E I hf st hg
  subst hP hw hK;obtain⟨f0,f1,f2,f3,f4,f5⟩:=hf it (by simp)
  exact wpAny_pyNext_range_end (I.ok.hd hc) st (by have:n<=i:=hg;lia) λh' eb=>⟨Iu,I.turned (t':=s.toks) (λb o hb e=>eb b o hb e) f0 f1 f3 f4 f5⟩
 self:=λ_ _ _ _ _ st h=>wpAny_pyIter_rangeiter st h
def wB (K:Frag)(tl:TE):TI:=λσ H R=>tl σ H λx H1=>∃a,x=.ref a/\(∃xs,SqL K H1 a xs)/\R (Itl K a) H1
def yZ (K:Frag)(tl:TE):TI:=λσ H R=>tl σ H λx H1=>∃a,x=.ref a/\(∃xs,SqT K H1 a xs)/\R (Itt K a) H1
def vx (hl:PE X l tl):PI X tg l (wB X.K tl):=by
 intro pins s σ H R I h
 refine thx (hl pins s σ H _ I h) λv s1 x H1 I1 r1 q1=>?_;obtain⟨a,e,⟨xs,hq⟩,q⟩:=q1;subst e
 cases r1
 obtain⟨its,rv,p,hz⟩:=I1.list hq;refine El p.isList ?_;refine⟨s1.heap.objs.size,[s1.heap.objs.size],_,_,H1,Iu,I1.kept (t':=s1.toks) λb o e=>Em _ e,rp a _,⟨_,En _ rfl,Iu,Iu⟩,λb hb=>?_,q⟩;have e:b=s1.heap.objs.size:=by simpa using hb
 subst e;exact I1.fpOk (Eo _) (I1.hok.fresh (Eo _))
def xm (hl:PE X l tl):PI X tg l (yZ X.K tl):=by
 intro pins s σ H R I h
 refine thx (hl pins s σ H _ I h) λv s1 x H1 I1 r1 q1=>?_;obtain⟨a,e,⟨xs,hq⟩,q⟩:=q1;subst e
 cases r1
 obtain⟨its,rv,p,hz⟩:=I1.tuple hq;refine wpAny_pyIter_tuple (show s1.heap.IsTuple a its.toArray from p) ?_;refine⟨s1.heap.objs.size,[s1.heap.objs.size],_,_,H1,Iu,I1.kept (t':=s1.toks) λb o e=>Em _ e,oE a _,⟨_,En _ rfl,Iu,Iu⟩,λb hb=>?_,q⟩;have e:b=s1.heap.objs.size:=by simpa using hb
 subst e;exact I1.fpOk (Eo _) (I1.hok.fresh (Eo _))
def su {R:It->Hp->Prop}{lo hi:Int}{t u v:Tok}{tk:Nat}(I:Inv X pins σ H s)(h1:-(2^62)<=lo)(h2:lo<2^62)(h3:-(2^62)<=hi)(h4:hi<2^62)
  (q:R (Itr lo (hi-lo).toNat) H):wpAny (model X.prog X.w) X.A (pyIter (.ref s.heap.objs.size)) (PIE X pins σ tg R) E { s with heap:=s.heap.push { cls:=.type "range",data:=.fields #[.int lo t,.int hi u,.int 1 v] },toks:=tk }:=by
 refine wpAny_pyIter_range (IsRange.new ..) (small_one h1 h2 h3 h4) ?_;have I1:Inv X pins σ H { s with heap:=s.heap.push { cls:=.type "range",data:=.fields #[.int lo t,.int hi u,.int 1 v] },toks:=tk }:=I.kept λb o e=>Em _ e
 refine⟨(s.heap.push { cls:=.type "range",data:=.fields #[.int lo t,.int hi u,.int 1 v] }).objs.size,[(s.heap.push { cls:=.type "range",data:=.fields #[.int lo t,.int hi u,.int 1 v] }).objs.size],_,_,H,Iu,
  I1.kept (t':=tk) λb o e=>Em _ e,nF _ lo (hi-lo).toNat,?_,λb hb=>?_,q⟩
 ·have e1:lo+((0:Nat):Int)*1=lo:=by simp
  have e2:(((hi-lo).toNat:Nat):Int)-((0:Nat):Int)=Builtin.Range.rangeSize lo hi 1:=by rw[rangeSize_one];split<;>lia
  show IsRangeIter _ _ (lo+((0:Nat):Int)*1) ((((hi-lo).toNat:Nat):Int)-((0:Nat):Int)) 1
  rw[e1,e2];exact En _ rfl
 ·have e:b=(s.heap.push { cls:=.type "range",data:=.fields #[.int lo t,.int hi u,.int 1 v] }).objs.size:=by simpa using hb
  subst e;exact I1.fpOk (Eo _) (I1.hok.fresh (Eo _))
def ye (ta:TA):TI:=λσ H R=>ta σ H λvs H1=>∃j:Int,vs=[.int j]/\-(2^62)<=j/\j<2^62/\R (Itr 0 j.toNat) H1
theorem C8 (hg:Gl X "range")(hm:X.mg "range" = none)(ha:PA X [a] ta)(hs:starEach [a] X.env=[(false,eval a X.env)]:=by rfl):PI X tg (.Call (.Name "range" p) [a] [] pos) (ye ta):=by
 intro pins s σ H R I h
 refine Call_ (bh I hg hm boot_range (Ep (thx (ha pos pins s σ H _ I h) λus s1 vs H1 I1 r1 q1=>?_) hs rfl));obtain⟨j,e,q1,q2,q⟩:=q1;subst e
 cases r1 with
 | cons r rr =>
  cases rr
  obtain⟨t,rfl⟩:=r;exact call_range_1 (su I1 (by lia) (by lia) q1 q2 (by simpa using q))
def zv (wi:TI)(g:TG)(tb:TS):TS:=λD σ H=>wi σ H λJ H1=>∃W:Nat->Nat->St->Hp->Prop,(∃m,W 0 m σ H1)/\∀i m σ H,W i m σ H ->
 (J.stop i H/\D.nx σ H)\/(J.go i H/\∃N:St->Hp->Prop,(∀σ' H',N σ' H'->∃m',m'<m/\W (i+1) m' σ' H')/\∀x H',J.yld i H x H'->g x σ H' λσ2 H2=>tb { D with nx:=N,ct:=N,bk:=D.nx } σ2 H2)
def Z9 (fp:List Addr)(h:Heap):List (Addr×Obj):=fp.filterMap λb=>(h.get? b).map λo=>(b,o)
def W5 {h:Heap}(hb:b∈fp)(e:h.get? b=some o):(b,o)∈Z9 fp h:=Er.mpr ⟨b,hb,by rw[e];rfl⟩
theorem ij (hp:p∈Z9 fp h):p.1∈fp/\h.get? p.1=some p.2:=by
 obtain⟨b,hb,e⟩:=Er.mp hp
 cases q:h.get? b with
 | none=>rw[q] at e;cases e
 | some o =>
  rw[q] at e;have e':(b,o)=p:=e_ e;subst e';exact⟨hb,q⟩
theorem Inv.pinned (I:Inv X pins σ H s)(hf:∀b∈fp,gf X pins H b)(ho:∀b∈fp,∃o,s.heap.get? b=some o/\∀v,o.data≠.cell v):Inv X (pins++Z9 fp s.heap) σ H s :=
 I.pins_of λp hp=>(q_.mp hp).elim (λz=>I.pin p (Es _ z)) λz=>by
  obtain⟨hb,e⟩:=ij z;obtain⟨f0,f1,f2,_⟩:=hf p.1 hb;obtain⟨o,e',d⟩:=ho p.1 hb;rw[e] at e';cases e';exact⟨e,f0,f1,f2,d⟩
theorem Inv.unpinned (I:Inv X (pins++pl) σ H s):Inv X pins σ H s:=I.pins_of λp hp=>I.pin p (Es _ (r_ _ hp))
def w5 {X:Cx}{iter:Expr}(hp:PassesOwn (model X.prog X.w) X.A X.env X.xe)(hc:X.calm=true)(hi:PI X tg iter wi)(hg:PG X tg g)(hb:PSs X body tb)
  (hs:∀x,foldedSetIterable iter X.env x=pure x:=by intro _;rfl):PS X (.For tg iter body [] pos) (zv wi g tb):=by
 intro pins s σ H D I h
 refine wpAny_For (thn (hi pins s σ H _ I h) λv s1 h1=>thn h1 λitv s2 h2=>?_) hs;obtain⟨it,fp,tn,J,H2,e,I2,T,st2,f2,W,⟨m0,w0⟩,turn⟩:=h2;subst e;have stat:∀{H':Hp},(∀b∈fp,H' b=none)->∀b∈fp,gf X pins H' b:=λhn b hb=>⟨hn b hb,(f2 b hb).2⟩;refine codeAny_forLoop_any (λn s'=>∃i σ' H',Inv X pins σ' H' s'/\tn i s'.heap/\(∀b∈fp,H' b=none)/\W i n σ' H') ?_ m0 ⟨0,σ,H2,I2,st2,λb hb=>(f2 b hb).1,w0⟩
 rintro n s3 ⟨i,σ3,H3,I3,st3,fr3,w3⟩
 rcases turn i n σ3 H3 w3 with⟨stop,qn⟩|⟨go,N,hN,step⟩
 ·refine Eh hp (thn (T.done X rfl rfl rfl hc i pins s3 σ3 H3 X.xe I3 (stat fr3) st3 stop) λr s4 z_=>?_);obtain⟨hr,I4⟩:=z_
  subst hr;exact C_ ⟨σ3,H3,I4,qn⟩
 ·refine Eh hp (thn (T.item X rfl rfl rfl hc i pins s3 σ3 H3 X.xe I3 (stat fr3) st3 go) λr s4 z_=>?_);obtain⟨u,hr,h4⟩:=z_
  subst hr;refine Eh hp (thn h4 λ_ s5 z_=>?_);obtain⟨x,H5,I5,r5,y5,st5,fr5⟩:=z_;have I5':=I5.pinned (stat fr5) (T.obj _ _ st5);refine Eh hp (thn (hg _ s5 σ3 H5 x u _ I5' r5 (step x H5 y5)) λ_ s6 z_=>?_);obtain⟨σ6,H6,I6,q6⟩:=z_;refine Eh hp (thn (hb _ s6 σ6 H6 _ I6 q6) λf s7 q7=>?_)
  have again:∀{σ7:St}{H7:Hp},Inv X (pins++Z9 fp s5.heap) σ7 H7 s7->N σ7 H7->∃m,m<n/\∃i σ' H',Inv X pins σ' H' s7/\tn i s7.heap/\(∀b∈fp,H' b=none)/\W i m σ' H':=λ{σ7 H7} I7 n7=>by
   obtain⟨m',hm,w7⟩:=hN σ7 H7 n7;refine⟨m',hm,i+1,σ7,H7,I7.unpinned,T.keep _ _ _ st5 λb hb o e=>(I7.pin (b,o) (Es _ (Es _ (W5 hb e)))).1,λb hb=>?_,w7⟩;obtain⟨o,e,d⟩:=T.obj _ _ st5 b hb;exact(I7.pin (b,o) (Es _ (Es _ (W5 hb e)))).2.1
  cases f with
  | next=>obtain⟨σ7,H7,I7,n7⟩:=q7;exact again I7 n7
  | cont=>obtain⟨σ7,H7,I7,n7⟩:=q7;exact again I7 n7
  | brk=>obtain⟨σ7,H7,I7,q7⟩:=q7;exact⟨σ7,H7,I7.unpinned,q7⟩
  | ret v=>obtain⟨x7,σ7,H7,I7,r7,q7⟩:=q7;exact⟨x7,σ7,H7,I7.unpinned,r7,q7⟩
def o9 {K:Frag}{xs:List V}{g:TG}{tb:TS}{D:bL}(Pv:Nat->St->Hp->Prop)(h0:Pv 0 σ H)(hl:∀i σ H,i<=xs.length->Pv i σ H->SqL K H a xs)
  (hs:∀i x σ H,xs[i]? = some x->Pv i σ H->g x σ H λσ2 H2=>tb { D with nx:=Pv (i+1),ct:=Pv (i+1),bk:=D.nx } σ2 H2)(hd:∀σ H,Pv xs.length σ H->D.nx σ H) :
  ∃W:Nat->Nat->St->Hp->Prop,(∃m,W 0 m σ H)/\∀i m σ H,W i m σ H ->
   ((Itl K a).stop i H/\D.nx σ H)\/((Itl K a).go i H/\∃N:St->Hp->Prop,(∀σ' H',N σ' H'->∃m',m'<m/\W (i+1) m' σ' H')/\∀x H',(Itl K a).yld i H x H'->g x σ H' λσ2 H2=>tb { D with nx:=N,ct:=N,bk:=D.nx } σ2 H2):=by
 refine⟨λi m σ H=>m=xs.length-i/\i<=xs.length/\Pv i σ H,⟨xs.length,by simp,Et _,h0⟩,?_⟩
 rintro i m σ H ⟨rfl,hi,p⟩
 have q:=hl i σ H hi p
 by_cases hlt:i<xs.length
 ·refine .inr ⟨⟨xs,xs[i],q,by simp[hlt]⟩,Pv (i+1),λσ' H' p'=>⟨xs.length-(i+1),by lia,Iu,hlt,p'⟩,λx H' y=>?_⟩
  obtain⟨e,y⟩:=y;subst e;exact hs i x σ _ (y xs q) p
 ·have e:i=xs.length:=by lia
  subst e;exact .inl ⟨⟨xs,q,Eo _⟩,hd σ H p⟩
def vY {K:Frag}{xs:List V}{g:TG}{tb:TS}{D:bL}(Pv:Nat->St->Hp->Prop)(h0:Pv 0 σ H)(hl:∀i σ H,i<=xs.length->Pv i σ H->SqT K H a xs)
  (hs:∀i x σ H,xs[i]? = some x->Pv i σ H->g x σ H λσ2 H2=>tb { D with nx:=Pv (i+1),ct:=Pv (i+1),bk:=D.nx } σ2 H2)(hd:∀σ H,Pv xs.length σ H->D.nx σ H) :
  ∃W:Nat->Nat->St->Hp->Prop,(∃m,W 0 m σ H)/\∀i m σ H,W i m σ H ->
   ((Itt K a).stop i H/\D.nx σ H)\/((Itt K a).go i H/\∃N:St->Hp->Prop,(∀σ' H',N σ' H'->∃m',m'<m/\W (i+1) m' σ' H')/\∀x H',(Itt K a).yld i H x H'->g x σ H' λσ2 H2=>tb { D with nx:=N,ct:=N,bk:=D.nx } σ2 H2):=by
 refine⟨λi m σ H=>m=xs.length-i/\i<=xs.length/\Pv i σ H,⟨xs.length,by simp,Et _,h0⟩,?_⟩
 rintro i m σ H ⟨rfl,hi,p⟩
 have q:=hl i σ H hi p
 by_cases hlt:i<xs.length
 ·refine .inr ⟨⟨xs,xs[i],q,by simp[hlt]⟩,Pv (i+1),λσ' H' p'=>⟨xs.length-(i+1),by lia,Iu,hlt,p'⟩,λx H' y=>?_⟩
  obtain⟨e,y⟩:=y;subst e;exact hs i x σ _ (y xs q) p
 ·have e:i=xs.length:=by lia
  subst e;exact .inl ⟨⟨xs,q,Eo _⟩,hd σ H p⟩
def E3 {lo:Int}{n:Nat}{g:TG}{tb:TS}{D:bL}(Pv:Nat->St->Hp->Prop)(h0:Pv 0 σ H)
  (hs:∀i σ H,i<n->Pv i σ H->g (.int (lo+i)) σ H λσ2 H2=>tb { D with nx:=Pv (i+1),ct:=Pv (i+1),bk:=D.nx } σ2 H2)(hd:∀σ H,Pv n σ H->D.nx σ H) :
  ∃W:Nat->Nat->St->Hp->Prop,(∃m,W 0 m σ H)/\∀i m σ H,W i m σ H ->
   ((Itr lo n).stop i H/\D.nx σ H)\/((Itr lo n).go i H/\∃N:St->Hp->Prop,(∀σ' H',N σ' H'->∃m',m'<m/\W (i+1) m' σ' H')/\∀x H',(Itr lo n).yld i H x H'->g x σ H' λσ2 H2=>tb { D with nx:=N,ct:=N,bk:=D.nx } σ2 H2):=by
 refine⟨λi m σ H=>m=n-i/\i<=n/\Pv i σ H,⟨n,by simp,Et _,h0⟩,?_⟩
 rintro i m σ H ⟨rfl,hi,p⟩
 by_cases hlt:i<n
 ·refine .inr ⟨hlt,Pv (i+1),λσ' H' p'=>⟨n-(i+1),by lia,Iu,hlt,p'⟩,λx H' y=>?_⟩
  obtain⟨e,y⟩:=y;subst e y;exact hs i σ _ hlt p
 ·have e:i=n:=by lia
  subst e;exact .inl ⟨Eo _,hd σ H p⟩
abbrev R2:=V->V->Hp->VK->Prop
def OpR (X:Cx)(f:Value->Value->Sem Value)(r:R2):Prop :=
 ∀(pins:List (Addr×Obj))(s:Shared)(σ:St)(H:Hp)(x y:V)(v u:Value)(Q:VK),Inv X pins σ H s->u9 x v->u9 y u->r x y H Q ->
  wpAny (model X.prog X.w) X.A (f v u) (EP X pins σ Q) X.xe s
def UnR (X:Cx)(f:Value->Sem Value)(r:V->Hp->VK->Prop):Prop :=
 ∀(pins:List (Addr×Obj))(s:Shared)(σ:St)(H:Hp)(x:V)(v:Value)(Q:VK),Inv X pins σ H s->u9 x v->r x H Q ->
  wpAny (model X.prog X.w) X.A (f v) (EP X pins σ Q) X.xe s
def B1 (X:Cx)(f:Value)(r:List V->Hp->VK->Prop):Prop :=
 ∀(pins:List (Addr×Obj))(s:Shared)(σ:St)(H:Hp)(xs:List V)(us:List Value)(Q:VK),Inv X pins σ H s->o6 xs us->r xs H Q ->
  wpAny (model X.prog X.w) X.A (call f us) (EP X pins σ Q) X.xe s
def yW (X:Cx)(r:V->Hp->(Bool->Hp->Prop)->Prop):Prop :=
 ∀(pins:List (Addr×Obj))(s:Shared)(σ:St)(H:Hp)(x:V)(v:Value)(Q:Bool->Hp->Prop),Inv X pins σ H s->u9 x v->r x H Q ->
  wpAny (model X.prog X.w) X.A (truthy v) (TP X pins σ Q) X.xe s
def tOp (r:R2)(ta tb:TE):TE:=λσ H Q=>ta σ H λx H1=>tb σ H1 λy H2=>r x y H2 Q
def tUn (r:V->Hp->VK->Prop)(ta:TE):TE:=λσ H Q=>ta σ H λx H1=>r x H1 Q
def rI (C:Int->Int->Prop)(g:Int->Int->V):R2:=λx y H Q=>∃i j,x=.int i/\y=.int j/\C i j/\Q (g i j) H
def rI0 (g:Int->Int->V):R2:=λx y H Q=>∃i j,x=.int i/\y=.int j/\Q (g i j) H
def rU (g:Int->V):V->Hp->VK->Prop:=λx H Q=>∃i,x=.int i/\Q (g i) H
def xP (ha:PE X a ta)(hb:PE X b tb){R:V->V->Hp->Prop}(I:Inv X pins σ H s)
  (h:ta σ H λx H1=>tb σ H1 λy H2=>R x y H2){f:Value->Value->Sem Value}
  (hf:∀v u s2 x y H2,Inv X pins σ H2 s2->u9 x v->u9 y u->R x y H2->wpAny (model X.prog X.w) X.A (f v u) Q X.xe s2) :
  wpAny (model X.prog X.w) X.A (eval a X.env) (λv s₁=>wpAny (model X.prog X.w) X.A (eval b X.env) (λu s₂=>wpAny (model X.prog X.w) X.A (f v u) Q X.xe s₂) X.xe s₁) X.xe s:=by
 refine thx (ha pins s σ H _ I h) λv s1 x H1 I1 r1 q1=>?_;refine thx (hb pins s1 σ H1 _ I1 q1) λu s2 y H2 I2 r2 q2=>?_;exact hf v u s2 x y H2 I2 r1 r2 q2
def l6 (ho:OpR X (binaryOp op) r)(ha:PE X a ta)(hb:PE X b tb):PE X (.BinOp a op b pos) (tOp r ta tb):=by
 intro pins s σ H Q I h
 exact wpAny_BinOp (xP ha hb I h λv u s2 x y H2 I2 rx ry q=>ho pins s2 σ H2 x y v u Q I2 rx ry q)
def yQ (ho:UnR X (unaryOp op) r)(ha:PE X a ta):PE X (.UnaryOp op a pos) (tUn r ta):=by
 intro pins s σ H Q I h
 exact UnaryOp_ (thx (ha pins s σ H _ I h) λv s1 x H1 I1 r1 q1=>ho pins s1 σ H1 x v Q I1 r1 q1)
def opI {X:Cx}{f:Value->Value->Sem Value}{C:Int->Int->Prop}{g:Int->Int->Int}
  (rule:∀(i j:Int)(t u:Tok)(s:Shared)(Q:Value->Shared->Prop)(E:Value->Shared->Prop),C i j->Q (.int (g i j) s.toks) { s with toks:=s.toks+1 }->wpAny (model X.prog X.w) X.A (f (.int i t) (.int j u)) Q E s) :
  OpR X f (rI C λi j=>.int (g i j)):=by
 intro pins s σ H x y v u Q I rx ry h
 obtain⟨i,j,rfl,rfl,hc,q⟩:=h;obtain⟨t,rfl⟩:=rx;obtain⟨t',rfl⟩:=ry;exact rule i j t t' s _ _ hc ⟨.int (g i j),H,I.tok _,⟨_,Iu⟩,q⟩
def vy {X:Cx}{f:Value->Value->Sem Value}{g:Int->Int->Int}
  (rule:∀(i j:Int)(t u:Tok)(s:Shared)(Q:Value->Shared->Prop)(E:Value->Shared->Prop),Q (.int (g i j) s.toks) { s with toks:=s.toks+1 }->wpAny (model X.prog X.w) X.A (f (.int i t) (.int j u)) Q E s) :
  OpR X f (rI0 λi j=>.int (g i j)):=by
 intro pins s σ H x y v u Q I rx ry h
 obtain⟨i,j,rfl,rfl,q⟩:=h;obtain⟨t,rfl⟩:=rx;obtain⟨t',rfl⟩:=ry;exact rule i j t t' s _ _ ⟨.int (g i j),H,I.tok _,⟨_,Iu⟩,q⟩
def wo {X:Cx}{f:Value->Value->Sem Value}{g:Int->Int->Bool}
  (rule:∀(i j:Int)(t u:Tok)(s:Shared)(Q:Value->Shared->Prop)(E:Value->Shared->Prop),Q (.bool (g i j)) s->wpAny (model X.prog X.w) X.A (f (.int i t) (.int j u)) Q E s) :
  OpR X f (rI0 λi j=>.bl (g i j)):=by
 intro pins s σ H x y v u Q I rx ry h
 obtain⟨i,j,rfl,rfl,q⟩:=h;obtain⟨t,rfl⟩:=rx;obtain⟨t',rfl⟩:=ry;exact rule i j t t' s _ _ ⟨.bl (g i j),H,I,Iu,q⟩
def ym (i j:Int):Prop:=0<j/\j<1073741824
def yv (i j:Int):Prop:=0<=j/\j<=1000000/\i.natAbs<2^64
def xC (i j:Int):Prop:=(-(2^64)<i/\i<2^64)\/(-(2^64)<j/\j<2^64)
theorem xC.ok {i j:Int}(h:xC i j):IntMulOk i j:=by
 rcases h with⟨h1,h2⟩|⟨h1,h2⟩
 ·exact .of_left (intBits_le_64 h1 h2)
 ·exact .of_right (intBits_le_64 h1 h2)
def mS (k:Nat):(0:Int)<=2^k:=by
 rw[two_pow_cast];exact Eu _
def L9:OpR X (binaryOp .Add) (rI0 λi j=>.int (i+j)):=vy λ_ _ _ _ _ _ _ q=>add_int q
def cB:OpR X (binaryOp .Sub) (rI0 λi j=>.int (i-j)):=vy λ_ _ _ _ _ _ _ q=>sub_int q
def A4:OpR X (binaryOp .Mult) (rI xC λi j=>.int (i*j)):=opI λ_ _ _ _ _ _ _ hc q=>mul_int q hc.ok
def R7:OpR X (binaryOp .FloorDiv) (rI ym λi j=>.int (i/j)):=opI λi j _ _ _ _ _ hc q=>by
 have h1:(0:Int)<j:=hc.1;have h2:j<1073741824:=hc.2;exact floordiv_int (by lia) (by rw[Ev i (by lia)];exact q) (.inl (PyProof.noPylong_small (by lia)))
def B2:OpR X (binaryOp .Mod) (rI (λ_ j=>0<j) λi j=>.int (i%j)):=opI λi j _ _ _ _ _ hc q=>by
 have h1:(0:Int)<j:=hc;exact mod_int' (by lia) (by rw[Int.fmod_eq_emod_of_nonneg i (by lia)];exact q)
def oz:OpR X (binaryOp .Pow) (rI yv λi j=>.int (i^j.toNat)):=opI λ_ _ _ _ _ _ _ hc q=>pow_int_small hc.1 hc.2.1 hc.2.2 q
def mK:OpR X (binaryOp .LShift) (rI yv λi j=>.int (i*2^j.toNat)):=opI λ_ _ _ _ _ _ _ hc q=>lshift_int_small hc.1 hc.2.1 hc.2.2 q
def fe:OpR X (binaryOp .RShift) (rI (λ_ j=>0<=j) λi j=>.int (i/2^j.toNat)):=opI λi j _ _ _ _ _ hc q =>
 rshift_int hc (by rw[Ev i (mS _)];exact q)
def eQ:OpR X (binaryOp .BitAnd) (rI0 λi j=>.int (Builtin.bitAnd i j)):=vy λ_ _ _ _ _ _ _ q=>and_int q
def xN:OpR X (inplaceOp .BitOr) (rI0 λi j=>.int (Builtin.bitOr i j)):=vy λ_ _ _ _ _ _ _ q=>ior_int q
def unI {X:Cx}{f:Value->Sem Value}{g:Int->Int}
  (rule:∀(i:Int)(t:Tok)(s:Shared)(Q:Value->Shared->Prop)(E:Value->Shared->Prop),Q (.int (g i) s.toks) { s with toks:=s.toks+1 }->wpAny (model X.prog X.w) X.A (f (.int i t)) Q E s) :
  UnR X f (rU λi=>.int (g i)):=by
 intro pins s σ H x v Q I rx h
 obtain⟨i,rfl,q⟩:=h;obtain⟨t,rfl⟩:=rx;exact rule i t s _ _ ⟨.int (g i),H,I.tok _,⟨_,Iu⟩,q⟩
def xj:UnR X (unaryOp .USub) (rU λi=>.int (-i)):=unI λ_ _ _ _ _ q=>neg_int q
def yN:V->V->Bool
 | .non,.non=>true | .non,.int _=>true | .int _,.non=>true | .non,.bl _=>true | .bl _,.non=>true | .non,.str _=>true | .str _,.non=>true
 | .int _,.int _=>true | .bl _,.bl _=>true | .str _,.str _=>true | .byt _,.byt _=>true
 | .int _,.str _=>true | .str _,.int _=>true | .bl _,.str _=>true | .str _,.bl _=>true
 | _,_=>false
def rEq:R2:=λx y H Q=>yN x y=true/\Q (.bl (decide (x=y))) H
def rNe:R2:=λx y H Q=>yN x y=true/\Q (.bl (!decide (x=y))) H
def pN {i j:Int}:decide (V.int i=V.int j)=(i==j):=by
 rw[Ew]
 simp
def tI {i j:Bool}:decide (V.bl i=V.bl j)=(i==j):=by
 rw[Ew]
 simp
def pA:decide (V.str i=V.str j)=(i==j):=by
 rw[Ew]
 simp
def qh:decide (V.byt i=V.byt j)=(i.toList==j.toList):=by
 rw[Ew]
 cases i
 cases j
 simp
def A3 {Q:VK}{k k':Bool}(I:Inv X pins σ H s)(q:Q (.bl k) H)(e:k=k'):EP X pins σ Q (.bool k') s:=by
 subst e;exact⟨.bl k,H,I,Iu,q⟩
theorem E4:OpR X (compareOp .Eq) rEq:=by
 intro pins s σ H x y v u Q I rx ry h
 obtain⟨hs,q⟩:=h
 cases x with
 | non =>
  cases rx
  cases y with
  | non=>cases ry;exact PySem.EqNone.eq_none_none (A3 I q (by simp))
  | bl j=>cases ry;exact PySem.EqNone.eq_none_bool (A3 I q (by simp))
  | int j=>obtain⟨t',rfl⟩:=ry;exact PySem.EqNone.eq_none_int (A3 I q (by simp))
  | str j=>obtain⟨t',rfl⟩:=ry;exact PySem.EqNone.eq_none_str (A3 I q (by simp))
  | _=>exact absurd (show false=true from hs) Ei
 | bl i =>
  cases rx
  cases y with
  | non=>cases ry;exact PySem.EqNone.eq_bool_none (A3 I q (by simp))
  | bl j=>cases ry;exact eq_bool (A3 I q tI)
  | str j=>obtain⟨t',rfl⟩:=ry;exact PySem.EqMixed.eq_bool_str (A3 I q (by simp))
  | _=>exact absurd (show false=true from hs) Ei
 | int i =>
  obtain⟨t,rfl⟩:=rx
  cases y with
  | non=>cases ry;exact PySem.EqNone.eq_int_none (A3 I q (by simp))
  | int j=>obtain⟨t',rfl⟩:=ry;exact eq_int (A3 I q pN)
  | str j=>obtain⟨t',rfl⟩:=ry;exact PySem.EqMixed.eq_int_str (A3 I q (by simp))
  | _=>exact absurd (show false=true from hs) Ei
 | str i =>
  obtain⟨t,rfl⟩:=rx
  cases y with
  | non=>cases ry;exact PySem.EqNone.eq_str_none (A3 I q (by simp))
  | bl j=>cases ry;exact PySem.EqMixed.eq_str_bool (A3 I q (by simp))
  | int j=>obtain⟨t',rfl⟩:=ry;exact PySem.EqMixed.eq_str_int (A3 I q (by simp))
  | str j=>obtain⟨t',rfl⟩:=ry;exact eq_str (A3 I q pA)
  | _=>exact absurd (show false=true from hs) Ei
 | byt i =>
  obtain⟨t,rfl⟩:=rx
  cases y with
  | byt j=>obtain⟨t',rfl⟩:=ry;exact PySem.W.eq_bytes (A3 I q qh)
  | _=>exact absurd (show false=true from hs) Ei
 | _=>cases y<;>exact absurd (show false=true from hs) Ei
theorem iJ:OpR X (compareOp .NotEq) rNe:=by
 intro pins s σ H x y v u Q I rx ry h
 obtain⟨hs,q⟩:=h
 cases x with
 | non =>
  cases rx
  cases y with
  | non=>cases ry;exact PySem.EqNone.ne_none_none (A3 I q (by simp))
  | bl j=>cases ry;exact PySem.EqNone.ne_none_bool (A3 I q (by simp))
  | int j=>obtain⟨t',rfl⟩:=ry;exact PySem.EqNone.ne_none_int (A3 I q (by simp))
  | str j=>obtain⟨t',rfl⟩:=ry;exact PySem.EqNone.ne_none_str (A3 I q (by simp))
  | _=>exact absurd (show false=true from hs) Ei
 | bl i =>
  cases rx
  cases y with
  | non=>cases ry;exact PySem.EqNone.ne_bool_none (A3 I q (by simp))
  | bl j=>cases ry;exact ne_bool (A3 I q (B_ not tI))
  | str j=>obtain⟨t',rfl⟩:=ry;exact PySem.EqMixed.ne_bool_str (A3 I q (by simp))
  | _=>exact absurd (show false=true from hs) Ei
 | int i =>
  obtain⟨t,rfl⟩:=rx
  cases y with
  | non=>cases ry;exact PySem.EqNone.ne_int_none (A3 I q (by simp))
  | int j=>obtain⟨t',rfl⟩:=ry;exact ne_int (A3 I q (B_ not pN))
  | str j=>obtain⟨t',rfl⟩:=ry;exact PySem.EqMixed.ne_int_str (A3 I q (by simp))
  | _=>exact absurd (show false=true from hs) Ei
 | str i =>
  obtain⟨t,rfl⟩:=rx
  cases y with
  | non=>cases ry;exact PySem.EqNone.ne_str_none (A3 I q (by simp))
  | bl j=>cases ry;exact PySem.EqMixed.ne_str_bool (A3 I q (by simp))
  | int j=>obtain⟨t',rfl⟩:=ry;exact PySem.EqMixed.ne_str_int (A3 I q (by simp))
  | str j=>obtain⟨t',rfl⟩:=ry;exact ne_str (A3 I q (B_ not pA))
  | _=>exact absurd (show false=true from hs) Ei
 | byt i =>
  obtain⟨t,rfl⟩:=rx
  cases y with
  | byt j=>obtain⟨t',rfl⟩:=ry;exact PySem.W.ne_bytes (A3 I q (B_ not qh))
  | _=>exact absurd (show false=true from hs) Ei
 | _=>cases y<;>exact absurd (show false=true from hs) Ei
def qb:OpR X (compareOp .Lt) (rI0 λi j=>.bl (decide (i<j))):=wo λ_ _ _ _ _ _ _ q=>lt_int q
def jM:OpR X (compareOp .LtE) (rI0 λi j=>.bl (decide (i<=j))):=wo λ_ _ _ _ _ _ _ q=>le_int q
def yw:OpR X (compareOp .Gt) (rI0 λi j=>.bl (decide (j<i))):=wo λ_ _ _ _ _ _ _ q=>gt_int q
def yH:OpR X (compareOp .GtE) (rI0 λi j=>.bl (decide (j<=i))):=wo λ_ _ _ _ _ _ _ q=>ge_int q
def M9:OpR X (compareOp .Is) (λx y H Q=>y=.non/\Q (.bl (decide (x=.non))) H):=by
 intro pins s σ H x y v u Q I rx ry h
 obtain⟨rfl,q⟩:=h
 cases ry
 refine is_none_gen (A3 I q ?_)
 cases x<;>first
  | (cases rx;rfl)
  | (obtain⟨t,rfl⟩:=rx;rfl)
def L5:OpR X (compareOp .IsNot) (λx y H Q=>y=.non/\Q (.bl (!decide (x=.non))) H):=by
 intro pins s σ H x y v u Q I rx ry h
 obtain⟨rfl,q⟩:=h
 cases ry
 refine isnot_none_gen (A3 I q ?_)
 cases x<;>first
  | (cases rx;rfl)
  | (obtain⟨t,rfl⟩:=rx;rfl)
def m6 (b:Expr)(h:op≠.In:=by decide)(h2:op≠.NotIn:=by decide):behindInMarks op b=false:=by
 have e1:(op==CmpOp.In)=false:=by cases op<;>first|rfl|exact absurd rfl h
 have e2:(op==CmpOp.NotIn)=false:=by cases op<;>first|rfl|exact absurd rfl h2
 cases b<;>simp[behindInMarks,e1,e2]
def F3 (ho:OpR X (compareOp op) r)(ha:PE X a ta)(hb:PE X b tb)(hm:behindInMarks op b=false):PE X (.Compare a [op] [b] pos) (tOp r ta tb):=by
 intro pins s σ H Q I h
 exact wpAny_Compare1 (xP ha hb I h λv u s2 x y H2 I2 rx ry q=>ho pins s2 σ H2 x y v u Q I2 rx ry q) hm
def wy (t:TE):TT:=λσ H Q=>t σ H λx H'=>∃k,x=.bl k/\Q k H'
def k8 (ho:OpR X (compareOp op) r)(ha:PE X a ta)(hb:PE X b tb)(hm:behindInMarks op b=false):PT X (.Compare a [op] [b] pos) (wy (tOp r ta tb)):=by
 intro pins s σ H Q I h
 refine wpAny_isTrue_Compare1 (thx (ha pins s σ H _ I h) λv s1 x H1 I1 r1 q1=>thx (hb pins s1 σ H1 _ I1 q1) λu s2 y H2 I2 r2 q2=>
  thn (ho pins s2 σ H2 x y v u _ I2 r1 r2 q2) λc s3 ⟨z,H3,I3,r3,k,e,q3⟩=>?_) hm
 subst e
 cases r3
 exact y_ ⟨H3,I3,q3⟩
def sO (r r':R2)(ta tb tc:TE):TE:=λσ H Q=>ta σ H λx H1=>tb σ H1 λy H2=>r x y H2 λz H3=>∃k,z=.bl k /\
 (if k=true then tc σ H3 λw' H4=>r' y w' H4 Q else Q (.bl false) H3)
theorem ua (ho:OpR X (compareOp op) r)(ho':OpR X (compareOp op') r')(ha:PE X a ta)(hb:PE X b tb)(hc:PE X c tc)
  (hm:lastMarks [op,op'] [b,c]=false:=by with_unfolding_all rfl):PE X (.Compare a [op,op'] [b,c] pos) (sO r r' ta tb tc):=by
 intro pins s σ H Q I h
 refine Compare_chain (thx (ha pins s σ H _ I h) λv s1 x H1 I1 r1 q1=>chain_link (thx (hb pins s1 σ H1 _ I1 q1) λu s2 y H2 I2 r2 q2=>
  thn (ho pins s2 σ H2 x y v u _ I2 r1 r2 q2) λd s3 ⟨z,H3,I3,r3,k,e,q3⟩=>?_)) hm
 subst e
 cases r3
 refine y_ ?_
 cases k with
 | false=>exact ite_ff ⟨.bl false,H3,I3,Iu,q3⟩
 | true=>exact ite_tt (chain_last (thx (hc pins s3 σ H3 _ I3 q3) λw' s4 z' H4 I4 r4 q4=>ho' pins s4 σ H4 y z' u w' Q I4 r2 r4 q4))
theorem ui (ho:OpR X (compareOp op) r)(ho':OpR X (compareOp op') r')(ha:PE X a ta)(hb:PE X b tb)(hc:PE X c tc)
  (hm:lastMarks [op,op'] [b,c]=false:=by with_unfolding_all rfl):PT X (.Compare a [op,op'] [b,c] pos) (wy (sO r r' ta tb tc)):=by
 intro pins s σ H Q I h
 refine isTrue_chain (thx (ha pins s σ H _ I h) λv s1 x H1 I1 r1 q1=>test_link (thx (hb pins s1 σ H1 _ I1 q1) λu s2 y H2 I2 r2 q2=>
  thn (ho pins s2 σ H2 x y v u _ I2 r1 r2 q2) λd s3 ⟨z,H3,I3,r3,k,e,q3⟩=>?_)) hm
 subst e
 cases r3
 refine y_ ?_
 cases k with
 | false =>
  obtain⟨k',e',q'⟩:=q3
  cases e'
  exact ite_ff ⟨H3,I3,q'⟩
 | true =>
  refine ite_tt (test_last (thx (hc pins s3 σ H3 _ I3 q3) λw' s4 z' H4 I4 r4 q4=>thn (ho' pins s4 σ H4 y z' u w' _ I4 r2 r4 q4) λd' s5 z_=>?_));obtain⟨z2,H5,I5,r5,k2,e2,q5⟩:=z_;subst e2
  cases r5
  exact y_ ⟨H5,I5,q5⟩
def xM (K:Frag)(x:V)(H:Hp)(k:Bool):Prop :=
 match x with
 | .non=>k=false
 | .bl b=>k=b
 | .int i=>k=(i != 0)
 | .str y=>y.length<=sizeLine/\k=((y.length:Int) != 0)
 | .byt y=>y.size<=sizeLine/\k=((y.size:Int) != 0)
 | .ref p=>(∃xs,SqL K H p xs/\k = !xs.isEmpty)\/(∃xs,SqT K H p xs/\k = !xs.isEmpty)\/∃kvs,H p=some (.dK kvs)/\k = !kvs.isEmpty
 | _=>False
def ow (r:KV kvs vs):(!vs.isEmpty) = !kvs.isEmpty:=by
 cases r<;>rfl
def dY (r:o6 xs its):(!its.toArray.isEmpty) = !xs.isEmpty:=by
 cases r<;>simp
def Y9:(sizeLine:Nat)<2^63:=by rw[Ex];decide
theorem xk:yW X (λx H Q=>∃k,xM X.K x H k/\Q k H):=by
 intro pins s σ H x v Q I rx h
 obtain⟨k,e,q⟩:=h;have hl:=Y9;have hs:sizeLine=16777216:=Ex
 cases x with
 | non =>
  cases rx
  have e':k=false:=e;subst e';exact truthy_none ⟨H,I,q⟩
 | bl b =>
  cases rx
  have e':k=b:=e;subst e';exact y_ ⟨H,I,q⟩
 | int i =>
  obtain⟨t,rfl⟩:=rx;have e':k=(i != 0):=e;subst e';exact PySem.P.truthy_int ⟨H,I,q⟩
 | str y =>
  obtain⟨t,rfl⟩:=rx;obtain⟨hy,e'⟩:y.length<=sizeLine/\k=((y.length:Int) != 0):=e;subst e';exact PySem.P.truthy_str (by lia) ⟨H,I.tok _,q⟩
 | byt y =>
  obtain⟨t,rfl⟩:=rx;obtain⟨hy,e'⟩:y.size<=sizeLine/\k=((y.size:Int) != 0):=e;subst e';exact PySem.W.truthy_bytes (by lia) ⟨H,I.tok _,q⟩
 | ref p =>
  cases rx
  have e':(∃xs,SqL X.K H p xs/\k = !xs.isEmpty)\/(∃xs,SqT X.K H p xs/\k = !xs.isEmpty)\/∃kvs,H p=some (.dK kvs)/\k = !kvs.isEmpty:=e
  rcases e' with⟨xs,hx,e'⟩|⟨xs,hx,e'⟩|⟨kvs,hx,e'⟩
  ·subst e'
   obtain⟨its,r,pl,hz⟩:=I.list hx;have hlen:=r.length;exact wpAny_truthy_list pl.isList (by simp only[Ey];lia) ⟨H,I.tok _,by rw[dY r];exact q⟩
  ·subst e'
   obtain⟨its,r,pl,hz⟩:=I.tuple hx;have hlen:=r.length;exact truthy_tuple pl (by simp only[Ey];lia) ⟨H,I.tok _,by rw[dY r];exact q⟩
  ·subst e'
   obtain⟨hz,hS,vs,r,m⟩:kvs.length<=sizeLine/\(p==sysModules)=false/\∃vs,KV kvs vs/\s.heap.DictOf (z8 X.prog X.w) p vs:=I.hok p _ hx;have hlen:kvs.length=vs.length:=d_ r;exact wpAny_truthy_dict hS m (by lia) ⟨H,I.tok _,by rw[ow r];exact q⟩
 | _=>exact(show False from e).elim
def tw (ha:PE X a ta)(he:∀whole,isTrue a X.env whole=(do let v <- whole;standAt a.pos;holding [v] (truthy v))) :
  PT X a (λσ H Q=>ta σ H λx H'=>∃k,xM X.K x H' k/\Q k H'):=by
 intro pins s σ H Q I h
 exact isTrue_plain (thx (ha pins s σ H _ I h) λv s1 x H1 I1 r1 q1=>xk pins s1 σ H1 x v Q I1 r1 q1) (he _)
theorem K5 (r:o6 [x] us):∃u,us=[u]/\u9 x u:=by
 cases r with
 | cons r1 r2=>cases r2;exact⟨_,Iu,r1⟩
theorem cX (r:o6 [x,y] us):∃u w',us=[u,w']/\u9 x u/\u9 y w':=by
 cases r with
 | cons r1 r2 =>
  cases r2 with
  | cons r3 r4=>cases r4;exact⟨_,_,Iu,r1,r3⟩
def sW:B1 X (.builtin "abs") (λxs H Q=>∃i,xs=[.int i]/\Q (.int (if i<0 then -i else i)) H):=by
 intro pins s σ H xs us Q I r h
 obtain⟨i,rfl,q⟩:=h;obtain⟨u,rfl,t,rfl⟩:=K5 r;exact call_abs_int λu tk=>⟨.int (if i<0 then -i else i),H,I.tok _,⟨_,Iu⟩,q⟩
def gQ {X:Cx}(hc:X.calm=true):B1 X (.builtin "min") (λxs H Q=>∃i j,xs=[.int i,.int j]/\Q (.int (if j<i then j else i)) H):=by
 intro pins s σ H xs us Q I r h
 obtain⟨i,j,rfl,q⟩:=h;obtain⟨u,w',rfl,⟨t,rfl⟩,⟨t',rfl⟩⟩:=cX r;refine min_two_ints (I.ok.hd hc) λh' tk k=>⟨_,H,I.kept k,?_,q⟩
 by_cases hj:j<i
 ·rw[Ik hj,Ik hj];exact⟨_,Iu⟩
 ·rw[Il hj,Il hj];exact⟨_,Iu⟩
def ir:B1 X (.type "int") (λxs H Q=>(∃i,xs=[.int i]/\Q (.int i) H)\/∃k,xs=[.bl k]/\Q (.int (if k then 1 else 0)) H):=by
 intro pins s σ H xs us Q I r h
 rcases h with⟨i,rfl,q⟩|⟨k,rfl,q⟩
 ·obtain⟨u,rfl,t,rfl⟩:=K5 r
  exact call_int_int ⟨.int i,H,I,⟨_,Iu⟩,q⟩
 ·obtain⟨u,rfl,r1⟩:=K5 r
  cases r1
  exact call_int_bool ⟨.int (if k then 1 else 0),H,I.tok _,⟨_,Iu⟩,q⟩
def dh:B1 X (.builtin "divmod") (λxs H Q=>∃i j,xs=[.int i,.int j]/\ym i j/\∀p,H p=none->Q (.ref p) (upd H p (.tup [.int (i/j),.int (i%j)]))):=by
 intro pins s σ H xs us Q I r h
 obtain⟨i,j,rfl,⟨h1,h2⟩,q⟩:=h;obtain⟨u,w',rfl,⟨t,rfl⟩,⟨t',rfl⟩⟩:=cX r;refine divmod_int (by lia) ?_ (.inl (PyProof.noPylong_small (by lia)))
 rw[Ev i (by lia),Int.fmod_eq_emod_of_nonneg i (by lia)]
 have hn:H s.heap.objs.size=none:=I.hok.fresh (Eo _);refine⟨.ref s.heap.objs.size,_,?_,Iu,q _ hn⟩;refine I.laid (λb o e=>Em _ e) (Eo _) ⟨by simp only[Ez,EA];rw[Ex];decide,[.int (i/j) s.toks,.int (i%j) (s.toks+1)],.cons ⟨_,Iu⟩ (.cons ⟨_,Iu⟩ .nil),?_⟩
 exact⟨_,En s.heap rfl,Iu,0,Iu⟩
structure xV (h:Heap)(x dx C:Addr)(mA:Str->Option Value):Prop where
 obj:h.get? x=some (PySem.W.instObj C dx)
 ns:h.Ns1 dx mA
 ne:dx≠x
def cO {h:Heap}(n:h.Ns1 dx mA):∃od,h.get? dx=some od/\∀name,PySem.W.lookIn name od=some (mA name):=by
 obtain⟨o,es,ep,ho,hd,hk,_,hm⟩:=n;refine⟨o,ho,λname=>?_⟩;have e:=hm name;unfold nsFind findBy at e;rw[<- Array.find?_toList] at e;unfold PySem.W.lookIn;rw[hd]
 dsimp only
 split
 ·rename_i y q
  rw[q] at e;exact B_ some e
 ·rename_i q
  rw[q] at e
  have a:es.toList.any (·.refKey)=false:=by
   rw[List.any_eq_false]
   intro y hy
   obtain⟨z,t,hkey⟩:=hk y (EB.mp hy)
   simp[DictEntry.refKey,hkey]
  have a':¬es.toList.any (·.refKey)=true:=by rw[a];exact Ei
  rw[Il a'];exact B_ some e
theorem xV.look (I:xV h x dx C mA):∃od,PySem.W.InstAt h x (PySem.W.instObj C dx) C (some od)/\∀name,PySem.W.lookIn name od=some (mA name) :=
 let ⟨od,ho,hl⟩:=cO I.ns
 ⟨od,⟨I.obj,Iu,Iu,ho⟩,hl⟩
theorem cj.some_of (r:cj (some v) o):∃u,o=some u/\u9 v u:=by
 cases o with
 | none=>exact(show False from r).elim
 | some u=>exact⟨u,Iu,r⟩
theorem rZ (r:u9 v u):PySem.W.handedIn u=true:=by
 cases v with
 | non=>cases (show u=Value.none from r);rfl
 | bl b=>cases (show u=Value.bool b from r);rfl
 | int i=>obtain⟨t,e⟩:=(show ∃t,u=Value.int i t from r);cases e;rfl
 | str x=>obtain⟨t,e⟩:=(show ∃t,u=Value.str x t from r);cases e;rfl
 | byt b=>obtain⟨t,e⟩:=(show ∃t,u=Value.bytes b t from r);cases e;rfl
 | flt b=>obtain⟨t,e⟩:=(show ∃t,u=Value.float b t from r);cases e;rfl
 | ref a=>cases (show u=Value.ref a from r);rfl
 | ty n=>cases (show u=Value.type n from r);rfl
section
variable {fs fs':List (Str×V)}
def pJ (hok:HOk P w H h)(e:H a=some (.ins C dx fs)):∃mA,xV h a dx C mA/\(∀f,cj (fs.lookup f) (mA f))/\PySem.Within mA (fs.map (·.1))/\fs.length<=1000/\H dx=some (.own a):=by
 obtain⟨d,z,ne,ob,mA,n,r,q⟩:=(show u6 P w H h a (.ins C dx fs) from hok a _ e);exact⟨mA,⟨ob,n,ne⟩,r,q,z,d⟩
end
structure Cls (K:Frag)(C:Addr):Prop where
 pg:PySem.W.plainGet K C Str.empty=true
 hd:PySem.W.hasDictIn K C=true
 po:PySem.W.plainOver K C=true
 sa:findIn K (.ref C) "__setattr__" = some (some (.builtin "object.__setattr__"))
theorem Cls.get {K:Frag}(c:Cls K C)(f:Str):PySem.W.plainGet K C f=true:=c.pg
structure yb (K:Frag)(C:Addr)(m:Str)(f:Addr):Prop where
 at_:findIn K (.ref C) m=some (some (.ref f))
 fn:PySem.W.isFn K (.ref f)=true
 kp:keepIn K (.ref f)=true
section
variable {fs:List (Str×V)}
def vU (hb:attributeBase e f env (eval e env)=eval e env)
  (h:wpAny (model prog w) A (eval e env) (λo s₁=>wpAny (model prog w) A (getAttr o f true) Q E s₁) E s):wpAny (model prog w) A (eval (.Attribute e f pos) env) Q E s :=
 Attribute_any_ h (by rw[arm_eval_Attribute,hb])
end
section
variable {H:Hp}{b:Bool}
inductive S6 (K:Frag)(H:Hp):V->Value->Prop where
 | non:S6 K H .non (.type "NoneType")
 | bl (x:Bool):S6 K H (.bl x) (.type "bool")
 | int (i:Int):S6 K H (.int i) (.type "int")
 | str (x:Str):S6 K H (.str x) (.type "str")
 | flt (x:UInt64):S6 K H (.flt x) (.type "float")
 | lst {a:Addr} {xs:List V} (e:H a=some (.lst xs)):S6 K H (.ref a) (.type "list")
 | frz {a:Addr} {o:Obj} {xs:List V} (e:H a=some (.frz o (.lst xs))):S6 K H (.ref a) (.type "list")
 | tup {a:Addr} {xs:List V} (e:H a=some (.tup xs)):S6 K H (.ref a) (.type "tuple")
 | dK {a:Addr} {kvs:List (Key×V)} (e:H a=some (.dK kvs)):S6 K H (.ref a) (.type "dict")
 | dT {a:Addr} {kvs:List (List Key×V)} (e:H a=some (.dT kvs)):S6 K H (.ref a) (.type "dict")
 | ins {a C dx:Addr} {fs:List (Str×V)} (e:H a=some (.ins C dx fs)) (cl:Cls K C) (ha:findIn K (.ref C) "__class__" = some (some (.builtin "object.__class__")))
   (hn:PySem.W.specialIn K (.builtin "object.__class__") "__get__" = some (some (.builtin "getset_descriptor.__get__"))) (htk:PySem.W.takesIn K (.builtin "object.__class__")=some true)
   (hm:PySem.W.mroIn K C (.type "object")=some true):S6 K H (.ref a) (.ref C)
theorem qV {Q:Value->Shared->Prop}{u t:Value}(I:Inv X pins σ H s)(rx:u9 x u)(ty:S6 X.K H x t)(e:kitOne X.K t c=some b)(h:∀tk,Q (.bool b) { s with toks:=tk }) :
  wpAny (model X.prog X.w) A (call (.builtin "isinstance") [u,c]) Q E s:=by
 cases ty with
 | non=>cases (show u=Value.none from rx);exact EC PySem.W.kitx_none I.kIn ED e (λz=>nomatch z) h
 | bl y=>cases (show u=Value.bool y from rx);exact EC PySem.W.kitx_bool I.kIn ED e (λz=>nomatch z) h
 | int i=>obtain⟨t,q⟩:=(show ∃t,u=Value.int i t from rx);cases q;exact EC PySem.W.kitx_int I.kIn ED e (λz=>nomatch z) h
 | str y=>obtain⟨t,q⟩:=(show ∃t,u=Value.str y t from rx);cases q;exact EC PySem.W.kitx_str I.kIn ED e (λz=>nomatch z) h
 | flt y=>obtain⟨t,q⟩:=(show ∃t,u=Value.float y t from rx);cases q;exact EC PySem.W.kitx_float I.kIn ED e (λz=>nomatch z) h
 | @lst a xs ea =>
  cases (show u=Value.ref a from rx)
  obtain⟨_,_,n,_,h1⟩:=(show u6 X.prog X.w H s.heap a (.lst xs) from I.hok a _ ea);exact EC EE I.kIn ⟨_,h1,Iu⟩ e (λz=>nomatch z) h
 | @frz a ob xs ea =>
  cases (show u=Value.ref a from rx)
  obtain⟨_,_,_,n,_,h1⟩:=(show u6 X.prog X.w H s.heap a (.frz ob (.lst xs)) from I.hok a _ ea);exact EC EE I.kIn ⟨_,h1,Iu⟩ e (λz=>nomatch z) h
 | @tup a xs ea =>
  cases (show u=Value.ref a from rx)
  obtain⟨_,_,_,p⟩:=(show u6 X.prog X.w H s.heap a (.tup xs) from I.hok a _ ea);obtain⟨o,h1,h2,_⟩:=p;exact EC PySem.W.kitx_tuple I.kIn ⟨o,h1,h2⟩ e (λz=>nomatch z) h
 | @dK a kvs ea =>
  cases (show u=Value.ref a from rx)
  obtain⟨_,_,vs,_,p⟩:=(show u6 X.prog X.w H s.heap a (.dK kvs) from I.hok a _ ea);obtain⟨o,es,ep,h1,h2,_⟩:=p;exact EC EF I.kIn ⟨o,h1,h2.1⟩ e (λz=>nomatch z) h
 | @dT a kvs ea =>
  cases (show u=Value.ref a from rx)
  obtain⟨_,_,xs,_,o,es,ep,h1,h2,_⟩:=(show u6 X.prog X.w H s.heap a (.dT kvs) from I.hok a _ ea);exact EC EF I.kIn ⟨o,h1,h2.1⟩ e (λz=>nomatch z) h
 | @ins a C dx fs ea cl ha hn htk hm =>
  cases (show u=Value.ref a from rx)
  obtain⟨mA,O,_⟩:=pJ I.hok ea;obtain⟨od,J,_⟩:=O.look;exact EC (PySem.W.kitx_own (cl.get _) cl.hd ha hn htk hm) I.kIn J e (λz=>nomatch z) h
end
structure C0 (k:Nat)(A:Around):Prop where
 hd:A.handled=none
 dp:A.depth+3*k+5<recursionLimit
 un:A.units+16*k+200<cLine
theorem C0.mono {j k:Nat}(r:C0 k A)(h:j<=k):C0 j A:=⟨r.hd,by have:=r.dp;lia,by have:=r.un;lia⟩
theorem C0.deeper {k:Nat}(r:C0 (k+1) A)(env:Env):C0 k (A.deeper env) :=
 ⟨r.hd,by have:=r.dp;show A.depth+1+3*k+5<_;lia,by have:=r.un;show A.units+3+16*k+200<_;lia⟩
def oQ {A:Around}:(A.under (.builtin "type.__call__" ⟨.ref C::us,kw⟩)).depth=A.depth+1:=by
 first|rfl|simp[Around.under,Code.weight,Code.isCreation,Code.isGuard,Code.isCaller,Code.frames,Code.isFrame,guardIds]
def oK {A:Around}:(A.under (.builtin "type.__call__" ⟨.ref C::us,kw⟩)).units=A.units+1:=by
 first|rfl|simp[Around.under,Code.cUnits,Code.frames,Code.isFrame]
theorem C0.make {k:Nat}(r:C0 (k+1) A)(C:Addr)(us:List Value)(kw:List (Str×Value)):C0 k (A.under (.builtin "type.__call__" ⟨.ref C::us,kw⟩)) :=
 ⟨r.hd,by have:=r.dp;rw[oQ];lia,by have:=r.un;rw[oK];lia⟩
theorem C0.depth {k:Nat}(r:C0 k A):A.depth<recursionLimit:=by have:=r.dp;lia
theorem C0.units {k:Nat}(r:C0 k A):A.units+64<cLine:=by have:=r.un;lia
theorem C0.units0 {k:Nat}(r:C0 k A):A.units<cLine:=by have:=r.un;lia
def yt:TA:=λ_ H Q=>Q [] H
def yq (ta:TE)(tr:TA):TA:=λσ H Q=>ta σ H λx H1=>tr σ H1 λxs H2=>Q (x::xs) H2
section
variable {t:TA}
def c7:PA X [] yt:=λ_ _ _ _ H Q I h=>Calls.spliced_nil ⟨[],H,I,.nil,h⟩
def a8 (ha:PE X e te)(hr:PA X es t)(hs:starEach (e::es) X.env=(false,eval e X.env)::starEach es X.env:=by rfl):PA X (e::es) (yq te t):=by
 intro pos pins s σ H Q I h
 rw[hs]
 show wpAny _ _ (spliced ((false,eval e X.env)::backTo pos (starEach es X.env))) _ _ s
 refine EG (thx (ha pins s σ H _ I h) λu s1 x H1 I1 r1 q1=>?_);exact thx (hr pos pins s1 σ H1 _ I1 q1) λus s2 xs H2 I2 r2 q2=>⟨x::xs,H2,I2,.cons r1 r2,q2⟩
def zm (t:TA):TE:=λσ H Q=>t σ H λxs H1=>xs.length<=sizeLine/\∀p,H1 p=none->Q (.ref p) (upd H1 p (.tup xs))
def zc (t:TA):TE:=λσ H Q=>t σ H λxs H1=>xs.length<=sizeLine/\∀p,H1 p=none->Q (.ref p) (upd H1 p (.lst xs))
def y7 {x1}(h:PA X es t):PE X (.Tuple es x1 pos) (zm t):=by
 intro pins s σ H Q I hq
 refine wpAny_Tuple_spliced (thn (h pos pins s σ H _ I hq) λus s1 ⟨xs,H1,I1,r,z,q⟩=>⟨by rw[<- r.length];exact z,?_⟩)
 have hf:H1 s1.heap.objs.size=none:=I1.hok.fresh (Eo _);refine⟨.ref s1.heap.objs.size,upd H1 s1.heap.objs.size (.tup xs),I1.laid (t':=s1.toks) (λb u e=>Em _ e) (Eo _) ?_,Iu,q _ hf⟩;exact⟨z,us,r,⟨_,En _ rfl,Iu,_,Iu⟩⟩
def r6 (h:PA X es t):PE X (.List es pos) (zc t):=by
 intro pins s σ H Q I hq
 refine wpAny_List_spliced (thn (h pos pins s σ H _ I hq) λus s1 ⟨xs,H1,I1,r,z,q⟩=>⟨by rw[<- r.length];exact z,?_⟩)
 have hf:H1 s1.heap.objs.size=none:=I1.hok.fresh (Eo _);refine⟨.ref s1.heap.objs.size,upd H1 s1.heap.objs.size (.lst xs),I1.laid (t':=s1.toks) (λb u e=>Em _ e) (Eo _) ?_,Iu,q _ hf⟩;exact⟨z,us,0,r,En _ rfl⟩
end
abbrev Sp:=List V->Hp->VK->XK->Prop
abbrev CXT:=List Env->Hp->Shared->XK->Value->Shared->Prop
structure nv (P:Program)(w:World)(K:Frag)(mg:Str->Option Value)(base:Heap)(A:Around)(outer:List Env)(s:Shared)(H:Hp):Prop where
 frames:A.frames=some outer
 mod:Mod K mg base
 bs:∀b o,base.get? b=some o->s.heap.get? b=some o/\H b=none
 bsz:base.objs.size<=s.heap.objs.size
 funs:s.heap.FunFrames base outer
 frf:∀b∈frs outer,H b=none
 hok:HOk P w H s.heap
 bare:AllBare s.gens
def CE (outer:List Env)(P:Program)(w:World)(H:Hp)(s:Shared)(Q:VK)(u:Value)(s':Shared):Prop :=
 ∃v H',s'.os=s.os/\AllBare s'.gens/\Un (frs outer) [] H H' s.heap s'.heap/\HOk P w H' s'.heap/\u9 v u/\Q v H'
def CR (CX:CXT)(outer:List Env)(P:Program)(w:World)(H:Hp)(s:Shared)(Q:VK)(E:XK)(r:Result)(s':Shared):Prop :=
 match r with
 | .ok (.ret u)=>CE outer P w H s Q u s'
 | .ok _=>False
 | .error e=>CX outer H s E e s'
structure bF (P:Program)(w:World)(K:Frag)(mg:Str->Option Value)(base:Heap)(CX:CXT)(k:Nat)(f:Addr)(fd:FuncData)(ps:List Str)(sp:Sp):Prop where
 len:∀vs H Q E,sp vs H Q E->vs.length=ps.length
 run:∀(A:Around)(outer:List Env)(s:Shared)(H:Hp)(args:Args)(us:List Value)(vs:List V)(Q:VK)(E:XK),C0 k A->nv P w K mg base A outer s H->BindsTo s fd args (ps.zip us)->o6 vs us->sp vs H Q E ->
  codeAny (model P w) A (.call (.ref f) args) (CR CX outer P w H s Q E) s
theorem nv.make {K:Frag}(e:nv P w K mg base A outer s H)(C:Addr)(us:List Value)(kw:List (Str×Value)) :
  nv P w K mg base (A.under (.builtin "type.__call__" ⟨.ref C::us,kw⟩)) outer s H:=⟨by first|exact e.frames|(simpa [Around.under,Code.envs,Code.isFrame,pushEnvs] using e.frames),e.mod,e.bs,e.bsz,e.funs,e.frf,e.hok,e.bare⟩
theorem Inv.env0 (I:Inv X pins σ H s):nv X.prog X.w X.K X.mg X.base X.A X.stack s H :=
 ⟨I.ok.frames,I.ok.mod,I.bs,k_ I.ok.bsz I.sz,I.stack,I.stkFree,I.hok,I.bare⟩
theorem Inv.after (I:Inv X pins σ H s)(h:CE X.stack X.prog X.w H s Q u s'):EP X pins σ Q u s':=by
 obtain⟨v,H',os,bare,un,hok,r,q⟩:=h;obtain⟨hh,g,d,t,os'⟩:=s';obtain rfl:os'=s.os:=os;exact⟨v,H',I.call (h':=hh) (g':=g) (d':=d) (t':=t) (ch:=[]) un hok bare (λb z=>absurd z (by simp)),r,q⟩
def ww (sp:Sp)(dvs:List V)(E:XK)(t:TA):TE:=λσ H Q=>t σ H λvs H1=>sp (vs++dvs) H1 Q E
def X3 (K:Frag)(fd:FuncData)(ps:List Str)(ds:List Value):Prop :=
 ∀(s:Shared)(us:List Value),K.In s.heap->(us++ds).length=ps.length->BindsTo s fd ⟨us,[]⟩ (ps.zip (us++ds))
theorem X3.all {K:Frag}{ps:List Str}(h:∀us:List Value,us.length=ps.length->bindArgs fd ⟨us,[]⟩=pure (ps.zip us)):X3 K fd ps []:=λs us _ hl=>by
 rw[EH] at hl ⊢;exact .of_eq (h us hl)
def nR (CX:CXT)(X:Cx)(E:XK):Prop:=∀(pins:List (Addr×Obj))(σ:St)(H:Hp)(s:Shared)(e:Value)(s':Shared),Inv X pins σ H s->CX X.stack H s E e s'->X.xe e s'
section
variable {k:Nat}{t:TA}
theorem xY {X:Cx}(F:bF X.prog X.w X.K X.mg X.base CX k f fd ps sp)(hr:C0 k X.A)(hb:X3 X.K fd ps ds)(hd:o6 dvs ds)(hx:nR CX X E)
  (I:Inv X pins σ H s)(r:o6 vs us)(h:sp (vs++dvs) H Q E):wpAny (model X.prog X.w) X.A (call (.ref f) us) (EP X pins σ Q) X.xe s:=by
 have r2:o6 (vs++dvs) (us++ds):=r.append hd;have hl:(us++ds).length=ps.length:=by rw[<- r2.length];exact F.len _ _ _ _ h
 refine EI (EJ (F.run X.A X.stack s H ⟨us,[]⟩ (us++ds) (vs++dvs) Q E hr I.env0 (hb s us I.kIn hl) r2 h) λr s' hq=>?_)
 cases r with
 | error e=>exact hx pins σ H s e s' I hq
 | ok fl =>
  cases fl with
  | ret u=>exact I.after hq
  | next=>exact False.elim hq
  | brk=>exact False.elim hq
  | cont=>exact False.elim hq
def vh {X:Cx}(F:bF X.prog X.w X.K X.mg X.base CX k f fd ps sp)(hr:C0 k X.A)(hg:Gl X x)(hm:X.mg x=some (.ref f))(hk:keepIn X.K (.ref f)=true)(hb:X3 X.K fd ps ds)(hd:o6 dvs ds)(hx:nR CX X E)
  (ha:PA X (e::es) t)(hdb:(x==("__debug__":Str))=false:=by decide)(he:starEach (e::es) X.env=(false,eval e X.env)::starEach es X.env:=by rfl)(hpl:(backTo pos (starEach es X.env)).any (·.1)=false:=by rfl) :
  PE X (.Call (.Name x p) (e::es) [] pos) (ww sp dvs E t):=by
 intro pins s σ H Q I h
 refine EK (ci I hg hm ?_ hdb);refine PySem.W.callWith_K (h₀:=X.base) I.ok.mod.kin hk (thx (ha pos pins s σ H _ I h) λus s1 vs H1 I1 r q=>⟨I1.kIn,?_⟩) he hpl;exact xY F hr hb hd hx I1 r q
end
structure FnScope (N P:List Str)(sc:Scope):Prop where
 kind:sc.kind=.function
 co:sc.isCoroutine=false
 gen:sc.isGenerator=false
 nd:N.Nodup
 pre:N.take P.length=P
 par:∀x∈P,sc.names.lookup x=some .local\/sc.names.lookup x=some .cell
 nofree:∀y∈sc.names,y.2≠.free
theorem iq {kindOf:Str->Option NameKind}:∀{binds:List (Str×Value)}{m:Str->Option Value},(∀v,(x,v)∉binds)->bindL kindOf binds m x=m x
 | [],_,_=>rfl
 | (n,v)::r,m,h=>by
  unfold bindL;rw[iq λw hw=>h w (o_ _ hw)]
  split
  ·have:x≠n:=by rintro rfl;exact h v n_
   simp[this]
  ·rfl
theorem iQ {kindOf:Str->Option NameKind}:∀{binds:List (Str×Value)}{m:Str->Option Value},(∀v,(x,v)∉binds)->bindC kindOf binds m x=m x
 | [],_,_=>rfl
 | (n,v)::r,m,h=>by
  unfold bindC;rw[iQ λw hw=>h w (o_ _ hw)]
  split
  ·rfl
  ·have:x≠n:=by rintro rfl;exact h v n_
   simp[this]
theorem gW {kindOf:Str->Option NameKind}:∀{P:List Str}{vs:List Value}{i:Nat}{m:Str->Option Value},P.Nodup->P[i]? = some x->vs[i]? = some v->kindOf x=some .local ->
  bindL kindOf (P.zip vs) m x=some v
 | [],_,_,_,_,h,_,_=>by simp at h
 | _::_,[],_,_,_,_,h,_=>by simp at h
 | p::P,w::vs,0,m,nd,h1,h2,hk=>by
  simp at h1 h2;subst h1;subst h2
  show bindL kindOf ((p,w)::P.zip vs) m p=_
  unfold bindL;rw[iq λv hv=>(EL.mp nd).1 (List.of_mem_zip hv).1,Ik hk]
  simp
 | p::P,w::vs,i+1,m,nd,h1,h2,hk=>by
  show bindL kindOf ((p,w)::P.zip vs) m x=_
  unfold bindL;exact gW (i:=i) (EL.mp nd).2 (by simpa using h1) (by simpa using h2) hk
theorem iM {kindOf:Str->Option NameKind}:∀{P:List Str}{vs:List Value}{i:Nat}{m:Str->Option Value},P.Nodup->P[i]? = some x->vs[i]? = some v->kindOf x≠some .local ->
  bindC kindOf (P.zip vs) m x=some v
 | [],_,_,_,_,h,_,_=>by simp at h
 | _::_,[],_,_,_,_,h,_=>by simp at h
 | p::P,w::vs,0,m,nd,h1,h2,hk=>by
  simp at h1 h2;subst h1;subst h2
  show bindC kindOf ((p,w)::P.zip vs) m p=_
  unfold bindC;rw[iQ λv hv=>(EL.mp nd).1 (List.of_mem_zip hv).1,Il hk]
  simp
 | p::P,w::vs,i+1,m,nd,h1,h2,hk=>by
  show bindC kindOf ((p,w)::P.zip vs) m x=_
  unfold bindC;exact iM (i:=i) (EL.mp nd).2 (by simpa using h1) (by simpa using h2) hk
def start (N:List Str)(vs:List V):St:=vs.map some++List.replicate (N.length-vs.length) none
def R1 (CX:CXT)(P:Program)(w:World)(K:Frag)(mg:Str->Option Value)(base:Heap)(N:List Str)(qual:Str)(scope:Scope)(f:Addr)(cd:Value)(A:Around)(outer:List Env)(s:Shared)(H:Hp)(E:XK):Cx where
 prog:=P
 w:=w
 K:=K
 mg:=mg
 base:=base
 A:=A.deeper (envOfC qual scope s.heap.objs.size f cd)
 N:=N
 s₀:=s
 H₀:=H
 env:=envOfC qual scope s.heap.objs.size f cd
 outer:=outer
 stack:=envOfC qual scope s.heap.objs.size f cd::outer
 ex:=[]
 calm:=true
 fn:=λ_=>true
 pn:=[]
 xe:=λe s'=>wpAny (model P w) (A.deeper (envOfC qual scope s.heap.objs.size f cd)) (leaving (envOfC qual scope s.heap.objs.size f cd) e) (λ_ s''=>CX outer H s E e s'') (λe' s''=>CX outer H s E e' s'') s'
def eS {sc:Scope}{n:Nat}(h:sc.names.lookup x=some .cell):∃c,(cellsFrom n sc.names []).lookup x=some c:=by
 have q:=PySem.W.cellsFrom_some sc.names n [] (.inl h);exact Option.isSome_iff_exists.mp q
def rh {K:Frag}{A:Around}{vs:List V}
  (S:FnScope N ps scope)(hd:A.handled=none)(e0:nv P w K mg base A outer s H)(hl:vs.length=ps.length)(r:o6 vs us)
  (x:InCallC s s.heap.objs.size (bindL (envOfC qual scope s.heap.objs.size f cd).kindOf (ps.zip us) λ_=>none) (cellsFrom (s.heap.objs.size+1) scope.names []) (bindC (envOfC qual scope s.heap.objs.size f cd).kindOf (ps.zip us) λ_=>none) s1) :
  Inv (R1 CX P w K mg base N qual scope f cd A outer s H E) [] (start N vs) H s1:=by
 have hpl:ps.length<=N.length:=by have:=B_ List.length S.pre;rw[EM] at this;lia
 obtain⟨h1,tk,rfl,hk⟩:=x.done;have noA:∀b:Addr,b∉(R1 CX P w K mg base N qual scope f cd A outer s H E).ex:=λb z=>absurd (show b∈([]:List Addr) from z) (by simp)
 refine⟨⟨e0.mod,S.kind,Iu,Iu,Eo _,λy z c h1 h2=>?_,λy hy=>?_,λy c _ h=>?_,λ_=>hd,Around.frames_deeper e0.frames,.inr ⟨Iu,Iu⟩,λb z=>absurd z (noA b),e0.bs,e0.bsz,λb _ _=>noA b,λb z=>absurd z (noA b),e0.funs,e0.frf⟩,
  rfl,e0.bare,Un.kept hk,⟨_,x.toInCall.ns,λi y v h1 h2 h3=>?_⟩,λy c h=>⟨_,x.cell y c h⟩,e0.hok.fresh (Eo _),λy c h=>?_,λp hp=>absurd (show p∈([]:List (Addr×Obj)) from hp) (by simp),e0.hok.kept hk,?_⟩
 ·exact name_of_addr x.apart (EN h1) (EN h2)
 ·have hy:scope.names.lookup y=some .cell\/scope.names.lookup y=some .free:=hy
  rcases hy with hy|hy
  ·exact eS hy
  ·exact absurd rfl (S.nofree _ (EN hy))
 ·exact l_ (x.above y c (EN h))
 ·have hi:i<vs.length:=by
   unfold start at h2
   by_cases hi:i<vs.length
   ·exact hi
   ·rw[EO (by simpa using hi)] at h2
    rw[List.getElem?_replicate] at h2
    split at h2<;>cases h2
  have ha:vs[i]? = some v:=by
   unfold start at h2;rw[EQ (by simpa using hi),ER] at h2
   cases e:vs[i]? with
   | none=>rw[e] at h2;cases h2
   | some a=>rw[e] at h2;cases h2;rfl
  obtain⟨u,hu,rv⟩:=r.get ha
  have hp:ps[i]? = some y:=by
   rw[<- S.pre,List.getElem?_take_of_lt (by lia)];exact h1
  have ndP:ps.Nodup:=by rw[<- S.pre];exact S.nd.sublist (ES _ _)
  refine⟨u,rv,?_⟩
  rcases S.par y (ET hp) with k|k
  ·exact .inl ⟨k,gW ndP hp hu k⟩
  ·obtain⟨c,e⟩:=eS (n:=s.heap.objs.size+1) k
   refine .inr ⟨.inl k,c,e,?_⟩;have q:=x.cell y c e;rw[iM ndP hp hu (by show scope.names.lookup y≠_;rw[k];decide)] at q
   exact q
 ·exact e0.hok.fresh (l_ (x.above y c (EN h)))
 ·unfold start
  show _=N.length
  rw[EU,EV,List.length_replicate];lia
theorem jO {K:Frag}{k:Nat}{dV kV doc pm cdv ct oc:Value}
  {sp:Sp}(lk:K.lookup f=some ⟨oc,od,.func (fnOf name qual params body scope dV kV doc pm an cdv ct),osl⟩)(hcd:codeIn K cdv qual=true)(S:FnScope N ps scope)
  (len:∀vs H Q E,sp vs H Q E->vs.length=ps.length)
  (hbody:∀(A:Around)(outer:List Env)(s:Shared)(H:Hp)(vs:List V)(Q:VK)(E:XK),C0 k (A.deeper (envOfC qual scope s.heap.objs.size f cdv))->sp vs H Q E ->
   ∃t,PSs (R1 CX P w K mg base N qual scope f cdv A outer s H E) body t/\t { nx:=λ_ H'=>Q .non H',rt:=Q } (start N vs) H) :
  bF P w K mg base CX (k+1) f (fnOf name qual params body scope dV kV doc pm an cdv ct) ps sp:=by
 refine⟨len,λA outer s H args us vs Q E hr e0 hb r hsp=>?_⟩;have hl:=len _ _ _ _ hsp;have KX:K.In s.heap:=e0.mod.kin.keeps λb o e=>(e0.bs b o e).1;have lim:s.heap.NoLimit:=e0.mod.nolimit.keeps λb o e=>(e0.bs b o e).1
 have hkind:∀y∈ps.zip us,scope.names.lookup y.1=some .local\/(scope.names.lookup y.1=some .cell/\((cellsFrom (s.heap.objs.size+1) scope.names []).lookup y.1).isSome=true):=λ⟨n,v⟩ hy=>by
  rcases S.par n (List.of_mem_zip hy).1 with q|q
  ·exact .inl q
  ·exact .inr ⟨q,PySem.W.cellsFrom_some _ _ _ (.inl q)⟩
 refine codeAny_call_function hr.depth (KX _ _ lk) rfl S.co S.gen rfl (PySem.W.codeRec_of KX hcd) (hb _ _ _ _ ?_);refine wpAny_newFunctionEnv_cells S.kind hkind λenv he s1 x=>?_;subst he;refine⟨lim.keeps x.toInCall.keep,codeAny_func ?_⟩;obtain⟨t,ht,hq⟩:=hbody A outer s H vs Q E (hr.deeper _) hsp;have I:Inv (R1 CX P w K mg base N qual scope f cdv A outer s H E) [] (start N vs) H s1:=rh S hr.hd e0 hl r x;refine x_ (ht [] s1 (start N vs) H _ I hq) (λfl s' hs=>?_) λe s' hs=>hs
 have fin:∀{σ':St}{H':Hp}{v:V}{u:Value},Inv (R1 CX P w K mg base N qual scope f cdv A outer s H E) [] σ' H' s'->u9 v u->Q v H'->CE outer P w H s Q u s' :=
  λ{σ' H' v u} J rv q=>⟨v,H',J.os,J.bare,J.base,J.hok,rv,q⟩
 cases fl with
 | ret u =>
  obtain⟨v,σ',H',J,rv,q⟩:=hs;exact fin J rv q
 | next =>
  obtain⟨σ',H',J,q⟩:=hs;exact fin (v:=V.non) (u:=Value.none) J rfl q
 | brk =>
  obtain⟨_,_,_,q⟩:=hs;exact False.elim q
 | cont =>
  obtain⟨_,_,_,q⟩:=hs;exact False.elim q
section
variable {t:TA}{id T:String}
def tCB (r:List V->Hp->VK->Prop)(t:TA):TE:=λσ H Q=>t σ H λvs H1=>r vs H1 Q
def j6 (hc:B1 X (.builtin id) r)(hg:Gl X x)(hm:X.mg x=none)(hv:bootBuiltins x=some (.builtin id))(ha:PA X (e::es) t)(hn:x≠"__name__":=by decide)(hdb:(x==("__debug__":Str))=false:=by decide)
  (he:starEach (e::es) X.env=(false,eval e X.env)::starEach es X.env:=by rfl) (hpl:(backTo pos (starEach es X.env)).any (·.1)=false:=by rfl):PE X (.Call (.Name x p) (e::es) [] pos) (tCB r t):=by
 intro pins s σ H Q I h
 refine EK (bh I hg hm hv ?_ hn hdb);exact PyProof.Rows.callWith_builtin1 (thx (ha pos pins s σ H _ I h) λus s1 vs H1 I1 r1 q1=>hc pins s1 σ H1 vs us Q I1 r1 q1) he hpl
def w9 (hc:B1 X (.type T) r)(hg:Gl X x)(hm:X.mg x=none)(hv:bootBuiltins x=some (.type T))(ha:PA X (e::es) t)(hn:x≠"__name__":=by decide)(hdb:(x==("__debug__":Str))=false:=by decide)
  (he:starEach (e::es) X.env=(false,eval e X.env)::starEach es X.env:=by rfl) (hpl:(backTo pos (starEach es X.env)).any (·.1)=false:=by rfl):PE X (.Call (.Name x p) (e::es) [] pos) (tCB r t):=by
 intro pins s σ H Q I h
 refine EK (bh I hg hm hv ?_ hn hdb);exact Ep (thx (ha pos pins s σ H _ I h) λus s1 vs H1 I1 r1 q1=>hc pins s1 σ H1 vs us Q I1 r1 q1) he hpl
end
end L2
namespace HT
open PySem PyProof.Rows
def sIx (n d:Nat):Option Int->Nat
 | none=>d
 | some v=>if v<0 then (v+(n:Int)).toNat else min v.toNat n
def sIx_none (n d:Nat):sIx n d none=d:=rfl
def sIx_nat (n d k:Nat):sIx n d (some (k:Int))=min k n:=by
 show(if (k:Int)<0 then ((k:Int)+(n:Int)).toNat else min (k:Int).toNat n)=min k n
 rw[Il (by lia),EW]
end HT
namespace L2
open PySem PySem.Spec PyProof.Rows
abbrev TO:=St->Hp->(Option Int->Hp->Prop)->Prop
def PO (X:Cx)(e:Option Expr)(t:TO):Prop :=
 ∀(pins:List (Addr×Obj))(s:Shared)(σ:St)(H:Hp)(Q:Option Int->Hp->Prop),Inv X pins σ H s->t σ H Q ->
  wpAny (model X.prog X.w) X.A (evalPart e X.env) (λu s'=>∃o H',Inv X pins σ H' s'/\IsPart u o/\Q o H') X.xe s
def vT:TO:=λ_ H Q=>Q none H
def yo (t:TE):TO:=λσ H Q=>t σ H λx H1=>∃i,x=.int i/\Q (some i) H1
theorem J3 {ns:List Int}:∀{us:List Value},o6 (ns.map V.int) us->IntsAre us ns:=by
 induction ns with
 | nil=>intro us r;rw[map_nil] at r;cases r;exact .nil
 | cons n ns ih =>
  intro us r
  rw[EX] at r
  cases r with
  | cons r1 r2 =>
   obtain⟨t,e⟩:=r1;subst e;exact .cons n t (ih r2)
section
variable {lo hi:Option Expr}
def vo:PO X none vT:=by
 intro pins s σ H Q I h
 rw[evalPart_none];exact u_ ⟨none,H,I,.none,h⟩
def jA (h:PE X e te):PO X (some e) (yo te):=by
 intro pins s σ H Q I hw
 rw[evalPart_some];refine thx (h pins s σ H _ I hw) λu s1 x H1 I1 r1 q1=>?_;obtain⟨i,rfl,q⟩:=q1;obtain⟨t,rfl⟩:=r1;exact⟨some i,H1,I1,.int i t,q⟩
def SlR (X:Cx)(r:V->Option Int->Option Int->Hp->VK->Prop):Prop :=
 ∀(pins:List (Addr×Obj))(s:Shared)(σ:St)(H:Hp)(x:V)(v vl vu:Value)(lo hi:Option Int)(sl:Addr)(Q:VK),Inv X pins σ H s->u9 x v->s.heap.IsSliceOf sl vl vu .none->IsPart vl lo->IsPart vu hi->r x lo hi H Q ->
  ∃T id,typeLookup (.type T) "__getitem__" = pure (some (.builtin id))/\s.TypeIs v T/\wpAny (model X.prog X.w) X.A (getItem v (.ref sl)) (EP X pins σ Q) X.xe s
def tSl (r:V->Option Int->Option Int->Hp->VK->Prop)(te:TE)(tl th:TO):TE:=λσ H Q=>te σ H λx H1=>tl σ H1 λl H2=>th σ H2 λu H3=>r x l u H3 Q
def kO (hr:SlR X r)(he:PE X e te)(hl:PO X lo tl)(hu:PO X hi th):PE X (.Subscript e (.Slice lo hi none p2) pos) (tSl r te tl th):=by
 intro pins s σ H Q I h
 refine Subscript_ (thx (he pins s σ H _ I h) λv s1 x H1 I1 r1 q1=>?_);refine wpAny_Slice (thx (hl pins s1 σ H1 _ I1 q1) λvl s2 l H2 I2 pl q2=>thx (hu pins s2 σ H2 _ I2 q2) λvu s3 u H3 I3 pu q3=>?_);rw[evalPart_none];refine u_ ?_;have I4:Inv X pins σ H3 { s3 with heap:=s3.heap.push { cls:=.type "slice",data:=.fields #[vl,vu,.none] } }:=I3.kept (t':=s3.toks) λb ob q=>Em _ q
 obtain⟨T,id,hT,ht,hg⟩:=hr pins { s3 with heap:=s3.heap.push { cls:=.type "slice",data:=.fields #[vl,vu,.none] } } σ H3 x v vl vu l u s3.heap.objs.size Q I4 r1 (Heap.IsSliceOf.new ..) pl pu q3
 show wpAny (model X.prog X.w) X.A (subscriptTail e (.Slice lo hi none p2) v (.ref s3.heap.objs.size)) (EP X pins σ Q) X.xe { s3 with heap:=s3.heap.push { cls:=.type "slice",data:=.fields #[vl,vu,.none] } }
 exact tail_any (ops:=[.ref s3.heap.objs.size,v]) ht hT hg (by with_unfolding_all rfl)
def eU (xs:List V)(lo hi:Option Int):List V:=(xs.drop (HT.sIx xs.length 0 lo)).take (HT.sIx xs.length xs.length hi-HT.sIx xs.length 0 lo)
def jX (xs:List V)(lo hi:Option Int):(eU xs lo hi).length<=xs.length:=by
 unfold eU;rw[EM,length_drop];exact Nat.le_trans (Nat.min_le_right ..) (Nat.sub_le ..)
end
def ixN (n:Nat)(i:Int):Option Nat:=if 0<=i then (if i<n then some i.toNat else none) else if -(n:Int)<=i then some (i+n).toNat else none
def atI {α:Type}(xs:List α)(i:Int):Option α:=(ixN xs.length i).bind λj=>xs[j]?
def pC {n:Nat}{i:Int}{j:Nat}(h:ixN n i=some j):seqIndex? i n=some j/\j<n/\-(n:Int)<=i/\i<n:=by
 unfold ixN at h
 by_cases h0:0<=i
 ·rw[Ik h0] at h
  by_cases h1:i<n
  ·rw[Ik h1] at h
   have e:i.toNat=j:=e_ h;exact⟨by rw[seqIndex_of h0 h1,e],by lia,by lia,h1⟩
  ·rw[Il h1] at h;cases h
 ·rw[Il h0] at h
  by_cases h1:-(n:Int)<=i
  ·rw[Ik h1] at h
   have e:(i+n).toNat=j:=e_ h;exact⟨by rw[seqIndex_neg (by lia) h1,e],by lia,h1,by lia⟩
  ·rw[Il h1] at h;cases h
theorem jb {i:Int}(h:atI xs i=some v):∃j,seqIndex? i xs.length=some j/\xs[j]? = some v/\j<xs.length/\-(xs.length:Int)<=i/\i<xs.length:=by
 unfold atI at h
 cases e:ixN xs.length i with
 | none=>rw[e] at h;cases h
 | some j =>
  rw[e] at h;obtain⟨h1,h2,h3,h4⟩:=pC e;exact⟨j,h1,h,h2,h3,h4⟩
def C4 {j:Nat}(h:xs[j]? = some v):atI xs (j:Int)=some v:=by
 have hj:j<xs.length:=(s_.mp h).1
 have e:ixN xs.length (j:Int)=some j:=by
  unfold ixN;rw[Ik (by lia),Ik (by lia)];simp
 unfold atI;rw[e];exact h
def vB (b:Expr):Prop:=∀o i,subscripted b false o i=operate [o,i] (getItem o i)
def IxR (X:Cx)(r:R2):Prop :=
 ∀(value slice:Expr)(pins:List (Addr×Obj))(s:Shared)(σ:St)(H:Hp)(x y:V)(v u:Value)(Q:VK),Inv X pins σ H s->u9 x v->u9 y u->r x y H Q ->
  subscripted slice false v u=operate [v,u] (getItem v u)->wpAny (model X.prog X.w) X.A (subscriptTail value slice v u) (EP X pins σ Q) X.xe s
def MtR (X:Cx)(id:String)(r:V->List V->Hp->VK->Prop):Prop :=
 ∀(pins:List (Addr×Obj))(s:Shared)(σ:St)(H:Hp)(x:V)(xs:List V)(v:Value)(us:List Value)(Q:VK),Inv X pins σ H s->u9 x v->o6 xs us->r x xs H Q ->
  wpAny (model X.prog X.w) X.A (call (.builtin id) (v::us)) (EP X pins σ Q) X.xe s
section
theorem IxR.or (h:IxR X r)(h':IxR X r'):IxR X (λx y H Q=>r x y H Q\/r' x y H Q):=by
 intro value slice pins s σ H x y v u Q I rx ry q hs
 rcases q with q|q
 ·exact h value slice pins s σ H x y v u Q I rx ry q hs
 ·exact h' value slice pins s σ H x y v u Q I rx ry q hs
def i8 (hr:IxR X r)(ha:PE X a ta)(hb:PE X b tb)(hs:vB b:=by intro _ _;rfl):PE X (.Subscript a b pos) (tOp r ta tb):=by
 intro pins s σ H Q I h
 exact Subscript_ (xP ha hb I h λv u s2 x y H2 I2 rx ry q=>hr a b pins s2 σ H2 x y v u Q I2 rx ry q (hs _ _))
def xz (K:Frag):R2:=λx y H Q=>∃p xs i v,x=.ref p/\y=.int i/\SqL K H p xs/\atI xs i=some v/\Q v H
def wJ (K:Frag):R2:=λx y H Q=>∃p xs i v,x=.ref p/\y=.int i/\SqT K H p xs/\atI xs i=some v/\Q v H
def yc:R2:=λx y H Q=>∃z i c,x=.str z/\y=.int i/\z.length<=sizeLine/\atI z.cps.toList i=some c/\Q (.str ⟨#[c]⟩) H
def pH:IxR X (xz X.K):=by
 intro value slice pins s σ H x y v u Q I rx ry h hs
 obtain⟨p,xs,i,z,rfl,rfl,hq,he,q⟩:=h
 cases rx
 obtain⟨t,rfl⟩:=ry;obtain⟨its,r,pl,hz⟩:=I.list hq;obtain⟨j,h1,h2,h3,h4,h5⟩:=jb he;obtain⟨w,ew,rw'⟩:=r.get h2;have hl:=r.length;have hn:=Y9;have fin:EP X pins σ Q w s:=⟨z,H,I,rw',q⟩
 by_cases h0:0<=i
 ·have hj:i.toNat=j:=by
   rw[seqIndex_of h0 h5] at h1;exact e_ h1
  exact item_listR pl.isList h0 (by lia) (by rw[hj];simpa using ew) fin hs
 ·have hj:(i+(its.toArray.size:Int)).toNat=j:=by
   rw[seqIndex_neg (by lia) h4] at h1
   rw[Ey,<- hl];exact e_ h1
  exact subscriptTail_builtinR (x:=w) pl.isList.typeIs slot_list_getitem.lookup
   (wpAny_getItem_list_neg (Q:=λr s'=>r=w/\EP X pins σ Q r s') pl.isList (by lia) (by rw[Ey]<;>lia) (by lia) (by rw[hj];simpa using ew) ⟨Iu,fin⟩) hs
def tU:IxR X (wJ X.K):=by
 intro value slice pins s σ H x y v u Q I rx ry h hs
 obtain⟨p,xs,i,z,rfl,rfl,hq,he,q⟩:=h
 cases rx
 obtain⟨t,rfl⟩:=ry;obtain⟨its,r,pl,hz⟩:=I.tuple hq;obtain⟨j,h1,h2,h3,h4,h5⟩:=jb he;obtain⟨w,ew,rw'⟩:=r.get h2;have hl:=r.length;have hn:=Y9;have fin:EP X pins σ Q w s:=⟨z,H,I,rw',q⟩
 exact subscriptTail_builtinR (x:=w) pl.typeIs slot_tuple_getitem.lookup
  (getItem_tuple (j:=j) (Q:=λr s'=>r=w/\EP X pins σ Q r s') pl (by lia) (by lia) (by rw[Ey,<- hl];exact h1) (by simpa using ew) ⟨Iu,fin⟩) hs
def xr:IxR X yc:=by
 intro value slice pins s σ H x y v u Q I rx ry h hs
 obtain⟨z,i,c,rfl,rfl,hz,he,q⟩:=h;obtain⟨t,rfl⟩:=rx;obtain⟨t',rfl⟩:=ry;obtain⟨j,h1,h2,h3,h4,h5⟩:=jb he;have hl:z.cps.toList.length=z.length:=by simp[Str.length]
 rw[hl] at h1 h4 h5;have hn:=Y9
 exact tail_any (typeIs_str s z t) slot_str_getitem.lookup (getItem_str (c:=c) (by
  have e1:decide (i < -(2^63:Int))=false:=b_ (by lia)
  have e2:decide (i ≥ 2^63)=false:=b_ (by lia)
  rw[e1,e2,Bool.or_false]) (by rw[h1];simpa using h2) ⟨.str ⟨#[c]⟩,H,I.tok _,⟨_,Iu⟩,q⟩) hs
def rIx (K:Frag):R2:=λx y H Q=>xz K x y H Q\/wJ K x y H Q\/yc x y H Q
def uD:IxR X (rIx X.K):=pH.or (tU.or xr)
def mZ (its:List Value)(n j:Nat)(u:Value):Obj.mapSeq (·.setIfInBounds j u) { cls:=.type "list",data:=.seq its.toArray n } = { cls:=.type "list",data:=.seq (its.set j u).toArray n }:=by
 simp[Obj.mapSeq]
theorem Inv.lst {X:Cx}{pins:List (Addr×Obj)}{σ:St}{H:Hp}{s:Shared}{p:Addr}{xs:List V}(I:Inv X pins σ H s)(h:H p=some (.lst xs)) :
  ∃(its:List Value)(n:Nat),o6 xs its/\s.heap.get? p=some { cls:=.type "list",data:=.seq its.toArray n }/\xs.length<=sizeLine:=by
 obtain⟨z,its,n,r,e⟩:=I.hok p _ h;exact⟨its,n,r,e,z⟩
theorem Inv.lstUpd {its its':List Value}{n n':Nat}{f:Obj->Obj}(I:Inv X pins σ H s)(h:H p=some (.lst xs))
  (ho:s.heap.get? p=some { cls:=.type "list",data:=.seq its.toArray n })(hf:f { cls:=.type "list",data:=.seq its.toArray n } = { cls:=.type "list",data:=.seq its'.toArray n' })(r:o6 ys its')(hz:ys.length<=sizeLine)(t:Nat) :
  Inv X pins σ (upd H p (.lst ys)) { s with heap:=s.heap.update p f,toks:=t }:=by
 have e:(s.heap.update p f).get? p=some { cls:=.type "list",data:=.seq its'.toArray n' }:=by
  rw[EY f ho (by rw[hf]<;>rfl),hf]
 refine I.write (x:=p) (e:=p) (by rw[h];trivial) (.inl rfl) (λb u hb q=>(EZ _ _ (Im hb)).trans q) ⟨_,e⟩ ?_
 exact⟨hz,its',n',r,e⟩
def yg:V->V->V->Hp->(Hp->Prop)->Prop:=λo i v H Q=>∃p xs k j,o=.ref p/\i=.int k/\H p=some (.lst xs)/\ixN xs.length k=some j/\Q (upd H p (.lst (xs.set j v)))
def gc:vI X yg:=by
 intro pins s σ H o i v ov iv u Q I ro ri rv h
 obtain⟨p,xs,k,j,rfl,rfl,hp,hj,q⟩:=h
 cases ro
 obtain⟨t,rfl⟩:=ri;obtain⟨its,n,r,ho,hz⟩:=I.lst hp;obtain⟨h1,h2,h3,h4⟩:=pC hj;have hl:=r.length;have hn:=Y9
 have I':Inv X pins σ (upd H p (.lst (xs.set j v))) { s with heap:=s.heap.update p (Obj.mapSeq (·.setIfInBounds j u)) } :=
  I.lstUpd hp ho (mZ its n j u) (r.set rv j) (by rw[List.length_set];exact hz) s.toks
 by_cases h0:0<=k
 ·have hk:k.toNat=j:=by
   rw[seqIndex_of h0 h4] at h1;exact e_ h1
  exact PySem.W.ki_setAt ho h0 (by lia) (by rw[Ey,<- hl];exact h4) (by rw[hk];exact⟨_,I',q⟩)
 ·have hk:(k+(its.toArray.size:Int)).toNat=j:=by
   rw[seqIndex_neg (by lia) h3] at h1
   rw[Ey,<- hl];exact e_ h1
  exact PySem.W.ki_setBack ho (by lia) (by rw[Ey,<- hl];exact h3) (by lia) (by rw[hk];exact⟨_,I',q⟩)
def jB (lo hi:Option Int)(n:Nat):(sliceBounds lo hi none n).1=((HT.sIx n 0 lo:Nat):Int)/\(sliceBounds lo hi none n).2.1=((HT.sIx n n hi:Nat):Int)/\(sliceBounds lo hi none n).2.2=1:=by
 refine⟨?_,?_,Iu⟩
 ·cases lo with
  | none=>simp[sliceBounds,HT.sIx]
  | some i =>
   simp only[sliceBounds,HT.sIx,Option.getD_none,show(1:Int) > 0 by decide,F_]
   by_cases h:i<0
   ·simp only[h,F_]<;>lia
   ·simp only[h,Fa]<;>lia
 ·cases hi with
  | none=>simp[sliceBounds,HT.sIx]
  | some i =>
   simp only[sliceBounds,HT.sIx,Option.getD_none,show(1:Int) > 0 by decide,F_]
   by_cases h:i<0
   ·simp only[h,F_]<;>lia
   ·simp only[h,Fa]<;>lia
def gv (its:List Value)(lo hi:Option Int):slicePick its.toArray lo hi none=((its.drop (HT.sIx its.length 0 lo)).take (HT.sIx its.length its.length hi-HT.sIx its.length 0 lo)).toArray:=by
 obtain⟨h1,h2,h3⟩:=jB lo hi its.toArray.size;unfold slicePick;rw[h1,h2,h3]
 simp only[sliceRange_one,pick_run,Ey]<;>rfl
def yx (K:Frag):V->Option Int->Option Int->Hp->VK->Prop:=λx lo hi H Q=>∃a xs,x=.ref a/\SqL K H a xs/\∀p,H p=none->Q (.ref p) (upd H p (.lst (eU xs lo hi)))
def uV:SlR X (yx X.K):=by
 intro pins s σ H x v vl vu lo hi sl Q I rx hs pl pu h
 obtain⟨a,xs,rfl,hx,q⟩:=h
 cases rx
 obtain⟨its,r,ht,hz⟩:=I.list hx;have hlen:=r.length;refine⟨"list",_,slot_list_getitem.lookup,ht.isList.typeIs,?_⟩;refine wpAny_getItem_list_slice ht.isList hs pl pu .none (by simp) ?_ (by rw[Ey]<;>lia)
 rw[gv,<- hlen];refine⟨.ref s.heap.objs.size,_,I.laid (t':=s.toks) (o:=.lst (eU xs lo hi)) (λb ob q=>Em _ q) (Eo _) ?_,Iu,q _ (I.hok.fresh (Eo _))⟩;exact⟨k_ (jX xs lo hi) hz,_,0,(r.drop (HT.sIx xs.length 0 lo)).take (HT.sIx xs.length xs.length hi-HT.sIx xs.length 0 lo),En _ rfl⟩
def bQ:V->Bool
 | .non=>true
 | .bl _=>true
 | .int _=>true
 | .str _=>true
 | _=>false
def eqV:V->V->Bool
 | .non,.non=>true
 | .bl a,.bl b=>a==b
 | .bl a,.int b=>(if a then 1 else 0)==b
 | .int a,.bl b=>a==(if b then 1 else 0)
 | .int a,.int b=>a==b
 | .str a,.str b=>a==b
 | _,_=>false
theorem xp (ry:u9 y u)(rx:u9 x v)(fy:bQ y=true)(fx:bQ x=true):SeqAt.EqAt A s u v (eqV y x):=by
 cases y with
 | non =>
  cases ry
  cases x with
  | non=>cases rx;exact Fb _
  | bl b=>cases rx;exact SeqAt.EqAt.none_bool b
  | int b=>obtain⟨t,rfl⟩:=rx;exact SeqAt.EqAt.none_int b t
  | str b=>obtain⟨t,rfl⟩:=rx;exact SeqAt.EqAt.none_str b t
  | _=>exact absurd (show false=true from fx) Ei
 | bl a =>
  cases ry
  cases x with
  | non=>cases rx;exact SeqAt.EqAt.bool_none a
  | bl b=>cases rx;exact SeqAt.EqAt.bool_bool a b
  | int b=>obtain⟨t,rfl⟩:=rx;exact SeqAt.EqAt.bool_int a b t
  | str b=>obtain⟨t,rfl⟩:=rx;exact SeqAt.EqAt.bool_str a b t
  | _=>exact absurd (show false=true from fx) Ei
 | int a =>
  obtain⟨t',rfl⟩:=ry
  cases x with
  | non=>cases rx;exact SeqAt.EqAt.int_none a t'
  | bl b=>cases rx;exact SeqAt.EqAt.int_bool a t' b
  | int b=>obtain⟨t,rfl⟩:=rx;exact Fc a t' b t
  | str b=>obtain⟨t,rfl⟩:=rx;exact SeqAt.EqAt.int_str a t' b t
  | _=>exact absurd (show false=true from fx) Ei
 | str a =>
  obtain⟨t',rfl⟩:=ry
  cases x with
  | non=>cases rx;exact SeqAt.EqAt.str_none a t'
  | bl b=>cases rx;exact SeqAt.EqAt.str_bool a t' b
  | int b=>obtain⟨t,rfl⟩:=rx;exact SeqAt.EqAt.str_int a t' b t
  | str b=>obtain⟨t,rfl⟩:=rx;exact SeqAt.EqAt.str_str a t' b t
  | _=>exact absurd (show false=true from fx) Ei
 | _=>exact absurd (show false=true from fy) Ei
def eqU (x:V)(u:Value):Bool:=match u with
 | .none=>eqV .non x
 | .bool b=>eqV (.bl b) x
 | .int i _=>eqV (.int i) x
 | .str z _=>eqV (.str z) x
 | _=>false
theorem sT (r:u9 y u)(f:bQ y=true):eqU x u=eqV y x:=by
 cases y with
 | non=>cases r;rfl
 | bl b=>cases r;rfl
 | int i=>obtain⟨t,rfl⟩:=r;rfl
 | str z=>obtain⟨t,rfl⟩:=r;rfl
 | _=>exact absurd (show false=true from f) Ei
theorem bI:∀{xs:List V}{us:List Value},o6 xs us->xs.all bQ=true->us.any (eqU x)=xs.any λy=>eqV y x
 | _,_,.nil,_=>rfl
 | y::xs,u::us,.cons r t,f=>by
  rw[all_cons,Fd] at f;rw[any_cons,any_cons,sT r f.1,bI t f.2]
theorem Y0 (rx:u9 x v)(fx:bQ x=true):∀{xs:List V}{us:List Value},o6 xs us->xs.all bQ=true->∀u∈us,SeqAt.EqAt A s u v (eqU x u)
 | _,_,.nil,_=>λu hu=>by cases hu
 | y::xs,u::us,.cons r t,f=>λu' hu=>by
  rw[all_cons,Fd] at f
  rcases p_.mp hu with rfl|hu
  ·rw[sT r f.1];exact xp r rx f.1 fx
  ·exact Y0 rx fx t f.2 u' hu
def inV (x:V)(xs:List V):Bool:=xs.any λy=>eqV y x
def rIn (K:Frag)(neg:Bool):R2:=λx y H Q=>∃p xs,y=.ref p/\(SqL K H p xs\/SqT K H p xs)/\bQ x=true/\xs.all bQ=true/\Q (.bl (if neg then !inV x xs else inV x xs)) H
def rN:OpR X (compareOp .In) (rIn X.K false):=by
 intro pins s σ H x y v u Q I rx ry h
 obtain⟨p,xs,rfl,hq,fx,fs,q⟩:=h
 cases ry
 rcases hq with hq|hq
 ·obtain⟨its,r,pl,hz⟩:=I.list hq
  refine SeqAt.in_listAt (eqU x) pl.isList (λw hw=>Y0 rx fx r fs w (by simpa using hw)) ⟨.bl _,H,I,Iu,?_⟩
  rw[show its.toArray.any (eqU x)=its.any (eqU x) by simp,bI r fs]
  exact q
 ·obtain⟨its,r,pl,hz⟩:=I.tuple hq
  refine SeqAt.in_tupleAt (eqU x) pl (λw hw=>Y0 rx fx r fs w (by simpa using hw)) ⟨.bl _,H,I,Iu,?_⟩
  rw[show its.toArray.any (eqU x)=its.any (eqU x) by simp,bI r fs]
  exact q
def iY:OpR X (compareOp .NotIn) (rIn X.K true):=by
 intro pins s σ H x y v u Q I rx ry h
 obtain⟨p,xs,rfl,hq,fx,fs,q⟩:=h
 cases ry
 rcases hq with hq|hq
 ·obtain⟨its,r,pl,hz⟩:=I.list hq
  refine SeqAt.notIn_listAt (eqU x) pl.isList (λw hw=>Y0 rx fx r fs w (by simpa using hw)) ⟨.bl _,H,I,Iu,?_⟩
  rw[show its.toArray.any (eqU x)=its.any (eqU x) by simp,bI r fs]
  exact q
 ·obtain⟨its,r,pl,hz⟩:=I.tuple hq
  refine SeqAt.notIn_tupleAt (eqU x) pl (λw hw=>Y0 rx fx r fs w (by simpa using hw)) ⟨.bl _,H,I,Iu,?_⟩
  rw[show its.toArray.any (eqU x)=its.any (eqU x) by simp,bI r fs]
  exact q
def jo:B1 X (.builtin "len") (λxs H Q=>∃p ys,xs=[.ref p]/\(SqL X.K H p ys\/SqT X.K H p ys)/\Q (.int ys.length) H):=by
 intro pins s σ H xs us Q I r h
 obtain⟨p,ys,rfl,hq,q⟩:=h;obtain⟨u,rfl,rx⟩:=K5 r
 cases rx
 have hn:=Y9
 rcases hq with hq|hq
 ·obtain⟨its,r',pl,hz⟩:=I.list hq
  have hlen:=r'.length;exact Calls.call_len_list pl.isList (by simp only[Ey]<;>lia) ⟨.int ys.length,H,I.tok _,⟨s.toks+1,by rw[Ey,hlen]⟩,q⟩
 ·obtain⟨its,r',pl,hz⟩:=I.tuple hq
  have hlen:=r'.length;exact len_tuple pl (by simp only[Ey]<;>lia) ⟨.int ys.length,H,I.tok _,⟨s.toks+1,by rw[Ey,hlen]⟩,q⟩
def jK:B1 X (.type "list") (λxs H Q=>∃p ys,xs=[.ref p]/\(SqL X.K H p ys\/SqT X.K H p ys)/\∀l,H l=none->Q (.ref l) (upd H l (.lst ys))):=by
 intro pins s σ H xs us Q I r h
 obtain⟨p,ys,rfl,hq,q⟩:=h;obtain⟨u,rfl,rx⟩:=K5 r
 cases rx
 have fin:∀(its:List Value),o6 ys its->ys.length<=sizeLine->∀(h':Heap)(c':Nat),(∀b o',s.heap.get? b=some o'->h'.get? b=some o') ->
   h'.get? s.heap.objs.size=some { cls:=.type "list",dict:=none,data:=.seq its.toArray c',slots:=#[] }->EP X pins σ Q (.ref s.heap.objs.size) { s with heap:=h' }:=λits r' hz h' c' kp e =>
  ⟨.ref s.heap.objs.size,_,I.laid (t':=s.toks) kp (Eo _) (show u6 X.prog X.w _ h' _ (.lst ys) from⟨hz,its,c',r',e⟩),Iu,q _ (I.hok.fresh (Eo _))⟩
 rcases hq with hq|hq
 ·obtain⟨its,r',pl,hz⟩:=I.list hq
  have hlen:=r'.length;obtain⟨o,ho,hc,n,hd⟩:=pl.isList;exact call_list_seq p (.inl rfl) ho hc hd (λh' c' kp e=>fin its r' hz h' c' kp e) (by simp only[Ey]<;>lia)
 ·obtain⟨its,r',pl,hz⟩:=I.tuple hq
  have hlen:=r'.length;obtain⟨o,ho,hc,n,hd⟩:=pl;exact call_list_seq p (.inr rfl) ho hc hd (λh' c' kp e=>fin its r' hz h' c' kp e) (by simp only[Ey]<;>lia)
def gF:B1 X (.type "tuple") (λxs H Q=>∃p ys,xs=[.ref p]/\((SqL X.K H p ys/\∀l,H l=none->Q (.ref l) (upd H l (.tup ys)))\/(SqT X.K H p ys/\Q (.ref p) H))):=by
 intro pins s σ H xs us Q I r h
 obtain⟨p,ys,rfl,h⟩:=h;obtain⟨u,rfl,rx⟩:=K5 r
 cases rx
 rcases h with⟨hq,q⟩|⟨hq,q⟩
 ·obtain⟨its,r',pl,hz⟩:=I.list hq
  have hlen:=r'.length;refine call_tuple_list pl.isList (λh' kp=>?_) (by simp only[Ey]<;>lia)
  have I1:Inv X pins σ H { s with heap:=h' }:=I.kept (t':=s.toks) kp
  have I2:Inv X pins σ (upd H h'.objs.size (.tup ys)) { s with heap:=h'.push { cls:=.type "tuple",data:=.seq its.toArray } } :=
   I1.laid (t':=s.toks) (λb o e=>Em _ e) (Eo _) (show u6 X.prog X.w _ _ _ (.tup ys) from⟨hz,its,r',IsTup.new _ _⟩)
  exact⟨.ref h'.objs.size,_,I2,Iu,q _ (I1.hok.fresh (Eo _))⟩
 ·obtain⟨its,r',pl,hz⟩:=I.tuple hq
  exact call_tuple_same pl ⟨.ref p,H,I,Iu,q⟩
def tyV (K:Frag)(T:String)(x:V)(H:Hp):Prop:=match x with
 | .str _=>T = "str"
 | .int _=>T = "int"
 | .ref p=>(T = "list"/\∃xs,SqL K H p xs)\/(T = "tuple"/\∃o,K.lookup p=some o/\o.cls=.type "tuple"/\o.dict=none) \/
   (T = "dict"/\((∃kvs,H p=some (.dK kvs))\/∃kvs,H p=some (.dT kvs)))\/(T = "set"/\∃S n,H p=some (.set S n))
 | _=>False
theorem xg (I:Inv X pins σ H s)(r:u9 x v)(ty:tyV X.K T x H) :
  s.TypeIs v T/\∀a,v=.ref a->∃ob,s.heap.get? a=some ob/\ob.dict=none:=by
 cases x with
 | str z =>
  obtain⟨t,rfl⟩:=r
  cases (show T = "str" from ty)
  exact⟨typeIs_str s z t,λ_ e=>nomatch e⟩
 | int i =>
  obtain⟨t,rfl⟩:=r
  cases (show T = "int" from ty)
  exact⟨typeIs_int s i t,λ_ e=>nomatch e⟩
 | ref p =>
  cases r
  rcases ty with⟨rfl,xs,hq⟩|⟨rfl,o,hk,hc,hd⟩|⟨rfl,hk⟩|⟨rfl,S,n,hk⟩
  ·obtain⟨its,_,pl,_⟩:=I.list hq
   refine⟨pl.isList.typeIs,λa e=>?_⟩
   cases e
   obtain⟨o,n,e,c,hd,_⟩:=pl;exact⟨o,e,hd⟩
  ·refine⟨⟨o,I.kIn p o hk,hc⟩,λa e=>?_⟩
   cases e
   exact⟨o,I.kIn _ o hk,hd⟩
  ·have z:∃o,s.heap.get? p=some o/\o.ExactDict:=by
    rcases hk with⟨kvs,hk⟩|⟨kvs,hk⟩
    ·obtain⟨_,_,_,_,o,_,_,e,ex,_⟩:=I.hok p _ hk
     exact⟨o,e,ex⟩
    ·obtain⟨_,_,_,_,o,_,_,e,ex,_⟩:=I.hok p _ hk
     exact⟨o,e,ex⟩
   obtain⟨o,e,ex⟩:=z;refine⟨⟨o,e,ex.1⟩,λa e2=>?_⟩
   cases e2
   exact⟨o,e,ex.2.1⟩
  ·obtain⟨o,_,_,_,e,ex,_⟩:=I.hok p _ hk
   refine⟨⟨o,e,ex.1⟩,λa e2=>?_⟩
   cases e2
   exact⟨o,e,ex.2.1⟩
 | _=>exact False.elim ty
def tBM (K:Frag)(T:String)(r:V->List V->Hp->VK->Prop)(to:TE)(t:TA):TE:=λσ H Q=>to σ H λx H1=>tyV K T x H1/\t σ H1 λxs H2=>r x xs H2 Q
variable {t:TA}{T id:String}
def yS {apos cpos:Pos}(pa:PlainAttrs T)(slot:Slot T name id)(hty:typeOf (.builtin id)=pure (.type "method_descriptor"))(hm:MtR X id r)(ho:PE X o to)(ha:PA X (e::es) t)
  (hbase:attributeBase o name X.env (eval o X.env)=eval o X.env:=by rfl)
  (hfew:((backTo cpos (starEach (e::es) X.env)).all (λx=>!x.1)&&(backToKw cpos (keywordEach [] X.env)).all (λx=>x.1.isSome)
  &&decide ((e::es).length+([]:List Keyword).length+(if ([]:List Keyword).isEmpty then 0 else 1)<30))=true:=by rfl)
  (hline:(apos.endLine==cpos.line)=true:=by rfl) (hs:starEach (e::es) X.env=(false,eval e X.env)::starEach es X.env:=by rfl) (hplain:(backTo cpos (starEach es X.env)).any (·.1)=false:=by rfl) :
  PE X (.Call (.Attribute o name apos) (e::es) [] cpos) (tBM X.K T r to t):=by
 intro pins s σ H Q I h
 refine wpAny_Call_method_late hbase hfew hline rfl (thn (ho pins s σ H _ I h) λv s1 z_=>?_);obtain⟨x,H1,I1,r1,ty,q1⟩:=z_;obtain⟨h1,h2⟩:=xg I1 r1 ty;refine⟨T,id,pa,slot,hty,h1,h2,?_⟩;have hA:=ha cpos pins s1 σ H1 _ I1 q1;rw[hs] at hA ⊢;refine Fe (by show(false || (backTo cpos (starEach es X.env)).any (·.1))=false;rw[hplain]<;>rfl) (Ff ?_)
 exact thn hA λus s2 ⟨vs,H2,I2,r2,q2⟩=>hm pins s2 σ H2 x vs v us Q I2 r1 r2 q2
end
def MtM (X:Cx)(id:String)(r:V->List V->Hp->VK->Prop):Prop :=
 ∀(pins:List (Addr×Obj))(s:Shared)(σ:St)(H:Hp)(x:V)(xs:List V)(v:Value)(us:List Value)(Q:VK),Inv X pins σ H s->u9 x v->o6 xs us->r x xs H Q ->
  wpAny (model X.prog X.w) X.A (call (.builtin id) (v::us)) (EP X pins σ Q) X.xe s
theorem o6.one:∀{x:V}{us:List Value},o6 [x] us->∃u,us=[u]/\u9 x u
 | _,_,.cons r .nil=>⟨_,Iu,r⟩
theorem o6.rep (h:o6 xs us):∀k:Nat,o6 (List.replicate k xs).flatten (List.replicate k us).flatten
 | 0=>.nil
 | k+1=>by
  rw[Fg,Fg,flatten_cons,flatten_cons];exact o6.append h (o6.rep h k)
theorem ix (its:List Value):∀(k:Nat)(acc:List Value),
  List.foldl (λx1 x2=>x1++x2) acc.toArray (List.replicate k its.toArray)=(acc++(List.replicate k its).flatten).toArray
 | 0,acc=>by simp
 | k+1,acc=>by
  have e:acc.toArray++its.toArray=(acc++its).toArray:=by simp
  have e2:(acc++its)++(List.replicate k its).flatten=acc++(List.replicate (k+1) its).flatten:=by
   rw[Fg,flatten_cons,Fh]
  rw[<- e2,<- ix its k (acc++its),<- e,Fg,foldl_cons]
theorem Inv.lset {its its':List Value}{n:Nat}{f:Array Value->Array Value}{t':Nat}(I:Inv X pins σ H s)(hH:H l=some (.lst xs))
  (e:s.heap.get? l=some { cls:=.type "list",data:=.seq its.toArray n })(hf:f its.toArray=its'.toArray)(hv:o6 ys its')(hz:ys.length<=sizeLine) :
  Inv X pins σ (upd H l (.lst ys)) { s with heap:=s.heap.update l (Obj.mapSeq f),toks:=t' }:=by
 have q:=PySem.IsL.update e f;rw[hf] at q;refine I.write (x:=l) (e:=l) (by rw[hH];exact trivial) (.inl rfl) (λb' u hb hu=>(EZ s.heap (Obj.mapSeq f) (Im hb)).trans hu) ⟨_,q⟩ ?_
 exact⟨hz,its',_,hv,q⟩
theorem Inv.lnew {t':Nat}(I:Inv X pins σ H s)(hv:o6 ys its)(hz:ys.length<=sizeLine) :
  Inv X pins σ (upd H s.heap.objs.size (.lst ys)) { s with heap:=s.heap.push { cls:=.type "list",data:=.seq its.toArray },toks:=t' } :=
 I.laid (λ_ _ q=>Em _ q) (Eo _) ⟨hz,its,0,hv,En _ rfl⟩
theorem Inv.fresh (I:Inv X pins σ H s):H s.heap.objs.size=none:=I.hok.fresh (Eo _)
theorem Inv.lstM (I:Inv X pins σ H s)(hH:H l=some (.lst xs)):xs.length<=sizeLine/\∃(its:List Value)(n:Nat),o6 xs its/\xs.length=its.length/\s.heap.get? l=some { cls:=.type "list",data:=.seq its.toArray n }:=by
 obtain⟨z,its,n,r,e⟩:=I.hok l _ hH;exact⟨z,its,n,r,r.length,e⟩
def fP {n:Nat}(h:n<=sizeLine):Builtin.List.listTooLong n=false:=by
 unfold Builtin.List.listTooLong;exact b_ (by lia)
def pO:V->List V->Hp->VK->Prop:=λx vs H Q=>∃l xs y,x=.ref l/\vs=[y]/\H l=some (.lst xs)/\xs.length<sizeLine/\Q .non (upd H l (.lst (xs++[y])))
def rA:MtM X "list.append" pO:=by
 intro pins s σ H x vs v us Q I rx rv h
 obtain⟨l,xs,y,rfl,rfl,hH,hz,q⟩:=h
 cases rx
 obtain⟨u,rfl,ru⟩:=rv.one;obtain⟨z,its,n,r,hl,e⟩:=I.lstM hH;refine Fi F.slot_list_append ⟨_,e,Iu⟩ F.entry_list_append (F.args_list_append_2 _ _) (PySem.list_append l its.toArray n u (by rw[Ey];lia)) ⟨e,?_⟩
 refine⟨.non,_,I.lset (its':=its++[u]) hH e (by simp) (r.append (.cons ru .nil)) ?_,Iu,q⟩
 rw[EU,Fj];lia
def qj:V->List V->Hp->VK->Prop:=λx vs H Q=>∃l b xs zs,x=.ref l/\vs=[.ref b]/\H l=some (.lst xs)/\H b=some (.lst zs)/\xs.length+zs.length<=sizeLine/\Q .non (upd H l (.lst (xs++zs)))
def qS:MtM X "list.extend" qj:=by
 intro pins s σ H x vs v us Q I rx rv h
 obtain⟨l,b,xs,zs,rfl,rfl,hH,hB,hz,q⟩:=h
 cases rx
 obtain⟨u,rfl,ru⟩:=rv.one
 cases ru
 obtain⟨z,its,n,r,hl,e⟩:=I.lstM hH;obtain⟨z2,its2,n2,r2,hl2,e2⟩:=I.lstM hB;have hsz:its.toArray.size+its2.toArray.size<=sizeLine:=by rw[Ey,Ey];lia
 have hlong:¬(!its.toArray.isEmpty&&Builtin.List.listTooLong (its.toArray.size+its2.toArray.size))=true:=by
  rw[fP hsz,Fk];exact Ei
 refine Fi F.slot_list_extend ⟨_,e,Iu⟩ F.entry_list_extend (F.args_list_extend_2 _ _)
  (AutoSeq1.list_extend_list_list_0 l its.toArray n b its2.toArray n2 hlong (by rw[Ey];lia) (by lia)) ⟨e,e2,?_⟩
 refine⟨.non,_,I.lset (its':=its++its2) hH e (by simp) (r.append r2) ?_,Iu,q⟩
 rw[EU];lia
def zu:R2:=λx y H Q=>∃l b xs zs,x=.ref l/\y=.ref b/\H l=some (.lst xs)/\H b=some (.lst zs)/\xs.length+zs.length<=sizeLine/\∀p,H p=none->Q (.ref p) (upd H p (.lst (xs++zs)))
def aU:OpR X (binaryOp .Add) zu:=by
 intro pins s σ H x y v u Q I rx ry h
 obtain⟨l,b,xs,zs,rfl,rfl,hH,hB,hz,q⟩:=h
 cases rx
 cases ry
 obtain⟨z,its,n,r,hl,e⟩:=I.lstM hH;obtain⟨z2,its2,n2,r2,hl2,e2⟩:=I.lstM hB;refine PySem.P.add_list e e2 ?_ (by rw[Ey,Ey];lia)
 have ea:its.toArray++its2.toArray=(its++its2).toArray:=by simp
 rw[ea];exact⟨.ref _,_,I.lnew (t':=s.toks) (r.append r2) (by rw[EU];lia),Iu,q _ I.fresh⟩
def zf:R2:=λx y H Q=>∃l k xs,x=.ref l/\y=.int k/\H l=some (.lst xs)/\-(2^63)<=k/\k<2^63/\xs.length*k.toNat<=sizeLine /\
 ∀p,H p=none->Q (.ref p) (upd H p (.lst (List.replicate k.toNat xs).flatten))
theorem vv {α:Type}(xs:List α)(k:Nat):(List.replicate k xs).flatten.length=k*xs.length:=by
 induction k with
 | zero=>simp
 | succ k ih=>rw[Fg,flatten_cons,EU,ih,Nat.succ_mul,Nat.add_comm]
def sQ:OpR X (binaryOp .Mult) zf:=by
 intro pins s σ H x y v u Q I rx ry h
 obtain⟨l,k,xs,rfl,rfl,hH,h1,h2,hz,q⟩:=h
 cases rx
 obtain⟨t,rfl⟩:=ry;obtain⟨z,its,n,r,hl,e⟩:=I.lstM hH;have hlen:its.toArray.size*k.toNat<=sizeLine:=by rw[Ey,<- hl];exact hz
 have hcap:¬its.toArray.size*k.toNat > (2^63-1)/8:=by
  have:(sizeLine:Nat)<=(2^63-1)/8:=by decide
  lia
 have hfit:¬(!Builtin.List.listFitsIndex k)=true:=by
  rw[fitsIndex_both h1 h2];exact Ei
 have hlong:¬Builtin.List.listTooLong (its.toArray.size*k.toNat)=true:=by
  rw[fP hlen];exact Ei
 have hnew:List.foldl (λx1 x2=>x1++x2) #[] (List.replicate (if its.toArray.isEmpty=true then 0 else k.toNat) its.toArray)=(List.replicate k.toNat its).flatten.toArray:=by
  have f0:∀m:Nat,List.foldl (λx1 x2=>x1++x2) #[] (List.replicate m its.toArray)=(List.replicate m its).flatten.toArray:=λm=>by
   have:=ix its m []
   rw[List.nil_append] at this;exact this
  rw[f0]
  cases its with
  | nil=>simp
  | cons a r'=>rw[Il (by simp)]
 refine wpAny_binaryOp_repeat_ref (T:="list") (U:="int") (by decide) ⟨_,e,Iu⟩ (λs'=>typeIs_int s' k t) noFill_list_mul F.fills_int_mul F.slot_int_rmul repeat_list F.slot_int_index.lookup
  (Fi F.slot_int_rmul (typeIs_int s k t) F.entry_int_rmul (F.args_int_rmul_2 _ _) (int___rmul___int_list k t l its.toArray n)
   ⟨e,Iu,⟨_,e,Iu⟩,Fi F.slot_list_mul ⟨_,e,Iu⟩ F.entry_list_mul (F.args_list_mul_2 _ _) (AutoListH.list___mul___list_int_3 l its.toArray n k t hfit hcap hlong) ⟨e,?_⟩⟩)
 rw[hnew];exact⟨.ref _,_,I.lnew (t':=s.toks) (r.rep k.toNat) (by rw[vv,Fl];exact hz),Iu,q _ I.fresh⟩
end L2
namespace Att
open PySem PySem.W PySem.Calls PyProof.Rows
theorem dE:∀(ns:List Int)(vs:List Value),WellAll P h vs (ns.map WData.int)->IntsAre vs ns:=by
 intro ns
 induction ns with
 | nil =>
  intro vs w
  rw[map_nil] at w
  cases w
  exact .nil
 | cons n ns ih =>
  intro vs w
  rw[EX] at w
  cases w with
  | cons a b =>
   cases a
   exact .cons _ _ (ih _ b)
theorem sg {l:OpenLaw}{n:Nat}(hn:l.most=some n)
  (hpre:l.row.toRowW.claim.pre args=true)(hwl:WellAll P h vals args) :
  ∃a vs ns,vals=[Value.ref a]/\args=[WData.list (ns.map WData.int)]/\h.get? a=some { cls:=.type "list",data:=.seq vs.toArray }/\IntsAre vs ns/\ns.length<=n:=by
 have hsh:WShape.hasAll [] args [.list .int]=true:=(pre_splitW hpre).1;have hc:l.pre.holds [] { args:=args }=true:=(pre_splitW hpre).2;obtain⟨d,r,rfl,h1,h2⟩:=hasAllW_cons hsh;obtain rfl:=hasAllW_nil h2;obtain⟨xs,rfl,h3⟩:=hasW_list h1;obtain⟨ns,rfl⟩:=items_int h3
 have hlen:ns.length<=n:=by
  unfold OpenLaw.pre at hc
  have h4:(WTm.not (.lt (.lit (.int (n:Int))) (.len (.arg 0)))).holds [] { args:=[.list (ns.map .int)] }=true:=by
   have h4:=(holds_andW hc).1;rw[hn] at h4;exact h4
  have h5:=condW_of h4 (w_not (w_lt w_lit (w_len_list (w_arg rfl))));rw[EV] at h5;refine Nat.le_of_not_lt λq=>?_;have q':(n:Int)<((ns.length:Nat):Int):=by lia
  first
   | (rw[Fm q'] at h5;exact absurd h5 (by decide))
   | (simp at h5;lia)
 cases hwl with
 | cons w1 w2 =>
  cases w2
  cases w1 with
  | list ho hall=>exact⟨_,_,ns,Iu,Iu,ho,dE ns _ hall,hlen⟩
def rB (l:OpenLaw)(args:List WData):l.row.toRowW.claim.post args (.bool true) args=true :=
 postW_of (r:=l.row.toRowW) (X:=(true==true))
  (show WShape.has [] (.bool true) .bool=true by first|rfl|decide|simp[WShape.has,WShape.arms,WShape.armsAll])
  (show(WTm.eq .res (.lit (.bool true))).value [] { args:=args,res:=some (.bool true),after:=args }=some (.bool (true==true)) from w_eq_bool (w_res rfl) w_lit) rfl
def attach_call {l:OpenLaw}{n:Nat}{YP:World->Heap->Prop}{d:DefRec}
  (hn:l.most=some n)(hdf:d.params.defaults=[])
  (call:∀(w:World)(s₀ s₁:Shared)(mg mb:Str->Option Value)(fa:Addr)(o:Obj)(pm cd doc:Value)(a:Addr)(vs:List Value)(ns:List Int),
   Ground q loose [] XP w s₀ mg mb s₁.heap->YP w s₁.heap ->
   s₁.heap.get? fa=some o->o.data=.func (docDef d.name d.params d.body d.scope pm cd doc)->s₁.heap.CodeRec cd d.name->mg d.name=some (.ref fa) ->
   s₁.heap.get? a=some { cls:=.type "list",data:=.seq vs.toArray }->IntsAre vs ns->ns.length<=n->s₁.gens=#[] ->
   codeAny (model l.prog w) callerA (.call (.ref fa) ⟨[.ref a],[]⟩) (λr s'=>r=.ok (.ret (.bool true))/\OldK s₁.heap s'.heap/\s'.os=s₁.os/\AllBare s'.gens) s₁) :
  WalkO q loose XP YP l.row.toRowW d [] (λf vs=>PySem.call f vs):=by
 intro w s₀ s₁ mg mb G Y fa o pm cd doc dV kV ho hd hcd hD hmg hg args vals as hpre hlay hrd hwl hlo
 obtain rfl:dV=.none:=Dflts.none hD hdf;obtain rfl:kV=.none:=Dflts.noKw hD;obtain⟨a,vs,ns,rfl,rfl,hobj,hints,hlen⟩:=sg hn hpre hwl;refine enter_call (EJ (call w s₀ s₁ mg mb fa o pm cd doc a vs ns G Y ho (fd_plain hd) hcd hmg hobj hints hlen hg) λr s' hq=>?_);obtain⟨rfl,h2,h3,h4⟩:=hq;exact⟨.inl ⟨.bool true,.bool true,[],Iu,λ_=>rfl,.bool true,rB l _,λ_=>⟨Fn,λ_ hm=>(nomatch hm)⟩⟩,h2,h3,h4⟩
end Att
namespace L2
open PySem PySem.Spec PyProof.Rows
theorem U3:∀{vs:List Value}{ns:List Int},IntsAre vs ns->o6 (ns.map V.int) vs
 | _,_,.nil=>.nil
 | _,_,.cons n t h=>.cons ⟨t,Iu⟩ (U3 h)
def xK (H:Hp):Prop:=∀b,H b=none\/∃o xs,H b=some (.frz o (.lst xs))
theorem tS {K:Frag}{k:Nat}{s₁:Shared}{vs:List Value}
  (KX:K.In s₁.heap)(hns:s₁.heap.Ns mainGlobals mg)(hb:s₁.heap.Ns builtinsNs mb)(hbb:∀x:Str,x≠"__name__"->mb x=bootBuiltins x)(hlim:s₁.heap.NoLimit)(hg:s₁.gens=#[])
  (ha:s₁.heap.get? a=some { cls:=.type "list",data:=.seq vs.toArray })(hi:IntsAre vs ns)(hl:ns.length<=sizeLine)(hr:C0 k callerA)
  (F:∀base:Heap,K.In base->base.Ns mainGlobals mg->bF P w K mg base CX k fa fd [x] sp) (hbind:∀(s:Shared)(u:Value),BindsTo s fd ⟨[u],[]⟩ [(x,u)])
  (hsp:∀H:Hp,xK H->SqL K H a (ns.map V.int)->sp [.ref a] H (λv _=>v=.bl true) λ_ _ _=>False)
  (hCX:∀H e s',CX [] H s₁ (λ_ _ _=>False) e s'->False) :
  codeAny (model P w) callerA (.call (.ref fa) ⟨[.ref a],[]⟩) (λr s'=>r=.ok (.ret (.bool true))/\OldK s₁.heap s'.heap/\s'.os=s₁.os/\AllBare s'.gens) s₁:=by
 have rv:=U3 hi;have lenV:=hi.length
 have core:∀H:Hp,xK H->SqL K H a (ns.map V.int)->HOk P w H s₁.heap->(∀b,H b≠none->b=a)->(H a≠none->K.lookup a=none) ->
   codeAny (model P w) callerA (.call (.ref fa) ⟨[.ref a],[]⟩) (λr s'=>r=.ok (.ret (.bool true))/\OldK s₁.heap s'.heap/\s'.os=s₁.os/\AllBare s'.gens) s₁:=by
  intro H hO hS hok hA hK
  have base_of:∀{b:Addr}{o:Obj},s₁.heap.get? b=some o->H b=none->(js s₁.heap H).get? b=some o:=λe n=>tM e n
  have noA:∀{b:Addr}{o:Obj}{es:Array DictEntry}{ep:Nat},s₁.heap.get? b=some o->o.data=.dict es ep->H b=none:=λ{b o es ep} e d=>by
   cases q:H b with
   | none=>rfl
   | some u =>
    have e':b=a:=hA b (by rw[q];simp)
    subst e';rw[ha] at e;cases e;have d':Data.seq vs.toArray _=Data.dict es ep:=d
    cases d'
  have nsK:∀{b:Addr}{m:Str->Option Value},s₁.heap.Ns b m->(js s₁.heap H).Ns b m:=λ{b m} ⟨o,es,ep,e,d,r⟩=>⟨o,es,ep,base_of e (noA e d),d,r⟩
  have hKb:K.In (js s₁.heap H):=λb o e=>base_of (KX b o e) (by
   cases q:H b with
   | none=>rfl
   | some u =>
    have e':b=a:=hA b (by rw[q];simp)
    subst e'
    rw[hK (by rw[q];simp)] at e;cases e)
  have hM:Mod K mg (js s₁.heap H):=⟨hKb,nsK hns,⟨mb,nsK hb,hbb⟩,let ⟨mc,h1,h2⟩:=hlim;⟨mc,nsK h1,h2⟩⟩;have e0:nv P w K mg (js s₁.heap H) callerA [] s₁ H:=⟨Iu,hM,λb o e=>wn e,Nat.le_of_eq (qp _ _),trivial,λb hb=>absurd (show b∈([]:List Addr) from hb) (by simp),hok,.of_eq hg⟩
  refine EJ ((F _ hKb (nsK hns)).run callerA [] s₁ H ⟨[.ref a],[]⟩ [.ref a] [.ref a] _ _ hr e0 (hbind s₁ (.ref a)) (.cons rfl .nil) (hsp H hO hS)) λr s' h=>?_
  cases r with
  | error e=>exact(hCX H e s' h).elim
  | ok fl =>
   cases fl with
   | next=>exact False.elim h
   | brk=>exact False.elim h
   | cont=>exact False.elim h
   | ret u =>
    obtain⟨v,H',os,bare,un,hok',r',q⟩:=h;have q':v=.bl true:=q;subst q';obtain rfl:u=Value.bool true:=r';refine⟨Iu,OldK.of_keep λb o e=>?_,os,bare⟩
    cases q:H b with
    | none=>exact un.keep b o e q (by intro z;exact absurd (show b∈([]:List Addr) from z) (by simp)) (by simp)
    | some u =>
     rcases hO b with z|⟨ob,xs,z⟩
     ·rw[q] at z;cases z
     ·have z2:=un.frzs b ob _ z
      obtain⟨e1,_⟩:=hok b _ z;obtain⟨e2,_⟩:=hok' b _ z2;rw[e] at e1;cases e1;exact e2
 cases hk:K.lookup a with
 | some o =>
  have e:=KX a o hk;rw[ha] at e
  cases e
  refine core (λ_=>none) (λ_=>.inl rfl) (.inr ⟨_,vs.toArray,_,hk,Iu,Iu,Iu,by rw[Ey,lenV];exact hl,by simpa using rv⟩) (λb u z=>by have z':(none:Option HO)=some u:=z;cases z') (λb z=>absurd rfl z) λz=>absurd rfl z
 | none =>
  refine core (λb=>if b=a then some (.frz { cls:=.type "list",data:=.seq vs.toArray } (.lst (ns.map V.int))) else none) (λb=>?_) (.inl (.inr ⟨{ cls:=.type "list",data:=.seq vs.toArray },Ik rfl⟩)) (λb u z=>?_) (λb z=>?_) λ_=>hk
  ·by_cases hb:b=a
   ·exact .inr ⟨_,_,Ik hb⟩
   ·exact .inl (Il hb)
  ·by_cases hb:b=a
   ·have z':=(Ik hb).symm.trans z
    cases z'
    subst hb;exact⟨ha,by rw[EV];exact hl,vs,_,rv,ha⟩
   ·have z':=(Il hb).symm.trans z
    cases z'
  ·by_cases hb:b=a
   ·exact hb
   ·exact absurd (Il hb) z
def wa {l:PySem.W.OpenLaw}{n k:Nat}{YP:World->Heap->Prop}{d:DefRec}{K:Params->Frag}{CX:World->CXT}{sp:World->Sp}
  (hn:l.most=some n)(hn2:n<=sizeLine)(hdf:d.params.defaults=[])(hr:C0 k callerA)
  (hY:∀(w:World)(h:Heap),YP w h->(K w.params).In h)
  (F:∀(w:World)(mg:Str->Option Value)(fa:Addr)(h:Heap),(K w.params).In h->h.Ns mainGlobals mg->mg d.name=some (.ref fa) ->
   ∃fd:FuncData,(∀(s:Shared)(u:Value),BindsTo s fd ⟨[u],[]⟩ [(x,u)]) /\
    ∀base:Heap,(K w.params).In base->base.Ns mainGlobals mg->bF l.prog w (K w.params) mg base (CX w) k fa fd [x] (sp w))
  (hsp:∀(w:World)(H:Hp)(a:Addr)(ns:List Int),ns.length<=n->xK H->SqL (K w.params) H a (ns.map V.int)->sp w [.ref a] H (λv _=>v=.bl true) λ_ _ _=>False)
  (hCX:∀(w:World)(H:Hp)(s:Shared)(e:Value)(s':Shared),CX w [] H s (λ_ _ _=>False) e s'->False) :
  PySem.W.WalkO q loose XP YP l.row.toRowW d [] (λf vs=>PySem.call f vs):=by
 refine Att.attach_call hn hdf λw s₀ s₁ mg mb fa o pm cd doc a vs ns G Y ho hd hcd hmg hobj hints hlen hg=>?_;have KX:=hY w _ Y;obtain⟨fd,hb,hF⟩:=F w mg fa _ KX G.T.g hmg;exact tS KX G.T.g G.T.b G.T.builtins G.T.nolimit hg hobj hints (k_ hlen hn2) hr hF hb (λH hO hS=>hsp w H a ns hlen hO hS) λH e s'=>hCX w H s₁ e s'
def V5 (s:Stmt)(j:Nat):Stmt:=match s with
 | .ClassDef _ _ _ body _ _ _ _ _ _ _=>body.getD j (.Pass ⟨0,0,0,0⟩)
 | _=>.Pass ⟨0,0,0,0⟩
def x8 (s:Stmt):Arguments:=match s with
 | .FunctionDef _ a _ _ _ _ _ _ _ _=>a
 | _=>{ posonlyargs:=[],args:=[],vararg:=none,kwonlyargs:=[],kw_defaults:=[],kwarg:=none,defaults:=[] }
def o7 (s:Stmt):List Stmt:=match s with
 | .FunctionDef _ _ b _ _ _ _ _ _ _=>b
 | _=>[]
def i4 (s:Stmt):Scope:=match s with
 | .FunctionDef _ _ _ _ _ _ sc _ _ _=>sc
 | _=>{ kind:=.function,names:=[],isGenerator:=false,isCoroutine:=false }
abbrev CX0:CXT:=λ_ _ _ _ _ _=>False
abbrev E0:XK:=λ_ _ _=>False
def wC:nR CX0 X E0:=λ_ _ _ _ _ _ _ h=>h.elim
structure Fun (K:Frag)(x qual:Str)(st:Stmt)(f:Addr)(fd:FuncData):Prop where
 ex:∃(oc:Value)(od:Option Addr)(kV doc pm:Value)(an:Option Addr)(cdv ct:Value)(osl:Array (Option Value)),
  fd=fnOf x qual (x8 st) (o7 st) (i4 st) .none kV doc pm an cdv ct/\K.lookup f=some ⟨oc,od,.func fd,osl⟩/\codeIn K cdv qual=true
 kp:keepIn K (.ref f)=true
section
variable {K:Frag}
theorem Fun.ok {st:Stmt}{k:Nat}{sp:Sp}(F:Fun K x qual st f fd)(S:FnScope N ps (i4 st))(len:∀vs H Q E,sp vs H Q E->vs.length=ps.length)
  (hbody:∀(cdv:Value)(A:Around)(outer:List Env)(s:Shared)(H:Hp)(vs:List V)(Q:VK)(E:XK),C0 k (A.deeper (envOfC qual (i4 st) s.heap.objs.size f cdv))->sp vs H Q E ->
   ∃t,PSs (R1 CX0 P w K mg base N qual (i4 st) f cdv A outer s H E).nox (o7 st) t/\t { nx:=λ_ H'=>Q .non H',rt:=Q } (start N vs) H):bF P w K mg base CX0 (k+1) f fd ps sp:=by
 obtain⟨oc,od,kV,doc,pm,an,cdv,ct,osl,rfl,lk,hcd⟩:=F.ex;refine jO lk hcd S len λA outer s H vs Q E hr hsp=>?_;obtain⟨t,h,q⟩:=hbody cdv A outer s H vs Q E hr hsp;exact⟨t,h.nox,q⟩
def uu {st:Stmt}{kV doc pm cdv ct:Value}(l:K.lookup f=some ⟨oc,od,.func (fnOf x qual (x8 st) (o7 st) (i4 st) .none kV doc pm an cdv ct),osl⟩)
  (c:codeIn K cdv qual=true)(k:keepIn K (.ref f)=true):Fun K x qual st f (fnOf x qual (x8 st) (o7 st) (i4 st) .none kV doc pm an cdv ct):=⟨⟨oc,od,kV,doc,pm,an,cdv,ct,osl,Iu,l,c⟩,k⟩
end
def Q4 {k:Nat}(hr:C0 k A):A.units+1<cLine:=Fo (Nat.add_le_add_left (by decide:1<=64) _) hr.units
def k9 {n:Nat}(h:n<=1000):n<sizeLine:=Fo h (by decide)
def pv {X:Cx}(i:Nat)(hN:X.N[i]? = some x:=by rfl)(hv:Vis X.env.scope x:=by first|exact Or.inl rfl|exact Or.inr (Or.inl rfl)|exact Or.inr (Or.inr rfl))(hd:(x==("__debug__":Str))=false:=by decide)
  (hcd:(x==("__classdict__":Str))=false:=by decide):PE X (.Name x pos) (yT i):=xn hN hv hd hcd
def B9 (h:B):if false=true then A else B:=by
 rw[Il Ei];exact h
def E9 (h:A):if true=true then A else B:=by
 rw[Ik rfl];exact h
def B4  [Decidable c] (h1:c->A) (h2:¬c->B):if c then A else B:=by
 by_cases h:c
 ·rw[Ik h]
  exact h1 h
 ·rw[Il h]
  exact h2 h
def i9 (H H':Hp):Prop:=∀b o,H b=some o->H' b=some o
theorem i9.refl (H:Hp):i9 H H:=λ_ _ h=>h
theorem i9.trans (a:i9 H H1)(b:i9 H1 H2):i9 H H2:=λc o h=>b c o (a c o h)
theorem i9.free (e:i9 H H')(h:H' l=Option.none):H l=Option.none:=by
 cases q:H l with
 | none=>rfl
 | some o =>
  rw[e l o q] at h
  cases h
theorem i9.seq {K:Frag}(e:i9 H H')(h:SqL K H a xs):SqL K H' a xs:=by
 rcases h with(h|⟨o,h⟩)|h
 ·exact .inl (.inl (e _ _ h))
 ·exact .inl (.inr ⟨o,e _ _ h⟩)
 ·exact .inr h
section
variable {κ:Type}[DecidableEq κ]
def A8 (kvs:List (κ×V))(k:κ):Option V:=(kvs.find? λkv=>decide (kv.1=k)).map (·.2)
def aH (kvs:List (κ×V))(k:κ)(v:V):List (κ×V) :=
 if (kvs.any λkv=>decide (kv.1=k))=true then kvs.map (λkv=>if kv.1=k then (kv.1,v) else kv) else kvs++[(k,v)]
def G0 {k:κ}(e:p.1=k):A8 (p::r) k=some p.2:=by simp[A8,Fp,e]
def F9 {k:κ}(e:¬p.1=k):A8 (p::r) k=A8 r k:=by simp[A8,Fp,e]
theorem bD (k:κ):∀kvs:List (κ×V),(kvs.any λkv=>decide (kv.1=k))=(A8 kvs k).isSome
 | []=>rfl
 | p::r=>by
  rw[any_cons]
  by_cases e:p.1=k
  ·simp only[G0 e,Fm e,Bool.true_or,Option.isSome_some]
  ·rw[F9 e,b_ e,Bool.false_or];exact bD k r
theorem kQ (k j:κ)(y:V):∀kvs:List (κ×V),A8 (kvs.map λkv=>if kv.1=k then (kv.1,y) else kv) j=(A8 kvs j).map λx=>if j=k then y else x
 | []=>rfl
 | p::r=>by
  have ih:=kQ k j y r;rw[EX]
  by_cases h:p.1=k
  ·rw[Ik h]
   by_cases e:p.1=j
   ·rw[G0 (p:=(p.1,y)) e,G0 e,Fq,Ik (e.symm.trans h)]
   ·rw[F9 (p:=(p.1,y)) e,F9 e,ih]
  ·rw[Il h]
   by_cases e:p.1=j
   ·rw[G0 (p:=p) e,G0 e,Fq,Il (λz=>h (e.trans z))]
   ·rw[F9 (p:=p) e,F9 e,ih]
theorem iy (k j:κ)(y:V):∀kvs:List (κ×V),A8 kvs k=none->A8 (kvs++[(k,y)]) j=if j=k then some y else A8 kvs j
 | [],_=>by
  by_cases e:k=j
  ·rw[Ik e.symm];exact G0 (p:=(k,y)) e
  ·rw[Il (λz=>e z.symm)];exact F9 (p:=(k,y)) e
 | p::r,hn=>by
  rw[cons_append];have hk:¬p.1=k:=λz=>by rw[G0 z] at hn;cases hn
  rw[F9 hk] at hn;have ih:=iy k j y r hn
  by_cases e:p.1=j
  ·rw[G0 e,G0 e,Il (λz=>hk (e.trans z))]
  ·rw[F9 e,F9 e,ih]
def U5 (kvs:List (κ×V))(k j:κ)(y:V):A8 (aH kvs k y) j=if j=k then some y else A8 kvs j:=by
 unfold aH
 by_cases a:(kvs.any λkv=>decide (kv.1=k))=true
 ·rw[Ik a,kQ]
  rw[bD] at a
  by_cases e:j=k
  ·obtain⟨x,hx⟩:=Option.isSome_iff_exists.mp a
   rw[Ik e,e,hx,Fq,Ik rfl]
  ·rw[Il e]
   cases A8 kvs j with
   | none=>rfl
   | some x=>rw[Fq,Il e]
 ·rw[Il a]
  refine iy k j y kvs ?_;rw[bD] at a
  cases q:A8 kvs k with
  | none=>rfl
  | some x=>rw[q] at a;exact(a rfl).elim
def J4 (kvs:List (κ×V))(k:κ)(v:V):(aH kvs k v).length<=kvs.length+1:=by
 unfold aH
 split
 ·rw[EV];lia
 ·rw[EU,Ez,EA];lia
theorem cj.isSome_eq (r:cj o u):o.isSome=u.isSome:=by
 cases o with
 | none=>cases u with
  | none=>rfl
  | some _=>exact(show False from r).elim
 | some _=>cases u with
  | none=>exact(show False from r).elim
  | some _=>rfl
theorem cj.getD (r:cj o u)(rd:u9 d d'):u9 (o.getD d) (u.getD d'):=by
 cases o with
 | none=>cases u with
  | none=>exact rd
  | some _=>exact(show False from r).elim
 | some _=>cases u with
  | none=>exact(show False from r).elim
  | some _=>exact r
theorem KV.val (r:KV kvs vs)(k:κ):cj (A8 kvs k) (valueAt vs k):=by
 unfold KV at r
 induction r with
 | nil=>exact ED
 | @cons p q ps qs h t ih =>
  obtain⟨h1,h2⟩:=h
  by_cases e:p.1=k
  ·have e':q.1=k:=h1.symm.trans e
   have b:valueAt (q::qs) k=some q.2:=by simp[valueAt,Fp,e']
   rw[G0 e,b];exact h2
  ·have e':¬q.1=k:=λz=>e (h1.trans z)
   have b:valueAt (q::qs) k=valueAt qs k:=by simp[valueAt,Fp,e']
   rw[F9 e,b];exact ih
theorem KV.any (r:KV kvs vs)(k:κ):(kvs.any λkv=>decide (kv.1=k))=vs.any λkv=>decide (kv.1=k):=by
 unfold KV at r
 induction r with
 | nil=>rfl
 | cons h t ih=>rw[any_cons,any_cons,ih,h.1]
theorem KV.repl (r:KV kvs vs)(k:κ)(ry:u9 y u) :
  KV (kvs.map λkv=>if kv.1=k then (kv.1,y) else kv) (vs.map λkv=>if kv.1=k then (kv.1,u) else kv):=by
 unfold KV at r ⊢
 induction r with
 | nil=>exact .nil
 | @cons p q ps qs h t ih =>
  rw[EX,EX];refine .cons ?_ ih;obtain⟨h1,h2⟩:=h
  by_cases e:p.1=k
  ·rw[Ik e,Ik (h1.symm.trans e)];exact⟨h1,ry⟩
  ·rw[Il e,Il (λz=>e (h1.trans z))];exact⟨h1,h2⟩
theorem KV.put (r:KV kvs vs)(k:κ)(ry:u9 y u):KV (aH kvs k y) (stored vs k u):=by
 unfold aH stored;rw[r.any k]
 by_cases e:(vs.any λkv=>decide (kv.1=k))=true
 ·rw[Ik e,Ik e];exact r.repl k ry
 ·rw[Il e,Il e];exact Fr r ⟨Iu,ry⟩
theorem KV.length (r:KV kvs vs):kvs.length=vs.length:=d_ r
end
theorem gj {k:Key}(r:u9 (kV k) u):(z8 P w).is k u=true:=by
 cases k with
 | inl i=>obtain⟨t,e⟩:=(show ∃t,u=Value.int i t from r);subst e;exact jQ P w i t
 | inr x=>obtain⟨t,e⟩:=(show ∃t,u=Value.str x t from r);subst e;exact ku P w x t
theorem xA (e:kV a=kV b):a=b:=by
 cases a with
 | inl i=>cases b with
  | inl j=>have e':V.int i=V.int j:=e;injection e' with e';rw[e']
  | inr y=>exact nomatch (show V.int i=V.str y from e)
 | inr x=>cases b with
  | inl j=>exact nomatch (show V.str x=V.int j from e)
  | inr y=>have e':V.str x=V.str y:=e;injection e' with e';rw[e']
theorem gV:∀{ks:List Key}{us:List Value},o6 (ks.map kV) us->ItemsAre (z8 P w) ks us
 | [],_,r=>by rw[map_nil] at r;cases r;exact .nil
 | k::ks,_,r=>by
  rw[EX] at r
  cases r with
  | cons h t=>exact .cons (gj h) (gV t)
abbrev KT (H:Hp):List (List Key×V)->List (List Key×Addr×Value)->Prop:=Paired λp q=>p.1=q.1/\H q.2.1=some (.tup (p.1.map kV))/\u9 p.2 q.2.2
theorem KT.val (r:KT H kvs xs)(k:List Key):cj (A8 kvs k) ((atKey xs k).map (·.2)):=by
 induction r with
 | nil=>exact ED
 | @cons p q ps qs h t ih =>
  obtain⟨h1,_,h2⟩:=h
  by_cases e:p.1=k
  ·have e':q.1=k:=h1.symm.trans e
   have b:atKey (q::qs) k=some q.2:=by simp[atKey,Fp,e']
   rw[G0 e,b];exact h2
  ·have e':¬q.1=k:=λz=>e (h1.trans z)
   have b:atKey (q::qs) k=atKey qs k:=by simp[atKey,Fp,e']
   rw[F9 e,b];exact ih
theorem KT.repl (r:KT H kvs xs)(k:List Key)(ry:u9 y u) :
  KT H (kvs.map λkv=>if kv.1=k then (kv.1,y) else kv) (xs.map (putAt k u)):=by
 induction r with
 | nil=>exact .nil
 | @cons p q ps qs h t ih =>
  rw[EX,EX];refine .cons ?_ ih;obtain⟨h1,h2,h3⟩:=h;unfold putAt
  by_cases e:p.1=k
  ·rw[Ik e,Ik (h1.symm.trans e)];exact⟨h1,h2,ry⟩
  ·rw[Il e,Il (λz=>e (h1.trans z))];exact⟨h1,h2,h3⟩
theorem KT.put (r:KT H kvs xs)(k:List Key)(hb:H b=some (.tup (k.map kV)))(ry:u9 y u) :
  KT H (aH kvs k y) (storedH xs k b u):=by
 have e:(kvs.any λkv=>decide (kv.1=k))=(atKey xs k).isSome:=by
  rw[bD,(r.val k).isSome_eq,Option.isSome_map]
 unfold aH storedH;rw[e]
 by_cases q:(atKey xs k).isSome=true
 ·rw[Ik q,Ik q];exact r.repl k ry
 ·rw[Il q,Il q];exact Fr r ⟨Iu,hb,ry⟩
theorem KT.keeps {H H':Hp}(r:KT H kvs xs)(ht:∀b ys,H b=some (.tup ys)->H' b=some (.tup ys)):KT H' kvs xs :=
 Paired.mapP r λ_ _ z=>⟨z.1,ht _ _ z.2.1,z.2.2⟩
def wE (ok:HOk P w H h)(e:Rd H a u):u6 P w H h a u:=e.ok ok
def iR (ok:HOk P w H h)(e:Rd H a (.dK kvs)):kvs.length<=sizeLine/\(a==sysModules)=false/\∃vs,KV kvs vs/\h.DictOf (z8 P w) a vs :=
 show u6 P w H h a (.dK kvs) from wE ok e
def yO (ok:HOk P w H h)(e:H a=some (.dK kvs)):kvs.length<=sizeLine/\(a==sysModules)=false/\∃vs,KV kvs vs/\h.DictOf (z8 P w) a vs:=iR ok (.inl e)
def cN {ks:List Key}(ok:HOk P w H h)(e:H a=some (.tup (ks.map kV))):(tupleKind (z8 P w)).is h ks a:=by
 obtain⟨_,its,r,o,h1,h2,n,h3⟩:=(show u6 P w H h a (.tup (ks.map kV)) from ok a _ e);exact⟨o,its.toArray,n,h1,h2,h3,by simpa using gV r⟩
def iG (ok:HOk P w H h)(e:Rd H a (.dT kvs)):kvs.length<=sizeLine/\(a==sysModules)=false /\
  ∃xs,KT H kvs xs/\h.DictOfH (tupleKind (z8 P w)) a xs:=by
 obtain⟨z,y,xs,r,o,es,ep,h1,h2,h3,h4,h5⟩:=(show u6 P w H h a (.dT kvs) from wE ok e);refine⟨z,y,xs,r,o,es,ep,h1,h2,h3,h4,λx hx=>?_,h5⟩
 have all:∀{l:List (List Key×V)}{m:List (List Key×Addr×Value)},KT H l m->∀x∈m,(tupleKind (z8 P w)).is h x.1 x.2.1:=by
  intro l m q
  induction q with
  | nil=>intro x hx;exact nomatch hx
  | @cons p q ps qs hq t ih =>
   intro x hx
   rcases p_.mp hx with e|hx
   ·subst e
    exact cN ok (by rw[<- hq.1];exact hq.2.1)
   ·exact ih x hx
 exact all r x hx
def yf (ok:HOk P w H h)(e:H a=some (.dT kvs)):kvs.length<=sizeLine/\(a==sysModules)=false /\
  ∃xs,KT H kvs xs/\h.DictOfH (tupleKind (z8 P w)) a xs:=iG ok (.inl e)
def R9 (H:Hp)(a:Addr)(y:V)(r:Option V):Prop :=
 (∃kvs k,Rd H a (.dK kvs)/\y=kV k/\r=A8 kvs k)\/∃kvs k b,Rd H a (.dT kvs)/\y=.ref b/\H b=some (.tup (k.map kV))/\r=A8 kvs k
def gm (H:Hp)(a:Addr)(y v:V)(H':Hp):Prop :=
 (∃kvs k,H a=some (.dK kvs)/\y=kV k/\kvs.length<sizeLine/\H'=upd H a (.dK (aH kvs k v))) \/
 ∃kvs k b,H a=some (.dT kvs)/\y=.ref b/\H b=some (.tup (k.map kV))/\kvs.length<sizeLine/\H'=upd H a (.dT (aH kvs k v))
theorem R9.k {H:Hp}{k:Key}(e:H a=some (.dK kvs)):R9 H a (kV k) (A8 kvs k):=.inl ⟨kvs,k,.inl e,Iu,Iu⟩
theorem R9.t {H:Hp}{k:List Key}(e:H a=some (.dT kvs))(eb:H b=some (.tup (k.map kV))):R9 H a (.ref b) (A8 kvs k):=.inr ⟨kvs,k,b,.inl e,Iu,eb,Iu⟩
theorem gm.k {H:Hp}{k:Key}(e:H a=some (.dK kvs))(hl:kvs.length<sizeLine):gm H a (kV k) v (upd H a (.dK (aH kvs k v))):=.inl ⟨kvs,k,e,Iu,hl,Iu⟩
theorem gm.t {H:Hp}{k:List Key}(e:H a=some (.dT kvs))(eb:H b=some (.tup (k.map kV)))(hl:kvs.length<sizeLine) :
  gm H a (.ref b) v (upd H a (.dT (aH kvs k v))):=.inr ⟨kvs,k,b,e,Iu,eb,hl,Iu⟩
theorem Inv.big (I:Inv X pins σ H s):sysModules<s.heap.objs.size:=by
 have h:mainGlobals<s.heap.objs.size:=(I.mod.glob.keeps I.bk).lt;exact Fs (by decide) h
def zB {A:Around}{Q:Value->Shared->Prop}(hu:A.units+1<cLine)(I:Inv X pins σ H s)(g:R9 H a y o)(ry:u9 y u)(h:∀s',Inv X pins σ H s'->Q (.bool o.isSome) s') :
  wpAny (model X.prog X.w) A (compareOp .In u (.ref a)) Q E s:=by
 rcases g with⟨kvs,k,e,ey,l⟩|⟨kvs,k,b,e,ey,eb,l⟩
 ·subst ey
  obtain⟨z,hd,vs,rel,dd⟩:=iR I.hok e;refine wpAny_in_of (gj ry) hd dd.mapOf ?_;rw[<- (rel.val k).isSome_eq,<- l];exact h _ (I.tok _)
 ·subst ey
  cases (show u=Value.ref b from ry)
  obtain⟨z,hd,xs,rel,dd⟩:=iG I.hok e;refine wpAny_in_heap (Ft hu) (cN I.hok eb) hd dd ?_;have q:=(rel.val k).isSome_eq;rw[Option.isSome_map] at q;rw[<- q,<- l];exact h _ (I.tok _)
def vN {A:Around}{Q:Value->Shared->Prop}(hu:A.units+1<cLine)(I:Inv X pins σ H s)(g:R9 H a y o)(ry:u9 y u)(h:∀s',Inv X pins σ H s'->Q (.bool (!o.isSome)) s') :
  wpAny (model X.prog X.w) A (compareOp .NotIn u (.ref a)) Q E s:=by
 rcases g with⟨kvs,k,e,ey,l⟩|⟨kvs,k,b,e,ey,eb,l⟩
 ·subst ey
  obtain⟨z,hd,vs,rel,dd⟩:=iR I.hok e;refine wpAny_notIn_of (gj ry) hd dd.mapOf ?_;rw[<- (rel.val k).isSome_eq,<- l];exact h _ (I.tok _)
 ·subst ey
  cases (show u=Value.ref b from ry)
  obtain⟨z,hd,xs,rel,dd⟩:=iG I.hok e;refine wpAny_notIn_heap (Ft hu) (cN I.hok eb) hd dd ?_;have q:=(rel.val k).isSome_eq;rw[Option.isSome_map] at q;rw[<- q,<- l];exact h _ (I.tok _)
def oV {t':Nat}(I:Inv X pins σ H s)(mu:Mut (H a))(hs:Heap.SameBut a s.heap h')(he:∃q,h'.get? a=some q)(new:u6 X.prog X.w (upd H a ob) h' a ob) :
  Inv X pins σ (upd H a ob) { s with heap:=h',toks:=t' } :=
 I.write (x:=a) (e:=a) mu (.inl rfl) (λb q hb z=>(hs.2 b hb).trans z) he new
def sF {h':Heap}{kvs:List (Key×V)}(z:kvs.length<=sizeLine)(hd:(a==sysModules)=false)(rel:KV kvs vs)(dd:h'.DictOf (z8 P w) a vs) :
  u6 P w H' h' a (.dK kvs):=⟨z,hd,vs,rel,dd⟩
def qU {A:Around}{Q:Unit->Shared->Prop}(hu:A.units+1<cLine)(I:Inv X pins σ H s)(g:gm H a y v H')(ry:u9 y u)(rv:u9 v r)(h:∀s',Inv X pins σ H' s'->Q () s') :
  wpAny (model X.prog X.w) A (setItem (.ref a) u r) Q E s:=by
 rcases g with⟨kvs,k,e,ey,l,eH⟩|⟨kvs,k,b,e,ey,eb,l,eH⟩
 ·subst ey eH
  obtain⟨z,hd,vs,rel,dd⟩:=yO I.hok e;have hz:vs.length<=sizeLine:=by rw[<- rel.length];exact z
  have hl:(aH kvs k v).length<=sizeLine:=by have:=J4 kvs k v;lia
  refine wpAny_setItem_pairs (hsz:=hz) (gj ry) dd λh' dd' hs=>h _ ?_;have he:∃q,h'.get? a=some q:=let ⟨q,_,_,hq,_⟩:=dd';⟨q,hq⟩;exact oV I (by rw[e];exact ED) hs he (sF hl hd (rel.put k rv) dd')
 ·subst ey eH
  cases (show u=Value.ref b from ry)
  obtain⟨z,hd,xs,rel,dd⟩:=yf I.hok e;have hz:xs.length<=sizeLine:=by rw[<- d_ rel];exact z
  have hl:(aH kvs k v).length<=sizeLine:=by have:=J4 kvs k v;lia
  refine wpAny_setItem_heap (hsz:=hz) (Ft hu) (cN I.hok eb) dd λh' dd' hs=>h _ ?_;obtain⟨q,es,ep,hq,h2,h3,h4,_,h5⟩:=dd';refine oV I (by rw[e];exact ED) hs ⟨q,hq⟩ ⟨hl,hd,_,(rel.put k eb rv).keeps λc ys ec=>?_,q,es,ep,hq,h2,h3,h4,h5⟩
  rw[j9 (yd ec e (λz=>nomatch z))];exact ec
def zy (ty td:TE):TE:=λσ H Q=>ty σ H λy H1=>td σ H1 λx H2=>∃a o,x=.ref a/\R9 H2 a y o/\Q (.bl o.isSome) H2
def vf (ty td:TE):TE:=λσ H Q=>ty σ H λy H1=>td σ H1 λx H2=>∃a o,x=.ref a/\R9 H2 a y o/\Q (.bl (!o.isSome)) H2
def yn (td ty tv:TE):TS:=λD σ H=>tv σ H λv H1=>td σ H1 λx H2=>ty σ H2 λy H3=>∃a H4,x=.ref a/\gm H3 a y v H4/\D.nx σ H4
def fC {X:Cx}(hu:X.A.units+1<cLine)(hi:PE X i ty)(ho:PE X o td):PC X .In i o (zy ty td):=by
 intro pins s σ H Q I h
 refine thx (hi pins s σ H _ I h) λiv s1 y H1 I1 ry q1=>thn (ho pins s1 σ H1 _ I1 q1) λu s2 z_=>?_;obtain⟨x,H2,I2,rx,a,ov,ex,g,q2⟩:=z_;subst ex;obtain rfl:u=Value.ref a:=rx;exact zB hu I2 g ry λs3 I3=>⟨.bl ov.isSome,H2,I3,Iu,q2⟩
def iB {X:Cx}(hu:X.A.units+1<cLine)(hi:PE X i ty)(ho:PE X o td):PC X .NotIn i o (vf ty td):=by
 intro pins s σ H Q I h
 refine thx (hi pins s σ H _ I h) λiv s1 y H1 I1 ry q1=>thn (ho pins s1 σ H1 _ I1 q1) λu s2 z_=>?_;obtain⟨x,H2,I2,rx,a,ov,ex,g,q2⟩:=z_;subst ex;obtain rfl:u=Value.ref a:=rx;exact vN hu I2 g ry λs3 I3=>⟨.bl (!ov.isSome),H2,I3,Iu,q2⟩
def bx {X:Cx}{pos pos':Pos}(hu:X.A.units+1<cLine)(ho:PE X o td)(hi:PE X i ty)(hv:PE X value tv)(hs:swapsWith value (some (.Subscript o i pos')) pos.line X.env=pure false) :
  PS X (.Assign [.Subscript o i pos'] value pos) (yn td ty tv):=by
 intro pins s σ H D I h
 refine wpAny_Assign_Subscript (thx (hv pins s σ H _ I h) λr s1 v H1 I1 rv q1=>thx (ho pins s1 σ H1 _ I1 q1) λu s2 x H2 I2 rx q2=>thn (hi pins s2 σ H2 _ I2 q2) λiv s3 z_=>?_) hs;obtain⟨y,H3,I3,ry,a,H4,ex,g,q3⟩:=z_;subst ex;obtain rfl:u=Value.ref a:=rx;exact qU hu I3 g ry rv λs4 I4=>⟨σ,H4,I4,q3⟩
def tf (h:Heap)(hb:sysModules<h.objs.size):u6 P w H (h.push { cls:=.type "dict",data:=.dict #[] }) h.objs.size (.dK []) :=
 ⟨Et _,c_.mpr (Im (h_ hb)),[],.nil,Heap.DictOf.new h⟩
def tR (h:Heap)(hb:sysModules<h.objs.size):u6 P w H (h.push { cls:=.type "dict",data:=.dict #[] }) h.objs.size (.dT []) :=
 ⟨Et _,c_.mpr (Im (h_ hb)),[],.nil,_,#[],0,En _ rfl,⟨Iu,Iu,Iu⟩,Iu,Iu,Fu⟩
def xE:TE:=λ_ H Q=>∀p,H p=none->Q (.ref p) (upd H p (.dK []))
def xq:TE:=λ_ H Q=>∀p,H p=none->Q (.ref p) (upd H p (.dT []))
def kA:PE X (.Dict [] [] pos) xE:=λpins s σ H Q I h =>
 wpAny_Dict_empty ⟨.ref s.heap.objs.size,_,I.laid (a:=s.heap.objs.size) (o:=.dK []) (t':=s.toks) (λ_ _ q=>Em _ q) (Eo _) (tf s.heap I.big),Iu,h _ (I.hok.fresh (Eo _))⟩
def fZ:PE X (.Dict [] [] pos) xq:=λpins s σ H Q I h =>
 wpAny_Dict_empty ⟨.ref s.heap.objs.size,_,I.laid (a:=s.heap.objs.size) (o:=.dT []) (t':=s.toks) (λ_ _ q=>Em _ q) (Eo _) (tR s.heap I.big),Iu,h _ (I.hok.fresh (Eo _))⟩
structure M1 (X:Cx)(o:Expr)(m:Str)(apos:Pos)(e:Expr)(cpos:Pos):Prop where
 base:attributeBase o m X.env (eval o X.env)=eval o X.env
 few:((backTo cpos (starEach [e] X.env)).all (λx=>!x.1)&&(backToKw cpos (keywordEach [] X.env)).all (λx=>x.1.isSome)
 &&decide (([e]:List Expr).length+([]:List Keyword).length+(if ([]:List Keyword).isEmpty then 0 else 1)<30))=true
 line:(apos.endLine==cpos.line)=true
 trees:backTo cpos (starEach [e] X.env)=[(false,eval e X.env)]
structure M2 (X:Cx)(o:Expr)(m:Str)(apos:Pos)(e f:Expr)(cpos:Pos):Prop where
 base:attributeBase o m X.env (eval o X.env)=eval o X.env
 few:((backTo cpos (starEach [e,f] X.env)).all (λx=>!x.1)&&(backToKw cpos (keywordEach [] X.env)).all (λx=>x.1.isSome)
 &&decide (([e,f]:List Expr).length+([]:List Keyword).length+(if ([]:List Keyword).isEmpty then 0 else 1)<30))=true
 line:(apos.endLine==cpos.line)=true
 trees:backTo cpos (starEach [e,f] X.env)=[(false,eval e X.env),(false,eval f X.env)]
def IsD (H:Hp)(a:Addr):Prop:=(∃kvs,Rd H a (.dK kvs))\/∃kvs,Rd H a (.dT kvs)
def tV (I:Inv X pins σ H s)(d:IsD H a) :
  s.TypeIs (.ref a) "dict"/\(∀b,Value.ref a=.ref b->∃ob,s.heap.get? b=some ob/\ob.dict=none)/\(a==sysModules)=false:=by
 rcases d with⟨kvs,e⟩|⟨kvs,e⟩
 ·obtain⟨_,hd,vs,_,dd⟩:=iR I.hok e
  refine⟨dd.typeIs,λb q=>?_,hd⟩
  cases q
  obtain⟨ob,_,_,h1,h2,_⟩:=dd;exact⟨ob,h1,h2.2.1⟩
 ·obtain⟨_,hd,xs,_,dd⟩:=iG I.hok e
  refine⟨dd.typeIs,λb q=>?_,hd⟩
  cases q
  obtain⟨ob,_,_,h1,h2,_⟩:=dd;exact⟨ob,h1,h2.2.1⟩
def xx {A:Around}{Q:Value->Shared->Prop}(hu:A.units+1<cLine)(I:Inv X pins σ H s)(g:R9 H a y o)(ry:u9 y u)(h:∀w' s',Inv X pins σ H s'->u9 (o.getD .non) w'->Q w' s') :
  wpAny (model X.prog X.w) A (call (.builtin "dict.get") [.ref a,u]) Q E s:=by
 rcases g with⟨kvs,k,e,ey,l⟩|⟨kvs,k,b,e,ey,eb,l⟩
 ·subst ey
  obtain⟨z,hd,vs,rel,dd⟩:=iR I.hok e;refine call_meetsIn Fv dd.typeIs Fw (PySem.F.args_dict_get_2 _ _) (meets_dict_get (z8 X.prog X.w) a (gj ry) hd) ⟨_,dd.mapOf,h _ _ (I.tok _) ?_⟩;rw[l];exact(rel.val k).getD rfl
 ·subst ey
  cases (show u=Value.ref b from ry)
  obtain⟨z,hd,xs,rel,dd⟩:=iG I.hok e;refine call_meetsIn Fv dd.typeIs Fw (PySem.F.args_dict_get_2 _ _) (meetsH_dict_get (tupleKind (z8 X.prog X.w)) a b hd) ⟨Ft hu,k,xs,cN I.hok eb,dd,h _ _ (I.tok _) ?_⟩;rw[l];exact(rel.val k).getD rfl
def wU {A:Around}{Q:Value->Shared->Prop}(hu:A.units+1<cLine)(I:Inv X pins σ H s)(g:R9 H a y o)(ry:u9 y u)(rd:u9 d r)(h:∀w' s',Inv X pins σ H s'->u9 (o.getD d) w'->Q w' s') :
  wpAny (model X.prog X.w) A (call (.builtin "dict.get") [.ref a,u,r]) Q E s:=by
 rcases g with⟨kvs,k,e,ey,l⟩|⟨kvs,k,b,e,ey,eb,l⟩
 ·subst ey
  obtain⟨z,hd,vs,rel,dd⟩:=iR I.hok e;refine call_meetsIn Fv dd.typeIs Fw (PySem.F.args_dict_get_3 _ _ _) (meets_dict_get_default (z8 X.prog X.w) a (gj ry) hd r) ⟨_,dd.mapOf,h _ _ (I.tok _) ?_⟩;rw[l];exact(rel.val k).getD rd
 ·subst ey
  cases (show u=Value.ref b from ry)
  obtain⟨z,hd,xs,rel,dd⟩:=iG I.hok e;refine call_meetsIn Fv dd.typeIs Fw (PySem.F.args_dict_get_3 _ _ _) (meetsH_dict_get_default (tupleKind (z8 X.prog X.w)) a b hd r) ⟨Ft hu,k,xs,cN I.hok eb,dd,h _ _ (I.tok _) ?_⟩;rw[l];exact(rel.val k).getD rd
def wQ (td ty:TE):TE:=λσ H Q=>td σ H λx H1=>∃a,x=.ref a/\IsD H1 a/\ty σ H1 λy H2=>∃o,R9 H2 a y o/\Q (o.getD .non) H2
def xI (td ty tx:TE):TE:=λσ H Q=>td σ H λx H1=>∃a,x=.ref a/\IsD H1 a/\ty σ H1 λy H2=>tx σ H2 λz H3=>∃o,R9 H3 a y o/\Q (o.getD z) H3
def kW {X:Cx}(hu:X.A.units+1<cLine)(ho:PE X o td)(he:PE X e ty)(m:M1 X o "get" apos e cpos):PE X (.Call (.Attribute o "get" apos) [e] [] cpos) (wQ td ty):=by
 intro pins s σ H Q I h
 refine wpAny_Call_method m.base m.few m.line PySem.F.plainAttrs_dict Fv PySem.F.type_dict_get (thn (ho pins s σ H _ I h) λu s1 z_=>?_);obtain⟨x,H1,I1,rx,a,ex,d,q1⟩:=z_;subst ex;obtain rfl:u=Value.ref a:=rx;obtain⟨t1,t2,_⟩:=tV I1 d;refine⟨t1,t2,?_⟩;rw[m.trees];refine Fe rfl (Ff (EG (thn (he pins s1 σ H1 _ I1 q1) λiv s2 ⟨y,H2,I2,ry,ov,g,q2⟩=>Calls.spliced_nil ?_)));exact xx hu I2 g ry λw' s3 I3 rw'=>⟨_,H2,I3,rw',q2⟩
def kC {X:Cx}(hu:X.A.units+1<cLine)(ho:PE X o td)(he:PE X e ty)(hf:PE X f tx)(m:M2 X o "get" apos e f cpos):PE X (.Call (.Attribute o "get" apos) [e,f] [] cpos) (xI td ty tx):=by
 intro pins s σ H Q I h
 refine wpAny_Call_method m.base m.few m.line PySem.F.plainAttrs_dict Fv PySem.F.type_dict_get (thn (ho pins s σ H _ I h) λu s1 z_=>?_);obtain⟨x,H1,I1,rx,a,ex,d,q1⟩:=z_;subst ex;obtain rfl:u=Value.ref a:=rx;obtain⟨t1,t2,_⟩:=tV I1 d;refine⟨t1,t2,?_⟩;rw[m.trees]
 refine Fe rfl (Ff (EG (thx (he pins s1 σ H1 _ I1 q1) λiv s2 y H2 I2 ry q2=>
  EG (thn (hf pins s2 σ H2 _ I2 q2) λfv s3 ⟨z,H3,I3,rz,ov,g,q3⟩=>Calls.spliced_nil ?_))))
 exact wU hu I3 g ry rz λw' s4 I4 rw'=>⟨_,H3,I4,rw',q3⟩
section
variable {κ:Type}[DecidableEq κ]
theorem pi:∀{l:List κ}{k:κ},l.Nodup->¬k∈l->(l++[k]).Nodup
 | [],k,_,_=>by simp
 | a::r,k,h,hk=>by
  obtain⟨h1,h2⟩:=EL.mp h
  show(a::(r++[k])).Nodup
  refine EL.mpr ⟨λm=>?_,pi h2 λm=>hk (p_.mpr (Or.inr m))⟩
  rcases q_.mp m with q|q
  ·exact h1 q
  ·exact hk (p_.mpr (Or.inl (Fx.mp q).symm))
end
end L2
set_option maxHeartbeats 0
namespace L2
open PySem PySem.Spec PyProof.Rows
def fk {scope:Scope}{env:Env}(h:∀x,(x,NameKind.free)∈scope.names->∃c,env.cells.lookup x=some c) :
  ∃cl,closureFor scope env=pure cl/\(∀x c,cl.lookup x=some c->env.cells.lookup x=some c)/\∀x,(x,NameKind.free)∈scope.names->∃c,cl.lookup x=some c:=by
 have go:∀(names:List (Str×NameKind))(acc:List (Str×Addr)),(∀x,(x,NameKind.free)∈names->∃c,env.cells.lookup x=some c)->(∀x c,acc.lookup x=some c->env.cells.lookup x=some c) ->
   ∃cl,(forIn names acc λ(p:Str×NameKind) (r:List (Str×Addr))=>if p.2==.free then (do let a <- cellOf env p.1;pure (ForInStep.yield ((p.1,a)::r))) else pure (ForInStep.yield r):Sem (List (Str×Addr)))=pure cl /\
    (∀x c,cl.lookup x=some c->env.cells.lookup x=some c)/\(∀x c,acc.lookup x=some c->∃c',cl.lookup x=some c')/\∀x,(x,NameKind.free)∈names->∃c,cl.lookup x=some c:=by
  intro names
  induction names with
  | nil=>intro acc _ ha;exact⟨acc,Iu,ha,λx c e=>⟨c,e⟩,λx z=>nomatch z⟩
  | cons p r ih =>
   intro acc hn ha
   obtain⟨n,k⟩:=p;rw[List.forIn_cons]
   cases hk:(k==NameKind.free) with
   | false =>
    obtain⟨cl,h1,h2,h3,h4⟩:=ih acc (λx z=>hn x (o_ _ z)) ha;refine⟨cl,?_,h2,h3,λx z=>?_⟩
    ·simp only[hk,Fy,Fa,pure_bind]
     exact h1
    ·rcases p_.mp z with e|z
     ·injection e with e1 e2
      rw[<- e2] at hk;exact absurd hk (by decide)
     ·exact h4 x z
   | true =>
    have ek:k=.free:=by simpa using hk
    subst ek;obtain⟨c,hc⟩:=hn n n_;have hcell:cellOf env n=pure c:=by unfold cellOf;rw[hc]
    obtain⟨cl,h1,h2,h3,h4⟩:=ih ((n,c)::acc) (λx z=>hn x (o_ _ z)) (λx c' e=>by
     rw[Fz] at e
     cases hx:x==n with
     | true =>
      rw[hx] at e;have e':c=c':=e_ e;have ex:x=n:=by simpa using hx
      rw[ex,<- e'];exact hc
     | false=>rw[hx] at e;exact ha x c' e)
    refine⟨cl,?_,h2,λx c' e=>?_,λx z=>?_⟩
    ·simp only[FA,F_,hcell,pure_bind]
     exact h1
    ·cases hx:x==n with
     | true=>exact h3 x c (by rw[Fz,hx])
     | false=>exact h3 x c' (by rw[Fz,hx];exact e)
    ·rcases p_.mp z with e|z
     ·injection e with e1 e2
      exact h3 x c (by rw[e1,Fz];simp)
     ·exact h4 x z
 obtain⟨cl,h1,h2,_,h4⟩:=go scope.names [] h (λx c e=>nomatch e);refine⟨cl,?_,h2,h4⟩;rw[<- h1];unfold closureFor
 simp only[bind_pure]
def D2 (X:Cx)(scope:Scope)(cl:List (Str×Addr))(C:Addr)(N:List Str)(s:Shared)(H:Hp)(ex:List Addr):Cx where
 prog:=X.prog
 w:=X.w
 K:=X.K
 mg:=X.mg
 base:=X.base
 A:=X.A
 N:=N
 s₀:=s
 H₀:=H
 env:=compEnvC scope cl C X.env
 outer:=X.stack
 stack:=X.stack
 ex:=ex
 calm:=X.calm
 fn:=λx=>match scope.names.lookup x with | some .cell=>true | _=>false
 pn:=[]
 xe:=λ_ _=>False
theorem N4 {env:Env}:∀{names:List (Str×NameKind)}{x:Str}{k:NameKind},
  (names.map λ(n,k)=>if (k==NameKind.free&&env.scope.kind==.function&&env.kindOf n==some .cell) then (n,NameKind.cell) else (n,k)).lookup x=some k ->
  ∃k',names.lookup x=some k'/\(k'=k\/(k'=.free/\k=.cell))
 | [],_,_,h=>by simp at h
 | (n,kk)::r,x,k,h=>by
  have ih:=@N4 env r x k;have h':List.lookup x ((if (kk==NameKind.free&&env.scope.kind==.function&&env.kindOf n==some .cell)=true then (n,NameKind.cell) else (n,kk))::r.map λ(n,k)=>if (k==NameKind.free&&env.scope.kind==.function&&env.kindOf n==some .cell) then (n,NameKind.cell) else (n,k))=some k:=h
  cases hx:x==n with
  | true =>
   by_cases hc:(kk==NameKind.free&&env.scope.kind==.function&&env.kindOf n==some .cell)=true
   ·rw[Ik hc,Fz,hx] at h'
    have e:NameKind.cell=k:=e_ h'
    have hf:kk=.free:=by
     rw[Fd,Fd] at hc
     simpa using hc.1.1
    exact⟨kk,by rw[Fz,hx],.inr ⟨hf,e.symm⟩⟩
   ·rw[Il hc,Fz,hx] at h'
    exact⟨kk,by rw[Fz,hx],.inl (e_ h')⟩
  | false =>
   have h2:List.lookup x (r.map λ(n,k)=>if (k==NameKind.free&&env.scope.kind==.function&&env.kindOf n==some .cell) then (n,NameKind.cell) else (n,k))=some k:=by
    by_cases hc:(kk==NameKind.free&&env.scope.kind==.function&&env.kindOf n==some .cell)=true
    ·rw[Ik hc,Fz,hx] at h';exact h'
    ·rw[Il hc,Fz,hx] at h';exact h'
   obtain⟨k',e1,e2⟩:=ih h2;exact⟨k',by rw[Fz,hx];exact e1,e2⟩
structure CompScope (N:List Str)(osc scope:Scope)(own:List Str)(fr:List (Nat×Str)):Prop where
 kind:scope.kind=.function
 cells:∀y∈scope.names,y.2=.cell->scope.names.lookup y.1=some .cell
 locs:∀y∈scope.names,y.2=.local->scope.names.lookup y.1=some .local
 free:∀y∈scope.names,y.2=.free->osc.names.lookup y.1=some .cell\/osc.names.lookup y.1=some .free
 slot:∀p∈fr,N[p.1]? = some p.2/\scope.names.lookup p.2=some .free
theorem HOk.track (x:HOk P w H h)(hn:H a=none)(new:u6 P w (upd H a o) h a o):HOk P w (upd H a o) h:=λb u e=>by
 by_cases hb:b=a
 ·subst hb;rw[c9] at e;cases e;exact new
 ·rw[j9 hb] at e
  exact(x b u e).stay (λc v _ q=>q) (λc q=>by rw[j9 (n5 q hn)];exact q) λc xs q=>by rw[j9 (n5 q hn)];exact q
theorem HOk.but {h h':Heap}(x:HOk P w H h)(hn:H a=none)(k:∀b o,b≠a->h.get? b=some o->h'.get? b=some o):HOk P w H h':=λb u e =>
 (x b u e).stay (λc v hc q=>k c v (by
  rintro rfl
  rcases hc with rfl|hc
  ·rw[hn] at e;cases e
  ·rw[hn] at hc;cases hc) q) (λ_ q=>q) λ_ _ q=>q
theorem Un.track {fs ex:List Addr}(u:Un fs ex H H' h h')(ha:h.objs.size<=a)(hn:H a=none):Un fs ex H (upd H' a o) h h' where
 keep:=u.keep
 slot:=u.slot
 free:=λb ob q n hx=>by rw[j9 (h_ (ff (f_ q) ha))];exact u.free b ob q n hx
 there:=u.there
 tups:=λb xs q=>by rw[j9 (n5 q hn)];exact u.tups b xs q
 frzs:=λb ob v q=>by rw[j9 (n5 q hn)];exact u.frzs b ob v q
 tbls:=λb ps q=>by rw[j9 (n5 q hn)];exact u.tbls b ps q
theorem Un.but {fs ex:List Addr}{h h' h'':Heap}(u:Un fs ex H H' h h')(ha:h.objs.size<=a)(k:∀b o,b≠a->h'.get? b=some o->h''.get? b=some o):Un fs ex H H' h h'' where
 keep:=λb ob q n hb hx=>k b ob (h_ (ff (f_ q) ha)) (u.keep b ob q n hb hx)
 slot:=λb ob q n hb hx=>let ⟨sl,e⟩:=u.slot b ob q n hb hx;⟨sl,k b _ (h_ (ff (f_ q) ha)) e⟩
 free:=u.free
 there:=λb ob q hx=>let ⟨o',e⟩:=u.there b ob q hx;⟨o',k b _ (h_ (ff (f_ q) ha)) e⟩
 tups:=u.tups
 frzs:=u.frzs
 tbls:=u.tbls
structure lW (scope:Scope)(nw:List (Str×Addr))(h1:Heap)(C:Addr):Prop where
 ok:∀n c,(n,c)∈nw->h1.IsCell c none/\C<c
 apart:nw.Pairwise λx y=>x.2≠y.2
 has:∀x,scope.names.lookup x=some .cell->∃c,nw.lookup x=some c
 of:∀x c,nw.lookup x=some c->(x,NameKind.cell)∈scope.names
theorem K4:∀(names:List (Str×NameKind))(n:Nat)(acc:List (Str×Addr)),cellsFrom n names acc=cellsFrom n names []++acc
 | [],_,_=>rfl
 | (x,k)::r,n,acc=>by
  unfold cellsFrom
  split
  ·rw[K4 r (n+1) ((x,n)::acc),K4 r (n+1) [(x,n)],Fh]
   rfl
  ·exact K4 r n acc
theorem V6:∀(names:List (Str×NameKind))(n:Nat)(x:Str)(c:Addr),(x,c)∈cellsFrom n names []->(x,NameKind.cell)∈names
 | [],_,_,_,h=>nomatch h
 | (y,k)::r,n,x,c,h=>by
  unfold cellsFrom at h
  split at h
  ·rename_i hk
   rw[K4] at h
   rcases q_.mp h with h|h
   ·exact o_ _ (V6 r _ x c h)
   ·rw[Fx] at h
    cases h
    have:k=.cell:=by simpa using hk
    rw[this];exact n_ ..
  ·exact o_ _ (V6 r _ x c h)
theorem M0 {α:Type}{x:Str}{a b:List (Str×α)}{c:α}(h:(a++b).lookup x=some c):a.lookup x=some c\/(a.lookup x=none/\b.lookup x=some c):=by
 induction a with
 | nil=>exact .inr ⟨Iu,h⟩
 | cons p r ih =>
  rw[cons_append,Fz] at h;rw[Fz]
  cases hx:x==p.1 with
  | true=>rw[hx] at h;exact .inl h
  | false=>rw[hx] at h;exact ih h
theorem V7 {α:Type}{x:Str}{a b:List (Str×α)}{c:α}(h:a.lookup x=some c):(a++b).lookup x=some c:=by
 induction a with
 | nil=>cases h
 | cons p r ih =>
  rw[Fz] at h;rw[cons_append,Fz]
  cases hx:x==p.1 with
  | true=>rw[hx] at h;exact h
  | false=>rw[hx] at h;exact ih h
theorem bK {α:Type}{x:Str}{a b:List (Str×α)}{c:α}(h:a.lookup x=none)(h2:b.lookup x=some c):(a++b).lookup x=some c:=by
 induction a with
 | nil=>exact h2
 | cons p r ih =>
  rw[Fz] at h;rw[cons_append,Fz]
  cases hx:x==p.1 with
  | true=>rw[hx] at h;cases h
  | false=>rw[hx] at h;exact ih h
def gy {s:Shared}{globals:Addr}{outer:Env}{Q:Env->Shared->Prop}
  (hQ:∀nw h1,lW scope nw h1 s.heap.objs.size->h1.Ns s.heap.objs.size (λ_=>none)->(∀b o,s.heap.get? b=some o->h1.get? b=some o) ->
   Q { scope,locals:=s.heap.objs.size,globals,cells:=nw++closure,qual,func:=none,code:=outer.code,frame:=outer.frame,builtins:=outer.builtins } { s with heap:=h1 }) :
  wpAny M A (newFunctionEnv scope globals closure [] qual none .none (some outer)) Q E s:=by
 simp only[newFunctionEnv,Option.isSome_some,F_]
 refine w_ (wpAny_alloc ?_);refine w_ (wpAny_layCells _ (λname kind cells=>by cases hkc:kind==NameKind.cell<;>simp[hkc]) _ _ _ _ ?_)
 have ok:=cellsFrom_ok scope.names (s.heap.push { cls:=.type "dict",data:=.dict #[] }) (s.heap.objs.size+1) [] ⟨λ_ _ hm=>(nomatch hm),Fn⟩ (by rw[FB];exact Eo _)
 rw[FB] at ok;rw[show({ s with heap:=s.heap.push { cls:=.type "dict",data:=.dict #[] } }:Shared).heap.objs.size=s.heap.objs.size+1 from FB ..]
 rw[List.forIn_nil];refine w_ (u_ (u_ ?_));rw[K4]
 exact hQ _ _ ⟨λn c h=>⟨(ok.empty n c h).1,(ok.empty n c h).2⟩,ok.apart,λx h=>eS h,λx c h=>V6 _ _ x c (EN h)⟩
  ((Heap.Ns.new s.heap (.type "dict")).keeps (pushCells_keeps _ _)) λb o e=>pushCells_keeps _ _ b o (Em _ e)
def qz (X:Cx)(ifs:List Expr)(t:TT):Prop :=
 ∀(pins:List (Addr×Obj))(s:Shared)(σ:St)(H:Hp)(Q:Bool->Hp->Prop),Inv X pins σ H s->t σ H Q ->
  wpAny (model X.prog X.w) X.A (forIn ifs true λc r=>if r=true then do let ok <- isTrue c X.env (eval c X.env);pure (ForInStep.yield ok) else pure (ForInStep.yield r)) (TP X pins σ Q) X.xe s
def ze:TT:=λ_ H Q=>Q true H
def F1:qz X [] ze:=λ_ _ _ H Q I h=>wpAny_tests_nil ⟨H,I,h⟩
def K1 {t:TT}(h:PT X c t):qz X [c] t:=λpins s σ H Q I q=>wpAny_tests_one (h pins s σ H Q I q)
def J5 (own:List Str)(fr:List (Nat×Str))(σ:St):St:=own.map (λ_=>none)++fr.map λp=>(σ[p.1]?).join
def aj (J:It)(g:TG)(tt:TT)(te:TE)(Q:VK)(σ₀:St)(H1:Hp):Prop :=
 ∃W:Nat->Nat->List V->St->Hp->Prop,(∃m,W 0 m [] σ₀ H1)/\∀i m acc σ' H',W i m acc σ' H' ->
  (J.stop i H'/\acc.length<=sizeLine/\∀p,H' p=none->Q (.ref p) (upd H' p (.lst acc))) \/
  (J.go i H'/\acc.length<sizeLine/\∃N:List V->St->Hp->Prop,(∀acc σ' H',N acc σ' H'->∃m',m'<m/\W (i+1) m' acc σ' H')/\∀x H'',J.yld i H' x H''->g x σ' H'' λσ2 H2=>tt σ2 H2 λok H3=>if ok=true then te σ2 H3 λy H4=>N (acc++[y]) σ2 H4 else N acc σ2 H3)
def wG (own:List Str)(fr:List (Nat×Str))(wi:TI)(g:TG)(tt:TT)(te:TE):TE:=λσ H Q=>wi σ H λJ H1=>aj J g tt te Q (J5 own fr σ) H1
section
variable {tg iter elt:Expr}
def sC {X:Cx}{scope:Scope}{own:List Str}{fr:List (Nat×Str)}{pins:List (Addr×Obj)}{σ:St}{H:Hp}{s:Shared}{cl:List (Str×Addr)}{ex:List Addr}{h1:Heap}{m:Str->Option Value}{C:Addr}{t':Nat}(S:CompScope X.N X.env.scope scope own fr)(I:Inv X pins σ H s)
  (hcl:∀x c,cl.lookup x=some c->X.env.cells.lookup x=some c)(hcl2:∀x,(x,NameKind.free)∈scope.names->∃c,cl.lookup x=some c)(hex:∀b∈ex,gf X pins H b/\b<s.heap.objs.size)
  (hC:s.heap.objs.size<=C)(k:∀b o,s.heap.get? b=some o->h1.get? b=some o)(hn:h1.Ns C m){nw:List (Str×Addr)}(nc:lW scope nw h1 C) :
  Inv (D2 X scope (nw++cl) C (own++fr.map (·.2)) s H ex) [] (J5 own fr σ) H { s with heap:=h1,toks:=t' }:=by
 have okX:=I.ok;have isNew:∀x c,nw.lookup x=some c->C<c:=λx c e=>(nc.ok x c (EN e)).2
 have isOld:∀x c,cl.lookup x=some c->c<C:=λx c e=>by
  obtain⟨v,o,ho,_⟩:=I.cell x c (hcl x c e);exact ff (f_ ho) hC
 have hinj:∀x y c,(nw++cl).lookup x=some c->(nw++cl).lookup y=some c->x=y:=λx y c e1 e2=>by
  rcases M0 e1 with a|⟨_,a⟩<;>rcases M0 e2 with b|⟨_,b⟩
  ·exact name_of_addr nc.apart (EN a) (EN b)
  ·exact absurd (Fs (isNew x c a) (isOld y c b)) (g_ _)
  ·exact absurd (Fs (isNew y c b) (isOld x c a)) (g_ _)
  ·exact okX.inj x y c (hcl x c a) (hcl y c b)
 have hasF:∀x,(x,NameKind.free)∈scope.names->∃c,(nw++cl).lookup x=some c:=λx hx=>by
  obtain⟨c,e⟩:=hcl2 x hx
  cases z:nw.lookup x with
  | none=>exact⟨c,bK z e⟩
  | some c'=>exact⟨c',V7 z⟩
 refine⟨⟨okX.mod,?_,okX.glob,okX.blt,hC,hinj,λx hx=>?_,λx c e1 e2=>?_,okX.hd,okX.frames,.inl rfl,λb hb=>?_,I.bs,k_ okX.bsz I.sz,λb o e hb=>?_,λb hb hf=>?_,I.stack,I.stkFree⟩,
  rfl,I.bare,Un.kept k,⟨m,hn,λi x v e1 e2 e3=>?_⟩,λx c e=>?_,I.hok.fresh hC,λx c e=>?_,λp hp=>absurd (show p∈([]:List (Addr×Obj)) from hp) (by simp),I.hok.kept k,?_⟩
 ·exact S.kind
 ·-- a cell's or a free name
  have hx':(relabel scope X.env).names.lookup x=some .cell\/(relabel scope X.env).names.lookup x=some .free:=hx
  have hfree:scope.names.lookup x=some .cell\/scope.names.lookup x=some .free:=by
   rcases hx' with q|q
   ·obtain⟨k',e1,e2⟩:=N4 q
    rcases e2 with e2|⟨e2,_⟩
    ·exact .inl (by rw[e1,e2])
    ·exact .inr (by rw[e1,e2])
   ·obtain⟨k',e1,e2⟩:=N4 q
    rcases e2 with e2|⟨e2,e3⟩
    ·exact .inr (by rw[e1,e2])
    ·cases e3
  rcases hfree with hfree|hfree
  ·obtain⟨c,e⟩:=nc.has x hfree
   exact⟨c,V7 e⟩
  ·exact hasF x (EN hfree)
 ·-- an own cell is new
  have e1':(match scope.names.lookup x with | some .cell=>true | _=>false)=true:=e1
  have hce:scope.names.lookup x=some .cell:=by
   split at e1'
   ·assumption
   ·cases e1'
  obtain⟨c',e⟩:=nc.has x hce;have e2':(nw++cl).lookup x=some c:=e2;rw[V7 e] at e2'
  cases e2'
  exact k_ hC (l_ (isNew x c e))
 ·obtain⟨⟨f0,f1,f2,f3,f4,f5⟩,f6⟩:=hex b hb
  refine⟨h_ (ff f6 hC),λx c e=>?_⟩
  rcases M0 (show(nw++cl).lookup x=some c from e) with a|⟨_,a⟩
  ·exact Ej (Fs (ff f6 hC) (isNew x c a))
  ·exact f4 x c (hcl x c a)
 ·obtain⟨⟨f0,f1,f2,f3,f4,f5⟩,f6⟩:=hex b hb
  rcases f3 with f3|f3
  ·exact okX.noex b o e f3
  ·exact absurd (ff (f_ e) (k_ okX.bsz f3)) (g_ _)
 ·obtain⟨⟨f0,f1,f2,f3,f4,f5⟩,f6⟩:=hex b hb
  rcases p_.mp (I.stkSub b hf) with z|z
  ·exact f1 z
  ·exact f2 z
 ·-- the values of the free names
  have e1':(own++fr.map (·.2))[i]? = some x:=e1
  have hi:own.length<=i:=by
   by_cases h:i<own.length
   ·unfold J5 at e2
    rw[EQ (by simpa using h),ER] at e2
    cases q:own[i]? with
    | none=>rw[q] at e2;cases e2
    | some z=>rw[q] at e2;cases e2
   ·lia
  unfold J5 at e2;rw[EO (by simpa using hi),ER,EV] at e2
  rw[EO hi,ER] at e1'
  cases q:fr[i-own.length]? with
  | none=>rw[q] at e2;cases e2
  | some p =>
   rw[q] at e2 e1';have e1':p.2=x:=e_ e1';have e2':(σ[p.1]?).join=some v:=e_ e2;obtain⟨hs1,hs2⟩:=S.slot p (ET q);rw[e1'] at hs1 hs2
   have e2'':σ[p.1]? = some (some v):=by
    cases z:σ[p.1]? with
    | none=>rw[z] at e2';cases e2'
    | some y=>rw[z] at e2';exact B_ some e2'
   obtain⟨mX,hnX,hlX⟩:=I.loc;have hfr:=S.free (x,.free) (EN hs2) rfl
   have hvis:Vis X.env.scope x:=by
    rcases hfr with z|z
    ·exact .inr (.inl z)
    ·exact .inr (.inr z)
   obtain⟨u,r,l⟩:=hlX p.1 x v hs1 e2'' hvis;refine⟨u,r,?_⟩;have hkc:X.env.kindOf x=some .cell\/X.env.kindOf x=some .free:=hfr
   rcases l with⟨kx,_⟩|⟨kx,c,hc,z⟩
   ·rcases hkc with w|w
    ·rw[w] at kx;cases kx
    ·rw[w] at kx;cases kx
   ·obtain⟨c',hc'⟩:=hcl2 x (EN hs2)
    have hcc:=hcl x c' hc';rw[hc] at hcc
    cases hcc
    have e3':(relabel scope X.env).names.lookup x=some .local\/(relabel scope X.env).names.lookup x=some .cell\/(relabel scope X.env).names.lookup x=some .free:=e3
    have hnew:nw.lookup x=none:=by
     cases z:nw.lookup x with
     | none=>rfl
     | some c'' =>
      have:=S.cells _ (nc.of x c'' z) rfl
      rw[hs2] at this
      cases this
    refine .inr ⟨?_,c,bK hnew hc',?_⟩
    ·rcases e3' with w|w|w
     ·obtain⟨k',q1,q2⟩:=N4 w
      rw[hs2] at q1
      cases q1
      rcases q2 with q2|⟨_,q2⟩<;>cases q2
     ·exact .inl w
     ·exact .inr w
    ·obtain⟨o,ho,hd⟩:=z
     exact⟨o,k _ _ ho,hd⟩
 ·rcases M0 (show(nw++cl).lookup x=some c from e) with a|⟨_,a⟩
  ·exact⟨none,(nc.ok x c (EN a)).1⟩
  ·obtain⟨v,o,ho,hd⟩:=I.cell x c (hcl x c a)
   exact⟨v,o,k _ _ ho,hd⟩
 ·rcases M0 (show(nw++cl).lookup x=some c from e) with a|⟨_,a⟩
  ·exact I.hok.fresh (k_ hC (l_ (isNew x c a)))
  ·exact I.freeC x c (hcl x c a)
 ·show(J5 own fr σ).length=(own++fr.map (·.2)).length
  unfold J5;rw[EU,EU,EV,EV,EV]
def fu {X:Cx}{ifs:List Expr}{scope:Scope}{own:List Str}{fr:List (Nat×Str)}{pos:Pos}{pins:List (Addr×Obj)}{σ:St}{H2:Hp}{s2:Shared}{cl:List (Str×Addr)}{it:Addr}{fp:List Addr}{tn:Nat->Heap->Prop}{J:It}{g:TG}{tt:TT}{te:TE}{Q:VK}{E:Value->Shared->Prop}
  {RR:Value->Addr->Result->Shared->Prop}(hc:X.calm=true)(S:CompScope X.N X.env.scope scope own fr)(I:Inv X pins σ H2 s2)(hcl:∀x c,cl.lookup x=some c->X.env.cells.lookup x=some c)
  (hcl2:∀x,(x,NameKind.free)∈scope.names->∃c,cl.lookup x=some c)(T:qW X.prog X.w X.K tg J fp it tn)(st:tn 0 s2.heap)(hfp:∀b∈fp,gf X pins H2 b)
  (hb:∀(cl:List (Str×Addr))(C:Addr)(s:Shared)(H:Hp)(ex:List Addr),PG (D2 X scope cl C (own++fr.map (·.2)) s H ex) tg g/\qz (D2 X scope cl C (own++fr.map (·.2)) s H ex) ifs tt/\PE (D2 X scope cl C (own++fr.map (·.2)) s H ex) elt te)
  (hq:aj J g tt te Q (J5 own fr σ) H2)
  (fin:∀(D C:Addr)(s':Shared)(H':Hp),(∃m,s'.heap.Ns C m)->s2.heap.objs.size<=C->C≠D->H' C=none->Q (.ref D) H'->(∀h'',(∀b o,b≠C->s'.heap.get? b=some o->h''.get? b=some o)->Inv X pins σ H' { s' with heap:=h'' })->RR (.ref D) C (.ok .next) s') :
  wpAny (model X.prog X.w) X.A (newList []) (λacc s₃=>wpAny (model X.prog X.w) X.A (newFunctionEnv scope X.env.globals cl [] X.env.qual none .none (some X.env)) (λcenv s₄ =>
   codeAny (model X.prog X.w) X.A (.compStart (.ListComp elt [⟨tg,iter,ifs,0⟩] scope pos) 0 (.ref it) acc { cenv with scope:=relabel scope X.env }) (RR acc cenv.locals) s₄) E s₃) E s2:=by
 obtain⟨W,⟨m0,w0⟩,turn⟩:=hq;refine FC (gy (λnw h₁ nc hns₁ hsb₁=>?_))
 dsimp only at nc hns₁ hsb₁ ⊢
 generalize hH2:s2.heap.push { cls:=.type "list",dict:=none,data:=.seq ([]:List Value).toArray }=HH at nc hns₁ hsb₁ ⊢;have hC:HH.objs.size=s2.heap.objs.size+1:=by rw[<- hH2,FB]
 have hDC:s2.heap.objs.size≠HH.objs.size:=by rw[hC];exact h_ (FD _)
 have hCle:s2.heap.objs.size<=HH.objs.size:=by rw[hC];exact FE _
 have old:∀b o,s2.heap.get? b=some o->h₁.get? b=some o:=λb o e =>
  hsb₁ b o (hH2▸Em _ e)
 have hacc:h₁.get? s2.heap.objs.size=some { cls:=.type "list",data:=.seq ([]:List Value).toArray }:=hsb₁ _ _ (hH2▸En _ rfl)
 have flt:∀b∈fp,b<s2.heap.objs.size:=λb hb=>by
  obtain⟨o,e,_⟩:=T.obj _ _ st b hb;exact f_ e
 have hlt:s2.heap.objs.size<HH.objs.size:=by rw[hC];exact FD _
 obtain⟨D,hD⟩:∃D:Nat,D=s2.heap.objs.size:=⟨_,Iu⟩;obtain⟨C,hCC⟩:∃C:Nat,C=HH.objs.size:=⟨_,Iu⟩;rw[<- hD] at hacc ⊢;rw[<- hCC] at nc hns₁ ⊢;have hDlt:D<C:=by rw[hD,hCC];exact hlt
 have hDs:s2.heap.objs.size<=D:=Nat.le_of_eq hD.symm;have hCs:s2.heap.objs.size<=C:=k_ hDs (l_ hDlt);have nDC:D≠C:=h_ hDlt;have nfD:∀b∈fp,b≠D:=λb hb=>h_ (ff (flt b hb) hDs);have nfC:∀b∈fp,b≠C:=λb hb=>h_ (ff (flt b hb) hCs)
 have I0:Inv (D2 X scope (nw++cl) C (own++fr.map (·.2)) s2 H2 fp) [] (J5 own fr σ) H2 { s2 with heap:=h₁,toks:=s2.toks } :=
  sC S I hcl hcl2 (λb hb=>⟨hfp b hb,flt b hb⟩) hCs old hns₁ nc
 obtain⟨pg,pt,pe⟩:=hb (nw++cl) C s2 H2 fp
 have Dcell:∀x c,(nw++cl).lookup x=some c->c≠D:=λx c e=>by
  rcases M0 e with a|⟨_,a⟩
  ·exact Ej (Fs hDlt (nc.ok x c (EN a)).2)
  ·obtain⟨v,q⟩:=I.cell x c (hcl x c a)
   exact h_ (ff q.lt hDs)
 have Dstk:D∉frs X.stack:=λhf=>by
  rcases p_.mp (I.stkSub D hf) with z|z
  ·have h1:=I.lt
   rw[<- z] at h1;exact g_ _ (ff h1 hDs)
  ·exact I.nofs hDs z
 have stat:∀{H':Hp}{pl:List (Addr×Obj)},(∀b∈fp,H' b=none)->(∀p∈pl,p.1=D)->∀b∈fp,gf (D2 X scope (nw++cl) C (own++fr.map (·.2)) s2 H2 fp) pl H' b:=λ{H' pl} hn hpl b hb=>by
  obtain⟨f0,f1,f2,f3,f4,f5⟩:=hfp b hb
  refine⟨hn b hb,nfC b hb,λhf=>?_,.inl hb,λx c e=>(by
   rcases M0 (show(nw++cl).lookup x=some c from e) with a|⟨_,a⟩
   ·exact Ej (Fs (ff (flt b hb) hCs) (nc.ok x c (EN a)).2)
   ·exact f4 x c (hcl x c a)),λp hp z=>?_⟩
  ·rcases p_.mp (I.stkSub b hf) with z|z
   ·exact f1 z
   ·exact f2 z
  ·have h1:p.1=D:=hpl p (by simpa [D2] using hp)
   exact nfD b hb (z.symm.trans h1)
 have loop:∀s₃:Shared,s₃ = { s2 with heap:=h₁,toks:=s2.toks } ->
   codeAny (model X.prog X.w) X.A (.compLoop (.ListComp elt [⟨tg,iter,ifs,0⟩] scope pos) 0 (.ref it) (.ref D) (compEnvC scope (nw++cl) C X.env)) (RR (.ref D) C) s₃:=by
  rintro s₃ rfl
  refine codeAny_loop rfl (λn s'=>∃i σ' H' acc its k,Inv (D2 X scope (nw++cl) C (own++fr.map (·.2)) s2 H2 fp) [] σ' H' s'/\tn i s'.heap/\(∀b∈fp,H' b=none)/\H' D=none /\
   s'.heap.get? D=some { cls:=.type "list",data:=.seq its.toArray k }/\o6 acc its/\W i n acc σ' H') ?_ m0
   ⟨0,_,H2,[],[],0,I0,T.keep _ _ _ st λb hb o e=>old b o e,λb hb=>(hfp b hb).1,I.hok.fresh hDs,hacc,.nil,w0⟩
  rintro n s' ⟨i,σ',H',acc,its,k,I1,st1,fr1,nD,gD,rv,w1⟩
  show wpAny _ X.A ((compTurn (.ListComp elt [⟨tg,iter,ifs,0⟩] scope pos) 0 (.ref it) (.ref D) (compEnvC scope (nw++cl) C X.env)).onRaise (λx=>do noteFrame x (compEnvC scope (nw++cl) C X.env);theTreesLotGoes x)) _ _ s'
  refine wpAny_noted ?_;rw[compTurn_list]
  have I1':Inv (D2 X scope (nw++cl) C (own++fr.map (·.2)) s2 H2 fp) [(D,{ cls:=.type "list",data:=.seq its.toArray k })] σ' H' s':=I1.pins_of λp hp=>by
   have e:p=(D,{ cls:=.type "list",data:=.seq its.toArray k }):=by simpa using hp
   subst e;exact⟨gD,nD,nDC,Dstk,λv z=>nomatch z⟩
  rcases turn i n acc σ' H' w1 with⟨stop,hz,qq⟩|⟨go,hz,NN,hNN,step⟩
  ·refine w_ (E_ (w_ (x_ (T.done (D2 X scope (nw++cl) C (own++fr.map (·.2)) s2 H2 fp) rfl rfl rfl hc i _ s' σ' H' (λ_ _=>False) I1' (stat fr1 (by simp)) st1 stop) (λr s4 ⟨hr,I4⟩=>?_) λ_ _ z=>z.elim)))
   subst hr;refine u_ ?_;have gD4:=(I4.pin (D,_) (Es _ (Fx.mpr rfl))).1;have hC4:H' C=none:=I4.free;have hC5:(upd H' D (.lst acc)) C=none:=by rw[j9 (Im nDC)];exact hC4
   refine fin D C s4 (upd H' D (.lst acc)) ?_ hCs (Im nDC) hC5 (qq D nD) λh'' kk=>?_
   ·obtain⟨m,hn,_⟩:=I4.loc
    exact⟨m,hn⟩
   ·have un:Un (frs X.stack) fp H2 (upd H' D (.lst acc)) s2.heap h'':=Un.but (a:=C) (Un.track (o:=.lst acc) I4.base hDs (I.hok.fresh hDs)) hCs kk
    have hok:HOk X.prog X.w (upd H' D (.lst acc)) s4.heap:=HOk.track I4.hok nD ⟨hz,its,k,rv,gD4⟩
    exact I.call' (s':={ s4 with heap:=h'' }) (ch:=fp) I4.os un (HOk.but hok hC5 kk) I4.bare λb hb=>by
     obtain⟨f0,f1,f2,f3,f4,f5⟩:=hfp b hb;exact⟨f3,f1,f4,f5⟩
  ·refine w_ (E_ (w_ (x_ (T.item (D2 X scope (nw++cl) C (own++fr.map (·.2)) s2 H2 fp) rfl rfl rfl hc i _ s' σ' H' (λ_ _=>False) I1' (stat fr1 (by simp)) st1 go) (λr s4 ⟨u,hr,h4⟩=>?_) λ_ _ z=>z.elim)))
   subst hr;refine w_ (x_ h4 (λ_ s5 ⟨x,H5,I5,r5,y5,st5,fr5⟩=>?_) λ_ _ z=>z.elim);have I5':=I5.pinned (stat fr5 (by simp)) (T.obj _ _ st5)
   refine w_ (x_ (pg _ s5 σ' H5 x u _ I5' r5 (step x H5 y5)) (λ_ s6 ⟨σ6,H6,I6,q6⟩=>?_) λ_ _ z=>z.elim);refine w_ (x_ (pt _ s6 σ6 H6 _ I6 q6) (λok s7 ⟨H7,I7,q7⟩=>?_) λ_ _ z=>z.elim)
   have again:∀{s8:Shared}{H8:Hp}{acc':List V}{its':List Value}{k' m':Nat},Inv (D2 X scope (nw++cl) C (own++fr.map (·.2)) s2 H2 fp) (Z9 fp s5.heap) σ6 H8 s8->H8 D=none ->
     s8.heap.get? D=some { cls:=.type "list",data:=.seq its'.toArray k' }->o6 acc' its'->m'<n->W (i+1) m' acc' σ6 H8 ->
     ∃m,m<n/\∃i σ' H' acc its k,Inv (D2 X scope (nw++cl) C (own++fr.map (·.2)) s2 H2 fp) [] σ' H' s8/\tn i s8.heap/\(∀b∈fp,H' b=none)/\H' D=none /\
      s8.heap.get? D=some { cls:=.type "list",data:=.seq its.toArray k }/\o6 acc its/\W i m acc σ' H':=λ{s8 H8 acc' its' k' m'} I8 n8 g8 rv8 hm w8=>by
    refine⟨m',hm,i+1,σ6,H8,acc',its',k',I8.pins_of (λp hp=>nomatch hp),T.keep _ _ _ st5 λb hb o e=>(I8.pin (b,o) (Es _ (W5 hb e))).1,λb hb=>?_,n8,g8,rv8,w8⟩;obtain⟨o,e,d⟩:=T.obj _ _ st5 b hb;exact(I8.pin (b,o) (Es _ (W5 hb e))).2.1
   have dropD:∀{s8:Shared}{H8:Hp},Inv (D2 X scope (nw++cl) C (own++fr.map (·.2)) s2 H2 fp) ([(D,{ cls:=.type "list",data:=.seq its.toArray k })]++Z9 fp s5.heap) σ6 H8 s8 ->
     Inv (D2 X scope (nw++cl) C (own++fr.map (·.2)) s2 H2 fp) (Z9 fp s5.heap) σ6 H8 s8:=λI8=>I8.pins_of λp hp=>I8.pin p (Es _ (Es _ hp))
   cases ok with
   | false =>
    rw[Il Ei] at q7;obtain⟨m',hm,w7⟩:=hNN _ _ _ q7;have pD:=I7.pin (D,_) (Es _ (r_ _ (Fx.mpr rfl)))
    simp only[Fy,Fa]
    exact u_ ⟨Iu,again (dropD I7) pD.2.1 pD.1 rv hm w7⟩
   | true =>
    rw[Ik rfl] at q7
    simp only[F_]
    refine w_ (w_ (x_ (pe _ s7 σ6 H7 _ I7 q7) (λu8 s8 ⟨y,H8,I8,r8,q8⟩=>?_) λ_ _ z=>z.elim));obtain⟨m',hm,w8⟩:=hNN _ _ _ q8;have pD:=I8.pin (D,_) (Es _ (r_ _ (Fx.mpr rfl)));obtain⟨gD8,nD8,_⟩:=pD;have hlen:=rv.length;refine w_ (Fi F.slot_list_append ⟨_,gD8,Iu⟩ F.entry_list_append (F.args_list_append_2 _ _) (PySem.list_append D its.toArray k u8 (by rw[Ey];lia)) ⟨gD8,?_⟩)
    refine u_ (u_ ⟨Iu,?_⟩);have q:=PySem.IsL.update gD8 (·.push u8);have e9:its.toArray.push u8=(its++[u8]).toArray:=by simp
    rw[e9] at q;refine again (its':=its++[u8]) ((dropD I8).turned (it:=D) (t':=_) (λb o hb e=>(EZ s8.heap _ (Im hb)).trans e) nD8 nDC (.inr hDs) (λx c e=>Dcell x c e) λp hp z=>?_) nD8 q (rv.append (.cons r8 .nil)) hm w8;have hp':p∈Z9 fp s5.heap:=by simpa [D2] using hp
    exact nfD p.1 (ij hp').1 z
 exact codeAny_compStart_list (loop _ rfl) (T.self _ 0 _ _ _ (T.keep _ _ _ st λb hb o e=>old b o e) (loop _ rfl))
def B3 {X:Cx}(hc:X.calm=true)(S:CompScope X.N X.env.scope scope own fr)(hi:PI X tg iter wi)
  (hb:∀(cl:List (Str×Addr))(C:Addr)(s:Shared)(H:Hp)(ex:List Addr),PG (D2 X scope cl C (own++fr.map (·.2)) s H ex) tg g/\qz (D2 X scope cl C (own++fr.map (·.2)) s H ex) ifs tt/\PE (D2 X scope cl C (own++fr.map (·.2)) s H ex) elt te)
  (hs:∀x,foldedSetIterable iter X.env x=pure x:=by intro _;rfl):PE X (.ListComp elt [⟨tg,iter,ifs,0⟩] scope pos) (wG own fr wi g tt te):=by
 intro pins s σ H Q I h
 obtain⟨cl,hclos,hcl,hcl2⟩:=fk (scope:=scope) (env:=X.env) λx hx=>I.ok.has x (S.free (x,.free) hx rfl);rw[eval_ListComp];refine wpAny_comprehension_free (use:=none) rfl hs hclos S.kind S.locs (thn (hi pins s σ H _ I h) λxv s₁ h₁=>thn h₁ λitv s₂ h₂=>?_);obtain⟨it,fp,tn,J,H2,e,I2,T,st2,f2,hq⟩:=h₂;subst e;refine fu hc S I2 hcl hcl2 T st2 f2 hb hq (RR:=λacc C=>compPost (model X.prog X.w) X.A X.xe none (EP X pins σ Q) acc C) λD C s' H' hn hC1 hCD hC2 q inv=>?_;obtain⟨m,hn⟩:=hn;exact⟨m,hn,λh'' sb=>⟨.ref D,H',inv h'' λb o hb e=>sb.extBut b o hb e,Iu,q⟩⟩
def bB {X:Cx}{i:Nat}{px spos:Pos}(hc:X.calm=true)(hN:X.N.Nodup)(hix:X.N[i]? = some x)(hx:X.env.scope.names.lookup x=some .local)(S:CompScope X.N X.env.scope scope own fr)(hi:PI X tg iter wi)
  (hb:∀(cl:List (Str×Addr))(C:Addr)(s:Shared)(H:Hp)(ex:List Addr),PG (D2 X scope cl C (own++fr.map (·.2)) s H ex) tg g/\qz (D2 X scope cl C (own++fr.map (·.2)) s H ex) ifs tt/\PE (D2 X scope cl C (own++fr.map (·.2)) s H ex) elt te)
  (hsw:swapsWith (.ListComp elt [⟨tg,iter,ifs,0⟩] scope pos) (some (.Name x px)) spos.line X.env=pure true)(hs:∀x,foldedSetIterable iter X.env x=pure x:=by intro _;rfl) :
  PS X (.Assign [.Name x px] (.ListComp elt [⟨tg,iter,ifs,0⟩] scope pos) spos) (wS (wG own fr wi g tt te) (P2 i)):=by
 intro pins s σ H D I h
 obtain⟨cl,hclos,hcl,hcl2⟩:=fk (scope:=scope) (env:=X.env) λx hx=>I.ok.has x (S.free (x,.free) hx rfl);rw[exec_Assign_Name_used _ _ _ _ hsw];refine w_ (E_ (w_ ?_))
 show wpAny _ X.A (do let _ <- comprehension (.ListComp elt [⟨tg,iter,ifs,0⟩] scope pos) scope X.env _ (newList []) false (eval iter X.env) (some (assign (.Name x px) X.env))) _ _ s
 refine w_ (x_ (wpAny_comprehension_free (use:=some (assign (.Name x px) X.env)) (Q:=λ_ s'=>SP X pins D .next s') rfl hs hclos S.kind S.locs (thn (hi pins s σ H _ I h) λxv s₁ h₁=>thn h₁ λitv s₂ h₂=>?_)) (λ_ s' hq=>u_ (u_ hq)) λ_ _ e=>e);obtain⟨it,fp,tn,J,H2,e,I2,T,st2,f2,hq⟩:=h₂;subst e;refine fu (Q:=λx H1=>P2 i x σ H1 D.nx) hc S I2 hcl hcl2 T st2 f2 hb hq (RR:=λacc C=>compPost (model X.prog X.w) X.A X.xe (some (assign (.Name x px) X.env)) (λ_ s'=>SP X pins D .next s') acc C) λDa C s' H' hn hC1 hCD hC2 q inv=>?_;obtain⟨m,hn⟩:=hn;have I3:Inv X pins σ H' { s' with heap:=s'.heap }:=inv s'.heap λ_ _ _ e=>e
 show wpAny _ X.A (assign (.Name x px) X.env (.ref Da)) _ _ s'
 refine wpAny_assign_Name (iD I3 hN hix (.inl hx) (v:=.ref Da) rfl (λs4 I4 z_=>?_) (.inr hx));obtain⟨a,sb,ha⟩:=z_;have hCL:C≠X.env.locals:=Ej (ff I2.lt hC1)
 have hCc:∀y c,X.env.cells.lookup y=some c->c≠C:=λy c e=>by
  obtain⟨v,w⟩:=I2.cell y c e;exact h_ (ff w.lt hC1)
 have haC:C≠a:=by
  rcases ha with ha|ha
  ·rw[ha];exact hCL
  ·exact(hCc _ _ ha).symm
 refine⟨m,hn.sameBut sb haC,λh'' sb2=>⟨_,H',I4.turned (it:=C) (t':=s4.toks) (λb o hb e=>sb2.extBut b o hb e) hC2 hCL (.inr (k_ I2.sz hC1)) hCc λp hp z=>?_,q⟩⟩;exact h_ (ff (f_ (I2.pin p hp).1) hC1) z
end
def A2 {K:Frag}{xs:List V}{g:TG}{tt:TT}{Q:VK}(Pv:Nat->List V->St->Hp->Prop)(h0:Pv 0 [] σ₀ H)(hz:xs.length<=sizeLine)(hn:∀i acc σ H,Pv i acc σ H->acc.length<=i)
  (hl:∀i acc σ H,i<=xs.length->Pv i acc σ H->SqL K H a xs)
  (hs:∀i x acc σ H,xs[i]? = some x->Pv i acc σ H->g x σ H λσ2 H2=>tt σ2 H2 λok H3=>if ok=true then te σ2 H3 λy H4=>Pv (i+1) (acc++[y]) σ2 H4 else Pv (i+1) acc σ2 H3)
  (hd:∀acc σ H,Pv xs.length acc σ H->∀p,H p=none->Q (.ref p) (upd H p (.lst acc))) :
  aj (Itl K a) g tt te Q σ₀ H:=by
 refine⟨λi m acc σ H=>m=xs.length-i/\i<=xs.length/\Pv i acc σ H,⟨xs.length,by simp,Et _,h0⟩,?_⟩
 rintro i m acc σ H ⟨rfl,hi,p⟩
 have q:=hl i acc σ H hi p;have hlen:=hn i acc σ H p
 by_cases hlt:i<xs.length
 ·refine .inr ⟨⟨xs,xs[i],q,by simp[hlt]⟩,by lia,Pv (i+1),λacc' σ' H' p'=>⟨xs.length-(i+1),by lia,Iu,hlt,p'⟩,λx H' y=>?_⟩
  obtain⟨e,y⟩:=y;subst e;exact hs i x acc σ _ (y xs q) p
 ·have e:i=xs.length:=by lia
  subst e;exact .inl ⟨⟨xs,q,Eo _⟩,by lia,hd acc σ H p⟩
def gk {K:Frag}{xs:List V}{g:TG}{tt:TT}{Q:VK}(Pv:Nat->List V->St->Hp->Prop)(h0:Pv 0 [] σ₀ H)(hz:xs.length<=sizeLine)(hn:∀i acc σ H,Pv i acc σ H->acc.length<=i)
  (hl:∀i acc σ H,i<=xs.length->Pv i acc σ H->SqT K H a xs)
  (hs:∀i x acc σ H,xs[i]? = some x->Pv i acc σ H->g x σ H λσ2 H2=>tt σ2 H2 λok H3=>if ok=true then te σ2 H3 λy H4=>Pv (i+1) (acc++[y]) σ2 H4 else Pv (i+1) acc σ2 H3)
  (hd:∀acc σ H,Pv xs.length acc σ H->∀p,H p=none->Q (.ref p) (upd H p (.lst acc))) :
  aj (Itt K a) g tt te Q σ₀ H:=by
 refine⟨λi m acc σ H=>m=xs.length-i/\i<=xs.length/\Pv i acc σ H,⟨xs.length,by simp,Et _,h0⟩,?_⟩
 rintro i m acc σ H ⟨rfl,hi,p⟩
 have q:=hl i acc σ H hi p;have hlen:=hn i acc σ H p
 by_cases hlt:i<xs.length
 ·refine .inr ⟨⟨xs,xs[i],q,by simp[hlt]⟩,by lia,Pv (i+1),λacc' σ' H' p'=>⟨xs.length-(i+1),by lia,Iu,hlt,p'⟩,λx H' y=>?_⟩
  obtain⟨e,y⟩:=y;subst e;exact hs i x acc σ _ (y xs q) p
 ·have e:i=xs.length:=by lia
  subst e;exact .inl ⟨⟨xs,q,Eo _⟩,by lia,hd acc σ H p⟩
def bo {lo:Int}{n:Nat}{g:TG}{tt:TT}{Q:VK}(Pv:Nat->List V->St->Hp->Prop)(h0:Pv 0 [] σ₀ H)(hz:n<=sizeLine)(hn:∀i acc σ H,Pv i acc σ H->acc.length<=i)
  (hs:∀i acc σ H,i<n->Pv i acc σ H->g (.int (lo+i)) σ H λσ2 H2=>tt σ2 H2 λok H3=>if ok=true then te σ2 H3 λy H4=>Pv (i+1) (acc++[y]) σ2 H4 else Pv (i+1) acc σ2 H3)
  (hd:∀acc σ H,Pv n acc σ H->∀p,H p=none->Q (.ref p) (upd H p (.lst acc))) :
  aj (Itr lo n) g tt te Q σ₀ H:=by
 refine⟨λi m acc σ H=>m=n-i/\i<=n/\Pv i acc σ H,⟨n,by simp,Et _,h0⟩,?_⟩
 rintro i m acc σ H ⟨rfl,hi,p⟩
 have hlen:=hn i acc σ H p
 by_cases hlt:i<n
 ·refine .inr ⟨hlt,by lia,Pv (i+1),λacc' σ' H' p'=>⟨n-(i+1),by lia,Iu,hlt,p'⟩,λx H' y=>?_⟩
  obtain⟨e,y⟩:=y;subst e y;exact hs i acc σ _ hlt p
 ·have e:i=n:=by lia
  subst e;exact .inl ⟨Eo _,by lia,hd acc σ H p⟩
def xy  [Decidable c] (h:c) (a:A):if c then A else B:=by rw[Ik h];exact a
def ou  [Decidable c] (h:¬c) (b:B):if c then A else B:=by rw[Il h];exact b
structure i6 (P:Program)(w:World)(K:Frag)(mg:Str->Option Value)(base:Heap)(k:Nat)(x:Str)(ps:List Str)(sp:Sp):Prop where
 ex:∃(f:Addr)(fd:FuncData),bF P w K mg base CX0 k f fd ps sp/\X3 K fd ps []/\keepIn K (.ref f)=true/\mg x=some (.ref f)
structure Def (K:Frag)(mg:Str->Option Value)(x:Str)(st:Stmt)(ps:List Str):Prop where
 ex:∃(f:Addr)(fd:FuncData),Fun K x x st f fd/\X3 K fd ps []/\mg x=some (.ref f)
section
variable {K:Frag}
theorem Def.ok {st:Stmt}{k:Nat}{sp:Sp}(D:Def K mg x st ps)(S:FnScope N ps (i4 st))(len:∀vs H Q E,sp vs H Q E->vs.length=ps.length)
  (hbody:∀(f:Addr)(cdv:Value)(A:Around)(outer:List Env)(s:Shared)(H:Hp)(vs:List V)(Q:VK)(E:XK),C0 k (A.deeper (envOfC x (i4 st) s.heap.objs.size f cdv))->sp vs H Q E ->
   ∃t,PSs (R1 CX0 P w K mg base N x (i4 st) f cdv A outer s H E).nox (o7 st) t/\t { nx:=λ_ H'=>Q .non H',rt:=Q } (start N vs) H):i6 P w K mg base (k+1) x ps sp:=by
 obtain⟨f,fd,F,b,m⟩:=D.ex;exact⟨f,fd,F.ok S len λcdv A outer s H vs Q E hr h=>hbody f cdv A outer s H vs Q E hr h,b,F.kp,m⟩
end
section
variable {k n:Nat}{t:TA}
def l9 {X:Cx}(C:i6 X.prog X.w X.K X.mg X.base k x ps sp)(hr:C0 n X.A)(hg:Gl X x)(ha:PA X (e::es) t)(hk:k<=n:=by decide)(hdb:(x==("__debug__":Str))=false:=by decide)
  (he:starEach (e::es) X.env=(false,eval e X.env)::starEach es X.env:=by rfl) (hpl:(backTo pos (starEach es X.env)).any (·.1)=false:=by rfl) :
  PE X (.Call (.Name x p) (e::es) [] pos) (ww sp [] E0 t):=by
 obtain⟨f,fd,F,b,kp,m⟩:=C.ex;exact vh F (hr.mono hk) hg m kp b .nil wC ha hdb he hpl
def lw:B1 X (.builtin "isinstance") (λxs H Q=>∃v T t b,xs=[v,.ty T]/\S6 X.K H v t/\kitOne X.K t (.type T)=some b/\Q (.bl b) H):=by
 intro pins s σ H xs us Q I r h
 obtain⟨v,T,t,b,rfl,ty,e,q⟩:=h;obtain⟨u,u',rfl,r1,r2⟩:=cX r
 cases r2
 exact qV I r1 ty e λtk=>⟨.bl b,H,I.tok _,Iu,q⟩
def zd (S T:String):Option Bool:=if (Value.type S==Value.type T)=true then some true else if PySem.W.kitMeta T=true then (fastBuiltinMro S).map (·.contains (.type T)) else none
def ai {K:Frag}{b:Bool}(h:zd S T=some b):kitOne K (.type S) (.type T)=some b:=h
section
variable {K:Frag}
def Y5:kitOne K (.type "int") (.type "int")=some true:=ai (by decide +kernel)
def bV:kitOne K (.type "int") (.type "bool")=some false:=ai (by decide +kernel)
def Y2:kitOne K (.type "tuple") (.type "tuple")=some true:=ai (by decide +kernel)
def db:kitOne K (.type "list") (.type "list")=some true:=ai (by decide +kernel)
def di:kitOne K (.type "list") (.type "tuple")=some false:=ai (by decide +kernel)
def jV:kitOne K (.type "tuple") (.type "list")=some false:=ai (by decide +kernel)
def lZ:kitOne K (.type "tuple") (.type "int")=some false:=ai (by decide +kernel)
def kT:kitOne K (.type "list") (.type "int")=some false:=ai (by decide +kernel)
end
def ck:B1 X (.builtin "sorted") (λxs H Q=>∃(p:Addr)(ns:List Int),xs=[.ref p]/\SqL X.K H p (ns.map V.int)/\ns.length<64/\∀ns':List Int,ns'.Perm ns->ns'.Pairwise (·<=·)->∀l,H l=none->Q (.ref l) (upd H l (.lst (ns'.map V.int)))):=by
 intro pins s σ H xs us Q I r h
 obtain⟨p,ns,rfl,hq,h64,q⟩:=h;obtain⟨u,rfl,rx⟩:=K5 r
 cases rx
 obtain⟨its,r',pl,hz⟩:=I.list hq;have hi:IntsAre its ns:=J3 r';have hlen:its.length=ns.length:=hi.length;refine sorted_ints pl.isList hi (by lia) λout ns' a1 a2 a3=>?_
 obtain⟨e,he⟩:=sortedAll_at s.heap its out
 have hz':(ns'.map V.int).length<=sizeLine:=by
  rw[EV,a2.length_eq];rw[EV] at hz;exact hz
 exact⟨.ref (s.heap.objs.size+1),_,I.laid (t':=s.toks) (o:=.lst (ns'.map V.int)) (λb o e=>sortedAll_old e) (FE _) ⟨hz',out.toList,e,U3 a1,by simpa [seqObj] using he⟩,Iu,q ns' a2 a3 _ (I.hok.fresh (FE _))⟩
theorem qk (h:IntsAre us ns):∀(i:Nat)(v:Value),us[i]? = some v->∃t,v=.int (ns.getD i 0) t:=by
 induction h with
 | nil=>intro i v e;simp at e
 | cons n t h ih =>
  intro i v e
  cases i with
  | zero=>exact⟨t,by simpa using e.symm⟩
  | succ i =>
   obtain⟨t',e'⟩:=ih i v (by simpa using e)
   exact⟨t',by simpa using e'⟩
theorem mj {bs:List Bool}:∀{us:List Value},o6 (bs.map V.bl) us->∀(i:Nat)(v:Value),us[i]? = some v->v=.bool (bs.getD i false):=by
 induction bs with
 | nil=>intro us r i v e;rw[map_nil] at r;cases r;simp at e
 | cons b bs ih =>
  intro us r i v e
  rw[EX] at r
  cases r with
  | cons r1 r2 =>
   cases i with
   | zero =>
    have e':=e_ e;rw[<- e'];exact r1
   | succ i=>exact ih r2 i v (by simpa using e)
def rV (bs:List Bool):(List.range bs.length).all (λi=>bs.getD i false)=bs.all id:=by
 rw[Ew,FF,FF]
 constructor
 ·intro h b hb
  obtain⟨i,hi,e⟩:=FG hb
  have:=h i (by simpa using hi)
  simpa [List.getD,hi,e] using this
 ·intro h i hi
  have hi':i<bs.length:=by simpa using hi
  have:=h bs[i] (getElem_mem hi')
  simpa [List.getD,hi'] using this
def rJ (bs:List Bool):(List.range bs.length).any (λi=>bs.getD i false)=bs.any id:=by
 rw[Ew,FH,FH]
 constructor
 ·rintro⟨i,hi,e⟩
  have hi':i<bs.length:=by simpa using hi
  exact⟨bs[i],getElem_mem hi',by simpa [List.getD,hi'] using e⟩
 ·rintro⟨b,hb,e⟩
  obtain⟨i,hi,z⟩:=FG hb;exact⟨i,by simpa using hi,by simpa [List.getD,hi,z] using e⟩
def fV {X:Cx}(hc:X.calm=true):B1 X (.builtin "all") (λxs H Q=>∃(p:Addr)(bs:List Bool),xs=[.ref p]/\SqL X.K H p (bs.map V.bl)/\Q (.bl (bs.all id)) H):=by
 intro pins s σ H xs us Q I r h
 obtain⟨p,bs,rfl,hq,q⟩:=h;obtain⟨u,rfl,rx⟩:=K5 r
 cases rx
 obtain⟨its,r',pl,hz⟩:=I.list hq;have hlen:its.length=bs.length:=by rw[<- r'.length,EV]
 obtain⟨o,n,ho,_⟩:=id pl;have hne:p≠s.heap.objs.size:=h_ (f_ ho);refine call_all_walk (El pl.isList ?_);refine⟨s.heap.objs.size,_,_,its.toArray.size,_,_,λi=>bs.getD i false,Iu,FI (A:=X.A.in1) (I.ok.hd hc) s.heap.objs.size p hne its.toArray,⟨⟨_,En _ rfl,Iu,Iu⟩,pl.isList.at λo e=>Em _ e⟩,λi v s' Q' E' e hQ=>?_,λh' tk kk=>?_⟩
 ·rw[mj r' i v (by simpa using e)]
  exact y_ hQ
 ·have kp:∀b o,s.heap.get? b=some o->h'.get? b=some o:=λb o e=>kk b o (by simpa using h_ (f_ e)) (Em _ e)
  rw[Ey,hlen,rV];exact⟨.bl (bs.all id),H,I.kept kp,Iu,q⟩
def eJ {X:Cx}(hc:X.calm=true):B1 X (.builtin "any") (λxs H Q=>∃(p:Addr)(bs:List Bool),xs=[.ref p]/\SqL X.K H p (bs.map V.bl)/\Q (.bl (bs.any id)) H):=by
 intro pins s σ H xs us Q I r h
 obtain⟨p,bs,rfl,hq,q⟩:=h;obtain⟨u,rfl,rx⟩:=K5 r
 cases rx
 obtain⟨its,r',pl,hz⟩:=I.list hq;have hlen:its.length=bs.length:=by rw[<- r'.length,EV]
 obtain⟨o,n,ho,_⟩:=id pl;have hne:p≠s.heap.objs.size:=h_ (f_ ho);refine call_any_walk (El pl.isList ?_);refine⟨s.heap.objs.size,_,_,its.toArray.size,_,_,λi=>bs.getD i false,Iu,FI (A:=X.A.in1) (I.ok.hd hc) s.heap.objs.size p hne its.toArray,⟨⟨_,En _ rfl,Iu,Iu⟩,pl.isList.at λo e=>Em _ e⟩,λi v s' Q' E' e hQ=>?_,λh' tk kk=>?_⟩
 ·rw[mj r' i v (by simpa using e)]
  exact y_ hQ
 ·have kp:∀b o,s.heap.get? b=some o->h'.get? b=some o:=λb o e=>kk b o (by simpa using h_ (f_ e)) (Em _ e)
  rw[Ey,hlen,rJ];exact⟨.bl (bs.any id),H,I.kept kp,Iu,q⟩
def ux (ns ms:List Int)(h:ns.length=ms.length):((List.range ns.length).all λj=>ns.getD j 0==ms.getD j 0)=decide (ns=ms):=by
 rw[Ew,FF,FJ]
 constructor
 ·intro q
  apply FK h
  intro i h1 h2
  have:=q i (by simpa using h1)
  simpa [List.getD,h1,h2] using this
 ·rintro rfl i hi
  simp
def rO (h:IntsAre us ns)(h':IntsAre vs ms):∀j (h1:j<us.toArray.size) (h2:j<vs.toArray.size),SeqAt.EqAt A s us.toArray[j] vs.toArray[j] (ns.getD j 0==ms.getD j 0):=λj h1 h2=>by
 obtain⟨t,e⟩:=qk h j us.toArray[j] (by simp)
 obtain⟨t',e'⟩:=qk h' j vs.toArray[j] (by simp)
 rw[e,e'];exact Fc _ _ _ _
def vH {X:Cx}(hu:X.A.units<cLine):OpR X (compareOp .Eq) (λx y H Q=>∃(a b:Addr)(ns ms:List Int),x=.ref a/\y=.ref b/\SqL X.K H a (ns.map V.int)/\SqL X.K H b (ms.map V.int)/\Q (.bl (decide (ns=ms))) H):=by
 intro pins s σ H x y v u Q I rx ry h
 obtain⟨a,b,ns,ms,rfl,rfl,ha,hb,q⟩:=h
 cases rx
 cases ry
 obtain⟨its,r1,p1,_⟩:=I.list ha;obtain⟨its2,r2,p2,_⟩:=I.list hb;have i1:IntsAre its ns:=J3 r1;have i2:IntsAre its2 ms:=J3 r2;have l1:=i1.length;have l2:=i2.length
 by_cases hl:ns.length=ms.length
 ·refine FL (e:=λj=>ns.getD j 0==ms.getD j 0) p1.isList p2.isList (by simp only[Ey];lia) hu (rO i1 i2) X.prog X.w X.xe _ ?_
  rw[Ey,l1,ux ns ms hl];exact⟨.bl _,H,I,Iu,q⟩
 ·refine FM p1.isList p2.isList (by simp only[Ey];simpa using (by lia:its.length≠its2.length)) hu X.prog X.w X.xe _ ?_
  have e:decide (ns=ms)=false:=b_ (λz=>hl (by rw[z]))
  rw[e] at q;exact⟨.bl false,H,I,Iu,q⟩
end
def Sq (_:Bool)(K:Frag)(H:Hp)(a:Addr)(xs:List V):Prop:=SqL K H a xs
def Itz (b:Bool)(K:Frag)(l m:Addr):It :=
  ⟨λi H=>∃xs ys x y,Sq b K H l xs/\Sq b K H m ys/\xs[i]? = some x/\ys[i]? = some y,
   λi H v H'=>∃p x y,H p=none/\v=.ref p/\H'=upd H p (.tup [x,y])/\(∀xs,Sq b K H l xs->xs[i]? = some x)/\∀ys,Sq b K H m ys->ys[i]? = some y,
   λi H=>∃xs ys,Sq b K H l xs/\Sq b K H m ys/\(xs.length<=i\/ys.length<=i)⟩
def uf {P:Program}{w:World}{K:Frag}{es:List Expr}{kk:Nat}{pos:Pos}{b:Bool}{z t o i j l m:Addr}(D:ZipApart z t o i j l m) :
  qW P w K (.Tuple es kk pos) (Itz b K l m) [z,t,o,i,j] z (λn h=>IsZip h z t o .none/\IsPair h t (.ref i) (.ref j)/\(∃c d,IsPair h o c d)/\h.IsListIter i l n/\h.IsListIter j m n) where
 mem:=by simp
 obj:=λn h ⟨hz,ht,⟨c,d,ho⟩,hi,hj⟩ a ha=>by
  simp only[p_,FN,FO] at ha
  rcases ha with rfl|rfl|rfl|rfl|rfl
  ·exact⟨_,hz,λv q=>nomatch q⟩
  ·exact⟨_,ht,λv q=>nomatch q⟩
  ·exact⟨_,ho,λv q=>nomatch q⟩
  ·obtain⟨u,e,_,d⟩:=hi
   exact⟨u,e,λv z=>by rw[d] at z;cases z⟩
  ·obtain⟨u,e,_,d⟩:=hj
   exact⟨u,e,λv z=>by rw[d] at z;cases z⟩
 keep:=λn h h' ⟨hz,ht,⟨c,d,ho⟩,hi,hj⟩ k=>⟨k z (by simp) _ hz,k t (by simp) _ ht,⟨c,d,k o (by simp) _ ho⟩,hi.at λu e=>k i (by simp) u e,hj.at λu e=>k j (by simp) u e⟩
 item:=by
  intro X hP hw hK hc n pins s σ H E I hf ⟨hz,ht,⟨c,d,ho⟩,hi,hj⟩ hg
  subst hP hw hK;obtain⟨xs,ys,x,y,hl,hm,hx,hy⟩:=hg;obtain⟨us,ru,hl',hzl⟩:=I.list hl;obtain⟨vs,rv,hm',hzm⟩:=I.list hm;obtain⟨u,hu,r1⟩:=ru.get hx;obtain⟨v,hv,r2⟩:=rv.get hy;refine wpAny_pyNext_zip_item D hz ht ho hi hj hl'.isList hm'.isList (x:=u) (y:=v) (by simpa using hu) (by simpa using hv) λh' z' o' i' j' t' n' kp=>⟨_,Iu,?_⟩
  refine wpAny_letOwnedTupleGo_zip (s:={ s with heap:=h' }) z' λh'' z'' sb=>?_
  have fresh:H s.heap.objs.size=none:=I.hok.fresh (Eo _);have kp2:∀a q,a≠z->a≠o->a≠i->a≠j->s.heap.get? a=some q->h''.get? a=some q:=λa q a1 a2 a3 a4 e=>sb.extBut _ _ a1 (kp a q a1 a2 a3 a4 e);have hT:s.heap.objs.size≠z:=Ej (f_ hz);have pT:IsPair h'' s.heap.objs.size u v:=sb.extBut _ _ hT t';have notin:∀a,a∉[z,o,i,j]->a≠z/\a≠o/\a≠i/\a≠j:=λa ha=>by simpa using ha
  have fpn:∀a∈[z,o,i,j],H a=none:=λa ha=>by
   simp only[p_,FN,FO] at ha
   rcases ha with rfl|rfl|rfl|rfl
   ·exact(hf _ (by simp)).1
   ·exact(hf _ (by simp)).1
   ·exact(hf _ (by simp)).1
   ·exact(hf _ (by simp)).1
  have trk:∀a q,H a=some q->a∉[z,o,i,j]:=λa q e ha=>by rw[fpn a ha] at e;cases e
  have hok:HOk X.prog X.w (upd H s.heap.objs.size (.tup [x,y])) h'':=λa q e=>by
   by_cases ha:a=s.heap.objs.size
   ·subst ha
    rw[c9] at e
    cases e
    exact⟨by show 2<=sizeLine;decide,[u,v],.cons r1 (.cons r2 .nil),⟨_,pT,Iu,_,Iu⟩⟩
   ·rw[j9 ha] at e
    refine(I.hok a q e).stay (λa' q' h1 h2=>?_) (λa' q'=>by rw[j9 (n5 q' fresh)];exact q') λa' xs' q'=>by rw[j9 (n5 q' fresh)];exact q'
    have ni:a'∉[z,o,i,j]:=by
     rcases h1 with rfl|h1
     ·exact trk _ _ e
     ·exact trk _ _ h1
    obtain⟨n1,n2,n3,n4⟩:=notin a' ni;exact kp2 a' q' n1 n2 n3 n4 h2
  have J:Inv X pins σ (upd H s.heap.objs.size (.tup [x,y])) { s with heap:=h'' }:=by
   refine I.step (g':=s.gens) (d':=s.drawn) (t':=s.toks) (ch:=[z,o,i,j]) (λa ha=>?_) (λa q _ _ hc' e _=>?_) (λa q _ _ hc' e _=>?_) (λa q _ e n2=>?_) (λa q hc' e=>?_) (λa xs' e=>?_) (λa q u' e=>?_) (λa ps e=>?_) (λm' hm''=>?_) hok I.bare
   ·have ha':a∈[z,t,o,i,j]:=by
     simp only[p_,FN,FO] at ha ⊢
     rcases ha with q|q|q|q
     ·exact .inl q
     ·exact .inr (.inr (.inl q))
     ·exact .inr (.inr (.inr (.inl q)))
     ·exact .inr (.inr (.inr (.inr q)))
    obtain⟨_,f1,_,f3,f4,f5⟩:=hf a ha';exact⟨f3,f1,f4,f5⟩
   ·obtain⟨n1,n2,n3,n4⟩:=notin a hc'
    exact kp2 a q n1 n2 n3 n4 e
   ·obtain⟨n1,n2,n3,n4⟩:=notin a hc'
    exact⟨q.slots,kp2 a q n1 n2 n3 n4 e⟩
   ·rw[j9 (h_ (f_ e))]
    exact n2
   ·obtain⟨n1,n2,n3,n4⟩:=notin a hc'
    exact⟨q,kp2 a q n1 n2 n3 n4 e⟩
   ·rw[j9 (n5 e fresh)]
    exact e
   ·rw[j9 (n5 e fresh)]
    exact e
   ·exact⟨#[],by rw[j9 (n5 e fresh),e];simp⟩
   ·obtain⟨ob,es',ep,e1,r⟩:=hm''
    have f1:∀a'∈[z,t,o,i,j],a'≠X.env.locals:=λa' ha'=>(hf a' ha').2.1;exact⟨ob,es',ep,kp2 _ _ (Im (f1 z (by simp))) (Im (f1 o (by simp))) (Im (f1 i (by simp))) (Im (f1 j (by simp))) e1,r⟩
  refine⟨.ref s.heap.objs.size,_,J,Iu,⟨s.heap.objs.size,x,y,fresh,Iu,Iu,λxs' q=>?_,λys' q=>?_⟩,⟨z'',?_,⟨_,_,sb.extBut _ _ D.TOz o'⟩,i'.at λq e=>sb.extBut _ q D.i1z e,j'.at λq e=>sb.extBut _ q D.i2z e⟩,λa ha=>?_⟩
  ·rw[I.list_inj q hl];exact hx
  ·rw[I.list_inj q hm];exact hy
  ·exact kp2 t _ D.TIz D.TITO D.TIi1 D.TIi2 ht
  ·have:a≠s.heap.objs.size:=by
    simp only[p_,FN,FO] at ha
    rcases ha with rfl|rfl|rfl|rfl|rfl
    ·exact Im hT
    ·exact h_ (f_ ht)
    ·exact h_ (f_ ho)
    ·obtain⟨q,e,_⟩:=hi;exact h_ (f_ e)
    ·obtain⟨q,e,_⟩:=hj;exact h_ (f_ e)
   rw[j9 this];exact(hf a ha).1
 done:=by
  intro X hP hw hK hc n pins s σ H E I hf ⟨hz,ht,⟨c,d,ho⟩,hi,hj⟩ hg
  subst hP hw hK;obtain⟨xs,ys,hl,hm,hend⟩:=hg;obtain⟨us,ru,hl',hzl⟩:=I.list hl;obtain⟨vs,rv,hm',hzm⟩:=I.list hm;have e1:=ru.length;have e2:=rv.length
  have hend':us.toArray[n]? = none\/vs.toArray[n]? = none:=by
   rcases hend with q|q
   ·exact .inl (by simp;lia)
   ·exact .inr (by simp;lia)
  refine wpAny_pyNext_zip_end (I.ok.hd hc) D hz ht ho hi hj hl'.isList hm'.isList hend' λh' kp=>⟨Iu,?_⟩;have notin:∀a,a∉[z,o,i,j]->a≠z/\a≠o/\a≠i/\a≠j:=λa ha=>by simpa using ha
  have fpn:∀a∈[z,o,i,j],gf X pins H a:=λa ha=>hf a (by
   simp only[p_,FN,FO] at ha ⊢
   rcases ha with q|q|q|q
   ·exact .inl q
   ·exact .inr (.inr (.inl q))
   ·exact .inr (.inr (.inr (.inl q)))
   ·exact .inr (.inr (.inr (.inr q))))
  have trk:∀a q,H a=some q->a∉[z,o,i,j]:=λa q e ha=>by rw[(fpn a ha).1] at e;cases e
  have kp2:∀a q,a∉[z,o,i,j]->s.heap.get? a=some q->h'.get? a=some q:=λa q ha e=>by
   obtain⟨n1,n2,n3,n4⟩:=notin a ha;exact kp a q n1 n2 n3 n4 e
  refine I.step (g':=s.gens) (d':=s.drawn) (t':=s.toks) (ch:=[z,o,i,j]) (λa ha=>?_) (λa q _ _ hc' e _=>kp2 a q hc' e) (λa q _ _ hc' e _=>⟨q.slots,kp2 a q hc' e⟩) (λa q _ e n2=>n2) (λa q hc' e=>⟨q,kp2 a q hc' e⟩) (λa xs' e=>e) (λa q u' e=>e) (λa ps e=>⟨#[],by rw[e];simp⟩) (λm' hm''=>?_) (λa q e=>?_) I.bare
  ·obtain⟨_,f1,_,f3,f4,f5⟩:=fpn a ha
   exact⟨f3,f1,f4,f5⟩
  ·obtain⟨ob,es',ep,e1,r⟩:=hm''
   exact⟨ob,es',ep,kp2 _ _ (λha=>(fpn _ ha).2.1 rfl) e1,r⟩
  ·refine(I.hok a q e).stay (λa' q' h1 h2=>kp2 a' q' ?_ h2) (λ_ q'=>q') λ_ _ q'=>q'
   rcases h1 with rfl|h1
   ·exact trk _ _ e
   ·exact trk _ _ h1
 self:=λ_ _ _ _ _ st h=>wpAny_pyIter_zip st.1 h
def ya (b:Bool)(K:Frag)(ta:TA):TI:=λσ H R=>ta σ H λvs H1=>∃l m xs ys,vs=[.ref l,.ref m]/\Sq b K H1 l xs/\Sq b K H1 m ys/\R (Itz b K l m) H1
def xR {b:Bool}{kk:Nat}(hg:Gl X "zip")(hm:X.mg "zip" = none)(ha:PA X [e1,e2] ta)(hs:starEach [e1,e2] X.env=[(false,eval e1 X.env),(false,eval e2 X.env)]:=by rfl)(hs2:starEach [e2] X.env=[(false,eval e2 X.env)]:=by rfl) :
  PI X (.Tuple es kk tpos) (.Call (.Name "zip" p) [e1,e2] [] pos) (ya b X.K ta):=by
 intro pins s σ H R I h
 refine Call_ (bh I hg hm boot_zip (Ep (thx (ha pos pins s σ H _ I h) λus s1 vs H1 I1 r1 q1=>?_) (by rw[hs,hs2]) (by rw[hs2];rfl)))
 obtain⟨l,m,xs,ys,e,hl,hm,q⟩:=q1;subst e;obtain⟨u,u',rfl,ru,ru'⟩:=cX r1
 cases ru
 cases ru'
 obtain⟨its,rv,hl',_⟩:=I1.list hl;obtain⟨its2,rv2,hm',_⟩:=I1.list hm;refine call_zip_2 hl'.isList hm'.isList λh' hz ht ho hi hj _ kp=>wpAny_pyIter_zip hz ?_;have ll:=(let ⟨_,e,_⟩:=hl'.isList;f_ e:l<s1.heap.objs.size);have lm:=(let ⟨_,e,_⟩:=hm'.isList;f_ e:m<s1.heap.objs.size);have N:∀n,l≠s1.heap.objs.size+n:=λn=>h_ (ff ll (FP _ n));have M:∀n,m≠s1.heap.objs.size+n:=λn=>h_ (ff lm (FP _ n));have L:∀n k,n<k->s1.heap.objs.size+n≠s1.heap.objs.size+k:=λn k q=>h_ (Nat.add_lt_add_left q _);have G:∀n k,k<n->s1.heap.objs.size+n≠s1.heap.objs.size+k:=λn k q=>Ej (Nat.add_lt_add_left q _)
 have D:ZipApart (s1.heap.objs.size+4) (s1.heap.objs.size+2) (s1.heap.objs.size+3) s1.heap.objs.size (s1.heap.objs.size+1) l m :=
  ⟨L 2 4 (by decide),L 3 4 (by decide),L 0 4 (by decide),L 1 4 (by decide),L 2 3 (by decide),G 2 0 (by decide),G 2 1 (by decide),G 3 0 (by decide),G 3 1 (by decide),L 0 1 (by decide),N 4,N 3,N 0,N 1,M 4,M 3,M 0,M 1⟩
 have fr:∀n,gf X pins H1 (s1.heap.objs.size+n):=λn=>I1.fpOk (FP _ n) (I1.hok.fresh (FP _ n));refine⟨s1.heap.objs.size+4,[s1.heap.objs.size+4,s1.heap.objs.size+2,s1.heap.objs.size+3,s1.heap.objs.size,s1.heap.objs.size+1],_,_,H1,Iu,I1.kept (t':=s1.toks) kp,uf (b:=b) D,⟨hz,ht,⟨_,_,ho⟩,hi,hj⟩,λa ha=>?_,q⟩
 simp only[p_,FN,FO] at ha
 rcases ha with rfl|rfl|rfl|rfl|rfl
 ·exact fr 4
 ·exact fr 2
 ·exact fr 3
 ·exact fr 0
 ·exact fr 1
def sN {b:Bool}{K:Frag}{xs ys:List V}{g:TG}{tt:TT}{Q:VK}(Pv:Nat->List V->St->Hp->Prop)(h0:Pv 0 [] σ₀ H)(hz:xs.length<=sizeLine)(hn:∀i acc σ H,Pv i acc σ H->acc.length<=i)
  (hl:∀i acc σ H,i<=xs.length->i<=ys.length->Pv i acc σ H->Sq b K H l xs/\Sq b K H m ys)
  (hs:∀i x y acc σ H p,xs[i]? = some x->ys[i]? = some y->Pv i acc σ H->H p=none->g (.ref p) σ (upd H p (.tup [x,y])) λσ2 H2=>tt σ2 H2 λok H3=>if ok=true then te σ2 H3 λz H4=>Pv (i+1) (acc++[z]) σ2 H4 else Pv (i+1) acc σ2 H3)
  (hd:∀acc σ H,Pv (min xs.length ys.length) acc σ H->∀p,H p=none->Q (.ref p) (upd H p (.lst acc))) :
  aj (Itz b K l m) g tt te Q σ₀ H:=by
 refine⟨λi n acc σ H=>n=min xs.length ys.length-i/\i<=min xs.length ys.length/\Pv i acc σ H,⟨min xs.length ys.length,by simp,Et _,h0⟩,?_⟩
 rintro i n acc σ H ⟨rfl,hi,p⟩
 obtain⟨q1,q2⟩:=hl i acc σ H (by lia) (by lia) p
 have hlen:=hn i acc σ H p
 by_cases hlt:i<min xs.length ys.length
 ·have h1:i<xs.length:=by lia
  have h2:i<ys.length:=by lia
  refine .inr ⟨⟨xs,ys,xs[i],ys[i],q1,q2,by simp[h1],by simp[h2]⟩,by lia,Pv (i+1),λacc' σ' H' p'=>⟨min xs.length ys.length-(i+1),by lia,Iu,hlt,p'⟩,λv H' y=>?_⟩
  obtain⟨a,x,y,fr,rfl,rfl,k1,k2⟩:=y;exact hs i x y acc σ H a (k1 xs q1) (k2 ys q2) p fr
 ·have e:i=min xs.length ys.length:=by lia
  subst e;refine .inl ⟨⟨xs,ys,q1,q2,?_⟩,by lia,hd acc σ H p⟩
  lia
end L2
namespace L2
open PySem
theorem uM (xs:Array Nat)(j:Nat)(mono:xs.toList.Pairwise (· < ·)):∀fuel lo hi,hi-lo<=fuel->lo<=hi->hi<=xs.size->(∀i,i<lo->xs.getD i j<j)->(∀i,hi<=i->i<xs.size->j<=xs.getD i j) ->
  SetTable.below.go xs j fuel lo hi<=xs.size/\(∀i,i<SetTable.below.go xs j fuel lo hi->xs.getD i j<j)/\∀i,SetTable.below.go xs j fuel lo hi<=i->i<xs.size->j<=xs.getD i j:=by
 have le:∀a b,a<=b->b<xs.size->xs.getD a j<=xs.getD b j:=λa b h hb=>by
  rcases FQ h with h|h
  ·have:=FR.mp mono a b (Nat.lt_trans h hb) hb h
   simp only[FS] at this
   simp only[FT,FU hb,FU (Nat.lt_trans h hb),FV]
   exact Nat.le_of_lt this
  ·rw[h];exact Eo _
 intro fuel
 induction fuel with
 | zero =>
  intro lo hi h1 h2 h3 h4 h5
  obtain rfl:=Nat.le_antisymm h2 (Nat.le_of_sub_eq_zero (Nat.le_zero.mp h1))
  exact⟨h3,h4,h5⟩
 | succ fuel ih =>
  intro lo hi h1 h2 h3 h4 h5
  unfold SetTable.below.go
  by_cases hl:lo<hi
  ·rw[Ik hl]
   dsimp only
   have m1:lo<=(lo+hi)/2:=by clear h1;lia
   have m2:(lo+hi)/2<hi:=by clear h1 m1;lia
   generalize (lo+hi)/2=m at m1 m2
   by_cases hm:xs.getD m j<j
   ·rw[Ik hm]
    exact ih _ _ (by lia) m2 h3 (λi q=>Fo (le i m (Nat.le_of_lt_succ q) (Nat.lt_of_lt_of_le m2 h3)) hm) h5
   ·rw[Il hm]
    exact ih _ _ (by lia) m1 (Nat.le_trans (Nat.le_of_lt m2) h3) h4 (λi q hs=>k_ (Nat.not_lt.mp hm) (le m i q hs))
  ·rw[Il hl]
   obtain rfl:=Nat.le_antisymm h2 (Nat.not_lt.mp hl)
   exact⟨h3,h4,h5⟩
def W2 (xs:Array Nat)(j:Nat)(mono:xs.toList.Pairwise (· < ·)):SetTable.below xs j<=xs.size/\(∀i,i<SetTable.below xs j->xs.getD i j<j)/\∀i,SetTable.below xs j<=i->i<xs.size->j<=xs.getD i j :=
 uM xs j mono xs.size 0 xs.size (by lia) (by lia) (Eo _) (λi h=>absurd h (by lia)) (λi h h'=>absurd h' (by lia))
def bR (xs:Array Nat)(j:Nat)(mono:xs.toList.Pairwise (· < ·))(hn:xs[SetTable.below xs j]?≠some j):(SetTable.insertAt xs (SetTable.below xs j) j).toList.Pairwise (· < ·):=by
 obtain⟨h1,h2,h3⟩:=W2 xs j mono
 have e:(SetTable.insertAt xs (SetTable.below xs j) j).toList=xs.toList.take (SetTable.below xs j)++j::xs.toList.drop (SetTable.below xs j):=by
  simp[SetTable.insertAt,List.extract_eq_take_drop,List.take_of_length_le]
 rw[e];generalize hp:SetTable.below xs j=p at *
 have gt:∀i,p<=i->(h:i<xs.size)->j<xs[i]:=λi hi h=>by
  have q:=h3 i hi h;rw[FT,FU h,FV] at q
  rcases FQ q with q|q
  ·exact q
  ·exfalso
   have hps:p<xs.size:=by lia
   have q2:=h3 p (Eo _) hps;rw[FT,FU hps,FV] at q2
   rcases FQ hi with z|z
   ·have:=FR.mp mono p i (by simpa using hps) (by simpa using h) z
    simp only[FS] at this
    lia
   ·subst z
    exact hn (by rw[FU h,<- q])
 rw[FW,FX];refine⟨mono.sublist (ES _ _),⟨λa ha=>?_,mono.sublist (List.drop_sublist _ _)⟩,λa ha b hb=>?_⟩
 ·obtain⟨i,hi,rfl⟩:=FG ha
  rw[List.getElem_drop];rw[length_drop,A_] at hi
  have:=gt (p+i) (by lia) (by lia)
  simpa using this
 ·obtain⟨i,hi,rfl⟩:=FG ha
  rw[EM,A_] at hi;have q:=h2 i (by lia)
  rw[FT,FU (by lia),FV] at q
  rw[List.getElem_take];rw[FS]
  rcases p_.mp hb with rfl|hb
  ·exact q
  ·obtain⟨k,hk,rfl⟩:=FG hb
   rw[List.getElem_drop];rw[length_drop,A_] at hk
   have:=gt (p+k) (by lia) (by lia)
   rw[FS];lia
structure JT (L:Bool)(t:SetTable):Prop where
 led:t.led=L
 dum:t.dummies=#[]
 mono:t.place.toList.Pairwise (· < ·)
def jH (j:Nat):SetTable.has #[] j=false:=by simp[SetTable.has]
def aS (t:SetTable)(j:Nat)(h:t.dummies=#[]):(t.slot j=.empty/\t.place[SetTable.below t.place j]?≠some j)\/∃i,t.slot j=.live i:=by
 unfold SetTable.slot;rw[h,jH]
 dsimp only
 by_cases e:(t.place[SetTable.below t.place j]?==some j)=true
 ·rw[Ik e];exact .inr ⟨_,Iu⟩
 ·rw[Il e]
  refine .inl ⟨by simp,λq=>e ?_⟩
  rw[q];simp
theorem jS (t:SetTable)(hd:t.dummies=#[])(f:Nat->Int)(h:Int):∀(fuel:Nat)(p:SetTable.Probe)(j:Nat)(d:Option Nat),p.dummy=none->SetTable.probe.go t f h fuel p=some (.empty j d) ->
  d=none/\t.place[SetTable.below t.place j]?≠some j:=by
 intro fuel
 induction fuel with
 | zero=>intro p j d _ e;simp[SetTable.probe.go] at e
 | succ fuel ih =>
  intro p j d hp e
  unfold SetTable.probe.go at e
  rcases aS t p.j hd with⟨q,q2⟩|⟨i,q⟩
  ·rw[q] at e
   injection e with e
   injection e with e1 e2
   subst e1;exact⟨e2▸hp,q2⟩
  ·rw[q] at e
   dsimp only at e
   have ha:(t.advance p).dummy=none:=by
    unfold SetTable.advance
    split
    ·exact hp
    ·exact hp
   split at e
   ·cases e
   ·exact ih _ j d ha e
def V3 {L:Bool}{t:SetTable}(n:Nat)(h:JT L t):JT L (t.standIn n) where
 led:=h.led
 dum:=rfl
 mono:=by
  show(Array.range n).toList.Pairwise (· < ·)
  rw[Array.toList_range];exact FY
theorem qG {L:Bool}{t:SetTable}(es:Array (Int×Value))(h:Int)(x:Value)(J:JT L t):JT L (layNew t es h x).2.1:=by
 unfold layNew
 cases q:t.freeSlot h with
 | none=>exact V3 _ J
 | some r =>
  obtain⟨slot,wasDummy⟩:=r
  dsimp only
  have hs:t.place[SetTable.below t.place slot]?≠some slot:=by
   unfold SetTable.freeSlot at q
   cases e:t.probe (λ_=>h+1) h (t.probeStart h) with
   | none=>rw[e] at q;cases q
   | some m =>
    rw[e] at q
    cases m with
    | candidate _ _ _=>cases q
    | empty j d =>
     obtain⟨rfl,z⟩:=jS t J.dum _ h _ _ j d rfl e;have q1:=e_ q
     injection q1 with q2 _
     subst q2;exact z
  have Jp:JT L (t.put slot).1:=by
   refine⟨J.led,?_,bR t.place slot J.mono hs⟩
   show(if SetTable.has t.dummies slot=true then _ else t.dummies)=#[]
   rw[J.dum,jH];rfl
  unfold SetTable.orStandIn
  split
  ·exact Jp
  ·exact V3 _ Jp
theorem wp {L:Bool}{mask finger moves:Nat}{plain:Bool}{t:SetTable}(h:SetTable.laid mask finger moves L plain hs=some (t,o)):JT L t:=by
 unfold SetTable.laid at h
 cases q:SetTable.layClean mask hs with
 | none=>rw[q] at h;cases h
 | some owner =>
  rw[q] at h;have e:=e_ h
  injection e with e1 _
  subst e1;refine⟨Iu,Iu,?_⟩
  show(List.map (λx=>x.1) ((List.range (mask+1)).filterMap λj=>(owner.getD j none).map (j,·))).toArray.toList.Pairwise (· < ·)
  have:∀l:List Nat,List.Sublist (List.map (λx:Nat×Nat=>x.1) (l.filterMap λj=>(owner.getD j none).map (j,·))) l:=by
   intro l
   induction l with
   | nil=>exact List.Sublist.refl _
   | cons a r ih =>
    rw[m_]
    cases (owner.getD a none) with
    | none=>exact ih.cons _
    | some k=>exact ih.cons₂ _
  exact(FY (n:=mask+1)).sublist (by simpa using this (List.range (mask+1)))
theorem jY {L:Bool}{t:SetTable}(es:Array (Int×Value))(wanted:Nat)(J:JT L t):JT L (relayAll t es wanted).2.1:=by
 unfold relayAll
 cases q:t.relaid (es.map (·.1)) wanted with
 | none=>exact V3 _ J
 | some r =>
  obtain⟨t',order⟩:=r
  dsimp only
  split
  ·unfold SetTable.relaid at q
   rw[J.led] at q;exact wp q
  ·exact V3 _ J
def jm {L:Bool}{t:SetTable}(J:JT L t):JT L { t with plain:=false }:=⟨J.led,J.dum,J.mono⟩
def oF {xs:Array Nat}(mono:xs.toList.Pairwise (· < ·))(k:Nat)(hk:k<xs.size):SetTable.below xs (xs[k]+1)=k+1:=by
 obtain⟨h1,h2,h3⟩:=W2 xs (xs[k]+1) mono
 have q1:¬SetTable.below xs (xs[k]+1)<=k:=λq=>by
  have:=h3 k q hk
  rw[FT,FU hk,FV] at this;lia
 have q2:¬k+1<SetTable.below xs (xs[k]+1):=λq=>by
  have hk1:k+1<xs.size:=by lia
  have:=h2 (k+1) q
  rw[FT,FU hk1,FV] at this;have z:=FR.mp mono k (k+1) (by simpa using hk) (by simpa using hk1) (by lia)
  simp only[FS] at z
  lia
 lia
def lV {xs:Array Nat}(mono:xs.toList.Pairwise (· < ·)):SetTable.below xs 0=0:=by
 obtain⟨h1,h2,h3⟩:=W2 xs 0 mono
 rcases Nat.eq_zero_or_pos (SetTable.below xs 0) with h|h
 ·exact h
 ·exact absurd (h2 0 h) (by lia)
theorem bf {α:Type}:∀(l:List α)(i:Nat)(h:i<l.length),List.Perm (l[i]::l.eraseIdx i) l
 | a::l,0,_=>FZ _
 | a::l,i+1,h=>(List.Perm.swap _ _ _).trans ((bf l i (by simpa using h)).cons a)
def fQ {α:Type}(next:Nat->Nat)(xs:Array α):List.Perm (pickOrder next xs).toList xs.toList:=by
 have go:∀(fuel k:Nat)(left:List α)(out:Array α),left.length=fuel->List.Perm (pickOrder.go next fuel k left out).toList (out.toList++left):=by
  intro fuel
  induction fuel with
  | zero =>
   intro k left out h
   have e:left=[]:=G_ h;subst e
   simp[pickOrder.go]
  | succ fuel ih =>
   intro k left out h
   unfold pickOrder.go;have hlt:next k%left.length<left.length:=Ga _ (by lia)
   rw[Gb hlt]
   dsimp only
   refine(ih (k+1) _ _ (by rw[List.length_eraseIdx_of_lt hlt];lia)).trans ?_
   rw[Array.toList_push,Fh];exact List.Perm.append_left _ (bf left _ hlt)
 exact(go xs.size 0 xs.toList #[] (by simp)).trans (by simp)
section
variable {κ:Type}[DecidableEq κ]
def P4 (knd:KeyKind prog w κ)(h:Heap)(a:Addr)(S:κ->Bool)(n:Nat):Prop :=
 ∃o es ep t,h.get? a=some o/\o.ExactSet/\o.data=.set es ep t/\(ElemsOf knd es.toList/\(∀k,S k=true↔∃e∈es.toList,knd.is k e.2=true)/\es.size<scanBound/\t.fits es.size=true/\es.size=n)/\JT (!w.params.followText "set-order") t
theorem P4.of_get {prog:Program}{w:World}{knd:KeyKind prog w κ}{h h':Heap}{a:Addr}{S:κ->Bool}{n:Nat}(x:P4 knd h a S n)(k:∀o,h.get? a=some o->h'.get? a=some o):P4 knd h' a S n:=by
 obtain⟨o,es,ep,t,e,r⟩:=x;exact⟨o,es,ep,t,k o e,r⟩
theorem P4.congr {S S':κ->Bool}{n n':Nat}(x:P4 knd h a S n)(e:∀k,S k=S' k)(en:n=n'):P4 knd h a S' n':=by
 obtain rfl:S=S':=funext e;subst en;exact x
theorem P4.new {prog:Program}{w:World}{knd:KeyKind prog w κ}(h:Heap){l:Bool}(hl:l = !w.params.followText "set-order"):P4 knd (h.push { cls:=.type "set",dict:=none,data:=.set #[] 0 (.fresh 0 0 l) }) h.objs.size (λ_=>false) 0:=by
 refine⟨_,#[],0,_,En _ rfl,⟨Iu,Iu,Iu⟩,Iu,⟨λe he=>absurd he (by simp),λk=>by simp,by decide,by simp[SetTable.fits,SetTable.fresh,SetTable.fill],Iu⟩,hl,Iu,?_⟩
 exact Fn
theorem P4.store {prog:Program}{w:World}{knd:KeyKind prog w κ}{h:Heap}{a:Addr}{o:Obj}{es es':Array (Int×Value)}{ep:Nat}{t t':SetTable}{S:κ->Bool}(ho:h.get? a=some o)(hx:o.ExactSet)(hd:o.data=.set es ep t)
  (el:ElemsOf knd es'.toList)(mem:∀k,S k=true↔∃e∈es'.toList,knd.is k e.2=true)(hb:es'.size<scanBound)(hf:t'.fits es'.size=true)(J:JT (!w.params.followText "set-order") t') :
  (h.update a (Obj.putSet es' t')).get? a=some { o with data:=.set es' (ep+1) t' }/\P4 knd (h.update a (Obj.putSet es' t')) a S es'.size:=by
 have g:(h.update a (Obj.putSet es' t')).get? a=some { o with data:=.set es' (ep+1) t' }:=(SetOf_store (knd:=knd) (S':=S) ho hx hd el mem hb hf).1
 exact⟨g,_,es',ep+1,t',g,hx,Iu,⟨el,mem,hb,hf,Iu⟩,J⟩
def sM {prog:Program}{w:World}{knd:KeyKind prog w κ}{A:Around}{E:Value->Shared->Prop}{s:Shared}{g:Bool->Sem Unit}(hg:∀(b:Bool)(s₁:Shared)(Q':Unit->Shared->Prop),Q' () s₁->wpAny (model prog w) A (g b) Q' E s₁)
  {a:Addr}{o:Obj}{es es1:Array (Int×Value)}{ep:Nat}{t t2:SetTable}{S:κ->Bool}{wd:Bool}{R:Option Bool->Shared->Prop}(ho:s.heap.get? a=some o)(hx:o.ExactSet)(hd:o.data=.set es ep t)
  (el:ElemsOf knd es1.toList)(mem:∀k,S k=true↔∃e∈es1.toList,knd.is k e.2=true)(hb:es1.size<scanBound)(hf:t2.fits es1.size=true)(J:JT (!w.params.followText "set-order") t2)
  (fin:∀h',Heap.SameBut a s.heap h'->P4 knd h' a S es1.size->R (some true) { s with heap:=h' }) :
  wpAny (model prog w) A (do
    storeSet a es1 t2
    if (!wd&&t2.tooFull)=true then do
      g (relayAll t2 es1 (SetTable.grown es1.size)).2.2
      storeSet a (relayAll t2 es1 (SetTable.grown es1.size)).1 (relayAll t2 es1 (SetTable.grown es1.size)).2.1
      pure (some true)
     else pure (some true)) R E s:=by
 obtain⟨g1,x1⟩:=P4.store (knd:=knd) ho hx hd el mem hb hf J;have sb1:=Gc s.heap a (Obj.putSet es1 t2);refine w_ (Gd ho hd ?_ (fits_of_scanBound hb))
 by_cases c:(!wd&&t2.tooFull)=true
 ·rw[Ik c]
  have pm:=relayAll_perm t2 es1 (SetTable.grown es1.size);have ft:=relayAll_fits t2 es1 (SetTable.grown es1.size);have J2:=jY (t:=t2) es1 (SetTable.grown es1.size) J;generalize relayAll t2 es1 (SetTable.grown es1.size)=r at pm ft J2 ⊢;obtain⟨es2,t3,gave⟩:=r
  dsimp only at pm ft J2 ⊢
  have sz:es2.size=es1.size:=by simpa using pm.length_eq
  refine w_ (hg _ _ _ (w_ (Gd g1 rfl ?_ (by rw[sz];exact fits_of_scanBound hb))))
  obtain⟨_,x2⟩:=P4.store (knd:=knd) (S:=S) g1 hx rfl (el.perm pm) (λk=>(mem k).trans ⟨λ⟨e,he,q⟩=>⟨e,pm.mem_iff.mpr he,q⟩,λ⟨e,he,q⟩=>⟨e,pm.mem_iff.mp he,q⟩⟩) (by rw[sz];exact hb) ft J2
  rw[sz] at x2;exact u_ (fin _ (sb1.trans (Gc _ a _)) x2)
 ·rw[Il c]
  exact u_ (fin _ sb1 x1)
theorem zn {knd:KeyKind prog w κ}{s:Shared}{n:Nat}{k:κ}{Q:Bool->Shared->Prop}(hk:knd.is k x=true)(hsc:x.scannable=true)(hS:P4 knd s.heap a S n)(room:n+1<scanBound)
  (fin:∀h',Heap.SameBut a s.heap h'->P4 knd h' a (λk'=>S k' || decide (k'=k)) (if S k then n else n+1)->Q (!S k) { s with heap:=h' }) :
  wpAny (model prog w) A (setAddHashed a x (knd.hash k)) Q E s:=by
 obtain⟨o,es,ep,t,ho,hx,hd,⟨el,mem,hb,hf,hn⟩,J⟩:=hS
 have quiet:∀(b:Bool)(s₁:Shared)(Q':Unit->Shared->Prop),Q' () s₁->wpAny (model prog w) A (match b with | true=>rule "set.scan.the-table-gave-way" | false=>pure ()) Q' E s₁:=λb s₁ Q' z=>by
  cases b
  ·exact u_ z
  ·exact Ge z
 unfold setAddHashed setAddHashedIn;refine D_ (w_ (Gf ho hd hf ?_))
 dsimp only
 rw[Ik (byScan_of hsc hb el)];unfold setAddByScan;refine w_ (w_ (Ge (w_ (wpAny_setScan_of hk ho hd hf el ?_))))
 cases found:List.findIdx? (λe=>knd.is k e.2) es.toList with
 | some j =>
  obtain⟨hj,pj,_⟩:=List.findIdx?_eq_some_iff_getElem.mp found;have there:S k=true:=(mem k).mpr ⟨_,getElem_mem hj,pj⟩
  dsimp only
  refine u_ (u_ ?_);have z:=fin s.heap (Heap.SameBut.refl a s.heap) ⟨o,es,ep,t,ho,hx,hd,⟨el,λk'=>?_,hb,hf,by rw[there];exact hn⟩,J⟩
  ·rw[there] at z
   exact z
  ·rw[<- mem k',Bool.or_eq_true,decide_eq_true_eq]
   exact⟨λq=>q.elim id λe=>by rw[e];exact there,.inl⟩
 | none =>
  have away:S k=false:=by
   cases q:S k with
   | false=>rfl
   | true =>
    obtain⟨e,he,pe⟩:=(mem k).mp q;exact absurd pe (by simpa using List.findIdx?_eq_none_iff.mp found e he)
  dsimp only
  have pm:=layNew_perm t es (knd.hash k) x;have ft:=layNew_fits t es (knd.hash k) x;have J1:=qG es (knd.hash k) x J;generalize layNew t es (knd.hash k) x=r at pm ft J1 ⊢;obtain⟨es1,t1,wd,gave⟩:=r
  dsimp only at pm ft J1 ⊢
  rw[Array.toList_push] at pm
  have sz:es1.size=n+1:=by
   have:=pm.length_eq
   rw[EU] at this
   simp at this
   lia
  have last:∀h',Heap.SameBut a s.heap h'->P4 knd h' a (λk'=>S k' || decide (k'=k)) es1.size->Q true { s with heap:=h' }:=λh' sb q=>by
   have z:=fin h' sb;rw[away] at z;rw[sz] at q;exact z q
  have go:∀t2:SetTable,t2.fits es1.size=true->JT (!w.params.followText "set-order") t2->∀(R:Option Bool->Shared->Prop),(∀h',Heap.SameBut a s.heap h'->P4 knd h' a (λk'=>S k' || decide (k'=k)) es1.size->R (some true) { s with heap:=h' })->wpAny (model prog w) A (do
    storeSet a es1 t2
    if (!wd&&t2.tooFull)=true then do
      (match (relayAll t2 es1 (SetTable.grown es1.size)).2.2 with | true=>rule "set.scan.the-table-gave-way" | false=>pure ())
      storeSet a (relayAll t2 es1 (SetTable.grown es1.size)).1 (relayAll t2 es1 (SetTable.grown es1.size)).2.1
      pure (some true)
     else pure (some true)) R E s:=λt2 f2 J2 R hR =>
   sM quiet ho hx hd ((el.push hk hsc).perm pm) (mem_push_iff hk mem pm) (by rw[sz];exact room) f2 J2 hR
  refine w_ (quiet _ _ _ ?_)
  by_cases c:t1.plain=true
  ·rw[Ik c]
   refine w_ ?_;rw[hashByValue_scannable 8 hsc];refine u_ ?_;refine go _ ?_ ?_ _ λh' sb q=>u_ (last h' sb q)
   ·split
    ·exact ft
    ·exact SetTable.fits_plain_off ft
   ·split
    ·exact J1
    ·exact jm J1
  ·rw[Il c]
   refine w_ (u_ ?_);rw[Ik rfl];exact go _ ft J1 _ λh' sb q=>u_ (last h' sb q)
end
def w4:Slot "set_iterator" "__next__" "set_iterator.__next__" :=
 .of (owner:="set_iterator") (n:="__next__") (by rw[typeLookup_type,builtinLookup_eq_fast];kernel_rfl)
  (by decide +kernel) (by decide +kernel) (by decide +kernel)
  (by first|exact .inl (by decide +kernel)|exact .inr (by decide +kernel)) (by rw[isSubtype_type];kernel_rfl)
def X0:Slot "set_iterator" "__iter__" "set_iterator.__iter__" :=
 .of (owner:="set_iterator") (n:="__iter__") (by rw[typeLookup_type,builtinLookup_eq_fast];kernel_rfl)
  (by decide +kernel) (by decide +kernel) (by decide +kernel)
  (by first|exact .inl (by decide +kernel)|exact .inr (by decide +kernel)) (by rw[isSubtype_type];kernel_rfl)
def J7:entryFor table "set_iterator.__next__" = some Builtin.«set_iterator.__next__»:=entryFor_of_fast (by kernel_rfl)
def cP:entryFor table "set_iterator.__iter__" = some Builtin.«dict_keyiterator.__iter__» :=
 entryFor_alias (id':="dict_keyiterator.__iter__") (by kernel_rfl)
  (by first|rfl|decide +kernel|(unfold String.splitOn;simp +decide [String.splitOnAux])) (by decide +kernel) (by kernel_rfl)
def dC:entryFor table "set.__iter__" = some Builtin.«frozenset.__iter__» :=
 entryFor_alias (id':="frozenset.__iter__") (by kernel_rfl)
  (by first|rfl|decide +kernel|(unfold String.splitOn;simp +decide [String.splitOnAux])) (by decide +kernel) (by kernel_rfl)
def K9 (a:Value):argsOk "set_iterator.__next__" ⟨[a],[]⟩:=by unfold argsOk;kernel_rfl
def dG (a:Value):argsOk "set_iterator.__iter__" ⟨[a],[]⟩:=by unfold argsOk;kernel_rfl
abbrev aM (first:Value)(i:Nat)(a:Addr)(n ep:Nat):Obj:={ cls:=.type "set_iterator",dict:=none,data:=.fields #[first,.int i 0,.ref a,.int n 0,.int ep 0],slots:=#[] }
section
variable {ep:Nat}{t:SetTable}
def dQ {w:World}{Q:Bool->Shared->Prop}(h:Q (w.params.followText "set-order") s):wpAny (model prog w) A setsByText Q E s:=w_ (wpAny_askSetting (u_ h))
def jx {w:World}{s:Shared}{Q:Array (Int×Value)->Shared->Prop}(ht:w.params.followText "set-order" = true)(ho:s.heap.get? a=some o)(hd:o.data=.set es ep t)(hf:t.fits es.size=true)
  (h:Q (pickOrder (w.params.setOrder a ep) es) s):wpAny (model prog w) A (setWalk a) Q E s:=by
 unfold setWalk;refine w_ (Gf ho hd hf ?_)
 dsimp only
 refine w_ (dQ ?_);rw[ht]
 simp only[F_]
 exact w_ (wpAny_askSetting (u_ h))
def jf {w:World}{s:Shared}{sl k:Nat}{Q:Option (Value×Nat)->Shared->Prop}(ht:w.params.followText "set-order" = true)(ho:s.heap.get? a=some o)(hd:o.data=.set es ep t)(hf:t.fits es.size=true)
  (h:Q (((pickOrder (w.params.setOrder a ep) es)[k]?).map λe=>(e.2,sl)) s):wpAny (model prog w) A (setNext a sl k ep) Q E s:=by
 unfold setNext;refine w_ (Gf ho hd hf ?_)
 dsimp only
 refine w_ (dQ ?_);rw[ht]
 simp only[F_,Gg,Fy,Fa]
 exact w_ (jx ht ho hd hf (u_ h))
def gu {w:World}{s:Shared}{sl k:Nat}{Q:Option (Value×Nat)->Shared->Prop}(ht:w.params.followText "set-order" = false)(ho:s.heap.get? a=some o)(hd:o.data=.set es ep t)(hf:t.fits es.size=true)(J:JT true t)
  (hp:(!t.plain&&decide (es.size > 1))=false)(hs:SetTable.below t.place sl=k)
  (h:Q (match es[k]?,t.place[k]? with | some (_,x),some j=>some (x,j+1) | _,_=>none) s):wpAny (model prog w) A (setNext a sl k ep) Q E s:=by
 unfold setNext;refine w_ (Gf ho hd hf ?_)
 dsimp only
 refine w_ (dQ ?_);rw[ht]
 simp only[Fy,Fa]
 show wpAny _ _ (if (!t.plain&&decide (es.size > 1))=true then unsupported _ else _) _ _ s
 rw[hp]
 simp only[Fy,Fa]
 refine w_ ?_
 show wpAny _ _ (if (!t.led&&!es.isEmpty)=true then unsupported _ else pure ()) _ _ s
 rw[J.led]
 simp only[Gh,Ek,Fy,Fa]
 refine u_ ?_;rw[hs];exact u_ h
def P3 {s:Shared}{Q:Array (Int×Value)->Shared->Prop}(ho:s.heap.get? a=some o)(hd:o.data=.set es ep t)(hf:t.fits es.size=true)(h:Q es s):wpAny (model prog w) A (setEntries a) Q E s:=by
 unfold setEntries;exact w_ (Gf ho hd hf (u_ h))
def nq {s:Shared}{slot:Nat->Nat}{k n:Nat}{Q:Option Value->Shared->Prop}(hI:s.heap.get? I=some (aM (.int (slot k:Nat) 0) k a n ep))(ho:s.heap.get? a=some o)(hd:o.data=.set es ep t)(hf:t.fits es.size=true)(hn:es.size=n)
  (hnx:∀(B:Around)(Q':Option (Value×Nat)->Shared->Prop)(E':Value->Shared->Prop),Q' (some (x,slot (k+1))) s->wpAny (model prog w) B (setNext a (slot k) k ep) Q' E' s)
  (hQ:∀h',h'.get? I=some (aM (.int (slot (k+1):Nat) 0) (k+1) a n ep)->Heap.SameBut I s.heap h'->Q (some x) { s with heap:=h' }):wpAny (model prog w) A (pyNext (.ref I)) Q E s:=by
 have hT:s.TypeIs (.ref I) "set_iterator":=⟨_,hI,Iu⟩;unfold pyNext
 refine w_ (Gi (Gj (name:=Str.ofString "__next__") hT w4
  (Gk w4 hT J7 ?_ (K9 _))))
 show wpAny _ _ (fieldsOf (.ref I) >>= _) _ _ s
 refine w_ (wpAny_fieldsOf hI rfl ?_)
 show wpAny _ _ (setEntries a >>= _) _ _ s
 refine w_ (P3 ho hd hf ?_);rw[hn]
 simp only[Gg,Fy,Fa]
 show wpAny _ _ (setNext a ((slot k:Nat):Int).toNat ((k:Nat):Int).toNat ((ep:Nat):Int).toNat >>= _) _ _ s
 simp only[EW]
 refine w_ (hnx _ _ _ ?_)
 dsimp only
 refine w_ (Gm hI (by simp) λh1 g1 s1=>?_)
 refine w_ (Gm g1 (by simp) λh2 g2 s2=>u_ ⟨x,Iu,u_ (hQ h2 ?_ (s1.trans s2))⟩)
 rw[g2]
 simp[rawInt]
def gT {A:Around}{s:Shared}{α:Type}{h1:Heap}{Q:Option Value->Shared->Prop}(hh:A.handled=none)(hQ:∀h',(∀b ob,h1.get? b=some ob->h'.get? b=some ob)->Q none { s with heap:=h' }) :
  wpAny (model prog w) A.in1 (newExc (.type "StopIteration") [] >>= λe=>(raiseNew e:Sem α)) (λ_ _=>False)
   (λe s'=>wpAny (model prog w) A (do if <- isInstance e (.type "StopIteration") then pure none else throw e) Q E s') { s with heap:=h1 }:=by
 refine w_ ?_
 simp only[newExc,newTuple]
 refine w_ (FC ?_ (by size_fits))
 refine w_ (m:=firstArgMember _ _) (wpAny_of_eq (a:=Value.none) (by first|rfl|(simp only[firstArgMember];rfl)) ?_)
 refine FC ?_ (by size_fits)
 simp only[raiseNew]
 refine w_ (wpAny_handled ?_);rw[show A.in1.handled=none from hh];refine w_ (u_ (wpAny_throw ?_));refine w_ (wpAny_isInstance (T:="StopIteration") (b:=true) ⟨_,En _ rfl,Iu⟩ isSubtype_stop ?_);exact u_ (hQ _ λb ob e=>Em _ (Em _ e))
def nt {A:Around}{s:Shared}{first:Nat}{k n:Nat}{Q:Option Value->Shared->Prop}(hh:A.handled=none)(hI:s.heap.get? I=some (aM (.int (first:Nat) 0) k a n ep))(ho:s.heap.get? a=some o)(hd:o.data=.set es ep t)(hf:t.fits es.size=true)(hn:es.size=n)
  (hnx:∀(B:Around)(Q':Option (Value×Nat)->Shared->Prop)(E':Value->Shared->Prop),Q' none s->wpAny (model prog w) B (setNext a first k ep) Q' E' s)
  (hQ:∀h',(∀b ob,b≠I->s.heap.get? b=some ob->h'.get? b=some ob)->Q none { s with heap:=h' }):wpAny (model prog w) A (pyNext (.ref I)) Q E s:=by
 have hT:s.TypeIs (.ref I) "set_iterator":=⟨_,hI,Iu⟩;unfold pyNext
 refine w_ (Gi (Gj (name:=Str.ofString "__next__") hT w4
  (Gk w4 hT J7 ?_ (K9 _))))
 show wpAny _ _ (fieldsOf (.ref I) >>= _) _ _ s
 refine w_ (wpAny_fieldsOf hI rfl ?_)
 show wpAny _ _ (setEntries a >>= _) _ _ s
 refine w_ (P3 ho hd hf ?_);rw[hn]
 simp only[Gg,Fy,Fa]
 show wpAny _ _ (setNext a ((first:Nat):Int).toNat ((k:Nat):Int).toNat ((ep:Nat):Int).toNat >>= _) _ _ s
 simp only[EW]
 refine w_ (hnx _ _ _ ?_)
 dsimp only
 refine w_ (Gm hI (by simp) λh1 g1 s1=>?_)
 refine x_ (gT (Q:=Q) (E:=E) hh λh' kp=>hQ h' λb ob hb e=>kp b ob (s1.extBut b ob hb e)) (λ_ _ z=>z.elim) λe s' z=>z
def vi {s:Shared}{n:Nat}{Q:Nat->Shared->Prop}(hn:n≠0)(h:∀i d,i<n->Q i { s with drawn:=d }):wpAny (model prog w) A (choose src n) Q E s :=
 λ_ _ _=>⟨hn,h _ _ (Ga _ (Nat.pos_of_ne_zero hn))⟩
theorem oh {α:Type}:∀(n:Nat)(xs:List α)(s:Shared){Q:List α->Shared->Prop},xs.length=n->(∀ys d,ys.Perm xs->Q ys { s with drawn:=d })->wpAny (model prog w) A (drawOrder n xs) Q E s:=by
 intro n
 induction n with
 | zero =>
  intro xs s Q hn h
  obtain rfl:xs=[]:=G_ hn;exact u_ (h [] s.drawn (FZ _))
 | succ n ih =>
  intro xs s Q hn h
  match xs,hn with
  | x::r,hn =>
   show wpAny _ _ (choose .order (x::r).length >>= _) _ _ s
   refine w_ (vi (by simp) λi d hi=>?_)
   rw[Gb hi]
   dsimp only
   refine w_ (ih _ _ (by rw[List.length_eraseIdx_of_lt hi];lia) λys d' pm=>u_ (h _ d' ((pm.cons _).trans (bf (x::r) i hi))))
def rP {w:World}{s:Shared}{Q:Bool->Shared->Prop}(ho:s.heap.get? a=some o)(hd:o.data=.set es ep t)(hf:t.fits es.size=true)(h:Q (!w.params.followText "set-order"&&(!t.plain&&decide (es.size > 1))) s):wpAny (model prog w) A (setDrawn a) Q E s:=by
 unfold setDrawn;refine w_ (Gf ho hd hf ?_)
 dsimp only
 exact w_ (dQ (u_ h))
def ly {s:Shared}{ps:List Nat}{k n p:Nat}{h0:Int}{Q:Option Value->Shared->Prop}(hI:s.heap.get? I=some (aM (.ref T) k a n ep))(hTu:s.heap.get? T=some { cls:=.type "tuple",data:=.seq (ps.map λ(i:Nat)=>rawInt i).toArray })
  (ho:s.heap.get? a=some o) (hd:o.data=.set es ep t) (hf:t.fits es.size=true) (hn:es.size=n) (hp:ps[k]? = some p) (hx:es[p]? = some (h0,x))
  (hQ:∀h',h'.get? I=some (aM (.ref T) (k+1) a n ep)->Heap.SameBut I s.heap h'->Q (some x) { s with heap:=h' }):wpAny (model prog w) A (pyNext (.ref I)) Q E s:=by
 have hT:s.TypeIs (.ref I) "set_iterator":=⟨_,hI,Iu⟩;unfold pyNext
 refine w_ (Gi (Gj (name:=Str.ofString "__next__") hT w4
  (Gk w4 hT J7 ?_ (K9 _))))
 show wpAny _ _ (fieldsOf (.ref I) >>= _) _ _ s
 refine w_ (wpAny_fieldsOf hI rfl ?_)
 show wpAny _ _ (setEntries a >>= _) _ _ s
 refine w_ (P3 ho hd hf ?_);rw[hn]
 simp only[Gg,Fy,Fa]
 show wpAny _ _ (seqItems? (.ref T) >>= _) _ _ s
 refine w_ (Gn hTu rfl ?_)
 dsimp only
 have e:(ps.map λ(i:Nat)=>rawInt i).toArray[((k:Nat):Int).toNat]? = some (.int (p:Nat) 0):=by
  rw[EW,List.getElem?_toArray,ER,hp];rfl
 rw[e]
 dsimp only
 show wpAny _ _ (setNextDrawn a ((p:Nat):Int).toNat ((ep:Nat):Int).toNat >>= _) _ _ s
 simp only[EW]
 unfold setNextDrawn;refine w_ (w_ (Gf ho hd hf ?_))
 dsimp only
 simp only[Gg,Fy,Fa,hx]
 refine u_ ?_;refine w_ (Gm hI (by simp) λh2 g2 s2=>u_ ⟨x,Iu,u_ (hQ h2 ?_ s2)⟩)
 rw[g2]
 simp[rawInt]
def kL {A:Around}{s:Shared}{ps:List Nat}{k n:Nat}{Q:Option Value->Shared->Prop}(hh:A.handled=none)(hI:s.heap.get? I=some (aM (.ref T) k a n ep))(hTu:s.heap.get? T=some { cls:=.type "tuple",data:=.seq (ps.map λ(i:Nat)=>rawInt i).toArray })
  (ho:s.heap.get? a=some o) (hd:o.data=.set es ep t) (hf:t.fits es.size=true) (hn:es.size=n) (hp:ps[k]? = none)
  (hQ:∀h',(∀b ob,b≠I->s.heap.get? b=some ob->h'.get? b=some ob)->Q none { s with heap:=h' }):wpAny (model prog w) A (pyNext (.ref I)) Q E s:=by
 have hT:s.TypeIs (.ref I) "set_iterator":=⟨_,hI,Iu⟩;unfold pyNext
 refine w_ (Gi (Gj (name:=Str.ofString "__next__") hT w4
  (Gk w4 hT J7 ?_ (K9 _))))
 show wpAny _ _ (fieldsOf (.ref I) >>= _) _ _ s
 refine w_ (wpAny_fieldsOf hI rfl ?_)
 show wpAny _ _ (setEntries a >>= _) _ _ s
 refine w_ (P3 ho hd hf ?_);rw[hn]
 simp only[Gg,Fy,Fa]
 show wpAny _ _ (seqItems? (.ref T) >>= _) _ _ s
 refine w_ (Gn hTu rfl ?_)
 dsimp only
 have e:(ps.map λ(i:Nat)=>rawInt i).toArray[((k:Nat):Int).toNat]? = none:=by
  rw[EW,List.getElem?_toArray,ER,hp];rfl
 rw[e]
 dsimp only
 refine w_ (Gm hI (by simp) λh1 g1 s1=>?_)
 refine w_ (Gm g1 (by simp) λh2 g2 s2=>?_)
 refine x_ (gT (Q:=Q) (E:=E) hh λh' kp=>hQ h' λb ob hb e=>kp b ob (s2.extBut b ob hb (s1.extBut b ob hb e))) (λ_ _ z=>z.elim) λe s' z=>z
def fw {s:Shared}{k n:Nat}{Q:Value->Shared->Prop}(hI:s.heap.get? I=some (aM first k a n ep))(h:Q (.ref I) s):wpAny (model prog w) A (pyIter (.ref I)) Q E s:=by
 have hT:s.TypeIs (.ref I) "set_iterator":=⟨_,hI,Iu⟩;refine wpAny_pyIter_slot hT X0 (Gk X0 hT cP ?_ (dG _))
 show wpAny _ _ (ret (.ref I)) _ _ s
 exact u_ ⟨_,Iu,"set_iterator",_,hT,w4.lookup,h⟩
def uO (prog:Program)(w:World)(A:Around)(a I N:Addr)(n:Nat)(xs:List Value)(s:Shared):Prop :=
 ∃(fp:List Addr)(St:Nat->Shared->Prop),WalksS prog w A I fp [I] (λa b=>b=a) n (λi v=>xs[i]? = some v) St/\St 0 s/\(∀b∈fp,(b=a\/N<=b)/\b<s.heap.objs.size)/\I∈fp
def rq {A:Around}{o:Obj}{slot:Nat->Nat}{n:Nat}{xs:List Value}(hh:A.handled=none)(hne:a≠I)(hd:o.data=.set es ep t)(hf:t.fits es.size=true)(hn:es.size=n)(hxs:xs.length=n)
  (step:∀(k:Nat)(s:Shared)(B:Around)(Q':Option (Value×Nat)->Shared->Prop)(E':Value->Shared->Prop),k<=n->s.heap.get? a=some o->Q' ((xs[k]?).map λx=>(x,slot (k+1))) s->wpAny (model prog w) B (setNext a (slot k) k ep) Q' E' s) :
  WalksS prog w A I [I,a] [I] (λa b=>b=a) n (λi v=>xs[i]? = some v) (λk s=>s.heap.get? I=some (aM (.int (slot k:Nat) 0) k a n ep)/\s.heap.get? a=some o) where
 sub:=λb hb=>by simp at hb;simp[hb]
 grefl:=λ_=>rfl
 gtrans:=λ_ _ _ p q=>q.trans p
 frame:=λi s h' tk st _ kp=>⟨kp I (by simp) _ st.1,kp a (by simp) _ st.2⟩
 item:=λi s Q E hi st hQ=>by
  have hx:xs[i]? = some (xs[i]'(by lia)):=Gb (by lia)
  refine nq (x:=xs[i]'(by lia)) st.1 st.2 hd hf hn (λB Q' E' q=>step i s B Q' E' (by lia) st.2 (by rw[hx];exact q)) λh' g sb=>?_
  exact hQ _ _ hx ⟨g,sb.extBut a o hne st.2⟩ ⟨λb ob hb e=>sb.extBut b ob (λz=>hb (by simp[z])) e,Iu,Iu,Iu,Eo _⟩
 done:=λs Q E st hQ=>by
  have hx:xs[n]? = none:=Go (by lia)
  refine nt hh st.1 st.2 hd hf hn (λB Q' E' q=>step n s B Q' E' (Eo _) st.2 (by rw[hx];exact q)) λh' kp=>?_
  exact hQ _ ⟨λb ob hb e=>kp b ob (λz=>hb (by simp[z])) e,Iu,Iu,Iu,Eo _⟩
 self:=λi s Q E st q=>fw st.1 q
def mv {prog:Program}{w:World}{A:Around}{a I:Addr}{o:Obj}{es:Array (Int×Value)}{T:Addr}{ps:List Nat}{n:Nat}{xs:List Value}(hh:A.handled=none)(hne:a≠I)(hnT:T≠I)(hd:o.data=.set es ep t)(hf:t.fits es.size=true)(hn:es.size=n)(hps:ps.length=n)
  (hx:∀(k p:Nat),ps[k]? = some p->∃h0 x,es[p]? = some (h0,x)/\xs[k]? = some x) :
  WalksS prog w A I [I,a,T] [I] (λa b=>b=a) n (λi v=>xs[i]? = some v) (λk s=>s.heap.get? I=some (aM (.ref T) k a n ep)/\s.heap.get? a=some o/\s.heap.get? T=some { cls:=.type "tuple",data:=.seq (ps.map λ(i:Nat)=>rawInt i).toArray }) where
 sub:=λb hb=>by simp at hb;simp[hb]
 grefl:=λ_=>rfl
 gtrans:=λ_ _ _ p q=>q.trans p
 frame:=λi s h' tk st _ kp=>⟨kp I (by simp) _ st.1,kp a (by simp) _ st.2.1,kp T (by simp) _ st.2.2⟩
 item:=λi s Q E hi st hQ=>by
  have hp:ps[i]? = some (ps[i]'(by lia)):=Gb (by lia)
  obtain⟨h0,x,e1,e2⟩:=hx i _ hp;refine ly st.1 st.2.2 st.2.1 hd hf hn hp e1 λh' g sb=>?_;exact hQ _ _ e2 ⟨g,sb.extBut a o hne st.2.1,sb.extBut T _ hnT st.2.2⟩ ⟨λb ob hb e=>sb.extBut b ob (λz=>hb (by simp[z])) e,Iu,Iu,Iu,Eo _⟩
 done:=λs Q E st hQ=>by
  refine kL hh st.1 st.2.2 st.2.1 hd hf hn (Go (by lia)) λh' kp=>?_
  exact hQ _ ⟨λb ob hb e=>kp b ob (λz=>hb (by simp[z])) e,Iu,Iu,Iu,Eo _⟩
 self:=λi s Q E st q=>fw st.1 q
def mF {prog:Program}{w:World}{A:Around}{E:Value->Shared->Prop}{s:Shared}{a:Addr}{o:Obj}{es:Array (Int×Value)}{Q:Value->Shared->Prop}(ho:s.heap.get? a=some o)(hx:o.ExactSet)(hd:o.data=.set es ep t)(hf:t.fits es.size=true)(J:JT (!w.params.followText "set-order") t)(hz:es.size<=sizeLine)
  (hQ:∀(I:Addr)(xs:List Value)(h':Heap) (d),xs.Perm (es.toList.map (·.2))->s.heap.objs.size<=I->(∀b ob,s.heap.get? b=some ob->h'.get? b=some ob) ->
   (∀B:Around,B.handled=none->uO prog w B a I s.heap.objs.size es.size xs { s with heap:=h',drawn:=d })->Q (.ref I) { s with heap:=h',drawn:=d }):wpAny (model prog w) A (pyIter (.ref a)) Q E s:=by
 have hT:s.TypeIs (.ref a) "set":=⟨o,ho,hx.1⟩;have hal:a<s.heap.objs.size:=f_ ho;refine wpAny_pyIter_slot hT F.slot_set_iter (Gk F.slot_set_iter hT dC ?_ (F.args_set_iter_1 _))
 show wpAny _ _ (Builtin.Frozenset.sizeOf a >>= _) _ _ s
 refine w_ (w_ (P3 ho hd hf (u_ ?_)));refine w_ (rP ho hd hf ?_)
 by_cases c:(!w.params.followText "set-order"&&(!t.plain&&decide (es.size > 1)))=true
 ·rw[c]
  simp only[F_]
  refine w_ (oh es.size (List.range es.size) s (by simp) λps d pm=>?_)
  have hps:ps.length=es.size:=by simpa using pm.length_eq
  simp only[newTuple]
  refine w_ (FC ?_ ?_)
  case refine_2 =>
   show(List.map (λ(i:Nat)=>rawInt i) ps).toArray.size<=sizeLine
   rw[Ey,EV,hps];exact hz
  have ho':(s.heap.push { cls:=.type "tuple",data:=.seq (ps.map λ(i:Nat)=>rawInt i).toArray }).get? a=some o:=Em _ ho;refine w_ (wpAny_setEpoch_of ho' hd hf ?_);refine w_ (FC ?_);have eI:(s.heap.push { cls:=.type "tuple",data:=.seq (ps.map λ(i:Nat)=>rawInt i).toArray }).objs.size=s.heap.objs.size+1:=FB ..;refine u_ ⟨_,Iu,"set_iterator",_,⟨_,En _ rfl,Iu⟩,w4.lookup,?_⟩;refine hQ _ ((ps.map λp=>(es[p]?).map (·.2)).filterMap id) _ d ?_ (by rw[eI];exact FE _) (λb ob e=>Em _ (Em _ e)) λB hB=>?_
  ·refine((pm.map _).filterMap _).trans ?_
   rw[List.filterMap_map]
   have:(List.range es.size).filterMap (id ∘ λp=>(es[p]?).map (·.2))=((List.range es.size).filterMap λp=>es[p]?).map (·.2):=by
    rw[List.map_filterMap];rfl
   rw[this,filterMap_getElem?_range]
  ·have key:∀(l:List Nat),(∀p∈l,p<es.size)->∀(k p:Nat),l[k]? = some p->∃h0 x,es[p]? = some (h0,x)/\((l.map λp=>(es[p]?).map (·.2)).filterMap id)[k]? = some x:=by
    intro l
    induction l with
    | nil=>intro _ k p e;simp at e
    | cons q r ih =>
     intro hl k p e
     have hq:=hl q n_;have eq:es[q]? = some es[q]:=FU hq
     have e2:((q::r).map λp=>(es[p]?).map (·.2)).filterMap id=es[q].2::(r.map λp=>(es[p]?).map (·.2)).filterMap id:=by
      rw[EX,eq];rfl
     rw[e2]
     cases k with
     | zero =>
      have:q=p:=by simpa using e
      subst this;exact⟨es[q].1,es[q].2,eq,Iu⟩
     | succ k=>exact ih (λp hp=>hl p (o_ _ hp)) k p (by simpa using e)
   refine⟨_,_,mv (o:=o) (T:=s.heap.objs.size) (ps:=ps) hB (by rw[eI];exact h_ (Gp hal)) (by rw[eI];exact h_ (FD _)) hd hf rfl hps (key ps λp hp=>by simpa using pm.mem_iff.mp hp),⟨En _ rfl,Em _ ho',Em _ (En _ rfl)⟩,λb hb=>?_,by simp⟩
   simp only[p_,FN,FO] at hb
   rw[FB]
   rcases hb with rfl|rfl|rfl
   ·exact⟨.inr (by rw[eI];exact FE _),FD _⟩
   ·exact⟨.inl rfl,by rw[eI];exact Gp (Gp hal)⟩
   ·exact⟨.inr (Eo _),by rw[eI];exact Gp (FD _)⟩
 ·rw[Gq.mpr c]
  simp only[Fy,Fa]
  refine w_ (u_ (w_ (wpAny_setEpoch_of ho hd hf ?_)));refine w_ (FC ?_);refine u_ ⟨_,Iu,"set_iterator",_,⟨_,En _ rfl,Iu⟩,w4.lookup,?_⟩;have hne:a≠s.heap.objs.size:=h_ hal
  have go:∀(slot:Nat->Nat)(xs:List Value),slot 0=0->xs.Perm (es.toList.map (·.2))->(∀(k:Nat)(s:Shared)(B:Around)(Q':Option (Value×Nat)->Shared->Prop)(E':Value->Shared->Prop),k<=es.size->s.heap.get? a=some o->Q' ((xs[k]?).map λx=>(x,slot (k+1))) s->wpAny (model prog w) B (setNext a (slot k) k ep) Q' E' s) ->
    Q (.ref s.heap.objs.size) { s with heap:=s.heap.push (aM (rawInt 0) 0 a es.size ep) }:=λslot xs h0 pm step=>by
   refine hQ _ xs _ s.drawn pm (Eo _) (λb ob e=>Em _ e) λB hB=>⟨_,_,rq (slot:=slot) hB hne hd hf rfl (by simpa using pm.length_eq) step,⟨?_,Em _ ho⟩,λb hb=>?_,by simp⟩
   ·rw[h0]
    exact En _ rfl
   ·simp only[p_,FN,FO] at hb
    rw[FB]
    rcases hb with rfl|rfl
    ·exact⟨.inr (Eo _),FD _⟩
    ·exact⟨.inl rfl,Gp hal⟩
  cases ht:w.params.followText "set-order" with
  | true =>
   refine go (λ_=>0) ((pickOrder (w.params.setOrder a ep) es).toList.map (·.2)) rfl ((fQ _ es).map _) λk s' B Q' E' hk ho' q=>jf ht ho' hd hf ?_
   have e:(((pickOrder (w.params.setOrder a ep) es).toList.map (·.2))[k]?).map (λx=>(x,0))=((pickOrder (w.params.setOrder a ep) es)[k]?).map λe=>(e.2,0):=by
    rw[ER,Gr,Option.map_map];rfl
   rw[<- e];exact q
  | false =>
   rw[ht] at c J
   have hpl:t.place.size=es.size:=by
    simp only[SetTable.fits,Fd,Gs] at hf
    exact hf.1
   refine go (λk=>match k with | 0=>0 | k+1=>t.place.getD k 0+1) (es.toList.map (·.2)) rfl (FZ _) λk s' B Q' E' hk ho' q=>gu ht ho' hd hf J (by simpa using c) ?_ ?_
   ·cases k with
    | zero=>exact lV J.mono
    | succ k =>
     have hk':k<t.place.size:=by lia
     have e:t.place.getD k 0=t.place[k]:=by simp[Array.getD,hk']
     show SetTable.below t.place (t.place.getD k 0+1)=k+1
     rw[e];exact oF J.mono k hk'
   ·rcases FQ hk with hlt|heq
    ·have hk':k<t.place.size:=by lia
     have e2:t.place.getD k 0=t.place[k]:=by simp[Array.getD,hk']
     have e3:(es.toList.map (·.2))[k]? = some es[k].2:=by simp[hlt]
     rw[e3] at q
     simp only[FU hlt,FU hk']
     rw[<- e2];exact q
    ·have e3:(es.toList.map (·.2))[k]? = none:=by simp[heq]
     rw[e3] at q;have e4:es[k]? = none:=by simp[heq]
     simp only[e4]
     exact q
end
end L2
namespace L2
open PySem PyProof.Rows
def oy:typeLookup (.type "set") "__len__" = pure (some (.builtin "set.__len__")):=F.slot_set_len.lookup
def gw:splitId "set.__len__" = some ("set","__len__"):=by kernel_rfl
section
variable {ep:Nat}{t:SetTable}
def tP {s:Shared}{Q:Bool->Shared->Prop}(hT:s.TypeIs (.ref a) "set")(h:Q false s):wpAny (model prog w) A (Builtin.List.listLengthHint (.ref a)) Q E s:=by
 unfold Builtin.List.listLengthHint;refine w_ (wpAny_specialOf hT oy ?_)
 simp only[gw]
 refine w_ (wpAny_isInstance hT sub_set_self ?_)
 simp only[Gh,Fy,Fa]
 show wpAny _ _ (typeOf (.ref a) >>= _) _ _ s
 exact w_ (Gu hT (u_ h))
def kB {prog:Program}{w:World}{A:Around}{E:Value->Shared->Prop}{s:Shared}{a:Addr}{o:Obj}{es:Array (Int×Value)}{Q:List Value->Shared->Prop}(hh:A.handled=none)(ho:s.heap.get? a=some o)(hx:o.ExactSet)(hd:o.data=.set es ep t)(hf:t.fits es.size=true)(J:JT (!w.params.followText "set-order") t)(hz:es.size<=sizeLine)
  (hQ:∀(h':Heap) (d) (tk:Nat) (xs:List Value),xs.Perm (es.toList.map (·.2))->s.heap.objs.size<h'.objs.size->(∀b ob,s.heap.get? b=some ob->h'.get? b=some ob)->Q xs { s with heap:=h',drawn:=d,toks:=tk }):wpAny (model prog w) A (collect (.ref a)) Q E s:=by
 have hal:a<s.heap.objs.size:=f_ ho;unfold collect;refine w_ (Gv (Gw F.entry_proto_collect ?_));rw[Gx F.plain_proto_collect _]
 show wpAny _ A.in1 (newList [] >>= λl=>again (.builtin "list.__iadd__" ⟨[l,.ref a],[]⟩)) _ _ s
 refine w_ (FC ?_);refine u_ ⟨Gy Gz _,Gw F.entry_list_iadd ?_⟩;rw[Gx Gz _];generalize hH1:s.heap.push { cls:=.type "list",data:=.seq ([]:List Value).toArray }=H1;have sz1:H1.objs.size=s.heap.objs.size+1:=by rw[<- hH1];exact FB ..
 have old1:∀b ob,s.heap.get? b=some ob->H1.get? b=some ob:=λb ob e=>by rw[<- hH1];exact Em _ e
 have gS:H1.get? s.heap.objs.size=some { cls:=.type "list",data:=.seq ([]:List Value).toArray }:=by rw[<- hH1];exact En _ rfl
 show wpAny _ A.in1 (Builtin.List.listExtendWith (.ref s.heap.objs.size) (.ref a) (.ref s.heap.objs.size)) _ _ { s with heap:=H1 }
 unfold Builtin.List.listExtendWith;have ho1:=old1 a o ho;refine w_ (Gu (T:="set") ⟨o,ho1,hx.1⟩ ?_);have h1:Builtin.List.listSameRef (.ref s.heap.objs.size) (.ref a)=false:=by simpa [Builtin.List.listSameRef] using Ej hal
 have h2:(Value.type "set" == Value.type "list")=false:=by decide
 have h3:(Value.type "set" == Value.type "tuple")=false:=by decide
 simp only[h1,h2,h3,Bool.or_false,Fy,Fa]
 refine w_ (mF (s:={ s with heap:=H1 }) ho1 hx hd hf J hz λI xs h' d pm hI old2 walks=>?_)
 refine w_ (D_ (tP ⟨o,old2 a o ho1,hx.1⟩ ?_))
 show wpAny _ A.in1 (rule "list.extend.makes-room" >>= λ_=>Builtin.List.listTouch (.ref s.heap.objs.size) >>= λ_ =>
  again (.builtin "list.extend.loop" ⟨[.ref s.heap.objs.size,.ref I,.ref s.heap.objs.size],[]⟩)) _ _ _
 refine w_ (Ge (w_ ?_));have g2:=old2 _ _ gS
 show wpAny _ A.in1 (updateSeq s.heap.objs.size (·.push .none) >>= λ_=>updateSeq s.heap.objs.size (·.pop)) _ _ _
 refine w_ (GB g2 rfl ?_);have g3:=EY (Obj.mapSeq (·.push Value.none)) g2 rfl;refine GB g3 rfl ?_;have g4:=EY (Obj.mapSeq (·.pop)) g3 rfl
 have oth:∀b ob,b≠s.heap.objs.size->h'.get? b=some ob->((h'.update s.heap.objs.size (Obj.mapSeq (·.push Value.none))).update s.heap.objs.size (Obj.mapSeq (·.pop))).get? b=some ob :=
  λb ob hb e=>(EZ _ _ (Im hb)).trans ((EZ _ _ (Im hb)).trans e)
 obtain⟨fp,St,W,st,hfp,_⟩:=walks A.in1 hh
 have hSf:s.heap.objs.size∉fp:=λhm=>by
  rcases(hfp _ hm).1 with e|e
  ·exact g_ _ (e▸hal)
  ·have e':H1.objs.size<=s.heap.objs.size:=e
   rw[sz1] at e';exact g_ _ e'
 refine u_ ⟨Gy F.plain_extend_loop _,codeAny_extend_loopS W hz _ hSf _ es.size 0 _ _ _ rfl (Et _)
  (W.frame 0 ({ s with heap:=h',drawn:=d }:Shared) _ s.toks st (Eo _) λb hb ob e=>oth b ob (λz=>hSf (z▸hb)) e) g4 (ItemsOf.nil _) λs' acc' c' hm hS' hacc=>?_⟩
 show wpAny _ A (load s.heap.objs.size >>= _) _ _ s'
 refine w_ (wpAny_load hS' (u_ ?_));have e1:s'.gens=s.gens:=hm.gens;have e2:s'.drawn=d:=hm.drawn;have e3:s'.os=s.os:=hm.os
 have es':s' = { s with heap:=s'.heap,drawn:=d,toks:=s'.toks }:=by
  obtain⟨h0,g0,d0,t0,o0⟩:=s'
  simp only at e1 e2 e3
  subst e1 e2 e3;rfl
 have exs:acc'.toList=xs:=by
  have hl:xs.length=es.size:=by simpa using pm.length_eq
  apply FK
  ·rw[A_,hacc.1,hl]
  ·intro i q1 q2
   have this:xs[i]? = some acc'[i]:=hacc.2 i acc'[i] (by simp)
   rw[Gb q2] at this
   simpa using (e_ this).symm
 have big:s.heap.objs.size<s'.heap.objs.size:=f_ hS';rw[exs,es'];refine hQ _ d _ xs pm big λb ob e=>?_;have hb:b≠s.heap.objs.size:=h_ (f_ e);refine hm.heap b ob ?_ (oth b ob hb (old2 b ob (old1 b ob e)))
 simp only[p_,FN,FO,not_or]
 refine⟨hb,λz=>?_⟩;have hI':H1.objs.size<=I:=hI;rw[sz1,<- z] at hI';exact g_ _ (ff (Gp (f_ e)) hI')
def gL {es:Array (Int×Value)}(h:ElemsOf (intKind prog w) es.toList):∃ks:List Int,IntsAre (es.toList.map (·.2)) ks/\∀k,k∈ks↔∃e∈es.toList,(intKind prog w).is k e.2=true:=by
 have go:∀l:List (Int×Value),ElemsOf (intKind prog w) l->∃ks:List Int,IntsAre (l.map (·.2)) ks/\∀k,k∈ks↔∃e∈l,(intKind prog w).is k e.2=true:=by
  intro l
  induction l with
  | nil=>intro _;exact⟨[],.nil,by simp⟩
  | cons e r ih =>
   intro h
   obtain⟨ks,h1,h2⟩:=ih h.tail;obtain⟨⟨k,hk,_⟩,_⟩:=h.head;obtain⟨tk,ek⟩:=Value.isInt_shape (k:=k) (v:=e.2) hk;refine⟨k::ks,?_,λk'=>?_⟩
   ·rw[EX,ek]
    exact .cons k tk h1
   ·rw[p_,h2 k']
    constructor
    ·rintro(rfl|⟨e',he,q⟩)
     ·exact⟨e,n_,hk⟩
     ·exact⟨e',o_ _ he,q⟩
    ·rintro⟨e',he,q⟩
     rcases p_.mp he with rfl|he
     ·exact .inl ((intKind prog w).inj e'.2 k' k q hk)
     ·exact .inr ⟨e',he,q⟩
 exact go _ h
theorem IntsAre.perm {vs us:List Value}(p:us.Perm vs):∀{ns:List Int},IntsAre vs ns->∃ms,IntsAre us ms/\ms.Perm ns:=by
 induction p with
 | nil=>intro ns h;exact⟨ns,h,FZ _⟩
 | cons x _ ih =>
  intro ns h
  cases h with
  | cons n t h=>obtain⟨ms,h1,h2⟩:=ih h;exact⟨n::ms,.cons n t h1,h2.cons n⟩
 | swap x y l =>
  intro ns h
  cases h with
  | cons n t h=>cases h with
   | cons m u h=>exact⟨_,.cons m u (.cons n t h),List.Perm.swap _ _ _⟩
 | trans _ _ ih1 ih2 =>
  intro ns h
  obtain⟨ms,h1,h2⟩:=ih2 h;obtain⟨ls,h3,h4⟩:=ih1 h1;exact⟨ls,h3,h4.trans h2⟩
def mI {A:Around}{s:Shared}{n:Nat}{Q:Value->Shared->Prop}(hh:A.handled=none)(hS:P4 (intKind prog w) s.heap a S n)(h64:n<64)
  (h:∀(l:Addr)(h':Heap) (d) (tk e:Nat) (out:Array Value) (ns:List Int),IntsAre out.toList ns->ns.Pairwise (·<=·)->(∀k,k∈ns↔S k=true)->ns.length=n->s.heap.objs.size<=l->(∀b ob,s.heap.get? b=some ob->h'.get? b=some ob) ->
   h'.get? l=some (seqObj "list" out e)->Q (.ref l) { s with heap:=h',drawn:=d,toks:=tk }):wpAny (model prog w) A (call (.builtin "sorted") [.ref a]) Q E s:=by
 obtain⟨o,es,ep,t,ho,hx,hd,⟨el,mem,hb,hf,hn⟩,J⟩:=hS;obtain⟨ks,ik,mk⟩:=gL el;refine GC kind_sorted plain_sorted entry_sorted (args_sorted1 _) ?_;unfold Builtin.«sorted»;refine w_ (m:=checkCount "sorted" 1 1 _) (u_ ?_);refine w_ (kB hh ho hx hd hf J (fits_of_scanBound hb) λh1 d tk xs pm big old=>?_);obtain⟨ms,im,pms⟩:=IntsAre.perm pm ik;have hxl:xs.length=n:=by rw[<- hn];simpa using pm.length_eq
 refine w_ (GD ?_ (by rw[hxl];exact k_ (l_ h64) (by decide)))
 have hoL:(h1.push (seqObj "list" xs.toArray 0)).get? h1.objs.size=some (seqObj "list" xs.toArray 0):=En _ rfl
 show wpAny _ _ _ _ _ { s with heap:=h1.push (seqObj "list" xs.toArray 0),drawn:=d,toks:=tk }
 refine w_ (D_ (Gk slot_list_sort ⟨_,hoL,Iu⟩ entry_list_sort (list_sort_tree hoL im (by lia) λout ns a1 a2 a3=>⟨_,Iu,?_⟩) (args_list_sort _)))
 obtain⟨e,he⟩:=sortedHeap_at (out:=out) hoL;refine u_ ⟨_,Iu,h h1.objs.size _ d tk e out ns a1 a3 (λk=>?_) ?_ ?_ (λb ob q=>?_) he⟩
 ·rw[a2.mem_iff,pms.mem_iff,mk k,mem k]
 ·rw[a2.length_eq,pms.length_eq,<- ik.length,EV,A_,hn]
 ·exact l_ big
 ·have q1:=old b ob q
  have hlt:=f_ q1;rw[sortedHeap_old (h_ hlt) (by rw[FB];exact Gp hlt)]
  exact Em _ q1
end
section
variable {n:Nat}{St:Nat->Shared->Prop}
abbrev Y4 (prog:Program)(w:World)(val:Nat->Int)(i:Nat)(h:Heap)(S:Addr):Prop:=P4 (intKind prog w) h S (λk=>(firstMet val i).any (· == k)) (firstMet val i).length
theorem kN {prog:Program}{w:World}{A:Around}{R:Result->Shared->Prop}{I:Addr}{fp wr:List Addr}{G:Array GenState->Array GenState->Prop}{P:Nat->Value->Prop}(W:WalksS prog w A.in1 I fp wr G n P St)(S:Addr)(hSf:S∉fp)(val:Nat->Int)(hval:∀i v,P i v->∃t,v=.int (val i) t)(hb:n+1<scanBound) :
  ∀(k i:Nat)(s:Shared),n-i=k->i<=n->St i s->Y4 prog w val i s.heap S->(∀s',Moved (S::wr) G s s'->Y4 prog w val n s'.heap S->R (.ok (.ret .none)) s') ->
   codeAny (model prog w) A (.builtin "set.update.loop" ⟨[.ref S,.ref I],[]⟩) R s:=by
 have hSw:S∉wr:=λz=>hSf (W.sub _ z);have sub:∀b∈wr,b∈S::wr:=λb q=>o_ _ q
 intro k
 induction k with
 | zero =>
  intro i s hk hi st x fin
  obtain rfl:i=n:=by lia
  refine Gw GE ?_;rw[Gx GF _]
  show wpAny _ A.in1 (pyNext (.ref I) >>= _) _ _ s
  refine w_ (W.done s _ _ st λs' m=>?_)
  show wpAny _ A.in1 (ret Value.none) _ _ s'
  exact u_ (fin s' (m.mono sub) (x.of_get λo e=>m.heap S _ hSw e))
 | succ k ih =>
  intro i s hk hi st x fin
  have lt:i<n:=by lia
  refine Gw GE ?_;rw[Gx GF _]
  show wpAny _ A.in1 (pyNext (.ref I) >>= _) _ _ s
  refine w_ (W.item i s _ _ lt st λv s' pv st' m=>?_);obtain⟨t,rfl⟩:=hval i v pv;have x':Y4 prog w val i s'.heap S:=x.of_get λo e=>m.heap S _ hSw e
  show wpAny _ A.in1 (holding [Value.int (val i) t] (setAdd S (.int (val i) t)) >>= _) _ _ s'
  refine w_ (D_ ?_);unfold setAdd;refine D_ (w_ ((intKind prog w).pyHash (k:=val i) (intKind_is _ _ _ _) ?_));have room:(firstMet val i).length+1<scanBound:=by have:=firstMet_length_le val i;lia
  refine zn (knd:=intKind prog w) (s:={ s' with toks:=s'.toks+1 }) (intKind_is _ _ _ _) rfl x' room λh' sb x2=>?_
  have x3:Y4 prog w val (i+1) h' S:=x2.congr (λk'=>by rw[firstMet_succ,step_any]) (by rw[firstMet_succ,step_length])
  refine u_ ⟨Gy GF _,ih (i+1) _ (by lia) lt (W.frame _ s' _ _ st' (FE _) λb hb o e=>?_) x3 λs'' m2 x4=>?_⟩
  ·rw[sb.2 b (λz:b=S=>hSf (z▸hb))];exact e
  ·refine fin s'' (Moved.trans W.gtrans ((m.mono sub).then_heap (FE _) λb o hb e=>?_) m2) x4
   rw[sb.2 b (λz:b=S=>hb (z▸n_))];exact e
end
abbrev D0 (w:World):Obj:={ cls:=.type "set",dict:=none,data:=.set #[] 0 (.fresh 0 0 (!w.params.followText "set-order")) }
def Z1 {s:Shared}(a:Value){Q:Value->Shared->Prop}(h:Q (.ref s.heap.objs.size) { s with heap:=s.heap.push (D0 w) }) :
  codeAny (model prog w) A (.call (.builtin "set.__new__") ⟨[.type "set",a],[]⟩) (wants Q E) s:=by
 refine GG ?_
 show wpAny _ A.in1 (do checkBuiltinCall "set.__new__" ⟨[.type "set",a],[]⟩;again (.builtin "set.__new__" ⟨[.type "set",a],[]⟩)) _ _ s
 refine w_ (wpAny_of_eq (PySem.F.newCall_set_1 a) (u_ ⟨Gy PySem.F.plain_set_new _,Gw PySem.F.entry_set_new ?_⟩));rw[Gx PySem.F.plain_set_new _];unfold Builtin.«set.__new__» Builtin.Frozenset.newClass;have hsub:=sub_set_self;obtain⟨hp,g,d,tk,os⟩:=s
 dsimp only
 wp_walk
 refine wpAny_askSetting (u_ ?_)
 dsimp only
 simp only[newObj]
 exact w_ (wpAny_alloc (u_ (u_ h)))
theorem mB {prog:Program}{w:World}{A:Around}{E:Value->Shared->Prop}{s:Shared}{l:Addr}{items:Array Value}{ns:List Int}{Q:Value->Shared->Prop}(hh:A.handled=none)(hl:s.heap.IsList l items)(hi:IntsAre items.toList ns)(hb:items.size+1<scanBound)
  (h:∀(h':Heap)(tk:Nat),Y4 prog w (λi=>ns.getD i 0) items.size h' s.heap.objs.size->(∀b o,b<s.heap.objs.size->s.heap.get? b=some o->h'.get? b=some o)->Q (.ref s.heap.objs.size) { s with heap:=h',toks:=tk }) :
  wpAny (model prog w) A (call (.type "set") [.ref l]) Q E s:=by
 obtain⟨c,tl,hmro⟩:=PySem.F.called_set.mro;have hmade:=PySem.F.called_set.made;have hsub:=PySem.F.called_set.sub;refine EI (GG ?_)
 show wpAny _ _ (callAny (.type "set") _) _ _ _
 refine u_ ⟨GH _ (by decide +kernel),Gw GI ?_⟩
 rw[Around.under_plain (GJ "set" [.ref l] []) rfl];have h1:=PySem.F.called_set.notType;have h2:=PySem.F.called_set.canCreate;have hct:=GK (.ref l)
 repeat (any_goals (first|assumption|wp_step))
 refine EJ (Z1 (.ref l) (E:=E) (Q:=λobj s₁=>obj=.ref s.heap.objs.size/\s₁ = { s with heap:=s.heap.push (D0 w) }) ⟨Iu,Iu⟩) λr s₁ hr=>?_
 cases r with
 | error e=>exact hr
 | ok fl =>
  cases fl with
  | ret obj =>
   obtain⟨rfl,rfl⟩:=hr;have hS:(s.heap.push (D0 w)).get? s.heap.objs.size=some (D0 w):=En _ rfl;have hT:Shared.TypeIs { s with heap:=s.heap.push (D0 w) } (.ref s.heap.objs.size) "set":=⟨_,hS,Iu⟩
   have hli:=PySem.F.called_set.init.lookup;have hbi:=PySem.F.called_set.init.bind (.ref s.heap.objs.size)
   repeat (any_goals (first|assumption|wp_step))
   refine EJ (GL (R:=wants (λr s₂=>r=.none/\∃h' tk,s₂ = { s with heap:=h',toks:=tk }/\Y4 prog w (λi=>ns.getD i 0) items.size h' s.heap.objs.size /\
     (∀b o,b<s.heap.objs.size->s.heap.get? b=some o->h'.get? b=some o)) E) PySem.F.called_set.init.plain GM (check_set_init_1 hT ?_)) λr₂ s₂ hr₂=>?_
   ·obtain⟨ol,hol,hcl,nl,hdl⟩:=id hl
    have hol':(s.heap.push (D0 w)).get? l=some ol:=Em _ hol;have hTl:Shared.TypeIs { s with heap:=s.heap.push (D0 w) } (.ref l) "list":=⟨ol,hol',hcl⟩
    have hsls:=PySem.F.sub_list_set;have hslf:=PySem.F.sub_list_frozenset;have hne:(Value.type "list" == Value.type "dict")=false:=by decide
    have hl1:(s.heap.push (D0 w)).IsList l items:=⟨_,hol',hcl,nl,hdl⟩;unfold Builtin.«set.__init__» noKeywords Builtin.Frozenset.updateFrom;generalize hPI:pyIter=PI
    wp_walk
    subst hPI;refine El hl1 (w_ (Gv ?_));have hlS:l<s.heap.objs.size:=f_ hol;have hneI:l≠(s.heap.push (D0 w)).objs.size:=by rw[FB];exact h_ (Gp hlS)
    have hSf:s.heap.objs.size∉[(s.heap.push (D0 w)).objs.size,l]:=by
     rw[FB]
     simp only[p_,FN,FO,not_or]
     exact⟨h_ (FD _),Ej hlS⟩
    refine kN ((FI (by simpa using hh) _ l hneI items).toS) s.heap.objs.size hSf (λi=>ns.getD i 0) (λi v hv=>PyProof.Rows.IntsAre.int_at hi i v (by rw[Gr];exact hv)) hb (items.size-0) 0 _ (by lia) (Et _)
     ⟨⟨_,En _ rfl,Iu,Iu⟩,(hl1.push _)⟩ ?hS0 ?hR
    case hS0 =>
     exact((P4.new (knd:=intKind prog w) s.heap rfl).congr (λ_=>rfl) rfl).of_get λo e=>Em _ e
    case hR =>
     intro s' m x
     obtain⟨h',g',d',tk',os'⟩:=s';have eg:g'=s.gens:=m.gens;have ed:d'=s.drawn:=m.drawn;have eo:os'=s.os:=m.os;subst eg ed eo
     show wpAny _ _ _ _ _ _
     refine u_ ?_
     show wpAny _ _ (ret Value.none) _ _ _
     refine u_ ⟨Iu,h',tk',Iu,x,λb o q e=>?_⟩;refine m.heap b o ?_ (Em _ (Em _ e))
     simp only[p_,FN,FO,not_or]
     refine⟨h_ q,?_⟩;rw[FB];exact h_ (Gp q)
   ·cases r₂ with
    | error e=>exact hr₂
    | ok fl₂ =>
     cases fl₂ with
     | ret r =>
      obtain⟨rfl,h',tk,rfl,x,kp⟩:=hr₂
      repeat (any_goals (first|assumption|wp_step))
      exact h _ _ x kp
     | _=>exact hr₂.elim
  | _=>exact hr.elim
end L2
namespace L2
open PySem PySem.W PyProof.Rows
def ev {α:Type}(lt:Nat->Nat->Bool):KasT α->α
 | .ret a=>a
 | .ask i j k=>ev lt (k (lt i j))
theorem ao {α β:Type}(lt:Nat->Nat->Bool)(f:α->KasT β):∀t:KasT α,ev lt (t.bind f)=ev lt (f (ev lt t))
 | .ret _=>rfl
 | .ask i j k=>ao lt f (k (lt i j))
section
abbrev ltR (r:Nat->Int):Nat->Nat->Bool:=λi j=>decide (r i<r j)
abbrev ky (r:Nat->Int)(p:Array Nat)(k:Nat):Int:=r (p.getD k 0)
def bd {α:Type}(lt:Nat->Nat->Bool)(i j:Nat)(k:Bool->KasT α):ev lt (.ask i j k)=ev lt (k (lt i j)):=rfl
def lS {r:Nat->Int}{i j:Nat}(c:r i<r j):ltR r i j=true:=Fm c
def lT {r:Nat->Int}{i j:Nat}(c:¬r i<r j):ltR r i j=false:=b_ c
def Up (r:Nat->Int)(p:Array Nat)(b:Nat):Prop:=∀i,0<i->i<b->ky r p (i-1)<=ky r p i
def Dn (r:Nat->Int)(p:Array Nat)(b:Nat):Prop:=∀i,0<i->i<b->ky r p i<=ky r p (i-1)
def Eqs (r:Nat->Int)(p:Array Nat)(a b:Nat):Prop:=∀i,a<i->i<b->ky r p i=ky r p (i-1)
theorem Up.mono {b:Nat}(h:Up r p b):∀i j,i<=j->j<b->ky r p i<=ky r p j:=by
  intro i j hij hj
  induction j with
  | zero =>
    have:i=0:=by lia
    subst this;exact GN _
  | succ j ih =>
    rcases FQ hij with q|q
    . exact Int.le_trans (ih (by lia) (by lia)) (h (j+1) (by lia) hj)
    . rw[q];exact GN _
theorem Dn.mono {b:Nat}(h:Dn r p b):∀i j,i<=j->j<b->ky r p j<=ky r p i:=by
  intro i j hij hj
  induction j with
  | zero =>
    have:i=0:=by lia
    subst this;exact GN _
  | succ j ih =>
    rcases FQ hij with q|q
    . exact Int.le_trans (h (j+1) (by lia) hj) (ih (by lia) (by lia))
    . rw[q];exact GN _
theorem Eqs.all {a b:Nat}(h:Eqs r p a b):∀i,a<=i->i<b->ky r p i=ky r p a:=by
  intro i hi hb
  induction i with
  | zero =>
    have:a=0:=by lia
    subst this;rfl
  | succ i ih =>
    rcases FQ hi with q|q
    . rw[h (i+1) q hb];exact ih (by lia) (by lia)
    . rw[q]
def eE {p:Array Nat}{i j:Nat}(hj:j<=p.size)(k:Nat):(kas_rev p i j).getD k 0=if i<=k/\k<j then p.getD (i+j-1-k) 0 else p.getD k 0:=by
 have e:=getElem?_mirror_all (i:=i) hj k
 unfold kas_rev;rw[FT,e]
 by_cases c:i<=k/\k<j
 ·rw[Ik c,Ik c,FT]
 ·rw[Il c,Il c,FT]
def jq {p:Array Nat}{i j:Nat}(hj:j<=p.size)(h:Eqs r p i j)(k:Nat):ky r (kas_rev p i j) k=ky r p k:=by
 show r _=r _
 rw[eE hj]
 by_cases c:i<=k/\k<j
 ·rw[Ik c]
  have e1:ky r p (i+j-1-k)=ky r p i:=h.all _ (by lia) (by lia)
  have e2:ky r p k=ky r p i:=h.all _ c.1 c.2;exact e1.trans e2.symm
 ·rw[Il c]
def U6 (p:Array Nat)(i j:Nat):(kas_rev p i j).size=p.size:=mirror_size _ _ _ _
def O2 (p:Array Nat)(i j:Nat):(kas_rev p i j).Perm p:=mirror_perm _ _ _ _
theorem tF (p:Array Nat):∀f n,1<=n->Up r p n->n<=ev (ltR r) (kas_asc p f n)/\ev (ltR r) (kas_asc p f n)<=n+f/\Up r p (ev (ltR r) (kas_asc p f n)) /\
  (ev (ltR r) (kas_asc p f n)<n+f->ky r p (ev (ltR r) (kas_asc p f n))<ky r p (ev (ltR r) (kas_asc p f n)-1)):=by
 intro f
 induction f with
 | zero=>intro n h1 h;exact⟨Eo _,Eo _,h,λq=>absurd q (g_ _)⟩
 | succ f ih =>
  intro n h1 h
  unfold kas_asc;rw[bd]
  by_cases c:r (p.getD n 0)<r (p.getD (n-1) 0)
  ·rw[lS c,Ik rfl]
   exact⟨Eo _,by show n<=n+(f+1);lia,h,λ_=>c⟩
  ·rw[lT c,Il (by simp)]
   obtain⟨q1,q2,q3,q4⟩:=ih (n+1) (by lia) (λi hi hb=>by
    rcases FQ (GO hb) with z|z
    ·exact h i hi z
    ·subst z;exact Int.not_lt.mp c)
   exact⟨by lia,by lia,q3,λz=>q4 (by lia)⟩
theorem vZ:∀(f:Nat)(p:Array Nat)(n q:Nat),q<n->n+f<=p.size->Dn r p n->Eqs r p (n-(q+1)) n ->
  ∃p' n' q',ev (ltR r) (kas_desc f p n q)=(p',n',q')/\q'<n'/\n<=n'/\n'<=n+f/\p'.size=p.size/\p'.Perm p/\Dn r p' n'/\Eqs r p' (n'-(q'+1)) n':=by
 intro f
 induction f with
 | zero=>intro p n q hq hz hd he;exact⟨p,n,q,Iu,hq,Eo _,Eo _,Iu,GP _,hd,he⟩
 | succ f ih =>
  intro p n q hq hz hd he
  unfold kas_desc;rw[bd]
  by_cases c:r (p.getD n 0)<r (p.getD (n-1) 0)
  ·rw[lS c,Ik rfl]
   have step:∀p1:Array Nat,p1.size=p.size->p1.Perm p->(∀k,ky r p1 k=ky r p k)->∃p' n' q',ev (ltR r) (kas_desc f p1 (n+1) 0)=(p',n',q')/\q'<n'/\n<=n'/\n'<=n+(f+1)/\p'.size=p.size/\p'.Perm p/\Dn r p' n'/\Eqs r p' (n'-(q'+1)) n':=λp1 s1 pm hk=>by
    obtain⟨p',n',q',e,a1,a2,a3,a4,a5,a6,a7⟩:=ih p1 (n+1) 0 (by lia) (by lia) (λi hi hb=>by
     rw[hk,hk]
     rcases FQ (GO hb) with z|z
     ·exact hd i hi z
     ·subst z;exact Int.le_of_lt c) (λi hi hb=>by lia)
    exact⟨p',n',q',e,a1,by lia,by lia,a4.trans s1,a5.trans pm,a6,a7⟩
   by_cases cq:q > 0
   ·rw[Ik cq]
    exact step _ (U6 _ _ _) (O2 _ _ _) (jq (by lia) he)
   ·rw[Il cq]
    exact step p rfl (GP _) λ_=>rfl
  ·rw[lT c,Il (by simp)]
   rw[bd]
   by_cases d:r (p.getD (n-1) 0)<r (p.getD n 0)
   ·rw[lS d,Ik rfl]
    exact⟨p,n,q,Iu,hq,Eo _,by lia,Iu,GP _,hd,he⟩
   ·rw[lT d,Il (by simp)]
    have eqn:ky r p n=ky r p (n-1):=Int.le_antisymm (Int.not_lt.mp d) (Int.not_lt.mp c)
    obtain⟨p',n',q',e,a1,a2,a3,a4,a5,a6,a7⟩:=ih p (n+1) (q+1) (by lia) (by lia) (λi hi hb=>by
     rcases FQ (GO hb) with z|z
     ·exact hd i hi z
     ·subst z;exact Int.le_of_eq eqn) (λi hi hb=>by
     rcases FQ (GO hb) with z|z
     ·exact he i (by lia) z
     ·subst z;exact eqn)
    exact⟨p',n',q',e,a1,by lia,by lia,a4,a5,a6,a7⟩
def Run (r:Nat->Int)(p:Array Nat)(nrem:Nat)(x:Nat×Array Nat):Prop:=x.1<=nrem/\1<=x.1/\x.2.size=p.size/\x.2.Perm p/\Up r x.2 x.1
def lF {p:Array Nat}{n nrem:Nat}(h1:1<=n)(hn:n<=nrem)(hz:nrem<=p.size)(hd:Dn r p n):Run r p nrem (ev (ltR r) (kas_tail3 n nrem p)):=by
 unfold kas_tail3;rw[ao]
 have z:=Nat.le_trans hn hz
 have hu:Up r (kas_rev p 0 n) n:=λi hi hb=>by
  show r _<=r _
  rw[eE z,eE z,Ik ⟨Nat.zero_le _,Nat.lt_of_le_of_lt (Nat.sub_le ..) hb⟩,Ik ⟨Nat.zero_le _,hb⟩]
  exact hd.mono _ _ (Nat.sub_le_sub_left (Nat.sub_le ..) _) (by clear hd z hn hz hi hb;lia)
 obtain⟨a1,a2,a3,_⟩:=tF (kas_rev p 0 n) (nrem-n) n h1 hu;exact⟨Nat.le_trans a2 (Nat.le_of_eq (Nat.add_sub_of_le hn)),Nat.le_trans h1 a1,U6 _ _ _,O2 _ _ _,a3⟩
theorem Run.of {p p1:Array Nat}{nrem:Nat}(h:Run r p1 nrem x)(s:p1.size=p.size)(m:p1.Perm p):Run r p nrem x:=⟨h.1,h.2.1,h.2.2.1.trans s,h.2.2.2.1.trans m,h.2.2.2.2⟩
def cW {p:Array Nat}{n nrem:Nat}(hn:n+1<=nrem)(hz:nrem<=p.size)(hd:Dn r p (n+1)):Run r p nrem (ev (ltR r) (kas_descPart n nrem p)):=by
 unfold kas_descPart;rw[ao];obtain⟨p',n',q',e,a1,a2,a3,a4,a5,a6,a7⟩:=vZ (nrem-(n+1)) p (n+1) 0 (by lia) (by lia) hd (λi hi hb=>by lia)
 rw[e]
 dsimp only
 by_cases c:q' > 0
 ·rw[Ik c]
  have k:=jq (r:=r) (by lia) a7
  exact(lF (p:=kas_rev p' (n'-(q'+1)) n') (by lia) (by lia) (by rw[U6];lia) (λi hi hb=>by rw[k,k];exact a6 i hi hb)).of ((U6 _ _ _).trans a4) ((O2 _ _ _).trans a5)
 ·rw[Il c]
  exact(lF (p:=p') (by lia) (by lia) (by lia) a6).of a4 a5
def lE {p:Array Nat}{nrem:Nat}(h1:1<=nrem)(hz:nrem<=p.size):Run r p nrem (ev (ltR r) (kas_count nrem p)):=by
 unfold kas_count;rw[ao];obtain⟨a1,a2,a3,a4⟩:=tF (r:=r) p (nrem-1) 1 (Eo _) (λi hi hb=>absurd hb (Nat.not_lt.mpr hi))
 rw[Nat.add_sub_of_le h1] at a2 a4
 generalize ev (ltR r) (kas_asc p (nrem-1) 1)=n at *
 by_cases c:(n==nrem)=true
 ·rw[Ik c]
  exact⟨a2,a1,Iu,GP _,a3⟩
 ·rw[Il c]
  have hn:=Nat.lt_of_le_of_ne a2 (by simpa using c)
  have stop:=a4 hn
  by_cases c2:n > 1
  ·rw[Ik c2]
   rw[bd]
   by_cases d:r (p.getD 0 0)<r (p.getD (n-1) 0)
   ·rw[lS d,Ik rfl]
    exact⟨a2,a1,Iu,GP _,a3⟩
   ·rw[lT d,Il Bool.false_ne_true]
    have eqs:Eqs r p 0 n:=λi hi hb=>by
     have b:=Nat.lt_of_le_of_lt (Nat.sub_le i 1) hb
     exact Int.le_antisymm (Int.le_trans (a3.mono i (n-1) (Nat.le_sub_one_of_lt hb) (Nat.sub_lt a1 Nat.one_pos)) (Int.le_trans (Int.not_lt.mp d) (a3.mono 0 (i-1) (Nat.zero_le _) b))) (a3.mono (i-1) i (Nat.sub_le ..) hb)
    have k:=jq (r:=r) (Nat.le_trans a2 hz) eqs
    refine(cW (p:=kas_rev p 0 n) hn (by rw[U6];exact hz) (λi hi hb=>?_)).of (U6 _ _ _) (O2 _ _ _)
    rw[k,k]
    rcases FQ (GO hb) with z|z
    ·exact Int.le_of_eq (eqs i hi z)
    ·subst z;exact Int.le_of_lt stop
  ·rw[Il c2]
   obtain rfl:=Nat.le_antisymm (Nat.not_lt.mp c2) a1
   exact cW hn hz (λi hi hb=>by
    obtain rfl:=Nat.le_antisymm (Nat.le_of_lt_succ hb) hi
    exact Int.le_of_lt stop)
theorem tQ {p:Array Nat}{k:Nat}(hu:Up r p k):∀f l m,m-l<=f->l<=m->m<=k->(∀i,i<l->ky r p i<=ky r p k)->(∀i,m<=i->i<k->ky r p k<ky r p i) ->
  ev (ltR r) (kas_place p k f l m)<=k/\(∀i,i<ev (ltR r) (kas_place p k f l m)->ky r p i<=ky r p k)/\∀i,ev (ltR r) (kas_place p k f l m)<=i->i<k->ky r p k<ky r p i:=by
 intro f
 induction f with
 | zero =>
  intro l m h1 h2 h3 h4 h5
  obtain rfl:=Nat.le_antisymm h2 (Nat.le_of_sub_eq_zero (Nat.le_zero.mp h1))
  exact⟨h3,h4,h5⟩
 | succ f ih =>
  intro l m h1 h2 h3 h4 h5
  unfold kas_place
  by_cases c:l ≥ m
  ·rw[Ik c]
   obtain rfl:=Nat.le_antisymm h2 c
   exact⟨h3,h4,h5⟩
  ·rw[Il c]
   rw[bd]
   have m1:l<=(l+m)/2:=by clear h1 c;lia
   have m2:(l+m)/2<m:=by clear h1 m1 h2;lia
   generalize (l+m)/2=n at m1 m2
   by_cases d:r (p.getD k 0)<r (p.getD n 0)
   ·rw[lS d,Ik rfl]
    exact ih l n (by lia) m1 (Nat.le_trans (Nat.le_of_lt m2) h3) h4 λi hi hb=>Int.lt_of_lt_of_le d (hu.mono _ i hi hb)
   ·rw[lT d,Il Bool.false_ne_true]
    exact ih (n+1) m (by lia) m2 h3 (λi hi=>Int.le_trans (hu.mono i n (Nat.le_of_lt_succ hi) (Nat.lt_of_lt_of_le m2 h3)) (Int.not_lt.mp d)) h5
def cY {p:Array Nat}{k l:Nat}(hk:k<p.size)(hl:l<=k)(i:Nat):(bubble p k (k-l)).getD i 0=if i=l then p.getD k 0 else if l<i/\i<=k then p.getD (i-1) 0 else p.getD i 0:=by
 have e:=getElem?_bubble hk (k-l) (by lia) i
 rw[show k-(k-l)=l by lia] at e
 rw[FT,e]
 by_cases c1:i=l
 ·rw[Ik c1,Ik c1,FT]
 ·rw[Il c1,Il c1]
  by_cases c2:l<i/\i<=k
  ·rw[Ik c2,Ik c2,FT]
  ·rw[Il c2,Il c2,FT]
theorem wI:∀(f:Nat)(p:Array Nat)(k:Nat),k+f<=p.size->Up r p k->(ev (ltR r) (kas_bin f p k)).Perm p/\Up r (ev (ltR r) (kas_bin f p k)) (k+f):=by
 intro f
 induction f with
 | zero=>intro p k hz hu;exact⟨GP _,hu⟩
 | succ f ih =>
  intro p k hz hu
  unfold kas_bin;rw[ao];obtain⟨b1,b2,b3⟩:=tQ hu k 0 k (by lia) (by lia) (Eo _) (λi hi=>absurd hi (by lia)) (λi hi hb=>absurd hb (by lia))
  generalize ev (ltR r) (kas_place p k k 0 k)=l at *;have hk:k<p.size:=by lia
  obtain⟨c1,c2⟩:=ih (bubble p k (k-l)) (k+1) (by rw[bubble_size];lia) (λi hi hb=>by
   show r _<=r _
   rw[cY hk b1,cY hk b1]
   by_cases e1:i-1=l
   ·rw[Ik e1,Il (show ¬i=l by lia),Ik (by lia)]
    have:=b3 (i-1) (by lia) (by lia)
    exact Int.le_of_lt this
   ·rw[Il e1]
    by_cases e2:i=l
    ·rw[Ik e2,Il (by lia)]
     exact b2 (i-1) (by lia)
    ·rw[Il e2]
     by_cases e3:l<i
     ·rw[Ik (by lia),Ik (by lia)]
      exact hu (i-1) (by lia) (by lia)
     ·rw[Il (by lia),Il (by lia)]
      exact hu i hi (by lia))
  exact⟨c1.trans (bubble_perm _ _ _),by rw[show k+(f+1)=k+1+f by lia];exact c2⟩
def vW {n:Nat}(hn:1<=n):(ev (ltR r) (kas_sort n)).Perm (List.range n).toArray/\Up r (ev (ltR r) (kas_sort n)) n:=by
 unfold kas_sort;rw[ao];obtain⟨h1,h2,h3,h4,h5⟩:=lE (r:=r) (p:=(List.range n).toArray) (nrem:=n) hn (by simp)
 generalize ev (ltR r) (kas_count n (List.range n).toArray)=x at *;have hs:x.2.size=n:=by rw[h3];simp
 by_cases c:x.1<n
 ·rw[Ik c]
  have hm:max x.1 1=x.1:=by lia
  rw[hm];obtain⟨c1,c2⟩:=wI (r:=r) (n-x.1) x.2 x.1 (by lia) h5
  rw[show x.1+(n-x.1)=n by lia] at c2
  exact⟨c1.trans h4,c2⟩
 ·rw[Il c]
  have:x.1=n:=by lia
  rw[this] at h5;exact⟨h4,h5⟩
def aR {α:Type}(lt:Nat->Nat->Bool)(n:Nat):KasT α->Prop
 | .ret _=>True
 | .ask i j k=>i<n/\j<n/\aR lt n (k (lt i j))
theorem aR.bind {α β:Type}{lt:Nat->Nat->Bool}{n:Nat}{f:α->KasT β}:∀{t:KasT α},aR lt n t->aR lt n (f (ev lt t))->aR lt n (t.bind f)
 | .ret _,_,h=>h
 | .ask i j k,h,h'=>⟨h.1,h.2.1,aR.bind (t:=k (lt i j)) h.2.2 h'⟩
def InN (n:Nat)(p:Array Nat):Prop:=0<n/\∀x∈p.toList,x<n
theorem InN.at {n:Nat}(h:InN n p)(k:Nat):p.getD k 0<n:=by
 rw[FT]
 cases e:p[k]? with
 | none=>exact h.1
 | some x=>exact h.2 x (by rw[EB];exact Array.mem_of_getElem? e)
theorem InN.perm {n:Nat}{p p':Array Nat}(h:InN n p)(m:p'.Perm p):InN n p':=⟨h.1,λx hx=>h.2 x (by
 rw[EB] at hx ⊢
 exact(GQ m).mp hx)⟩
variable {n₀:Nat}
theorem eW (h:InN n₀ p):∀f n,aR (ltR r) n₀ (kas_asc p f n)
 | 0,_=>ED
 | f+1,n=>by
  unfold kas_asc;refine⟨h.at _,h.at _,?_⟩
  dsimp only
  split
  ·exact ED
  ·exact eW h f (n+1)
theorem am:∀(f:Nat){p:Array Nat}(n q:Nat),InN n₀ p->aR (ltR r) n₀ (kas_desc f p n q)
 | 0,_,_,_,_=>ED
 | f+1,p,n,q,h=>by
  unfold kas_desc;refine⟨h.at _,h.at _,?_⟩
  dsimp only
  split
  ·split
   ·exact am f _ _ (h.perm (O2 _ _ _))
   ·exact am f _ _ h
  ·refine⟨h.at _,h.at _,?_⟩
   dsimp only
   split
   ·exact ED
   ·exact am f _ _ h
theorem ar:∀(f:Nat)(p:Array Nat)(n q:Nat),(ev (ltR r) (kas_desc f p n q)).1.Perm p
 | 0,p,_,_=>GP _
 | f+1,p,n,q=>by
  unfold kas_desc;rw[bd]
  split
  ·split
   ·exact(ar f _ _ _).trans (O2 _ _ _)
   ·exact ar f _ _ _
  ·rw[bd]
   split
   ·exact GP _
   ·exact ar f _ _ _
def fT (n nrem:Nat)(h:InN n₀ p):aR (ltR r) n₀ (kas_tail3 n nrem p):=(eW (h.perm (O2 _ _ _)) _ _).bind ED
def aP (n nrem:Nat)(h:InN n₀ p):aR (ltR r) n₀ (kas_descPart n nrem p):=by
 refine(am _ _ _ h).bind ?_;have pm:=ar (r:=r) (nrem-(n+1)) p (n+1) 0
 split
 ·exact fT _ _ ((h.perm pm).perm (O2 _ _ _))
 ·exact fT _ _ (h.perm pm)
def oJ (nrem:Nat)(h:InN n₀ p):aR (ltR r) n₀ (kas_count nrem p):=by
 refine(eW h _ _).bind ?_
 split
 ·exact ED
 ·split
  ·refine⟨h.at _,h.at _,?_⟩
   dsimp only
   split
   ·exact ED
   ·exact aP _ _ (h.perm (O2 _ _ _))
  ·exact aP _ _ h
theorem aW {k:Nat}(h:InN n₀ p):∀f l m,aR (ltR r) n₀ (kas_place p k f l m)
 | 0,_,_=>ED
 | f+1,l,m=>by
  unfold kas_place
  split
  ·exact ED
  ·refine⟨h.at _,h.at _,?_⟩
   dsimp only
   split
   ·exact aW h f _ _
   ·exact aW h f _ _
theorem jN:∀(f:Nat){p:Array Nat}(k:Nat),InN n₀ p->aR (ltR r) n₀ (kas_bin f p k)
 | 0,_,_,_=>ED
 | f+1,p,k,h=>(aW h _ _ _).bind (jN f _ (h.perm (bubble_perm _ _ _)))
def rT {n:Nat}(hn:1<=n):aR (ltR r) n (kas_sort n):=by
 have h:InN n (List.range n).toArray:=⟨hn,λx hx=>by simpa using hx⟩
 refine(oJ n h).bind ?_;obtain⟨h1,h2,h3,h4,h5⟩:=lE (r:=r) (p:=(List.range n).toArray) (nrem:=n) hn (by simp)
 split
 ·exact jN _ _ (h.perm h4)
 ·exact ED
theorem wz {cmp:Nat->Nat->(Bool->Shared->Prop)->Shared->Prop}{J:Shared->Prop}{n:Nat}{lt:Nat->Nat->Bool}{α:Type}(hc:∀i j C s,i<n->j<n->J s->(∀s',J s'->C (lt i j) s')->cmp i j C s) :
  ∀(t:KasT α)(s:Shared)(Q:α->Shared->Prop),aR lt n t->J s->(∀s',J s'->Q (ev lt t) s')->t.kasWp cmp Q s
 | .ret a,s,Q,_,hJ,h=>h s hJ
 | .ask i j k,s,Q,ha,hJ,h=>hc i j _ s ha.1 ha.2.1 hJ λs' hJ'=>wz hc (k (lt i j)) s' Q ha.2.2 hJ' h
def kE {α:Type}{xs:List α}{p:Array Nat}(hp:p.Perm (List.range xs.length).toArray)(hu:Up r p xs.length)(d:α)(key:α->Int)(hk:∀i,i<xs.length->r i=key (xs.getD i d)) :
  (p.toList.map λi=>xs.getD i d).Perm xs/\(p.toList.map λi=>xs.getD i d).Pairwise (λa b=>key a<=key b):=by
 have hpl:p.toList.Perm (List.range xs.length):=by simpa using Array.perm_iff_toList_perm.mp hp
 have hlen:p.toList.length=xs.length:=by simpa using hpl.length_eq
 constructor
 ·refine(hpl.map _).trans ?_
  have:(List.range xs.length).map (λi=>xs.getD i d)=xs:=by
   apply FK
   ·simp
   ·intro i h1 h2
    simp[List.getD,h2]
  rw[this]
 ·rw[FR]
  intro i j hi hj hij
  rw[EV] at hi hj;rw[getElem_map,getElem_map]
  have m:∀k (hk:k<p.toList.length),p.toList[k]<xs.length:=λk hk=>by
   have:=hpl.mem_iff.mp (getElem_mem hk)
   simpa using this
  rw[<- hk _ (m i hi),<- hk _ (m j hj)];have q:=hu.mono i j (by lia) (by lia)
  have e:∀k (hk:k<p.toList.length),p.getD k 0=p.toList[k]:=λk hk=>by
   have hk':k<p.size:=by simpa using hk
   simp[Array.getD,hk']
  rw[ky,ky,e i hi,e j hj] at q;exact q
end
end L2
namespace L2
open PySem PySem.Spec PyProof.Rows
def cH (x:Int):List Int->List Int
 | []=>[x]
 | y::r=>if x<y then x::y::r else if x=y then y::r else y::cH x r
def A6 (ns:List Int):List Int:=ns.foldr cH []
theorem fF (x k:Int):∀l:List Int,k∈cH x l↔k=x\/k∈l
 | []=>by simp[cH]
 | y::r=>by
  unfold cH
  split
  ·simp
  ·split
   ·rename_i h;subst h;simp
   ·rw[p_,fF x k r,p_]
    constructor
    ·rintro(h|h|h)
     ·exact .inr (.inl h)
     ·exact .inl h
     ·exact .inr (.inr h)
    ·rintro(h|h|h)
     ·exact .inr (.inl h)
     ·exact .inl h
     ·exact .inr (.inr h)
theorem ii (x:Int):∀l:List Int,l.Pairwise (· < ·)->(cH x l).Pairwise (· < ·)
 | [],_=>by simp[cH]
 | y::r,h=>by
  rw[FX] at h;unfold cH
  split
  ·rename_i hlt
   rw[FX,FX];refine⟨λa ha=>?_,h⟩
   rcases p_.mp ha with rfl|ha
   ·exact hlt
   ·exact Int.lt_trans hlt (h.1 a ha)
  ·split
   ·rw[FX];exact h
   ·rename_i h1 h2
    rw[FX];refine⟨λa ha=>?_,ii x r h.2⟩
    rcases(fF x a r).mp ha with rfl|ha
    ·lia
    ·exact h.1 a ha
theorem D3 (k:Int):∀ns:List Int,k∈A6 ns↔k∈ns
 | []=>Iff.rfl
 | x::r=>by
  show k∈cH x (A6 r)↔_
  rw[fF,D3 k r,p_]
theorem E1:∀ns:List Int,(A6 ns).Pairwise (· < ·)
 | []=>Fn
 | x::r=>ii x _ (E1 r)
def B6 {l:List Int}(h:l.Pairwise (· < ·)):l.Nodup:=h.imp λ{a b} q e=>by rw[e] at q;exact Int.lt_irrefl _ q
theorem I9:∀(l1 l2:List Int),l1.Nodup->(∀x∈l1,x∈l2)->l2.length<=l1.length->l1.Perm l2
 | [],l2,_,_,h=>by
  have:l2=[]:=G_ (by simpa using h)
  subst this;exact FZ _
 | a::r,l2,hn,hs,hl=>by
  rw[EL] at hn;have ha:=hs a n_;have p:=List.perm_cons_erase ha;refine((I9 r (l2.erase a) hn.2 (λx hx=>?_) ?_).cons a).trans p.symm
  ·have hne:x≠a:=λe=>hn.1 (e▸hx)
   exact(List.mem_erase_of_ne hne).mpr (hs x (o_ _ hx))
  ·have:=p.length_eq
   rw[Ez] at this hl;lia
theorem kM:∀{l1 l2:List Int},l1.Pairwise (· < ·)->l2.Pairwise (· < ·)->(∀k,k∈l1↔k∈l2)->l1=l2
 | [],[],_,_,_=>rfl
 | [],b::r,_,_,h=>absurd ((h b).mpr n_) (by simp)
 | a::r,[],_,_,h=>absurd ((h a).mp n_) (by simp)
 | a::r,b::t,h1,h2,h=>by
  rw[FX] at h1 h2
  have e:a=b:=by
   rcases p_.mp ((h a).mp n_) with q|q
   ·exact q
   ·rcases p_.mp ((h b).mpr n_) with q' | q'
    ·exact q'.symm
    ·have z1:=h2.1 a q
     have z2:=h1.1 b q';lia
  subst e
  have:r=t:=kM h1.2 h2.2 λk=>by
   have q:=h k;rw[p_,p_] at q
   constructor
   ·intro hk
    rcases q.mp (.inr hk) with e|z
    ·have:=h1.1 k hk;lia
    ·exact z
   ·intro hk
    rcases q.mpr (.inr hk) with e|z
    ·have:=h2.1 k hk;lia
    ·exact z
  rw[this]
def qu {ns' ns:List Int}(hp:ns'.Pairwise (·<=·))(hm:∀k,k∈ns'↔k∈ns)(hl:ns'.length=(A6 ns).length):ns'=A6 ns:=by
 have pm:=I9 (A6 ns) ns' (B6 (E1 ns)) (λx hx=>(hm x).mpr ((D3 x ns).mp hx)) (Nat.le_of_eq hl);have nd:ns'.Nodup:=pm.nodup_iff.mp (B6 (E1 ns));refine kM ((hp.and nd).imp λ{a b} q=>?_) (E1 ns) λk=>by rw[hm,D3]
 have:=q.1
 have:=q.2
 lia
def W6 (ns:List Int)(k:Int):(firstMet (λi=>ns.getD i 0) ns.length).any (· == k)=decide (k∈ns):=by
 rw[firstMet_any]
 have e:(List.range ns.length).map (λi=>ns.getD i 0)=ns:=by
  apply FK
  ·simp
  ·intro i h1 h2
   simp[List.getD,h2]
 rw[e,Ew,FH,FJ]
 constructor
 ·rintro⟨x,hx,q⟩
  rw[<- eq_of_beq q];exact hx
 ·intro h
  exact⟨k,h,FA k⟩
theorem ag (val:Nat->Int):∀i,(firstMet val i).Nodup
 | 0=>Fu
 | i+1=>by
  rw[firstMet_succ];unfold step_dedup;have ih:=ag val i
  by_cases h:(firstMet val i).any (· == val i)=true
  ·rw[Ik h];exact ih
  ·rw[Il h,GR]
   refine⟨ih,by simp,λa ha b hb e=>h ?_⟩
   rw[Fx] at hb;rw[FH];exact⟨a,ha,by rw[e,hb];exact FA _⟩
def br (ns:List Int):(firstMet (λi=>ns.getD i 0) ns.length).length=(A6 ns).length:=by
 have m:∀k,k∈firstMet (λi=>ns.getD i 0) ns.length↔k∈ns:=λk=>by
  have:=W6 ns k
  rw[Ew,FH,FJ] at this;rw[<- this];exact⟨λh=>⟨k,h,FA k⟩,λ⟨x,hx,q⟩=>by rw[<- eq_of_beq q];exact hx⟩
 have n1:=ag (λi=>ns.getD i 0) ns.length;have n2:=B6 (E1 ns)
 rcases Nat.le_total (firstMet (λi=>ns.getD i 0) ns.length).length (A6 ns).length with h | h
 ·exact(I9 (A6 ns) _ n2 (λx hx=>(m x).mpr ((D3 x ns).mp hx)) h).length_eq.symm
 ·exact(I9 _ (A6 ns) n1 (λx hx=>(D3 x ns).mpr ((m x).mp hx)) h).length_eq
theorem aB (ns:List Int):(A6 ns).length<=ns.length:=by
 induction ns with
 | nil=>exact Eo _
 | cons x r ih =>
  have:∀l:List Int,(cH x l).length<=l.length+1:=by
   intro l
   induction l with
   | nil=>simp[cH]
   | cons y t ih =>
    unfold cH;split<;>try split
    all_goals simp only[Ez]
    all_goals lia
  have q:=this (A6 r)
  show(cH x (A6 r)).length<=_
  rw[Ez];lia
def mn (X:Cx)(l:Addr)(ns:List Int):HO:=.ext λh=>P4 (intKind X.prog X.w) h l (λk=>decide (k∈ns)) (A6 ns).length
def gB {X:Cx}(hc:X.calm=true):B1 X (.type "set") (λxs H Q=>∃(p:Addr)(ns:List Int),xs=[.ref p]/\SqL X.K H p (ns.map V.int)/\ns.length<4000/\∀l,H l=none->Q (.ref l) (upd H l (mn X l ns))):=by
 intro pins s σ H xs us Q I r h
 obtain⟨p,ns,rfl,hq,hlt,q⟩:=h;obtain⟨u,rfl,rx⟩:=K5 r
 cases rx
 obtain⟨its,r',pl,hz⟩:=I.list hq;have hi:IntsAre its ns:=J3 r';have hlen:its.length=ns.length:=hi.length;refine mB (I.ok.hd hc) pl.isList (ns:=ns) (by simpa using hi) (by show its.toArray.size+1<4096;rw[Ey];lia) λh' tk x kp=>?_
 have x':P4 (intKind X.prog X.w) h' s.heap.objs.size (λk=>decide (k∈ns)) (A6 ns).length:=x.congr (λk=>by
  rw[Ey,hlen];exact W6 ns k) (by rw[Ey,hlen];exact br ns)
 have he:∃o,h'.get? s.heap.objs.size=some o:=let ⟨o,_,_,_,e,_⟩:=x';⟨o,e⟩;exact⟨.ref s.heap.objs.size,_,I.laid (t':=tk) (o:=mn X s.heap.objs.size ns) (λb o e=>kp b o (f_ e) e) (Eo _) ⟨x',he,λh1 h2 y k=>y.of_get k⟩,Iu,q _ (I.hok.fresh (Eo _))⟩
def pB (I:Inv X pins σ H s)(e:H p=some (mn X p ns)):P4 (intKind X.prog X.w) s.heap p (λk=>decide (k∈ns)) (A6 ns).length :=
 (show u6 X.prog X.w H s.heap p (mn X p ns) from I.hok p _ e).1
def dF {X:Cx}(hc:X.calm=true):B1 X (.builtin "sorted") (λxs H Q=>∃(p:Addr)(ns:List Int),xs=[.ref p]/\H p=some (mn X p ns)/\ns.length<64/\∀l,H l=none->Q (.ref l) (upd H l (.lst ((A6 ns).map V.int)))):=by
 intro pins s σ H xs us Q I r h
 obtain⟨p,ns,rfl,he,hlt,q⟩:=h;obtain⟨u,rfl,rx⟩:=K5 r
 cases rx
 have hl:=aB ns;refine mI (I.ok.hd hc) (pB I he) (by lia) λl h' d tk e out ns' a1 a2 a3 a4 hlz kp g=>?_
 have e2:ns'=A6 ns:=qu a2 (λk=>by rw[a3,FJ]) a4
 subst e2;have fr:=I.hok.fresh hlz;have new:u6 X.prog X.w (upd H l (.lst ((A6 ns).map V.int))) h' l (.lst ((A6 ns).map V.int)):=⟨by rw[EV];exact l_ (k9 (by lia)),out.toList,e,U3 a1,by simpa [seqObj] using g⟩
 exact⟨.ref l,_,I.call' (s':={ s with heap:=h',drawn:=d,toks:=tk }) (ch:=[]) rfl (Un.track (Un.kept kp) hlz fr) (HOk.track (I.hok.kept kp) fr new) I.bare (λb z=>nomatch z),Iu,q l fr⟩
def call_len_set:B1 X (.builtin "len") (λxs H Q=>∃(p:Addr)(ns:List Int),xs=[.ref p]/\H p=some (mn X p ns)/\Q (.int (A6 ns).length) H):=by
 intro pins s σ H xs us Q I r h
 obtain⟨p,ns,rfl,he,q⟩:=h;obtain⟨u,rfl,rx⟩:=K5 r
 cases rx
 obtain⟨o,es,ep,t,ho,hx,hd,⟨el,mem,hb,hf,hn⟩,J⟩:=pB I he;refine PySem.call_len_set ho hx hd hf (by have h4:es.size<4096:=hb;lia) ?_
 rw[hn];exact⟨.int (A6 ns).length,H,I.tok _,⟨_,Iu⟩,q⟩
def EqV (X:Cx)(H:Hp)(n:Nat)(x y:V)(b:Bool):Prop :=
 ∀(A:Around)(pins:List (Addr×Obj))(s:Shared)(σ:St)(u v:Value),Inv X pins σ H s->u9 x u->u9 y v->A.units+n<cLine->SeqAt.EqAt A s u v b
structure W9 (X:Cx){δ:Type} [DecidableEq δ] (n:Nat) (R:Hp->V->δ->Prop):Prop where
 eq:∀H x y dx dy,R H x dx->R H y dy->EqV X H n x y (decide (dx=dy))
 fn:∀pins s σ H x d d',Inv X pins σ H s->R H x d->R H x d'->d=d'
def yR:Hp->V->Int->Prop:=λ_ x i=>x=.int i
def vg {i j:Int}:(i==j)=decide (i=j):=by rw[Ew];simp
section
def xX:W9 X 0 yR where
 eq:=λH x y dx dy hx hy A pins s σ u v I ru rv hu=>by
  subst hx hy;obtain⟨t,rfl⟩:=ru;obtain⟨t',rfl⟩:=rv;rw[<- vg];exact Fc _ _ _ _
 fn:=λ_ _ _ _ x d d' _ h h'=>by subst h;injection h'
variable {δ:Type}[DecidableEq δ]{n:Nat}
def yX (K:Frag)(R:Hp->V->δ->Prop):Hp->V->List δ->Prop:=λH x ds=>∃a xs,x=.ref a/\SqT K H a xs/\Paired (R H) xs ds
def jE (K:Frag)(R:Hp->V->δ->Prop):Hp->V->List δ->Prop:=λH x ds=>∃a xs,x=.ref a/\SqL K H a xs/\Paired (R H) xs ds
theorem j7 {α β:Type}{Rl:α->β->Prop}{xs:List α}{ds:List β}(h:Paired Rl xs ds):∀(i:Nat)(x:α),xs[i]? = some x->∃d,ds[i]? = some d/\Rl x d:=by
 induction h with
 | nil=>intro i x h;simp at h
 | cons r t ih =>
  intro i x h
  cases i with
  | zero=>simp at h;subst h;exact⟨_,Iu,r⟩
  | succ i=>exact ih i x h
def dU (ds ds':List δ)(h:ds.length=ds'.length):((List.range ds.length).all λj=>decide (ds[j]? = ds'[j]?))=decide (ds=ds'):=by
 rw[Ew,FF,FJ]
 constructor
 ·intro q
  apply GS
  intro i
  by_cases hi:i<ds.length
  ·exact GT (q i (by simpa using hi))
  ·rw[Go (by lia),Go (by lia)]
 ·rintro rfl i hi
  simp
def bN {X:Cx}{R:Hp->V->δ->Prop}(ep:W9 X n R){H:Hp}{A:Around}{pins:List (Addr×Obj)}{s:Shared}{σ:St}(I:Inv X pins σ H s){xs ys:List V}{ds ds':List δ}{us vs:List Value}(hx:Paired (R H) xs ds)(hy:Paired (R H) ys ds')(ru:o6 xs us)(rv:o6 ys vs)
  (hu:A.units+n<cLine):∀j (h1:j<us.toArray.size) (h2:j<vs.toArray.size),SeqAt.EqAt A s us.toArray[j] vs.toArray[j] (decide (ds[j]? = ds'[j]?)):=λj h1 h2=>by
 have l1:=ru.length;have l2:=rv.length;rw[Ey] at h1 h2;have e1:xs[j]? = some (xs[j]'(by lia)):=Gb _
 have e2:ys[j]? = some (ys[j]'(by lia)):=Gb _
 obtain⟨d,q1,r1⟩:=j7 hx j _ e1;obtain⟨d',q2,r2⟩:=j7 hy j _ e2;obtain⟨u,w1,s1⟩:=ru.get e1;obtain⟨v,w2,s2⟩:=rv.get e2;have z1:us.toArray[j]=u:=by rw[Gb h1] at w1;simpa using w1
 have z2:vs.toArray[j]=v:=by rw[Gb h2] at w2;simpa using w2
 rw[z1,z2,q1,q2]
 have:decide (some d=some d')=decide (d=d'):=by rw[Ew];simp
 rw[this];exact ep.eq H _ _ _ _ r1 r2 A pins s σ u v I s1 s2 hu
theorem ax {X:Cx}{R:Hp->V->δ->Prop}(ep:W9 X n R){H:Hp}{pins:List (Addr×Obj)}{s:Shared}{σ:St}(I:Inv X pins σ H s){xs:List V}{ds ds':List δ}(h:Paired (R H) xs ds)(h':Paired (R H) xs ds'):ds=ds':=by
 induction h generalizing ds' with
 | nil=>cases h';rfl
 | cons r t ih =>
  cases h' with
  | cons r' t'=>rw[ep.fn pins s σ H _ _ _ I r r',ih t']
def mD {X:Cx}{R:Hp->V->δ->Prop}(ep:W9 X n R):W9 X (n+1) (yX X.K R) where
 eq:=λH x y dx dy hx hy A pins s σ u v I ru rv hu=>by
  obtain⟨a,xs,rfl,ha,px⟩:=hx;obtain⟨b,ys,rfl,hb,py⟩:=hy
  cases ru
  cases rv
  by_cases hab:a=b
  ·subst hab
   have:=I.tuple_inj ha hb
   subst this;rw[ax ep I px py,Fm rfl];exact Fb _
  ·obtain⟨us,r1,p1,_⟩:=I.tuple ha
   obtain⟨vs,r2,p2,_⟩:=I.tuple hb;have l1:=r1.length;have l2:=r2.length;have l3:=d_ px;have l4:=d_ py
   have:=SeqAt.RcAt.tuples (A:=A) (e:=λj=>decide (dx[j]? = dy[j]?)) p1 p2 (by lia) (bN ep I px py r1 r2 (by show A.units+1+n<cLine;lia))
   refine SeqAt.EqAt.of_refs hab ?_
   have e:((List.range (min us.toArray.size vs.toArray.size)).all (λj=>decide (dx[j]? = dy[j]?))&&us.toArray.size==vs.toArray.size)=decide (dx=dy):=by
    rw[Ey,Ey]
    by_cases hl:dx.length=dy.length
    ·rw[show min us.length vs.length=dx.length by lia,dU dx dy hl,show(us.length==vs.length)=true by simp;lia,Bool.and_true]
    ·rw[show(us.length==vs.length)=false by simp;lia,Fk,b_ (λz=>hl (by rw[z]))]
   rw[<- e];exact this
 fn:=λpins s σ H x d d' I h h'=>by
  obtain⟨a,xs,rfl,ha,px⟩:=h;obtain⟨b,ys,e,hb,py⟩:=h'
  cases e
  have:=I.tuple_inj ha hb
  subst this;exact ax ep I px py
def xF {X:Cx}{R:Hp->V->δ->Prop}(ep:W9 X n R)(hu:X.A.units+1+n<cLine):OpR X (compareOp .Eq) (λx y H Q=>∃ds ds',jE X.K R H x ds/\jE X.K R H y ds'/\Q (.bl (decide (ds=ds'))) H):=by
 intro pins s σ H x y v u Q I rx ry h
 obtain⟨dx,dy,⟨a,xs,rfl,ha,px⟩,⟨b,ys,rfl,hb,py⟩,q⟩:=h
 cases rx
 cases ry
 obtain⟨us,r1,p1,_⟩:=I.list ha;obtain⟨vs,r2,p2,_⟩:=I.list hb;have l1:=r1.length;have l2:=r2.length;have l3:=d_ px;have l4:=d_ py
 by_cases hl:dx.length=dy.length
 ·refine FL (e:=λj=>decide (dx[j]? = dy[j]?)) p1.isList p2.isList (by simp only[Ey];lia) (by lia) (bN ep I px py r1 r2 (by show X.A.units+1+n<cLine;lia)) X.prog X.w X.xe _ ?_
  rw[Ey,show us.length=dx.length by lia,dU dx dy hl]
  exact⟨.bl _,H,I,Iu,q⟩
 ·refine FM p1.isList p2.isList (by simp only[Ey];simpa using (by lia:us.length≠vs.length)) (by lia) X.prog X.w X.xe _ ?_
  rw[b_ (λz=>hl (by rw[z]))] at q
  exact⟨.bl false,H,I,Iu,q⟩
def xJ {X:Cx}{R:Hp->V->δ->Prop}(ep:W9 X n R)(hu:X.A.units+1+n<cLine):OpR X (compareOp .NotEq) (λx y H Q=>∃ds ds',jE X.K R H x ds/\jE X.K R H y ds'/\Q (.bl (!decide (ds=ds'))) H):=by
 intro pins s σ H x y v u Q I rx ry h
 obtain⟨dx,dy,⟨a,xs,rfl,ha,px⟩,⟨b,ys,rfl,hb,py⟩,q⟩:=h
 cases rx
 cases ry
 obtain⟨us,r1,p1,_⟩:=I.list ha;obtain⟨vs,r2,p2,_⟩:=I.list hb;have l1:=r1.length;have l2:=r2.length;have l3:=d_ px;have l4:=d_ py
 by_cases hl:dx.length=dy.length
 ·refine SeqAt.RcNeAt.lists (e:=λj=>decide (dx[j]? = dy[j]?)) p1.isList p2.isList (by simp only[Ey];lia) (by lia) (bN ep I px py r1 r2 (by show X.A.units+1+n<cLine;lia)) X.prog X.w X.xe _ ?_
  rw[Ey,show us.length=dx.length by lia,dU dx dy hl]
  exact⟨.bl _,H,I,Iu,q⟩
 ·refine SeqAt.RcNeAt.lists_lengths p1.isList p2.isList (by simp only[Ey];simpa using (by lia:us.length≠vs.length)) (by lia) X.prog X.w X.xe _ ?_
  rw[b_ (λz=>hl (by rw[z]))] at q
  exact⟨.bl true,H,I,Iu,q⟩
end
end L2
namespace L2
open PySem PySem.Spec PyProof.Rows PySem.W
def dA:List V->List V->Option Bool
 | [],[]=>some false
 | [],_::_=>some true
 | _::_,[]=>some false
 | .int a::r,.int b::r'=>if a=b then dA r r' else some (decide (a<b))
 | .ref a::r,.ref b::r'=>if a=b then dA r r' else none
 | _,_=>none
theorem vG {a b:Int}{t u:Tok}{k:Bool}{Q:Bool->Shared->Prop}(h:Q (decide (a<b)) s):wpAny (model prog w) A (oneLt' k (.int a t) (.int b u)) Q E s:=by
 cases k with
 | true=>exact oneLt_int h
 | false=>exact kat_one _ _ (lt_int (show PySem.W.BoolBack Q (.bool (decide (a<b))) s from h))
theorem sS {b fin:Bool}{Q:Bool->Shared->Prop}:∀(xs ys:List V)(us vs:List Value)(i:Nat)(c:Bool),o6 xs us->o6 ys vs->dA xs ys=some c->fin=decide (us.length<vs.length)->Q c s->KatLex prog w A b fin Q (us.zip vs) i s:=by
 intro xs
 induction xs with
 | nil =>
  intro ys us vs i c hx hy h hf q
  cases hx
  cases hy with
  | nil =>
   cases (show some false=some c from h)
   refine kat_nil ?_;rw[hf];exact q
  | cons _ _ =>
   cases (show some true=some c from h)
   refine kat_nil ?_;rw[hf,Fm (by simp)];exact q
 | cons x xs ih =>
  intro ys us vs i c hx hy h hf q
  cases hx with
  | @cons _ u _ us rx tx =>
  cases hy with
  | nil =>
   cases (show some false=some c by cases x<;>exact h)
   refine kat_nil ?_;rw[hf,b_ (by simp)];exact q
  | @cons y v ys vs ry ty =>
   rw[Ez,Ez] at hf;have hf':fin=decide (us.length<vs.length):=hf.trans (by rw[Ew,FJ,FJ];lia)
   rw[List.zip_cons_cons]
   cases x with
   | int m =>
    cases y with
    | int k =>
     obtain⟨t,rfl⟩:=rx;obtain⟨t',rfl⟩:=ry;refine kat_cons (wpAny_eqBool_int ?_)
     replace h:(if m=k then dA xs ys else some (decide (m<k)))=some c:=h
     by_cases e:m=k
     ·rw[show(m==k)=true by simpa using e]
      rw[Ik e] at h;exact kat_yes (ih ys _ vs (i+1) c tx ty h hf' q)
     ·rw[show(m==k)=false by simpa using e]
      rw[Il e] at h
      cases h
      exact kat_no (vG q)
    | _=>cases (show none=some c from h)
   | ref m =>
    cases y with
    | ref k =>
     cases rx
     cases ry
     by_cases e:m=k
     ·subst e
      replace h:(if m=m then dA xs ys else none)=some c:=h
      rw[Ik rfl] at h;exact kat_cons (Fb (.ref m) prog w _ _ (kat_yes (ih ys _ vs (i+1) c tx ty h hf' q)))
     ·replace h:(if m=k then dA xs ys else none)=some c:=h
      rw[Il e] at h
      cases h
    | _=>cases (show none=some c from h)
   | _=>cases (show none=some c by cases y<;>exact h)
def ja {s:Shared}{vs:List Value}{n:Nat}{r:Nat->Int}{P:PySem.Fin->Shared->Prop}(ho:s.heap.get? a=some (seqObj "list" vs.toArray n))(h64:vs.length<64)
  (hk:∀(h':Heap),(∀b o,b≠a->s.heap.get? b=some o->h'.get? b=some o)->2<=vs.length->∀Q':SortKind->Shared->Prop,Q' (tuples' true) { s with heap:=h' }->wpAny (model prog w) A (keyKind' vs.toArray) Q' E { s with heap:=h' })
  (hc:∀(h':Heap),(∀b o,b≠a->s.heap.get? b=some o->h'.get? b=some o)->∀i j,i<vs.length->j<vs.length->∀C:Bool->Shared->Prop,C (decide (r i<r j)) { s with heap:=h' }->wpAny (model prog w) A (keyLt' (tuples' true) (vs.getD i Value.none) (vs.getD j Value.none)) C (λ_ _=>False) { s with heap:=h' })
  (h:∀p:Array Nat,p.Perm (List.range vs.length).toArray->Up r p vs.length->P (.done (.ret .none)) { s with heap:=sortedHeap s.heap a vs (p.toList.map λi=>vs.getD i Value.none).toArray }) :
  wpAny (model prog w) A (Builtin.«list.sort» ⟨[.ref a],[]⟩) P E s:=by
 have ha:a<s.heap.objs.size:=f_ ho;rw[list_sort_plain];refine w_ (listItems_at ho rfl ?_);refine w_ (listUpdate_at ho rfl ?_ (by rw[Ey,Ex];lia) (Et _))
 obtain⟨e1,ho1⟩:∃e1,(s.heap.update a (Obj.mapSeq λ_=>(#[]:Array Value))).get? a=some (seqObj "list" #[] e1):=⟨_,GU ho λ_=>#[]⟩;refine w_ (seqEpoch_at ho1 rfl ?_);refine w_ (wpAny_newTuple ?_ (by show vs.length<=_;rw[Ex];lia))
 refine w_ (GD ?_ (Et _));refine D_ ?_
 have keep:∀b o,b≠a->s.heap.get? b=some o->(((s.heap.update a (Obj.mapSeq λ_=>(#[]:Array Value))).push (seqObj "tuple" vs.toArray 0)).push (seqObj "list" #[] 0)).get? b=some o:=λb o hb q =>
  Em _ (Em _ ((EZ _ _ (Im hb)).trans q))
 have ho6:(((s.heap.update a (Obj.mapSeq λ_=>(#[]:Array Value))).push (seqObj "tuple" vs.toArray 0)).push (seqObj "list" #[] 0)).get? a=some (seqObj "list" #[] e1):=Em _ (Em _ ho1)
 show wpAny (model prog w) A _ P E { s with heap:=((s.heap.update a (Obj.mapSeq λ_=>(#[]:Array Value))).push (seqObj "tuple" vs.toArray 0)).push (seqObj "list" #[] 0) }
 dsimp only
 by_cases h2:vs.toArray.size<2
 ·rw[Ik h2,Ik h2]
  refine w_ (u_ ?_);rw[StateT.run_pure];refine w_ (u_ ?_)
  dsimp only
  refine w_ (seqEpoch_at ho6 rfl ?_)
  have eo:(arrOf (SortSt.mk' general' (vs.toArray.zip vs.toArray) #[] 7 none)).map (·.2)=(((List.range vs.length).toArray.toList).map λi=>vs.getD i Value.none).toArray:=by
   have e3:((List.range vs.length).toArray.toList.map λi=>vs.getD i Value.none)=vs:=by
    apply FK
    ·simp
    ·intro i q1 q2
     simp[List.getD,q2]
   rw[e3]
   show(vs.toArray.zip vs.toArray).map (·.2)=vs.toArray
   apply Array.ext
   ·simp
   ·intro i q1 q2
    simp
  refine w_ (listUpdate_at ho6 rfl ?_ (Et _) (by rw[eo,Ey,EV];simp;rw[Ex];lia))
  simp only[Gg,Fy,Fa]
  refine u_ ?_;rw[eo];refine h (List.range vs.length).toArray (GP _) λi hi hb=>?_;rw[Ey] at h2;lia
 ·rw[Il h2,Il h2]
  rw[Ey] at h2;refine w_ (hk _ keep (by lia) _ ?_)
  have run:=kat_run (E:=E) (κ:=tuples' true) (ks:=vs) (vs:=vs) (prog:=prog) (w:=w) (A:=A) (Q:=λst' s'=>s' = { s with heap:=((s.heap.update a (Obj.mapSeq λ_=>(#[]:Array Value))).push (seqObj "tuple" vs.toArray 0)).push (seqObj "list" #[] 0) }/\failedOf st'=none/\∃p:Array Nat,p.Perm (List.range vs.length).toArray/\Up r p vs.length/\arrOf st'=p.map (kas_item (vs.toArray.zip vs.toArray)))
   (G:=λp s'=>s' = { s with heap:=((s.heap.update a (Obj.mapSeq λ_=>(#[]:Array Value))).push (seqObj "tuple" vs.toArray 0)).push (seqObj "list" #[] 0) }/\p.Perm (List.range vs.length).toArray/\Up r p vs.length) rfl (by lia) h64 (λp st' s' a1 a2 a3 ⟨b1,b2,b3⟩=>⟨b1,a3,p,b2,b3,a2⟩)
   (wz (J:=λs'=>s' = { s with heap:=((s.heap.update a (Obj.mapSeq λ_=>(#[]:Array Value))).push (seqObj "tuple" vs.toArray 0)).push (seqObj "list" #[] 0) }) (lt:=ltR r) (n:=vs.length) (λi j C s' hi hj hJ q=>by
    subst hJ
    exact hc _ keep i j hi hj C (q _ rfl)) _ _ _ (rT (by lia)) rfl λs' hJ=>⟨hJ,vW (by lia)⟩)
  refine w_ (x_ run ?_ λ_ _ e=>e)
  rintro⟨⟨⟩,st'⟩ s' ⟨rfl,hf,p,pm,up,har⟩
  dsimp only
  have hout:=kat_snds (ks:=vs) (vs:=vs) rfl har;have hsz:(p.toList.map λi=>vs.getD i Value.none).toArray.size=vs.length:=by rw[Ey,EV,A_,pm.size_eq];simp
  rw[hout];refine w_ (seqEpoch_at ho6 rfl ?_);refine w_ (listUpdate_at ho6 rfl ?_ (Et _) (by rw[hsz,Ex];lia))
  rw[hf]
  simp only[Gg,Fy,Fa]
  exact u_ (h p pm up)
def rL {s:Shared}{vs:List Value}{r:Nat->Int}{Q:Value->Shared->Prop}(hl:s.heap.IsList l vs.toArray)(h64:vs.length<64)
  (hk:∀(A:Around)(E:Value->Shared->Prop)(h':Heap),(∀b o,s.heap.get? b=some o->h'.get? b=some o)->2<=vs.length->∀Q':SortKind->Shared->Prop,Q' (tuples' true) { s with heap:=h' }->wpAny (model prog w) A (keyKind' vs.toArray) Q' E { s with heap:=h' })
  (hc:∀(A:Around)(h':Heap),(∀b o,s.heap.get? b=some o->h'.get? b=some o)->∀i j,i<vs.length->j<vs.length->∀C:Bool->Shared->Prop,C (decide (r i<r j)) { s with heap:=h' }->wpAny (model prog w) A (keyLt' (tuples' true) (vs.getD i Value.none) (vs.getD j Value.none)) C (λ_ _=>False) { s with heap:=h' })
  (h:∀(p:Array Nat),p.Perm (List.range vs.length).toArray->Up r p vs.length->Q (.ref (s.heap.objs.size+1)) { s with heap:=sortedAll s.heap vs (p.toList.map λi=>vs.getD i Value.none).toArray }) :
  wpAny (model prog w) A (call (.builtin "sorted") [.ref l]) Q E s:=by
 refine GC kind_sorted plain_sorted entry_sorted (args_sorted1 _) ?_;unfold Builtin.«sorted»;refine w_ (m:=checkCount "sorted" 1 1 _) (u_ ?_);refine w_ (collect_list hl ?_ (by rw[Ex];lia))
 refine w_ (GD ?_ (by rw[Ex];lia))
 have sz:((s.heap.push (seqObj "list" #[] 0)).update s.heap.objs.size (Obj.mapSeq (·++vs.toArray))).objs.size=s.heap.objs.size+1:=by rw[Heap.size_update,size_push']
 have hoL:(((s.heap.push (seqObj "list" #[] 0)).update s.heap.objs.size (Obj.mapSeq (·++vs.toArray))).push (seqObj "list" vs.toArray 0)).get? (s.heap.objs.size+1)=some (seqObj "list" vs.toArray 0):=by
  rw[<- sz];exact En _ rfl
 have keep:∀b o,s.heap.get? b=some o->(((s.heap.push (seqObj "list" #[] 0)).update s.heap.objs.size (Obj.mapSeq (·++vs.toArray))).push (seqObj "list" vs.toArray 0)).get? b=some o:=λb o q =>
  Em _ ((EZ _ _ (Ej (f_ q))).trans (Em _ q))
 show wpAny _ _ _ _ _ { s with heap:=((s.heap.push (seqObj "list" #[] 0)).update s.heap.objs.size (Obj.mapSeq (·++vs.toArray))).push (seqObj "list" vs.toArray 0) }
 rw[sz]
 refine w_ (D_ (Gk slot_list_sort ⟨_,hoL,Iu⟩ entry_list_sort (ja (r:=r) (s:={ s with heap:=((s.heap.push (seqObj "list" #[] 0)).update s.heap.objs.size (Obj.mapSeq (·++vs.toArray))).push (seqObj "list" vs.toArray 0) }) hoL h64
  (λh' kp h2 Q' q=>hk _ _ h' (λb o e=>kp b o (h_ (Gp (f_ e))) (keep b o e)) h2 Q' q)
  (λh' kp i j hi hj C q=>hc _ h' (λb o e=>kp b o (h_ (Gp (f_ e))) (keep b o e)) i j hi hj C q) λp pm up=>⟨_,Iu,?_⟩) (args_list_sort _)))
 exact u_ ⟨_,Iu,h p pm up⟩
def cw (K:Frag)(H:Hp)(as:List Addr)(its:List (List V)):Prop:=Paired (λa xs=>SqT K H a xs/\∃i r,xs=V.int i::r) as its
def kP {K:Frag}{H:Hp}{as:List Addr}{its:List (List V)}(h:cw K H as its):∀(i:Nat),i<as.length->∃a xs,as[i]? = some a/\its[i]? = some xs/\SqT K H a xs/\∃j r,xs=V.int j::r:=λi hi=>by
 have e:as[i]? = some as[i]:=Gb hi;obtain⟨d,e2,q⟩:=j7 h i _ e;exact⟨_,d,e,e2,q.1,q.2⟩
def cm:B1 X (.builtin "sorted") (λxs H Q=>∃(p:Addr)(as:List Addr)(its:List (List V))(r:Nat->Int),xs=[.ref p]/\SqL X.K H p (as.map V.ref)/\cw X.K H as its/\as.length<64 /\
  (∀i j x y,its[i]? = some x->its[j]? = some y->dA x y=some (decide (r i<r j)))/\∀q:Array Nat,q.Perm (List.range as.length).toArray->Up r q as.length->∀l,H l=none->Q (.ref l) (upd H l (.lst ((q.toList.map λi=>as.getD i 0).map V.ref)))):=by
 intro pins s σ H xs us Q I r0 h
 obtain⟨p,as,its,r,rfl,hq,ht,h64,hcmp,q⟩:=h;obtain⟨u,rfl,rx⟩:=K5 r0
 cases rx
 obtain⟨vs,r',pl,hz⟩:=I.list hq
 have evs:vs=as.map Value.ref:=by
  have go:∀(as:List Addr)(vs:List Value),o6 (as.map V.ref) vs->vs=as.map Value.ref:=by
   intro as
   induction as with
   | nil=>intro vs r;cases r;rfl
   | cons a t ih =>
    intro vs r
    rw[EX] at r
    cases r with
    | cons r1 r2=>rw[show _=Value.ref a from r1,ih _ r2];rfl
  exact go as vs r'
 subst evs;have hl:(as.map Value.ref).length=as.length:=EV _
 have hget:∀i a,as[i]? = some a->(as.map Value.ref).getD i Value.none=.ref a:=λi a e=>by
  rw[List.getD,ER,e];rfl
 have tl:=d_ ht;refine rL (r:=r) pl.isList (by rw[hl];exact h64) (λA E h' kp h2 Q' q'=>?_) (λA h' kp i j hi hj C q'=>?_) λpq pm up=>?_
 ·-- the kind
  have I':Inv X pins σ H { s with heap:=h' }:=I.kept (t':=s.toks) kp
  have go:∀(as:List Addr)(its:List (List V)),cw X.K H as its->∃fs:List Value,KatTups h' (as.map Value.ref) fs/\(∀v∈fs,∃i t,v=.int i t)/\fs.length=as.length:=by
   intro as its hT
   unfold cw at hT
   induction hT with
   | nil=>exact⟨[],trivial,λv hv=>absurd hv (by simp),Iu⟩
   | @cons a xs as its hx t ih =>
    obtain⟨fs,k1,k2,k3⟩:=ih;obtain⟨hS,i,r,rfl⟩:=hx;obtain⟨us,ru,pu,_⟩:=I'.tuple hS
    cases ru with
    | @cons _ u _ us r1 r2 =>
     obtain⟨tk,rfl⟩:=r1;obtain⟨o,e1,e2,n,e3⟩:=pu;refine⟨.int i tk::fs,KatTups.cons e1 e2 e3 (by simp) k1,λv hv=>?_,by rw[Ez,Ez,k3]⟩
     rcases p_.mp hv with rfl|hv
     ·exact⟨i,tk,Iu⟩
     ·exact k2 v hv
  obtain⟨fs,k1,k2,k3⟩:=go as its ht;refine kat_kind (T:=.type "int") k1 (by rw[hl] at h2;lia) (λv hv=>?_) (by decide) q'
  obtain⟨i,tk,rfl⟩:=k2 v hv;exact .now
 ·-- a comparison
  have I':Inv X pins σ H { s with heap:=h' }:=I.kept (t':=s.toks) kp
  rw[hl] at hi hj;obtain⟨a,x,ea,ex,hS,_⟩:=kP ht i hi;obtain⟨b,y,eb,ey,hS',_⟩:=kP ht j hj;rw[hget i a ea,hget j b eb];obtain⟨us,ru,⟨o,e1,e2,n,e3⟩,_⟩:=I'.tuple hS;obtain⟨us',ru',⟨o',e1',e2',n',e3'⟩,_⟩:=I'.tuple hS';refine kat_lt e1 e3 e1' e3' ?_;exact sS x y us us' 0 _ (by simpa using ru) (by simpa using ru') (hcmp i j x y ex ey) (by simp) q'
 ·have sz:(pq.toList.map λi=>(as.map Value.ref).getD i Value.none)=(pq.toList.map λi=>as.getD i 0).map Value.ref:=by
   rw[GV]
   apply GW
   intro i hi
   have hi':i<as.length:=by
    have:=(GQ pm (a:=i)).mp (by simpa using hi)
    rw[hl] at this
    simpa using this
   show _=Value.ref (as.getD i 0)
   rw[hget i as[i] (Gb hi')]
   simp[List.getD,hi']
  rw[sz];rw[hl] at pm up;obtain⟨e,he⟩:=sortedAll_at s.heap (as.map Value.ref) ((pq.toList.map λi=>as.getD i 0).map Value.ref).toArray
  have vr:∀bs:List Addr,o6 (bs.map V.ref) (bs.map Value.ref):=λbs=>by
   induction bs with
   | nil=>exact .nil
   | cons b t ih=>exact .cons rfl ih
  have hlen:((pq.toList.map λi=>as.getD i 0).map V.ref).length<=sizeLine:=by
   rw[EV,EV,A_,pm.size_eq];exact l_ (k9 (by simp;lia))
  exact⟨.ref (s.heap.objs.size+1),_,I.laid (t':=s.toks) (o:=.lst ((pq.toList.map λi=>as.getD i 0).map V.ref)) (λb o e=>sortedAll_old e) (FE _) ⟨hlen,_,e,vr _,by simpa [seqObj] using he⟩,Iu,q pq pm up _ (I.hok.fresh (FE _))⟩
end L2
namespace L2
open PySem PySem.Spec PyProof.Rows
section
variable {X:Cx}{x y z w:Str}{i j k l n:Nat}{px py pz pw pt:Pos}
structure Nm (X:Cx)(i:Nat)(x:Str):Prop where
 at_:X.N[i]? = some x
 loc:Loc X.env.scope x
 fn:X.fn x=true\/X.env.scope.names.lookup x=some .local
theorem Nm.pg (h:Nm X i x)(nd:X.N.Nodup):PG X (.Name x px) (P2 i):=l8 nd h.at_ h.loc h.fn
def pg2 (hc:X.calm=true)(nd:X.N.Nodup)(a:Nm X i x)(b:Nm X j y):PG X (.Tuple [.Name x px,.Name y py] n pt) (um X.K 2 (Z4 (P2 i) (Z4 (P2 j) tq))) :=
 uq (X:=X) (n:=2) hc (af (X:=X) (a.pg nd) (af (X:=X) (b.pg nd) pX))
def pg3 (hc:X.calm=true)(nd:X.N.Nodup)(a:Nm X i x)(b:Nm X j y)(c:Nm X k z):PG X (.Tuple [.Name x px,.Name y py,.Name z pz] n pt) (um X.K 3 (Z4 (P2 i) (Z4 (P2 j) (Z4 (P2 k) tq)))) :=
 uq (X:=X) (n:=3) hc (af (X:=X) (a.pg nd) (af (X:=X) (b.pg nd) (af (X:=X) (c.pg nd) pX)))
end
section
variable {i:Nat}
def m9:starEach (.Constant c i p::es) env=(false,eval (.Constant c i p) env)::starEach es env:=by rw[starEach];intro a b h;cases h
def a9:starEach (.Name x p::es) env=(false,eval (.Name x p) env)::starEach es env:=by rw[starEach];intro a b h;cases h
def n9:starEach (.Call f as ks p::es) env=(false,eval (.Call f as ks p) env)::starEach es env:=by rw[starEach];intro a b h;cases h
def Q1:starEach (.BinOp a o b p::es) env=(false,eval (.BinOp a o b p) env)::starEach es env:=by rw[starEach];intro a b h;cases h
def xt:starEach (.Compare a o b p::es) env=(false,eval (.Compare a o b p) env)::starEach es env:=by rw[starEach];intro a b h;cases h
def m5:starEach (.Subscript a b p::es) env=(false,eval (.Subscript a b p) env)::starEach es env:=by rw[starEach];intro a b h;cases h
def N8:starEach (.Tuple a i p::es) env=(false,eval (.Tuple a i p) env)::starEach es env:=by rw[starEach];intro a b h;cases h
def bM:starEach (.List a p::es) env=(false,eval (.List a p) env)::starEach es env:=by rw[starEach];intro a b h;cases h
def Q9:starEach (.ListComp a g s p::es) env=(false,eval (.ListComp a g s p) env)::starEach es env:=by rw[starEach];intro a b h;cases h
def xZ:starEach (.IfExp a b d p::es) env=(false,eval (.IfExp a b d p) env)::starEach es env:=by rw[starEach];intro a b h;cases h
def oZ:starEach (.Attribute a x p::es) env=(false,eval (.Attribute a x p) env)::starEach es env:=by rw[starEach];intro a b h;cases h
end
section
def u7 {X:Cx}(K:Frag)(h:X.K=K:=by rfl):IxR X (xz K):=h▸pH
def i5 {X:Cx}(K:Frag)(h:X.K=K:=by rfl):IxR X (wJ K):=h▸tU
def kg {X:Cx}(K:Frag)(h:X.K=K:=by rfl):SlR X (yx K):=h▸uV
def jG {X:Cx}(K:Frag)(h:X.K=K:=by rfl):OpR X (compareOp .In) (rIn K false):=h▸rN
def iH {X:Cx}(K:Frag)(h:X.K=K:=by rfl):OpR X (compareOp .NotIn) (rIn K true):=h▸iY
def vS (K:Frag):List V->Hp->VK->Prop:=λxs H Q=>∃p ys,xs=[.ref p]/\(SqL K H p ys\/SqT K H p ys)/\Q (.int ys.length) H
def y9 {X:Cx}(K:Frag)(h:X.K=K:=by rfl):B1 X (.builtin "len") (vS K):=h▸jo
def vE (K:Frag):List V->Hp->VK->Prop:=λxs H Q=>∃p ys,xs=[.ref p]/\(SqL K H p ys\/SqT K H p ys)/\∀l,H l=none->Q (.ref l) (upd H l (.lst ys))
def M3 {X:Cx}(K:Frag)(h:X.K=K:=by rfl):B1 X (.type "list") (vE K):=h▸jK
def tu (K:Frag):List V->Hp->VK->Prop:=λxs H Q=>∃p ys,xs=[.ref p]/\((SqL K H p ys/\∀l,H l=none->Q (.ref l) (upd H l (.tup ys)))\/(SqT K H p ys/\Q (.ref p) H))
def P5 {X:Cx}(K:Frag)(h:X.K=K:=by rfl):B1 X (.type "tuple") (tu K):=h▸gF
def vV (K:Frag):List V->Hp->VK->Prop:=λxs H Q=>∃v T t b,xs=[v,.ty T]/\S6 K H v t/\kitOne K t (.type T)=some b/\Q (.bl b) H
def D4 {X:Cx}(K:Frag)(h:X.K=K:=by rfl):B1 X (.builtin "isinstance") (vV K):=h▸lw
def yY (K:Frag):List V->Hp->VK->Prop:=λxs H Q=>∃(p:Addr)(bs:List Bool),xs=[.ref p]/\SqL K H p (bs.map V.bl)/\Q (.bl (bs.all id)) H
def cS {X:Cx}(K:Frag)(hc:X.calm=true)(h:X.K=K:=by rfl):B1 X (.builtin "all") (yY K):=h▸fV hc
def yG (K:Frag):List V->Hp->VK->Prop:=λxs H Q=>∃(p:Addr)(bs:List Bool),xs=[.ref p]/\SqL K H p (bs.map V.bl)/\Q (.bl (bs.any id)) H
def rW {X:Cx}(K:Frag)(hc:X.calm=true)(h:X.K=K:=by rfl):B1 X (.builtin "any") (yG K):=h▸eJ hc
def ue (K:Frag):List V->Hp->VK->Prop:=λxs H Q=>∃(p:Addr)(ns:List Int),xs=[.ref p]/\SqL K H p (ns.map V.int)/\ns.length<64/\∀ns':List Int,ns'.Perm ns->ns'.Pairwise (·<=·)->∀l,H l=none->Q (.ref l) (upd H l (.lst (ns'.map V.int)))
def bJ {X:Cx}(K:Frag)(h:X.K=K:=by rfl):B1 X (.builtin "sorted") (ue K):=h▸ck
def qD (P:Program)(w:World)(l:Addr)(ns:List Int):HO:=.ext λh=>P4 (intKind P w) h l (λk=>decide (k∈ns)) (A6 ns).length
def wt (K:Frag)(P:Program)(w:World):List V->Hp->VK->Prop:=λxs H Q=>∃(p:Addr)(ns:List Int),xs=[.ref p]/\SqL K H p (ns.map V.int)/\ns.length<4000/\∀l,H l=none->Q (.ref l) (upd H l (qD P w l ns))
def aC {X:Cx}(K:Frag)(P:Program)(w:World)(hc:X.calm=true)(h:X.K=K:=by rfl)(hP:X.prog=P:=by rfl)(hw:X.w=w:=by rfl):B1 X (.type "set") (wt K P w):=by
 subst h hP hw;exact gB hc
def ki (P:Program)(w:World):List V->Hp->VK->Prop:=λxs H Q=>∃(p:Addr)(ns:List Int),xs=[.ref p]/\H p=some (qD P w p ns)/\ns.length<64/\∀l,H l=none->Q (.ref l) (upd H l (.lst ((A6 ns).map V.int)))
def aO {X:Cx}(P:Program)(w:World)(hc:X.calm=true)(hP:X.prog=P:=by rfl)(hw:X.w=w:=by rfl):B1 X (.builtin "sorted") (ki P w):=by
 subst hP hw;exact dF hc
def yM (P:Program)(w:World):List V->Hp->VK->Prop:=λxs H Q=>∃(p:Addr)(ns:List Int),xs=[.ref p]/\H p=some (qD P w p ns)/\Q (.int (A6 ns).length) H
def bp {X:Cx}(P:Program)(w:World)(hP:X.prog=P:=by rfl)(hw:X.w=w:=by rfl):B1 X (.builtin "len") (yM P w):=by
 subst hP hw;exact call_len_set
def lC (K:Frag):List V->Hp->VK->Prop:=λxs H Q=>∃(p:Addr)(as:List Addr)(its:List (List V))(r:Nat->Int),xs=[.ref p]/\SqL K H p (as.map V.ref)/\cw K H as its/\as.length<64 /\
  (∀i j x y,its[i]? = some x->its[j]? = some y->dA x y=some (decide (r i<r j)))/\∀q:Array Nat,q.Perm (List.range as.length).toArray->Up r q as.length->∀l,H l=none->Q (.ref l) (upd H l (.lst ((q.toList.map λi=>as.getD i 0).map V.ref)))
def U0 {X:Cx}(K:Frag)(h:X.K=K:=by rfl):B1 X (.builtin "sorted") (lC K):=h▸cm
def zF (K:Frag):R2:=λx y H Q=>∃(a b:Addr)(ns ms:List Int),x=.ref a/\y=.ref b/\SqL K H a (ns.map V.int)/\SqL K H b (ms.map V.int)/\Q (.bl (decide (ns=ms))) H
def uR {X:Cx}(K:Frag)(hu:X.A.units<cLine)(h:X.K=K:=by rfl):OpR X (compareOp .Eq) (zF K):=h▸vH hu
section
variable {δ:Type}[DecidableEq δ]{n:Nat}
def zp (K:Frag)(R:Hp->V->δ->Prop):R2:=λx y H Q=>∃ds ds',jE K R H x ds/\jE K R H y ds'/\Q (.bl (!decide (ds=ds'))) H
def zq (K:Frag)(R:Hp->V->δ->Prop):R2:=λx y H Q=>∃ds ds',jE K R H x ds/\jE K R H y ds'/\Q (.bl (decide (ds=ds'))) H
def vQ {X:Cx}{R:Hp->V->δ->Prop}(K:Frag)(ep:W9 X n R)(hu:X.A.units+1+n<cLine)(h:X.K=K:=by rfl):OpR X (compareOp .NotEq) (zp K R):=h▸xJ ep hu
def uQ {X:Cx}{R:Hp->V->δ->Prop}(K:Frag)(ep:W9 X n R)(hu:X.A.units+1+n<cLine)(h:X.K=K:=by rfl):OpR X (compareOp .Eq) (zq K R):=h▸xF ep hu
end
def zo (K:Frag)(ta:TE):TT:=λσ H Q=>ta σ H λx H'=>∃k,xM K x H' k/\Q k H'
def B0 (K:Frag)(ha:PE X a ta)(he:∀whole,isTrue a X.env whole=(do let v <- whole;standAt a.pos;holding [v] (truthy v)))(h:X.K=K:=by rfl):PT X a (zo K ta):=h▸tw ha he
def m7 (K:Frag)(hl:PE X l tl)(h:X.K=K:=by rfl):PI X tg l (wB K tl):=h▸vx hl
def dP (K:Frag)(hl:PE X l tl)(h:X.K=K:=by rfl):PI X tg l (yZ K tl):=h▸xm hl
def vA (b:Bool)(K:Frag){kk:Nat}(hg:Gl X "zip")(hm:X.mg "zip" = none)(ha:PA X [e1,e2] ta)(h:X.K=K:=by rfl)(hs:starEach [e1,e2] X.env=[(false,eval e1 X.env),(false,eval e2 X.env)]:=by rfl)(hs2:starEach [e2] X.env=[(false,eval e2 X.env)]:=by rfl) :
  PI X (.Tuple es kk tpos) (.Call (.Name "zip" p) [e1,e2] [] pos) (ya b K ta):=h▸xR hg hm ha hs hs2
variable {i j k l n:Nat}{px py pz pw pt:Pos}
def zj {X:Cx}(K:Frag)(hc:X.calm=true)(nd:X.N.Nodup)(a:Nm X i x)(b:Nm X j y)(h:X.K=K:=by rfl):PG X (.Tuple [.Name x px,.Name y py] n pt) (um K 2 (Z4 (P2 i) (Z4 (P2 j) tq))):=h▸pg2 hc nd a b
def yF {X:Cx}(K:Frag)(hc:X.calm=true)(nd:X.N.Nodup)(a:Nm X i x)(b:Nm X j y)(c:Nm X k z)(h:X.K=K:=by rfl):PG X (.Tuple [.Name x px,.Name y py,.Name z pz] n pt) (um K 3 (Z4 (P2 i) (Z4 (P2 j) (Z4 (P2 k) tq)))):=h▸pg3 hc nd a b c
end
section
variable {t:TA}{T id:String}
def F8 {apos cpos:Pos}(K:Frag)(pa:PlainAttrs T)(slot:Slot T name id)(hty:typeOf (.builtin id)=pure (.type "method_descriptor"))(hm:MtR X id r)(ho:PE X o to)(ha:PA X (e::es) t)(h:X.K=K:=by rfl)
  (hbase:attributeBase o name X.env (eval o X.env)=eval o X.env:=by rfl)
  (hfew:((backTo cpos (starEach (e::es) X.env)).all (λx=>!x.1)&&(backToKw cpos (keywordEach [] X.env)).all (λx=>x.1.isSome)
  &&decide ((e::es).length+([]:List Keyword).length+(if ([]:List Keyword).isEmpty then 0 else 1)<30))=true:=by rfl)
  (hline:(apos.endLine==cpos.line)=true:=by rfl) (hs:starEach (e::es) X.env=(false,eval e X.env)::starEach es X.env:=by rfl) (hplain:(backTo cpos (starEach es X.env)).any (·.1)=false:=by rfl) :
  PE X (.Call (.Attribute o name apos) (e::es) [] cpos) (tBM K T r to t):=h▸yS pa slot hty hm ho ha hbase hfew hline hs hplain
end
def uJ (K:Frag)(H:Hp)(as:List Addr)(ds:List (List Int)):Prop:=Paired (λa d=>SqT K H a (d.map V.int)) as ds
theorem A5 {α β:Type}{R R':α->β->Prop}{as:List α}{ds:List β}(h:Paired R as ds)(hi:∀a b,b∈ds->R a b->R' a b):Paired R' as ds:=by
 induction h with
 | nil=>exact .nil
 | cons h t ih=>exact .cons (hi _ _ (n_ ..) h) (ih λa b hb=>hi a b (o_ _ hb))
theorem C0.units2 {k:Nat}(r:C0 k A):A.units+1+(0+1)<cLine:=by have:=r.un;lia
def B5:MtR X "list.append" pO:=rA
def oM:MtR X "list.extend" qj:=qS
theorem Y3:∀d:List Int,Paired (yR H) (d.map V.int) d
 | []=>.nil
 | _::t=>.cons rfl (Y3 t)
def wK:Hp->V->Key->Prop:=λ_ x k=>x=kV k
def nJ:W9 X 0 wK where
 eq:=λH x y dx dy hx hy A pins s σ u v I ru rv hu=>by
  subst hx hy
  rcases dx with i|i<;>rcases dy with j|j
  ·obtain⟨t,rfl⟩:=ru
   obtain⟨t',rfl⟩:=rv
   have:=Fc (A:=A) (s:=s) i t j t'
   rw[show decide ((Sum.inl i:Key)=Sum.inl j)=(i==j) by rw[Ew];simp]
   exact this
  ·obtain⟨t,rfl⟩:=ru
   obtain⟨t',rfl⟩:=rv
   have:=SeqAt.EqAt.int_str (A:=A) (s:=s) i t j t'
   rw[b_ (λz=>nomatch z)];exact this
  ·obtain⟨t,rfl⟩:=ru
   obtain⟨t',rfl⟩:=rv
   have:=SeqAt.EqAt.str_int (A:=A) (s:=s) i t j t'
   rw[b_ (λz=>nomatch z)];exact this
  ·obtain⟨t,rfl⟩:=ru
   obtain⟨t',rfl⟩:=rv
   have:=SeqAt.EqAt.str_str (A:=A) (s:=s) i t j t'
   rw[show decide ((Sum.inr i:Key)=Sum.inr j)=(i==j) by rw[Ew];simp]
   exact this
 fn:=λ_ _ _ _ x d d' _ h h'=>by subst h;exact xA h'
def inD (ds:List (List Key))(d:List Key):Bool:=ds.any λx=>decide (x=d)
def bT:inD ds d=true↔d∈ds:=by
 unfold inD;rw[FH]
 constructor
 ·rintro⟨x,hx,h⟩
  rw[<- GT h];exact hx
 ·intro h
  exact⟨d,h,Fm rfl⟩
def yP (K:Frag)(neg:Bool):R2:=λx y H Q=>∃(p b:Addr)(as:List Addr)(d:List Key)(ds:List (List Key)),x=.ref b/\y=.ref p/\SqL K H p (as.map V.ref)/\SqT K H b (d.map kV)/\Paired (λa d=>SqT K H a (d.map kV)) as ds/\Q (.bl (if neg then !inD ds d else inD ds d)) H
theorem M7:∀d:List Key,Paired (wK H) (d.map kV) d
 | []=>.nil
 | _::t=>.cons rfl (M7 t)
def qf {X:Cx}{pins:List (Addr×Obj)}{σ:St}{H:Hp}{s:Shared}{b:Addr}{as:List Addr}{d:List Key}{ds:List (List Key)}{A:Around}(I:Inv X pins σ H s)(hb:SqT X.K H b (d.map kV))(hp:Paired (λa d=>SqT X.K H a (d.map kV)) as ds)
  (hu:A.units+1<cLine){its:List Value}(r:o6 (as.map V.ref) its) :
  ∃e:Value->Bool,(∀y,y∈its.toArray->SeqAt.EqAt A s y (.ref b) (e y))/\its.toArray.any e=inD ds d:=by
 have ep:=mD (X:=X) nJ;have rd:∀(j:Nat) a,as[j]? = some a->∃d',ds[j]? = some d'/\SqT X.K H a (d'.map kV):=λj a h=>j7 hp j a h
 have evs:its=as.map Value.ref:=by
  have go:∀(as:List Addr)(vs:List Value),o6 (as.map V.ref) vs->vs=as.map Value.ref:=by
   intro as
   induction as with
   | nil=>intro vs r;cases r;rfl
   | cons a t ih =>
    intro vs r
    rw[EX] at r
    cases r with
    | cons r1 r2=>rw[show _=Value.ref a from r1,ih _ r2];rfl
  exact go as its r
 subst evs
 let e:Value->Bool:=λy=>match y with
  | .ref a=>(List.range as.length).any λj=>decide (as[j]? = some a)&&decide (ds[j]? = some d)
  | _=>false
 have eR:∀a,e (.ref a)=true↔∃j:Nat,as[j]? = some a/\ds[j]? = some d:=λa=>by
  show((List.range as.length).any λj=>decide (as[j]? = some a)&&decide (ds[j]? = some d))=true↔_
  rw[FH]
  constructor
  ·rintro⟨j,_,h⟩
   rw[Fd] at h;exact⟨j,GT h.1,GT h.2⟩
  ·rintro⟨j,h1,h2⟩
   exact⟨j,j_.mpr (s_.mp h1).1,by rw[Fd];exact⟨Fm h1,Fm h2⟩⟩
 have key:∀(j:Nat) a d',as[j]? = some a->ds[j]? = some d'->e (.ref a)=decide (d'=d):=λj a d' h1 h2=>by
  rw[Ew,eR,FJ]
  constructor
  ·rintro⟨k,g1,g2⟩
   obtain⟨d1,q1,s1⟩:=rd j a h1;obtain⟨d2,q2,s2⟩:=rd k a g1;rw[h2] at q1;rw[g2] at q2
   cases q1
   cases q2
   exact ep.fn pins s σ H (.ref a) _ _ I ⟨a,_,Iu,s1,M7 _⟩ ⟨a,_,Iu,s2,M7 _⟩
  ·rintro rfl
   exact⟨j,h1,h2⟩
 refine⟨e,λy hy=>?_,?_⟩
 ·have hy':y∈as.map Value.ref:=by simpa using hy
  obtain⟨a,ha,rfl⟩:=GX.mp hy';obtain⟨j,hj⟩:=GY ha;obtain⟨d',q1,s1⟩:=rd j a hj;rw[key j a d' hj q1];exact ep.eq H (.ref a) (.ref b) d' d ⟨a,_,Iu,s1,M7 _⟩ ⟨b,_,Iu,hb,M7 _⟩ A pins s σ (.ref a) (.ref b) I rfl rfl (by lia)
 ·rw[Ew,bT,Array.any_eq_true']
  constructor
  ·rintro⟨y,hy,h⟩
   have hy':y∈as.map Value.ref:=by simpa using hy
   obtain⟨a,ha,rfl⟩:=GX.mp hy';obtain⟨j,_,h2⟩:=(eR a).mp h;exact ET h2
  ·intro h
   obtain⟨j,hj⟩:=GY h;have hl:as.length=ds.length:=d_ hp;have hj':=(s_.mp hj).1;have ea:as[j]? = some (as[j]'(by lia)):=Gb (by lia)
   exact⟨.ref (as[j]'(by lia)),by simp,(eR _).mpr ⟨j,ea,hj⟩⟩
def vO {X:Cx}(K:Frag)(hu:X.A.units+2<cLine)(h:X.K=K:=by rfl):OpR X (compareOp .In) (yP K false):=by
 subst h
 intro pins s σ H x y v u Q I rx ry h
 obtain⟨p,b,as,d,ds,rfl,rfl,hq,hb,hp,q⟩:=h
 cases rx
 cases ry
 obtain⟨its,r,pl,hz⟩:=I.list hq;obtain⟨e,h1,h2⟩:=qf (A:=X.A.in1) I hb hp (by show X.A.units+1+1<cLine;lia) r
 refine SeqAt.in_listAt e pl.isList h1 ⟨.bl _,H,I,Iu,?_⟩;rw[h2];exact q
def eO {X:Cx}(K:Frag)(hu:X.A.units+2<cLine)(h:X.K=K:=by rfl):OpR X (compareOp .NotIn) (yP K true):=by
 subst h
 intro pins s σ H x y v u Q I rx ry h
 obtain⟨p,b,as,d,ds,rfl,rfl,hq,hb,hp,q⟩:=h
 cases rx
 cases ry
 obtain⟨its,r,pl,hz⟩:=I.list hq;obtain⟨e,h1,h2⟩:=qf (A:=X.A.in1) I hb hp (by show X.A.units+1+1<cLine;lia) r
 refine SeqAt.notIn_listAt e pl.isList h1 ⟨.bl _,H,I,Iu,?_⟩;rw[h2];exact q
theorem C0.unitsT {k:Nat}(r:C0 k A):A.units+2<cLine:=by have:=r.un;lia
def uN:PIp X .BitOr (rI0 λi j=>.int (Builtin.bitOr i j)):=xN
def iN {X:Cx}(K:Frag)(h:X.K=K:=by rfl):xu X (λx y H Q=>∃p xs i z,x=.ref p/\y=.int i/\SqL K H p xs/\0<=i/\xs[i.toNat]? = some z/\Q z H):=by
 subst h
 intro pins s σ H x y v u Q I rx ry h
 obtain⟨p,xs,i,z,rfl,rfl,hq,h0,he,q⟩:=h
 cases rx
 obtain⟨t,rfl⟩:=ry;obtain⟨its,r,pl,hz⟩:=I.list hq;obtain⟨w,ew,rw'⟩:=r.get he;have hl:=r.length;have hi:=(s_.mp he).1;have hn:=Y9;exact wpAny_getItem_list pl.isList h0 (by lia) (by simpa using ew) ⟨z,H,I,rw',q⟩
section
def yp (i j:Int):Prop:=0<j/\j<18446744073709551616
def sr:OpR X (binaryOp .FloorDiv) (rI yp λi j=>.int (i/j)):=opI λi j _ _ _ _ _ hc q=>by
 have h1:(0:Int)<j:=hc.1;have h2:j<18446744073709551616:=hc.2;refine floordiv_int (by lia) (by rw[Ev i (by lia)];exact q) (.inl (PyProof.noPylong_of_log2 ?_))
 have h3:j.natAbs<2^64:=by lia
 have h4:j.natAbs≠0:=by lia
 have:=(Nat.log2_lt h4).mpr h3
 lia
variable {δ:Type}[DecidableEq δ]{n:Nat}
def wM {X:Cx}{R:Hp->V->δ->Prop}(ep:W9 X n R):W9 X (n+1) (jE X.K R) where
 eq:=λH x y dx dy hx hy A pins s σ u v I ru rv hu=>by
  obtain⟨a,xs,rfl,ha,px⟩:=hx;obtain⟨b,ys,rfl,hb,py⟩:=hy
  cases ru
  cases rv
  by_cases hab:a=b
  ·subst hab
   have:=I.list_inj ha hb
   subst this;rw[ax ep I px py,Fm rfl];exact Fb _
  ·obtain⟨us,r1,p1,_⟩:=I.list ha
   obtain⟨vs,r2,p2,_⟩:=I.list hb;have l1:=r1.length;have l2:=r2.length;have l3:=d_ px;have l4:=d_ py;refine SeqAt.EqAt.of_refs hab ?_
   by_cases hl:dx.length=dy.length
   ·have:=FL (A:=A) (e:=λj=>decide (dx[j]? = dy[j]?)) p1.isList p2.isList (by simp only[Ey];lia) (by lia) (bN ep I px py r1 r2 (by show A.units+1+n<cLine;lia))
    rw[Ey,show us.length=dx.length by lia,dU dx dy hl] at this
    exact this
   ·rw[b_ (λz=>hl (by rw[z]))]
    exact FM p1.isList p2.isList (by simp only[Ey];simpa using (by lia:us.length≠vs.length)) (by lia)
 fn:=λpins s σ H x d d' I h h'=>by
  obtain⟨a,xs,rfl,ha,px⟩:=h;obtain⟨b,ys,e,hb,py⟩:=h'
  cases e
  have:=I.list_inj ha hb
  subst this;exact ax ep I px py
end
structure dv (K:Frag)(mg:Str->Option Value)(x:Str)(st:Stmt)(ps:List Str)(dvs:List V):Prop where
 ex:∃(f:Addr)(fd:FuncData),(∃(oc:Value)(od:Option Addr)(dV kV doc pm:Value)(an:Option Addr)(cdv ct:Value)(osl:Array (Option Value)),
   fd=fnOf x x (x8 st) (o7 st) (i4 st) dV kV doc pm an cdv ct/\K.lookup f=some ⟨oc,od,.func fd,osl⟩/\codeIn K cdv x=true)/\keepIn K (.ref f)=true /\
  (∀m,m<=dvs.length->∃ds,o6 (dvs.drop m) ds/\X3 K fd ps ds)/\mg x=some (.ref f)
structure W8 (P:Program)(w:World)(K:Frag)(mg:Str->Option Value)(base:Heap)(k:Nat)(x:Str)(ps:List Str)(dvs:List V)(sp:Sp):Prop where
 ex:∃(f:Addr)(fd:FuncData),bF P w K mg base CX0 k f fd ps sp/\(∀m,m<=dvs.length->∃ds,o6 (dvs.drop m) ds/\X3 K fd ps ds)/\keepIn K (.ref f)=true/\mg x=some (.ref f)
section
variable {K:Frag}
theorem dv.ok {st:Stmt}{k:Nat}{sp:Sp}(D:dv K mg x st ps dvs)(S:FnScope N ps (i4 st))(len:∀vs H Q E,sp vs H Q E->vs.length=ps.length)
  (hbody:∀(f:Addr)(cdv:Value)(A:Around)(outer:List Env)(s:Shared)(H:Hp)(vs:List V)(Q:VK)(E:XK),C0 k (A.deeper (envOfC x (i4 st) s.heap.objs.size f cdv))->sp vs H Q E ->
   ∃t,PSs (R1 CX0 P w K mg base N x (i4 st) f cdv A outer s H E).nox (o7 st) t/\t { nx:=λ_ H'=>Q .non H',rt:=Q } (start N vs) H):W8 P w K mg base (k+1) x ps dvs sp:=by
 obtain⟨f,fd,⟨oc,od,dV,kV,doc,pm,an,cdv,ct,osl,rfl,lk,hcd⟩,kp,b,m⟩:=D.ex;refine⟨f,_,jO lk hcd S len λA outer s H vs Q E hr hsp=>?_,b,kp,m⟩;obtain⟨t,h,q⟩:=hbody f cdv A outer s H vs Q E hr hsp;exact⟨t,h.nox,q⟩
theorem W8.all {k:Nat}(C:W8 P w K mg base k x ps dvs sp):i6 P w K mg base k x ps sp:=by
 obtain⟨f,fd,F,b,kp,m⟩:=C.ex;obtain⟨ds,hv,hb⟩:=b dvs.length (Eo _);rw[List.drop_length] at hv
 cases hv
 exact⟨f,fd,F,hb,kp,m⟩
end
def xl (K:Frag):R2:=λx y H Q=>∃(a b:Addr)(xs:List V),x=.ref a/\y=.ref b/\SqL K H a xs/\SqL K H b []/\Q (.bl (!decide (xs=[]))) H
theorem gX {X:Cx}(K:Frag)(hu:X.A.units<cLine)(h:X.K=K:=by rfl):OpR X (compareOp .NotEq) (xl K):=by
 subst h
 intro pins s σ H x y v u Q I rx ry h
 obtain⟨a,b,xs,rfl,rfl,ha,hb,q⟩:=h
 cases rx
 cases ry
 obtain⟨us,r1,p1,_⟩:=I.list ha;obtain⟨vs,r2,p2,_⟩:=I.list hb
 cases r2
 have l1:=r1.length
 cases xs with
 | nil =>
  cases r1
  refine SeqAt.RcNeAt.lists (e:=λj=>true) p1.isList p2.isList rfl (by lia) (λj h1 h2=>absurd h1 (by simp)) X.prog X.w X.xe _ ?_
  exact⟨.bl false,H,I,Iu,q⟩
 | cons x t =>
  refine SeqAt.RcNeAt.lists_lengths p1.isList p2.isList (by simp only[Ey];rw[<- l1];simp) (by lia) X.prog X.w X.xe _ ?_
  exact⟨.bl true,H,I,Iu,q⟩
def xG (K:Frag):R2:=λx y H Q=>∃(a b:Addr)(xs:List V),x=.ref a/\y=.ref b/\SqL K H a xs/\SqL K H b []/\Q (.bl (decide (xs=[]))) H
theorem iC {X:Cx}(K:Frag)(hu:X.A.units<cLine)(h:X.K=K:=by rfl):OpR X (compareOp .Eq) (xG K):=by
 subst h
 intro pins s σ H x y v u Q I rx ry h
 obtain⟨a,b,xs,rfl,rfl,ha,hb,q⟩:=h
 cases rx
 cases ry
 obtain⟨us,r1,p1,_⟩:=I.list ha;obtain⟨vs,r2,p2,_⟩:=I.list hb
 cases r2
 have l1:=r1.length
 cases xs with
 | nil =>
  cases r1
  refine FL (e:=λj=>true) p1.isList p2.isList rfl (by lia) (λj h1 h2=>absurd h1 (by simp)) X.prog X.w X.xe _ ?_
  exact⟨.bl true,H,I,Iu,q⟩
 | cons x t =>
  refine FM p1.isList p2.isList (by simp only[Ey];rw[<- l1];simp) (by lia) X.prog X.w X.xe _ ?_
  exact⟨.bl false,H,I,Iu,q⟩
def jr {A u:TS}{D:bL}(S:St->Hp->Prop)(h1:∀R:St->Hp->Prop,(∀σ' H',S σ' H'->R σ' H')->A { D with nx:=R } σ H)(h2:∀σ' H',S σ' H'->u D σ' H'):yl A u D σ H:=h1 (u D) h2
end L2
namespace L2
open PySem PyProof.Rows
def Z7 (kf:Nat->Int)(j:Nat):Option Nat->Prop
 | none=>j=0
 | some i=>i<j/\∀j',j'<j->kf i<=kf j'/\(j'<i->kf i<kf j')
def xb (vs:List Value)(kf:Nat->Int)(xs:Array Value):Option Nat->Prop
 | none=>xs=#[]
 | some i=>∃v t,vs[i]? = some v/\xs=#[v,.int (kf i) t]
def rK {j i:Nat}(b:Z7 kf j (some i))(h:kf j<kf i):Z7 kf (j+1) (some j):=by
 refine⟨FD _,λj' hj'=>?_⟩
 by_cases e:j'=j
 ·subst e
  exact⟨GN _,λz=>absurd z (g_ _)⟩
 ·have:=(b.2 j' (by lia)).1
  exact⟨by lia,λ_=>by lia⟩
def qQ {j i:Nat}(b:Z7 kf j (some i))(h:¬kf j<kf i):Z7 kf (j+1) (some i):=by
 refine⟨Gp b.1,λj' hj'=>?_⟩
 by_cases e:j'=j
 ·subst e
  have:=b.1
  exact⟨by lia,λz=>by lia⟩
 ·exact b.2 j' (by lia)
def mJ:Z7 kf 1 (some 0):=⟨Nat.one_pos,λj' hj'=>by
 have e:j'=0:=by lia
 subst e
 exact⟨GN _,λz=>absurd z (g_ _)⟩⟩
abbrev kwD:List (Str×Value):=[(Str.ofString "default",.none)]
theorem rk {A:Around}{s:Shared}{R:Result->Shared->Prop}{h0:Heap}{vs:List Value}(kf:Nat->Int)(hh:A.handled=none)(hlI:l≠I)(hSI:S≠I)(fI:h0.get? I=none)(fS:h0.get? S=none)(hl:h0.IsList l vs.toArray)
  (hv:∀i v,vs[i]? = some v->∃(p:Addr)(its:Array Value),v=.ref p/\h0.IsList p its/\((its.size:Nat):Int)=kf i/\((its.size:Nat):Int)<2^63)
  (hR:∀(cur:Option Nat)(h':Heap)(tk:Nat),Z7 kf vs.length cur->(∀b o,h0.get? b=some o->h'.get? b=some o)->R (.ok (.ret ((cur.bind λi=>vs[i]?).getD .none))) { s with heap:=h',toks:=tk }) :
  ∀(r j:Nat)(cur:Option Nat)(h:Heap)(tk c:Nat)(xs:Array Value),vs.length-j=r->j<=vs.length->(∀b o,h0.get? b=some o->h.get? b=some o)->h.get? S=some (seqObj "list" xs c)->xb vs kf xs cur->Z7 kf j cur->h.IsListIter I l j ->
   codeAny (model prog w) A (.builtin "min.loop" ⟨[.ref I,.builtin "len",.ref S],kwD⟩) R { s with heap:=h,toks:=tk }:=by
 have nm:(toString "min"++toString ".loop":String) = "min.loop":=by decide
 have W:=FI (prog:=prog) (w:=w) (A:=A.in1) hh I l hlI vs.toArray;have sz:vs.toArray.size=vs.length:=Ey ..
 intro r
 induction r with
 | zero =>
  intro j cur h tk c xs hr hj kp gS ka ba it
  obtain rfl:j=vs.length:=by lia
  refine Gw PySem.F.entry_min_loop ?_;rw[Gx GZ _]
  show wpAny _ A.in1 (seqItems? (.ref S) >>= _) _ _ _
  refine w_ (Gn gS rfl ?_)
  show wpAny _ A.in1 (tryCatch (pyNext (.ref I)) _ >>= _) _ _ _
  have hl1:h.IsList l vs.toArray:=hl.at λo e=>kp _ _ e;refine w_ (H_ (W.done _ _ _ ⟨by rw[sz];exact it,hl1⟩ λh1 tk1 k1=>?_))
  have kp1:∀b o,h0.get? b=some o->h1.get? b=some o:=λb o e=>k1 b o (by
   rw[Fx]
   rintro rfl
   rw[fI] at e
   cases e) (kp b o e)
  cases cur with
  | none =>
   cases (show xs=#[] from ka)
   show wpAny _ A.in1 (rule _ >>= λ_=>ret Value.none) _ _ _
   exact w_ (Ge (u_ (hR none h1 tk1 ba kp1)))
  | some i =>
   obtain⟨v,t,ev,rfl⟩:=ka;have gS1:h1.get? S=some (seqObj "list" #[v,.int (kf i) t] c):=k1 S _ (by rw[Fx];exact hSI) gS
   show wpAny _ A.in1 (updateSeq S (λ_=>#[]) >>= _) _ _ _
   refine w_ (GB gS1 rfl (w_ (wpAny_letGo (u_ ?_))));have sb:=Gc h1 S (Obj.mapSeq λ_=>(#[]:Array Value))
   have:=hR (some i) (h1.update S (Obj.mapSeq λ_=>(#[]:Array Value))) tk1 ba (λb o e=>by
    have:b≠S:=by
     rintro rfl
     rw[fS] at e
     cases e
    rw[sb.2 b this]
    exact kp1 b o e)
   rw[show((some i:Option Nat).bind λi=>vs[i]?).getD .none=v by rw[Option.bind_some,ev];rfl] at this
   exact this
 | succ r ih =>
  intro j cur h tk c xs hr hj kp gS ka ba it
  have hlt:j<vs.length:=by lia
  refine Gw PySem.F.entry_min_loop ?_;rw[Gx GZ _]
  show wpAny _ A.in1 (seqItems? (.ref S) >>= _) _ _ _
  refine w_ (Gn gS rfl ?_)
  show wpAny _ A.in1 (tryCatch (pyNext (.ref I)) _ >>= _) _ _ _
  have hl1:h.IsList l vs.toArray:=hl.at λo e=>kp _ _ e;refine w_ (H_ (W.item j _ _ _ (by rw[sz];exact hlt) ⟨it,hl1⟩ λv h1 tk1 pv st1 k1=>?_))
  have ev:vs[j]? = some v:=by simpa using pv
  have kp1:∀b o,h0.get? b=some o->h1.get? b=some o:=λb o e=>k1 b o (by
   rw[Fx]
   rintro rfl
   rw[fI] at e
   cases e) (kp b o e)
  have gS1:h1.get? S=some (seqObj "list" xs c):=k1 S _ (by rw[Fx];exact hSI) gS
  obtain⟨p,its,rfl,lp,lk,l63⟩:=hv j v ev
  show wpAny _ A.in1 (tryCatch (holding [Value.ref p] (call (.builtin "len") [Value.ref p])) _ >>= _) _ _ _
  refine w_ (H_ (D_ (Calls.call_len_list (lp.at λo e=>kp1 _ _ e) l63 ?_)));rw[lk]
  have frame:∀(ys:Array Value),(∀b o,h0.get? b=some o->(h1.update S (Obj.mapSeq λ_=>ys)).get? b=some o)/\(h1.update S (Obj.mapSeq λ_=>ys)).IsListIter I l (j+1):=λys=>by
   have sb:=Gc h1 S (Obj.mapSeq λ_=>ys);refine⟨λb o e=>?_,?_⟩
   ·have:b≠S:=by
     rintro rfl
     rw[fS] at e
     cases e
    rw[sb.2 b this];exact kp1 b o e
   ·exact st1.1.at λo e=>by rw[sb.2 I (Im hSI)];exact e
  cases cur with
  | none =>
   cases (show xs=#[] from ka)
   obtain rfl:j=0:=ba
   show wpAny _ A.in1 (updateSeq S (λ_=>#[Value.ref p,.int (kf 0) (tk1+1)]) >>= _) _ _ _
   refine w_ (GB gS1 rfl ?_);rw[nm];exact u_ ⟨Gy GZ _,ih 1 (some 0) _ _ _ _ (by lia) (by lia) (frame _).1 (GU gS1 _) ⟨_,_,ev,Iu⟩ mJ (frame _).2⟩
  | some i =>
   obtain⟨vb,tb,evb,rfl⟩:=ka
   show wpAny _ A.in1 (tryCatch (holding [Value.ref p,.int (kf j) (tk1+1)] (richCompare .Lt (.int (kf j) (tk1+1)) (.int (kf i) tb) >>= _)) _ >>= _) _ _ _
   refine w_ (H_ (D_ (w_ (CmpOf.ints_lt (prog:=prog) (w:=w) (A:=A.in1) (P:=λi v=>∃t,v=.int (kf i) t) kf (λi v z=>z) j i _ _ _ _ _ ⟨_,Iu⟩ ⟨_,Iu⟩ ?_))));refine w_ (D_ (y_ ?_));refine w_ (wpAny_letGo (u_ ?_))
   by_cases less:kf j<kf i
   ·simp only[less,decide_true,F_]
    refine w_ (GB gS1 rfl (w_ (wpAny_letGo ?_)));rw[nm];exact u_ ⟨Gy GZ _,ih (j+1) (some j) _ _ _ _ (by lia) (by lia) (frame _).1 (GU gS1 _) ⟨_,_,ev,Iu⟩ (rK ba less) (frame _).2⟩
   ·simp only[less,decide_false,Fy,Fa]
    refine w_ (wpAny_letGo ?_);rw[nm];exact u_ ⟨Gy GZ _,ih (j+1) (some i) _ _ _ _ (by lia) (by lia) kp1 gS1 ⟨_,_,evb,Iu⟩ (qQ ba less) st1.1⟩
def lB (a v d:Value):argsOk "min" ⟨[a],[(Str.ofString "key",v),(Str.ofString "default",d)]⟩:=by unfold argsOk;kernel_rfl
def vM {A:Around}{s:Shared}{vs:List Value}{Q:Value->Shared->Prop}(kf:Nat->Int)(hh:A.handled=none)(hl:s.heap.IsList l vs.toArray)
  (hv:∀i v,vs[i]? = some v->∃(p:Addr)(its:Array Value),v=.ref p/\s.heap.IsList p its/\((its.size:Nat):Int)=kf i/\((its.size:Nat):Int)<2^63)
  (hQ:∀(cur:Option Nat)(h':Heap)(tk:Nat),Z7 kf vs.length cur->(∀b o,s.heap.get? b=some o->h'.get? b=some o)->Q ((cur.bind λi=>vs[i]?).getD .none) { s with heap:=h',toks:=tk }) :
  wpAny (model prog w) A (call (.builtin "min") [.ref l] [(Str.ofString "key",.builtin "len"),(Str.ofString "default",.none)]) Q E s:=by
 have nm:(toString "min"++toString ".loop":String) = "min.loop":=by decide
 obtain⟨ol,gl,_⟩:=id hl;have ll:l<s.heap.objs.size:=f_ gl;refine kmb_tree PySem.F.kind_min PySem.F.plain_min PySem.F.entry_min (lB _ _ _) ?_
 show wpAny _ A.in1 (Builtin.Builtins.bindParams "min" ["key","default"] 0 ⟨[],[(Str.ofString "key",.builtin "len"),(Str.ofString "default",.none)]⟩ >>= _) _ _ s
 refine w_ (wpAny_of_eq (show Builtin.Builtins.bindParams "min" ["key","default"] 0 ⟨[],[(Str.ofString "key",.builtin "len"),(Str.ofString "default",.none)]⟩=pure [some (.builtin "len"),some .none] from rfl) ?_);refine w_ (u_ (w_ (El hl (w_ (GD ?_ (Et _))))));rw[nm];have zS:(s.heap.push { cls:=.type "list_iterator",data:=.fields #[.ref l,.int 0 0] }).objs.size=s.heap.objs.size+1:=size_push' ..;refine u_ ⟨Gy GZ _,?_⟩;refine rk (s:=s) (h0:=s.heap) kf hh (h_ ll) (show(s.heap.push { cls:=.type "list_iterator",data:=.fields #[.ref l,.int 0 0] }).objs.size≠s.heap.objs.size from by rw[zS];exact Nat.succ_ne_self _) (on (Eo _)) (on (by rw[zS];exact FE _)) hl hv hQ _ 0 none _ _ 0 #[] rfl (Et _) (λb o e=>Em _ (Em _ e)) (En _ rfl) rfl rfl ⟨_,Em _ (En _ rfl),Iu,Iu⟩
end L2
namespace L2
open PySem PySem.Spec PyProof.Rows
section
variable {t:TA}{j:Nat}
def wu (K:Frag)(H:Hp):List Addr->List (List V)->Prop:=Paired λr row=>SqL K H r row
def Y7 (rows:List (List V))(i:Nat):Int:=((rows.getD i []).length:Nat)
def yD (K:Frag)(t:TA):TE:=λσ H Q=>t σ H λvs H1=>∃(l:Addr)(rs:List Addr)(rows:List (List V)),vs=[.ref l]/\SqL K H1 l (rs.map V.ref)/\wu K H1 rs rows/\(rs=[]->Q .non H1) /\
 ∀(i:Nat)(r:Addr),rs[i]? = some r->(∀j,j<rs.length->Y7 rows i<=Y7 rows j/\(j<i->Y7 rows i<Y7 rows j))->Q (.ref r) H1
def qK {X:Cx}{e:Expr}{p p1 p2 k1 k2 pos:Pos}(K:Frag)(hc:X.calm=true)(hg:Gl X "min")(hm:X.mg "min" = none)(hgl:Gl X "len")(hml:X.mg "len" = none)(ha:PA X [e] t)(hK:X.K=K:=by rfl)
  (he:starEach [e] X.env=(false,eval e X.env)::starEach [] X.env:=by rfl) (hall:(backToKw pos (keywordEach [⟨some "key",.Name "len" p1,k1⟩,⟨some "default",.Constant .none j p2,k2⟩] X.env)).all (·.1.isSome)=true:=by rfl)
  (hks:(backToKw pos (keywordEach [⟨some "key",.Name "len" p1,k1⟩,⟨some "default",.Constant .none j p2,k2⟩] X.env)).filterMap (·.1)=[Str.ofString "key",Str.ofString "default"]:=by rfl)
  (hkn:(backToKw pos (keywordEach [⟨some "key",.Name "len" p1,k1⟩,⟨some "default",.Constant .none j p2,k2⟩] X.env)).any (·.1.isNone)=false:=by rfl)
  (hpl:(backTo pos (starEach [e] X.env)).any (·.1)=false:=by rfl) :
  PE X (.Call (.Name "min" p) [e] [⟨some "key",.Name "len" p1,k1⟩,⟨some "default",.Constant .none j p2,k2⟩] pos) (yD K t):=by
 subst hK
 intro pins s σ H Q I h
 refine EK (bh I hg hm boot_min ?_ (by decide) (by decide))
 refine callWith_builtin_kwB hpl hkn ?_;refine PyProof.Rows.evalArgs_kw2 hall (thx (ha pos pins s σ H _ I h) λus s1 vs H1 I1 r1 q1=>?_) he;refine kws_cons (bh I1 hgl hml PySem.boot_len (kws_cons (Constant_none (kws_nil ?_))));rw[hks];obtain⟨l,rs,rows,rfl,hl,hr,q0,qi⟩:=q1;obtain⟨u,rfl,rx⟩:=K5 r1
 cases rx
 obtain⟨its,rv,pl,hz⟩:=I1.list hl;have ln:=rv.length;rw[EV] at ln
 have at1:∀i v,its[i]? = some v->∃r row,rs[i]? = some r/\rows[i]? = some row/\v=Value.ref r/\SqL X.K H1 r row:=λi v hv=>by
  have hi:=(s_.mp hv).1;have er:rs[i]? = some (rs[i]'(by lia)):=Gb _
  obtain⟨row,e1,e2⟩:=j7 hr i _ er;have em:(rs.map V.ref)[i]? = some (V.ref (rs[i]'(by lia))):=by rw[ER,er];rfl
  obtain⟨u,w1,w2⟩:=rv.get em;rw[hv] at w1
  cases w1
  exact⟨_,row,er,e1,w2,e2⟩
 show wpAny _ _ (call (.builtin "min") [.ref l] [(Str.ofString "key",.builtin "len"),(Str.ofString "default",.none)]) _ _ _
 refine vM (Y7 rows) (I1.ok.hd hc) pl.isList (λi v hv=>?_) λcur h' tk ba kp=>?_
 ·obtain⟨r,row,e1,e2,rfl,hq⟩:=at1 i v hv
  obtain⟨ys,rv2,pl2,hz2⟩:=I1.list hq;have l2:=rv2.length;have hn:=Y9;refine⟨r,ys.toArray,Iu,pl2.isList,?_,by rw[Ey];lia⟩
  unfold Y7;rw[List.getD,e2,Ey,<- l2];rfl
 ·have I2:Inv X pins σ H1 { s1 with heap:=h',toks:=tk }:=I1.kept λb o e=>kp b o e
  cases cur with
  | none =>
   have z:its.length=0:=ba
   have:rs=[]:=Ha.mp (by lia)
   exact⟨.non,H1,I2,Iu,q0 this⟩
  | some i =>
   have hi:i<its.length:=ba.1;obtain⟨r,row,e1,e2,e3,hq⟩:=at1 i _ (Gb hi)
   have:((some i:Option Nat).bind λi=>its[i]?).getD .none=Value.ref r:=by
    rw[Option.bind_some,Gb hi,e3];rfl
   rw[this];exact⟨.ref r,H1,I2,Iu,qi i r e1 λj hj=>ba.2 j (by lia)⟩
end
structure FnQ (K:Frag)(x qual:Str)(st:Stmt)(f:Addr)(fd:FuncData):Prop where
 ex:∃(oc:Value)(od:Option Addr)(dV kV doc pm:Value)(an:Option Addr)(cdv ct:Value)(osl:Array (Option Value)),
  fd=fnOf x qual (x8 st) (o7 st) (i4 st) dV kV doc pm an cdv ct/\K.lookup f=some ⟨oc,od,.func fd,osl⟩/\codeIn K cdv qual=true
structure va (K:Frag)(C:Addr)(m qual:Str)(st:Stmt)(ps:List Str)(dvs:List V)(kb:FuncData->Prop):Prop where
 ex:∃(f:Addr)(fd:FuncData),FnQ K m qual st f fd/\yb K C m f/\kb fd/\∀j,j<=dvs.length->∃ds,o6 (dvs.drop j) ds/\X3 K fd ps ds
structure dO (P:Program)(w:World)(K:Frag)(mg:Str->Option Value)(base:Heap)(k:Nat)(C:Addr)(m:Str)(ps:List Str)(dvs:List V)(kb:FuncData->Prop)(sp:Sp):Prop where
 ex:∃(f:Addr)(fd:FuncData),bF P w K mg base CX0 k f fd ps sp/\yb K C m f/\kb fd/\∀j,j<=dvs.length->∃ds,o6 (dvs.drop j) ds/\X3 K fd ps ds
abbrev noKw:FuncData->Prop:=λ_=>True
section
variable {K:Frag}
theorem va.ok {st:Stmt}{k:Nat}{sp:Sp}(D:va K C m qual st ps dvs kb)(S:FnScope N ps (i4 st))(len:∀vs H Q E,sp vs H Q E->vs.length=ps.length)
  (hbody:∀(f:Addr)(cdv:Value)(A:Around)(outer:List Env)(s:Shared)(H:Hp)(vs:List V)(Q:VK)(E:XK),C0 k (A.deeper (envOfC qual (i4 st) s.heap.objs.size f cdv))->sp vs H Q E ->
   ∃t,PSs (R1 CX0 P w K mg base N qual (i4 st) f cdv A outer s H E).nox (o7 st) t/\t { nx:=λ_ H'=>Q .non H',rt:=Q } (start N vs) H):dO P w K mg base (k+1) C m ps dvs kb sp:=by
 obtain⟨f,fd,⟨oc,od,dV,kV,doc,pm,an,cdv,ct,osl,rfl,lk,hcd⟩,mt,hkb,b⟩:=D.ex;refine⟨f,_,jO lk hcd S len λA outer s H vs Q E hr hsp=>?_,mt,hkb,b⟩;obtain⟨t,h,q⟩:=hbody f cdv A outer s H vs Q E hr hsp;exact⟨t,h.nox,q⟩
end
section
variable {k n:Nat}{t:TA}
def pW {K:Frag}(hc:isClsIn K D=true)(ht:typeIn K (.ref D)=some (.type "type"))(hs:subIn K (.ref C) (.ref D)=some true):kitOne K (.ref C) (.ref D)=some true:=by
 unfold kitOne
 split
 ·rfl
 ·show(if ((clsIn K D).isSome&&typeIn K (.ref D)==some (.type "type"))=true then subIn K (.ref C) (.ref D) else none)=some true
  rw[Ik (by rw[show(clsIn K D).isSome=true from hc,ht];rfl),hs]
end
theorem u6.at_ (x:u6 P w H h a o):∃u,h.get? a=some u:=by
 cases o with
 | lst xs=>obtain⟨_,_,_,_,e⟩:=x;exact⟨_,e⟩
 | tup xs=>obtain⟨_,_,_,p⟩:=x;exact⟨_,p.choose_spec.1⟩
 | dK kvs=>obtain⟨_,_,_,_,o,_,_,e,_⟩:=x;exact⟨_,e⟩
 | dT kvs=>obtain⟨_,_,_,_,o,_,_,e,_⟩:=x;exact⟨_,e⟩
 | set S n=>obtain⟨o,_,_,_,e,_⟩:=x;exact⟨_,e⟩
 | ins C dx fs=>obtain⟨_,_,_,e,_⟩:=x;exact⟨_,e⟩
 | own y=>obtain⟨_,e⟩:=x;exact⟨_,e⟩
 | xd fs=>obtain⟨_,⟨_,_,_,e,_⟩,_⟩:=x;exact⟨_,e⟩
 | rng lo hi=>obtain⟨_,_,_,e⟩:=x;exact⟨_,e⟩
 | frz ob u=>obtain⟨e,_⟩:=x;exact⟨_,e⟩
 | tbl ps=>exact⟨_,(show h.get? a=some _ from x)⟩
 | met f y=>exact⟨_,(show h.get? a=some _ from x)⟩
 | ext φ=>obtain⟨_,e,_⟩:=x;exact e
structure Fly (fs:List Addr)(H1 H2:Hp)(h1 B h2:Heap):Prop where
 kp:∀b o,h1.get? b=some o->b∉fs->(∃o',B.get? b=some o')/\(H1 b=none->B.get? b=some o)
 sl:∀b o,h1.get? b=some o->b∈fs->∃sl,h2.get? b=some { o with slots:=sl }
 free:∀b o,h1.get? b=some o->H1 b=none->H2 b=none
 tups:∀b xs,H1 b=some (.tup xs)->H2 b=some (.tup xs)
 frzs:∀b o u,H1 b=some (.frz o u)->H2 b=some (.frz o u)
 tbls:∀b ps,H1 b=some (.tbl ps)->∃more,H2 b=some (.tbl (ps++more))
theorem Fly.un {fs:List Addr}(f:Fly fs H1 H2 h1 B h2)(st:B.StaysIn h2):Un fs [] H1 H2 h1 h2 where
 keep:=λb o e n hb _=>st b o ((f.kp b o e hb).2 n)
 slot:=λb o e _ hb _=>f.sl b o e hb
 free:=λb o e n _=>f.free b o e n
 there:=λb o e _=>by
  by_cases hb:b∈fs
  ·obtain⟨sl,q⟩:=f.sl b o e hb;exact⟨_,q⟩
  ·obtain⟨⟨o',q⟩,_⟩:=f.kp b o e hb;exact⟨o',st _ _ q⟩
 tups:=f.tups
 frzs:=f.frzs
 tbls:=f.tbls
theorem Fly.up {fs:List Addr}{h1 B h2 h3:Heap}(f:Fly fs H1 H2 h1 B h2)(up:∀b∈fs,∀o,h2.get? b=some o->∃sl,h3.get? b=some { o with slots:=sl }):Fly fs H1 H2 h1 B h3 :=
 ⟨f.kp,λb o e hb=>by
  obtain⟨s1,q1⟩:=f.sl b o e hb;obtain⟨s2,q2⟩:=up b hb _ q1
  exact⟨s2,q2⟩,f.free,f.tups,f.frzs,f.tbls⟩
theorem Fly.after {fs fs':List Addr}(u:Un fs [] H0 H1 h0 h1)(f:Fly fs' H1 H2 h1 B h2)(hL:∀b o,h0.get? b=some o->b∉fs->b∉fs')(hs:∀b∈fs,b∈fs')(hf:∀b∈fs,H0 b=none) :
  Fly fs H0 H2 h0 B h2 where
 kp:=λb o e hb=>by
  obtain⟨o1,e1⟩:=u.there b o e (by simp)
  refine⟨(f.kp b o1 e1 (hL b o e hb)).1,λn=>?_⟩;exact(f.kp b o (u.keep b o e n hb (by simp)) (hL b o e hb)).2 (u.free b o e n (by simp))
 sl:=λb o e hb=>by
  obtain⟨s1,q1⟩:=u.slot b o e (hf b hb) hb (by simp)
  obtain⟨s2,q2⟩:=f.sl b _ q1 (hs b hb);exact⟨s2,q2⟩
 free:=λb o e n=>by
  obtain⟨o1,e1⟩:=u.there b o e (by simp)
  exact f.free b o1 e1 (u.free b o e n (by simp))
 tups:=λb xs e=>f.tups b xs (u.tups b xs e)
 frzs:=λb o x e=>f.frzs b o x (u.frzs b o x e)
 tbls:=λb ps e=>by
  obtain⟨m1,e1⟩:=u.tbls b ps e;obtain⟨m2,e2⟩:=f.tbls b _ e1;exact⟨m1++m2,by rw[e2,Array.append_assoc]⟩
section
variable {K:Frag}
def lz {env:Env}(h:env.frame=some L):frs (env::l)=L::frs l:=by unfold frs;rw[m_,h]
end
def xH (sp:Sp)(dvs:List V)(E:St->XK)(t:TA):TE:=λσ H Q=>t σ H λvs H1=>sp (vs++dvs) H1 Q (E σ)
def mL:List Value:=[.type "ValueError",.type "Exception",.type "BaseException",.type "object"]
abbrev Cx.pinned (X:Cx)(pn:List (Addr×Obj)):Cx:={ X with pn:=pn }
abbrev hcx (X:Cx)(ea:Addr):Cx:={ X with A:=X.A.mark (some (.ref ea)),calm:=false,xe:=λ_ _=>False }
theorem Inv.toPinned (I:Inv X pins σ H s):Inv (X.pinned (X.pn++pins)) [] σ H s :=
 ⟨⟨I.ok.mod,I.ok.kind,I.ok.glob,I.ok.blt,I.ok.above,I.ok.inj,I.ok.has,I.ok.cab,I.ok.hd,I.ok.frames,I.ok.stk,I.ok.exf,I.ok.bs,I.ok.bsz,I.ok.noex,I.ok.exfs,I.ok.funs,I.ok.frf⟩,I.os,I.bare,I.base,I.loc,I.cell,I.free,I.freeC,λp hp=>I.pin p (by rw[EH] at hp;exact hp),I.hok,I.len⟩
theorem Inv.ofPinned {X:Cx}(I:Inv (X.pinned (X.pn++pins)) ps σ H s):Inv X pins σ H s :=
 ⟨⟨I.ok.mod,I.ok.kind,I.ok.glob,I.ok.blt,I.ok.above,I.ok.inj,I.ok.has,I.ok.cab,I.ok.hd,I.ok.frames,I.ok.stk,I.ok.exf,I.ok.bs,I.ok.bsz,I.ok.noex,I.ok.exfs,I.ok.funs,I.ok.frf⟩,I.os,I.bare,I.base,I.loc,I.cell,I.free,I.freeC,λp hp=>I.pin p (r_ _ hp),I.hok,I.len⟩
theorem Inv.toH (I:Inv X pins σ H s)(ea:Addr):Inv (hcx X ea) pins σ H s :=
 ⟨⟨I.ok.mod,I.ok.kind,I.ok.glob,I.ok.blt,I.ok.above,I.ok.inj,I.ok.has,I.ok.cab,(λz=>nomatch z),I.ok.frames,I.ok.stk,I.ok.exf,I.ok.bs,I.ok.bsz,I.ok.noex,I.ok.exfs,I.ok.funs,I.ok.frf⟩,I.os,I.bare,I.base,I.loc,I.cell,I.free,I.freeC,I.pin,I.hok,I.len⟩
theorem Inv.ofH {X:Cx}(ok:X.Ok)(I:Inv (hcx X ea) pins σ H s):Inv X pins σ H s :=
 ⟨ok,I.os,I.bare,I.base,I.loc,I.cell,I.free,I.freeC,I.pin,I.hok,I.len⟩
def dL {i:Nat}{Q:Unit->Shared->Prop}(I:Inv X pins σ H s)(hN:X.N.Nodup)(hi:X.N[i]? = some n)(hl:X.env.scope.names.lookup n=some .local)
  (h:∀s',Inv X pins (σ.set i none) H s'->Q () s'):wpAny M A (do bindName X.env n .none;unbindBehindTheSuite X.env n pos) Q E s:=by
 obtain⟨m,hn,hlm⟩:=id I.loc;have hcls:(X.env.scope.kind==.class || (X.env.scope.kind==.module&&X.env.locals != X.env.globals))=false:=by rw[I.ok.kind];rfl
 have cne:=I.cne;obtain⟨oL,_,_,hoL,_⟩:=id hn;have iσ:i<σ.length:=by rw[I.len];exact(s_.mp hi).1
 refine wpAny_nameGoes_keeps hl hn hcls λh' v hn' hs=>?_;refine h _ ⟨I.ok,I.os,I.bare,⟨λb o e n hb hx=>?_,λb o e n hb hx=>?_,I.base.free,λb o e hx=>?_,I.base.tups,I.base.frzs,I.base.tbls⟩,⟨_,hn',λj y v' e1 e2 e3=>?_⟩,λy c e=>?_,I.free,I.freeC,λp hp=>?_,λb ob e=>?_,by simpa using I.len⟩
 ·exact(hs.2 b (h_ (ff (f_ e) I.ok.above))).trans (I.base.keep b o e n hb hx)
 ·obtain⟨sl,e1⟩:=I.base.slot b o e n hb hx
  exact⟨sl,(hs.2 b (h_ (ff (f_ e) I.ok.above))).trans e1⟩
 ·obtain⟨o',e1⟩:=I.base.there b o e hx
  exact⟨o',(hs.2 b (h_ (ff (f_ e) I.ok.above))).trans e1⟩
 ·by_cases hj:j=i
  ·subst hj
   rw[t_ iσ] at e2
   cases e2
  ·rw[v_ (Im hj)] at e2
   obtain⟨u',r',q⟩:=hlm j y v' e1 e2 e3;refine⟨u',r',?_⟩
   rcases q with⟨k,e⟩|⟨k,c,e,z⟩
   ·refine .inl ⟨k,?_⟩
    have:y≠n:=λe=>hj (eP hN e1 (e▸hi))
    simp[this,e]
   ·exact .inr ⟨k,c,e,z.sameBut hs (cne y c e)⟩
 ·obtain⟨w',z⟩:=I.cell y c e
  exact⟨w',z.sameBut hs (cne y c e)⟩
 ·obtain⟨e,n,ne,nf,d⟩:=I.pin p hp
  exact⟨(hs.2 p.1 ne).trans e,n,ne,nf,d⟩
 ·refine(I.hok b ob e).stay (λc w' hc q=>(hs.2 c ?_).trans q) (λ_ q=>q) λ_ _ q=>q
  rintro rfl
  have fr:=I.free
  rcases hc with rfl|hc
  ·rw[fr] at e;cases e
  ·rw[fr] at hc;cases hc
def bL.gone (D:bL)(i:Nat):bL:={ nx:=λσ H=>D.nx (σ.set i none) H,rt:=D.rt,bk:=λσ H=>D.bk (σ.set i none) H,ct:=λσ H=>D.ct (σ.set i none) H }
open PySem.W (Looks)
open PySem.Builtin PySem.Builtin.ObjectAttr PySem.Builtin.Getset_descriptor
structure jC (K:Frag)(C:Addr):Prop where
 ga:findIn K (.ref C) "__getattribute__" = some (some (.builtin "BaseException.__getattribute__"))
 gn:findIn K (.ref C) "__getattr__" = some none
 cl:findIn K (.ref C) "__class__" = some (some (.builtin "object.__class__"))
 gt:PySem.W.specialIn K (.builtin "object.__class__") "__get__" = some (some (.builtin "getset_descriptor.__get__"))
 tk:PySem.W.takesIn K (.builtin "object.__class__")=some true
 mo:PySem.W.mroIn K C (.type "object")=some true
 mb:PySem.W.mroIn K C (.type "BaseException")=some true
 cs:(clsIn K C).isSome=true
section
variable {K:Frag}
def tT (X:K.In h)(Z:jC K C):Looks M h (find (.ref x) (.ref C) "__class__") (.bind (.builtin "getset_descriptor.__get__") (.builtin "object.__class__")):=by
 have L1:=Hb (M:=M) X Z.cl;have L2:Looks M h (getOf (some (.builtin "object.__class__"))) (some (.builtin "getset_descriptor.__get__")):=PySem.W.looks_specialIn X Z.gt;have L3:=PySem.W.looks_takesIn (M:=M) X Z.tk;exact L1.andThen (L2.andThen ((show Looks M h (dataDescriptor? (some (.builtin "object.__class__")) (some (.builtin "getset_descriptor.__get__"))) (some (.builtin "getset_descriptor.__get__",.builtin "object.__class__")) from L3.andThen .now).andThen (Looks.tag .now)))
def vk {s:Shared}{R:Result->Shared->Prop}(X:K.In s.heap)(Z:jC K C)(ho:s.heap.get? x=some o)(hc:o.cls=.ref C)(h:R (.ok (.ret (.ref C))) s) :
  codeAny (model prog w) A (.call (.builtin "getset_descriptor.__get__") ⟨[.builtin "object.__class__",.ref x,tp],[]⟩) R s:=by
 obtain⟨hh,g,dr,t,os⟩:=s;have L0:Looks (model prog w) hh (typeOf (.ref x)) (.ref C):=hc▸(Looks.ld ho).andThen .now;have L1:=Hc (M:=model prog w) X Z.mo;refine GL PySem.W.KF.slot_gs.plain PySem.W.KF.entry_gs (PySem.W.KF.slot_gs.check _ _ _ _ _ _ _ _ PySem.W.KF.type_class (PySem.W.KF.args_gs _ _ _) ?_);unfold Builtin.«getset_descriptor.__get__» descrGet;rw[PySem.W.dga_obj];refine w_ (u_ ?_);unfold descrGetter descrCheckInstance descrNameAndClass isInstance
 simp only[PySem.W.KF.owner_class]
 repeat lk
 refine⟨GH _ (by decide +kernel),Gw PySem.W.KF.entry_class ?_⟩
 unfold Builtin.«object.__class__» shownTypeOf
 repeat lk
 exact h
def rQ {s:Shared}{Q:Option Value->Shared->Prop}(X:K.In s.heap)(Z:jC K C)(ho:s.heap.get? x=some o)(hc:o.cls=.ref C)(h:Q (some (.ref C)) { s with toks:=s.toks+1 }) :
  wpAny (model prog w) A (getAttr? (.ref x) "__class__") Q E s:=by
 obtain⟨hh,g,dr,t,os⟩:=s;have L0:Looks (model prog w) hh (typeOf (.ref x)) (.ref C):=hc▸(Looks.ld ho).andThen .now;have L1:=Hb (M:=model prog w) X Z.ga;have L2:=Hb (M:=model prog w) X Z.gn;have L3:=tT (M:=model prog w) (x:=x) X Z;have L4:=Hc (M:=model prog w) X Z.mb;have f3:=PySem.F.attr_ValueError.ga.bind (.ref x);have hk:builtinKind "BaseException.__getattribute__" = some .slot:=by decide +kernel
 have hsplit:splitId "BaseException.__getattribute__" = some ("BaseException","__getattribute__"):=by decide +kernel
 unfold getAttr? getAttrBy? getAttrBy;refine w_ (wpAny_mkText (w_ (Gi (D_ (w_ (L0.at (w_ (L1.at ?_))))))))
 show wpAny _ _ (getAttrByItsOwn _ _ _ _ _ _) _ _ _
 unfold getAttrByItsOwn;refine w_ ?_
 show wpAny _ _ (typeLookup _ _) _ _ _
 refine L2.at ?_;refine w_ (Gi (D_ ?_))
 show wpAny _ _ (boundAndCalled _ _ _) _ _ _
 unfold boundAndCalled;refine w_ ?_;rw[f3];refine u_ ?_;refine EI (GL PySem.F.attr_ValueError.ga.plain PySem.F.entry_bexc_ga ?_);have ha:=PySem.F.args_bexc_ga (.ref x) (.str "__class__" t)
 simp only[checkBuiltinCall,hk,hsplit]
 refine w_ ?_;unfold isInstance;refine w_ (L0.at (L4.at ?_))
 simp only[Gh,Fy,Fa]
 repeat (any_goals (first|assumption|wp_step))
 rw[hc];have La:=Hb (M:=model prog w) X Z.cl;have Lb:Looks (model prog w) hh (getOf (some (.builtin "object.__class__"))) (some (.builtin "getset_descriptor.__get__")):=PySem.W.looks_specialIn X Z.gt;have Lc:Looks (model prog w) hh (dataDescriptor? (some (.builtin "object.__class__")) (some (.builtin "getset_descriptor.__get__"))) (some (.builtin "getset_descriptor.__get__",.builtin "object.__class__")):=(PySem.W.looks_takesIn (M:=model prog w) X Z.tk).andThen .now;refine La.at (w_ (Lb.at (w_ (Lc.at (w_ (Ge (u_ ?_)))))));unfold bindTo;refine w_ (D_ (EI (vk (s:=⟨hh,g,dr,t+1,os⟩) X Z ho hc ?_)))
 show wpAny _ _ (ret (.ref C)) _ _ _
 refine u_ ?_
 show wpAny _ _ (handedOut (.ref C)) _ _ _
 exact PySem.W.handed_on rfl (u_ h)
def sY (Z:jC K C):PySem.W.KitX K (.ref x) (.ref C) (λh=>∃o,h.get? x=some o/\o.cls=.ref C) where
 ty:=λ_ _ _ ⟨o,ho,hc⟩=>hc▸(Looks.ld ho).andThen .now
 it:=λ_ _ X _=>by
  have z0:=Z.cs;unfold clsIn at z0
  split at z0
  ·rename_i c' d' cd' sl' ho
   intro A' Q' E' s' k q
   unfold isType loadHead;exact w_ (wpAny_loadPart (k _ _ (X _ _ ho)) (u_ q))
  ·cases z0
 ne:=λh tp dd its n sl X htp=>by
  have z0:=Z.cs;refine Gq.mpr λq=>?_;have e:C=tp:=Value.ref.inj (Gs.mp q);subst e;unfold clsIn at z0
  split at z0
  ·rename_i c' d' cd' sl' ho
   have z:=(X _ _ ho).symm.trans htp
   cases z
  ·cases z0
 ca:=λX ⟨o,ho,hc⟩ k=>rQ X Z ho hc k
end
end L2
namespace L2
open PySem PySem.Spec PyProof.Rows PySem.SeqAt
section
variable {K:Frag}
def V4 (hc:isClsIn K D=true)(ht:typeIn K (.ref D)=some (.type "type"))(hs:subIn K (.ref C) (.ref D)=some false)(h1:subIn K (.ref C) (.ref C)=some true):kitOne K (.ref C) (.ref D)=some false:=by
 unfold kitOne
 split
 ·rename_i z
  have e:C=D:=Value.ref.inj (Gs.mp z);rw[<- e,h1] at hs
  cases hs
 ·show(if ((clsIn K D).isSome&&typeIn K (.ref D)==some (.type "type"))=true then subIn K (.ref C) (.ref D) else none)=some false
  rw[Ik (by rw[show(clsIn K D).isSome=true from hc,ht];rfl),hs]
def vt (hs:subIn K (.ref C) (.type "ValueError")=some true):kitOne K (.ref C) (.type "ValueError")=some true:=by
 unfold kitOne
 split
 ·rfl
 ·show(if PySem.W.kitMeta "ValueError" = true then subIn K (.ref C) (.type "ValueError") else none)=some true
  rw[Ik (by decide +kernel),hs]
def qd (hc:isClsIn K D=true)(ht:typeIn K (.ref D)=some (.type "type"))(hs:subIn K (.ref C) (.ref D)=some true)(hb:subIn K (.ref D) (.type "BaseException")=some true):exmOne K (.ref C) (.ref D)=some true:=by
 unfold exmOne;rw[Ik (by rw[hb];rfl)]
 show(if ((clsIn K D).isSome&&typeIn K (.ref D)==some (.type "type"))=true then subIn K (.ref C) (.ref D) else none)=some true
 rw[Ik (by rw[show(clsIn K D).isSome=true from hc,ht];rfl),hs]
end
def dw:bootBuiltins "ValueError" = some (.type "ValueError"):=by first|rfl|decide +kernel
theorem dZ {bs:List Bool}:∀{us:List Value},o6 (bs.map V.bl) us->us=bs.map Value.bool:=by
 induction bs with
 | nil=>intro us h;cases h;rfl
 | cons b bs ih =>
  intro us h
  cases h with
  | cons r t=>rw[ih t];cases r;rfl
def vj:V->List V->Hp->VK->Prop:=λx vs H Q=>∃(l:Addr)(k:Bool)(bs:List Bool),x=.ref l/\vs=[.bl k]/\H l=some (.lst (bs.map V.bl))/\Q (.int (bs.count k:Nat)) H
def eqB {bs:List Bool}{k:Bool}:∀y,y∈(bs.map Value.bool).toArray->EqAt A s y (.bool k) (isBoolOf k y):=λy hy=>by
 have hy:y∈bs.map Value.bool:=by simpa using hy
 obtain⟨b,_,rfl⟩:=GX.mp hy;exact EqAt.bool_bool b k
def rY:MtR X "list.count" vj:=by
 intro pins s σ H x vs v us Q I rx rv h
 obtain⟨l,k,bs,rfl,rfl,hH,q⟩:=h
 cases rx
 obtain⟨u,rfl,ru⟩:=rv.one
 cases ru
 obtain⟨z,its,n,r,hl,e⟩:=I.lstM hH
 cases dZ r
 refine Fi F.slot_list_count ⟨_,e,Iu⟩ F.entry_list_count (F.args_list_count_2 _ _) (list_countAt l _ n none #[] (.bool k) (isBoolOf k)) ⟨e,eqB,?_⟩;refine⟨.int _,H,I.tok _,⟨_,Iu⟩,?_⟩
 have e2:(bs.map Value.bool).toArray.toList.countP (isBoolOf k)=bs.count k:=by
  show(bs.map Value.bool).countP (isBoolOf k)=_
  rw[List.countP_map];rfl
 rw[e2];exact q
def vL:V->List V->Hp->VK->Prop:=λx vs H Q=>∃(l:Addr)(k:Bool)(bs:List Bool)(j:Nat),x=.ref l/\vs=[.bl k]/\H l=some (.lst (bs.map V.bl))/\bs[j]? = some k/\(∀m<j,bs[m]? = some (!k))/\j<=1000/\Q (.int (j:Nat)) H
def qx:MtR X "list.index" vL:=by
 intro pins s σ H x vs v us Q I rx rv h
 obtain⟨l,k,bs,j,rfl,rfl,hH,hj,hno,h1000,q⟩:=h
 cases rx
 obtain⟨u,rfl,ru⟩:=rv.one
 cases ru
 obtain⟨z,its,n,r,hl,e⟩:=I.lstM hH
 cases dZ r
 obtain⟨jl,je⟩:=s_.mp hj;refine Fi F.slot_list_index ⟨_,e,Iu⟩ F.entry_list_index (F.args_list_index_2 _ _) (list_indexAt l _ n none #[] (.bool k) (isBoolOf k) j (by simpa using jl) (by lia) ?_ λm hm h2=>?_) ⟨e,eqB,?_⟩
 ·simp[isBoolOf,je]
 ·obtain⟨_,me⟩:=s_.mp (hno m h2)
  simp[isBoolOf,me]
 ·exact⟨.int _,H,I.tok _,⟨_,Iu⟩,q⟩
end L2
namespace L2
open PySem
def M4 (h:Heap)(e:Addr)(od:Option Addr):Prop:=∃o,h.get? e=some o/\o.dict=od
def lD (f:Array Value->Array Value)(o:Obj):(Obj.mapFields f o).dict=o.dict:=by
 obtain⟨c,d,dt,sl⟩:=o
 cases dt<;>rfl
section
variable {up:List Env}{k:Value}
abbrev xB (hd:Value)(L:Addr)(pl:List Value):Obj:={ cls:=.type "traceback",dict:=none,data:=.fields ([hd,.ref L,.none,rawInt L,.none]++(if pl.isEmpty then List.replicate 6 Value.none else pl)).toArray }
def eX {A:Around}{s:Shared}{Q:Unit->Shared->Prop}{fs:Array Value}{hn:Bool}(a1:A.frames=some (env::up))(a2:s.heap.FunFrames B (env::up))(a3:env.frame=some L)(b1:s.heap.get? x=some ob)(b2:B.StaysIn s.heap)(b3:B.get? x=none)
  (b4:ob.data=.fields fs)(b5:1<fs.size)(b6:fs[0]? = some a0)(q:∀g,Heap.NotedW B (env::up) x ob.cls a0 (rawInt L) s.heap g->M4 g x ob.dict->Q () { s with heap:=g }) :
  wpAny M A (do let a <- frameOf env;let pl <- entryPlaceOf L hn;let b <- EntryCells.newEntry hd a .none (rawInt L) .none pl;setField (.ref x) 1 b) Q E s:=by
 have out:x∉(env::up).filterMap (·.frame):=λm=>by
  obtain⟨_,o,e1,e2⟩:=a2.mem m;rw[b1] at e1
  cases e1
  exact e2 fs b4
 refine w_ (wpAny_frameOf_fun a1 a2 a3 λg1 k1=>w_ (wpAny_entryPlaceOf λpl hpl=>?_));unfold EntryCells.newEntry newFields;refine w_ (FC ?_ (hpl.sizeOk5 _ _ _ _ _));have x1:g1.get? x=some ob:=(k1.2.1 x out).trans b1;have st1:B.StaysIn g1:=λb o e=>(k1.2.1 b λm=>by rw[(a2.mem m).1] at e;cases e).trans (b2 b o e)
 have x2:=Em (h:=g1) (xB hd L pl) x1;refine wpAny_setField x2 b4 b5 ?_;have nT:g1.objs.size≠x:=Ej (f_ x1);have d3:=Obj.data_mapFields b4 (·.setIfInBounds 1 (Value.ref g1.objs.size));have x3:=EY (Obj.mapFields (·.setIfInBounds 1 (Value.ref g1.objs.size))) x2 (Obj.isFreed_of_fields d3);have t3:=(EZ (g1.push (xB hd L pl)) (Obj.mapFields (·.setIfInBounds 1 (Value.ref g1.objs.size))) (Im nT)).trans (En g1 rfl)
 have kp:∀b o,b≠x->g1.get? b=some o->((g1.push (xB hd L pl)).update x (Obj.mapFields (·.setIfInBounds 1 (Value.ref g1.objs.size)))).get? b=some o:=λb o n e=>by
  rw[EZ _ _ (Im n)];exact Em _ e
 have no:∀b o,s.heap.get? b=some o->(∀vs,o.data≠.fields vs)->b≠x:=λb o e n z=>by
  rw[z,b1] at e
  cases e
  exact n fs b4
 refine q _ ⟨λb o e=>kp b o (λz=>by rw[z,b3] at e;cases e) (st1 b o e),a2.of_keeps λb o e n=>?_,?_,λb o e n=>?_⟩ ⟨_,x3,lD _ _⟩
 ·obtain⟨sl,z⟩:=k1.2.2 b o e
  exact⟨_,kp b _ (no b o e n) z,Iu⟩
 ·refine⟨_,_,g1.objs.size,_,_,x3,⟨Obj.cls_mapFields _ _,?_⟩,d3,by simp[b5],st1.fresh,nT,t3,Iu,?_⟩
  ·rw[Array.getElem?_setIfInBounds_ne (by decide)]
   exact b6
  ·first|(simp;done)|(rcases hpl with rfl|⟨_,_,_,_,_,_,_,rfl⟩<;>simp)
 ·obtain⟨sl,z⟩:=k1.2.2 b o e
  exact⟨sl,kp b _ (no b o e n) z⟩
def ig {A:Around}{s:Shared}{Q:Unit->Shared->Prop}(a1:A.frames=some (env::up))(a2:s.heap.FunFrames B (env::up))(a3:env.frame=some L)(tr:s.heap.TracedW B x k a0)(dx:M4 s.heap x od)(b2:B.StaysIn s.heap)(b3:B.get? x=none)
  (q:∀g,Heap.NotedW B (env::up) x k a0 (rawInt L) s.heap g->M4 g x od->Q () { s with heap:=g }):wpAny M A (noteFrame (.ref x) env) Q E s:=by
 obtain⟨ob,fs,T,oT,ts,e1,⟨e2,e3⟩,e4,e5,e6,e7,e8,e9,e10⟩:=tr;subst e2;obtain⟨o2,f1,f2⟩:=dx;rw[e1] at f1
 cases f1
 subst f2;unfold noteFrame
 simp only[a3]
 refine w_ (wpAny_field e1 e4 e5 ?_);rw[Ik (show(Value.ref T != Value.none)=true by simp)]
 refine w_ (wpAny_field e8 e9 e10 ?_);rw[Il (show ¬(Value.none==rawInt L)=true by simp[rawInt])]
 refine w_ (wpAny_setField e8 e9 (Hd.mp e10).1 ?_);have oth:∀b,b≠T->(s.heap.update T (Obj.mapFields (·.setIfInBounds 3 Value.none))).get? b=s.heap.get? b:=λb n=>EZ _ _ (Im n)
 have no:∀b o,s.heap.get? b=some o->(∀vs,o.data≠.fields vs)->b≠T:=λb o e n z=>by
  rw[z,e8] at e
  cases e
  exact n ts e9
 refine eX a1 (a2.of_keeps λb o e n=>⟨o,(oth b (no b o e n)).trans e,Iu⟩) a3 ((oth x (Im e7)).trans e1) (λb o e=>(oth b λz=>by rw[z,e6] at e;cases e).trans (b2 b o e)) b3 e4 (Hd.mp e5).1 e3 λg z dz=>?_
 obtain⟨z1,z2,z3,z4⟩:=z;exact q g ⟨z1,z2,z3,λb o e n=>z4 b o ((oth b (no b o e n)).trans e) n⟩ dz
def S8 {s:Shared}{B:Heap}{Q:Unit->Shared->Prop}(b2:B.StaysIn s.heap)(a2:s.heap.FunFrames B l)(tr:s.heap.TracedAtW B x k a0 fl)(dx:M4 s.heap x od)
  (q:∀g,B.StaysIn g->g.FunFrames B l->g.TracedW B x k a0->s.heap.UpToSlots g->M4 g x od->Q () { s with heap:=g }):wpAny M A (setFlight (.ref x) none) Q E s:=by
 obtain⟨ob,fs,T,oT,ts,e1,e2,e4,e5,e6,e7,e8,e9,e10⟩:=tr;obtain⟨o2,f1,f2⟩:=dx;have l3:3<ts.size:=(Hd.mp e10).1;have oth:∀b,b≠T->(s.heap.update T (Obj.mapFields (·.setIfInBounds 3 ((none:Option Addr).elim Value.none λf=>rawInt f)))).get? b=s.heap.get? b:=λb n=>EZ _ _ (Im n)
 have no:∀b o,s.heap.get? b=some o->(∀vs,o.data≠.fields vs)->b≠T:=λb o e n z=>by
  rw[z,e8] at e
  cases e
  exact n ts e9
 unfold setFlight;refine w_ (wpAny_field e1 e4 e5 ?_);rw[Ik (show(Value.ref T != Value.none)=true by simp)]
 refine wpAny_setField e8 e9 l3 (q _ (λb o e=>(oth b λz=>by rw[z,e6] at e;cases e).trans (b2 b o e)) (a2.of_keeps λb o e n=>⟨o,(oth b (no b o e n)).trans e,Iu⟩) ?_ (λb o e n=>⟨o.slots,(oth b (no b o e n)).trans e⟩) ⟨o2,(oth x (Im e7)).trans f1,f2⟩)
 exact⟨ob,fs,T,_,_,(oth x (Im e7)).trans e1,e2,e4,e5,e6,e7,EY _ e8 (Obj.isFreed_of_fields (Obj.data_mapFields e9 _)),Obj.data_mapFields e9 _,by simp[l3]⟩
def mP {A:Around}{s:Shared}{Q:Unit->Shared->Prop}(a1:A.frames=some (env::up))(a3:env.frame=some L)(fl:Heap.FlyingW B (env::up) x k a0 s.heap)(dx:M4 s.heap x od)
  (q:∀g,Heap.FlyingW B up x k a0 g->s.heap.UpToSlots g->M4 g x od->Q () { s with heap:=g }):wpAny M A (leaving env (.ref x)) Q E s:=by
 obtain⟨f1,f2,f3,f4⟩:=fl;unfold leaving;refine w_ (ig a1 f3 a3 f4 dx f1 f2 λg1 z1 d1=>?_);obtain⟨z1,z2,z3,z4⟩:=z1;refine S8 (s:={ s with heap:=g1 }) z1 z2 z3 d1 λg2 y1 y2 y3 y4 d2=>?_
 obtain⟨_,_,y2'⟩:=y2;exact q g2 ⟨y1,f2,y2',y3⟩ (Heap.UpToSlots.trans (λb o e n=>z4 b o e n) y4) d2
def qr {A:Around}{s:Shared}{Q:Unit->Shared->Prop}(a1:A.frames=some (env::up))(a3:env.frame=some L)(fl:Heap.FlyingW B (env::up) x k a0 s.heap)(dx:M4 s.heap x od)
  (q:∀g,Heap.HeldW B (env::up) x k a0 L g->s.heap.UpToSlots g->M4 g x od->Q () { s with heap:=g }):wpAny M A (noteFrame (.ref x) env) Q E s:=by
 obtain⟨f1,f2,f3,f4⟩:=fl;refine ig a1 f3 a3 f4 dx f1 f2 λg1 z1 d1=>?_;obtain⟨z1,z2,z3,z4⟩:=z1;exact q g1 ⟨z1,f2,z2,z3⟩ z4 d1
def xO {s:Shared}{Q:Unit->Shared->Prop}(hh:Heap.HeldW B l x k a0 L s.heap)(dx:M4 s.heap x od)(q:∀g,Heap.FlyingW B l x k a0 g->s.heap.UpToSlots g->M4 g x od->Q () { s with heap:=g }):wpAny M A (setFlight (.ref x) none) Q E s:=by
 obtain⟨f1,f2,f3,f4⟩:=hh;exact S8 f1 f3 f4 dx λg y1 y2 y3 y4 d=>q g ⟨y1,f2,y2,y3⟩ y4 d
def jh {s:Shared}{Q:Unit->Shared->Prop}(hh:Heap.FlyingW B l x k a0 s.heap)(dx:M4 s.heap x od)(q:∀g,Heap.FlyingW B l x k a0 g->s.heap.UpToSlots g->M4 g x od->Q () { s with heap:=g }):wpAny M A (setFlight (.ref x) none) Q E s:=by
 obtain⟨f1,f2,f3,f4⟩:=hh;exact S8 f1 f3 f4.at dx λg y1 y2 y3 y4 d=>q g ⟨y1,f2,y2,y3⟩ y4 d
def gJ {A:Around}{s:Shared}{Q:Unit->Shared->Prop}{fs:Array Value}(a1:A.frames=some (env::up))(a2:s.heap.FunFrames B (env::up))(a3:env.frame=some L)(b1:s.heap.get? x=some ob)(b2:B.StaysIn s.heap)(b3:B.get? x=none)
  (b4:ob.data=.fields fs)(b5:fs[1]? = some .none)(b6:fs[0]? = some a0)(q:∀g,Heap.FlyingW B up x ob.cls a0 g->s.heap.UpToSlots g->M4 g x ob.dict->Q () { s with heap:=g }):wpAny M A (leaving env (.ref x)) Q E s:=by
 unfold leaving noteFrame
 simp only[a3]
 refine w_ (w_ (wpAny_field b1 b4 b5 ?_));rw[Il (by decide)]
 refine eX a1 a2 a3 b1 b2 b3 b4 (Hd.mp b5).1 b6 λg1 z1 d1=>?_;obtain⟨z1,z2,z3,z4⟩:=z1;refine S8 (s:={ s with heap:=g1 }) z1 z2 z3 d1 λg2 y1 y2 y3 y4 d2=>?_
 obtain⟨_,_,y2'⟩:=y2;exact q g2 ⟨y1,b3,y2',y3⟩ (Heap.UpToSlots.trans (λb o e n=>z4 b o e n) y4) d2
end
end L2
namespace L2
open PySem PySem.Spec PyProof.Rows
def S5:List Value->Bool
 | .ref _::r=>S5 r
 | l=>l==mL
def cz (K:Frag)(C fI:Addr):Bool:=match K.lookup C with
 | some o=>(match o.data with
  | .cls cd=>o.cls==.type "type"&&cd.mro.head?==some (.ref C)&&o.slots.size==6&&o.slots[4]?==some (some (.builtin "ValueError.__new__"))&&!cd.hasDel&&cd.hasDict&&PySem.W.tailIn K mL cd.mro.tail&&PySem.W.nsOkIn K cd.ns&&nsIn K cd.ns "__init__" == some (some (.ref fI))&&S5 cd.mro.tail
  | _=>false)
 | none=>false
theorem pI {K:Frag}(q:cz K C fI=true):∃(dd:Option Addr)(cd:ClassData)(bm:List Value)(k0 k1 k2 k3 k5:Option Value),K.lookup C=some ⟨.type "type",dd,.cls cd,#[k0,k1,k2,k3,some (.builtin "ValueError.__new__"),k5]⟩/\cd.mro=.ref C::bm/\cd.hasDel=false/\cd.hasDict=true/\PySem.W.tailIn K mL bm=true/\PySem.W.nsOkIn K cd.ns=true/\nsIn K cd.ns "__init__" = some (some (.ref fI))/\S5 bm=true:=by
 unfold cz at q
 cases ho:K.lookup C with
 | none=>rw[ho] at q;cases q
 | some o =>
  rw[ho] at q;obtain⟨cls,dd,data,sl⟩:=o
  cases data with
  | cls cd =>
   simp only[Fd,Gs,Bool.not_eq_true'] at q
   obtain⟨⟨⟨⟨⟨⟨⟨⟨⟨rfl,hm⟩,hz⟩,h4⟩,hdel⟩,hdc⟩,ht⟩,hok⟩,hni⟩,hrf⟩:=q;obtain⟨l⟩:=sl
   rcases l with _|⟨k0,_|⟨k1,_|⟨k2,_|⟨k3,_|⟨k4,_|⟨k5,_|⟨k6,l⟩⟩⟩⟩⟩⟩⟩
   all_goals first|(cases hz;done)|skip
   obtain rfl:k4=some (.builtin "ValueError.__new__"):=e_ h4
   cases hmm:cd.mro with
   | nil=>rw[hmm] at hm;cases hm
   | cons m bm =>
    rw[hmm] at hm ht hrf;obtain rfl:m=.ref C:=e_ hm;exact⟨dd,cd,bm,k0,k1,k2,k3,k5,Iu,hmm,hdel,hdc,ht,hok,hni,hrf⟩
  | _=>cases q
def wf {K:Frag}(X:K.In h)(G:h.Ns N m)(e:nsIn K N n=some (some v)):m n=some v:=by
 obtain⟨o,es,ep,ho,hd,_,hf⟩:=G;unfold nsIn at e
 split at e
 ·rename_i c d es' n' sl q
  have z:=X _ _ q;rw[ho] at z
  cases z
  cases hd
  split at e
  ·rename_i en he
   cases e
   rw[<- hf];unfold nsFind findBy;rw[<- Array.find?_toList,he];rfl
  ·split at e<;>cases e
 ·cases e
structure vR (C fI:Addr)(h:Heap):Prop where
 obj:∃bm N nm q bs sn sub ab col dd k0 k1 k2 k3 k5 mN,h.get? C=some (excClassObj nm q C N bs bm true sn sub ab col dd k0 k1 k2 k3 k5 "ValueError.__new__")/\h.Ns N mN/\mN "__init__" = some (.ref fI)/\OwnTail h mL bm/\S5 bm=true
def oU {K:Frag}(X:K.In h)(q:cz K C fI=true):vR C fI h:=by
 obtain⟨dd,cd,bm,k0,k1,k2,k3,k5,ho,hm,hdel,hdc,ht,hok,hni,hrf⟩:=pI q;obtain⟨nm,bs,mro,ns,qn,hd,sn,sub,ab,col,del⟩:=cd
 dsimp only at hm hdel hdc hok hni
 subst hm hdel hdc;have N1:h.Ns ns _:=.of_isNs (PySem.W.isNs_of_in X hok);exact⟨bm,ns,nm,qn,bs,sn,sub,ab,col,dd,k0,k1,k2,k3,k5,_,X _ _ ho,N1,wf X N1 hni,PySem.W.tail_of_in X ht,hrf⟩
end L2
namespace L2
open PySem
abbrev N9 (C t:Addr)(od:Option Addr):Obj:={ cls:=.ref C,dict:=od,data:=.fields #[.ref t,.none,.none,.none,.bool false,.none] }
section
variable {t:Nat}{os:OsState}
variable {bs bm:List Value}{hdct:Bool}{sub:List Value}{ab:Bool}{col:Option Bool}
def ng (T:OwnTail h mL bm){Q:Fin->Shared->Prop}
  (hC:h.get? C=some (excClassObj nm q C N bs bm hdct sn sub ab col dd k0 k1 k2 k3 k5 "ValueError.__new__"))(hn:h.Ns N mN)(hi:mN "__init__" = some (.ref fI))(hfI:h.get? fI=some oI)(hfc:oI.cls=.type "function")
  (hq:∀h' e,(∀b o,h.get? b=some o->h'.get? b=some o)->h.objs.size<=e->(∃tt,h'.get? e=some (N9 C tt none)) ->
   wpAny (model prog w) A (call (.ref fI) (.ref e::rest)) (λr s'=>r=.none/\Q (.done (.ret (.ref e))) s') E ⟨h',g,d,t,os⟩) (hrest:rest.length<=sizeLine) :
  wpAny (model prog w) A (Builtin.«type.__call__» ⟨.ref C::rest,[]⟩) Q E ⟨h,g,d,t,os⟩:=by
 have F:=PySem.F.excBase_ValueError
 repeat (first|with_reducible refine He hC ?_|with_reducible refine wpAny_madeBy_exc hC ?_|wp_step)
 refine codeAny_call_builtin_code (GH _ F.quiet) (wpAny_check_new_subT F T hC ?_);refine codeAny_exc_new_subT F T hC ?_ hrest
 show wpAny _ _ _ _ _ _
 let tp:Obj:={ cls:=.type "tuple",data:=.seq rest.toArray }
 let eo:Obj:={ cls:=.ref C,data:=.fields #[.ref h.objs.size,.none,.none,.none,.bool false,.none] }
 have kp:∀b o,h.get? b=some o->((h.push tp).push eo).get? b=some o:=λb o z=>Em _ (Em _ z);have C1:=kp _ _ hC;have I1:=kp _ _ hfI;have N1:((h.push tp).push eo).Ns N mN:=let ⟨o,es,ep,z,r⟩:=hn;⟨o,es,ep,kp _ _ z,r⟩
 have G1:((h.push tp).push eo).get? (h.objs.size+1)=some eo:=by
  show((h.push { cls:=.type "tuple",data:=.seq rest.toArray }).push _).get? (h.objs.size+1)=some _
  heap_get
 have c1:(Value.ref C::bm).contains (.ref C)=true:=by simp
 have T1:=T.keeps kp;unfold isInstance
 repeat (first|with_reducible refine He G1 ?_|(with_reducible refine wpAny_isSubtype_exc C1 ?_;rw[c1])|wp_step)
 show wpAny _ _ (typeLookup (.ref C) _) _ _ _
 refine wpAny_typeLookup_tail C1 N1 T1 F.mroIs F.init.lookup ?_;rw[hi];refine D_ (w_ ?_);unfold bindSpecial;refine w_ (Gu (T:="function") ⟨_,I1,hfc⟩ ?_);rw[Ik (by decide)]
 refine u_ (w_ (x_ (hq _ (h.objs.size+1) kp (FE _) ⟨_,G1⟩) (λr s' hr=>?_) λ_ _ z=>z));obtain⟨rfl,hQ⟩:=hr
 wp_walk
 exact hQ
def rG {A:Around}(T:OwnTail h mL bm){Q:Value->Shared->Prop}
  (hC:h.get? C=some (excClassObj nm q C N bs bm hdct sn sub ab col dd k0 k1 k2 k3 k5 "ValueError.__new__"))(hn:h.Ns N mN)(hi:mN "__init__" = some (.ref fI))(hfI:h.get? fI=some oI)(hfc:oI.cls=.type "function")
  (hq:∀h' e,(∀b o,h.get? b=some o->h'.get? b=some o)->h.objs.size<=e->(∃tt,h'.get? e=some (N9 C tt none)) ->
   wpAny (model prog w) (A.under (.builtin "type.__call__" ⟨.ref C::rest,[]⟩)) (call (.ref fI) (.ref e::rest)) (λr s'=>r=.none/\Q (.ref e) s') E ⟨h',g,d,t,os⟩) (hrest:rest.length<=sizeLine) :
  wpAny (model prog w) A (call (.ref C) rest) Q E ⟨h,g,d,t,os⟩:=by
 have f1:=tc_lookup;have f2:=tc_bind (.ref C);have hT:(⟨h,g,d,t,os⟩:Shared).TypeIs (.ref C) "type":=⟨_,hC,Iu⟩;refine EI (GG ?_)
 show wpAny _ _ (callAny (.ref C) _) _ _ _
 repeat (any_goals (first|assumption|with_reducible refine He hC ?_|wp_step))
 refine⟨Iu,?_⟩;refine codeAny_call_builtin_at (GH _ (by decide +kernel)) entry_typeCall (wpAny_check_type_call_sub hC (ng T hC hn hi hfI hfc (λh' e a1 a2 a3=>?_) hrest))
 exact hq h' e a1 a2 a3
end
def fH {A:Around}{E:Value->Shared->Prop}(hh:A.handled=none)
  (h:wpAny M A x (λv s1=>∃e t od fI,v=.ref e/\vR C fI s1.heap/\s1.heap.get? e=some (N9 C t od)/\E (.ref e) s1) E s) :
  wpAny M A (raiseStmt env (some x) none) Q E s:=by
 unfold raiseStmt;refine w_ (x_ h (λv s1 z=>?_) λ_ _ y=>y);obtain⟨e,t,od,fI,rfl,Z,he,hE⟩:=z;obtain⟨bm,N,nm,q,bs,sn,sub,ab,col,dd,k0,k1,k2,k3,k5,mN,hC,_,_,T,_⟩:=Z.obj;have hcB:(Value.ref C::bm).contains (.type "BaseException")=true:=by rw[List.contains_cons,T.hasType PySem.F.excBase_ValueError.hasBase,Bool.or_true]
 obtain⟨hp,g,d,tk,os⟩:=s1
 repeat (first|with_reducible refine He he ?_|with_reducible refine He hC ?_|(with_reducible refine wpAny_isSubtype_exc hC ?_;rw[hcB])|wp_step)
 exact wpAny_raiseNew_none hh hE
def nE {A:Around}{E:Value->Shared->Prop}(hh:A.handled=none)(hplain:(backTo cpos (starEach args env)).any (·.1)=false)
  (h:wpAny (model prog w) A (eval (.Name x np) env) (λf s1=>f=.ref C/\wpAny (model prog w) A (evalArgs (.ref C) true (backTo cpos (starEach args env)) [])
   (λa s2=>a.kw=[]/\a.pos.length<=sizeLine/\vR C fI s2.heap/\(∃oI,s2.heap.get? fI=some oI/\oI.cls=.type "function") /\
    ∀h' e,(∀b o,s2.heap.get? b=some o->h'.get? b=some o)->s2.heap.objs.size<=e->(∃tt,h'.get? e=some (N9 C tt none)) ->
     wpAny (model prog w) (A.under (.builtin "type.__call__" ⟨.ref C::a.pos,[]⟩)) (call (.ref fI) (.ref e::a.pos)) (λr s'=>r=.none/\vR C fI s'.heap/\(∃t od,s'.heap.get? e=some (N9 C t od))/\E (.ref e) s') E { s2 with heap:=h' }) E s1) E s) :
  wpAny (model prog w) A (exec (.Raise (some (.Call (.Name x np) args [] cpos)) none pos) env) Q E s:=by
 rw[arm_exec_Raise]
 first
  | refine w_ (E_ (fH (C:=C) hh (w_ (x_ (wpAny_Call_ofName (x_ h (λf s1 z=>?_) λ_ _ y=>y)) (λv s3 y3=>w_ (E_ (u_ y3))) λ_ _ y=>y))))
  | (simp only[evalOpt,Option.map];refine w_ (E_ (fH (C:=C) hh (w_ (x_ (wpAny_Call_ofName (x_ h (λf s1 z=>?_) λ_ _ y=>y)) (λv s3 y3=>w_ (E_ (u_ y3))) λ_ _ y=>y)))))
  | (refine w_ (E_ (fH (C:=C) hh ?_));refine w_ (x_ (wpAny_Call_ofName (x_ h (λf s1 z=>?_) λ_ _ y=>y)) (λv s3 y3=>w_ (E_ (u_ y3))) λ_ _ y=>y))
 obtain⟨rfl,z⟩:=z;unfold callWith;refine w_ (D_ (x_ z (λa s2 y=>w_ (E_ ?_)) λ_ _ y=>y));obtain⟨apos,akw⟩:=a;obtain⟨hkw,hlen,Z,⟨oI,hfI,hfc⟩,y⟩:=y;obtain rfl:akw=[]:=hkw;obtain⟨bm,N,nm,q,bs,sn,sub,ab,col,dd,k0,k1,k2,k3,k5,mN,hC,hn,hi,T,_⟩:=Z.obj;obtain⟨hp,g,d,tk,os⟩:=s2
 simp only[hplain]
 refine w_ (wpAny_keeperOf_exc hC ?_);refine w_ (rG T hC hn hi hfI hfc (λh' e a1 a2 a3=>?_) hlen);refine x_ (y h' e a1 a2 a3) (λr s' u=>?_) λ_ _ u=>u;obtain⟨rfl,u1,⟨t,od,u2⟩,u3⟩:=u;exact⟨Iu,w_ (D_ (wpAny_point (u_ ⟨e,t,od,fI,Iu,u1,u2,u3⟩)))⟩
end L2
namespace L2
open PySem PySem.Spec PyProof.Rows
open PySem.W (Looks InstAt)
open PySem.Builtin PySem.Builtin.ObjectAttr
theorem kc (self:Value):∀{l:List Value},S5 l=true->refuseLoop self "__setattr__" l=pure ()
 | .ref c::r,e=>by rw[refuseLoop_ref];exact kc self (l:=r) e
 | [],e=>by cases e
 | .none::_,e=>by cases e
 | .bool _::_,e=>by cases e
 | .int _ _::_,e=>by cases e
 | .str _ _::_,e=>by cases e
 | .bytes _ _::_,e=>by cases e
 | .float _ _::_,e=>by cases e
 | .builtin _::_,e=>by cases e
 | .type n::r,e=>by
  rw[show(Value.type n::r)=mL from Gs.mp e];exact PySem.F.store_ValueError.passes self
structure jv (K:Frag)(C:Addr):Prop where
 cd:∃cd,clsIn K C=some cd/\S5 cd.mro=true/\cd.hasDict=true
 sa:findIn K (.ref C) "__setattr__" = some (some (.builtin "object.__setattr__"))
 hd:PySem.W.hasDictIn K C=true
section
variable {K:Frag}
def iF {A:Around}{s:Shared}{R:Result->Shared->Prop}(X:K.In s.heap)(I:InstAt s.heap x ox C od)(Z:jv K C)(mo:PySem.W.mroIn K C (.type "object")=some true)(ht:findIn K (.ref C) name=some none)
  (h:∀b,wpAny (model prog w) A.in1 (storeInOwnDict (.ref x) (.ref C) (.str name tk) name v b)
   (λfin s'=>match fin with | .done f=>R (.ok f) s' | .again c'=>c'.quiet=true/\codeAny (model prog w) A c' R s') (λe s'=>R (.error e) s') s) :
  codeAny (model prog w) A (.call (.builtin "object.__setattr__") ⟨[.ref x,.str name tk,v],[]⟩) R s:=by
 have SF:=PySem.F.store_object;obtain⟨cd,hc,ho,_⟩:=Z.cd;have sub:Looks (model prog w) s.heap (isInstance (.ref x) (.type "object")) true:=I.type.andThen (Hc X mo);refine GL SF.slot.plain SF.entry (@PySem.W.check_slot (model prog w) _ _ s "object.__setattr__" "object" "__setattr__" (.ref x) [.str name tk,v] [] _ SF.kind SF.split sub (SF.args (.ref x) (.str name tk) v) ?_);have hm:Looks (model prog w) s.heap (mroOf (.ref C)) cd.mro:=(PySem.W.looks_clsIn X hc).andThen .now;rw[PySem.W.osa_eq,refuse_eq];refine w_ (w_ (I.type.here (w_ (hm.here ?_))));rw[kc _ ho];refine u_ (w_ (I.type.here (w_ ((Hb X ht).here (w_ (u_ ?_))))));exact h _
def qX {s:Shared}{t:Addr}{Q:Unit->Shared->Prop}(X:K.In s.heap)(hx:s.heap.get? x=some (N9 C t none))(Z:jv K C)(mo:PySem.W.mroIn K C (.type "object")=some true)(ht:findIn K (.ref C) name=some none)
  (h:∀h',h'.get? x=some (N9 C t (some s.heap.objs.size))->h'.Ns1 s.heap.objs.size (λy=>if y=name then some v else none)->(∀b o,b≠x->s.heap.get? b=some o->h'.get? b=some o)->Q () { s with heap:=h',toks:=s.toks+2 }) :
  wpAny (model prog w) A (setAttr (.ref x) name v) Q E s:=by
 have J:InstAt s.heap x (N9 C t none) C none:=⟨hx,Iu,Iu,trivial⟩;refine PySem.W.set_plain X J Z.sa (iF (s:={ s with toks:=s.toks+1 }) X J Z mo ht λb=>?_)
 obtain⟨cd,hc,_,hd'⟩:=Z.cd;refine w_ (u_ (w_ (w_ (wpAny_loadPart hx (w_ (Looks.here (s:={ s with toks:=s.toks+1 }) (PySem.W.looks_clsIn X hc) ?_))))))
 rw[hd'];have x1:(s.heap.push { cls:=.type "dict",data:=.dict #[] }).get? x=some (N9 C t none):=Em _ hx;have nx:x≠s.heap.objs.size:=h_ (f_ hx)
 show wpAny _ _ ((if (!true || !typeHasDict (Value.ref C))=true then _ else _)) _ _ _
 rw[Il (by simp[typeHasDict])]
 refine w_ (wpAny_alloc' ?_);refine w_ (wpAny_update' x1 ?_);refine u_ ?_
 show wpAny _ _ (storeInDict s.heap.objs.size (.str name s.toks) name v) _ _ _
 have gx:((s.heap.push { cls:=.type "dict",data:=.dict #[] }).update x λo=>{ cls:=o.cls,dict:=some s.heap.objs.size,data:=o.data,slots:=o.slots }).get? x=some (N9 C t (some s.heap.objs.size)):=EY _ x1 rfl
 have gd:((s.heap.push { cls:=.type "dict",data:=.dict #[] }).update x λo=>{ cls:=o.cls,dict:=some s.heap.objs.size,data:=o.data,slots:=o.slots }).get? s.heap.objs.size=some { cls:=.type "dict",data:=.dict #[] } :=
  (Heap.get?_update_ne _ _ _ _ nx.symm).trans (Heap.get?_push_at rfl rfl)
 have ko:∀b o,b≠x->s.heap.get? b=some o->((s.heap.push { cls:=.type "dict",data:=.dict #[] }).update x λo=>{ cls:=o.cls,dict:=some s.heap.objs.size,data:=o.data,slots:=o.slots }).get? b=some o:=λb o n e=>(Heap.get?_update_ne _ _ _ _ n).trans (Em _ e);generalize ((s.heap.push { cls:=.type "dict",data:=.dict #[] }).update x λo=>{ cls:=o.cls,dict:=some s.heap.objs.size,data:=o.data,slots:=o.slots })=g1 at gx gd ko ⊢;have nd:g1.Ns s.heap.objs.size (λ_=>none):=⟨_,#[],_,gd,Iu,λe he=>absurd he (by simp),λ_=>rfl⟩
 unfold storeInDict newKeyGuard;refine w_ (u_ (w_ (wpAny_nsSet1 (Heap.Ns1.of_empty nd) λh' hn' hs=>?_)));obtain⟨oD,esD,epD,hoD,hdD,hcD⟩:=hn'.count (Hf name v PySem.Within.nil);refine w_ (wpAny_lookBehind hoD (by rw[hdD];exact pastItsLine_dict (k_ hcD (by rw[Ez,EA,Ex];lia))) ?_)
 exact u_ (h h' ((hs.2 x nx).trans gx) hn' λb o n e=>(hs.2 b (h_ (f_ e))).trans (ko b o n e))
def sj {s:Shared}{t dx:Addr}{Q:Unit->Shared->Prop}(X:K.In s.heap)(hx:s.heap.get? x=some (N9 C t (some dx)))(hn:s.heap.Ns1 dx mA)(hw:PySem.Within mA ns)(hz:ns.length<=1000)(Z:jv K C)
  (mo:PySem.W.mroIn K C (.type "object")=some true)(ht:findIn K (.ref C) name=some none)
  (h:∀h',h'.Ns1 dx (λy=>if y=name then some v else mA y)->Heap.SameBut dx s.heap h'->Q () { s with heap:=h',toks:=s.toks+2 }) :
  wpAny (model prog w) A (setAttr (.ref x) name v) Q E s:=by
 obtain⟨od,ho,hl⟩:=cO hn;have J:InstAt s.heap x (N9 C t (some dx)) C (some od):=⟨hx,Iu,Iu,ho⟩;refine PySem.W.set_plain X J Z.sa (iF (s:={ s with toks:=s.toks+1 }) X J Z mo ht λb=>?_)
 obtain⟨cd,hc,_,hd'⟩:=Z.cd;refine w_ (u_ (w_ (w_ (wpAny_loadPart hx (w_ (Looks.here (s:={ s with toks:=s.toks+1 }) (PySem.W.looks_clsIn X hc) ?_))))))
 rw[hd'];refine u_ (a:=some dx) (w_ (u_ (w_ ?_)));refine wpAny_nsSet1 (s:={ s with toks:=s.toks+1 }) hn λh' hn2 hs2=>?_
 obtain⟨oD,esD,epD,hoD,hdD,hcD⟩:=hn2.count (Hf name v hw);refine w_ (wpAny_lookBehind hoD (by rw[hdD];exact pastItsLine_dict (k_ hcD (by rw[Ez,Ex];lia))) ?_)
 exact u_ (h _ hn2 hs2)
def zg {s:Shared}{expr:Bool}{Q:Value->Shared->Prop}(X:K.In s.heap)(Z:jC K C)(N:jv K C)(hx:s.heap.get? x=some o)(hc:o.cls=.ref C)(hf:∃fs,o.data=.fields fs)(hd:o.dict=some dx)(hn:s.heap.Ns1 dx mA)
  (ht:findIn K (.ref C) name=some none)(hv:mA name=some v)(hh:PySem.W.handedIn v=true)(h:Q v { s with toks:=s.toks+1 }) :
  wpAny (model prog w) A (getAttr (.ref x) name expr) Q E s:=by
 obtain⟨od,ho,hl⟩:=cO hn;obtain⟨fs,hfs⟩:=hf;have J:InstAt s.heap x o C (some od):=⟨hx,hc,by obtain⟨a,b,c,d⟩:=o;cases hfs;rfl,by rw[hd];exact ho⟩
 have Lf:=PySem.W.looks_find (M:=model prog w) X J (PySem.W.findObj_own N.hd ht rfl (by rw[hl,hv]))
 obtain⟨hh0,g,dr,t,os⟩:=s;have L0:Looks (model prog w) hh0 (typeOf (.ref x)) (.ref C):=hc▸(Looks.ld hx).andThen .now;have L1:=Hb (M:=model prog w) X Z.ga;have L2:=Hb (M:=model prog w) X Z.gn;have L4:=Hc (M:=model prog w) X Z.mb;have f3:=PySem.F.attr_ValueError.ga.bind (.ref x);have hk:builtinKind "BaseException.__getattribute__" = some .slot:=by decide +kernel
 have hsplit:splitId "BaseException.__getattribute__" = some ("BaseException","__getattribute__"):=by decide +kernel
 unfold getAttr getAttrBy;refine w_ (wpAny_mkText (D_ (w_ (L0.at (w_ (L1.at ?_))))))
 show wpAny _ _ (getAttrByItsOwn _ _ _ _ _ _) _ _ _
 unfold getAttrByItsOwn;refine w_ ?_
 show wpAny _ _ (typeLookup _ _) _ _ _
 refine L2.at ?_;refine w_ (Gi (D_ ?_));unfold callGetattribute;rw[Il (by simp[onTheHeap])]
 unfold boundAndCalled;refine w_ ?_;rw[f3];refine u_ ?_;refine EI (GL PySem.F.attr_ValueError.ga.plain PySem.F.entry_bexc_ga ?_);have ha:=PySem.F.args_bexc_ga (.ref x) (.str name t)
 simp only[checkBuiltinCall,hk,hsplit]
 refine w_ ?_;unfold isInstance;refine w_ (L0.at (L4.at ?_))
 simp only[Gh,Fy,Fa]
 refine x_ (Q:=λ_ s1=>s1=⟨hh0,g,dr,t+1,os⟩) (E:=λ_ _=>False) ?_ (λ_ s1 z=>?_) λ_ _ z=>z.elim
 ·cases hs:Manifest.signature? "BaseException.__getattribute__" with
  | none=>exact u_ rfl
  | some sig =>
   simp only[argsOk,hs] at ha
   have h2:Bind.checkArgs "BaseException.__getattribute__" sig ⟨[.ref x,.str name t],[]⟩=pure ():=ha
   show wpAny _ _ (Bind.checkArgs "BaseException.__getattribute__" sig ⟨[.ref x,.str name t],[]⟩) _ _ _
   rw[h2];exact u_ rfl
 subst z;unfold Builtin.«object.__getattribute__»;refine w_ (u_ (w_ (u_ (w_ (L0.at (w_ (Lf.at (u_ ?_))))))))
 show wpAny _ _ (handedOut v) _ _ _
 rw[PySem.W.handedOut_of hh];exact u_ h
end
def P9 (e C:Addr)(od:Option Addr):HO:=.ext λh=>∃t,h.get? e=some (N9 C t od)
def XdO (dx:Addr)(fs:List (Str×V)):HO:=.ext λh=>∃mA,h.Ns1 dx mA/\(∀f,cj (fs.lookup f) (mA f))/\PySem.Within mA (fs.map (·.1))
def aX (e C:Addr)(od:Option Addr):HO:=.ext λh=>∃o vs,h.get? e=some o/\o.cls=.ref C/\o.data=.fields vs/\o.dict=od
def oX {h:Heap}{e C t:Addr}(g:h.get? e=some (N9 C t od)):u6 P w H h e (P9 e C od):=⟨⟨t,g⟩,⟨_,g⟩,λh1 h2 ⟨t',g'⟩ k=>⟨t',k _ g'⟩⟩
def wV {h1 h2:Heap}(n:h1.Ns1 d m)(k:∀o,h1.get? d=some o->h2.get? d=some o):h2.Ns1 d m:=by
 obtain⟨o,es,ep,e,r⟩:=n;exact⟨o,es,ep,k _ e,r⟩
def tO {h:Heap}{fs:List (Str×V)}(n:h.Ns1 dx mA)(r:∀f,cj (fs.lookup f) (mA f))(wi:PySem.Within mA (fs.map (·.1))):u6 P w H h dx (XdO dx fs):=by
 obtain⟨o,es,ep,e,r'⟩:=id n;exact⟨⟨mA,n,r,wi⟩,⟨_,e⟩,λh1 h2 ⟨m,n1,r1,w1⟩ k=>⟨m,wV n1 k,r1,w1⟩⟩
def sX0 (K:Frag)(ta tv:TE)(f:Str):TS:=λD σ H=>tv σ H λy H1=>ta σ H1 λx H2=>∃a C,x=.ref a/\H2 a=some (P9 a C none)/\jv K C/\PySem.W.mroIn K C (.type "object")=some true/\findIn K (.ref C) f=some none /\
 ∀dx,H2 dx=none->D.nx σ (upd (upd H2 a (P9 a C (some dx))) dx (XdO dx [(f,y)]))
def yz {pos pos':Pos}(K:Frag)(ha:PE X o ta)(hv:PE X value tv)(hs:swapsWith value (some (.Attribute o f pos')) pos.line X.env=pure false)(hK:X.K=K:=by rfl):PS X (.Assign [.Attribute o f pos'] value pos) (sX0 K ta tv f):=by
 subst hK
 intro pins s σ H D I h
 refine plainObj_wpAny_Assign_Attribute (thx (hv pins s σ H _ I h) λu s1 y H1 I1 ry q=>thn (ha pins s1 σ H1 _ I1 q) λov s2 z_=>?_) hs;obtain⟨x,H2,I2,rx,a,C,ex,ea,Z,mo,nf,q2⟩:=z_;subst ex;obtain rfl:ov=Value.ref a:=rx;obtain⟨⟨t,g⟩,_,_⟩:=(show u6 X.prog X.w H2 s2.heap a (P9 a C none) from I2.hok a _ ea);refine qX I2.kIn g Z mo nf λh' g' n' kp=>?_;have fr:H2 s2.heap.objs.size=none:=I2.hok.fresh (Eo _);have na:s2.heap.objs.size≠a:=Ej (f_ g);have mu:Mut (H2 a):=by rw[ea];exact ED
 have new1:u6 X.prog X.w (upd H2 a (P9 a C (some s2.heap.objs.size))) h' a (P9 a C (some s2.heap.objs.size)):=oX g';have ok1:=I2.hok.write (e:=a) mu (.inl rfl) (λb u hb z=>kp b u hb z) ⟨_,g'⟩ new1;have fr1:upd H2 a (P9 a C (some s2.heap.objs.size)) s2.heap.objs.size=none:=by rw[j9 na];exact fr
 refine⟨σ,_,I2.call' (s':={ s2 with heap:=h',toks:=s2.toks+2 }) (ch:=[]) rfl (Un.track (Un.write (e:=a) mu (.inl rfl) (λb u hb z=>kp b u hb z) ⟨_,g'⟩) (Eo _) fr) (HOk.track ok1 fr1 (tO (fs:=[(f,y)]) n' (λg=>?_) ?_)) I2.bare (λb z=>nomatch z),q2 _ fr⟩
 ·by_cases z:g=f
  ·subst z
   simp only[List.lookup,FA,F_]
   exact ry
  ·have z':(g==f)=false:=c_.mpr z
   simp only[List.lookup,z',Il z]
   exact ED
 ·exact Hf f u PySem.Within.nil
def sX1 (K:Frag)(ta tv:TE)(f:Str):TS:=λD σ H=>tv σ H λy H1=>ta σ H1 λx H2=>∃a C dx fs,x=.ref a/\H2 a=some (P9 a C (some dx))/\H2 dx=some (XdO dx fs)/\jv K C/\PySem.W.mroIn K C (.type "object")=some true/\findIn K (.ref C) f=some none/\fs.length<1000 /\
 D.nx σ (upd H2 dx (XdO dx ((f,y)::fs)))
def yh {pos pos':Pos}(K:Frag)(ha:PE X o ta)(hv:PE X value tv)(hs:swapsWith value (some (.Attribute o f pos')) pos.line X.env=pure false)(hK:X.K=K:=by rfl):PS X (.Assign [.Attribute o f pos'] value pos) (sX1 K ta tv f):=by
 subst hK
 intro pins s σ H D I h
 refine plainObj_wpAny_Assign_Attribute (thx (hv pins s σ H _ I h) λu s1 y H1 I1 ry q=>thn (ha pins s1 σ H1 _ I1 q) λov s2 z_=>?_) hs;obtain⟨x,H2,I2,rx,a,C,dx,fs,ex,ea,ed,Z,mo,nf,hl,q2⟩:=z_;subst ex;obtain rfl:ov=Value.ref a:=rx;obtain⟨⟨t,g⟩,_,_⟩:=(show u6 X.prog X.w H2 s2.heap a (P9 a C (some dx)) from I2.hok a _ ea);obtain⟨⟨mA,n,r,wi⟩,_,_⟩:=(show u6 X.prog X.w H2 s2.heap dx (XdO dx fs) from I2.hok dx _ ed);refine sj I2.kIn g n wi (by rw[EV];lia) Z mo nf λh' n' sb=>?_
 have he:∃u,h'.get? dx=some u:=by obtain⟨o,_,_,e,_⟩:=id n';exact⟨o,e⟩
 refine⟨σ,_,I2.write (x:=dx) (e:=dx) (o:=XdO dx ((f,y)::fs)) (by rw[ed];exact ED) (.inl rfl) (λb u hb z=>(sb.2 b hb).trans z) he (tO n' (λg=>?_) ?_),q2⟩
 ·by_cases z:g=f
  ·subst z
   simp only[List.lookup,FA,F_]
   exact ry
  ·have z':(g==f)=false:=c_.mpr z
   simp only[List.lookup,z',Il z]
   exact r g
 ·rw[EX]
  exact Hf f u wi
def tXf (K:Frag)(ta:TE)(f:Str):TE:=λσ H Q=>ta σ H λx H1=>∃a C dx fs v,x=.ref a/\H1 a=some (aX a C (some dx))/\H1 dx=some (XdO dx fs)/\jC K C/\jv K C/\findIn K (.ref C) f=some none/\fs.lookup f=some v/\Q v H1
def wq (K:Frag)(he:PE X o ta)(hK:X.K=K:=by rfl)(hb:attributeBase o f X.env (eval o X.env)=eval o X.env:=by rfl):PE X (.Attribute o f pos) (tXf K ta f):=by
 subst hK
 intro pins s σ H Q I h
 refine vU hb (thn (he pins s σ H _ I h) λu s1 z_=>?_);obtain⟨x,H1,I1,rx,a,C,dx,fs,v,ex,ea,ed,Z,N,nf,l,q⟩:=z_;subst ex;obtain rfl:u=Value.ref a:=rx;obtain⟨⟨o,vs,g,hc,hd,hdd⟩,_,_⟩:=(show u6 X.prog X.w H1 s1.heap a (aX a C (some dx)) from I1.hok a _ ea);obtain⟨⟨mA,n,r,wi⟩,_,_⟩:=(show u6 X.prog X.w H1 s1.heap dx (XdO dx fs) from I1.hok dx _ ed);obtain⟨u',hu,ru⟩:=cj.some_of (v:=v) (o:=mA f) (by rw[<- l];exact r f)
 exact zg I1.kIn Z N g hc ⟨vs,hd⟩ hdd n nf hu (rZ ru) ⟨v,H1,I1.tok _,ru,q⟩
def ut (K:Frag):List V->Hp->VK->Prop:=λxs H Q=>∃ea C od d c b,xs=[.ref ea,d]/\(∀u,u9 d u->u=c)/\H ea=some (aX ea C od)/\jC K C/\kitOne K (.ref C) c=some b/\Q (.bl b) H
def B7 {X:Cx}(K:Frag)(h:X.K=K:=by rfl):B1 X (.builtin "isinstance") (ut K):=by
 subst h
 intro pins s σ H xs us Q I r h
 obtain⟨ea,C,od,d,c,b,rfl,hd,he,Z,e,q⟩:=h;obtain⟨u,u',rfl,r1,r2⟩:=cX r
 cases (show u=Value.ref ea from r1)
 cases hd u' r2
 obtain⟨⟨o,vs,ho,hc,_⟩,_⟩:=(show u6 X.prog X.w H s.heap ea (aX ea C od) from I.hok ea _ he);exact EC (sY Z) I.kIn ⟨o,ho,hc⟩ e (λz=>nomatch z) λtk=>⟨.bl b,H,I.tok _,Iu,q⟩
def mE (H:Hp)(e:Addr):Hp:=λb=>if b=e then none else H b
def qI:mE H e e=none:=Ik rfl
def L6 (h:b≠e):mE H e b=H b:=Il h
def CXF (P:Program)(w:World):CXT:=λouter H s E e s'=>∃(ea C:Addr)(a0:Value)(B:Heap)(H':Hp)(od:Option Addr),
 e=.ref ea/\s'.os=s.os/\AllBare s'.gens/\Heap.FlyingW B outer ea (.ref C) a0 s'.heap/\M4 s'.heap ea od/\Fly (frs outer) H H' s.heap B s'.heap/\HOk P w H' B/\E (.ref C) od H'
def kh (X:Cx)(E:St->XK):Prop:=∀(pins:List (Addr×Obj))(σ:St)(H:Hp)(s:Shared)(e:Value)(s':Shared),Inv X pins σ H s->CXF X.prog X.w X.stack H s (E σ) e s'->X.xe e s'
def wv (X:Cx)(E:XK):Prop:=∀(pins:List (Addr×Obj))(σ:St)(H:Hp)(s:Shared)(e C:Addr)(od:Option Addr),Inv X pins σ H s->H e=some (P9 e C od)->X.s₀.heap.get? e=none->E (.ref C) od (mE H e)->X.xe (.ref e) s
section
variable {K:Frag}
def uH:wv (R1 (CXF P w) P w K mg base N qual scope f cd A outer s H E) E:=by
 intro pins σ H1 s1 e C od I he h0 hE
 show wpAny _ _ (leaving _ (.ref e)) _ _ _
 have fr:frs (R1 (CXF P w) P w K mg base N qual scope f cd A outer s H E).stack=s.heap.objs.size::frs outer:=lz rfl;have hin:∀env∈(R1 (CXF P w) P w K mg base N qual scope f cd A outer s H E).stack,∀a,env.frame=some a->a∈e::frs (R1 (CXF P w) P w K mg base N qual scope f cd A outer s H E).stack:=λenv hm b hb=>o_ _ (Er.mpr ⟨env,hm,hb⟩);have frees:=I.stkFree;have stk:=I.stack;obtain⟨⟨t,g⟩,_,_⟩:=(show u6 P w H1 s1.heap e (P9 e C od) from I.hok e _ he);refine gJ (B:=PySem.W.hideAll s1.heap (e::frs (R1 (CXF P w) P w K mg base N qual scope f cd A outer s H E).stack)) I.ok.frames (PySem.W.funFrames_hide stk hin) rfl g (λb o q=>PySem.W.of_hideAll _ q) (PySem.W.hideAll_none _ (n_ ..)) rfl rfl rfl λh'' fl up dz=>?_
 have ne:∀b,b∈frs (R1 (CXF P w) P w K mg base N qual scope f cd A outer s H E).stack->b≠e:=λb hb z=>by
  have:=frees b hb
  rw[z,he] at this
  cases this
 have keepB:∀b o,s1.heap.get? b=some o->b≠e->b∉frs (R1 (CXF P w) P w K mg base N qual scope f cd A outer s H E).stack->(PySem.W.hideAll s1.heap (e::frs (R1 (CXF P w) P w K mg base N qual scope f cd A outer s H E).stack)).get? b=some o:=λb o q n1 n2=>PySem.W.hideAll_get _ q λz=>(p_.mp z).elim n1 n2
 have n0:∀b o,s.heap.get? b=some o->b≠e:=λb o q z=>by
  have h0':s.heap.get? e=none:=h0;rw[z,h0'] at q
  cases q
 have nL:∀b o,s.heap.get? b=some o->b∉frs outer->b∉frs (R1 (CXF P w) P w K mg base N qual scope f cd A outer s H E).stack:=λb o q hb z=>by
  rw[fr] at z
  rcases p_.mp z with y|y
  ·exact absurd (f_ q) (by rw[y];exact g_ _)
  ·exact hb y
 have fly:Fly (frs outer) H (mE H1 e) s.heap (PySem.W.hideAll s1.heap (e::frs (R1 (CXF P w) P w K mg base N qual scope f cd A outer s H E).stack)) h'':=by
  refine⟨λb o q hb=>?_,λb o q hb=>?_,λb o q n=>?_,λb xs q=>?_,λb o u q=>?_,λb ps q=>?_⟩
  ·obtain⟨o1,e1⟩:=I.base.there b o q (show _∉([]:List Addr) by simp)
   refine⟨⟨o1,keepB b o1 e1 (n0 b o q) (nL b o q hb)⟩,λn=>?_⟩;exact keepB b o (I.base.keep b o q n hb (show _∉([]:List Addr) by simp)) (n0 b o q) (nL b o q hb)
  ·obtain⟨s1',q1⟩:=I.base.slot b o q (I.ok.frf b hb) hb (show _∉([]:List Addr) by simp)
   have hb':b∈frs (R1 (CXF P w) P w K mg base N qual scope f cd A outer s H E).stack:=by rw[fr];exact o_ _ hb
   obtain⟨s2',q2⟩:=up b _ q1 (by
    obtain⟨_,o',q',d⟩:=stk.mem hb';rw[q1] at q'
    cases q'
    exact d)
   exact⟨s2',q2⟩
  ·rw[L6 (n0 b o q)]
   exact I.base.free b o q n (show _∉([]:List Addr) by simp)
  ·have z:=I.base.tups b xs q
   rw[L6 (λy=>by rw[y,he] at z;cases z)]
   exact z
  ·have z:=I.base.frzs b o u q
   rw[L6 (λy=>by rw[y,he] at z;cases z)]
   exact z
  ·obtain⟨m,z⟩:=I.base.tbls b ps q
   exact⟨m,by rw[L6 (λy=>by rw[y,he] at z;cases z)];exact z⟩
 refine⟨e,C,_,_,mE H1 e,od,Iu,I.os,I.bare,fl,dz,fly,λb u e1=>?_,hE⟩;have nb:b≠e:=λz=>by rw[z,qI] at e1;cases e1
 rw[L6 nb] at e1;refine(I.hok b u e1).stay (λc v hc q=>keepB c v q ?_ λhm=>?_) (λc q=>?_) λc xs q=>?_
 ·rintro rfl
  rcases hc with z|z
  ·exact nb z.symm
  ·rw[he] at z;cases z
 ·have hn:=frees c hm
  rcases hc with z|z
  ·rw[z] at hn;rw[e1] at hn;cases hn
  ·rw[z] at hn;cases hn
 ·rw[L6 (λy=>by rw[y,he] at q;cases q)];exact q
 ·rw[L6 (λy=>by rw[y,he] at q;cases q)];exact q
def kU {E:XK}{E2:XK}(hE:∀c d H,E2 c d H->E c d H):kh (R1 (CXF P w) P w K mg base N qual scope f cd A outer s H E) (λ_=>E2):=by
 intro pins σ H1 s1 e s' I c
 obtain⟨ea,C,a0,B,H2,od,rfl,os,bare,fl,dz,fy,hok,hE2⟩:=c
 show wpAny _ _ (leaving _ (.ref ea)) _ _ _
 have fr:frs (R1 (CXF P w) P w K mg base N qual scope f cd A outer s H E).stack=s.heap.objs.size::frs outer:=lz rfl;refine mP I.ok.frames rfl fl dz λh'' fl' up dz'=>?_
 have f2:=fy.up (h3:=h'') λb hb o e1=>up b o e1 (by
  obtain⟨_,o',q,d⟩:=fl.2.2.1.mem hb
  rw[e1] at q;cases q;exact d)
 refine⟨ea,C,a0,B,H2,od,Iu,os.trans I.os,bare,fl',dz',f2.after (u:=I.base) (λb o e1 hb=>?_) (λb hb=>by rw[fr];exact o_ _ hb) I.ok.frf,hok,hE _ _ _ hE2⟩
 rw[fr]
 intro z
 rcases p_.mp z with z|z
 ·exact absurd (f_ e1) (by rw[z];exact g_ _)
 ·exact hb z
end
structure O1 (P:Program)(w:World)(K:Frag)(mg:Str->Option Value)(base:Heap)(k:Nat)(x:Str)(ps:List Str)(dvs:List V)(sp:Sp):Prop where
 ex:∃(f:Addr)(fd:FuncData),bF P w K mg base (CXF P w) k f fd ps sp/\(∀m,m<=dvs.length->∃ds,o6 (dvs.drop m) ds/\X3 K fd ps ds)/\keepIn K (.ref f)=true/\mg x=some (.ref f)
section
variable {K:Frag}
theorem dv.okF {st:Stmt}{k:Nat}{sp:Sp}(D:dv K mg x st ps dvs)(S:FnScope N ps (i4 st))(len:∀vs H Q E,sp vs H Q E->vs.length=ps.length)
  (hbody:∀(f:Addr)(cdv:Value)(A:Around)(outer:List Env)(s:Shared)(H:Hp)(vs:List V)(Q:VK)(E:XK),C0 k (A.deeper (envOfC x (i4 st) s.heap.objs.size f cdv))->sp vs H Q E ->
   ∃t,PSs (R1 (CXF P w) P w K mg base N x (i4 st) f cdv A outer s H E) (o7 st) t/\t { nx:=λ_ H'=>Q .non H',rt:=Q } (start N vs) H):O1 P w K mg base (k+1) x ps dvs sp:=by
 obtain⟨f,fd,⟨oc,od,dV,kV,doc,pm,an,cdv,ct,osl,rfl,lk,hcd⟩,kp,b,m⟩:=D.ex;exact⟨f,_,jO lk hcd S len λA outer s H vs Q E hr hsp=>hbody f cdv A outer s H vs Q E hr hsp,b,kp,m⟩
theorem Def.okF {st:Stmt}{k:Nat}{sp:Sp}(D:Def K mg x st ps)(S:FnScope N ps (i4 st))(len:∀vs H Q E,sp vs H Q E->vs.length=ps.length)
  (hbody:∀(f:Addr)(cdv:Value)(A:Around)(outer:List Env)(s:Shared)(H:Hp)(vs:List V)(Q:VK)(E:XK),C0 k (A.deeper (envOfC x (i4 st) s.heap.objs.size f cdv))->sp vs H Q E ->
   ∃t,PSs (R1 (CXF P w) P w K mg base N x (i4 st) f cdv A outer s H E) (o7 st) t/\t { nx:=λ_ H'=>Q .non H',rt:=Q } (start N vs) H):O1 P w K mg base (k+1) x ps [] sp:=by
 obtain⟨f,fd,⟨⟨oc,od,kV,doc,pm,an,cdv,ct,osl,rfl,lk,hcd⟩,kp⟩,b,m⟩:=D.ex;refine⟨f,_,jO lk hcd S len λA outer s H vs Q E hr hsp=>hbody f cdv A outer s H vs Q E hr hsp,λj hj=>⟨[],?_,b⟩,kp,m⟩;rw[List.drop_nil];exact .nil
end
section
variable {k n:Nat}{t:TA}
theorem ve {X:Cx}(F:bF X.prog X.w X.K X.mg X.base (CXF X.prog X.w) k f fd ps sp)(hr:C0 k X.A)(hb:X3 X.K fd ps ds)(hd:o6 dvs ds)(hx:kh X E)
  (I:Inv X pins σ H s)(r:o6 vs us)(h:sp (vs++dvs) H Q (E σ)):wpAny (model X.prog X.w) X.A (call (.ref f) us) (EP X pins σ Q) X.xe s:=by
 have r2:o6 (vs++dvs) (us++ds):=r.append hd;have hl:(us++ds).length=ps.length:=by rw[<- r2.length];exact F.len _ _ _ _ h
 refine EI (EJ (F.run X.A X.stack s H ⟨us,[]⟩ (us++ds) (vs++dvs) Q (E σ) hr I.env0 (hb s us I.kIn hl) r2 h) λr s' hq=>?_)
 cases r with
 | error e=>exact hx pins σ H s e s' I hq
 | ok fl =>
  cases fl with
  | ret u=>exact I.after hq
  | next=>exact False.elim hq
  | brk=>exact False.elim hq
  | cont=>exact False.elim hq
def cC {X:Cx}(m:Nat)(C:O1 X.prog X.w X.K X.mg X.base k x ps dvs sp)(hx:kh X E)(hr:C0 n X.A)(hg:Gl X x)(ha:PA X (e::es) t)(hm:m<=dvs.length:=by decide)(hk:k<=n:=by decide)(hdb:(x==("__debug__":Str))=false:=by decide)
  (he:starEach (e::es) X.env=(false,eval e X.env)::starEach es X.env:=by rfl) (hpl:(backTo pos (starEach es X.env)).any (·.1)=false:=by rfl) :
  PE X (.Call (.Name x p) (e::es) [] pos) (xH sp (dvs.drop m) E t):=by
 obtain⟨f,fd,F,b,kp,mm⟩:=C.ex;obtain⟨ds,hv,hb⟩:=b m hm
 intro pins s σ H Q I h
 refine EK (ci I hg mm ?_ hdb);refine PySem.W.callWith_K (h₀:=X.base) I.ok.mod.kin kp (thx (ha pos pins s σ H _ I h) λus s1 vs H1 I1 r q=>⟨I1.kIn,?_⟩) he hpl;exact ve F (hr.mono hk) hb hv hx I1 r q
end
structure yu (K:Frag)(mg:Str->Option Value)(x:Str)(C fI:Addr):Prop where
 mg:mg x=some (.ref C)
 exc:cz K C fI=true
 at_:findIn K (.ref C) "__init__" = some (some (.ref fI))
section
variable {t:TA}{k n:Nat}
def vC (C:Addr)(sp:Sp)(E:XK)(t:TA):TS:=λ_ σ H=>t σ H λvs H1=>vs.length<=1000/\∀ea,H1 ea=none->sp (.ref ea::vs) (upd H1 ea (P9 ea C none)) (λr H2=>r=.non/\∃od,H2 ea=some (P9 ea C od)/\E (.ref C) od (mE H2 ea)) E0
theorem qv (hl:wv X E)(M:∃fI,yu X.K X.mg x C fI)(Z:dO X.prog X.w X.K X.mg X.base k C "__init__" ps [] kb sp)(hr:C0 n X.A)(hh:X.A.handled=none)(hg:Gl X x)(ha:PA X (e::es) t)(hk:k+1<=n:=by decide)(hdb:(x==("__debug__":Str))=false:=by decide)(hx0:X.ex=[]:=by rfl)
  (hst:starEach (e::es) X.env=(false,eval e X.env)::starEach es X.env:=by rfl) (hpl:(backTo cpos (starEach es X.env)).any (·.1)=false:=by rfl):PS X (.Raise (some (.Call (.Name x np) (e::es) [] cpos)) none pos) (vC C sp E t):=by
 obtain⟨fI,M⟩:=M;obtain⟨f,fd,F,mt,hkb,b⟩:=Z.ex
 have ef:f=fI:=by
  have z:=mt.at_;rw[M.at_] at z
  cases z
  rfl
 subst ef;obtain⟨ds,hv,hb⟩:=b 0 (Et _);rw[List.drop_zero] at hv
 cases hv
 intro pins s σ H D I h
 have hpl':(backTo cpos (starEach (e::es) X.env)).any (·.1)=false:=by rw[hst];exact hpl
 refine nE (C:=C) (fI:=f) hh hpl' (ci I hg M.mg ⟨Iu,?_⟩ hdb);have hA:=ha cpos pins s σ H _ I h;rw[hst] at hA ⊢;refine Ff ?_;refine thn hA λus s2 z_=>?_;obtain⟨vs,H2,I2,r2,hlen,q2⟩:=z_
 have hfn:∃oI,s2.heap.get? f=some oI/\oI.cls=.type "function":=by
  have z:typeIn X.K (.ref f)=some (.type "function"):=Gs.mp mt.fn;obtain⟨oI,h1,h2⟩:=Hg.mp (show(X.K.lookup f).map (·.cls)=_ from z);exact⟨oI,I2.kIn _ _ h1,h2⟩
 refine⟨Iu,by rw[<- r2.length];exact l_ (k9 hlen),oU I2.kIn M.exc,hfn,λh' ea kp hsz ⟨tt,ge⟩=>?_⟩
 have fr:=I2.hok.fresh hsz;have I3:Inv X pins σ (upd H2 ea (P9 ea C none)) { s2 with heap:=h' }:=I2.laid (t':=s2.toks) kp hsz (oX ge)
 have hq:=q2 ea fr;have rr:o6 (V.ref ea::vs) (Value.ref ea::us):=.cons rfl r2;have hll:(Value.ref ea::us).length=ps.length:=by rw[<- rr.length];exact F.len _ _ _ _ hq
 have s0n:X.s₀.heap.get? ea=none:=by
  cases z:X.s₀.heap.get? ea with
  | none=>rfl
  | some o =>
   obtain⟨o',e'⟩:=I2.base.there ea o z (by rw[hx0];simp)
   exact absurd (f_ e') (Nat.not_lt.mpr hsz)
 refine EI (EJ (F.run _ X.stack _ _ ⟨.ref ea::us,[]⟩ (.ref ea::us) _ _ E0 ((hr.mono hk).make C us []) (I3.env0.make C us []) (by have:=hb _ (.ref ea::us) I3.kIn (by rw[EH];exact hll);rw[EH] at this;exact this) rr hq) λr s' hq'=>?_)
 cases r with
 | error e=>exact(wC (X:=X)) pins σ _ _ e s' I3 hq'
 | ok fl =>
  cases fl with
  | ret u =>
   obtain⟨v,H',I4,rv,ev,od,eH,hE⟩:=I3.after hq';subst ev
   cases (show u=Value.none from rv)
   obtain⟨⟨t',g'⟩,_,_⟩:=(show u6 X.prog X.w H' s'.heap ea (P9 ea C od) from I4.hok ea _ eH);exact⟨Iu,oU I4.kIn M.exc,⟨t',od,g'⟩,hl pins σ H' s' ea C od I4 eH s0n hE⟩
  | next=>exact False.elim hq'
  | brk=>exact False.elim hq'
  | cont=>exact False.elim hq'
end
def xeF (X:Cx)(pn:List (Addr×Obj))(E:St->XK):Value->Shared->Prop:=λe s'=>∃(pins:List (Addr×Obj))(σ:St)(H:Hp)(s1:Shared),Inv (X.pinned pn) pins σ H s1/\CXF X.prog X.w X.stack H s1 (E σ) e s'
abbrev yE (X:Cx)(pn:List (Addr×Obj))(E:St->XK):Cx:=(X.pinned pn).wish (xeF X pn E)
def cF:kh (yE X pn E) E:=λpins σ H s _ _ I c=>⟨pins,σ,H,s,I.unwish,c⟩
def yj (K:Frag)(c:Value)(i:Nat)(tb:(St->XK)->TS)(th:TS):TS:=λD σ H=>∃E:St->XK,tb E D σ H/\∀σ' c0 d H',E σ' c0 d H'->σ'.length=σ.length/\exmOne K c0 c=some true /\
 ∀(ea C:Addr),c0=.ref C->H' ea=none->th (D.gone i) (σ'.set i (some (.ref ea))) (upd H' ea (aX ea C d))
def pK {i:Nat}{tb:(St->XK)->TS}(hg:Gl X x)(hm:X.mg x=some c)(hN:X.N.Nodup)(hi:X.N[i]? = some n)
  (hl:X.env.scope.names.lookup n=some .local)(hst:X.stack=X.env::X.outer)(hf:X.env.frame=some X.env.locals)(hx0:X.ex=[])
  (hb:∀(pn:List (Addr×Obj))(E:St->XK),PSs (yE X pn E) body (tb E))(hs:∀ea,PSs (hcx X ea) (b₀::suite) th)(hdb:(x==("__debug__":Str))=false:=by decide) :
  PS X (.Try body [.ExceptHandler (some (.Name x np)) (some n) (b₀::suite) hpos] [] [] pos) (yj X.K c i tb th):=by
 intro pins s σ H D I h
 obtain⟨E,h1,h2⟩:=h;have lenσ:=I.len;refine wpAny_Try_except ?_;refine x_ (hb (X.pn++pins) E [] s σ H D (I.toPinned.wish _) h1) (λfl s1 q=>?_) (λe s1 q=>?_)
 ·cases fl with
  | next=>obtain⟨σ',H',J,q⟩:=q;exact C_ ⟨σ',H',J.unwish.ofPinned,q⟩
  | brk=>obtain⟨σ',H',J,q⟩:=q;exact⟨σ',H',J.unwish.ofPinned,q⟩
  | cont=>obtain⟨σ',H',J,q⟩:=q;exact⟨σ',H',J.unwish.ofPinned,q⟩
  | ret u=>obtain⟨v,σ',H',J,r,q⟩:=q;exact⟨v,σ',H',J.unwish.ofPinned,r,q⟩
 ·obtain⟨ps,σ1,H1,s0,J0,ea,C,a0,B,H2,od,rfl,os,bare,fl,dz0,fy,hok,hE⟩:=q
  have J1:Inv X pins σ1 H1 s0:=J0.ofPinned;obtain⟨lσ,hex,hth⟩:=h2 σ1 _ _ H2 hE
  have he2:H2 ea=none:=by
   cases q:H2 ea with
   | none=>rfl
   | some o=>obtain⟨u,e⟩:=(hok ea o q).at_;rw[fl.2.1] at e;cases e
  have hframes:X.A.frames=some (X.env::X.outer):=hst▸I.ok.frames
  have flup:∀{h3:Heap},s1.heap.UpToSlots h3->Fly (frs X.stack) H1 H2 s0.heap B h3:=λ{h3} up=>fy.up λb hb o e1=>up b o e1 (by
   obtain⟨_,o',q,d⟩:=fl.2.2.1.mem hb
   rw[e1] at q;cases q;exact d)
  have inv:∀{h3:Heap}{t:Nat},s1.heap.UpToSlots h3->B.StaysIn h3->Inv X pins σ1 H2 { s1 with heap:=h3,toks:=t }:=λ{h3 t} up st =>
   J1.call' (s':={ s1 with heap:=h3,toks:=t }) (ch:=[]) os ((flup up).un st) (hok.kept st) bare (λ_ z=>nomatch z)
  refine qr hframes hf (hst▸fl) dz0 λh4 held up4 dz4=>?_;refine xO held dz4 λh5 fl5 up5 dz5=>?_;have up45:=up4.trans up5;have I5:Inv X pins σ1 H2 { s1 with heap:=h5 }:=inv (t:=s1.toks) up45 fl5.1
  obtain⟨ob,hob,hobc⟩:=fl5.there;refine wpAny_handleBy_cons (codeAny_handlers_test (ci (X:=hcx X ea) (I5.toH ea) hg hm ?_ hdb)) (by intro q;cases q)
  have LT:PySem.W.Looks (model X.prog X.w) h5 (typeOf (.ref ea)) (.ref C):=hobc▸(PySem.W.Looks.ld hob).andThen .now;refine(PySem.W.exm_one (M:=model X.prog X.w) (K:=X.K) (h:=h5) I5.kIn LT hex).here ?_;refine codeAny_handlers_suite_as ?_;refine jh fl5 dz5 λh6 fl6 up6 dz6=>?_;have I6:Inv X pins σ1 H2 { s1 with heap:=h6 }:=inv (t:=s1.toks) (up45.trans up6) fl6.1
  obtain⟨oe,ws,hoe,hoec,hoed,_⟩:=fl6.first
  have hodd:oe.dict=od:=by
   obtain⟨o2,z1,z2⟩:=dz6;rw[hoe] at z1
   cases z1
   exact z2
  have new:u6 X.prog X.w (upd H2 ea (aX ea C od)) h6 ea (aX ea C od):=⟨⟨oe,ws,hoe,hoec,hoed,hodd⟩,⟨oe,hoe⟩,λg1 g2 ⟨o,vs,e1,e2,e3,e4⟩ k=>⟨o,vs,k _ e1,e2,e3,e4⟩⟩
  have none0:X.s₀.heap.get? ea=none:=by
   cases q:X.s₀.heap.get? ea with
   | none=>rfl
   | some o =>
    exfalso
    have hx:ea∉X.ex:=by rw[hx0];simp
    obtain⟨o1,e1⟩:=J1.base.there ea o q hx
    by_cases hb:ea∈frs X.stack
    ·obtain⟨_,o',q',d⟩:=fl6.2.2.1.mem (hst▸hb)
     rw[hoe] at q';cases q';exact d _ hoed
    ·obtain⟨⟨o',q'⟩,_⟩:=fy.kp ea o1 e1 hb
     rw[fl.2.1] at q';cases q'
  have ne:∀{b:Addr}{u:HO},H2 b=some u->b≠ea:=λ{b u} e z=>by rw[z,he2] at e;cases e
  have nL:X.env.locals≠ea:=λz=>by
   obtain⟨m,⟨o,es,ep,ho,hd,_⟩,_⟩:=I6.loc;rw[z] at ho;have ho2:h6.get? ea=some o:=ho;rw[hoe] at ho2;cases ho2;rw[hoed] at hd;cases hd
  have I7:Inv X pins σ1 (upd H2 ea (aX ea C od)) { s1 with heap:=h6 }:=by
   refine⟨I6.ok,I6.os,I6.bare,⟨I6.base.keep,I6.base.slot,λb o e n hx=>?_,I6.base.there,λb xs e=>?_,λb o u e=>?_,λb ps e=>?_⟩,I6.loc,I6.cell,?_,λy c e=>?_,λp hp=>?_,λb u e=>?_,I6.len⟩
   ·rw[j9 (λz=>by rw[z,none0] at e;cases e)];exact I6.base.free b o e n hx
   ·have q:=I6.base.tups b xs e;rw[j9 (ne q)];exact q
   ·have q:=I6.base.frzs b o u e;rw[j9 (ne q)];exact q
   ·obtain⟨m,q⟩:=I6.base.tbls b ps e;exact⟨m,by rw[j9 (ne q)];exact q⟩
   ·rw[j9 nL];exact I6.free
   ·have nC:c≠ea:=λz=>by
     obtain⟨v,o,ho,hd⟩:=I6.cell y c e;rw[z] at ho;have ho2:h6.get? ea=some o:=ho;rw[hoe] at ho2;cases ho2;rw[hoed] at hd;cases hd
    rw[j9 nC];exact I6.freeC y c e
   ·obtain⟨e,n,ne1,nf,d⟩:=I6.pin p hp
    obtain⟨e0,n0,_,_,_⟩:=J1.pin p hp
    have np:p.1≠ea:=λz=>by
     have hb:p.1∉frs X.stack:=λhm=>(p_.mp (J1.stkSub _ hm)).elim ne1 nf;have q:=(fy.kp p.1 p.2 e0 hb).2 n0;rw[z,fl.2.1] at q;cases q
    exact⟨e,by rw[j9 np];exact n,ne1,nf,d⟩
   ·by_cases hb:b=ea
    ·subst hb;rw[c9] at e;cases e;exact new
    ·rw[j9 hb] at e
     exact(I6.hok b u e).stay (λc v _ q=>q) (λc q=>by rw[j9 (ne q)];exact q) λc xs q=>by rw[j9 (ne q)];exact q
  refine fL (X:=hcx X ea) (I7.toH ea) hN hi (.inl hl) (v:=.ref ea) rfl (λs7 I8=>?_) (.inr hl);refine x_ (hs ea pins s7 _ _ (D.gone i) I8 (hth ea C rfl he2)) (λfl8 s8 q8=>?_) λ_ _ z=>z.elim
  cases fl8 with
  | next =>
   obtain⟨σ',H',J,q⟩:=q8;exact dL (J.ofH I.ok) hN hi hl λs9 J9=>⟨_,H',J9,q⟩
  | brk =>
   obtain⟨σ',H',J,q⟩:=q8;exact dL (J.ofH I.ok) hN hi hl λs9 J9=>⟨_,H',J9,q⟩
  | cont =>
   obtain⟨σ',H',J,q⟩:=q8;exact dL (J.ofH I.ok) hN hi hl λs9 J9=>⟨_,H',J9,q⟩
  | ret u =>
   obtain⟨v,σ',H',J,r,q⟩:=q8;exact dL (J.ofH I.ok) hN hi hl λs9 J9=>⟨v,_,H',J9,r,q⟩
def uw:kh X (λ_=>E0):=λ_ _ _ _ _ _ _ ⟨_,_,_,_,_,_,_,_,_,_,_,_,_,z⟩=>z.elim
def vJ {K:Frag}(q:cz K C fI=true)(sa:findIn K (.ref C) "__setattr__" = some (some (.builtin "object.__setattr__"))):jv K C:=by
 have key:∃cd,clsIn K C=some cd/\S5 cd.mro=true/\cd.hasDict=true:=by
  obtain⟨dd,cd,bm,k0,k1,k2,k3,k5,ho,hm,hdel,hdc,ht,hok,hni,hrf⟩:=pI q;refine⟨cd,?_,?_,hdc⟩
  ·unfold clsIn
   rw[ho]
  ·rw[hm]
   exact hrf
 refine⟨key,sa,?_⟩;obtain⟨cd,h1,_,h2⟩:=key;unfold PySem.W.hasDictIn;rw[h1];exact h2
end L2
namespace L2
open PySem PyProof.Rows
theorem jj {prog:Program}{w:World}{A:Around}{E:Value->Shared->Prop}{s:Shared}{l:Addr}{items:Array Value}{ns:List Int}{Q:Value->Shared->Prop}(hh:A.handled=none)(hl:s.heap.IsTuple l items)(hi:IntsAre items.toList ns)(hb:items.size+1<scanBound)
  (h:∀(h':Heap)(tk:Nat),Y4 prog w (λi=>ns.getD i 0) items.size h' s.heap.objs.size->(∀b o,b<s.heap.objs.size->s.heap.get? b=some o->h'.get? b=some o)->Q (.ref s.heap.objs.size) { s with heap:=h',toks:=tk }) :
  wpAny (model prog w) A (call (.type "set") [.ref l]) Q E s:=by
 obtain⟨c,tl,hmro⟩:=PySem.F.called_set.mro;have hmade:=PySem.F.called_set.made;have hsub:=PySem.F.called_set.sub;refine EI (GG ?_)
 show wpAny _ _ (callAny (.type "set") _) _ _ _
 refine u_ ⟨GH _ (by decide +kernel),Gw GI ?_⟩
 rw[Around.under_plain (GJ "set" [.ref l] []) rfl];have h1:=PySem.F.called_set.notType;have h2:=PySem.F.called_set.canCreate;have hct:=GK (.ref l)
 repeat (any_goals (first|assumption|wp_step))
 refine EJ (Z1 (.ref l) (E:=E) (Q:=λobj s₁=>obj=.ref s.heap.objs.size/\s₁ = { s with heap:=s.heap.push (D0 w) }) ⟨Iu,Iu⟩) λr s₁ hr=>?_
 cases r with
 | error e=>exact hr
 | ok fl =>
  cases fl with
  | ret obj =>
   obtain⟨rfl,rfl⟩:=hr;have hS:(s.heap.push (D0 w)).get? s.heap.objs.size=some (D0 w):=En _ rfl;have hT:Shared.TypeIs { s with heap:=s.heap.push (D0 w) } (.ref s.heap.objs.size) "set":=⟨_,hS,Iu⟩
   have hli:=PySem.F.called_set.init.lookup;have hbi:=PySem.F.called_set.init.bind (.ref s.heap.objs.size)
   repeat (any_goals (first|assumption|wp_step))
   refine EJ (GL (R:=wants (λr s₂=>r=.none/\∃h' tk,s₂ = { s with heap:=h',toks:=tk }/\Y4 prog w (λi=>ns.getD i 0) items.size h' s.heap.objs.size /\
     (∀b o,b<s.heap.objs.size->s.heap.get? b=some o->h'.get? b=some o)) E) PySem.F.called_set.init.plain GM (check_set_init_1 hT ?_)) λr₂ s₂ hr₂=>?_
   ·obtain⟨ol,hol,hcl,nl,hdl⟩:=id hl
    have hol':(s.heap.push (D0 w)).get? l=some ol:=Em _ hol;have hTl:Shared.TypeIs { s with heap:=s.heap.push (D0 w) } (.ref l) "tuple":=⟨ol,hol',hcl⟩
    have hsls:=PySem.F.sub_tuple_set;have hslf:=PySem.F.sub_tuple_frozenset;have hne:(Value.type "tuple" == Value.type "dict")=false:=by decide
    have hl1:(s.heap.push (D0 w)).IsTuple l items:=hl.at λo e=>Em _ e;unfold Builtin.«set.__init__» noKeywords Builtin.Frozenset.updateFrom;generalize hPI:pyIter=PI
    wp_walk
    subst hPI;refine wpAny_pyIter_tuple hl1 (w_ (Gv ?_));have hlS:l<s.heap.objs.size:=f_ hol;have hneI:l≠(s.heap.push (D0 w)).objs.size:=by rw[FB];exact h_ (Gp hlS)
    have hSf:s.heap.objs.size∉[(s.heap.push (D0 w)).objs.size,l]:=by
     rw[FB]
     simp only[p_,FN,FO,not_or]
     exact⟨h_ (FD _),Ej hlS⟩
    refine kN ((Walks.tuple (by simpa using hh) _ l hneI items).toS) s.heap.objs.size hSf (λi=>ns.getD i 0) (λi v hv=>PyProof.Rows.IntsAre.int_at hi i v (by rw[Gr];exact hv)) hb (items.size-0) 0 _ (by lia) (Et _)
     ⟨⟨_,En _ rfl,Iu,Iu⟩,(hl1.at λo e=>Em _ e)⟩ ?hS0 ?hR
    case hS0 =>
     exact((P4.new (knd:=intKind prog w) s.heap rfl).congr (λ_=>rfl) rfl).of_get λo e=>Em _ e
    case hR =>
     intro s' m x
     obtain⟨h',g',d',tk',os'⟩:=s';have eg:g'=s.gens:=m.gens;have ed:d'=s.drawn:=m.drawn;have eo:os'=s.os:=m.os;subst eg ed eo
     show wpAny _ _ _ _ _ _
     refine u_ ?_
     show wpAny _ _ (ret Value.none) _ _ _
     refine u_ ⟨Iu,h',tk',Iu,x,λb o q e=>?_⟩;refine m.heap b o ?_ (Em _ (Em _ e))
     simp only[p_,FN,FO,not_or]
     refine⟨h_ q,?_⟩;rw[FB];exact h_ (Gp q)
   ·cases r₂ with
    | error e=>exact hr₂
    | ok fl₂ =>
     cases fl₂ with
     | ret r =>
      obtain⟨rfl,h',tk,rfl,x,kp⟩:=hr₂
      repeat (any_goals (first|assumption|wp_step))
      exact h _ _ x kp
     | _=>exact hr₂.elim
  | _=>exact hr.elim
end L2
namespace L2
open PySem PySem.Spec PyProof.Rows
def yJ (K:Frag)(P:Program)(w:World):List V->Hp->VK->Prop:=λxs H Q=>∃(p:Addr)(ns:List Int),xs=[.ref p]/\SqT K H p (ns.map V.int)/\ns.length<4000/\∀l,H l=none->Q (.ref l) (upd H l (qD P w l ns))
def nr {X:Cx}(K:Frag)(P:Program)(w:World)(hc:X.calm=true)(h:X.K=K:=by rfl)(hP:X.prog=P:=by rfl)(hw:X.w=w:=by rfl):B1 X (.type "set") (yJ K P w):=by
 subst h hP hw
 intro pins s σ H xs us Q I r h
 obtain⟨p,ns,rfl,hq,hlt,q⟩:=h;obtain⟨u,rfl,rx⟩:=K5 r
 cases rx
 obtain⟨its,r',pl,hz⟩:=I.tuple hq;have hi:IntsAre its ns:=J3 r';have hlen:its.length=ns.length:=hi.length;refine jj (I.ok.hd hc) (show s.heap.IsTuple p its.toArray from pl) (ns:=ns) (by simpa using hi) (by show its.toArray.size+1<4096;rw[Ey];lia) λh' tk x kp=>?_
 have x':P4 (intKind X.prog X.w) h' s.heap.objs.size (λk=>decide (k∈ns)) (A6 ns).length:=x.congr (λk=>by
  rw[Ey,hlen];exact W6 ns k) (by rw[Ey,hlen];exact br ns)
 have he:∃o,h'.get? s.heap.objs.size=some o:=let ⟨o,_,_,_,e,_⟩:=x';⟨o,e⟩;exact⟨.ref s.heap.objs.size,_,I.laid (t':=tk) (o:=mn X s.heap.objs.size ns) (λb o e=>kp b o (f_ e) e) (Eo _) ⟨x',he,λh1 h2 y k=>y.of_get k⟩,Iu,q _ (I.hok.fresh (Eo _))⟩
theorem wZ {u t:Value}(I:Inv X pins σ H s)(rx:u9 x u)(ty:S6 X.K H x t):∃Hh:Heap->Prop,PySem.W.KitX X.K u t Hh/\Hh s.heap/\u≠.builtin "__main__.__loader__#opaque":=by
 cases ty with
 | non=>cases (show u=Value.none from rx);exact⟨_,PySem.W.kitx_none,ED,λz=>nomatch z⟩
 | bl y=>cases (show u=Value.bool y from rx);exact⟨_,PySem.W.kitx_bool,ED,λz=>nomatch z⟩
 | int i=>obtain⟨t,q⟩:=(show ∃t,u=Value.int i t from rx);cases q;exact⟨_,PySem.W.kitx_int,ED,λz=>nomatch z⟩
 | str y=>obtain⟨t,q⟩:=(show ∃t,u=Value.str y t from rx);cases q;exact⟨_,PySem.W.kitx_str,ED,λz=>nomatch z⟩
 | flt y=>obtain⟨t,q⟩:=(show ∃t,u=Value.float y t from rx);cases q;exact⟨_,PySem.W.kitx_float,ED,λz=>nomatch z⟩
 | @lst a xs ea =>
  cases (show u=Value.ref a from rx)
  obtain⟨_,_,n,_,h1⟩:=(show u6 X.prog X.w H s.heap a (.lst xs) from I.hok a _ ea);exact⟨_,EE,⟨_,h1,Iu⟩,λz=>nomatch z⟩
 | @frz a ob xs ea =>
  cases (show u=Value.ref a from rx)
  obtain⟨_,_,_,n,_,h1⟩:=(show u6 X.prog X.w H s.heap a (.frz ob (.lst xs)) from I.hok a _ ea);exact⟨_,EE,⟨_,h1,Iu⟩,λz=>nomatch z⟩
 | @tup a xs ea =>
  cases (show u=Value.ref a from rx)
  obtain⟨_,_,_,p⟩:=(show u6 X.prog X.w H s.heap a (.tup xs) from I.hok a _ ea);obtain⟨o,h1,h2,_⟩:=p;exact⟨_,PySem.W.kitx_tuple,⟨o,h1,h2⟩,λz=>nomatch z⟩
 | @dK a kvs ea =>
  cases (show u=Value.ref a from rx)
  obtain⟨_,_,vs,_,p⟩:=(show u6 X.prog X.w H s.heap a (.dK kvs) from I.hok a _ ea);obtain⟨o,es,ep,h1,h2,_⟩:=p;exact⟨_,EF,⟨o,h1,h2.1⟩,λz=>nomatch z⟩
 | @dT a kvs ea =>
  cases (show u=Value.ref a from rx)
  obtain⟨_,_,xs,_,o,es,ep,h1,h2,_⟩:=(show u6 X.prog X.w H s.heap a (.dT kvs) from I.hok a _ ea);exact⟨_,EF,⟨o,h1,h2.1⟩,λz=>nomatch z⟩
 | @ins a C dx fs ea cl ha hn htk hm =>
  cases (show u=Value.ref a from rx)
  obtain⟨mA,O,_⟩:=pJ I.hok ea;obtain⟨od,J,_⟩:=O.look;exact⟨_,PySem.W.kitx_own (cl.get _) cl.hd ha hn htk hm,J,λz=>nomatch z⟩
def tG (K:Frag):List V->Hp->VK->Prop:=λxs H Q=>∃v p t T1 T2 b1 b2,xs=[v,.ref p]/\H p=some (.tup [.ty T1,.ty T2])/\S6 K H v t/\kitOne K t (.type T1)=some b1/\kitOne K t (.type T2)=some b2/\Q (.bl (b1 || b2)) H
def gC {X:Cx}(K:Frag)(h:X.K=K:=by rfl):B1 X (.builtin "isinstance") (tG K):=by
 subst h
 intro pins s σ H xs us Q I r h
 obtain⟨v,p,t,T1,T2,b1,b2,rfl,hp,ty,e1,e2,q⟩:=h;obtain⟨u,u',rfl,r1,r2⟩:=cX r
 cases r2
 obtain⟨Hh,Z,zh,hx⟩:=wZ I r1 ty;obtain⟨_,its,rv,pl⟩:=(show u6 X.prog X.w H s.heap p (.tup [.ty T1,.ty T2]) from I.hok p _ hp);obtain⟨w1,w2,rfl,q1,q2⟩:=cX rv
 cases q1
 cases q2
 obtain⟨⟨oc,od,dat,sl⟩,g1,g2,n,g3⟩:=pl
 simp only at g2 g3
 subst g2 g3
 have ka:PySem.W.kitAny X.K t [.type T1,.type T2]=some (b1 || b2):=by
  unfold PySem.W.kitAny;rw[e1]
  cases b1 with
  | true=>rfl
  | false =>
   show PySem.W.kitAny X.K t [.type T2]=some b2
   unfold PySem.W.kitAny;rw[e2]
   cases b2<;>rfl
 exact PySem.W.kia_tup Z I.kIn zh g1 ka hx λtk=>⟨.bl (b1 || b2),H,I.tok _,Iu,q⟩
def kd {s:Shared}{vs:List Value}{Q:List Value->Shared->Prop}{n:Nat}(ho:s.heap.get? it=some o)(hc:o.cls=.type "tuple")(hd:o.data=.seq vs.toArray n)
  (h:Q vs { s with heap:=(s.heap.push (seqObj "list" #[] 0)).update s.heap.objs.size (Obj.mapSeq (·++vs.toArray)) })(hsz:vs.length<=sizeLine):wpAny (model prog w) A (collect (.ref it)) Q E s:=by
 unfold collect;refine w_ (Gv (Gw F.entry_proto_collect ?_));rw[Gx F.plain_proto_collect _]
 show wpAny _ A.in1 (newList [] >>= λl=>again (.builtin "list.__iadd__" ⟨[l,.ref it],[]⟩)) _ _ s
 refine w_ (FC ?_);refine u_ ⟨Gy Gz _,Gw F.entry_list_iadd ?_⟩;rw[Gx Gz _]
 show wpAny _ A.in1 (Builtin.List.listExtendWith (.ref s.heap.objs.size) (.ref it) (.ref s.heap.objs.size)) _ _ _
 have hS:(s.heap.push (seqObj "list" #[] 0)).get? s.heap.objs.size=some (seqObj "list" #[] 0):=En _ rfl
 have fin':wpAny (model prog w) A (match Value.ref s.heap.objs.size with
   | Value.ref a=>do
    match (<- load a).data with
     | Data.seq xs _=>pure xs.toList
     | _=>unsupported "internal:collect"
   | _=>unsupported "internal:collect") Q E { s with heap:=(s.heap.push (seqObj "list" #[] 0)).update s.heap.objs.size (Obj.mapSeq (·++vs.toArray)) }:=by
  show wpAny _ A (load s.heap.objs.size >>= _) _ _ _
  refine w_ (wpAny_load (GU hS _) ?_)
  show wpAny _ _ (pure ((#[]:Array Value)++vs.toArray).toList) Q E _
  rw[show((#[]:Array Value)++vs.toArray).toList=vs by simp]
  exact u_ h
 refine x_ (wpAny_extend_seq (hsz:=by simpa using hsz) (A:=A) (R:=λr s'=>r=.ok (.ret (.ref s.heap.objs.size))/\s' = { s with heap:=(s.heap.push (seqObj "list" #[] 0)).update s.heap.objs.size (Obj.mapSeq (·++vs.toArray)) })
  (s:={ s with heap:=s.heap.push (seqObj "list" #[] 0) }) _ it _ 0 (.inr rfl) hS (Em _ ho) hc hd ⟨Iu,Iu⟩) (λfin s' h=>?_) (λe s' h=>?_)
 ·cases fin with
  | done f =>
   obtain⟨e,rfl⟩:=h
   cases e
   exact fin'
  | again c'=>exact⟨h.1,EJ h.2 λr s'' hr=>by obtain⟨rfl,rfl⟩:=hr;exact fin'⟩
 ·exact absurd h.1 (by simp)
def lx {s:Shared}{vs:List Value}{Q:Value->Shared->Prop}{n:Nat}(ho:s.heap.get? l=some o)(hc:o.cls=.type "tuple")(hd:o.data=.seq vs.toArray n)(hI:IntsAre vs ns)(h64:vs.length<64)
  (h:∀(out:Array Value)(ns':List Int),IntsAre out.toList ns'->ns'.Perm ns->ns'.Pairwise (·<=·)->Q (.ref (s.heap.objs.size+1)) { s with heap:=sortedAll s.heap vs out }) :
  wpAny (model prog w) A (call (.builtin "sorted") [.ref l]) Q E s:=by
 refine GC kind_sorted plain_sorted entry_sorted (args_sorted1 _) ?_;unfold Builtin.«sorted»;refine w_ (m:=checkCount "sorted" 1 1 _) (u_ ?_);refine w_ (kd ho hc hd ?_ (k_ (l_ h64) (by decide)))
 refine w_ (GD ?_ (k_ (l_ h64) (by decide)))
 have hsz:((s.heap.push (seqObj "list" #[] 0)).update s.heap.objs.size (Obj.mapSeq (·++vs.toArray))).objs.size=s.heap.objs.size+1:=by
  rw[Heap.size_update,size_push']
 have hoL:(((s.heap.push (seqObj "list" #[] 0)).update s.heap.objs.size (Obj.mapSeq (·++vs.toArray))).push (seqObj "list" vs.toArray 0)).get? (s.heap.objs.size+1)=some (seqObj "list" vs.toArray 0):=by
  rw[<- hsz];exact En _ rfl
 show wpAny _ _ _ _ _ { s with heap:=((s.heap.push (seqObj "list" #[] 0)).update s.heap.objs.size (Obj.mapSeq (·++vs.toArray))).push (seqObj "list" vs.toArray 0) }
 rw[hsz];refine w_ (D_ (Gk slot_list_sort ⟨_,hoL,Iu⟩ entry_list_sort (list_sort_tree hoL hI h64 λout ns' a1 a2 a3=>⟨_,Iu,?_⟩) (args_list_sort _)));exact u_ ⟨_,Iu,h out ns' a1 a2 a3⟩
def uh (K:Frag):List V->Hp->VK->Prop:=λxs H Q=>∃(p:Addr)(ns:List Int),xs=[.ref p]/\(SqT K H p (ns.map V.int)\/SqL K H p (ns.map V.int))/\ns.length<64/\∀ns':List Int,ns'.Perm ns->ns'.Pairwise (·<=·)->∀l,H l=none->Q (.ref l) (upd H l (.lst (ns'.map V.int)))
def W3 {X:Cx}(K:Frag)(h:X.K=K:=by rfl):B1 X (.builtin "sorted") (uh K):=by
 subst h
 intro pins s σ H xs us Q I r h
 obtain⟨p,ns,rfl,hq,h64,q⟩:=h;obtain⟨u,rfl,rx⟩:=K5 r
 cases rx
 rcases hq with hq|hq
 ·obtain⟨its,r',pl,hz⟩:=I.tuple hq
  have hi:IntsAre its ns:=J3 r';have hlen:its.length=ns.length:=hi.length;obtain⟨ot,g1,g2,n,g3⟩:=pl;refine lx g1 g2 g3 hi (by lia) λout ns' a1 a2 a3=>?_
  obtain⟨e,he⟩:=sortedAll_at s.heap its out
  have hz':(ns'.map V.int).length<=sizeLine:=by
   rw[EV,a2.length_eq];rw[EV] at hz;exact hz
  exact⟨.ref (s.heap.objs.size+1),_,I.laid (t':=s.toks) (o:=.lst (ns'.map V.int)) (λb o e=>sortedAll_old e) (FE _) ⟨hz',out.toList,e,U3 a1,by simpa [seqObj] using he⟩,Iu,q ns' a2 a3 _ (I.hok.fresh (FE _))⟩
 ·exact(bJ X.K) pins s σ H _ _ Q I r ⟨p,ns,Iu,hq,h64,q⟩
end L2
namespace L2
def f5:Nat->Nat->Nat
 | 0,x=>x
 | n+1,x=>f5 n (5*x+1)
theorem xW (n m x:Nat):f5 (n+m) x=f5 m (f5 n x):=by
 induction n generalizing x with
 | zero=>rw[Nat.zero_add];rfl
 | succ n ih=>rw[Nat.succ_add];exact ih _
theorem qe:∀n x,4*f5 n x+1=5^n*(4*x+1)
 | 0,x=>by simp[f5]
 | n+1,x=>by
  rw[f5,qe n,Hi];rw[show 4*(5*x+1)+1=5*(4*x+1) by lia,Hj]
theorem jW:∀k,∃m,5^2^k=1+2^(k+2)*(2*m+1)
 | 0=>⟨0,by decide⟩
 | k+1=>by
  obtain⟨m,e⟩:=jW k;refine⟨m+2^k*(2*m+1)*(2*m+1),?_⟩;rw[Hi 2 k,Nat.pow_mul,e,Nat.pow_two];generalize hA:2*m+1=A;have p:2^(k+2)=4*2^k:=by rw[Nat.pow_add];lia
  have p2:2^(k+1+2)=8*2^k:=by rw[Nat.pow_add,Nat.pow_add];lia
  rw[p,p2];generalize 2^k=P
  have:2*(m+P*A*A)+1=A+2*(P*A*A):=by lia
  rw[this]
  simp only[Nat.add_mul,Nat.mul_add,Nat.one_mul,Nat.mul_one]
  have e1:4*P*A*(4*P*A)=16*(P*P*(A*A)):=by
   simp only[Hj,Fl,Nat.mul_left_comm]
  have e2:8*P*(2*(P*A*A))=16*(P*P*(A*A)):=by
   simp only[Hj,Fl,Nat.mul_left_comm]
  rw[e1,e2]
  have e3:8*P*A=4*P*A+4*P*A:=by
   rw[<- Nat.add_mul];congr 1;lia
  lia
def vw (k x:Nat):∃q,f5 (2^k) x=x+2^k+2*2^k*q:=by
 obtain⟨m,e⟩:=jW k;have h:=qe (2^k) x;rw[e] at h;refine⟨m+(2*m+1)*(2*x),?_⟩;have p:2^(k+2)=4*2^k:=by rw[Nat.pow_add];lia
 rw[p] at h;generalize 2^k=P at h;generalize f5 P x=y at h
 have e1:(1+4*P*(2*m+1))*(4*x+1)=(4*x+1)+4*(P*((2*m+1)*(4*x+1))):=by
  rw[Nat.add_mul,Nat.one_mul,Hj,Hj]
 rw[e1] at h
 have e2:(2*m+1)*(4*x+1)=1+2*(m+(2*m+1)*(2*x)):=by
  rw[Nat.mul_add,Nat.mul_one]
  have:(2*m+1)*(4*x)=2*((2*m+1)*(2*x)):=by
   rw[show 4*x=2*(2*x) by lia,Nat.mul_left_comm]
  lia
 rw[e2,Nat.mul_add,Nat.mul_one,<- Hj,Fl P 2] at h;lia
theorem oi:∀(k x j:Nat),∃n,n<2^k/\f5 n x%2^k=j%2^k
 | 0,x,j=>⟨0,by decide,by rw[Nat.pow_zero,Nat.mod_one,Nat.mod_one]⟩
 | k+1,x,j=>by
  obtain⟨n,hn,e⟩:=oi k x j;obtain⟨q,hq⟩:=vw k (f5 n x);have p:2^(k+1)=2*2^k:=by rw[Hi];lia
  have pos:0<2^k:=Nat.two_pow_pos k;rw[p];generalize hy:f5 n x=y at e hq;have hadd:=xW n (2^k) x;rw[hy,hq] at hadd;generalize 2^k=P at *;have m1:=Nat.mod_mul_right_mod y P 2
  have a1:y%(2*P)=y%P\/y%(2*P)=y%P+P:=by
   have:=Nat.mod_mul (x:=y) (a:=P) (b:=2)
   rw[Fl P 2] at this
   rcases Nat.mod_two_eq_zero_or_one (y/P) with z|z
   ·left;rw[this,z];lia
   ·right;rw[this,z];lia
  have a2:j%(2*P)=j%P\/j%(2*P)=j%P+P:=by
   have:=Nat.mod_mul (x:=j) (a:=P) (b:=2)
   rw[Fl P 2] at this
   rcases Nat.mod_two_eq_zero_or_one (j/P) with z|z
   ·left;rw[this,z];lia
   ·right;rw[this,z];lia
  by_cases c:y%(2*P)=j%(2*P)
  ·exact⟨n,by lia,by rw[hy];exact c⟩
  ·refine⟨n+P,by lia,?_⟩
   rw[hadd,show y+P+2*P*q=(y+P)+(2*P)*q from rfl,Nat.add_mul_mod_self_left];have lt:j%P<P:=Ga _ pos
   have:(y+P)%(2*P)=(y%(2*P)+P)%(2*P):=by rw[Nat.mod_add_mod]
   rw[this]
   rcases a1 with a1|a1<;>rcases a2 with a2|a2
   ·exact absurd (by rw[a1,a2,e]) c
   ·rw[a1,a2,e,Hk (by lia)]
   ·rw[a1,a2,e,show j%P+P+P=j%P+2*P by lia,Nat.add_mod_right,Hk (by lia)]
   ·exact absurd (by rw[a1,a2,e]) c
end L2
namespace L2
open PySem PySem.SetTable
def adv (t:SetTable):Nat->Probe->Probe
 | 0,p=>p
 | n+1,p=>adv t n (t.advance p)
theorem C9 (t:SetTable)(n m:Nat)(p:Probe):adv t (n+m) p=adv t m (adv t n p):=by
 induction n generalizing p with
 | zero=>rw[Nat.zero_add];rfl
 | succ n ih=>rw[Nat.succ_add];exact ih _
structure bG (t:SetTable)(p:Probe)(i q:Nat):Prop where
 hj:p.j=i
 hi:p.i=i
 more:p.more=runEnd t.mask i-i
 perturb:p.perturb=q
def nZ (mask i:Nat):runEnd mask i-i<=9:=by
 unfold runEnd
 split<;>lia
theorem mq {t:SetTable}:∀(n:Nat)(p:Probe),p.more=n->∃p',adv t n p=p'/\p'.more=0/\p'.i=p.i/\p'.perturb=p.perturb
 | 0,p,h=>⟨p,Iu,h,Iu,Iu⟩
 | n+1,p,h=>by
  have e:t.advance p = { p with j:=p.j+1,more:=p.more-1 }:=by
   unfold SetTable.advance;rw[Ik (by lia)]
  obtain⟨p',h1,h2,h3,h4⟩:=mq (t:=t) n (t.advance p) (by rw[e];show p.more-1=n;lia)
  rw[e] at h3 h4;exact⟨p',h1,h2,h3,h4⟩
def mw {t:SetTable}(p:Probe)(hm:p.more<=9):∃n,n<=10/\bG t (adv t n p) (leap t.mask p.i p.perturb).1 (leap t.mask p.i p.perturb).2:=by
 obtain⟨p',h1,h2,h3,h4⟩:=mq (t:=t) p.more p rfl;refine⟨p.more+1,by lia,?_⟩
 rw[C9,h1]
 show bG t (t.advance p') _ _
 unfold SetTable.advance;rw[Il (by lia),h3,h4]
 exact⟨Iu,Iu,Iu,Iu⟩
def M6 (mask:Nat):Nat->Nat×Nat->Nat×Nat
 | 0,s=>s
 | n+1,s=>M6 mask n (leap mask s.1 s.2)
theorem cT (mask n m:Nat)(s:Nat×Nat):M6 mask (n+m) s=M6 mask m (M6 mask n s):=by
 induction n generalizing s with
 | zero=>rw[Nat.zero_add];rfl
 | succ n ih=>rw[Nat.succ_add];exact ih _
theorem cv {t:SetTable}:∀(m:Nat)(p:Probe)(i q:Nat),bG t p i q->∃n,n<=10*m/\bG t (adv t n p) (M6 t.mask m (i,q)).1 (M6 t.mask m (i,q)).2
 | 0,p,i,q,h=>⟨0,Eo _,h⟩
 | m+1,p,i,q,h=>by
  obtain⟨n,hn,r⟩:=mw (t:=t) p (by rw[h.more];exact nZ _ _)
  rw[h.hi,h.perturb] at r;obtain⟨n',hn',r'⟩:=cv m _ _ _ r;refine⟨n+n',by lia,?_⟩
  rw[C9];exact r'
theorem T9 (mask:Nat):∀(n i q:Nat),(M6 mask n (i,q)).2=q/32^n
 | 0,i,q=>by rw[Nat.pow_zero,Nat.div_one];rfl
 | n+1,i,q=>by
  show(M6 mask n (leap mask i q)).2=_
  rw[show leap mask i q=((i*5+1+q/32)%(mask+1),q/32) from rfl,T9 mask n,Hi,Fl,Hl]
theorem aa (mask:Nat):∀(n i q:Nat),q<32->i<mask+1->(M6 mask n (i,q)).1=f5 n i%(mask+1)
 | 0,i,q,_,h=>(Hk h).symm
 | n+1,i,q,hq,h=>by
  show(M6 mask n (leap mask i q)).1=f5 n (5*i+1)%(mask+1)
  have e:leap mask i q=((i*5+1)%(mask+1),0):=by
   show((i*5+1+q/32)%(mask+1),q/32)=_
   rw[Nat.div_eq_of_lt hq]
  rw[e,aa mask n _ 0 (by decide) (Ga _ (Hm _)),Fl i 5]
  have md:∀(n x y:Nat),x%(mask+1)=y%(mask+1)->f5 n x%(mask+1)=f5 n y%(mask+1):=by
   intro n
   induction n with
   | zero=>intro x y h;exact h
   | succ n ih =>
    intro x y h
    refine ih _ _ ?_;rw[Nat.add_mod,Nat.mul_mod,h,<- Nat.mul_mod,<- Nat.add_mod]
  exact md n _ _ (Nat.mod_mod _ _)
def U4 {t:SetTable}{k:Nat}(hk:t.mask+1=2^k)(p:Probe)(hm:p.more<=9)(hq:p.perturb<2^64)(j:Nat)(hj:j<=t.mask):∃n,n<=10*(t.mask+14)/\(adv t n p).j=j:=by
 obtain⟨n0,h0,r0⟩:=mw (t:=t) p hm;obtain⟨n1,h1,r1⟩:=cv 12 _ _ _ r0;generalize hs:M6 t.mask 12 ((leap t.mask p.i p.perturb).1,(leap t.mask p.i p.perturb).2)=s at r1
 have q1:s.2<32:=by
  rw[<- hs,T9]
  show p.perturb/32/32^12<32
  rw[Hl];exact Nat.div_lt_of_lt_mul (ff hq (by decide))
 have i1:s.1<t.mask+1:=by
  rw[<- hs,show(12:Nat)=11+1 from rfl,cT];exact Ga _ (Hm _)
 obtain⟨m,hm2,e⟩:=oi k s.1 j;obtain⟨n2,h2,r2⟩:=cv m _ _ _ r1;refine⟨n0+(n1+n2),by rw[<- hk] at hm2;lia,?_⟩
 rw[C9,C9];rw[aa _ _ _ _ q1 i1,hk,e,Hk (by lia)] at r2
 exact r2.hj
def jU (t:SetTable)(n:Nat)(p:Probe):adv t (n+1) p=t.advance (adv t n p):=by
 rw[C9];rfl
def aI (t:SetTable)(p:Probe):(t.advance p).dummy=p.dummy:=by
 unfold SetTable.advance
 split<;>rfl
def jw (t:SetTable)(p:Probe)(h:p.more<=9):(t.advance p).more<=9:=by
 unfold SetTable.advance
 split
 ·show p.more-1<=9
  lia
 ·exact nZ _ _
def dD (t:SetTable)(p:Probe)(h:p.perturb<2^64):(t.advance p).perturb<2^64:=by
 unfold SetTable.advance
 split
 ·exact h
 ·exact Fo (Nat.div_le_self _ _) h
def iA (t:SetTable)(ha:Nat->Int)(h:Int)(n:Nat)(p:Probe):Prop:=∀m,m<n->∃i,t.slot (adv t m p).j=.live i/\ha i≠h
theorem pR {t:SetTable}{h:Int}(hd:∀j,t.slot j≠.dummy):∀(fuel:Nat)(p:Probe),p.dummy=none->(∃n,n<fuel/\t.slot (adv t n p).j=.empty) ->
  (∃n,iA t ha h n p/\t.slot (adv t n p).j=.empty/\probe.go t ha h fuel p=some (.empty (adv t n p).j none)) \/
  ∃n i,iA t ha h n p/\t.slot (adv t n p).j=.live i/\ha i=h/\probe.go t ha h fuel p=some (.candidate (adv t n p).j i (adv t (n+1) p))
 | 0,p,_,⟨n,hn,_⟩=>absurd hn (Hn _)
 | fuel+1,p,hp,⟨n,hn,he⟩=>by
  unfold probe.go
  cases hs:t.slot p.j with
  | empty=>exact .inl ⟨0,λm hm=>absurd hm (Hn _),hs,by rw[hp];rfl⟩
  | dummy=>exact absurd hs (hd _)
  | live i =>
   dsimp only
   by_cases c:ha i=h
   ·rw[Ik (by simpa using c)]
    exact .inr ⟨0,i,λm hm=>absurd hm (Hn _),hs,c,Iu⟩
   ·rw[Il (by simpa using c)]
    have hn0:n≠0:=λz=>by subst z;rw[show adv t 0 p=p from rfl,hs] at he;cases he
    obtain⟨n',rfl⟩:∃n',n=n'+1:=⟨n-1,by lia⟩
    have clr:∀{m:Nat},iA t ha h m (t.advance p)->iA t ha h (m+1) p:=λ{m} q m' hm'=>by
     cases m' with
     | zero=>exact⟨i,hs,c⟩
     | succ m'=>exact q m' (by lia)
    rcases pR hd fuel (t.advance p) (by rw[aI];exact hp) ⟨n',by lia,he⟩ with⟨m,q1,q2,q3⟩|⟨m,i',q1,q2,q3,q4⟩
    ·exact .inl ⟨m+1,clr q1,q2,q3⟩
    ·exact .inr ⟨m+1,i',clr q1,q2,q3,q4⟩
structure wx (t:SetTable)(k:Nat):Prop where
 mask:t.mask+1=2^k
 nodummy:∀j,t.slot j≠.dummy
 room:∃j,j<=t.mask/\t.slot j=.empty
structure bS (p:Probe):Prop where
 more:p.more<=9
 perturb:p.perturb<2^64
 dummy:p.dummy=none
theorem bS.start (t:SetTable)(h:Int):bS (t.probeStart h):=⟨nZ _ _,by
 show(h%(2^64:Int)).toNat<2^64
 have h1:=Ho h (show(2^64:Int)≠0 by decide)
 have h2:=Hq h (show(0:Int)<2^64 by decide)
 lia,Iu⟩
theorem bS.adv {t:SetTable}:∀(n:Nat){p:Probe},bS p->bS (L2.adv t n p)
 | 0,_,h=>h
 | n+1,p,h=>bS.adv n ⟨jw t p h.more,dD t p h.perturb,by rw[aI];exact h.dummy⟩
def nX {t:SetTable}{k:Nat}{h:Int}(T:wx t k)(S:bS p) :
  (∃n,iA t ha h n p/\t.slot (adv t n p).j=.empty/\t.probe ha h p=some (.empty (adv t n p).j none)) \/
  ∃n i,iA t ha h n p/\t.slot (adv t n p).j=.live i/\ha i=h/\t.probe ha h p=some (.candidate (adv t n p).j i (adv t (n+1) p)):=by
 obtain⟨j,hj,he⟩:=T.room;obtain⟨n,hn,e⟩:=U4 T.mask p S.more S.perturb j hj;exact pR T.nodummy _ p S.dummy ⟨n,by show n<10*(t.mask+15);lia,by rw[e];exact he⟩
def uK {xs:Array Nat}(mono:xs.toList.Pairwise (· < ·)){i j:Nat}(h:xs[i]? = some j):below xs j=i:=by
 obtain⟨h1,h2,h3⟩:=W2 xs j mono;have hi:i<xs.size:=(Hd.mp h).1;have gi:xs.getD i j=j:=by simp[Array.getD,hi,(Hd.mp h).2]
 rcases Hr (below xs j) i with c|c|c
 ·have hb:below xs j<xs.size:=Fs c hi
  have:=h3 (below xs j) (Eo _) hb
  have m:=(FR.mp mono) (below xs j) i (by simpa using hb) (by simpa using hi) c
  have e1:xs.getD (below xs j) j=xs.toList[below xs j]'(by simpa using hb):=by simp[Array.getD,hb]
  have e2:xs.toList[i]'(by simpa using hi)=j:=by
   have:=(Hd.mp h).2
   simpa using this
  rw[e1] at this;rw[e2] at m;lia
 ·exact c
 ·have:=h2 i c
  lia
def hX {t:SetTable}(mono:t.place.toList.Pairwise (· < ·)){i j:Nat}(h:t.place[i]? = some j):t.slot j=.live i:=by
 unfold SetTable.slot;have b:=uK mono h
 dsimp only
 rw[b,Ik (by rw[h];simp)]
def O3 {t:SetTable}{i j:Nat}(h:t.slot j=.live i):t.place[i]? = some j:=by
 unfold SetTable.slot at h
 dsimp only at h
 split at h
 ·rename_i c
  injection h with h
  rw[<- h]
  simpa using c
 ·split at h<;>cases h
def W4 {t:SetTable}(hd:t.dummies=#[])(mono:t.place.toList.Pairwise (· < ·)){j:Nat}:t.slot j=.empty↔¬j∈t.place.toList:=by
 constructor
 ·intro h hj
  obtain⟨i,hi⟩:=GY hj;rw[hX mono (i:=i) (by simpa using hi)] at h
  cases h
 ·intro h
  rcases aS t j hd with⟨e,_⟩|⟨i,e⟩
  ·exact e
  ·have:=O3 e
   exact absurd (ET (l:=t.place.toList) (i:=i) (by simpa using this)) h
def dl (t:SetTable)(es:Array (Int×Value)):List (Nat×(Int×Value)):=t.place.toList.zip es.toList
def nk {α β:Type}{xs:List α}{ys:List β}(h:xs.length=ys.length)(p:Nat)(x:α)(y:β):((xs.take p++x::xs.drop p).zip (ys.take p++y::ys.drop p)).Perm ((x,y)::xs.zip ys):=by
 have hl:(xs.take p).length=(ys.take p).length:=by rw[EM,EM,h]
 rw[List.zip_append hl,List.zip_cons_cons]
 have e:xs.zip ys=(xs.take p).zip (ys.take p)++(xs.drop p).zip (ys.drop p):=by
  rw[<- List.zip_append hl,List.take_append_drop,List.take_append_drop]
 rw[e];exact List.perm_middle
def fi (t:SetTable)(es:Array (Int×Value)):Prop:=∀j e,(j,e)∈dl t es->∃n,(adv t n (t.probeStart e.1)).j=j/\∀m,m<n->(adv t m (t.probeStart e.1)).j∈t.place.toList
def jk {t t':SetTable}(h:t.mask=t'.mask)(p:Probe):t.advance p=t'.advance p:=by
 unfold SetTable.advance;rw[h]
theorem bW {t t':SetTable}(h:t.mask=t'.mask):∀(n:Nat)(p:Probe),adv t n p=adv t' n p
 | 0,_=>rfl
 | n+1,p=>by
  show adv t n (t.advance p)=adv t' n (t'.advance p)
  rw[jk h,bW h n]
def bj {t t':SetTable}(h:t.mask=t'.mask)(x:Int):t.probeStart x=t'.probeStart x:=by
 unfold SetTable.probeStart;rw[h]
def ak {t:SetTable}(hd:t.dummies=#[])(j:Nat):(t.put j).1 = { t with place:=insertAt t.place (below t.place j) j }/\(t.put j).2=below t.place j:=by
 unfold SetTable.put
 dsimp only
 rw[hd,jH];exact⟨by rw[Il Ei,<- hd],Iu⟩
def rE {t:SetTable}{es:Array (Int×Value)}(hd:t.dummies=#[])(hz:t.place.size=es.size)(j:Nat)(e:Int×Value):(dl (t.put j).1 (insertAt es (t.put j).2 e)).Perm ((j,e)::dl t es):=by
 obtain⟨h1,h2⟩:=ak hd j;rw[h1,h2];unfold dl;rw[SetTable.toList_insertAt,SetTable.toList_insertAt];exact nk (by simpa using hz) _ _ _
def vP {t:SetTable}(hd:t.dummies=#[])(j j':Nat):j'∈(t.put j).1.place.toList↔j'=j\/j'∈t.place.toList:=by
 rw[(ak hd j).1]
 show j'∈(insertAt t.place (below t.place j) j).toList↔_
 rw[(Hs t.place (below t.place j) j).mem_iff]
 simp[or_comm]
theorem fi.put {t:SetTable}{es:Array (Int×Value)}(hd:t.dummies=#[])(hz:t.place.size=es.size)(R:fi t es){j n:Nat}(hj:(adv t n (t.probeStart e.1)).j=j)(hb:∀m,m<n->(adv t m (t.probeStart e.1)).j∈t.place.toList) :
  fi (t.put j).1 (insertAt es (t.put j).2 e):=by
 have hm:(t.put j).1.mask=t.mask:=by rw[(ak hd j).1]
 intro j' e' h'
 have key:∀n' x,(∀m,m<n'->(adv t m (t.probeStart x)).j∈t.place.toList)->∀m,m<n'->(adv (t.put j).1 m ((t.put j).1.probeStart x)).j∈(t.put j).1.place.toList:=λn' x q m hm'=>by
  rw[bW hm,bj hm,vP hd];exact .inr (q m hm')
 rcases p_.mp ((rE hd hz j e).mem_iff.mp h') with z|z
 ·injection z with z1 z2
  subst z1 z2;exact⟨n,by rw[bW hm,bj hm];exact hj,key n _ hb⟩
 ·obtain⟨n',q1,q2⟩:=R j' e' z
  exact⟨n',by rw[bW hm,bj hm];exact q1,key n' _ q2⟩
theorem bU {t:SetTable}{i q:Nat}(m:Nat)(p:Probe)(h:bG t p i q)(hm:m<=runEnd t.mask i-i):(adv t m p).j=i+m/\(adv t m p).more=runEnd t.mask i-i-m/\(adv t m p).i=i/\(adv t m p).perturb=q:=by
 induction m with
 | zero=>exact⟨h.hj,h.more,h.hi,h.perturb⟩
 | succ m ih=>
  obtain⟨h1,h2,h3,h4⟩:=ih (Nat.le_of_succ_le hm)
  rw[jU];unfold SetTable.advance;rw[Ik (by rw[h2];exact Nat.sub_pos_of_lt hm)]
  exact⟨congrArg (·+1) h1,congrArg (·-1) h2,h3,h4⟩
def sv {t:SetTable}{i q:Nat}(h:bG t p i q):bG t (adv t (runEnd t.mask i-i+1) p) (leap t.mask i q).1 (leap t.mask i q).2:=by
 obtain⟨h1,h2,h3,h4⟩:=bU (runEnd t.mask i-i) p h (Eo _);rw[jU];unfold SetTable.advance;rw[Il (by lia),h3,h4]
 exact⟨Iu,Iu,Iu,Iu⟩
def Z3 (owner:Array (Option Nat))(j:Nat):Prop:=(owner.getD j (some 0)).isNone=false
theorem iS {t:SetTable}(fuel:Nat):∀(p:Probe)(i q j:Nat),bG t p i q->layClean.free t.mask owner fuel i q=some j->∃n,(adv t n p).j=j/\(owner.getD j (some 0)).isNone=true/\∀m,m<n->Z3 owner (adv t m p).j:=by
 induction fuel with
 | zero=>intro _ _ _ _ _ e;cases e
 | succ fuel ih=>
  intro p i q j h e
  have hs:=Nat.succ_sub (show i<=runEnd t.mask i by unfold runEnd;split<;>lia)
  unfold layClean.free at e
  split at e
  ·rename_i k hk
   injection e with e
   have hk2:=Nat.le_of_lt_succ (hs▸j_.mp (Hu hk))
   have h1:=Ht hk;refine⟨k,(bU k p h hk2).1.trans e,by rw[<- e];exact h1,λm hm=>?_⟩
   rw[(bU m p h (Nat.le_trans (Nat.le_of_lt hm) hk2)).1]
   have h3:=(List.find?_range_eq_some.mp hk).2.2 m hm
   simpa [Z3] using h3
  ·rename_i hk
   obtain⟨n,q1,q2,q3⟩:=ih _ _ _ j (sv h) e;refine⟨runEnd t.mask i-i+1+n,by rw[C9];exact q1,q2,λm hm=>?_⟩
   by_cases c:m<runEnd t.mask i-i+1
   ·rw[(bU m p h (Nat.le_of_lt_succ c)).1]
    exact Gq.mpr (Hv.mp hk m (j_.mpr (hs▸c)))
   ·obtain⟨m',rfl⟩:=Nat.exists_eq_add_of_le (Nat.not_lt.mp c)
    rw[C9];exact q3 m' (Nat.lt_of_add_lt_add_left hm)
theorem iI {mask:Nat}:∀(fuel i q:Nat),layClean.free mask owner fuel i q=none->∀n,n<fuel->Z3 owner (M6 mask n (i,q)).1
 | 0,_,_,_,n,hn=>absurd hn (Hn _)
 | fuel+1,i,q,e,n,hn=>by
  unfold layClean.free at e
  split at e
  ·cases e
  ·rename_i hk
   cases n with
   | zero =>
    have hrun:i<=runEnd mask i:=by unfold runEnd;split<;>lia
    exact Gq.mpr (Hv.mp hk 0 (j_.mpr (by lia)))
   | succ n=>exact iI fuel _ _ e n (by lia)
theorem qH {mask k:Nat}{owner:Array (Option Nat)}(hk:mask+1=2^k)(i q:Nat)(hi:i<mask+1)(hq:q<2^64){j0:Nat}(hj:j0<=mask)(he:(owner.getD j0 (some 0)).isNone=true):∃j,layClean.free mask owner (turns mask) i q=some j:=by
 cases hf:layClean.free mask owner (turns mask) i q with
 | some j=>exact⟨j,Iu⟩
 | none =>
  exfalso
  have q1:(M6 mask 13 (i,q)).2<32:=by
   rw[T9];exact Nat.div_lt_of_lt_mul (ff hq (by decide))
  have i1:(M6 mask 13 (i,q)).1<mask+1:=by
   rw[show(13:Nat)=12+1 from rfl,cT];exact Ga _ (Hm _)
  obtain⟨m,hm,e⟩:=oi k (M6 mask 13 (i,q)).1 j0
  have:=iI (turns mask) i q hf (13+m) (by unfold turns;rw[<- hk] at hm;lia)
  rw[cT] at this;have e2:=aa mask m (M6 mask 13 (i,q)).1 (M6 mask 13 (i,q)).2 q1 i1;rw[show((M6 mask 13 (i,q)).1,(M6 mask 13 (i,q)).2)=M6 mask 13 (i,q) from rfl] at e2;rw[e2,hk,e,Hk (by lia)] at this
  unfold Z3 at this;rw[he] at this
  cases this
structure N2 (t:SetTable)(owner:Array (Option Nat))(ds:List Int):Prop where
 size:owner.size=t.mask+1
 each:∀(k:Nat) h,ds[k]? = some h->∃j:Nat,j<=t.mask/\owner[j]? = some (some k)/\∃n,(adv t n (t.probeStart h)).j=j/\∀m,m<n->Z3 owner (adv t m (t.probeStart h)).j
 only:∀(j k:Nat),owner[j]? = some (some k)->k<ds.length
 uniq:∀(j j' k:Nat),owner[j]? = some (some k)->owner[j']? = some (some k)->j=j'
 free:owner.toList.countP Option.isNone+ds.length=t.mask+1
theorem N2.start (t:SetTable):N2 t (Array.replicate (t.mask+1) none) [] where
 size:=by simp
 each:=λk h e=>by cases e
 only:=λj k e=>by
  rw[Array.getElem?_replicate] at e
  split at e<;>cases e
 uniq:=λj j' k e=>by
  rw[Array.getElem?_replicate] at e
  split at e<;>cases e
 free:=by
  rw[Array.toList_replicate,List.countP_replicate];rfl
theorem N2.room {t:SetTable}(L:N2 t owner ds)(h:ds.length<=t.mask):∃j:Nat,j<=t.mask/\(owner.getD j (some 0)).isNone=true:=by
 have:0<owner.toList.countP Option.isNone:=by have:=L.free;lia
 obtain⟨x,hx,hn⟩:=List.countP_pos_iff.mp this;obtain⟨j,hj,e⟩:=FG hx;have hj':j<owner.size:=by simpa using hj
 refine⟨j,by have:=L.size;lia,?_⟩
 rw[FT,FU hj',FV];rw[FS] at e;rw[e];exact hn
def gN {j j' k:Nat}(h:Z3 owner j'):Z3 (owner.setIfInBounds j (some k)) j':=by
 unfold Z3 at *;rw[FT] at *;rw[Array.getElem?_setIfInBounds]
 by_cases c:j=j'
 ·subst c
  rw[Ik rfl]
  split<;>rfl
 ·rw[Il c]
  exact h
theorem N2.put {t:SetTable}{h:Int}{j n:Nat}(L:N2 t owner ds)(e:(adv t n (t.probeStart h)).j=j)(hj:(owner.getD j (some 0)).isNone=true)(hb:∀m,m<n->Z3 owner (adv t m (t.probeStart h)).j) :
  N2 t (owner.setIfInBounds j (some ds.length)) (ds++[h]):=by
 have hjs:j<owner.size:=by
  rcases Nat.lt_or_ge j owner.size with c|c
  ·exact c
  ·rw[FT,Array.getElem?_eq_none c] at hj
   cases hj
 have hjn:owner[j]? = some none:=by
  rw[FU hjs];rw[FT,FU hjs,FV] at hj;exact B_ some (Option.isNone_iff_eq_none.mp hj)
 have at_:∀i:Nat,(owner.setIfInBounds j (some ds.length))[i]? = if j=i then some (some ds.length) else owner[i]?:=λi=>by
  rw[Array.getElem?_setIfInBounds]
  by_cases c:j=i
  ·subst c
   rw[Ik rfl,Ik hjs,Ik rfl]
  ·rw[Il c,Il c]
 refine⟨by rw[Array.size_setIfInBounds];exact L.size,λk h' e'=>?_,λi k e'=>?_,λi i' k e1 e2=>?_,?_⟩
 ·by_cases c:k<ds.length
  ·rw[EQ c] at e'
   obtain⟨i,q1,q2,m,q3,q4⟩:=L.each k h' e';refine⟨i,q1,?_,m,q3,λm' hm'=>gN (q4 m' hm')⟩;rw[at_,Il (λz=>by rw[<- z,hjn] at q2;cases q2)]
   exact q2
  ·have hk:k=ds.length:=by
    have:=(s_.mp e').1
    rw[EU,Fj] at this;lia
   subst hk;rw[EO (Eo _),Nat.sub_self] at e'
   cases e'
   refine⟨j,by have:=L.size;lia,by rw[at_,Ik rfl],n,e,λm hm=>gN (hb m hm)⟩
 ·rw[at_] at e'
  rw[EU,Fj]
  by_cases c:j=i
  ·rw[Ik c] at e'
   cases e'
   lia
  ·rw[Il c] at e'
   have:=L.only i k e'
   lia
 ·rw[at_] at e1 e2
  by_cases c:j=i
  ·rw[Ik c] at e1
   cases e1
   by_cases d:j=i'
   ·rw[<- c,<- d]
   ·rw[Il d] at e2
    have:=L.only i' _ e2
    lia
  ·rw[Il c] at e1
   by_cases d:j=i'
   ·rw[Ik d] at e2
    cases e2
    have:=L.only i _ e1
    lia
   ·rw[Il d] at e2
    exact L.uniq i i' k e1 e2
 ·have hjl:j<owner.toList.length:=by simpa using hjs
  rw[Array.toList_setIfInBounds,List.countP_set hjl,EU,Fj]
  have hz:owner.toList[j]'hjl=none:=by
   rw[FS]
   have:=hjn
   rw[FU hjs] at this;exact e_ this
  rw[hz]
  have:=L.free
  have hpos:0<owner.toList.countP Option.isNone:=List.countP_pos_iff.mpr ⟨none,by rw[<- hz];exact getElem_mem hjl,Iu⟩
  rw[show(if (none:Option Nat).isNone=true then 1 else 0)=1 from rfl,show(if (some ds.length:Option Nat).isNone=true then 1 else 0)=0 from rfl];lia
def dI (mask:Nat)(acc:Option (Array (Option Nat)×Nat))(h:Int):Option (Array (Option Nat)×Nat):=do
 let (owner,k) <- acc
 let j <- layClean.free mask owner (turns mask) (bits h%(mask+1)) (bits h)
 pure (owner.setIfInBounds j (some k),k+1)
def wg (h:Int):bits h<2^64:=by
 unfold bits;have h1:=Ho h (show(2^64:Int)≠0 by decide)
 have h2:=Hq h (show(0:Int)<2^64 by decide)
 lia
theorem jR {t:SetTable}{k:Nat}(hk:t.mask+1=2^k):∀(hs:List Int)(owner:Array (Option Nat))(ds:List Int),N2 t owner ds->ds.length+hs.length<=t.mask ->
  ∃owner',hs.foldl (dI t.mask) (some (owner,ds.length))=some (owner',(ds++hs).length)/\N2 t owner' (ds++hs)
 | [],owner,ds,L,_=>⟨owner,by rw[EH];rfl,by rw[EH];exact L⟩
 | h::r,owner,ds,L,hl=>by
  rw[Ez] at hl;obtain⟨j0,q1,q2⟩:=L.room (by lia)
  obtain⟨j,hj⟩:=qH (owner:=owner) hk (bits h%(t.mask+1)) (bits h) (Ga _ (Hm _)) (wg h) q1 q2;have run:bG t (t.probeStart h) (bits h%(t.mask+1)) (bits h):=⟨Iu,Iu,Iu,Iu⟩;obtain⟨n,e1,e2,e3⟩:=iS (turns t.mask) _ _ _ j run hj;have L':=L.put e1 e2 e3;obtain⟨owner',f1,f2⟩:=jR hk r _ _ L' (by rw[EU,Fj];lia)
  refine⟨owner',?_,by rw[Fh] at f2;exact f2⟩
  rw[foldl_cons]
  have st:dI t.mask (some (owner,ds.length)) h=some (owner.setIfInBounds j (some ds.length),ds.length+1):=by
   unfold dI
   show(layClean.free t.mask owner (turns t.mask) (bits h%(t.mask+1)) (bits h) >>= λj=>pure (owner.setIfInBounds j (some ds.length),ds.length+1))=_
   rw[hj];rfl
  rw[st];rw[EU,Fj,Fh] at f1;exact f1
def iP {t:SetTable}{k:Nat}(hk:t.mask+1=2^k)(hs:Array Int)(h:hs.size<=t.mask):∃owner,layClean t.mask hs=some owner/\N2 t owner hs.toList:=by
 obtain⟨owner,e,L⟩:=jR hk hs.toList _ [] (N2.start t) (by rw[EA];simpa using h)
 refine⟨owner,?_,L⟩
 have:layClean t.mask hs=(hs.foldl (dI t.mask) (some (Array.replicate (t.mask+1) none,0))).map (·.1):=rfl
 rw[this,<- Array.foldl_toList];rw[show((some (Array.replicate (t.mask+1) none,0)):Option (Array (Option Nat)×Nat))=some (Array.replicate (t.mask+1) none,([]:List Int).length) from rfl,e];rfl
def sJ {mask i:Nat}(h:i<mask+1):i+(runEnd mask i-i)<=mask:=by
 unfold runEnd
 split<;>lia
theorem pd {t:SetTable}:∀(m:Nat)(p:Probe),p.j+p.more<=t.mask->(adv t m p).j+(adv t m p).more<=t.mask
 | 0,p,h=>h
 | m+1,p,h=>by
  refine pd m (t.advance p) ?_;unfold SetTable.advance
  split
  ·show p.j+1+(p.more-1)<=t.mask
   lia
  ·exact sJ (Ga _ (Hm _))
def wT (t:SetTable)(m:Nat)(h:Int):(adv t m (t.probeStart h)).j<=t.mask:=by
 have:=pd (t:=t) m (t.probeStart h) (sJ (Ga _ (Hm _)))
 lia
def D1 (mask:Nat)(owner:Array (Option Nat)):List (Nat×Nat):=(List.range (mask+1)).filterMap λj=>(owner.getD j none).map (j,·)
def U8 {mask:Nat}{owner:Array (Option Nat)}(hz:owner.size=mask+1){j k:Nat}:(j,k)∈D1 mask owner↔owner[j]? = some (some k):=by
 unfold D1;rw[Er]
 constructor
 ·rintro⟨j',hj,e⟩
  obtain⟨k',e1,e2⟩:=Hg.mp e
  injection e2 with e3 e4
  subst e3 e4;have hj':j'<owner.size:=by rw[hz];exact j_.mp hj
  rw[FT,FU hj',FV] at e1;rw[FU hj',e1]
 ·intro e
  have hj:=(Hd.mp e).1;refine⟨j,j_.mpr (by lia),?_⟩
  rw[FT,e];rfl
def fO (mask:Nat)(owner:Array (Option Nat)):((D1 mask owner).map (·.1)).Pairwise (· < ·):=by
 rw[Hw];unfold D1;rw[List.pairwise_filterMap];refine FY.imp λ{a b} hab x hx y hy=>?_;obtain⟨_,_,rfl⟩:=Hg.mp hx;obtain⟨_,_,rfl⟩:=Hg.mp hy;exact hab
def ma {mask:Nat}{owner:Array (Option Nat)}(hz:owner.size=mask+1):(D1 mask owner).length+owner.toList.countP Option.isNone=mask+1:=by
 have e:D1 mask owner=(owner.toList.zipIdx.filterMap λx=>x.1.map (x.2,·)):=by
  unfold D1
  have:owner.toList.zipIdx=(List.range (mask+1)).map λj=>(owner.getD j none,j):=by
   apply FK
   ·simp[hz]
   ·intro i h1 h2
    have hi:i<owner.size:=by simpa using h1
    simp[FT,FU hi]
  rw[this,List.filterMap_map];rfl
 rw[e,<- hz,<- A_];generalize owner.toList=l
 have go:∀(l:List (Option Nat))(s:Nat),((l.zipIdx s).filterMap λx=>x.1.map (x.2,·)).length+l.countP Option.isNone=l.length:=by
  intro l
  induction l with
  | nil=>intro s;rfl
  | cons a r ih =>
   intro s
   rw[List.zipIdx_cons,m_,List.countP_cons,Ez]
   have:=ih (s+1)
   cases a with
   | none=>simp only[Option.map_none,Option.isNone_none,F_];lia
   | some k=>simp only[Fq,Option.isNone_some,Fy,Fa,Ez];lia
 exact go l 0
theorem V9:∀(l1 l2:List Nat),l1.Nodup->(∀x∈l1,x∈l2)->l2.length<=l1.length->l1.Perm l2
 | [],l2,_,_,h=>by
  have:l2=[]:=G_ (by simpa using h)
  subst this;exact FZ _
 | a::r,l2,hn,hs,hl=>by
  rw[EL] at hn;have ha:=hs a n_;have p:=List.perm_cons_erase ha;refine((V9 r (l2.erase a) hn.2 (λx hx=>?_) ?_).cons a).trans p.symm
  ·have hne:x≠a:=λe=>hn.1 (e▸hx)
   exact(List.mem_erase_of_ne hne).mpr (hs x (o_ _ hx))
  ·have:=p.length_eq
   rw[Ez] at this hl;lia
def qY {t:SetTable}{es:Array (Int×Value)}(L:N2 t owner (es.map (·.1)).toList):((D1 t.mask owner).map (·.2)).Perm (List.range es.size):=by
 have hlen:=ma L.size;have hfree:=L.free
 have hsz:(D1 t.mask owner).length=es.size:=by
  have:(es.map (·.1)).toList.length=es.size:=by simp
  lia
 refine V9 _ _ ?_ (λk hk=>?_) (by rw[Hx,EV,hsz];exact Eo _)
 ·unfold List.Nodup
  rw[Hw]
  have:=Hw.mp (fO t.mask owner)
  refine Hy ?_ this
  intro a b ha hb hab z
  have h1:=(U8 L.size).mp ha;have h2:=(U8 L.size).mp hb;rw[z] at h1
  have:=L.uniq _ _ _ h1 h2
  lia
 ·obtain⟨⟨j,k'⟩,hx,rfl⟩:=GX.mp hk
  have:=L.only _ _ ((U8 L.size).mp hx)
  exact j_.mpr (by simpa using this)
def rg {t:SetTable}{es:Array (Int×Value)}(L:N2 t owner (es.map (·.1)).toList):(((D1 t.mask owner).map (·.2)).toArray.filterMap (es[·]?)).toList.Perm es.toList:=by
 rw[Array.toList_filterMap];refine((qY L).filterMap _).trans ?_
 have:(List.range es.size).filterMap (es[·]?)=es.toList:=by
  apply GS
  intro i
  have go:∀n,n<=es.size->(List.range n).filterMap (es[·]?)=es.toList.take n:=by
   intro n
   induction n with
   | zero=>intro _;simp
   | succ n ih =>
    intro hn
    rw[Hz,List.filterMap_append,ih (by lia),HA]
    have:es[n]? = some es[n]:=FU (by lia)
    simp[this]
  rw[go es.size (Eo _),<- A_,HB]
 rw[this]
def og {t:SetTable}{es:Array (Int×Value)}(L:N2 t owner (es.map (·.1)).toList)(hp:t.place=((D1 t.mask owner).map (·.1)).toArray) :
  fi t (((D1 t.mask owner).map (·.2)).toArray.filterMap (es[·]?))/\(((D1 t.mask owner).map (·.2)).toArray.filterMap (es[·]?)).size=es.size/\t.place.size=es.size:=by
 have hlen:=ma L.size;have hfree:=L.free
 have hsz:(D1 t.mask owner).length=es.size:=by
  have:(es.map (·.1)).toList.length=es.size:=by simp
  lia
 have inn:∀x∈D1 t.mask owner,x.2<es.size:=λx hx=>by
  have:=L.only x.1 x.2 ((U8 L.size).mp hx)
  simpa using this
 have em:∀l:List (Nat×Nat),(∀x∈l,x.2<es.size)->(l.map (·.2)).filterMap (es[·]?)=l.map λx=>es.getD x.2 (0,.none):=by
  intro l
  induction l with
  | nil=>intro _;rfl
  | cons a r ih =>
   intro h
   have ha:=h a (n_ ..);rw[EX,m_,FU ha]
   dsimp only
   rw[ih λx hx=>h x (o_ _ hx),EX,FT,FU ha,FV]
 have et:(((D1 t.mask owner).map (·.2)).toArray.filterMap (es[·]?)).toList=(D1 t.mask owner).map λx=>es.getD x.2 (0,.none):=by
  rw[Array.toList_filterMap];exact em _ inn
 refine⟨λj e he=>?_,?_,?_⟩
 ·unfold dl at he
  rw[et,hp] at he
  have he':(j,e)∈(D1 t.mask owner).map λx=>(x.1,es.getD x.2 (0,.none)):=by
   rw[<- List.zip_map']
   simpa using he
  obtain⟨⟨j',k⟩,hx,e2⟩:=GX.mp he'
  injection e2 with e3 e4
  subst e3;have ho:=(U8 L.size).mp hx;have hk:=inn _ hx;have e5:e=es[k]:=by rw[<- e4,FT,FU hk,FV]
  obtain⟨i,q1,q2,n,q3,q4⟩:=L.each k e.1 (by rw[e5];simp[hk])
  have:=L.uniq _ _ _ q2 ho
  subst this;refine⟨n,q3,λm hm=>?_⟩;have ht:=q4 m hm;have hin:=wT t m e.1;rw[hp]
  show _∈(D1 t.mask owner).map (·.1)
  have hsz2:(adv t m (t.probeStart e.1)).j<owner.size:=by rw[L.size];lia
  unfold Z3 at ht;rw[FT,FU hsz2,FV] at ht
  cases hc:owner[(adv t m (t.probeStart e.1)).j] with
  | none=>rw[hc] at ht;cases ht
  | some k'=>exact GX.mpr ⟨(_,k'),(U8 L.size).mpr (by rw[FU hsz2,hc]),Iu⟩
 ·rw[<- A_,et,EV,hsz]
 ·rw[hp]
  simp[hsz]
end L2
namespace L2
open PySem PySem.SetTable PyProof.Rows
theorem lj (m:Nat):∀fuel k,m<2^(k+fuel)->∃k',sizeAbove.go m fuel (2^k)=2^k'/\m<2^k'/\k<=k'/\(2^k'<=2*m\/k'=k)
 | 0,k,h=>⟨k,Iu,by simpa using h,Eo _,.inr rfl⟩
 | fuel+1,k,h=>by
  unfold sizeAbove.go
  by_cases c:2^k<=m
  ·rw[Ik c,show 2^k*2=2^(k+1) from(Hi ..).symm]
   obtain⟨k',e1,e2,e3,e4⟩:=lj m fuel (k+1) (by rw[show k+1+fuel=k+(fuel+1) by lia];exact h)
   refine⟨k',e1,e2,by lia,.inl ?_⟩
   rcases e4 with e4|rfl
   ·exact e4
   ·rw[Hi];lia
  ·rw[Il c]
   exact⟨k,Iu,by lia,Eo _,.inr rfl⟩
def dW {m:Nat}(h:m<2^60):∃k,sizeAbove m=2^k/\m<2^k/\3<=k/\(2^k<=2*m\/k=3) :=
 lj m 64 3 (Fs h (Nat.pow_lt_pow_right (by decide) (by decide)))
structure X5 (t:SetTable)(es:Array (Int×Value)):Prop where
 mask:∃k,t.mask+1=2^k/\3<=k
 dum:t.dummies=#[]
 mono:t.place.toList.Pairwise (· < ·)
 size:t.place.size=es.size
 reach:fi t es
 less:es.size*5<t.mask*3
 small:t.mask<8192
theorem X5.fits {t:SetTable}(T:X5 t es):t.fits es.size=true:=by
 have h1:=T.size;have h2:=T.less;unfold SetTable.fits SetTable.fill;rw[T.dum,h1]
 simp only[FA,HC,decide_eq_true_eq,Ey,EA]
 lia
theorem X5.odd {t:SetTable}{es:Array (Int×Value)}(T:X5 t es):t.gaveWay=false:=by
 obtain⟨k,hk,h3⟩:=T.mask;obtain⟨k',rfl⟩:∃k',k=k'+1:=⟨k-1,by lia⟩
 rw[Hi] at hk;unfold SetTable.gaveWay
 have:t.mask%2=1:=by lia
 rw[this];rfl
theorem X5.ok {t:SetTable}(T:X5 t es):∃k,wx t k:=by
 obtain⟨k,hk,h3⟩:=T.mask;refine⟨k,hk,λj=>?_,?_⟩
 ·rcases aS t j T.dum with⟨q,_⟩|⟨i,q⟩<;>rw[q]<;>intro z<;>cases z
 ·refine HD λno=>?_
  have all:∀j∈List.range (t.mask+1),j∈t.place.toList:=λj hj=>HD λz=>no ⟨j,by rw[j_] at hj;lia,(W4 T.dum T.mono).mpr z⟩
  have h1:=T.size;have h2:=T.less;have p:=(V9 _ _ List.nodup_range all (by rw[Hx,A_];lia)).length_eq
  rw[Hx,A_] at p;lia
theorem X5.fresh (L:Bool):X5 (.fresh 0 0 L) #[] where
 mask:=⟨3,Iu,by decide⟩
 dum:=rfl
 mono:=Fn
 size:=rfl
 reach:=λj e h=>absurd h (by simp[dl,SetTable.fresh])
 less:=by show 0*5<7*3;decide
 small:=by show 7<8192;decide
theorem X5.relaid {t:SetTable}{es:Array (Int×Value)}{n:Nat}(hn:es.size=n)(h0:0<n)(hb:n<=1023) :
    ∃t' order,t.relaid (es.map (·.1)) (grown n)=some (t',order)/\X5 t' (order.filterMap (es[·]?))/\(order.filterMap (es[·]?)).size=es.size/\(order.filterMap (es[·]?)).toList.Perm es.toList/\t'.led=t.led:=by
  have eg:grown n=n*4:=by unfold grown;rw[Il (by lia)]
  rw[eg];obtain⟨k,e1,e2,e3,e4⟩:=dW (m:=n*4) (by have:(4092:Nat)<2^60:=(by decide);lia)
  have hz:(es.map (·.1)).size=n:=by rw[Array.size_map];exact hn
  obtain⟨M,hM⟩:∃M,M+1=2^k:=⟨2^k-1,by have:=Nat.two_pow_pos k;lia⟩
  have eM:sizeAbove (n*4)-1=M:=by rw[e1];lia
  have h8:M<8192:=by
    rcases e4 with e4|e4
    . lia
    . rw[e4] at hM
      have:(2:Nat)^3=8:=rfl
      lia
  have hnM:n*4<=M:=by lia
  clear e1 e2 e4 eg;obtain⟨owner,o1,_⟩:=iP (t:={ t with mask:=M }) (k:=k) hM (es.map (·.1)) (by rw[hz];show n<=M;lia)
  have o1':layClean M (es.map (·.1))=some owner:=o1;obtain⟨t',ht'⟩:∃t':SetTable,t' = { mask:=M,place:=((D1 M owner).map (·.1)).toArray,dummies:=#[],finger:=t.finger,led:=t.led,moves:=t.movedTo M,plain:=t.plain }:=⟨_,Iu⟩;have m1:t'.mask=M:=by rw[ht']
  have m2:t'.place=((D1 M owner).map (·.1)).toArray:=by rw[ht']
  obtain⟨owner',o2,L⟩:=iP (t:=t') (k:=k) (by rw[m1];exact hM) (es.map (·.1)) (by rw[hz,m1];lia)
  rw[m1] at o2;obtain rfl:owner=owner':=e_ (o1'.symm.trans o2);obtain⟨r1,r2,r3⟩:=og L (by rw[m1];exact m2)
  have pm:=rg L;rw[m1] at r1 r2 pm;refine⟨t',((D1 M owner).map (·.2)).toArray,?_,⟨⟨k,by rw[m1];exact hM,e3⟩,by rw[ht'],?_,r3.trans r2.symm,r1,?_,?_⟩,r2,pm,by rw[ht']⟩
  . unfold SetTable.relaid SetTable.laid
    rw[eM,o1',ht'];rfl
  . rw[m2]
    exact fO _ _
  . rw[r2,hn,m1]
    lia
  . rw[m1]
    exact h8
theorem X5.put {t:SetTable}(T:X5 t es){n:Nat}(he:t.slot (adv t n (t.probeStart e.1)).j=.empty)(hb:∀m,m<n->(adv t m (t.probeStart e.1)).j∈t.place.toList)(l:Bool) :
  (∃k,(t.put (adv t n (t.probeStart e.1)).j).1.mask+1=2^k/\3<=k)/\(t.put (adv t n (t.probeStart e.1)).j).1.dummies=#[]/\(t.put (adv t n (t.probeStart e.1)).j).1.place.toList.Pairwise (· < ·) /\
  (t.put (adv t n (t.probeStart e.1)).j).1.place.size=es.size+1/\fi (t.put (adv t n (t.probeStart e.1)).j).1 (insertAt es (t.put (adv t n (t.probeStart e.1)).j).2 e)/\(insertAt es (t.put (adv t n (t.probeStart e.1)).j).2 e).size=es.size+1 /\
  (t.put (adv t n (t.probeStart e.1)).j).1.mask=t.mask/\(t.put (adv t n (t.probeStart e.1)).j).1.led=t.led/\(t.put (adv t n (t.probeStart e.1)).j).1.plain=t.plain:=by
 generalize hj:(adv t n (t.probeStart e.1)).j=j at he ⊢;obtain⟨p1,p2⟩:=ak T.dum j;have R:=fi.put T.dum T.size T.reach (e:=e) hj hb
 have hno:t.place[below t.place j]?≠some j:=λz=>((W4 T.dum T.mono).mp he) (by
  have:=ET (l:=t.place.toList) (i:=below t.place j) (a:=j) (by rw[Gr];exact z)
  exact this)
 have sz:∀{α:Type}(xs:Array α)(p:Nat)(x:α),(insertAt xs p x).size=xs.size+1:=λxs p x=>by
  have:=(Hs xs p x).length_eq
  simpa using this
 refine⟨?_,?_,?_,?_,R,sz _ _ _,?_,?_,?_⟩
 ·rw[p1];exact T.mask
 ·rw[p1];exact T.dum
 ·rw[p1];exact bR t.place j T.mono hno
 ·rw[p1];exact(sz _ _ _).trans (by rw[T.size])
 ·rw[p1]
 ·rw[p1]
 ·rw[p1]
theorem eh {α β:Type}{g:α->β}{l1 l2:List β}(p:l1.Perm l2):∀fs:List α,l2=fs.map g->∃fs2:List α,fs2.Perm fs/\l1=fs2.map g:=by
 induction p with
 | nil=>intro fs h;exact⟨fs,FZ _,h⟩
 | cons x p ih =>
  intro fs h
  cases fs with
  | nil=>cases h
  | cons f r =>
   rw[EX] at h
   injection h with h1 h2
   obtain⟨r2,q1,q2⟩:=ih r h2;exact⟨f::r2,q1.cons f,by rw[EX,<- h1,<- q2]⟩
 | swap x y l =>
  intro fs h
  match fs,h with
  | [],h=>cases h
  | [f],h=>injection h with h1 h2;cases h2
  | f::f'::r,h =>
   rw[EX,EX] at h
   injection h with h1 h2
   injection h2 with h2 h3
   exact⟨f'::f::r,List.Perm.swap _ _ _,by rw[EX,EX,h1,h2,h3]⟩
 | trans p q ih1 ih2 =>
  intro fs h
  obtain⟨f2,a1,a2⟩:=ih2 fs h;obtain⟨f3,b1,b2⟩:=ih1 f2 a2;exact⟨f3,b1.trans a1,b2⟩
abbrev tkH (prog:Program)(w:World)(d:List Int):Int:=tupleKeyHash (intKind prog w) d
abbrev TK (prog:Program)(w:World)(h:Heap)(d:List Int)(b:Addr):Prop:=IsTupleKey (intKind prog w) h d b
def ent (prog:Program)(w:World)(f:List Int×Addr):Int×Value:=(tkH prog w f.1,.ref f.2)
theorem df (h:ItemsAre (intKind prog w) ks vs):∀v∈vs,∃n t,v=.int n t:=by
 induction h with
 | nil=>intro v hv;simp at hv
 | @cons k v' ks vs h1 _ ih =>
  intro v hv
  rcases p_.mp hv with rfl|hv
  ·obtain⟨t,e⟩:=Value.isInt_shape h1
   exact⟨_,t,e⟩
  ·exact ih v hv
def lA {s:Shared}{Q:Bool->Shared->Prop}(hk:TK prog w s.heap ks a)(h:Q false s):wpAny (model prog w) A (ofAClassStatement 8 (.ref a)) Q E s:=by
 have hT:=hk.typeIs;obtain⟨o,items,n,ho,_,hd,hi⟩:=hk;unfold ofAClassStatement;refine w_ (Gu hT ?_)
 dsimp only
 rw[Ik (by decide)]
 refine w_ (u_ ?_)
 simp only[Gh,Fy,Fa]
 refine w_ (Gn ho hd ?_)
 dsimp only
 refine w_ ?_;rw[<- Array.forIn_toList];refine wpAny_forIn_list _ (λrest r s'=>r.1=none/\s'=s/\∀v∈rest,∃n t,v=.int n t) _ ?_ ?_ _ _ ⟨Iu,Iu,df hi⟩
 ·rintro v rest r s' ⟨hr,rfl,hall⟩
  obtain⟨m,t,rfl⟩:=hall v n_;refine w_ ?_;unfold ofAClassStatement;refine u_ ?_
  simp only[Fy,Fa]
  exact u_ ⟨Iu,Iu,λu hu'=>hall u (o_ _ hu')⟩
 ·rintro⟨r1,r2⟩ s' ⟨hr,rfl,_⟩
  simp only at hr
  subst hr;exact u_ h
def oN {s:Shared}{Q:Bool->Shared->Prop}(hk:TK prog w s.heap ks a)(h:Q true s):wpAny (model prog w) A (hashByValue 8 (.ref a)) Q E s:=by
 have hT:=hk.typeIs;obtain⟨o,items,n,ho,_,hd,hi⟩:=hk;unfold hashByValue;refine w_ (wpAny_specialOf hT F.slot_tuple_hash.lookup ?_)
 dsimp only
 refine w_ (Gn ho hd ?_);refine w_ ?_
 show wpAny _ _ (forIn items _ _) _ _ s
 rw[<- Array.forIn_toList];refine wpAny_forIn_list _ (λrest r s'=>r.1=none/\s'=s/\∀v∈rest,∃n t,v=.int n t) _ ?_ ?_ _ _ ⟨Iu,Iu,df hi⟩
 ·rintro v rest r s' ⟨hr,rfl,hall⟩
  obtain⟨m,t,rfl⟩:=hall v n_;refine w_ ?_;unfold hashByValue;refine u_ ?_
  simp only[Gh,Fy,Fa]
  exact u_ ⟨Iu,Iu,λu hu'=>hall u (o_ _ hu')⟩
 ·rintro⟨r1,r2⟩ s' ⟨hr,rfl,_⟩
  simp only at hr
  subst hr;exact u_ h
def tE {s:Shared}{stored:List Value}{Q:Bool->Shared->Prop}(hb:TK prog w s.heap d b)(hst:∀v∈stored,∃d' b',v=.ref b'/\TK prog w s.heap d' b')(h:Q false s) :
  wpAny (model prog w) A (searchCouldBeSeen (.ref b) stored) Q E s:=by
 unfold searchCouldBeSeen;refine w_ ?_;refine wpAny_forIn_list _ (λrest r s'=>r.1=none/\s'=s/\∀v∈rest,∃d' b',v=.ref b'/\TK prog w s.heap d' b') _ ?_ ?_ _ _ ⟨Iu,Iu,hst⟩
 ·rintro v rest r s' ⟨hr,rfl,hall⟩
  obtain⟨d',b',rfl,hb'⟩:=hall v n_;have nx:∀u∈rest,∃d' b',u=.ref b'/\TK prog w s'.heap d' b':=λu hu'=>hall u (o_ _ hu')
  dsimp only
  split
  ·exact u_ ⟨Iu,Iu,nx⟩
  ·refine w_ (wpAny_eqIsQuiet_tuple hb ?_)
   simp only[Gh,Fy,Fa]
   refine w_ (wpAny_eqIsQuiet_tuple hb' ?_)
   simp only[Gh,Fy,Fa]
   refine w_ (lA hb ?_)
   simp only[Fy,Fa]
   refine w_ (lA hb' ?_)
   simp only[Fy,Fa]
   exact u_ ⟨Iu,Iu,nx⟩
 ·rintro⟨r1,r2⟩ s' ⟨hr,rfl,_⟩
  simp only at hr
  subst hr;exact u_ h
def oH {A:Around}{s:Shared}{ep:Nat}{t:SetTable}{fs:List (List Int×Addr)}{Q:SetFound->Shared->Prop}
  (hu:A.units<cLine)(ho:s.heap.get? S=some o)(hd:o.data=.set es ep t)(T:X5 t es)(hes:es.toList=fs.map (ent prog w))(hk:∀f∈fs,TK prog w s.heap f.1 f.2)(hb:TK prog w s.heap d b)
  (hit:d∈fs.map (·.1)->Q (.there none) s)
  (miss:¬d∈fs.map (·.1)->∀n,t.slot (adv t n (t.probeStart (tkH prog w d))).j=.empty->(∀m,m<n->(adv t m (t.probeStart (tkH prog w d))).j∈t.place.toList)->Q (.free (adv t n (t.probeStart (tkH prog w d))).j false) s) :
  wpAny (model prog w) A (setSearch S (.ref b) (tkH prog w d) true) Q E s:=by
 obtain⟨k,TO⟩:=T.ok;obtain⟨j0,hj0,he0⟩:=TO.room;generalize hst0:t.probeStart (tkH prog w d)=st at miss;have S0:bS st:=hst0▸bS.start t _;obtain⟨N,hN,eN⟩:=U4 TO.mask st S0.more S0.perturb j0 hj0;have hNe:t.slot (adv t N st).j=.empty:=by rw[eN];exact he0
 have small:=T.small
 have entAt:∀(i:Nat)(f:List Int×Addr),fs[i]? = some f->es[i]? = some (ent prog w f):=λi f e=>by
  rw[<- Gr,hes,ER,e];rfl
 have liveIn:∀{j i:Nat},t.slot j=.live i->j∈t.place.toList:=λ{j i} e=>by
  have:=O3 e
  exact ET (by rw[Gr];exact this)
 have go:∀(fuel n0:Nat)(stand:Option Probe),N<fuel+n0->n0<=N->stand.getD st=adv t n0 st->(∀m,m<n0->∃i f,t.slot (adv t m st).j=.live i/\fs[i]? = some f/\f.1≠d) ->
   wpAny (model prog w) A (setSearchFrom S (.ref b) (tkH prog w d) true fuel stand) Q E s:=by
  intro fuel
  induction fuel with
  | zero=>intro n0 stand h1 h2;lia
  | succ fuel ih =>
   intro n0 stand h1 h2 hst hcl
   unfold setSearchFrom;refine w_ (Gf ho hd T.fits ?_)
   dsimp only
   rw[T.odd]
   simp only[Fy,Fa]
   rw[hst0,hst]
   rcases nX (ha:=λi=>(es[i]?.map (·.1)).getD 0) (h:=tkH prog w d) TO (S0.adv n0) with⟨n,c1,c2,c3⟩ | ⟨n,i,c1,c2,c3,c4⟩
   ·erw [c3]
    dsimp only
    rw[<- C9] at c2 ⊢;refine u_ (miss (λhm=>?_) _ c2 λm hm=>?_)
    ·obtain⟨f,hf,rfl⟩:=GX.mp hm
     obtain⟨i,hi,e⟩:=FG hf;have ef:fs[i]? = some f:=by rw[Gb hi,e]
     have ee:=entAt i f ef
     have hip:i<t.place.size:=by
      rw[T.size];exact(Hd.mp ee).1
     have ep':t.place[i]? = some t.place[i]:=FU hip
     have hpair:(t.place[i],ent prog w f)∈dl t es:=by
      refine ET (i:=i) ?_;unfold dl;rw[List.getElem?_zip_eq_some];exact⟨by rw[Gr];exact ep',by rw[Gr];exact ee⟩
     obtain⟨n',q1,q2⟩:=T.reach _ _ hpair;have q1':(adv t n' st).j=t.place[i]:=by rw[<- hst0];exact q1
     have q2':∀m,m<n'->(adv t m st).j∈t.place.toList:=λm hm=>by rw[<- hst0];exact q2 m hm
     have sl:t.slot (adv t n' st).j=.live i:=by rw[q1'];exact hX T.mono ep'
     have c2':=(W4 T.dum T.mono).mp c2
     rcases Hr n' (n0+n) with z|z|z
     ·by_cases z0:n'<n0
      ·obtain⟨i',f',g1,g2,g3⟩:=hcl n' z0
       rw[sl] at g1
       injection g1 with g1
       subst g1;rw[ef] at g2
       injection g2 with g2
       exact g3 (by rw[g2])
      ·obtain⟨i',g1,g2⟩:=c1 (n'-n0) (by lia)
       rw[<- C9,show n0+(n'-n0)=n' by lia,sl] at g1
       injection g1 with g1
       subst g1;exact g2 (by show(es[i]?.map (·.1)).getD 0=_;rw[ee];rfl)
     ·subst z
      exact c2' (liveIn sl)
     ·exact c2' (q2' _ z)
    ·by_cases z0:m<n0
     ·obtain⟨i',f',g1,_,_⟩:=hcl m z0
      exact liveIn g1
     ·obtain⟨i',g1,_⟩:=c1 (m-n0) (by lia)
      rw[<- C9,show n0+(m-n0)=m by lia] at g1
      exact liveIn g1
   ·erw [c4]
    dsimp only
    have pl:=O3 c2
    have hie:i<es.size:=by
     rw[<- T.size];exact(Hd.mp pl).1
    have hif:i<fs.length:=by
     have:=B_ List.length hes
     rw[A_,EV] at this;lia
    obtain⟨f,ef⟩:∃f,fs[i]? = some f:=⟨_,Gb hif⟩;have ee:=entAt i f ef;have hf:=hk f (ET ef)
    have stored:∀v∈(es.filter (λx=>x.1==tkH prog w d)).toList.map (·.2),∃d' b',v=.ref b'/\TK prog w s.heap d' b':=λv hv=>by
     obtain⟨e,he,rfl⟩:=GX.mp hv;rw[EB,Array.mem_filter] at he
     have:e∈fs.map (ent prog w):=hes▸EB.mpr he.1
     obtain⟨f',hf',rfl⟩:=GX.mp this;exact⟨_,_,Iu,hk f' hf'⟩
    have nlt:n0+n<N:=by
     refine HD λz=>?_;have hN2:=(W4 T.dum T.mono).mp hNe
     by_cases zz:N=n0+n
     ·rw[zz,C9] at hN2
      exact hN2 (liveIn c2)
     ·obtain⟨i',g1,_⟩:=c1 (N-n0) (by lia)
      rw[<- C9,show n0+(N-n0)=N by lia] at g1
      exact hN2 (liveIn g1)
    cases hl:t.led
    ·simp only[Bool.not_false,F_]
     refine w_ (tE hb stored ?_)
     simp only[Fy,Fa]
     rw[ee]
     dsimp only[ent]
     refine w_ (D_ (wpAny_eqBool_tuple hu hf hb ?_));refine w_ (Gf ho hd T.fits ?_)
     dsimp only
     by_cases cd:f.1=d
     ·rw[Fm cd,Ik (by rfl)]
      exact u_ (hit (cd▸mem_map_of_mem (ET ef)))
     ·rw[b_ cd,Il (by decide)]
      have sm:t.sameMemory t.moves t.mask=some true:=by
       unfold SetTable.sameMemory;rw[Ik (by simp)]
      rw[sm]
      dsimp only
      rw[Ik rfl,c2]
      dsimp only
      rw[ee]
      dsimp only[ent]
      refine w_ (wpAny_isSame_ref_self ?_);rw[Ik rfl];refine w_ (u_ ?_)
      dsimp only
      rw[Il Ei];refine ih (n0+n+1) _ (by lia) (by lia) ?_ λm hm=>?_
      ·rw[FV,<- C9,Nat.add_assoc]
      ·by_cases z0:m<n0
       ·exact hcl m z0
       ·by_cases z1:m=n0+n
        ·exact⟨i,f,by rw[z1,C9];exact c2,ef,cd⟩
        ·obtain⟨i',g1,g2⟩:=c1 (m-n0) (by lia)
         rw[<- C9,show n0+(m-n0)=m by lia] at g1
         have hip:i'<fs.length:=by
          have h5:=(Hd.mp (O3 g1)).1;have h6:=B_ List.length hes;rw[A_,EV] at h6;rw[T.size] at h5;lia
         refine⟨i',_,g1,Gb hip,λz=>g2 ?_⟩
         show(es[i']?.map (·.1)).getD 0=_
         rw[entAt i' _ (Gb hip)]
         show tkH prog w (fs[i']'hip).1=_
         rw[z]
    ·simp only[Gh,Fy,Fa]
     rw[ee]
     dsimp only[ent]
     refine w_ (D_ (wpAny_eqBool_tuple hu hf hb ?_));refine w_ (Gf ho hd T.fits ?_)
     dsimp only
     by_cases cd:f.1=d
     ·rw[Fm cd,Ik (by rfl)]
      exact u_ (hit (cd▸mem_map_of_mem (ET ef)))
     ·rw[b_ cd,Il (by decide)]
      have sm:t.sameMemory t.moves t.mask=some true:=by
       unfold SetTable.sameMemory;rw[Ik (by simp)]
      rw[sm]
      dsimp only
      rw[Ik rfl,c2]
      dsimp only
      rw[ee]
      dsimp only[ent]
      refine w_ (wpAny_isSame_ref_self ?_);rw[Ik rfl];refine w_ (u_ ?_)
      dsimp only
      rw[Il Ei];refine ih (n0+n+1) _ (by lia) (by lia) ?_ λm hm=>?_
      ·rw[FV,<- C9,Nat.add_assoc]
      ·by_cases z0:m<n0
       ·exact hcl m z0
       ·by_cases z1:m=n0+n
        ·exact⟨i,f,by rw[z1,C9];exact c2,ef,cd⟩
        ·obtain⟨i',g1,g2⟩:=c1 (m-n0) (by lia)
         rw[<- C9,show n0+(m-n0)=m by lia] at g1
         have hip:i'<fs.length:=by
          have h5:=(Hd.mp (O3 g1)).1;have h6:=B_ List.length hes;rw[A_,EV] at h6;rw[T.size] at h5;lia
         refine⟨i',_,g1,Gb hip,λz=>g2 ?_⟩
         show(es[i']?.map (·.1)).getD 0=_
         rw[entAt i' _ (Gb hip)]
         show tkH prog w (fs[i']'hip).1=_
         rw[z]
 exact go 100000 0 none (by lia) (Et _) (by rw[<- hst0];rfl) (λm hm=>absurd hm (Hn _))
def met (ds:List (List Int)):Nat->List (List Int)
 | 0=>[]
 | i+1=>if ds.getD i []∈met ds i then met ds i else met ds i++[ds.getD i []]
theorem dX (ds:List (List Int)):∀i,i<=ds.length->(met ds i).Nodup/\(∀x,x∈met ds i↔x∈ds.take i)/\(met ds i).length<=i/\((met ds i).length=i↔(ds.take i).Nodup)
 | 0,_=>⟨Fu,λx=>by simp[met],Eo _,by simp[met]⟩
 | i+1,h=>by
  obtain⟨h1,h2,h3,h4⟩:=dX ds i (by lia)
  have hi:i<ds.length:=by lia
  have eg:ds.getD i []=ds[i]:=by rw[List.getD_eq_getElem?_getD,Gb hi];rfl
  have et:ds.take (i+1)=ds.take i++[ds[i]]:=by rw[HA,Gb hi];rfl
  unfold met;rw[eg,et]
  by_cases c:ds[i]∈met ds i
  ·rw[Ik c]
   have c':=(h2 _).mp c;refine⟨h1,λx=>?_,by lia,⟨λz=>by lia,λz=>?_⟩⟩
   ·rw[h2,q_,Fx]
    exact⟨.inl,λq=>q.elim id λe=>e▸c'⟩
   ·rw[GR] at z
    exact absurd rfl (z.2.2 _ c' _ (by simp))
  ·rw[Il c]
   have c':¬ds[i]∈ds.take i:=λz=>c ((h2 _).mpr z);refine⟨?_,λx=>?_,?_,?_⟩
   ·rw[GR]
    refine⟨h1,by simp,λa ha b hb e=>c ?_⟩
    rw[Fx] at hb;rw[<- hb,<- e];exact ha
   ·rw[q_,q_,h2]
   ·rw[EU,Fj];lia
   ·rw[EU,Fj,GR]
    constructor
    ·intro z
     refine⟨h4.mp (by lia),by simp,λa ha b hb e=>c' ?_⟩
     rw[Fx] at hb;rw[<- hb,<- e];exact ha
    ·intro z
     have:=h4.mpr z.1
     lia
def pE (ds:List (List Int)):((met ds ds.length).length=ds.length↔ds.Nodup)/\(met ds ds.length).length<=ds.length:=by
 obtain⟨_,_,h3,h4⟩:=dX ds ds.length (Eo _);rw[HB] at h4;exact⟨h4,h3⟩
def oY {h0 h:Heap}(x:TK prog w h0 d b)(kp:∀c o,h0.get? c=some o->h.get? c=some o):TK prog w h d b:=by
 obtain⟨o,items,n,ho,r⟩:=x;exact⟨o,items,n,kp _ _ ho,r⟩
def dq (prog:Program)(w:World)(h0 h:Heap)(S:Addr)(L:List (List Int)):Prop :=
 ∃(o:Obj)(es:Array (Int×Value))(ep:Nat)(t:SetTable)(fs:List (List Int×Addr)),h.get? S=some o/\o.ExactSet/\o.data=.set es ep t/\X5 t es/\es.toList=fs.map (ent prog w)/\(∀f∈fs,TK prog w h0 f.1 f.2)/\(fs.map (·.1)).Perm L
theorem dq.of_get {h0 h h':Heap}(x:dq prog w h0 h S L)(k:∀o,h.get? S=some o->h'.get? S=some o):dq prog w h0 h' S L:=by
 obtain⟨o,es,ep,t,fs,e,r⟩:=x;exact⟨o,es,ep,t,fs,k o e,r⟩
def qg {h:Heap}{ep:Nat}{t t':SetTable}(ho:h.get? a=some o)(hd:o.data=.set es ep t):(h.update a (Obj.putSet es' t')).get? a=some { o with data:=.set es' (ep+1) t' }:=by
 have:=EY (Obj.putSet es' t') ho (by rw[putSet_of es' t' hd];rfl)
 rw[putSet_of es' t' hd] at this;exact this
def rj {s:Shared}{ep:Nat}{t:SetTable}{n:Nat}{Q:Unit->Shared->Prop}(ho:s.heap.get? S=some o)(hd:o.data=.set es ep t)(hf:t.fits es.size=true)(hn:es.size=n)(h0:0<n)(hb:n<=1023)
  (h:∀es' t',X5 t' es'->es'.toList.Perm es.toList->Q () { s with heap:=s.heap.update S (Obj.putSet es' t') }):wpAny (model prog w) A (setRelay S (grown n)) Q E s:=by
 obtain⟨t',order,e1,T',e2,pm,_⟩:=X5.relaid (t:=t) hn h0 hb
 obtain⟨k,a1,a2,a3,a4⟩:=dW (m:=grown n) (by
  unfold grown;rw[Il (by lia)]
  have:(4092:Nat)<2^60:=by decide
  lia)
 have hsz:sizeAbove (grown n)<=8192:=by
  rw[a1]
  rcases a4 with a4|rfl
  ·have:grown n=n*4:=by unfold grown;rw[Il (by lia)]
   lia
  ·decide
 unfold setRelay;refine w_ (Gf ho hd hf ?_)
 dsimp only
 rw[Il (by rw[Ex];lia)]
 rw[e1]
 have er:∀{Q':(Array (Int×Value)×SetTable)->Shared->Prop},Q' (order.filterMap (es[·]?),t') s->wpAny (model prog w) A (if ((order.filterMap (es[·]?)).size != es.size)=true then unsupported "internal:set-table-lost-an-element" else pure (order.filterMap (es[·]?),t')) Q' E s:=λ{Q'} z=>by
  rw[Il (by rw[e2];simp)]
  exact u_ z
 refine w_ (er ?_);exact Gd ho hd (h _ _ T' pm) (by rw[e2,Ex];lia)
def zr {prog:Program}{w:World}{A:Around}{E:Value->Shared->Prop}{s:Shared}{h0:Heap}{S:Addr}{L:List (List Int)}{d:List Int}{b:Addr}{Q:Bool->Shared->Prop}(hu:A.units<cLine)(kp:∀c o,h0.get? c=some o->s.heap.get? c=some o)(hb:TK prog w h0 d b)(x:dq prog w h0 s.heap S L)(room:L.length<1023)
  (fin:∀v h',Heap.SameBut S s.heap h'->dq prog w h0 h' S (if d∈L then L else L++[d])->Q v { s with heap:=h' }) :
  wpAny (model prog w) A (setAddHashed S (.ref b) (tkH prog w d)) Q E s:=by
 obtain⟨o,es,ep,t,fs,ho,hx,hd,T,hes,hk,pm⟩:=x
 have hlen:es.size=L.length:=by
  have h1:=B_ List.length hes;have h2:=pm.length_eq;rw[A_,EV] at h1;rw[EV] at h2;lia
 unfold setAddHashed setAddHashedIn;refine D_ (w_ (Gf ho hd T.fits ?_))
 dsimp only
 rw[Il (by simp[byScan,Value.scannable])]
 refine w_ (oH hu ho hd T hes (λf hf=>oY (hk f hf) kp) (oY hb kp) (λhm=>?_) (λhm n c2 c3=>?_))
 ·dsimp only
  have z:=fin false s.heap (Heap.SameBut.refl S s.heap);rw[Ik (pm.mem_iff.mp hm)] at z;exact u_ (z ⟨o,es,ep,t,fs,ho,hx,hd,T,hes,hk,pm⟩)
 ·dsimp only
  have hm':¬d∈L:=λz=>hm (pm.mem_iff.mpr z);refine w_ (Gf ho hd T.fits ?_)
  dsimp only
  obtain⟨p1,p2,p3,p4,p5,p6,p7,p8,p9⟩:=T.put (e:=(tkH prog w d,Value.ref b)) c2 c3 true;have pp:=Hs es (t.put (adv t n (t.probeStart (tkH prog w d))).j).2 (tkH prog w d,Value.ref b)
  dsimp only at p1 p2 p3 p4 p5 p6 p7 p8 p9
  generalize (t.put (adv t n (t.probeStart (tkH prog w d))).j).1=t1 at p1 p2 p3 p4 p5 p6 p7 p8 p9 ⊢;generalize insertAt es (t.put (adv t n (t.probeStart (tkH prog w d))).j).2 (tkH prog w d,Value.ref b)=es1 at p1 p2 p3 p4 p5 p6 p7 p8 p9 pp ⊢;rw[Array.toList_push,hes,show fs.map (ent prog w)++[(tkH prog w d,Value.ref b)]=(fs++[(d,b)]).map (ent prog w) by rw[HE];rfl] at pp
  obtain⟨fs1,f1,f2⟩:=eh pp _ rfl
  have hk1:∀f∈fs1,TK prog w h0 f.1 f.2:=λf hf=>by
   rcases q_.mp (f1.mem_iff.mp hf) with q|q
   ·exact hk f q
   ·rw[Fx] at q
    rw[q];exact hb
  have pm1:(fs1.map (·.1)).Perm (L++[d]):=by
   refine(f1.map _).trans ?_;rw[HE];exact pm.append_right _
  have less:=T.less;have small:=T.small
  have hf1:t1.fits es1.size=true:=by
   unfold SetTable.fits SetTable.fill;rw[p2,p4,p6]
   simp only[FA,HC,decide_eq_true_eq,Ey,EA]
   obtain⟨k,hk3,h3⟩:=T.mask
   have:2^3<=2^k:=Nat.pow_le_pow_right (by decide) h3
   lia
  have key:∀R:Bool->Shared->Prop,(∀v h',Heap.SameBut S s.heap h'->dq prog w h0 h' S (L++[d])->R v { s with heap:=h' })->wpAny (model prog w) A (do
    storeSet S es1 t1
    if (!false&&t1.tooFull)=true then setRelay S (grown (es.size+1))
    return true) R E s:=λR hR=>by
   refine w_ (Gd ho hd ?_ (by rw[p6,Ex];lia))
   have g1:=qg (es':=es1) (t':=t1) ho hd;have sb1:=Gc s.heap S (Obj.putSet es1 t1)
   by_cases c:(!false&&t1.tooFull)=true
   ·rw[Ik c]
    refine w_ (rj (s:={ s with heap:=s.heap.update S (Obj.putSet es1 t1) }) g1 rfl hf1 p6 (by lia) (by lia) λes2 t2 T2 pm2=>?_)
    rw[f2] at pm2;obtain⟨fs2,e1,e2⟩:=eh pm2 _ rfl;have g2:=qg (es':=es2) (t':=t2) g1 rfl;refine u_ (hR _ _ (sb1.trans (Gc _ S _)) ⟨_,es2,_,t2,fs2,g2,hx,Iu,T2,e2,λf hf=>hk1 f (e1.mem_iff.mp hf),(e1.map _).trans pm1⟩)
   ·rw[Il c]
    refine u_ (hR _ _ sb1 ⟨_,es1,_,t1,fs1,g1,hx,Iu,⟨p1,p2,p3,p4.trans p6.symm,p5,?_,?_⟩,f2,hk1,pm1⟩)
    ·have c':¬t1.fill*5 ≥ t1.mask*3:=λz=>c (by
      unfold SetTable.tooFull
      simp[z])
     unfold SetTable.fill at c';rw[p2,p4] at c'
     simp only[Ey,EA] at c'
     lia
    ·rw[p7];exact small
  rw[Il hm'] at fin
  by_cases c:t1.plain=true
  ·rw[Ik c]
   refine w_ (oN (oY hb kp) ?_);rw[Ik rfl];exact key _ fin
  ·rw[Il c]
   refine w_ (u_ ?_);rw[Ik rfl];exact key _ fin
end L2
namespace L2
open PySem PyProof.Rows
section
variable {n:Nat}{St:Nat->Shared->Prop}
theorem ub {A:Around}{R:Result->Shared->Prop}(W:WalksS prog w A.in1 I fp wr G n P St)(h0:Heap)(S:Addr)(hSf:S∉fp)(h0S:h0.get? S=none)(h0w:∀b∈wr,h0.get? b=none)(ds:List (List Int))(hn:n<=ds.length)(hu:A.in1.units<cLine)(hval:∀i v,P i v->∃b,v=.ref b/\TK prog w h0 (ds.getD i []) b)(hb:n<=1000) :
  ∀(k i:Nat)(s:Shared),n-i=k->i<=n->St i s->(∀c o,h0.get? c=some o->s.heap.get? c=some o)->dq prog w h0 s.heap S (met ds i)->(∀s',Moved (S::wr) G s s'->dq prog w h0 s'.heap S (met ds n)->R (.ok (.ret .none)) s') ->
   codeAny (model prog w) A (.builtin "set.update.loop" ⟨[.ref S,.ref I],[]⟩) R s:=by
 have hSw:S∉wr:=λz=>hSf (W.sub _ z);have sub:∀b∈wr,b∈S::wr:=λb q=>o_ _ q
 intro k
 induction k with
 | zero =>
  intro i s hk hi st kp x fin
  obtain rfl:i=n:=by lia
  refine Gw GE ?_;rw[Gx GF _]
  show wpAny _ A.in1 (pyNext (.ref I) >>= _) _ _ s
  refine w_ (W.done s _ _ st λs' m=>?_)
  show wpAny _ A.in1 (ret Value.none) _ _ s'
  exact u_ (fin s' (m.mono sub) (x.of_get λo e=>m.heap S _ hSw e))
 | succ k ih =>
  intro i s hk hi st kp x fin
  have lt:i<n:=by lia
  refine Gw GE ?_;rw[Gx GF _]
  show wpAny _ A.in1 (pyNext (.ref I) >>= _) _ _ s
  refine w_ (W.item i s _ _ lt st λv s' pv st' m=>?_);obtain⟨b,rfl,hbk⟩:=hval i v pv;have x':dq prog w h0 s'.heap S (met ds i):=x.of_get λo e=>m.heap S _ hSw e;have kp':∀c o,h0.get? c=some o->s'.heap.get? c=some o:=λc o e=>m.heap c o (λz=>by rw[h0w c z] at e;cases e) (kp c o e)
  show wpAny _ A.in1 (holding [Value.ref b] (setAdd S (.ref b)) >>= _) _ _ s'
  refine w_ (D_ ?_);unfold setAdd;refine D_ (w_ (wpAny_pyHash_tuple hu (oY hbk kp') ?_));obtain⟨_,_,hlen,_⟩:=dX ds i (by lia)
  refine zr (s:={ s' with toks:=s'.toks+((ds.getD i []).length+1) }) hu kp' hbk x' (by lia) λv h' sb x2=>?_
  have x3:dq prog w h0 h' S (met ds (i+1)):=x2;refine u_ ⟨Gy GF _,ih (i+1) _ (by lia) lt (W.frame _ s' _ _ st' (FP _ _) λb hb o e=>?_) (λc o e=>?_) x3 λs'' m2 x4=>?_⟩
  ·rw[sb.2 b (λz:b=S=>hSf (z▸hb))];exact e
  ·show h'.get? c=some o
   rw[sb.2 c (λz:c=S=>by rw[z,h0S] at e;cases e)];exact kp' c o e
  ·refine fin s'' (Moved.trans W.gtrans ((m.mono sub).then_heap (FP _ _) λb o hb e=>?_) m2) x4
   rw[sb.2 b (λz:b=S=>hb (z▸n_))];exact e
end
theorem jc {A:Around}{s:Shared}{ds:List (List Int)}{Q:Value->Shared->Prop}(hh:A.handled=none)(hu:A.units+8<cLine)(hl:s.heap.IsList l items)(hn:items.size=ds.length)(hi:∀(i:Nat) v,items[i]? = some v->∃b,v=.ref b/\TK prog w s.heap (ds.getD i []) b)(hb:items.size<=1000)
  (h:∀(h':Heap)(tk:Nat),dq prog w s.heap h' s.heap.objs.size (met ds ds.length)->(∀b o,b<s.heap.objs.size->s.heap.get? b=some o->h'.get? b=some o)->Q (.ref s.heap.objs.size) { s with heap:=h',toks:=tk }) :
  wpAny (model prog w) A (call (.type "set") [.ref l]) Q E s:=by
 obtain⟨c,tl,hmro⟩:=PySem.F.called_set.mro;have hmade:=PySem.F.called_set.made;have hsub:=PySem.F.called_set.sub;refine EI (GG ?_)
 show wpAny _ _ (callAny (.type "set") _) _ _ _
 refine u_ ⟨GH _ (by decide +kernel),Gw GI ?_⟩
 rw[Around.under_plain (GJ "set" [.ref l] []) rfl];have h1:=PySem.F.called_set.notType;have h2:=PySem.F.called_set.canCreate;have hct:=GK (.ref l)
 repeat (any_goals (first|assumption|wp_step))
 refine EJ (Z1 (.ref l) (E:=E) (Q:=λobj s₁=>obj=.ref s.heap.objs.size/\s₁ = { s with heap:=s.heap.push (D0 w) }) ⟨Iu,Iu⟩) λr s₁ hr=>?_
 cases r with
 | error e=>exact hr
 | ok fl =>
  cases fl with
  | ret obj =>
   obtain⟨rfl,rfl⟩:=hr;have hS:(s.heap.push (D0 w)).get? s.heap.objs.size=some (D0 w):=En _ rfl;have hT:Shared.TypeIs { s with heap:=s.heap.push (D0 w) } (.ref s.heap.objs.size) "set":=⟨_,hS,Iu⟩
   have hli:=PySem.F.called_set.init.lookup;have hbi:=PySem.F.called_set.init.bind (.ref s.heap.objs.size)
   repeat (any_goals (first|assumption|wp_step))
   refine EJ (GL (R:=wants (λr s₂=>r=.none/\∃h' tk,s₂ = { s with heap:=h',toks:=tk }/\dq prog w s.heap h' s.heap.objs.size (met ds ds.length) /\
     (∀b o,b<s.heap.objs.size->s.heap.get? b=some o->h'.get? b=some o)) E) PySem.F.called_set.init.plain GM (check_set_init_1 hT ?_)) λr₂ s₂ hr₂=>?_
   ·obtain⟨ol,hol,hcl,nl,hdl⟩:=id hl
    have hol':(s.heap.push (D0 w)).get? l=some ol:=Em _ hol;have hTl:Shared.TypeIs { s with heap:=s.heap.push (D0 w) } (.ref l) "list":=⟨ol,hol',hcl⟩
    have hsls:=PySem.F.sub_list_set;have hslf:=PySem.F.sub_list_frozenset;have hne:(Value.type "list" == Value.type "dict")=false:=by decide
    have hl1:(s.heap.push (D0 w)).IsList l items:=⟨_,hol',hcl,nl,hdl⟩;unfold Builtin.«set.__init__» noKeywords Builtin.Frozenset.updateFrom;generalize hPI:pyIter=PI
    wp_walk
    subst hPI;refine El hl1 (w_ (Gv ?_));have hlS:l<s.heap.objs.size:=f_ hol;have hneI:l≠(s.heap.push (D0 w)).objs.size:=by rw[FB];exact h_ (Gp hlS)
    have hSf:s.heap.objs.size∉[(s.heap.push (D0 w)).objs.size,l]:=by
     rw[FB]
     simp only[p_,FN,FO,not_or]
     exact⟨h_ (FD _),Ej hlS⟩
    have h0S:s.heap.get? s.heap.objs.size=none:=by
     cases q:s.heap.get? s.heap.objs.size with
     | none=>rfl
     | some o=>exact absurd (f_ q) (g_ _)
    have h0I:s.heap.get? (s.heap.push (D0 w)).objs.size=none:=by
     cases q:s.heap.get? (s.heap.push (D0 w)).objs.size with
     | none=>rfl
     | some o =>
      have:=f_ q
      rw[FB] at this;exact absurd this (by show ¬s.heap.objs.size+1<s.heap.objs.size;lia)
    rw[<- hn]
    refine ub ((FI (by simpa using hh) _ l hneI items).toS) s.heap s.heap.objs.size hSf h0S (λb hb=>by rw[Fx] at hb;rw[hb];exact h0I) ds (by lia) ?hU hi hb (items.size-0) 0 _ (by lia) (Et _)
     ⟨⟨_,En _ rfl,Iu,Iu⟩,(hl1.push _)⟩ (λc o e=>Em _ (Em _ e)) ?hS0 ?hR
    case hU=>show A.units+1+1+1<cLine;lia
    case hS0 =>
     exact⟨_,#[],0,_,[],Em _ hS,⟨Iu,Iu,Iu⟩,Iu,X5.fresh _,Iu,(λf hf=>nomatch hf),FZ _⟩
    case hR =>
     intro s' m x
     obtain⟨h',g',d',tk',os'⟩:=s';have eg:g'=s.gens:=m.gens;have ed:d'=s.drawn:=m.drawn;have eo:os'=s.os:=m.os;subst eg ed eo
     show wpAny _ _ _ _ _ _
     refine u_ ?_
     show wpAny _ _ (ret Value.none) _ _ _
     refine u_ ⟨Iu,h',tk',Iu,x,λb o q e=>?_⟩;refine m.heap b o ?_ (Em _ (Em _ e))
     simp only[p_,FN,FO,not_or]
     refine⟨h_ q,?_⟩;rw[FB];exact h_ (Gp q)
   ·cases r₂ with
    | error e=>exact hr₂
    | ok fl₂ =>
     cases fl₂ with
     | ret r =>
      obtain⟨rfl,h',tk,rfl,x,kp⟩:=hr₂
      repeat (any_goals (first|assumption|wp_step))
      exact h _ _ x kp
     | _=>exact hr₂.elim
  | _=>exact hr.elim
end L2
namespace L2
open PySem PySem.Spec PyProof.Rows
def oO (l:Addr)(items:Array Value)(n:Nat)(b:Addr)(items2:Array Value)(n2:Nat)(dc:Option Addr)(sl:Array (Option Value))(hs0:¬(!items.isEmpty&&Builtin.List.listTooLong (items.size+items2.size))=true)(hs1:items.size<=sizeLine)(hs2:items.size+items2.size<=sizeLine+1) :
  Meets (Builtin.«list.extend» ⟨[.ref l,.ref b],[]⟩) (λ_ R s=>s.heap.get? l=some { cls:=.type "list",dict:=none,data:=.seq items n,slots:=#[] }/\s.heap.get? b=some { cls:=.type "tuple",dict:=dc,data:=.seq items2 n2,slots:=sl }/\R (.ok (.ret Value.none)) { s with heap:=s.heap.update l (Obj.mapSeq λx=>x++items2),toks:=s.toks }) :=
 .of_wp λprog w A R s h=>by
  obtain⟨hp,g,d,tk,os⟩:=s;obtain⟨hl,hb,h⟩:=h;have f2:=PySem.AutoSeq1.sub_tuple_tuple;have f3:=PySem.AutoSeq1.sub_list_list;have f4:=PySem.AutoSeq1.sub_tuple_list;have f5:=PySem.AutoSeq1.sub_list_tuple;have hz':(items++items2).size<=sizeLine+1:=by rw[Array.size_append];exact hs2
  wp_walk using (GB hl rfl (hz:=hs1) (_hz':=hz')),wpAny_loadPart' hl,wpAny_loadPart' hb
  exact⟨_,Iu,h⟩
def uz (K:Frag):V->List V->Hp->VK->Prop:=λx vs H Q=>∃l b xs zs,x=.ref l/\vs=[.ref b]/\H l=some (.lst xs)/\SqT K H b zs/\xs.length+zs.length<=sizeLine/\Q .non (upd H l (.lst (xs++zs)))
def oG {X:Cx}(K:Frag)(hK:X.K=K:=by rfl):MtR X "list.extend" (uz K):=by
 subst hK
 intro pins s σ H x vs v us Q I rx rv h
 obtain⟨l,b,xs,zs,rfl,rfl,hH,hB,hz,q⟩:=h
 cases rx
 obtain⟨u,rfl,ru⟩:=rv.one
 cases ru
 obtain⟨z,its,n,r,hl,e⟩:=I.lstM hH;obtain⟨its2,r2,⟨ob,e2,c2,n2,d2⟩,z2⟩:=I.tuple hB;have hl2:=r2.length;have hsz:its.toArray.size+its2.toArray.size<=sizeLine:=by rw[Ey,Ey];lia
 have hlong:¬(!its.toArray.isEmpty&&Builtin.List.listTooLong (its.toArray.size+its2.toArray.size))=true:=by
  rw[fP hsz,Fk];exact Ei
 obtain⟨oc,od,oo,os⟩:=ob
 dsimp only at c2 d2
 subst c2 d2
 refine Fi F.slot_list_extend ⟨_,e,Iu⟩ F.entry_list_extend (F.args_list_extend_2 _ _)
  (oO l its.toArray n b its2.toArray n2 od os hlong (by rw[Ey];lia) (by lia)) ⟨e,e2,?_⟩
 refine⟨.non,_,I.lset (its':=its++its2) hH e (by simp) (r.append r2) ?_,Iu,q⟩
 rw[EU];lia
def uS (l:Addr)(n:Nat):HO:=.ext λh=>∃(o:Obj)(es:Array (Int×Value))(ep:Nat)(t:SetTable),h.get? l=some o/\o.ExactSet/\o.data=.set es ep t/\t.fits es.size=true/\es.size=n/\n<4096
theorem tK {d:List Int}:∀{vs:List Value},o6 (d.map V.int) vs->ItemsAre (intKind prog w) d vs:=by
 induction d with
 | nil=>intro vs h;cases h;exact .nil
 | cons i d ih =>
  intro vs h
  cases h with
  | cons e r =>
   obtain⟨t,rfl⟩:=e;exact .cons (intKind_is _ _ _ _) (ih r)
def yr (K:Frag):List V->Hp->VK->Prop:=λxs H Q=>∃(p:Addr)(as:List Addr)(ds:List (List Int)),xs=[.ref p]/\SqL K H p (as.map V.ref)/\uJ K H as ds/\ds.length<=1000/\∀l,H l=none->Q (.ref l) (upd H l (uS l (met ds ds.length).length))
def nW {X:Cx}(K:Frag)(hc:X.calm=true)(hu:X.A.units+8<cLine)(hK:X.K=K:=by rfl):B1 X (.type "set") (yr K):=by
 subst hK
 intro pins s σ H xs us Q I r h
 obtain⟨p,as,ds,rfl,hq,hD,hle,q⟩:=h;obtain⟨u,rfl,rx⟩:=K5 r
 cases rx
 obtain⟨its,r',pl,hz⟩:=I.list hq;have hlen:=r'.length;have la:=d_ hD;rw[EV] at hlen;refine jc (I.ok.hd hc) hu pl.isList (ds:=ds) (by rw[Ey];lia) (λi v hv=>?_) (by rw[Ey];lia) λh' tk x kp=>?_
 ·rw[<- Gr] at hv
  have hi:i<its.length:=(s_.mp hv).1;have ea:as[i]? = some (as[i]'(by lia)):=Gb (by lia)
  obtain⟨v',hv',rv⟩:=r'.get (i:=i) (x:=.ref (as[i]'(by lia))) (by rw[ER,ea];rfl)
  have:v'=v:=by
   have:=hv'.symm.trans hv
   injection this
  subst this
  cases rv
  obtain⟨d,ed,hd⟩:=j7 hD i _ ea;obtain⟨ti,rt,⟨ob,e2,c2,n2,d2⟩,_⟩:=I.tuple hd;refine⟨_,Iu,ob,ti.toArray,n2,e2,c2,d2,?_⟩;rw[List.getD_eq_getElem?_getD,ed]
  simpa using tK rt
 ·obtain⟨o,es,ep,t,fs,ho,hx,hd,T,hes,hk,pm⟩:=x
  have hm:=(pE ds).2
  have hn:es.size=(met ds ds.length).length:=by
   have h1:=B_ List.length hes;have h2:=pm.length_eq;rw[A_,EV] at h1;rw[EV] at h2;lia
  exact⟨.ref s.heap.objs.size,_,I.laid (t':=tk) (o:=uS s.heap.objs.size (met ds ds.length).length) (λb o e=>kp b o (f_ e) e) (Eo _)
   ⟨⟨o,es,ep,t,ho,hx,hd,T.fits,hn,by lia⟩,⟨o,ho⟩,λh1 h2 y k=>by
    obtain⟨o,es,ep,t,ho,r⟩:=y
    exact⟨o,es,ep,t,k o ho,r⟩⟩,Iu,q _ (I.hok.fresh (Eo _))⟩
def yy:List V->Hp->VK->Prop:=λxs H Q=>∃(p:Addr)(n:Nat),xs=[.ref p]/\H p=some (uS p n)/\Q (.int n) H
def nP:B1 X (.builtin "len") yy:=by
 intro pins s σ H xs us Q I r h
 obtain⟨p,n,rfl,he,q⟩:=h;obtain⟨u,rfl,rx⟩:=K5 r
 cases rx
 obtain⟨o,es,ep,t,ho,hx,hd,hf,hn,h4⟩:=(show u6 X.prog X.w H s.heap p (uS p n) from I.hok p _ he).1;refine PySem.call_len_set ho hx hd hf (by lia) ?_
 rw[hn];exact⟨.int n,H,I.tok _,⟨_,Iu⟩,q⟩
theorem C0.units9 {k:Nat}(r:C0 k A):A.units+8<cLine:=by have:=r.un;lia
end L2
namespace L2
open PySem PySem.Spec PyProof.Rows PyProof
theorem uk (hx:∀x∈xs,∃c,x=.ref c)(h1:o6 xs us)(h2:o6 xs vs):us=vs:=by
 induction h1 generalizing vs with
 | nil=>cases h2;rfl
 | cons q1 q2 ih =>
  cases h2 with
  | cons w1 w2 =>
   obtain⟨c,rfl⟩:=hx _ (n_ ..)
   cases q1
   cases w1
   rw[ih (λx hx'=>hx x (o_ _ hx')) w2]
def hV {X:Cx}{A:Around}{pins:List (Addr×Obj)}{s:Shared}{σ:St}{H:Hp}{a b:Addr}{xs:List V}(I:Inv X pins σ H s)(ha:SqL X.K H a xs)(hb:SqL X.K H b xs)(hx:(∀x∈xs,∃c,x=.ref c)\/∃ns:List Int,xs=ns.map V.int)(hu:A.units+1<cLine):SeqAt.EqAt A s (.ref a) (.ref b) true:=by
 rcases hx with hx|⟨ns,rfl⟩
 ·by_cases hab:a=b
  ·subst hab
   exact Fb _
  ·obtain⟨us,r1,p1,_⟩:=I.list ha
   obtain⟨vs,r2,p2,_⟩:=I.list hb;have e:us=vs:=uk hx r1 r2;subst e
   have:=FL (A:=A) (e:=λ_=>true) p1.isList p2.isList rfl (by lia) (λj h1 h2=>Fb _)
   refine SeqAt.EqAt.of_refs hab ?_;rw[FF.mpr λ_ _=>rfl] at this;exact this
 ·have:=(wM xX).eq H (.ref a) (.ref b) ns ns ⟨a,_,Iu,ha,Y3 _⟩ ⟨b,_,Iu,hb,Y3 _⟩ A pins s σ _ _ I rfl rfl (by lia)
  rw[Fm rfl] at this;exact this
def xU (K:Frag):R2:=λx y H Q=>∃(a b a1 a2 b1 b2:Addr)(xs ys:List V),x=.ref a/\y=.ref b/\SqL K H a [.ref a1,.ref a2]/\SqL K H b [.ref b1,.ref b2]/\SqL K H a1 xs/\SqL K H b1 xs/\SqL K H a2 ys/\SqL K H b2 ys /\
 ((∀x∈xs,∃c,x=.ref c)\/∃ns:List Int,xs=ns.map V.int)/\((∀x∈ys,∃c,x=.ref c)\/∃ns:List Int,ys=ns.map V.int)/\Q (.bl false) H
theorem rm {X:Cx}(K:Frag)(hu:X.A.units+2<cLine)(h:X.K=K:=by rfl):OpR X (compareOp .NotEq) (xU K):=by
 subst h
 intro pins s σ H x y v u Q I rx ry h
 obtain⟨a,b,a1,a2,b1,b2,xs,ys,rfl,rfl,ha,hb,ha1,hb1,ha2,hb2,hx,hy,q⟩:=h
 cases rx
 cases ry
 obtain⟨us,r1,p1,_⟩:=I.list ha;obtain⟨vs,r2,p2,_⟩:=I.list hb
 cases r1 with
 | cons r10 r1 =>
 cases r1 with
 | cons r11 r1 =>
 cases r1
 cases r2 with
 | cons r20 r2 =>
 cases r2 with
 | cons r21 r2 =>
 cases r2
 cases r10
 cases r11
 cases r20
 cases r21
 refine SeqAt.RcNeAt.lists (e:=λ_=>true) p1.isList p2.isList rfl (by lia) (λj h1 h2=>?_) X.prog X.w X.xe _ ?_
 ·match j,h1,h2 with
  | 0,_,_=>exact hV I ha1 hb1 hx (by show X.A.units+1+1<cLine;lia)
  | 1,_,_=>exact hV I ha2 hb2 hy (by show X.A.units+1+1<cLine;lia)
 ·exact⟨.bl false,H,I,Iu,q⟩
end L2
namespace L2
open PySem PyProof.Rows
def fg:typeLookup (.type "list") "keys" = pure none:=am_miss_of_fast (by decide +kernel)
def ah:entryFor table "dict.update.loop" = some Builtin.«dict.update.loop»:=entryFor_of_tree (by kernel_rfl)
def N6:plainId "dict.update.loop" = true:=by decide +kernel
def wj {A:Around}{s:Shared}{k:Nat}{Q:Option Value->Shared->Prop}(hx:s.heap.get? a=some ⟨.type "list",none,.seq xs k,sl⟩)(hA:A.handled=none)
    (h:∀(h':Heap)(tk:Nat),(∀b o,s.heap.get? b=some o->h'.get? b=some o)->Q none { s with heap:=h',toks:=tk }):wpAny (model prog w) A (getAttr? (.ref a) "keys") Q E s:=by
  obtain⟨hp,g,d,tk,os⟩:=s;have hT:∀tk',(⟨hp,g,d,tk',os⟩:Shared).TypeIs (.ref a) "list":=λ_=>⟨_,hx,Iu⟩;have m1:=PySem.F.slot_list_getattribute.lookup;have m2:=PySem.F.slot_list_getattribute.bind (.ref a);have m3:=am_list_getattr_none;unfold getAttr? getAttrBy? getAttrBy
  repeat (any_goals (first
    | assumption
    | exact hT _
    | (with_reducible show wpAny _ _ (call (Value.builtin "list.__getattribute__") _ _) _ _ _
       refine Fi PySem.F.slot_list_getattribute (hT _) am_entry_list_getattribute (PySem.F.args_list_getattribute_2 _ _) (meets_getattribute_miss_list a xs k sl "keys" _ fg (by decide +kernel) (by show 4+100<=sizeLine;decide)) ⟨hx,hA,λh' tk' e ne=>?_⟩)
    | wp_step))
  obtain⟨t',u',he⟩:=ne.there;have hTe:∀tk',(⟨h',g,d,tk',os⟩:Shared).TypeIs (.ref e) "AttributeError":=λ_=>⟨_,he,Iu⟩;have m4:=sub_AttributeError
  show wpAny _ _ (getattributeRaised _ _ _ _ _ _ _) _ _ _
  unfold getattributeRaised
  repeat (any_goals (first|assumption|exact hTe _|wp_step))
  exact h _ _ ne.keeps
def aN (ks:Nat->Key)(us:Nat->Value)(j:Nat):List (Key×Value):=(List.range j).foldl (λacc i=>stored acc (ks i) (us i)) []
def aZ (ks:Nat->Key)(us:Nat->Value)(j:Nat):aN ks us (j+1)=stored (aN ks us j) (ks j) (us j):=by
 unfold aN;rw[Hz,foldl_append];rfl
def nN (kvs:List (Key×Value))(k:Key)(u:Value):(stored kvs k u).length<=kvs.length+1:=by
 unfold stored
 split
 ·rw[EV];lia
 ·rw[EU];exact Eo _
theorem cI (ks:Nat->Key)(us:Nat->Value):∀j,(aN ks us j).length<=j
 | 0=>Eo _
 | j+1=>by
  rw[aZ];exact k_ (nN _ _ _) (Nat.succ_le_succ (cI ks us j))
theorem lR {A:Around}{s:Shared}{R:Result->Shared->Prop}{h0:Heap}{vs:List Value}(ks:Nat->Key)(us:Nat->Value)(hh:A.handled=none)(hlI:l≠I)(hDI:D≠I)(fI:h0.get? I=none)(fD:h0.get? D=none)(hl:h0.IsList l vs.toArray)(hn:vs.length<=1000)
  (hv:∀i v,vs[i]? = some v->∃(p:Addr)(kv:Value),v=.ref p/\h0.IsTuple p #[kv,us i]/\(z8 prog w).is (ks i) kv=true)
  (hR:∀(h':Heap)(tk:Nat),h'.DictOf (z8 prog w) D (aN ks us vs.length)->(∀b o,h0.get? b=some o->h'.get? b=some o)->R (.ok (.ret .none)) { s with heap:=h',toks:=tk }) :
  ∀(r j:Nat)(h:Heap)(tk:Nat)(t:Tok),vs.length-j=r->j<=vs.length->(∀b o,h0.get? b=some o->h.get? b=some o)->h.DictOf (z8 prog w) D (aN ks us j)->h.IsListIter I l j ->
   codeAny (model prog w) A (.builtin "dict.update.loop" ⟨[.ref D,.ref I,.int j t,.none],[]⟩) R { s with heap:=h,toks:=tk }:=by
 have W:=FI (prog:=prog) (w:=w) (A:=A.in1) hh I l hlI vs.toArray;have sz:vs.toArray.size=vs.length:=Ey ..
 intro r
 induction r with
 | zero =>
  intro j h tk t hr hj kp dd it
  obtain rfl:j=vs.length:=by lia
  refine Gw ah ?_;rw[Gx N6 _]
  show wpAny _ A.in1 (pyNext (.ref I) >>= _) _ _ _
  have hl1:h.IsList l vs.toArray:=hl.at λo e=>kp _ _ e;refine w_ (W.done _ _ _ ⟨by rw[sz];exact it,hl1⟩ λh1 tk1 k1=>?_)
  have kp1:∀b o,h0.get? b=some o->h1.get? b=some o:=λb o e=>k1 b o (by
   rw[Fx]
   rintro rfl
   rw[fI] at e
   cases e) (kp b o e)
  have dd1:h1.DictOf (z8 prog w) D (aN ks us vs.length):=dd.at λo e=>k1 D o (by rw[Fx];exact hDI) e
  show wpAny _ A.in1 (Builtin.Dict.addKeywords D [] >>= λ_=>ret Value.none) _ _ _
  exact w_ (u_ (u_ (hR h1 tk1 dd1 kp1)))
 | succ r ih =>
  intro j h tk t hr hj kp dd it
  have hlt:j<vs.length:=by lia
  refine Gw ah ?_;rw[Gx N6 _]
  show wpAny _ A.in1 (pyNext (.ref I) >>= _) _ _ _
  have hl1:h.IsList l vs.toArray:=hl.at λo e=>kp _ _ e;refine w_ (W.item j _ _ _ (by rw[sz];exact hlt) ⟨it,hl1⟩ λv h1 tk1 pv st1 k1=>?_)
  have ev:vs[j]? = some v:=by simpa using pv
  have kp1:∀b o,h0.get? b=some o->h1.get? b=some o:=λb o e=>k1 b o (by
   rw[Fx]
   rintro rfl
   rw[fI] at e
   cases e) (kp b o e)
  have dd1:h1.DictOf (z8 prog w) D (aN ks us j):=dd.at λo e=>k1 D o (by rw[Fx];exact hDI) e
  obtain⟨p,kv,rfl,tp,hk⟩:=hv j v ev;have tp1:h1.IsTuple p #[kv,us j]:=tp.at λo e=>kp1 _ _ e;obtain⟨op,gp,cp,np,dp⟩:=id tp1
  show wpAny _ A.in1 (holding [Value.ref p] _ >>= _) _ _ _
  refine w_ (D_ (w_ (H_ ?_)));unfold Builtin.Dict.pairItems;refine w_ (Gu (show Shared.TypeIs _ (.ref p) "tuple" from⟨op,gp,cp⟩) ?_)
  simp only[show(Value.type "tuple" == Value.type "list" || Value.type "tuple" == Value.type "tuple")=true from by decide,F_]
  refine w_ (Gn gp dp (u_ ?_))
  show wpAny _ A.in1 (holding [kv,us j] (dictSet D kv (us j))) _ _ _
  refine D_ ?_;unfold dictSet;refine D_ (w_ ((z8 prog w).pyHash hk ?_));have fl:=cI ks us j;refine wpAny_dictSetHashed_pairs (hsz:=l_ (k9 (by lia))) hk dd1 λh2 dd2 sb=>?_
  rw[<- aZ] at dd2
  have kp2:∀b o,h0.get? b=some o->h2.get? b=some o:=λb o e=>by
   have:b≠D:=by
    rintro rfl
    rw[fD] at e
    cases e
   rw[sb.2 b this];exact kp1 b o e
  refine u_ ⟨Gy N6 _,?_⟩
  have:=ih (j+1) h2 (tk1+1) 0 (by lia) (by lia) kp2 dd2 (st1.1.at λo e=>by rw[sb.2 I (Im hDI)];exact e)
  rw[show rawInt ((j:Int)+1)=Value.int ((j+1:Nat):Int) 0 from by push_cast;rfl]
  exact this
def mM {A:Around}{s:Shared}{vs:List Value}{k:Nat}{Q:Value->Shared->Prop}(ks:Nat->Key)(us:Nat->Value)(hh:A.handled=none)(hx:s.heap.get? l=some ⟨.type "list",none,.seq vs.toArray k,sl⟩)(hn:vs.length<=1000)
  (hv:∀i v,vs[i]? = some v->∃(p:Addr)(kv:Value),v=.ref p/\s.heap.IsTuple p #[kv,us i]/\(z8 prog w).is (ks i) kv=true)
  (h:∀(h':Heap)(tk:Nat),h'.DictOf (z8 prog w) s.heap.objs.size (aN ks us vs.length)->(∀b o,s.heap.get? b=some o->h'.get? b=some o)->Q (.ref s.heap.objs.size) { s with heap:=h',toks:=tk }) :
  wpAny (model prog w) A (call (.type "dict") [.ref l]) Q E s:=by
 refine callType_codes (Q₁:=λobj s₁=>obj=.ref s.heap.objs.size/\s₁ = { s with heap:=s.heap.push { cls:=.type "dict",data:=.dict #[] } }) F.kt_called_dict (F.kt_typeCall_dict_1 _) F.entry_dict_init (kt_code_dict_new _ ⟨Iu,Iu⟩) ?_
 rintro obj s₁ ⟨rfl,rfl⟩
 have hnew:(s.heap.push { cls:=.type "dict",data:=.dict #[] }).DictOf (z8 prog w) s.heap.objs.size []:=Heap.DictOf.new s.heap;have hx1:(s.heap.push { cls:=.type "dict",data:=.dict #[] }).get? l=some ⟨.type "list",none,.seq vs.toArray k,sl⟩:=Em _ hx;refine⟨hnew.typeIs,F.args_dict_init_2 _ _,?_⟩;unfold Builtin.«dict.__init__»;refine w_ ?_;unfold Builtin.Dict.selfAndRest;refine w_ (wpAny_notOrdered_dict hnew.typeIs ?_)
 show wpAny _ _ (pure (s.heap.objs.size,[Value.ref l])) _ _ _
 refine u_ ?_
 show wpAny _ _ (Builtin.Dict.updateFrom "dict.__init__" s.heap.objs.size (.ref l) [] .none) _ _ _
 unfold Builtin.Dict.updateFrom;refine w_ (Gu (show Shared.TypeIs _ (.ref l) "list" from⟨_,hx1,Iu⟩) ?_);rw[Ik (by decide)]
 refine w_ (wj hx1 hh λh2 tk2 kp2=>?_)
 simp only[Option.isNone_none,F_]
 refine w_ (Ge ?_);have hx2:=kp2 _ _ hx1;have hl2:h2.IsList l vs.toArray:=⟨_,hx2,Iu,_,Iu⟩;refine w_ (El hl2 ?_);have kS:∀b o,s.heap.get? b=some o->h2.get? b=some o:=λb o e=>kp2 b o (Em _ e)
 have fI:s.heap.get? h2.objs.size=none:=by
  cases q:s.heap.get? h2.objs.size with
  | none=>rfl
  | some o=>exact absurd (f_ (kS _ _ q)) (g_ _)
 obtain⟨oD,_,_,gD,_⟩:=id hnew;refine u_ ⟨Gy N6 _,?_⟩
 exact lR (s:=s) (A:=A.in1) (h0:=s.heap) (l:=l) (I:=h2.objs.size) (D:=s.heap.objs.size) ks us hh (h_ (f_ hx2)) (h_ (f_ (kp2 _ _ gD))) fI (on (Eo _)) ⟨_,hx,Iu,_,Iu⟩ hn hv
  (λh' tk dd kp=>⟨Iu,h h' tk dd kp⟩) vs.length 0 _ tk2 0 rfl (Et _) (λb o e=>Em _ (kS b o e)) (hnew.at λo e=>Em _ (kp2 _ _ e)) ⟨_,En _ rfl,Iu,Iu⟩
def X8:List (Key×V)->List (Key×V):=λps=>ps.foldl (λacc p=>aH acc p.1 p.2) []
def xw:List V->Hp->VK->Prop:=λxs H Q=>∃(l:Addr)(as:List Addr)(ps:List (Key×V)),xs=[.ref l]/\H l=some (.lst (as.map V.ref))/\Paired (λa (p:Key×V)=>H a=some (.tup [kV p.1,p.2])) as ps/\ps.length<=1000 /\
 ∀d,H d=none->Q (.ref d) (upd H d (.dK (X8 ps)))
def eC (ps:List (Key×V))(p:Key×V):X8 (ps++[p])=aH (X8 ps) p.1 p.2:=by
 unfold X8;rw[foldl_append];rfl
theorem fJ (ok:HOk P w H h):∀{as:List Addr}{ps:List (Key×V)},Paired (λa (p:Key×V)=>H a=some (.tup [kV p.1,p.2])) as ps ->
  ∃uvs:List (Value×Value),uvs.length=ps.length/\∀(i:Nat) a p,as[i]? = some a->ps[i]? = some p->∃uv,uvs[i]? = some uv/\u9 (kV p.1) uv.1/\u9 p.2 uv.2/\h.IsTuple a #[uv.1,uv.2]
 | _,_,.nil=>⟨[],Iu,λi a p h1=>by simp at h1⟩
 | _,_,.cons (a:=a0) (b:=p0) e t=>by
  obtain⟨uvs,l,q⟩:=fJ ok t;obtain⟨_,its,r,tp⟩:=(show u6 P w H h a0 (.tup [kV p0.1,p0.2]) from ok _ _ e);obtain⟨u,v,rfl,r1,r2⟩:=cX r;refine⟨(u,v)::uvs,by simp[l],λi a p h1 h2=>?_⟩
  cases i with
  | zero=>cases h1;cases h2;exact⟨_,Iu,r1,r2,tp⟩
  | succ i=>exact q i a p (by simpa using h1) (by simpa using h2)
theorem eZ:∀{as:List Addr}{us:List Value},o6 (as.map V.ref) us->us=as.map Value.ref
 | [],_,.nil=>rfl
 | _::_,_,.cons r t=>by rw[eZ t];cases r;rfl
def nS {X:Cx}(hc:X.calm=true):B1 X (.type "dict") xw:=by
 intro pins s σ H xs us Q I r h
 obtain⟨l,as,ps,rfl,hH,hp,h1000,q⟩:=h;obtain⟨u,rfl,rx⟩:=K5 r
 cases rx
 obtain⟨z,its,n,r,hl,e⟩:=I.lstM hH
 cases eZ r
 have la:=d_ hp;obtain⟨uvs,lu,hu⟩:=fJ I.hok hp;refine mM (λi=>(ps.getD i (.inl 0,.non)).1) (λi=>(uvs.getD i (.none,.none)).2) (I.ok.hd hc) e (by rw[EV];lia) (λi v hv=>?_) λh' tk dd kp=>?_
 ·rw[ER] at hv
  obtain⟨a,ha,rfl⟩:=Hg.mp hv;have hi:=(s_.mp ha).1;have ep:ps[i]? = some (ps[i]'(by lia)):=Gb _
  obtain⟨uv,e1,e2,e3,e4⟩:=hu i a _ ha ep;refine⟨a,uv.1,Iu,?_,?_⟩
  ·rw[show uvs.getD i (.none,.none)=uv by rw[List.getD,e1];rfl];exact e4
  ·rw[show ps.getD i (.inl 0,.non)=ps[i]'(by lia) by rw[List.getD,ep];rfl];exact gj e2
 ·have kv:∀j,j<=ps.length->KV (X8 (ps.take j)) (aN (λi=>(ps.getD i (.inl 0,.non)).1) (λi=>(uvs.getD i (.none,.none)).2) j):=by
   intro j
   induction j with
   | zero=>intro _;exact .nil
   | succ j ih =>
    intro hj
    have ep:ps[j]? = some (ps[j]'(by lia)):=Gb _
    have ea:as[j]? = some (as[j]'(by lia)):=Gb _
    obtain⟨uv,e1,e2,e3,e4⟩:=hu j _ _ ea ep;rw[aZ,HA,ep]
    show KV (X8 (ps.take j++[ps[j]'(by lia)])) _
    rw[eC,show ps.getD j (.inl 0,.non)=ps[j]'(by lia) by rw[List.getD,ep];rfl,show uvs.getD j (.none,.none)=uv by rw[List.getD,e1];rfl]
    exact(ih (by lia)).put _ e3
  have kv:=kv ps.length (Eo _);rw[HB] at kv;rw[EV,la] at dd;have fl:=cI (λi=>(ps.getD i (.inl 0,.non)).1) (λi=>(uvs.getD i (.none,.none)).2) ps.length
  have I2:Inv X pins σ (upd H s.heap.objs.size (.dK (X8 ps))) { s with heap:=h',toks:=tk } :=
   I.laid kp (Eo _) (sF (l_ (k9 (by rw[kv.length];lia))) (c_.mpr (Im (h_ I.big))) kv dd)
  exact⟨.ref s.heap.objs.size,_,I2,Iu,q _ (I.hok.fresh (Eo _))⟩
end L2
namespace L2
open PySem PySem.Spec PyProof.Rows
def yK (K:Frag):List V->Hp->VK->Prop:=λxs H Q=>∃(l:Addr)(ns:List Int),xs=[.ref l]/\SqL K H l (ns.map V.int)/\ns≠[]/\∀M,M∈ns->(∀a∈ns,M<=a)->Q (.int M) H
def yi (K:Frag):List V->Hp->VK->Prop:=λxs H Q=>∃(l:Addr)(ns:List Int),xs=[.ref l]/\SqL K H l (ns.map V.int)/\ns≠[]/\∀M,M∈ns->(∀a∈ns,a<=M)->Q (.int M) H
def eD {X:Cx}(K:Frag)(hc:X.calm=true)(h:X.K=K:=by rfl):B1 X (.builtin "min") (yK K):=by
 subst h
 intro pins s σ H xs us Q I r h
 obtain⟨l,ns,rfl,hq,hne,q⟩:=h;obtain⟨u,rfl,rx⟩:=K5 r
 cases rx
 obtain⟨its,r',pl,hz⟩:=I.list hq;have hi:IntsAre its ns:=J3 r';obtain⟨xs,e⟩:=hi.allInts.items;have hns:ns=xs.toList.map (·.1):=by rw[<- hi.numsOf,<- nums_intItems,<- e]
 have hsz:0<xs.size:=by
  have h3:=List.length_pos_iff.mpr hne;rw[hns,EV,A_] at h3;exact h3
 have hl:=pl.isList;rw[e] at hl;refine min_intList (I.ok.hd hc) hl hsz λv h' tk hv hk=>?_;obtain⟨t,rfl⟩:=intItems_at hv;obtain⟨h1,h2⟩:=argBest_lt (numAt xs) (xs.size-1);refine⟨.int _,H,I.kept hk,⟨t,Iu⟩,q _ ?_ λa ha=>?_⟩
 ·rw[hns,numAt_eq];exact getD_mem (by rw[EV,A_];lia)
 ·rw[hns] at ha
  obtain⟨j,hj,rfl⟩:=mem_getD ha;rw[EV,A_] at hj;rw[<- numAt_eq];exact h2 j (by lia)
def eT {X:Cx}(K:Frag)(hc:X.calm=true)(h:X.K=K:=by rfl):B1 X (.builtin "max") (yi K):=by
 subst h
 intro pins s σ H xs us Q I r h
 obtain⟨l,ns,rfl,hq,hne,q⟩:=h;obtain⟨u,rfl,rx⟩:=K5 r
 cases rx
 obtain⟨its,r',pl,hz⟩:=I.list hq;have hi:IntsAre its ns:=J3 r';obtain⟨xs,e⟩:=hi.allInts.items;have hns:ns=xs.toList.map (·.1):=by rw[<- hi.numsOf,<- nums_intItems,<- e]
 have hsz:0<xs.size:=by
  have h3:=List.length_pos_iff.mpr hne;rw[hns,EV,A_] at h3;exact h3
 have hl:=pl.isList;rw[e] at hl;refine max_intList (I.ok.hd hc) hl hsz λv h' tk hv hk=>?_;obtain⟨t,rfl⟩:=intItems_at hv;obtain⟨h1,h2⟩:=argBest_gt (numAt xs) (xs.size-1);refine⟨.int _,H,I.kept hk,⟨t,Iu⟩,q _ ?_ λa ha=>?_⟩
 ·rw[hns,numAt_eq];exact getD_mem (by rw[EV,A_];lia)
 ·rw[hns] at ha
  obtain⟨j,hj,rfl⟩:=mem_getD ha;rw[EV,A_] at hj;rw[<- numAt_eq];exact h2 j (by lia)
end L2
open PySem
namespace L2
end L2
namespace PySem.W.Fast
def tw16049647828134963156:=Nat
def tw7819292933043600200:=Nat
def tw13518379465250414863:=Nat
def tw14958087395522278399:=Nat
def tw464066850766342670:=Nat
def tw5851138179037206157:=Nat
def tw5689953357317446329:=Nat
def tw1604473434346782815:=Nat
def tw16371624363243014027:=Nat
def tw100539773575465404:=Nat
def tw16642748015831673935:=Nat
def tw12470735031146830537:=Nat
def tw14651101926540345073:=Nat
def tw18381339197097744194:=Nat
def tw11219341940031446198:=Nat
def tw14872097826043859207:=Nat
def tw1819498753485620227:=Nat
def tw5282212128344433758:=Nat
def tw7565282044468558348:=Nat
def tw10698515277298261121:=Nat
def tw5385237382628637657:=Nat
def tw13171942580817390518:=Nat
def tw10571253180618505000:=Nat
def tw6368757761500080694:=Nat
def tw6137863534229869170:=Nat
def tw12815468335976516979:=Nat
def tw15675430090569708780:=Nat
def tw17351418672298417604:=Nat
def tw8844519888740060452:=Nat
def tw6198425158059009470:=Nat
def tw48614008924839224:=Nat
def tw17839293939934738638:=Nat
def tw321616079091408805:=Nat
def tw1025017442848356455:=Nat
def tw13277006721456394264:=Nat
def tw15942086502578689572:=Nat
def tw8010424477503200848:=Nat
def tw9008074098173848795:=Nat
def tw12595252140939775088:=Nat
def tw5334354246665209211:=Nat
def tw3116149990185050825:=Nat
def tw17355871339784560292:=Nat
def tw6896538141247811216:=Nat
def tw193098774816912337:=Nat
def tw947770283601050333:=Nat
def tw8790599606148858768:=Nat
def tw14453089173284962828:=Nat
def tw15538798930999311427:=Nat
def tw567360443655842198:=Nat
def tw6987494244518053455:=Nat
def tw4434089170546966771:=Nat
def tw17019294436406665912:=Nat
def tw9763332924698987086:=Nat
def tw5861236869628044489:=Nat
def tw3096112807287034951:=Nat
def tw6469951760209220564:=Nat
def tw972607177666759262:=Nat
def tw9687493279395561390:=Nat
def tw17252224461298853346:=Nat
def tw13943358531791725317:=Nat
def tw6245906049812352133:=Nat
def tw6716898928097614205:=Nat
def tw1858800948466873740:=Nat
def tw10032315539112122823:=Nat
def tw6051262105954459110:=Nat
def tw1721391106767337198:=Nat
def tw6360526214513554315:=Nat
def tw9893905830896935856:=Nat
def tw8711913800446169271:=Nat
def tw14117565939653823043:=Nat
def tw3735820048941505191:=Nat
def tw4773420414748756094:=Nat
def tw602331954723655222:=Nat
def tw10603637941810352511:=Nat
def tw16793626830769007982:=Nat
def tw5963642550608879527:=Nat
def tw7098171330616627633:=Nat
def tw3889926776552993439:=Nat
def tw2233689043897062376:=Nat
def tw18067551623695893621:=Nat
def tw7876756942591155967:=Nat
def tw18433949631794168162:=Nat
def tw14220886590412601088:=Nat
def tw3924326596595694138:=Nat
def tw16523793653154461518:=Nat
def tw12446992824814764656:=Nat
def tw13590120596383284660:=Nat
def tw2014145138685195733:=Nat
def tw11181449794202214850:=Nat
def tw11649783456983015303:=Nat
def tw11996704093290047976:=Nat
def tw3381369166448190635:=Nat
def tw548586421432677482:=Nat
def tw11068522977248380037:=Nat
def tw4873722322583590435:=Nat
def tw17147060118962703247:=Nat
def tw17821968007294700699:=Nat
def tw11236477736565583587:=Nat
def tw8647736730750492011:=Nat
def tw3581881952226944387:=Nat
def tw14101801853624697551:=Nat
def tw16403524463078488670:=Nat
def tw16531905385178566575:=Nat
def tw12630539699319794199:=Nat
def tw8284475210632855247:=Nat
def tw2173721188112615993:=Nat
def tw316172803295047281:=Nat
def tw16783097396125253350:=Nat
def tw11096841192686445946:=Nat
def tw16832058882978393035:=Nat
def tw6597113858106769405:=Nat
def tw7704801950114582610:=Nat
def tw635525418000268213:=Nat
def tw11936234008508822188:=Nat
def tw629941770670639350:=Nat
def tw14580188341194535049:=Nat
def tw15863740300380799746:=Nat
def tw8870909277875608678:=Nat
def tw4157704420786630634:=Nat
def tw14635187023313860347:=Nat
def tw4885210752916159426:=Nat
def tw764342157931405035:=Nat
def tw16551952603540568765:=Nat
def tw1954459055662888305:=Nat
def tw977030388409230173:=Nat
def tw3735929191166635779:=Nat
def tw891060101553830532:=Nat
def tw16129259499028440171:=Nat
def tw3880610841600706926:=Nat
def tw12927133958370808186:=Nat
def tw13021931254044896464:=Nat
def tw3049338539196966489:=Nat
def tw2249225157006525833:=Nat
def tw9104982108542912401:=Nat
def tw3327382092790641805:=Nat
def tw15912384522413086316:=Nat
def tw8383607576634174175:=Nat
def tw7717697108024658413:=Nat
def tw3220309344355441614:=Nat
def tw16356443747748313158:=Nat
def tw9096066613443014360:=Nat
def tw13274930280232523923:=Nat
def tw11495381151983266190:=Nat
def tw802628552286323404:=Nat
def tw6284620566307271114:=Nat
def tw5410141311712477036:=Nat
def tw11177317439682171781:=Nat
def tw8508566365405417041:=Nat
def tw17018582476112396739:=Nat
def tw9090129112681699688:=Nat
def tw8263520433589351356:=Nat
def tw5885092383499314251:=Nat
def tw754102615257752805:=Nat
def tw707353379584644124:=Nat
def tw6241365594996994580:=Nat
def tw1037338654529102246:=Nat
def tw16726918237001476039:=Nat
def tw9667655826907781871:=Nat
def tw2665085336314292898:=Nat
def tw8467378913587995985:=Nat
def tw5261021920181287288:=Nat
def tw4817102767382851850:=Nat
def tw15180780246633022649:=Nat
def tw16824544954017842516:=Nat
def tw709969375038581429:=Nat
def tw13495390770695382699:=Nat
def tw878675499577596998:=Nat
def tw2594073745472815949:=Nat
def tw6642213345616742735:=Nat
def tw2319214180475390760:=Nat
def tw10835924574480246091:=Nat
def tw8863684963705318133:=Nat
def tw14179813063805932401:=Nat
def tw15326647849770803163:=Nat
def tw3495388361978715932:=Nat
def tw3998838522164966194:=Nat
def tw9966456795535732344:=Nat
def tw17703676003359884876:=Nat
def tw16454263004597906272:=Nat
def tw12701421155062436920:=Nat
def tw11213295861408005001:=Nat
def tw8977929814979614638:=Nat
def tw3483671528708983942:=Nat
def tw229303974260638568:=Nat
def tw9296512772807900540:=Nat
def tw1665301307096445962:=Nat
def tw8598064423019188905:=Nat
def tw14708023686155131293:=Nat
def tw12664774259816017387:=Nat
def tw9012408734014330155:=Nat
def tw1958283481252711661:=Nat
def tw1647057317974583032:=Nat
def tw3127657496098087558:=Nat
def tw14475527126101233844:=Nat
def tw15603264931492320628:=Nat
def tw6114755265789833091:=Nat
def tw3135099285835595745:=Nat
def tw6496687622979130582:=Nat
def tw5608507768103470607:=Nat
def tw14808201565050014807:=Nat
def tw14702213740085070808:=Nat
def tw1492324617039786219:=Nat
def tw17868281625415696038:=Nat
def tw3370432319473965813:=Nat
def tw17768200348210998537:=Nat
def tw3453926826979064857:=Nat
def tw10427043559384387811:=Nat
def tw14977016319701534388:=Nat
def tw14382982062816726573:=Nat
def tw14196798736044874813:=Nat
def tw12655890354621317144:=Nat
def tw13244282272086900609:=Nat
def tw13579753894043954419:=Nat
def tw6899902655080033947:=Nat
def tw3427477031244502934:=Nat
def tw16795963198978178685:=Nat
def tw2676329271879849446:=Nat
def tw870310148635398389:=Nat
def tw14425986138184852437:=Nat
def tw5859047091662805625:=Nat
def tw4046956176226798650:=Nat
def tw1549980112659285934:=Nat
def tw17111862135597179953:=Nat
def tw17693971423847475697:=Nat
def tw5033078394990281226:=Nat
def tw740251655723859005:=Nat
def tw10738787108751456557:=Nat
def tw8403804698220288535:=Nat
def tw5151569469401119554:=Nat
def tw16548186671398441378:=Nat
def tw11476669762323417964:=Nat
def tw1310158596282228412:=Nat
def tw581316481988681401:=Nat
def tw5872067105651137151:=Nat
def tw10329429439012756296:=Nat
def tw11837337961401922689:=Nat
def tw16720692571801352810:=Nat
def tw8100180534935457247:=Nat
def tw14966332771512703214:=Nat
def tw2119354499145514848:=Nat
def tw12874695791008720522:=Nat
def tw10112240200989865821:=Nat
def tw9232140048778803597:=Nat
def tw14543736085563327877:=Nat
def tw5861753287757542600:=Nat
def tw14308731641705601489:=Nat
def tw17462668934686724274:=Nat
def tw2002641940911019322:=Nat
def tw15408320831613924344:=Nat
def tw1847249699560077283:=Nat
def tw456759006885239771:=Nat
def tw16469430047136606848:=Nat
def tw16366096383048978907:=Nat
def tw7040500247790420839:=Nat
def tw8942308355478147561:=Nat
def tw16735715560889993814:=Nat
def tw14874275042327599296:=Nat
def tw11150326996507950780:=Nat
def tw5727429805631202921:=Nat
def tw11176831860718519193:=Nat
def tw2519590287634002795:=Nat
def tw13551092013324994860:=Nat
def tw3664157110122490769:=Nat
def tw7852898879058136531:=Nat
def tw3232774586205398749:=Nat
def tw16658394942250737194:=Nat
def tw11145441867547487297:=Nat
def tw6903304863759923605:=Nat
def tw10846065403847061652:=Nat
def tw7302593145563932801:=Nat
def tw17421835973856414611:=Nat
def tw6752962018286279204:=Nat
def tw13791091097211967363:=Nat
def tw3431902331488110615:=Nat
def tw13462927142415696692:=Nat
def tw16637639220786323325:=Nat
def tw8411153401056915627:=Nat
def tw11793901769349491439:=Nat
def tw13678088251994700908:=Nat
def tw2370976578220468215:=Nat
def tw17109484153570689976:=Nat
def tw4473547552151990652:=Nat
def tw1417030330573295339:=Nat
def tw11285806170548439357:=Nat
def tw9954537236848356785:=Nat
def tw18353393522718908521:=Nat
def tw6605199609846858149:=Nat
def tw9806446969485047130:=Nat
def tw6095461931527736255:=Nat
def tw18267309628160028053:=Nat
def tw6451140995083465466:=Nat
def tw8486377632605160936:=Nat
def tw17512044202092273807:=Nat
def tw6501889024916338724:=Nat
def tw14427471945735183503:=Nat
def tw10233504758450734383:=Nat
def tw14165203894749212125:=Nat
def tw5454344101174798907:=Nat
def tw9013165048934624468:=Nat
def tw15598809507078866702:=Nat
def tw15275898994982387813:=Nat
def tw3685407376865301054:=Nat
def tw16955123166006944863:=Nat
def tw8752575627465191039:=Nat
def tw5119814121783901080:=Nat
def tw4790744504768461264:=Nat
def tw2390397891930266952:=Nat
def tw12381511091572228710:=Nat
def tw8361190542308035004:=Nat
def tw6549976613456520356:=Nat
def tw6766798871209050252:=Nat
def tw9203605272436202288:=Nat
def tw207710236187374233:=Nat
def tw10040934394984804037:=Nat
def tw12764819789063639411:=Nat
def tw2146559892159002482:=Nat
def tw9433328377631098346:=Nat
def tw4138537345111689912:=Nat
def tw12054638750120096086:=Nat
def tw16816036797808389576:=Nat
def tw12743042103934763201:=Nat
def tw14418353781847263557:=Nat
def tw12093248926212912762:=Nat
def tw12630392571307059992:=Nat
def tw15149414924547497372:=Nat
def tw1668654958118385732:=Nat
def tw470938641641600010:=Nat
def tw17838532952728025886:=Nat
def tw6558073749841991965:=Nat
def tw15622447679646868739:=Nat
def tw12577440871587299335:=Nat
def tw18035239710378492640:=Nat
def tw12106299485258333192:=Nat
def tw14695467454101210035:=Nat
def tw6127150674546571917:=Nat
def tw7930734811215065276:=Nat
def tw12680670207989113601:=Nat
def tw5908240391140158041:=Nat
def tw2735340969636563272:=Nat
def tw11084362322550810514:=Nat
def tw17820188349304430339:=Nat
def tw13158714764363657988:=Nat
def tw6760196862087198437:=Nat
def tw15468815898574591338:=Nat
def tw6888065358803142302:=Nat
def tw974011381644761654:=Nat
def tw374351796467732284:=Nat
def tw4581327575673865847:=Nat
def tw9047052136386400156:=Nat
def tw11710225710554174590:=Nat
def tw10850728435041809186:=Nat
def tw10227980467830712493:=Nat
def tw14304820347558059428:=Nat
def tw15634469525830597114:=Nat
def tw5223446719806499968:=Nat
def tw2652362042626629175:=Nat
def tw10742830460725683195:=Nat
def tw17364500901254125116:=Nat
def tw1566296026618953672:=Nat
def tw176808435544898946:=Nat
def tw18309405282050217530:=Nat
def tw15636562232156407485:=Nat
def tw16775079210634655232:=Nat
def tw9087526679715238001:=Nat
def tw10576663984360617821:=Nat
def tw5034306743238119389:=Nat
def tw2490316904069070060:=Nat
def tw8329025768803288693:=Nat
def tw12717675306497256864:=Nat
def tw17706752689893648305:=Nat
def tw9224329765500793531:=Nat
def tw1491949201277956293:=Nat
def tw11961929927399734345:=Nat
def tw14072624547569148860:=Nat
def tw14735449591614781555:=Nat
def tw2671625845327568808:=Nat
def tw15193049251320397860:=Nat
def tw6711498272610744229:=Nat
def tw14441598074940765290:=Nat
def tw9132605903294612790:=Nat
def tw11097007805931376870:=Nat
def tw15986332987223395846:=Nat
def tw9995305262752194961:=Nat
end PySem.W.Fast
namespace My
open PySem L2 PyProof.Rows
abbrev Iq (a:Addr):Option V:=some (.ref a)
abbrev Ir (i:Int):Option V:=some (.int i)
def Iv:=@SqL.of
def Iw:=@SqT.of
theorem Ix {α:Sort u}{a:α}{q:Prop}:a=a\/q:=.inl rfl
theorem Iy {α:Sort u}{a:α}{q:Prop}:q\/a=a:=.inr rfl
theorem mkC (N:List Str)(o:Scope){s:Scope}(a:s.kind=.function:=by rfl)(b:∀y∈s.names,y.2=.cell->s.names.lookup y.1=some .cell:=by decide +kernel)(c:∀y∈s.names,y.2=.local->s.names.lookup y.1=some .local:=by decide +kernel)(d:∀y∈s.names,y.2=.free->o.names.lookup y.1=some .cell\/o.names.lookup y.1=some .free:=by decide +kernel)(e:∀p∈f,N[p.1]? =some p.2/\s.names.lookup p.2=some .free:=by decide +kernel):CompScope N o s w f:=⟨a,b,c,d,e⟩
variable {K:Frag}{mg:Str->Option Value}{zI zL zJ zM zN zR zT zH zO:Addr}
abbrev p_1:List Str:=["hall","calls","caller","ends","shut"]
abbrev p_2:List Str:=["_law_hall_here","_law_held_here","_law_places","_law_shut","_law_calls_here","_law_ready","_law_a","_law_b","_law_best_here","_law_moves","_law_caller","_law_mine"]
abbrev p_3:List Str:=["_law_hall_here","_law_caller","_law_ends_here","_law_k"]
abbrev p_4:List Str:=["_law_hall_here","_law_calls_here","_law_asked_here","_law_due_here","_law_caller","_law_ends_here","_law_shut","_law_call","_law_refused","_law_found_here","_law_mine","_law_some","_law_e","_law_new","_law_behind"]
abbrev p_5:List Str:=["_law_hall_here","_law_calls_here","_law_caller","_law_ends_here","_law_shut","_law_held_here","_law_k","_law_need","_law_racks"]
abbrev p_6:List Str:=["_law_hall_here","_law_taken","_law_number_here","_law_caller","_law_ends_here","_law_step","_law_k","_law_need","_law_one"]
abbrev p_7:List Str:=["_law_found_here","_law_due_here"]
abbrev p_8:List Str:=["_law_hall_here","_law_calls_here","_law_found_here","_law_caller","_law_ends_here"]
abbrev p_9:List Str:=["_law_hall_here","_law_calls_here"]
abbrev p_10:List Str:=["_law_hall_here","_law_held_here","_law_places","_law_shut","_law_calls_here"]
abbrev p_11:List Str:=["_law_hall_here","_law_calls_here","_law_caller","_law_ends_here","_law_shut"]
abbrev p_12:List Str:=["_law_hall_here","_law_calls_here","_law_asked_here","_law_e"]
abbrev p_13:List Str:=["hall","calls","rack","a","b"]
abbrev p_14:List Str:=["_law_hall_here","_law_held_here","_law_rack","_law_a","_law_b","_law_far"]
abbrev p_15:List Str:=["_law_hall_here","_law_calls_here","_law_caller","_law_ends_here","_law_due_here","_law_k","_law_need","_law_held_here","_law_call","_law_lines_here"]
abbrev p_16:List Str:=["_law_hall_here","_law_calls_here","_law_asked_here","_law_due_here"]
abbrev p_17:List Str:=["_law_hall_here","_law_calls_here","_law_caller","_law_ends_here"]
abbrev p_18:List Str:=["_law_hall_here","_law_held_here","_law_places","_law_a","_law_b"]
abbrev p_19:List Str:=["_law_hall_here","_law_held_here","_law_rack","_law_a","_law_b","_law_far","_law_found_here","_law_line","_law_call","_law_racks"]
abbrev p_20:List Str:=["_law_hall_here","_law_calls_here","_law_found_here","_law_caller","_law_ends_here","_law_left","_law_held_here","_law_need"]
abbrev p_21:List Str:=["_law_hall_here","_law_calls_here","_law_number_here"]
abbrev p_22:List Str:=["_law_hall_here","_law_taken","_law_number_here"]
abbrev p_23:List Str:=["hall","calls","k"]
abbrev p_24:List Str:=["hall","ends"]
abbrev p_25:List Str:=["hall","calls","caller","ends"]
abbrev p_26:List Str:=["hall","calls"]
abbrev p_27:List Str:=["hall","calls","side","rack","a","b"]
abbrev p_28:List Str:=["hall","call","start","goals"]
abbrev p_29:List Str:=["_law_hall_here","_law_number_here"]
abbrev p_30:List Str:=["hall","calls","caller","ends","shut","held"]
abbrev p_31:List Str:=["hall","caller"]
abbrev p_32:List Str:=["thing","least","most"]
abbrev p_33:List Str:=["self","holds","least"]
abbrev p_34:List Str:=["_law_hall_here","_law_kept","_law_shut"]
abbrev p_35:List Str:=["hall","thing"]
abbrev p_36:List Str:=["_law_calls_here","_law_moves"]
abbrev p_37:List Str:=["hall","calls","start","goal","a","b"]
abbrev p_38:List Str:=["hall","calls","start","goal","shut"]
abbrev p_39:List Str:=["hall","call"]
abbrev p_40:List Str:=["calls","caller","ends","k"]
abbrev p_41:List Str:=["_law_cell","_law_at"]
abbrev p_42:List Str:=["hall","calls","caller","ends","start","goals","found","call"]
abbrev p_43:List Str:=["_law_hall_here","_law_cells"]
abbrev p_44:List Str:=["hall","calls","goals","move"]
abbrev p_45:List Str:=["_law_script","_law_k"]
abbrev p_46:List Str:=["_law_script"]
abbrev p_47:List Str:=["hall","shut"]
abbrev p_48:List Str:=["hall","caller","ends"]
abbrev p_49:List Str:=["calls","caller"]
abbrev p_50:List Str:=["calls","caller","ends"]
abbrev p_51:List Str:=["calls","chain","a","b"]
abbrev p_52:List Str:=["hall","calls","moves","goals","move","behind"]
abbrev p_53:List Str:=["hall","calls","moves"]
abbrev p_54:List Str:=["racks","bits"]
abbrev p_55:List Str:=["_law_k","_law_places","_law_held_here"]
abbrev p_56:List Str:=["thing"]
abbrev p_57:List Str:=["hall","calls","ends","lines","call"]
abbrev p_58:List Str:=["hall","things","last"]
abbrev p_59:List Str:=["hall","end"]
abbrev p_60:List Str:=["hall","things"]
abbrev p_61:List Str:=["numbers"]
abbrev p_62:List Str:=["some"]
abbrev p_63:List Str:=["_law_end"]
abbrev p_64:List Str:=["calls","end"]
def z_0:0<=sizeLine:=by decide
def z_1:1<=sizeLine:=by decide
def z_2:2<=sizeLine:=by decide
def z_3:3<=sizeLine:=by decide
def z_5:5<=sizeLine:=by decide
def z_6:6<=sizeLine:=by decide
def z_8:8<=sizeLine:=by decide
def mkF {N P:List Str}{sc:Scope}(a:sc.kind=.function:=by rfl)(b:sc.isCoroutine=false:=by rfl)(c:sc.isGenerator=false:=by rfl)(d:N.Nodup:=by decide +kernel)(e:N.take P.length=P:=by rfl)(f:∀x∈P,sc.names.lookup x=some .local\/sc.names.lookup x=some .cell:=by decide +kernel)(g:∀y∈sc.names,y.2≠.free:=by decide +kernel):FnScope N P sc:=⟨a,b,c,d,e,f,g⟩
seal PE PT PW PA PS PSs PG PGs PI qz PO OpR UnR B1 yW IxR SlR MtR MtM vI xu PIp PC
def top (i:Nat):Stmt:=PySem.Challenge.pw_crossracks_k34_room.main.body.getD i (.Pass ⟨0,0,0,0⟩)
structure Txt (K:Frag)(mg:Str->Option Value):Prop where
 zY:mg "len" = none
 zK:mg "isinstance" = none
 BS:mg "int" = none
 CT:mg "bool" = none
 Ak:mg "tuple" = none
 Ap:mg "list" = none
 Bz:mg "set" = none
 Aa:mg "sorted" = none
 BT:mg "divmod" = none
 zZ:mg "range" = none
 Dv:mg "abs" = none
 BU:mg "min" = none
 Dh:mg "max" = none
 Dw:mg "any" = none
 CU:mg "all" = none
 Dx:mg "zip" = none
 Dk:mg "dict" = none
 m_ValueError:mg "ValueError" = none
structure eY (K:Frag)(mg:Str->Option Value)(zI:Addr)(zL:Addr)(zJ:Addr)(zM:Addr)(zN:Addr)(zR:Addr)(zT:Addr)(zH:Addr)(zO:Addr):Prop where
 BA:mg "HallError" = some (.ref zI)
 CC:mg "NoHall" = some (.ref zL)
 Cp:mg "NoCalls" = some (.ref zJ)
 CD:mg "NoLine" = some (.ref zM)
 CF:mg "NoRule" = some (.ref zN)
 Db:mg "Idle" = some (.ref zR)
 Dc:mg "Busy" = some (.ref zT)
 AI:mg "Engaged" = some (.ref zH)
 CG:mg "NoMove" = some (.ref zO)
 CI:∃fI,yu K mg "Engaged" zH fI
 Am:jv K zH
 Aj:jC K zH
 Cq:kitOne K (.ref zH) (.type "ValueError")=some true
 Dl:exmOne K (.ref zH) (.ref zI)=some true
 Aw:kitOne K (.ref zH) (.ref zI)=some true
 AS:kitOne K (.ref zH) (.ref zL)=some false
 AJ:kitOne K (.ref zH) (.ref zJ)=some false
 AT:kitOne K (.ref zH) (.ref zM)=some false
 AU:kitOne K (.ref zH) (.ref zN)=some false
 Bk:kitOne K (.ref zH) (.ref zR)=some false
 Bl:kitOne K (.ref zH) (.ref zT)=some false
 AK:kitOne K (.ref zH) (.ref zH)=some true
 AV:kitOne K (.ref zH) (.ref zO)=some false
 Av:findIn K (.ref zH) "holds" = some none
 Ah:findIn K (.ref zH) "least" = some none
 ke_Engaged:exmOne K (.ref zH) (.ref zH)=some true
def cell (ns:List Int)(k:Nat):Int:=ns.getD k 0
def mT {ns:List Int}{k:Nat}(h:k<ns.length):atI (ns.map V.int) (k:Int)=some (.int (cell ns k)):=C4 (by
 rw[ER,Gb h]
 simp[cell,List.getD,h])
def g9 {H:Hp}(h:H p=none)(o:HO):i9 H (upd H p o):=λb u q=>by rw[j9 (n5 q h)];exact q
theorem Io {H:Hp}{a:Addr}(h:H a=none)(o:HO):∃G,upd H a o=G/\i9 H G/\G a=some o:=⟨_,Iu,g9 h o,c9⟩
theorem i9.put (s:i9 H H')(hl:H l=none):i9 H (upd H' l o):=λb u q=>by
 rw[j9 (n5 q hl)];exact s b u q
def sP (K:Frag):Sp:=λvs H Q _=>∃(a:Addr)(ns:List Int)(k:Nat),vs=[.ref a,.int k]/\SqL K H a (ns.map V.int)/\Q (.int (cell ns k)) H
def pP (K:Frag):Sp:=λvs H Q _=>∃(a:Addr)(ns:List Int),vs=[.ref a]/\SqL K H a (ns.map V.int)/\ns.length<=63/\∀H',Q (.bl true) H'
structure j8 where
 i:Int
 c:Int
 m:Int
 o:Int
 e:Int
def j8.row (h:j8):List Int:=[h.i,h.c,h.m,h.o,h.e]
structure j8.Ok (h:j8):Prop where
 i:1<=h.i/\h.i<=12
 c:1<=h.c/\h.c<=12
 m:1<=h.m/\h.m<=24
 o:1<=h.o/\h.o<=12
 e:1<=h.e/\h.e<=12
def sq {a b:Int}(ha:1<=a/\a<=12)(hb:1<=b/\b<=12):1<=a*b/\a*b<=144:=by
 have h1:1*1<=a*b:=Int.mul_le_mul ha.1 hb.1 (by decide) (by lia)
 have h2:a*b<=12*12:=Int.mul_le_mul ha.2 hb.2 (by lia) (by decide)
 lia
theorem j8.Ok.ic {h:j8}(k:h.Ok):1<=h.i*h.c/\h.i*h.c<=144:=sq k.i k.c
theorem j8.Ok.oe {h:j8}(k:h.Ok):1<=h.o*h.e/\h.o*h.e<=144:=sq k.o k.e
def uG (K:Frag):Sp:=λvs H Q _=>∃(a:Addr)(ns:List Int),vs=[.ref a]/\SqL K H a (ns.map V.int)/\∀(p:Addr)(h:j8)(H':Hp),h.Ok->2<=h.m->i9 H H'->H' p=some (.tup (h.row.map V.int))->Q (.ref p) H'
def fj (j:Nat):Int:=if j=2 then 24 else 12
def cR (j:Nat):Int:=if j=2 then 1 else 0
def uT (j:Nat):0<=cR j/\cR j<=1:=by
 unfold cR
 split<;>lia
def wc (j:Nat):(if decide (V.int (j:Int)=V.int 2)=true then (1:Int) else 0)=cR j:=by
 unfold cR
 by_cases h:j=2
 ·subst h;rfl
 ·rw[Il h,Il]
  intro z
  have:=V.int.inj (GT z)
  lia
theorem vK {i:Nat}(hi:i<5):(∃m:Int,atI ([4,4,5,4,4].map V.int) (i:Int)=some (.int m)/\1<=m/\m<=fj i-cR i)/\∃m:Int,atI ([12,12,23,12,12].map V.int) (i:Int)=some (.int m)/\1<=m/\m<=fj i-cR i:=by
 match i,hi with
 | 0,_=>exact⟨⟨_,Iu,by decide,by decide⟩,_,Iu,by decide,by decide⟩
 | 1,_=>exact⟨⟨_,Iu,by decide,by decide⟩,_,Iu,by decide,by decide⟩
 | 2,_=>exact⟨⟨_,Iu,by decide,by decide⟩,_,Iu,by decide,by decide⟩
 | 3,_=>exact⟨⟨_,Iu,by decide,by decide⟩,_,Iu,by decide,by decide⟩
 | 4,_=>exact⟨⟨_,Iu,by decide,by decide⟩,_,Iu,by decide,by decide⟩
theorem i9.seqT (e:i9 H H')(h:SqT K H a xs):SqT K H' a xs:=by
 rcases h with(h|⟨o,h⟩)|h
 ·exact .inl (.inl (e _ _ h))
 ·exact .inl (.inr ⟨o,e _ _ h⟩)
 ·exact .inr h
def du:FnScope ["_law_script","_law_k"] ["_law_script","_law_k"] (i4 (top 56)):=mkF
def uW (T:Txt K mg)(D:Def K mg "_law_cell_at" (top 56) p_45):i6 P w K mg base 1 "_law_cell_at" p_45 (sP K):=by
 refine D.ok du (λ_ _ _ _ h=>?_) (λ_ _ _ _ _ H _ Q E hr h=>?_)
 ·obtain⟨a,ns,k,rfl,_⟩:=h
  rfl
 obtain⟨a,ns,k,rfl,hS,q⟩:=h
 refine⟨_,(d9 (n6 (k8 qb (pv 1) (j6 (y9 K) rfl T.zY HF (a8 (pv 0) c7 a9)) (m6 _)) (h9 (j5 (i8 (u7 K) (pv 0) (pv 1)))) l7)
  (h9 (j5 h7))),?_⟩
 refine⟨_,Iu,_,Iu,a,_,Iu,.inl hS,_,_,Iu,Iu,_,Iu,?_⟩;refine B4 (λc=>?_) (λc=>?_)
 ·have c':(k:Int)<(((ns.map V.int).length:Nat):Int):=GT c
  rw[EV] at c';exact⟨_,Iu,_,Iu,a,_,_,_,Iu,Iu,hS,mT (by lia),q⟩
 ·have c':¬(k:Int)<(((ns.map V.int).length:Nat):Int):=HG (Gq.mpr c)
  rw[EV] at c';have e:cell ns k=0:=by simp[cell,List.getD,Go (show ns.length<=k by lia)]
  rw[e] at q;exact q
def K0:FnScope ["_law_script","_law_sizes","_law_k","_law_number_here","_law_most"] ["_law_script"] (i4 (top 57)):=mkF
def wm (T:Txt K mg)(Ax:i6 P w K mg base 1 "_law_cell_at" p_45 (sP K))(D:Def K mg "_law_hall" (top 57) p_46):i6 P w K mg base 2 "_law_hall" p_46 (uG K):=by
 refine D.ok K0 (λ_ _ _ _ h=>?_) (λ_ _ _ _ _ H _ Q E hr h=>?_)
 ·obtain⟨a,ns,rfl,_⟩:=h
  rfl
 obtain⟨a,ns,rfl,hS,q⟩:=h
 refine⟨_,(d9 (j4 (i:=1) K0.nd Iu Ix (r6 c7))
  (d9 (w5 HI rfl (C8 rfl T.zZ (a8 h7 c7 m9)) (l8 (i:=2) K0.nd Iu Ix)
  (d9 (j4 (i:=3) K0.nd Iu Ix (l6 L9 (l6 A4 (l6 B2 (l9 Ax hr Iu (a8 (pv 0) (a8 (pv 2) c7 a9) a9)) (l6 oz h7 h7)) (l6 L9 (l6 A4 h7 (pv 2)) h7)) (l6 A4 h7 (pv 2))))
  (d9 (j4 (i:=4) K0.nd Iu Ix (i8 (u7 K) (r6 (a8 h7 (a8 h7 (a8 h7 (a8 h7 (a8 h7 c7 m9) m9) m9) m9) m9)) (pv 2)))
  (d9 (n6 (k8 E4 (l6 B2 (l9 Ax hr Iu (a8 (pv 0) (a8 h7 c7 m9) a9)) h7) h7 (m6 _)) (h9 (j4 (i:=4) K0.nd Iu Ix (i8 (u7 K) (r6 (a8 h7 (a8 h7 (a8 h7 (a8 h7 (a8 h7 c7 m9) m9) m9) m9) m9)) (pv 2)))) l7)
  (h9 (C3 (F8 K HJ HK HL B5 (pv 1) (a8 (l6 L9 (l6 L9 h7 (w9 ir rfl T.BS boot_int (a8 (F3 E4 (pv 2) h7 (m6 _)) c7 xt))) (l6 B2 (l6 B2 (pv 3) h7) (pv 4))) c7 Q1))))))))
  (h9 (j5 (w9 (P5 K) rfl T.Ak HM (a8 (pv 1) c7 a9)))))),?_⟩
 refine⟨z_0,λl hl=>?_⟩
 obtain⟨H1,Ip,s1,el⟩:=Io hl (.lst []);rw[Ip];refine⟨_,Iu,by decide,by decide,?_⟩
 refine E3 (lo:=0) (n:=5) (λi σ H'=>i9 H H'/\∃xs:List Int,xs.length=i/\(∀j x,xs[j]? = some x->1+cR j<=x/\x<=fj j)/\H' l=some (.lst (xs.map V.int))/\∃v2 v3 v4,σ=[Iq a,Iq l,v2,v3,v4])
  ⟨s1,[],Iu,(λj x hx=>by simp at hx),el,none,none,none,Iu⟩ ?_ ?_
 ·rintro i σ H' hi ⟨s2,xs,hlen,hx,el2,v2,v3,v4,rfl⟩
  rw[HN];obtain⟨⟨m1,a1,b1,c1⟩,m2,a2,b2,c2⟩:=vK hi
  have fin:∀(H3:Hp),i9 H' H3->∀n m:Int,1<=m->m<=fj i-cR i->H3 l=some (.lst (xs.map V.int))/\(xs.map V.int).length<sizeLine/\(∃xs':List Int,xs'.length=i+1/\(∀j x,xs'[j]? = some x->1+cR j<=x/\x<=fj j)/\upd H3 l (.lst (xs.map V.int++[.int (1+cR i+n%999983%m)])) l=some (.lst (xs'.map V.int)))/\i9 H (upd H3 l (.lst (xs.map V.int++[.int (1+cR i+n%999983%m)]))):=λH3 s3 n m hm1 hm2=>by
   refine⟨s3 _ _ el2,k9 (by rw[EV];lia),⟨xs++[1+cR i+n%999983%m],by rw[EU,hlen];rfl,λj x hj=>?_,by rw[c9,HE];rfl⟩,i9.put (s2.trans s3) hl⟩
   rcases Hr j xs.length with c|c|c
   ·rw[EQ c] at hj
    exact hx j x hj
   ·rw[c,List.getElem?_concat_length] at hj
    cases hj
    rw[c,hlen];have h1:=Ho (n%999983) (show m≠0 by lia)
    have h2:=Hq (n%999983) (show 0<m by lia)
    have h3:=uT i;lia
   ·rw[Go (by rw[EU,Fj];lia)] at hj
    cases hj
  refine⟨_,Iu,_,Iu,a,ns,i,Iu,s2.seq hS,_,_,Iu,Iu,⟨by decide,by decide,by decide⟩,_,_,Iu,Iu,(by show(0:Int)<10^18;decide),_,Iu,_,_,Iu,Iu,.inl ⟨by decide,by decide⟩,_,_,Iu,Iu,_,_,Iu,Iu,.inr ⟨by lia,by lia⟩,_,Iu,_,_,Iu,Iu,.inl ⟨by decide,by decide⟩,_,_,Iu,Iu,?_⟩
  refine⟨z_5,λl1 hl1=>?_⟩
  have el1:=@c9 H' l1 (.lst [.int 4,.int 4,.int 5,.int 4,.int 4]);have s3:=g9 hl1 (.lst [.int 4,.int 4,.int 5,.int 4,.int 4]);refine⟨_,Iu,l1,_,_,_,Iu,Iu,Iv el1,a1,?_⟩;generalize upd H' l1 _=H3 at s3 ⊢;have s23:=s2.trans s3;refine⟨_,Iu,a,ns,5,Iu,s23.seq hS,_,_,Iu,Iu,(by show(0:Int)<5;decide),Iu,_,Iu,?_⟩
  have o2:=wc i;refine B4 (λ_=>?_) (λ_=>?_)
  ·refine⟨z_5,λl2 hl2=>?_⟩
   have el3:=@c9 H3 l2 (.lst [.int 12,.int 12,.int 23,.int 12,.int 12]);have s4:=s3.trans (g9 hl2 (.lst [.int 12,.int 12,.int 23,.int 12,.int 12]));refine⟨_,Iu,l2,_,_,_,Iu,Iu,Iv el3,a2,?_⟩;obtain⟨f1,f2,⟨xs',g1,g2,g3⟩,f4⟩:=fin _ s4 (cell ns i%10^Int.toNat 18*(2*(i:Int)+48271)+7*(i:Int)) m2 b2 c2;rw[<- o2] at f4 g3;exact⟨_,Iu,.inl ⟨Iu,_,Iv f1⟩,_,Iu,Iu,.inr ⟨_,Iu,_,_,Iu,Iu,_,Iu,_,_,Iu,Iu,(by show(0:Int)<999983;decide),_,Iu,_,_,Iu,Iu,(by show(0:Int)<m2;lia),_,_,Iu,Iu,l,xs.map V.int,_,Iu,Iu,f1,f2,f4,xs',g1,g2,g3,_,_,_,Iu⟩⟩
  ·obtain⟨f1,f2,⟨xs',g1,g2,g3⟩,f4⟩:=fin _ s3 (cell ns i%10^Int.toNat 18*(2*(i:Int)+48271)+7*(i:Int)) m1 b1 c1
   rw[<- o2] at f4 g3;exact⟨_,Iu,.inl ⟨Iu,_,Iv f1⟩,_,Iu,Iu,.inr ⟨_,Iu,_,_,Iu,Iu,_,Iu,_,_,Iu,Iu,(by show(0:Int)<999983;decide),_,Iu,_,_,Iu,Iu,(by show(0:Int)<m1;lia),_,_,Iu,Iu,l,xs.map V.int,_,Iu,Iu,f1,f2,f4,xs',g1,g2,g3,_,_,_,Iu⟩⟩
 ·rintro σ H' ⟨s2,xs,hlen,hx,el2,v2,v3,v4,rfl⟩
  match xs,hlen with
  | [x0,x1,x2,x3,x4],_ =>
   refine⟨_,Iu,l,_,Iu,.inl ⟨Iv el2,λp hp=>?_⟩⟩;have y0:1<=x0/\x0<=12:=hx 0 x0 rfl;have y1:1<=x1/\x1<=12:=hx 1 x1 rfl;have y2:2<=x2/\x2<=24:=hx 2 x2 rfl;have y3:1<=x3/\x3<=12:=hx 3 x3 rfl;have y4:1<=x4/\x4<=12:=hx 4 x4 rfl;exact q p ⟨x0,x1,x2,x3,x4⟩ _ ⟨y0,y1,⟨by show 1<=x2;lia,y2.2⟩,y3,y4⟩ y2.1 (s2.trans (g9 hp _)) c9
def U7 (es:List Int):(es.map V.int).all bQ=true:=by
 rw[FF]
 intro x hx
 obtain⟨p,_,rfl⟩:=GX.mp hx;rfl
def bi (e:Int)(es:List Int):inV (.int e) (es.map V.int)=decide (e∈es):=by
 unfold inV;rw[List.any_map];rw[Ew,FH,FJ]
 constructor
 ·rintro⟨q,hq,e'⟩
  have e':(q==e)=true:=e';exact eq_of_beq e'▸hq
 ·intro h
  exact⟨e,h,FA e⟩
structure oq (h:j8)(xs:List Int):Prop where
 nd:xs.Nodup
 es:∀e∈xs,0<=e/\e<h.o*h.e
 some:xs≠[]
 few:xs.length<=12
def cL {x d:Int}(h:0<d):0<=x%d/\x%d<d:=⟨Ho _ (by lia),Hq _ h⟩
def vz {h:j8}{r x:Int}(ok:h.Ok)(hr:0<=r/\r<h.o):0<=r*h.e+x%h.e/\r*h.e+x%h.e<h.o*h.e:=by
 have b3:=ok.e;have h1:=cL (x:=x) (d:=h.e) (by lia)
 have h2:0<=r*h.e:=Int.mul_nonneg hr.1 (by lia)
 have h3:(r+1)*h.e<=h.o*h.e:=Int.mul_le_mul_of_nonneg_right (by lia) (by lia)
 rw[Int.add_mul,Int.one_mul] at h3;lia
def nY (K:Frag):Sp:=λvs H Q _=>∃(a:Addr)(h:j8)(n:Int),vs=[.ref a,.int n]/\SqT K H a (h.row.map V.int)/\h.Ok/\∀(l:Addr)(es:List Int)(H':Hp),i9 H H'->H l=none->H' l=some (.lst (es.map V.int))->oq h es->Q (.ref l) H'
def A0:FnScope ["_law_hall_here","_law_number_here","_law_ends_here","_law_left","_law_rack","_law_wide","_law_many","_law_k","_law_end"] ["_law_hall_here","_law_number_here"] (i4 (top 58)):=mkF
def vn (T:Txt K mg)(D:Def K mg "_law_ends" (top 58) p_29):i6 P w K mg base 1 "_law_ends" p_29 (nY K):=by
 refine D.ok A0 (λ_ _ _ _ h=>?_) (λ_ _ _ _ _ H _ Q E hr h=>?_)
 ·obtain⟨a,h,n,rfl,_⟩:=h
  rfl
 obtain⟨a,h,n,rfl,hH,ok,q⟩:=h;have b1:=ok.oe;have b2:=ok.o;have b3:=ok.e
 refine⟨_,(d9 (j4 (i:=2) A0.nd Iu Ix (r6 c7))
  (d9 (j4 (i:=3) A0.nd Iu Ix (l6 sr (pv 1) (l6 oz h7 h7)))
  (d9 (j4 (i:=4) A0.nd Iu Ix (l6 B2 (l6 B2 (l6 A4 (pv 1) h7) h7) (i8 (i5 K) (pv 0) h7)))
  (d9 (j4 (i:=5) A0.nd Iu Ix (F3 E4 (l6 B2 (l6 B2 (l6 A4 (pv 1) h7) h7) h7) h7 (m6 _)))
  (d9 (j4 (i:=6) A0.nd Iu Ix (l6 L9 h7 (l6 B2 (l6 B2 (l6 A4 (pv 1) h7) h7) h7)))
  (d9 (n6 (k8 E4 (l6 B2 (l6 B2 (l6 A4 (pv 1) h7) h7) h7) h7 (m6 _)) (h9 (j4 (i:=6) A0.nd Iu Ix (l6 L9 h7 (l6 B2 (l6 B2 (l6 A4 (pv 1) h7) h7) h7)))) l7)
  (d9 (w5 HI rfl (C8 rfl T.zZ (a8 (pv 6) c7 a9)) (l8 (i:=7) A0.nd Iu Ix)
  (d9 (j4 (i:=8) A0.nd Iu Ix (l6 B2 (l6 A4 (pv 1) (l6 L9 h7 (l6 A4 (l6 A4 h7 (pv 7)) (pv 7)))) h7))
  (d9 (n6 (k8 yH (pv 1) (l6 oz h7 h7) (m6 _)) (d9 (j4 (i:=8) A0.nd Iu Ix (l6 B2 (pv 3) (l6 A4 (i8 (i5 K) (pv 0) h7) (i8 (i5 K) (pv 0) h7))))
  (h9 (j4 (i:=3) A0.nd Iu Ix (l6 R7 (pv 3) (l6 A4 (i8 (i5 K) (pv 0) h7) (i8 (i5 K) (pv 0) h7)))))) l7)
  (d9 (n6 (B0 K (pv 5) (λ_=>rfl)) (h9 (j4 (i:=8) A0.nd Iu Ix (l6 B2 (pv 8) (l6 A4 (i8 (i5 K) (pv 0) h7) (i8 (i5 K) (pv 0) h7))))) (h9 (j4 (i:=8) A0.nd Iu Ix (l6 L9 (l6 A4 (pv 4) (i8 (i5 K) (pv 0) h7)) (l6 B2 (pv 8) (i8 (i5 K) (pv 0) h7))))))
  (h9 (n6 (k8 (iH K) (pv 8) (pv 2) (by with_unfolding_all rfl)) (h9 (C3 (F8 K HJ HK HL B5 (pv 2) (a8 (pv 8) c7 a9)))) l7))))))
  (h9 (j5 (pv 2)))))))))),?_⟩
 refine⟨z_0,λl hl=>?_⟩
 obtain⟨H1,Ip,s1,el⟩:=Io hl (.lst []);rw[Ip];refine⟨_,Iu,_,_,Iu,Iu,⟨by decide,by decide,by decide⟩,_,_,Iu,Iu,⟨by show(0:Int)<10^18;decide,by show(10:Int)^18<18446744073709551616;decide⟩,?_⟩
 refine⟨_,Iu,_,_,Iu,Iu,.inr ⟨by decide,by decide⟩,_,_,Iu,Iu,(by show(0:Int)<999931;decide),_,Iu,a,_,_,_,Iu,Iu,i9.seqT s1 hH,Iu,_,_,Iu,Iu,(by show(0:Int)<h.o;omega),?_⟩
 refine⟨_,Iu,_,_,Iu,Iu,.inr ⟨by decide,by decide⟩,_,_,Iu,Iu,(by show(0:Int)<999917;decide),_,_,Iu,Iu,(by show(0:Int)<5;decide),Iu,?_⟩
 refine⟨_,Iu,_,_,Iu,Iu,.inr ⟨by decide,by decide⟩,_,_,Iu,Iu,(by show(0:Int)<999961;decide),_,_,Iu,Iu,(by show(0:Int)<3;decide),_,_,Iu,Iu,?_⟩
 dsimp only[P2];refine jr (λσ G=>G=H1/\∃(v3 v:Int)(wd:Bool),(1<=v/\v<=12)/\σ=[Iq a,Ir n,Iq l,Ir v3,Ir (n*62089911%999931%h.o),some (.bl wd),Ir v,none,none]) (λR hR=>?_) ?_
 ·refine⟨_,Iu,_,_,Iu,Iu,.inr ⟨by decide,by decide⟩,_,_,Iu,Iu,(by show(0:Int)<999863;decide),_,_,Iu,Iu,(by show(0:Int)<6;decide),Iu,_,Iu,?_⟩
  exact B4 (λ_=>⟨_,Iu,_,_,Iu,Iu,.inr ⟨by decide,by decide⟩,_,_,Iu,Iu,(by show(0:Int)<999961;decide),_,_,Iu,Iu,(by show(0:Int)<12;decide),_,_,Iu,Iu,hR _ _ ⟨rfl,_,_,_,⟨by show(1:Int)<=1+_%12;lia,by show 1+_%(12:Int)<=12;lia⟩,rfl⟩⟩) λ_=>hR _ _ ⟨rfl,_,_,_,⟨by show(1:Int)<=1+_%3;lia,by show 1+_%(3:Int)<=12;lia⟩,rfl⟩
 rintro _ H1 ⟨rfl,v3,v,wd,hv,rfl⟩
 refine⟨_,Iu,_,Iu,by show -(2^62)<=v;lia,by show v<2^62;lia,?_⟩
 refine E3 (λi σ H'=>i9 H H'/\∃es:List Int,es.Nodup/\(∀e∈es,0<=e/\e<h.o*h.e)/\(i=0\/es≠[])/\es.length<=i/\H' l=some (.lst (es.map V.int))/\∃(v3:Int)(v5 v6:Option V),σ=[Iq a,Ir n,Iq l,Ir v3,Ir (n*62089911%999931%h.o),some (.bl wd),Ir v,v5,v6])
  ⟨s1,[],Fu,(λe he=>nomatch he),.inl rfl,Eo _,el,_,none,none,Iu⟩ ?_ ?_
 ·rintro i σ H' hi ⟨s2,es,d1,d2,d3,d4,el2,v3,v5,v6,rfl⟩
  have hi:i<12:=by lia
  rw[HN];have hk2:0<=2*(i:Int)*(i:Int)/\2*(i:Int)*(i:Int)<=24*12:=⟨Int.mul_nonneg (by lia) (by lia),Int.mul_le_mul (by lia) (by lia) (by lia) (by lia)⟩
  have hH2:=i9.seqT s2 hH;refine⟨_,Iu,_,Iu,_,_,Iu,Iu,.inl ⟨by decide,by decide⟩,_,Iu,_,_,Iu,Iu,.inr ⟨by omega,by omega⟩,_,_,Iu,Iu,_,_,Iu,Iu,.inr ⟨by omega,by omega⟩,_,_,Iu,Iu,(by show(0:Int)<999983;decide),?_⟩
  dsimp only[P2];refine jr (λσ G=>G=H'/\∃w3 x:Int,σ=[Iq a,Ir n,Iq l,Ir w3,Ir (n*62089911%999931%h.o),some (.bl wd),Ir v,Ir i,Ir x]) (λR hR=>?_) ?_
  ·refine⟨_,Iu,_,_,Iu,Iu,⟨by decide,by decide,by decide⟩,_,_,Iu,Iu,_,Iu,?_⟩
   exact B4 (λ_=>⟨_,Iu,_,Iu,a,_,_,_,Iu,Iu,hH2,Iu,_,Iu,a,_,_,_,Iu,Iu,hH2,Iu,_,_,Iu,Iu,.inl ⟨by omega,by omega⟩,_,_,Iu,Iu,(by show 0<h.o*h.e;omega),_,Iu,_,Iu,a,_,_,_,Iu,Iu,hH2,Iu,_,Iu,a,_,_,_,Iu,Iu,hH2,Iu,_,_,Iu,Iu,.inl ⟨by omega,by omega⟩,_,_,Iu,Iu,⟨by show 0<h.o*h.e;omega,by show h.o*h.e<1073741824;omega⟩,hR _ _ ⟨rfl,_,_,rfl⟩⟩) λ_=>hR _ _ ⟨rfl,_,_,rfl⟩
  rintro _ H' ⟨rfl,w3,x,rfl⟩
  refine jr (λσ G=>G=H'/\∃x:Int,(0<=x/\x<h.o*h.e)/\σ=[Iq a,Ir n,Iq l,Ir w3,Ir (n*62089911%999931%h.o),some (.bl wd),Ir v,Ir i,Ir x]) (λR hR=>?_) ?_
  ·refine⟨_,Iu,_,Iu,?_⟩
   exact B4 (λ_=>⟨_,Iu,_,Iu,a,_,_,_,Iu,Iu,hH2,Iu,_,Iu,a,_,_,_,Iu,Iu,hH2,Iu,_,_,Iu,Iu,.inl ⟨by omega,by omega⟩,_,_,Iu,Iu,(by show 0<h.o*h.e;omega),hR _ _ ⟨rfl,_,cL (by omega),rfl⟩⟩) λ_=>⟨_,Iu,_,Iu,a,_,_,_,Iu,Iu,hH2,Iu,_,_,Iu,Iu,.inr ⟨by omega,by omega⟩,_,Iu,_,Iu,a,_,_,_,Iu,Iu,hH2,Iu,_,_,Iu,Iu,(by show 0<h.e;omega),_,_,Iu,Iu,hR _ _ ⟨rfl,_,vz ok (cL (by omega)),rfl⟩⟩
  rintro _ H' ⟨rfl,x,hx,rfl⟩
  refine⟨_,Iu,_,Iu,l,_,Iu,.inl (Iv el2),Iu,U7 es,_,Iu,?_⟩;refine B4 (λc=>?_) (λc=>?_)
  ·have hn:¬x∈es:=by rw[bi] at c;simpa using c
   refine⟨_,Iu,.inl ⟨Iu,_,Iv el2⟩,_,Iu,l,_,_,Iu,Iu,el2,k9 (by rw[EV];omega),i9.put s2 hl,es++[x],GR.mpr ⟨d1,by simp,λy hy z hz=>?_⟩,λe he=>?_,.inr (by simp),by rw[EU,Fj];lia,by rw[c9,HE];rfl,_,_,_,Iu⟩
   ·rw[Fx] at hz
    exact λe=>hn (by rw[<- hz,<- e];exact hy)
   ·rcases q_.mp he with c|c
    ·exact d2 e c
    ·rw[Fx] at c
     rw[c];exact hx
  ·have c':x∈es:=by rw[bi] at c;simpa using c
   exact⟨s2,es,d1,d2,.inr (List.ne_nil_of_mem c'),by lia,el2,_,_,_,Iu⟩
 ·rintro σ H' ⟨s2,es,d1,d2,d3,d4,el2,v3,v5,v6,rfl⟩
  exact⟨_,Iu,q l es H' s2 hl el2 ⟨d1,d2,d3.resolve_left (by lia),by lia⟩⟩
def nIn (r k:Int):List Key:=[.inr "in",.inl r,.inl k]
def K7 (r k:Int):List Key:=[.inr "out",.inl r,.inl k]
def y6 (h:j8)(k:Int)(acc:List (List Key))(e:Int):List (List Key):=if inD acc (K7 (e/h.e) k) then acc else acc++[K7 (e/h.e) k]
def o8 (h:j8)(c:Int)(es:List Int)(k:Int):List (List Key):=es.foldl (y6 h k) [nIn (c/h.c) k]
theorem X9 (h:j8)(k:Int)(d:List Key):∀(es:List Int)(acc:List (List Key)),d∈es.foldl (y6 h k) acc↔d∈acc\/∃e∈es,d=K7 (e/h.e) k
 | [],acc=>by simp
 | e::t,acc=>by
  rw[foldl_cons,X9 h k d t]
  have st:d∈y6 h k acc e↔d∈acc\/d=K7 (e/h.e) k:=by
   unfold y6
   by_cases c:inD acc (K7 (e/h.e) k)=true
   ·rw[Ik c]
    have c':=bT.mp c
    constructor
    ·exact .inl
    ·rintro(g|g)
     ·exact g
     ·rw[g];exact c'
   ·rw[Il c,q_,Fx]
  rw[st]
  constructor
  ·rintro((g|g)|⟨x,hx,g⟩)
   ·exact .inl g
   ·exact .inr ⟨e,n_ ..,g⟩
   ·exact .inr ⟨x,o_ _ hx,g⟩
  ·rintro(g|⟨x,hx,g⟩)
   ·exact .inl (.inl g)
   ·rcases p_.mp hx with rfl|hx
    ·exact .inl (.inr g)
    ·exact .inr ⟨x,hx,g⟩
def z7 {c:Int}{k:Int}:d∈o8 h c es k↔d=nIn (c/h.c) k\/∃e∈es,d=K7 (e/h.e) k:=by
 unfold o8;rw[X9,Fx]
theorem N5 (h:j8)(k:Int):∀(es:List Int)(acc:List (List Key)),(es.foldl (y6 h k) acc).length<=acc.length+es.length
 | [],acc=>by simp
 | e::t,acc=>by
  have ih:=N5 h k t (y6 h k acc e)
  have:(y6 h k acc e).length<=acc.length+1:=by
   unfold y6
   split<;>simp
  rw[foldl_cons,Ez];lia
def O7 (h:j8)(c:Int)(es:List Int)(k:Int):(o8 h c es k).length<=1+es.length:=N5 h k es _
def E8 (H:Hp)(as:List Addr)(ds:List (List Key)):Prop:=Paired (λa d=>H a=some (.tup (d.map kV))) as ds
def km (H:Hp)(l:Addr)(ds:List (List Key)):Prop:=∃as:List Addr,H l=some (.lst (as.map V.ref))/\E8 H as ds
theorem E8.same {H H':Hp}(s:∀b xs,H b=some (.tup xs)->H' b=some (.tup xs))(h:E8 H as ds):E8 H' as ds:=by
 unfold E8 at h ⊢;exact A5 h λa d _ e=>s _ _ e
theorem km.push {H:Hp}{as:List Addr}{d:List Key}(e:H l=some (.lst (as.map V.ref)))(h:E8 H as ds)(hp:H p=some (.tup (d.map kV))) :
  km (upd H l (.lst (as.map V.ref++[.ref p]))) l (ds++[d]):=by
 have hpl:p≠l:=λz=>by rw[z,e] at hp;cases hp
 refine⟨as++[p],by rw[c9,HE];rfl,Fr (E8.same (λb xs hb=>?_) h) ?_⟩
 ·have hbl:b≠l:=λz=>by rw[z,e] at hb;cases hb
  rw[j9 hbl];exact hb
 ·show upd _ l _ p=_
  rw[j9 hpl];exact hp
def W1 (K:Frag):Sp:=λvs H Q _=>∃(a e:Addr)(h:j8)(c k:Int)(es:List Int),vs=[.ref a,.int c,.ref e,.int k]/\SqT K H a (h.row.map V.int)/\h.Ok/\(SqT K H e (es.map V.int)\/SqL K H e (es.map V.int))/\es.length<=12 /\
 ∀(l:Addr)(as:List Addr)(H':Hp),i9 H H'->H l=none->H' l=some (.lst (as.map V.ref))->E8 H' as (o8 h c es k)->Q (.ref l) H'
def D8:FnScope ["_law_hall_here","_law_caller","_law_ends_here","_law_k","_law_lines_here","_law_end","_law_line"] ["_law_hall_here","_law_caller","_law_ends_here","_law_k"] (i4 (top 59)):=mkF
def uj (T:Txt K mg)(D:Def K mg "_law_lines" (top 59) p_3):i6 P w K mg base 1 "_law_lines" p_3 (W1 K):=by
 refine D.ok D8 (λ_ _ _ _ h=>?_) (λ_ _ _ _ _ H _ Q E hr h=>?_)
 ·obtain⟨a,e,h,c,k,es,rfl,_⟩:=h
  rfl
 obtain⟨a,e,h,c,k,es,rfl,hH,ok,hE,few,q⟩:=h;have o2:=ok.c;have o3:=ok.e
 rcases hE with hE|hE
 ·refine⟨_,(d9 (j4 (i:=4) D8.nd Iu Ix (r6 (a8 (y7 (a8 U1 (a8 (l6 R7 (pv 1) (i8 (i5 K) (pv 0) h7)) (a8 (pv 3) c7 a9) Q1) m9)) c7 N8)))
  (d9 (w5 HI rfl (dP K (pv 2)) (l8 (i:=5) D8.nd Iu Ix)
  (d9 (j4 (i:=6) D8.nd Iu Ix (y7 (a8 U1 (a8 (l6 R7 (pv 5) (i8 (i5 K) (pv 0) h7)) (a8 (pv 3) c7 a9) Q1) m9)))
  (h9 (n6 (k8 (eO K (C0.unitsT hr)) (pv 6) (pv 4) (by with_unfolding_all rfl)) (h9 (C3 (F8 K HJ HK HL B5 (pv 4) (a8 (pv 6) c7 a9)))) l7))))
  (h9 (j5 (pv 4))))),?_⟩
  refine⟨_,Iu,_,Iu,a,_,_,_,Iu,Iu,hH,Iu,_,_,Iu,Iu,⟨by lia,by lia⟩,_,Iu,z_3,λt1 ht1=>?_⟩
  obtain⟨H1,Ip,s1,e1⟩:=Io ht1 (.tup [.str "in",.int (c/h.c),.int k]);rw[Ip];refine⟨z_1,λl hl=>?_⟩
  have bag0:km (upd H1 l (.lst [.ref t1])) l [nIn (c/h.c) k]:=⟨[t1],c9,.cons (g9 hl _ _ _ e1) .nil⟩;have sl:=g9 hl (.lst [.ref t1]);generalize upd H1 l _=H3 at bag0 sl ⊢;have s3:=s1.trans sl;refine⟨_,Iu,e,Iu,⟨_,i9.seqT s3 hE⟩,?_⟩
  refine vY (xs:=es.map V.int) (λi σ H'=>i9 H1 H'/\km H' l ((es.take i).foldl (y6 h k) [nIn (c/h.c) k])/\∃v5 v6,σ=[Iq a,Ir c,Iq e,Ir k,Iq l,v5,v6])
   ⟨sl,bag0,none,none,Iu⟩ (λi σ H' _ g=>i9.seqT (s1.trans g.1) hE) ?_ ?_
  ·rintro i x σ H' hx ⟨s5,⟨as,b1,b2⟩,v5,v6,rfl⟩
   rw[ER] at hx;obtain⟨y,hy,rfl⟩:=Hg.mp hx;have hlen:=N5 h k (es.take i) [nIn (c/h.c) k];have hlt:(es.take i).length<=12:=by rw[EM];lia
   rw[Fj] at hlen
   have step:(es.take (i+1)).foldl (y6 h k) [nIn (c/h.c) k]=y6 h k ((es.take i).foldl (y6 h k) [nIn (c/h.c) k]) y:=by
    rw[HA,hy,foldl_append];rfl
   rw[step];generalize (es.take i).foldl (y6 h k) [nIn (c/h.c) k]=ds at b2 hlen;have hn:=d_ b2;have hH5:=i9.seqT (s1.trans s5) hH;refine⟨_,Iu,_,Iu,a,_,_,_,Iu,Iu,hH5,Iu,_,_,Iu,Iu,⟨by lia,by lia⟩,_,Iu,z_3,λu hu=>?_⟩
   obtain⟨H6,Ip,s6,eu⟩:=Io hu (.tup [.str "out",.int (y/h.e),.int k]);rw[Ip];have c1:=s6 _ _ b1;have c2:=E8.same (λb xs hb=>s6 _ _ hb) b2;refine⟨_,Iu,_,Iu,l,u,as,K7 (y/h.e) k,ds,Iu,Iu,Iv c1,Iw eu,A5 c2 (λ_ _ _ z=>Iw z),_,Iu,?_⟩;refine B4 (λcc=>?_) (λcc=>?_)
   ·have cc':inD ds (K7 (y/h.e) k)=false:=by simpa using cc
    refine⟨_,Iu,.inl ⟨Iu,_,Iv c1⟩,_,Iu,l,as.map V.ref,.ref u,Iu,Iu,c1,k9 (by rw[EV,hn];lia),?_⟩
    refine⟨i9.put (s5.trans s6) hl,?_,_,_,Iu⟩;unfold y6;rw[Il (by rw[cc'];exact Ei)]
    exact km.push (d:=K7 (y/h.e) k) c1 c2 eu
   ·have cc':inD ds (K7 (y/h.e) k)=true:=by simpa using cc
    refine⟨s5.trans s6,?_,_,_,Iu⟩;unfold y6;rw[Ik cc'];exact⟨as,c1,c2⟩
  ·rintro σ H' ⟨s5,⟨as,b1,b2⟩,v5,v6,rfl⟩
   rw[EV,HB] at b2;exact⟨_,Iu,q l as H' (s1.trans s5) (s1.free hl) b1 b2⟩
 ·refine⟨_,(d9 (j4 (i:=4) D8.nd Iu Ix (r6 (a8 (y7 (a8 U1 (a8 (l6 R7 (pv 1) (i8 (i5 K) (pv 0) h7)) (a8 (pv 3) c7 a9) Q1) m9)) c7 N8)))
  (d9 (w5 HI rfl (m7 K (pv 2)) (l8 (i:=5) D8.nd Iu Ix)
  (d9 (j4 (i:=6) D8.nd Iu Ix (y7 (a8 U1 (a8 (l6 R7 (pv 5) (i8 (i5 K) (pv 0) h7)) (a8 (pv 3) c7 a9) Q1) m9)))
  (h9 (n6 (k8 (eO K (C0.unitsT hr)) (pv 6) (pv 4) (by with_unfolding_all rfl)) (h9 (C3 (F8 K HJ HK HL B5 (pv 4) (a8 (pv 6) c7 a9)))) l7))))
  (h9 (j5 (pv 4))))),?_⟩
  refine⟨_,Iu,_,Iu,a,_,_,_,Iu,Iu,hH,Iu,_,_,Iu,Iu,⟨by lia,by lia⟩,_,Iu,z_3,λt1 ht1=>?_⟩
  obtain⟨H1,Ip,s1,e1⟩:=Io ht1 (.tup [.str "in",.int (c/h.c),.int k]);rw[Ip];refine⟨z_1,λl hl=>?_⟩
  have bag0:km (upd H1 l (.lst [.ref t1])) l [nIn (c/h.c) k]:=⟨[t1],c9,.cons (g9 hl _ _ _ e1) .nil⟩;have sl:=g9 hl (.lst [.ref t1]);generalize upd H1 l _=H3 at bag0 sl ⊢;have s3:=s1.trans sl;refine⟨_,Iu,e,Iu,⟨_,i9.seq s3 hE⟩,?_⟩
  refine o9 (xs:=es.map V.int) (λi σ H'=>i9 H1 H'/\km H' l ((es.take i).foldl (y6 h k) [nIn (c/h.c) k])/\∃v5 v6,σ=[Iq a,Ir c,Iq e,Ir k,Iq l,v5,v6])
   ⟨sl,bag0,none,none,Iu⟩ (λi σ H' _ g=>i9.seq (s1.trans g.1) hE) ?_ ?_
  ·rintro i x σ H' hx ⟨s5,⟨as,b1,b2⟩,v5,v6,rfl⟩
   rw[ER] at hx;obtain⟨y,hy,rfl⟩:=Hg.mp hx;have hlen:=N5 h k (es.take i) [nIn (c/h.c) k];have hlt:(es.take i).length<=12:=by rw[EM];lia
   rw[Fj] at hlen
   have step:(es.take (i+1)).foldl (y6 h k) [nIn (c/h.c) k]=y6 h k ((es.take i).foldl (y6 h k) [nIn (c/h.c) k]) y:=by
    rw[HA,hy,foldl_append];rfl
   rw[step];generalize (es.take i).foldl (y6 h k) [nIn (c/h.c) k]=ds at b2 hlen;have hn:=d_ b2;have hH5:=i9.seqT (s1.trans s5) hH;refine⟨_,Iu,_,Iu,a,_,_,_,Iu,Iu,hH5,Iu,_,_,Iu,Iu,⟨by lia,by lia⟩,_,Iu,z_3,λu hu=>?_⟩
   obtain⟨H6,Ip,s6,eu⟩:=Io hu (.tup [.str "out",.int (y/h.e),.int k]);rw[Ip];have c1:=s6 _ _ b1;have c2:=E8.same (λb xs hb=>s6 _ _ hb) b2;refine⟨_,Iu,_,Iu,l,u,as,K7 (y/h.e) k,ds,Iu,Iu,Iv c1,Iw eu,A5 c2 (λ_ _ _ z=>Iw z),_,Iu,?_⟩;refine B4 (λcc=>?_) (λcc=>?_)
   ·have cc':inD ds (K7 (y/h.e) k)=false:=by simpa using cc
    refine⟨_,Iu,.inl ⟨Iu,_,Iv c1⟩,_,Iu,l,as.map V.ref,.ref u,Iu,Iu,c1,k9 (by rw[EV,hn];lia),?_⟩
    refine⟨i9.put (s5.trans s6) hl,?_,_,_,Iu⟩;unfold y6;rw[Il (by rw[cc'];exact Ei)]
    exact km.push (d:=K7 (y/h.e) k) c1 c2 eu
   ·have cc':inD ds (K7 (y/h.e) k)=true:=by simpa using cc
    refine⟨s5.trans s6,?_,_,_,Iu⟩;unfold y6;rw[Ik cc'];exact⟨as,c1,c2⟩
  ·rintro σ H' ⟨s5,⟨as,b1,b2⟩,v5,v6,rfl⟩
   rw[EV,HB] at b2;exact⟨_,Iu,q l as H' (s1.trans s5) (s1.free hl) b1 b2⟩
structure Call where
 c:Int
 es:List Int
 k:Int
structure Call.In (k:Call)(h:j8):Prop where
 c:0<=k.c/\k.c<h.i*h.c
 rise:k.es.Pairwise (· < ·)
 es:∀e∈k.es,0<=e/\e<h.o*h.e
 some:k.es≠[]
 few:k.es.length<=12
 k:0<=k.k/\k.k<h.m
def dN (c:Int):List Key:=[.inr "caller",.inl c]
def mY (e:Int):List Key:=[.inr "end",.inl e]
def P8 (h:j8)(k:Call):List (List Key):=o8 h k.c k.es k.k++[dN k.c]++k.es.map mY
def A1 {k:Call}:d∈P8 h k↔d=nIn (k.c/h.c) k.k\/(∃e∈k.es,d=K7 (e/h.e) k.k)\/d=dN k.c\/∃e∈k.es,d=mY e:=by
 unfold P8;rw[q_,q_,z7,Fx,GX,or_assoc,or_assoc]
 have:(∃a,a∈k.es/\mY a=d)↔∃e∈k.es,d=mY e:=⟨λ⟨a,h1,h2⟩=>⟨a,h1,h2.symm⟩,λ⟨a,h1,h2⟩=>⟨a,h1,h2.symm⟩⟩
 rw[this]
def qw {k:Call}(few:k.es.length<=12):(P8 h k).length<=26:=by
 unfold P8
 have:=O7 h k.c k.es k.k
 rw[EU,EU,Fj,EV];lia
def y8 (H:Hp)(p:Addr)(k:Call):Prop:=∃e:Addr,H e=some (.tup (k.es.map V.int))/\H p=some (.tup [.int k.c,.ref e,.int k.k])
theorem y8.same {H H':Hp}{k:Call}(s:∀b xs,H b=some (.tup xs)->H' b=some (.tup xs))(h:y8 H p k):y8 H' p k:=by
 obtain⟨e,h1,h2⟩:=h;exact⟨e,s _ _ h1,s _ _ h2⟩
def pV (t:Addr)(H H':Hp):Prop:=∀b u,b≠t->H b=some u->H' b=some u
theorem cb {K:Frag}(h:E8 H as ds):Paired (yX K wK H) (as.map V.ref) ds:=by
 induction h with
 | nil=>exact .nil
 | cons h t ih=>exact .cons ⟨_,_,Iu,Iw h,M7 _⟩ ih
theorem gq (h':Paired R as' ds')(h:Paired R as ds):Paired R (as++as') (ds++ds'):=by
 induction h with
 | nil=>exact h'
 | cons h t ih=>exact .cons h ih
theorem bn {α β γ δ κ:Type}{R:α->κ->Prop}{R':β->κ->Prop}{S:γ->δ->Prop}{f:α->γ}{g:β->δ}{as:List α}{ks:List κ}(h:Paired R as ks):∀{bs:List β},Paired R' bs ks->(∀a b k,k∈ks->R a k->R' b k->S (f a) (g b))->Paired S (as.map f) (bs.map g):=by
 induction h with
 | nil =>
  intro bs h' _
  cases h'
  exact .nil
 | cons h t ih =>
  intro bs h' k
  cases h' with
  | cons q t'=>exact .cons (k _ _ _ (n_ ..) h q) (ih t' λa b κ hκ=>k a b κ (o_ _ hκ))
def wk {es es':List Int}(p:es'.Perm es)(s:es'.Pairwise (·<=·))(nd:es.Nodup):es'.Pairwise (· < ·):=by
 have nd':es'.Nodup:=p.nodup_iff.mpr nd;exact(s.and nd').imp λ{a b} ⟨h1,h2⟩=>by lia
def sZ:Sp:=λvs H Q _=>∃(c:Int)(i:Nat),vs=[.int c,.int i]/\i<64/\∀n:Int,0<=n->Q (.int n) H
def wF (K:Frag):Sp:=λvs H Q _=>∃(a t:Addr)(h:j8)(n:Int)(kvs:List (List Key×V)),vs=[.ref a,.ref t,.int n]/\SqT K H a (h.row.map V.int)/\h.Ok/\H t=some (.dT kvs)/\kvs.length<=10000 /\
 (∀H',i9 H H'->Q .non H') /\
 ∀(p:Addr)(k:Call)(kvs':List (List Key×V))(H':Hp),pV t H H'->H' t=some (.dT kvs')->y8 H' p k->k.In h->(∀d∈P8 h k,¬(A8 kvs d).isSome=true)->(∀d,(A8 kvs' d).isSome=true↔(A8 kvs d).isSome=true\/d∈P8 h k)->kvs'.length<=kvs.length+26->Q (.ref p) H'
def fz:FnScope ["_law_cell","_law_at"] ["_law_cell","_law_at"] (i4 (top 60)):=mkF
def qm (T:Txt K mg)(D:Def K mg "_law_number" (top 60) p_41):i6 P w K mg base 1 "_law_number" p_41 sZ:=by
 refine D.ok fz (λ_ _ _ _ h=>?_) (λ_ _ _ _ _ H _ Q E hr h=>?_)
 ·obtain⟨c,i,rfl,_⟩:=h
  rfl
 obtain⟨c,i,rfl,hi,q⟩:=h;refine⟨_,(h9 (j5 (l6 L9 (l6 A4 (j6 sW rfl T.Dv boot_abs (a8 (pv 0) c7 a9)) (l6 L9 (l6 A4 h7 (pv 1)) h7)) (l6 A4 (pv 1) (pv 1))))),?_⟩;refine⟨_,Iu,_,Iu,_,Iu,_,_,Iu,Iu,.inl ⟨by decide,by decide⟩,_,_,Iu,Iu,_,_,Iu,Iu,.inr ⟨by lia,by lia⟩,_,Iu,_,Iu,_,_,Iu,Iu,.inl ⟨by lia,by lia⟩,_,_,Iu,Iu,?_⟩
 refine q _ (Int.add_nonneg (Int.mul_nonneg ?_ (by lia)) (Int.mul_nonneg (by lia) (by lia)))
 split<;>lia
def F5:FnScope ["_law_hall_here","_law_taken","_law_number_here","_law_caller","_law_ends_here","_law_step","_law_k","_law_need","_law_one"] ["_law_hall_here","_law_taken","_law_number_here"] (i4 (top 61)):=mkF
def xL {P:Program}{w:World}{base:Heap}(T:Txt K mg)(Ay:i6 P w K mg base 1 "_law_ends" p_29 (nY K))(zQ:i6 P w K mg base 1 "_law_lines" p_3 (W1 K))(D:Def K mg "_law_try" (top 61) p_22):i6 P w K mg base 2 "_law_try" p_22 (wF K):=by
 refine D.ok F5 (λ_ _ _ _ h=>?_) (λ_ _ _ _ _ H _ Q E hr h=>?_)
 ·obtain⟨a,t,h,n,kvs,rfl,_⟩:=h
  rfl
 obtain⟨a,t,h,n,kvs,rfl,hH,ok,ht,hk,qN,q⟩:=h;have b1:=ok.ic;have b2:=ok.i;have b3:=ok.m;have b4:=ok.c
 refine⟨_,(d9 (j4 (i:=3) F5.nd Iu Ix (l6 B2 (l6 B2 (l6 A4 (pv 2) h7) h7) (l6 A4 (i8 (i5 K) (pv 0) h7) (i8 (i5 K) (pv 0) h7))))
  (d9 (j4 (i:=4) F5.nd Iu Ix (j6 (bJ K) rfl T.Aa HP (a8 (l9 Ay hr Iu (a8 (pv 0) (a8 (pv 2) c7 a9) a9)) c7 n9)))
  (d9 (w5 HI rfl (C8 rfl T.zZ (a8 (j6 (gQ rfl) rfl T.BU boot_min (a8 (i8 (i5 K) (pv 0) h7) (a8 h7 c7 m9) m5)) c7 n9)) (l8 (i:=5) F5.nd Iu Ix)
  (d9 (j4 (i:=6) F5.nd Iu Ix (l6 B2 (l6 L9 (l6 B2 (l6 A4 (pv 2) h7) h7) (pv 5)) (i8 (i5 K) (pv 0) h7)))
  (d9 (j4 (i:=7) F5.nd Iu Ix (l6 aU (l6 aU (l9 zQ hr Iu (a8 (pv 0) (a8 (pv 3) (a8 (pv 4) (a8 (pv 6) c7 a9) a9) a9) a9)) (r6 (a8 (y7 (a8 U1 (a8 (pv 3) c7 a9) m9)) c7 N8))) (B3 (own:=["_law_end"]) (fr:=[]) rfl (mkC ["_law_hall_here","_law_taken","_law_number_here","_law_caller","_law_ends_here","_law_step","_law_k","_law_need","_law_one"] (i4 (top 61))) (m7 K (pv 4)) (λcl C s H ex=>⟨(l8 (i:=0) (show(["_law_end"]:List Str).Nodup from by decide +kernel) Iu Ix Iy),F1,(y7 (a8 U1 (a8 (pv 0) c7 a9) m9))⟩))))
  (h9 (n6 (k8 (uQ K (mD nJ) (C0.units2 hr)) (B3 (own:=["_law_one"]) (fr:=[(1,"_law_taken")]) rfl (mkC ["_law_hall_here","_law_taken","_law_number_here","_law_caller","_law_ends_here","_law_step","_law_k","_law_need","_law_one"] (i4 (top 61))) (m7 K (pv 7)) (λcl C s H ex=>⟨(l8 (i:=0) (show(["_law_one","_law_taken"]:List Str).Nodup from by decide +kernel) Iu Ix Iy),(K1 (bg (fC (Q4 hr) (pv 0) (pv 1)))),(pv 0)⟩)) (r6 c7) (m6 _)) (d9 (w5 HI rfl (m7 K (pv 7)) (l8 (i:=8) F5.nd Iu Ix)
  (h9 (bx (Q4 hr) (pv 1) (pv 8) F2 rfl)))
  (h9 (j5 (y7 (a8 (pv 3) (a8 (w9 (P5 K) rfl T.Ak HM (a8 (pv 4) c7 a9)) (a8 (pv 6) c7 a9) n9) a9))))) l7)))))
  (h9 (j5 o5))))),?_⟩
 refine⟨_,Iu,_,_,Iu,Iu,.inr ⟨by decide,by decide⟩,_,_,Iu,Iu,(by show(0:Int)<1000003;decide),_,Iu,a,_,_,_,Iu,Iu,hH,Iu,_,Iu,a,_,_,_,Iu,Iu,hH,Iu,_,_,Iu,Iu,.inl ⟨by lia,by lia⟩,_,_,Iu,Iu,(by show 0<h.i*h.c;lia),?_⟩
 have hc:0<=n*48271%1000003%(h.i*h.c)/\n*48271%1000003%(h.i*h.c)<h.i*h.c:=cL (by lia)
 refine⟨_,Iu,_,Iu,a,h,n,Iu,hH,ok,λl0 es0 H0 s0 _ el0 eo=>?_⟩;have few:=eo.few;refine⟨l0,es0,Iu,Iv el0,by lia,λes pm up le hle=>?_⟩
 have ee:=@c9 H0 le (.lst (es.map V.int));have s1:=s0.trans (g9 hle (.lst (es.map V.int)));generalize upd H0 le _=H1 at ee s1 ⊢;have hes:∀e∈es,0<=e/\e<h.o*h.e:=λe he=>eo.es e (pm.mem_iff.mp he);have hlen:es.length<=12:=by rw[pm.length_eq];exact few
 have hne:es≠[]:=λz=>eo.some (by rw[z] at pm;exact pm.symm.eq_nil)
 have hri:=wk pm up eo.nd;refine⟨_,Iu,a,_,_,_,Iu,Iu,i9.seqT s1 hH,Iu,_,_,Iu,_,Iu,?_,?_,?_⟩
 ·show -(2^62)<=(if (6:Int)<h.m then 6 else h.m)
  split<;>lia
 ·show(if (6:Int)<h.m then 6 else h.m)<2^62
  split<;>lia
 refine E3 (λi σ H'=>i9 H H'/\H' le=some (.lst (es.map V.int))/\∃c v5 v6 v7 v8,(0<=c/\c<h.i*h.c)/\σ=[Iq a,Iq t,Ir n,Ir c,Iq le,v5,v6,v7,v8])
  ⟨s1,ee,_,none,none,none,none,hc,Iu⟩ ?_ ?_
 ·rintro i σ H' hi ⟨s2,ee2,c,v5,v6,v7,v8,hc,rfl⟩
  have hH2:=i9.seqT s2 hH;refine⟨_,Iu,_,_,Iu,Iu,.inr ⟨by decide,by decide⟩,_,_,Iu,Iu,(by show(0:Int)<999979;decide),_,Iu,_,_,Iu,Iu,_,Iu,a,_,_,_,Iu,Iu,hH2,Iu,_,_,Iu,Iu,(by show 0<h.m;lia),?_⟩
  have hkk:0<=(n*40692%999979+(0+(i:Int)))%h.m/\(n*40692%999979+(0+(i:Int)))%h.m<h.m:=cL (by lia)
  refine⟨_,Iu,_,Iu,_,Iu,_,Iu,a,le,h,c,(n*40692%999979+(0+(i:Int)))%h.m,es,Iu,hH2,ok,.inr (Iv ee2),hlen,λl1 as1 H3 s3 _ el1 tk1=>?_⟩;refine⟨_,Iu,z_2,λt2 ht2=>?_⟩
  obtain⟨H4,Ip,s4,et2⟩:=Io ht2 (.tup [.str "caller",.int c]);rw[Ip];refine⟨z_1,λl2 hl2=>?_⟩
  obtain⟨H5,Ip,s5,el2⟩:=Io hl2 (.lst [.ref t2]);rw[Ip];have ln1:=d_ tk1;have ln2:=O7 h c es ((n*40692%999979+(0+(i:Int)))%h.m);refine⟨l1,l2,as1.map V.ref,[.ref t2],Iu,Iu,s5 _ _ (s4 _ _ el1),el2,l_ (k9 (by rw[EV,Fj];lia)),λl3 hl3=>?_⟩
  obtain⟨H6,Ip,s6,el3⟩:=Io hl3 (.lst (as1.map V.ref++[.ref t2]));rw[Ip];have s46:=(s4.trans s5).trans s6;have tk3:E8 H6 (as1++[t2]) (o8 h c es ((n*40692%999979+(0+(i:Int)))%h.m)++[dN c]):=Fr (E8.same (λb xs z=>s46 _ _ z) tk1) (s6 _ _ (s5 _ _ et2));have el3':H6 l3=some (.lst ((as1++[t2]).map V.ref)):=by rw[el3,HE];rfl
  have ee6:=s46 _ _ (s3 _ _ ee2);refine⟨_,Iu,le,Iu,⟨_,Iv ee6⟩,?_⟩
  refine A2 (xs:=es.map V.int) (λj acc σ H''=>i9 H6 H''/\(∃bs,acc=bs.map V.ref/\E8 H'' bs ((es.take j).map mY))/\∃v,σ=[v])
   ⟨i9.refl H6,⟨[],Iu,.nil⟩,none,Iu⟩ (l_ (k9 (by rw[EV];lia))) (λj acc σ H'' g=>?_) (λj acc σ H'' _ g=>Iv (g.1 _ _ ee6)) ?_ ?_
  ·obtain⟨_,⟨bs,rfl,hb⟩,_⟩:=g
   have:=d_ hb
   rw[EV,this,EV,EM];lia
  ·rintro j y acc σ H'' hy ⟨g1,⟨bs,rfl,hb⟩,v,rfl⟩
   rw[ER] at hy;obtain⟨e,he,rfl⟩:=Hg.mp hy;refine⟨_,Iu,z_2,λu hu=>⟨g1.trans (g9 hu _),⟨bs++[u],by rw[HE];rfl,?_⟩,_,Iu⟩⟩
   rw[HA,he,HE];exact Fr (E8.same (λb xs z=>g9 hu _ _ _ z) hb) c9
  rintro acc σ H7 ⟨s7,⟨bs,rfl,hb⟩,v,rfl⟩ l4 hl4
  rw[EV,HB] at hb;obtain⟨H8,Ip,s8,el4⟩:=Io hl4 (.lst (bs.map V.ref));rw[Ip];have lb:=d_ hb;rw[EV] at lb;refine⟨l3,l4,(as1++[t2]).map V.ref,bs.map V.ref,Iu,Iu,s8 _ _ (s7 _ _ el3'),el4,l_ (k9 (by rw[EV,EV,EU,Fj];lia)),λnl hnl=>?_⟩
  obtain⟨H9,Ip,s9,en⟩:=Io hnl (.lst ((as1++[t2]).map V.ref++bs.map V.ref));rw[Ip];rw[<- HE] at en;have s79:=(s7.trans s8).trans s9;have tn:E8 H9 ((as1++[t2])++bs) (P8 h ⟨c,es,((n*40692%999979+(0+(i:Int)))%h.m)⟩):=gq (E8.same (λb xs z=>s9 _ _ (s8 _ _ z)) hb) (E8.same (λb xs z=>s79 _ _ z) tk3);generalize (as1++[t2])++bs=nas at en tn;have hIn:Call.In ⟨c,es,((n*40692%999979+(0+(i:Int)))%h.m)⟩ h:=⟨hc,hri,hes,hne,hlen,hkk⟩;have nl26:(P8 h ⟨c,es,((n*40692%999979+(0+(i:Int)))%h.m)⟩).length<=26:=qw hlen;have nn:=d_ tn;have s29:i9 H H9:=s2.trans ((s3.trans s46).trans s79);have ht9:=s29 _ _ ht;have ee9:H9 le=some (.lst (es.map V.int)):=s79 _ _ ee6;generalize hds:P8 h ⟨c,es,((n*40692%999979+(0+(i:Int)))%h.m)⟩=ds at tn nl26 nn;refine⟨_,Iu,nl,Iu,⟨_,Iv en⟩,?_⟩
  refine A2 (xs:=nas.map V.ref) (λj acc σ H''=>H''=H9/\(∃bs,acc=bs.map V.ref/\E8 H9 bs ((ds.take j).filter λd=>(A8 kvs d).isSome))/\∃v,σ=[v,Iq t])
   ⟨Iu,⟨[],Iu,.nil⟩,none,Iu⟩ (l_ (k9 (by rw[EV];lia))) (λj acc σ H'' g=>?_) (λj acc σ H'' _ g=>by rw[g.1];exact Iv en) ?_ ?_
  ·obtain⟨_,⟨bs,rfl,hb⟩,_⟩:=g
   have:=d_ hb
   rw[EV,this];exact k_ (HQ _ _) (by rw[EM];lia)
  ·rintro j y acc σ H'' hy ⟨rfl,⟨bs,rfl,hb⟩,v,rfl⟩
   rw[ER] at hy;obtain⟨x,hx,rfl⟩:=Hg.mp hy;obtain⟨d,hd1,hd2⟩:=j7 tn j x hx
   have step:(ds.take (j+1)).filter (λd=>(A8 kvs d).isSome)=(ds.take j).filter (λd=>(A8 kvs d).isSome)++(if (A8 kvs d).isSome=true then [d] else []):=by
    rw[HA,hd1,HR]
    by_cases c:(A8 kvs d).isSome=true
    ·rw[Ik c]
     simp[c]
    ·rw[Il c]
     simp[c]
   refine⟨_,Iu,_,Iu,t,_,Iu,R9.t ht9 hd2,_,Iu,?_⟩;refine B4 (λc=>?_) (λc=>?_)
   ·refine⟨_,Iu,Iu,⟨bs++[_],by rw[HE];rfl,?_⟩,_,Iu⟩
    rw[step,Ik c];exact Fr hb hd2
   ·refine⟨Iu,⟨bs,Iu,?_⟩,_,Iu⟩
    rw[step,Il c,EH];exact hb
  rintro acc σ H'' ⟨rfl,⟨bs,rfl,hb⟩,v,rfl⟩ l5 hl5
  rw[EV,nn,HB] at hb;obtain⟨H10,Ip,s10,el5⟩:=Io hl5 (.lst (bs.map V.ref));rw[Ip];refine⟨z_0,λo ho=>?_⟩
  obtain⟨H11,Ip,s11,eo⟩:=Io ho (.lst []);rw[Ip];have sA:=s10.trans s11;refine⟨_,[],⟨l5,_,Iu,Iv (s11 _ _ el5),cb (E8.same (λb xs q=>sA _ _ q) hb)⟩,⟨o,[],Iu,Iv eo,.nil⟩,_,Iu,?_⟩;have htA:=sA _ _ ht9;have enA:=sA _ _ en;have eeA:=sA _ _ ee9;have tnA:=E8.same (λb xs q=>sA _ _ q) tn;have sB:i9 H H11:=s29.trans sA;have hnt:nl≠t:=λz=>by rw[z,htA] at enA;cases enA
  have hlt:le≠t:=λz=>by rw[z,htA] at eeA;cases eeA
  refine B4 (λcc=>?_) (λcc=>?_)
  ·have c0:ds.filter (λd=>(A8 kvs d).isSome)=[]:=GT cc
   have fr:∀d∈ds,¬(A8 kvs d).isSome=true:=λd hd z=>HS.mp c0 d hd z;refine⟨_,Iu,nl,Iu,⟨_,Iv enA⟩,?_⟩
   refine o9 (xs:=nas.map V.ref) (λj σ H'=>pV t H11 H'/\∃kvs',H' t=some (.dT kvs')/\kvs'.length<=kvs.length+j/\(∀d,(A8 kvs' d).isSome=true↔(A8 kvs d).isSome=true\/d∈ds.take j)/\∃v8,σ=[Iq a,Iq t,Ir n,Ir c,Iq le,some (.int (0+(i:Int))),some (.int ((n*40692%999979+(0+(i:Int)))%h.m)),Iq nl,v8])
    ⟨λ_ _ _ z=>z,kvs,htA,Eo _,(λd=>by simp),_,Iu⟩ (λj σ H' _ g=>Iv (g.1 _ _ hnt enA)) ?_ ?_
   ·rintro j y σ H' hy ⟨t1,kvs',t2,t7,t9,v8,rfl⟩
    rw[ER] at hy;obtain⟨x,hx,rfl⟩:=Hg.mp hy;obtain⟨d,hd1,hd2⟩:=j7 tnA j x hx
    have hj:j<26:=by
     have:=(s_.mp hd1).1
     lia
    replace hd2:H11 x=some (.tup (d.map kV)):=hd2
    have hxt:x≠t:=λz=>by rw[z,htA] at hd2;cases hd2
    refine⟨_,Iu,_,Iu,t,_,Iu,gm.t t2 (t1 _ _ hxt hd2) (by show kvs'.length<16777216;lia),?_⟩
    refine⟨λb u hb z=>by rw[j9 hb];exact t1 b u hb z,_,c9,?_,λd'=>?_,_,Iu⟩
    ·have:=J4 kvs' d (.bl true)
     lia
    ·rw[U5,HA,hd1,q_]
     by_cases c:d'=d
     ·rw[Ik c]
      simp[c]
     ·rw[Il c,t9]
      simp[c]
   ·rintro σ H' ⟨t1,kvs',t2,t7,t9,v8,rfl⟩
    rw[EV,nn] at t7 t9;rw[HB] at t9;refine⟨_,Iu,_,Iu,le,_,Iu,.inl ⟨Iv (t1 _ _ hlt eeA),λe he=>?_⟩⟩;refine⟨_,Iu,z_3,λp hp=>?_⟩
    refine q p ⟨c,es,(n*40692%999979+(0+(i:Int)))%h.m⟩ kvs' _ (λb u hb z=>?_) ?_ ⟨e,?_,c9⟩ hIn (by rw[hds];exact fr) (by rw[hds];exact t9) (by lia)
    ·have h1:=t1 b u hb (sB _ _ z)
     exact g9 hp _ _ _ (g9 he _ _ _ h1)
    ·exact g9 hp _ _ _ (g9 he _ _ _ t2)
    ·exact g9 hp _ _ _ c9
  ·exact⟨sB,eeA,c,_,_,_,_,hc,Iu⟩
 ·rintro σ H' ⟨s2,ee2,c,v5,v6,v7,v8,hc,rfl⟩
  exact qN H' s2
def D7 (h:j8)(k k':Call):Prop:=∀d∈P8 h k,¬d∈P8 h k'
theorem D7.symm {k k':Call}(f:D7 h k k'):D7 h k' k:=λd h1 h2=>f d h2 h1
theorem D7.caller {k k':Call}(f:D7 h k k'):k.c≠k'.c:=λz=>f (dN k.c) (A1.mpr (.inr (.inr (.inl rfl)))) (A1.mpr (.inr (.inr (.inl (by rw[z])))))
def m8 (H:Hp)(as:List Addr)(ks:List Call):Prop:=Paired (y8 H) as ks
theorem m8.same {H H':Hp}(s:∀b xs,H b=some (.tup xs)->H' b=some (.tup xs))(h:m8 H as ks):m8 H' as ks:=by
 unfold m8 at h ⊢;exact A5 h λa d _ e=>y8.same s e
theorem Z8 {α β:Type}{R:α->β->Prop}{as:List α}{ds:List β}(a0:α)(d0:β)(h:Paired R as ds):∀(is:List Nat),(∀i∈is,i<ds.length)->Paired R (is.map λi=>as.getD i a0) (is.map λi=>ds.getD i d0)
 | [],_=>.nil
 | i::t,hin=>by
  refine .cons ?_ (Z8 a0 d0 h t λj hj=>hin j (o_ _ hj));have hi:=hin i (n_ ..);have hl:as.length=ds.length:=d_ h;have ea:as[i]? = some (as[i]'(by lia)):=Gb (by lia)
  obtain⟨d,e2,hs⟩:=j7 h i _ ea
  show R (as.getD i a0) (ds.getD i d0)
  rw[show as.getD i a0=as[i]'(by lia) by rw[List.getD,ea];rfl,show ds.getD i d0=d by rw[List.getD,e2];rfl]
  exact hs
theorem da {K:Frag}:∀{as:List Addr}{ks:List Call},m8 H as ks->∃its:List (List V),cw K H as its/\Paired (λk xs=>∃e,xs=[V.int k.c,V.ref e,V.int k.k]) ks its
:=λh=>by
  induction h with
  | nil=>exact⟨[],.nil,.nil⟩
  | @cons _ k _ _ h t ih =>
    obtain⟨e,h1,h2⟩:=h;obtain⟨its,q1,q2⟩:=ih;exact⟨[V.int k.c,V.ref e,V.int k.k]::its,.cons ⟨Iw h2,_,_,Iu⟩ q1,.cons ⟨e,Iu⟩ q2⟩
def oW (K:Frag):Sp:=λvs H Q _=>∃(a b:Addr)(h:j8)(ns:List Int),vs=[.ref a,.ref b]/\SqT K H a (h.row.map V.int)/\h.Ok/\SqL K H b (ns.map V.int)/\ns.length<=63 /\
 ∀(l:Addr)(as:List Addr)(ks:List Call)(H':Hp),i9 H H'->H' l=some (.lst (as.map V.ref))->m8 H' as ks->(∀k∈ks,k.In h)->ks.Pairwise (λk k'=>k.c<k'.c)->ks.Pairwise (D7 h)->ks.length<=ns.length->Q (.ref l) H'
def K3:FnScope ["_law_hall_here","_law_cells","_law_taken","_law_calls_here","_law_at","_law_call"] ["_law_hall_here","_law_cells"] (i4 (top 62)):=mkF
def tW {P:Program}{w:World}{base:Heap}(T:Txt K mg)(Al:i6 P w K mg base 1 "_law_number" p_41 sZ)(Cr:i6 P w K mg base 2 "_law_try" p_22 (wF K))(D:Def K mg "_law_calls" (top 62) p_43):i6 P w K mg base 3 "_law_calls" p_43 (oW K):=by
 refine D.ok K3 (λ_ _ _ _ h=>?_) (λ_ _ _ _ _ H _ Q E hr h=>?_)
 ·obtain⟨a,b,h,ns,rfl,_⟩:=h
  rfl
 obtain⟨a,b,h,ns,rfl,hH,ok,hB,h63,q⟩:=h
 refine⟨_,(d9 (j4 (i:=2) K3.nd Iu Ix fZ)
  (d9 (j4 (i:=3) K3.nd Iu Ix (r6 c7))
  (d9 (w5 HI rfl (C8 rfl T.zZ (a8 (j6 (y9 K) rfl T.zY HF (a8 (pv 1) c7 a9)) c7 n9)) (l8 (i:=4) K3.nd Iu Ix)
  (d9 (j4 (i:=5) K3.nd Iu Ix (l9 Cr hr Iu (a8 (pv 0) (a8 (pv 2) (a8 (l9 Al hr Iu (a8 (i8 (u7 K) (pv 1) (pv 4)) (a8 (pv 4) c7 a9) m5)) c7 n9) a9) a9)))
  (h9 (n6 (k8 L5 (pv 5) o5 (m6 _)) (h9 (C3 (F8 K HJ HK HL B5 (pv 3) (a8 (pv 5) c7 a9)))) l7))))
  (h9 (j5 (j6 (U0 K) rfl T.Aa HP (a8 (pv 3) c7 a9))))))),?_⟩
 refine λhd hhd=>?_;obtain⟨H1,Ip,s1,ed⟩:=Io hhd (.dT []);rw[Ip];refine⟨z_0,λl hl=>?_⟩
 have el:=@c9 H1 l (.lst []);have s2:=s1.trans (g9 hl (.lst []));have ed2:=g9 hl (.lst []) _ _ ed;generalize upd H1 l _=H2 at el s2 ed2 ⊢;have hlH:H l=none:=s1.free hl;have ln:(ns.map V.int).length=ns.length:=EV _;refine⟨_,Iu,b,_,Iu,.inl (s2.seq hB),_,Iu,by lia,by lia,?_⟩
 rw[EW,ln]
 refine E3 (λi σ H'=>i9 H H'/\∃kvs as ks,H' hd=some (.dT kvs)/\H' l=some (.lst (as.map V.ref))/\m8 H' as ks/\(∀k∈ks,k.In h)/\ks.Pairwise (D7 h)/\ks.length<=i/\kvs.length<=26*i/\(∀d,(A8 kvs d).isSome=true↔∃k∈ks,d∈P8 h k) /\
   ∃v4 v5,σ=[Iq a,Iq b,Iq hd,Iq l,v4,v5])
  ⟨s2,[],[],[],ed2,el,.nil,(λk hk=>nomatch hk),Fn,Eo _,Eo _,(λd=>by constructor<;>intro z<;>first | (obtain⟨k,hk,_⟩:=z;cases hk) | cases z),none,none,Iu⟩ ?_ ?_
 ·rintro i σ H' hi ⟨s3,kvs,as,ks,d1,d2,d3,d4,d5,d6,d7,d8,v4,v5,rfl⟩
  rw[HN];refine⟨_,Iu,_,Iu,_,Iu,_,Iu,b,_,_,_,Iu,Iu,s3.seq hB,mT hi,_,Iu,_,i,Iu,by lia,λn hn=>?_⟩
  have hl2:l≠hd:=λq=>by rw[q,d1] at d2;cases d2
  refine⟨a,hd,h,n,kvs,Iu,i9.seqT s3 hH,ok,d1,by lia,λH4 s4=>?_,λp k kvs' H4 s4 d1' hc hk fr t9 t7=>?_⟩
  ·refine⟨_,Iu,Iu,_,Iu,B9 ?_⟩
   exact⟨s3.trans s4,kvs,as,ks,s4 _ _ d1,s4 _ _ d2,m8.same (λb xs q=>s4 _ _ q) d3,d4,d5,by lia,by lia,d8,_,_,Iu⟩
  ·have tp:∀b xs,H' b=some (.tup xs)->H4 b=some (.tup xs):=λb xs z=>s4 _ _ (λy=>by rw[y,d1] at z;cases z) z
   have el4:=s4 _ _ hl2 d2;refine⟨_,Iu,Iu,_,Iu,E9 ?_⟩
   refine⟨_,Iu,.inl ⟨Iu,_,Iv el4⟩,_,Iu,l,as.map V.ref,.ref p,Iu,Iu,el4,k9 (by
    have:=d_ d3
    rw[EV,this];lia),?_⟩
   have t8:∀b xs,H4 b=some (.tup xs)->upd H4 l (.lst (as.map V.ref++[.ref p])) b=some (.tup xs):=λb xs q=>by
    have:b≠l:=λz=>by rw[z,el4] at q;cases q
    rw[j9 this];exact q
   refine⟨λb u z=>?_,kvs',as++[p],ks++[k],by rw[j9 (Im hl2)];exact d1',by rw[c9,HE];rfl,Fr (m8.same (λb xs q=>t8 _ _ (tp _ _ q)) d3) (y8.same t8 hc),λk' hk'=>?_,?_,by rw[EU,Fj];lia,by lia,λd=>?_,_,_,Iu⟩
   ·have h1:b≠l:=n5 z hlH
    have h2:b≠hd:=n5 z hhd;rw[j9 h1];exact s4 _ _ h2 (s3 _ _ z)
   ·rcases q_.mp hk' with q|q
    ·exact d4 k' q
    ·rw[Fx] at q
     rw[q];exact hk
   ·rw[FW]
    refine⟨d5,HU _ _,λk1 hk1 k2 hk2=>?_⟩;rw[Fx] at hk2;subst hk2
    intro d g1 g2
    exact fr d g2 ((d8 d).mpr ⟨k1,hk1,g1⟩)
   ·rw[t9,d8]
    constructor
    ·rintro(⟨k1,g1,g2⟩|g)
     ·exact⟨k1,r_ _ g1,g2⟩
     ·exact⟨k,Es _ (Fx.mpr rfl),g⟩
    ·rintro⟨k1,g1,g2⟩
     rcases q_.mp g1 with g|g
     ·exact .inl ⟨k1,g,g2⟩
     ·rw[Fx] at g
      rw[g] at g2;exact .inr g2
 ·rintro σ H' ⟨s3,kvs,as,ks,d1,d2,d3,d4,d5,d6,d7,d8,v4,v5,rfl⟩
  obtain⟨its,t1,t2⟩:=da (K:=K) d3;have la:=d_ d3;have lk:=d_ t2;have gd:∀(i:Nat) k,ks[i]? = some k->ks.getD i ⟨0,[],0⟩=k:=λi k e=>by rw[List.getD,e];rfl
  have uniq:∀(i j:Nat) k k',ks[i]? = some k->ks[j]? = some k'->k.c=k'.c->i=j:=λi j k k' e1 e2 hc=>by
   rcases Hr i j with hij|hij|hij
   ·obtain⟨q1,z1⟩:=s_.mp e1
    obtain⟨q2,z2⟩:=s_.mp e2
    have:=(FR.mp d5) i j q1 q2 hij
    rw[z1,z2] at this;exact absurd hc this.caller
   ·exact hij
   ·obtain⟨q1,z1⟩:=s_.mp e1
    obtain⟨q2,z2⟩:=s_.mp e2
    have:=(FR.mp d5) j i q2 q1 hij
    rw[z1,z2] at this;exact absurd hc.symm this.caller
  have back:∀(i:Nat) x,its[i]? = some x->∃k e,ks[i]? = some k/\x=[V.int k.c,V.ref e,V.int k.k]:=λi x hx=>by
   have hi:=(s_.mp hx).1;have ek:ks[i]? = some (ks[i]'(by lia)):=Gb (by lia)
   obtain⟨x',e1,e,e2⟩:=j7 t2 i _ ek;rw[hx] at e1
   cases e1
   exact⟨_,e,ek,e2⟩
  refine⟨_,Iu,l,as,its,λi=>(ks.getD i ⟨0,[],0⟩).c,Iu,Iv d2,t1,by lia,λi j x y hx hy=>?_,λpq pm up l2 hl2=>?_⟩
  ·obtain⟨k,e,e1,rfl⟩:=back i x hx
   obtain⟨k',e',e2,rfl⟩:=back j y hy
   show(if k.c=k'.c then dA [V.ref e,V.int k.k] [V.ref e',V.int k'.k] else some (decide (k.c<k'.c)))=some (decide ((ks.getD i ⟨0,[],0⟩).c<(ks.getD j ⟨0,[],0⟩).c))
   rw[gd i k e1,gd j k' e2]
   by_cases c:k.c=k'.c
   ·obtain rfl:=uniq i j k k' e1 e2 c
    rw[hx] at hy;rw[e1] at e2
    cases e2
    cases hy
    rw[Ik rfl]
    show(if e=e then (if k.k=k.k then dA [] [] else some (decide (k.k<k.k))) else none)=_
    rw[Ik rfl,Ik rfl,b_ (Int.lt_irrefl _)];rfl
   ·rw[Il c]
  ·rw[la] at pm up
   obtain⟨g1,g2⟩:=kE (xs:=ks) pm up ⟨0,[],0⟩ Call.c λi _=>rfl
   have hin:∀i∈pq.toList,i<ks.length:=λi hi=>by
    have:=(GQ pm (a:=i)).mp (by simpa using hi)
    simpa using this
   have cs:=Z8 0 ⟨0,[],0⟩ d3 pq.toList hin;generalize (pq.toList.map λi=>ks.getD i ⟨0,[],0⟩)=ks' at g1 g2 cs;have fr':ks'.Pairwise (D7 h):=(List.Perm.pairwise_iff (λq=>D7.symm q) g1).mpr d5;refine q l2 _ ks' _ (s3.trans (g9 hl2 _)) c9 (m8.same (λb xs q=>g9 hl2 _ _ _ q) cs) (λk hk=>d4 k (g1.mem_iff.mp hk)) ?_ fr' (by rw[g1.length_eq];lia)
   exact(g2.and fr').imp λ{k k'} ⟨q1,q2⟩=>by
    have:=q2.caller
    lia
def N7 (x y:V):Prop:=(x=.non/\y=.non)\/∃i:Int,x=.int i/\y=.int i
def Q8 (H:Hp):Nat->V->V->Prop
 | 0,x,y=>N7 x y
 | n+1,x,y=>N7 x y\/∃(p q:Addr)(xs ys:List V),x=.ref p/\y=.ref q/\((H p=some (.lst xs)/\H q=some (.lst ys))\/(H p=some (.tup xs)/\H q=some (.tup ys)))/\Paired (Q8 H n) xs ys/\xs.length<=1000
def V1 (n:Nat):Sp:=λvs H Q _=>∃x y,vs=[x,y]/\Q8 H n x y/\Q (.bl true) H
theorem N7.at {n:Nat}(h:N7 x y):Q8 H n x y:=by
 cases n with
 | zero=>exact h
 | succ n=>exact .inl h
theorem W0 {n:Nat}:∀ns:List Int,Paired (Q8 H n) (ns.map V.int) (ns.map V.int)
 | []=>.nil
 | i::t=>.cons (N7.at (.inr ⟨i,Iu,Iu⟩)) (W0 t)
def jn {st:Stmt}(D:Def K mg x st ps)(k:Nat):i6 P w K mg base k x ps (λ_ _ _ _=>False):=by
 obtain⟨f,fd,F,b,m⟩:=D.ex;exact⟨f,fd,⟨λ_ _ _ _ h=>h.elim,λ_ _ _ _ _ _ _ _ _ _ _ _ _ h=>h.elim⟩,b,F.kp,m⟩
def aL:FnScope ["_law_found_here","_law_due_here","_law_k"] ["_law_found_here","_law_due_here"] (i4 (top 63)):=mkF
def fW {P:Program}{w:World}{base:Heap}(T:Txt K mg)(n:Nat)(sp:Sp)(zW:i6 P w K mg base n "_law_alike" p_7 sp)(D:Def K mg "_law_alike" (top 63) p_7)(hsp:∀m,n=m+1->sp=V1 m):i6 P w K mg base (n+1) "_law_alike" p_7 (V1 n):=by
 refine D.ok aL (λ_ _ _ _ h=>?_) (λ_ _ _ _ _ H _ Q E hr h=>?_)
 ·obtain⟨x,y,rfl,_⟩:=h
  rfl
 obtain⟨x,y,rfl,hA,q⟩:=h
 refine⟨_,(d9 (n6 (k8 M9 (pv 1) o5 (m6 _)) (h9 (j5 (F3 M9 (pv 0) o5 (m6 _)))) l7)
  (d9 (n6 (B0 K (j6 (D4 K) rfl T.zK HV (a8 (pv 1) (a8 (N3 (v:=.ty "int") rfl T.BS boot_int rfl) c7 a9) a9)) (λ_=>rfl)) (h9 (j5 (T8 (j6 (D4 K) rfl T.zK HV (a8 (pv 0) (a8 (N3 (v:=.ty "int") rfl T.BS boot_int rfl) c7 a9) a9)) (T8 (oB (j6 (D4 K) rfl T.zK HV (a8 (pv 0) (a8 (N3 (v:=.ty "bool") rfl T.CT boot_bool rfl) c7 a9) a9))) (Y8 (F3 E4 (pv 0) (pv 1) (m6 _))))))) l7)
  (d9 (n6 (B0 K (j6 (D4 K) rfl T.zK HV (a8 (pv 1) (a8 (N3 (v:=.ty "tuple") rfl T.Ak HM rfl) c7 a9) a9)) (λ_=>rfl)) (h9 (n6 (F0 (B0 K (j6 (D4 K) rfl T.zK HV (a8 (pv 0) (a8 (N3 (v:=.ty "tuple") rfl T.Ak HM rfl) c7 a9) a9)) (λ_=>rfl))) (h9 (j5 F2)) l7)) (h9 (n6 (F0 (B0 K (j6 (D4 K) rfl T.zK HV (a8 (pv 0) (a8 (N3 (v:=.ty "list") rfl T.Ap HW rfl) c7 a9) a9)) (λ_=>rfl))) (h9 (j5 F2)) l7)))
  (d9 (n6 (k8 iJ (j6 (y9 K) rfl T.zY HF (a8 (pv 0) c7 a9)) (j6 (y9 K) rfl T.zY HF (a8 (pv 1) c7 a9)) (m6 _)) (h9 (j5 F2)) l7)
  (d9 (w5 HI rfl (C8 rfl T.zZ (a8 (j6 (y9 K) rfl T.zY HF (a8 (pv 1) c7 a9)) c7 n9)) (l8 (i:=2) aL.nd Iu Ix)
  (h9 (n6 (F0 (B0 K (l9 zW hr Iu (a8 (i8 uD (pv 0) (pv 2)) (a8 (i8 uD (pv 1) (pv 2)) c7 m5) m5) (Eo _)) (λ_=>rfl))) (h9 (j5 F2)) l7)))
  (h9 (j5 F2))))))),?_⟩
 have hB:N7 x y\/∃m,n=m+1/\∃(p q:Addr)(xs ys:List V),x=.ref p/\y=.ref q/\((H p=some (.lst xs)/\H q=some (.lst ys))\/(H p=some (.tup xs)/\H q=some (.tup ys)))/\Paired (Q8 H m) xs ys/\xs.length<=1000:=by
  cases n with
  | zero=>exact .inl hA
  | succ m=>exact hA.imp id λz=>⟨m,Iu,z⟩
 rcases hB with(⟨rfl,rfl⟩|⟨i,rfl,rfl⟩)|⟨m,rfl,p,r,xs,ys,rfl,rfl,hk,hp,h1000⟩
 ·exact⟨_,Iu,Iu,_,Iu,E9 ⟨_,Iu,Iu,q⟩⟩
 ·refine⟨_,Iu,Iu,_,Iu,B9 ?_⟩
  refine⟨_,Iu,_,_,_,true,Iu,.int i,Y5,true,Iu,E9 ?_⟩;refine⟨_,Iu,_,_,_,true,Iu,.int i,Y5,_,Iu,E9 ?_⟩;refine⟨_,Iu,_,_,_,false,Iu,.int i,bV,_,Iu,_,Iu,E9 ?_⟩;refine⟨_,Iu,_,Iu,Iu,?_⟩;rw[Fm rfl];exact q
 ·obtain rfl:=hsp m rfl
  have ln:=d_ hp;refine⟨_,Iu,Iu,_,Iu,B9 ?_⟩
  rcases hk with⟨k1,k2⟩|⟨k1,k2⟩
  ·refine⟨_,Iu,_,_,_,false,Iu,.lst k2,kT,false,Iu,B9 ?_⟩
   refine⟨_,Iu,_,_,_,false,Iu,.lst k2,di,false,Iu,B9 ?_⟩;refine⟨_,Iu,_,_,_,true,Iu,.lst k1,db,true,Iu,B9 ?_⟩;refine⟨_,Iu,p,_,Iu,.inl (Iv k1),_,Iu,r,_,Iu,.inl (Iv k2),Iu,_,Iu,ou (by simp[ln]) ?_⟩
   refine⟨_,Iu,r,_,Iu,.inl (Iv k2),_,Iu,by lia,by lia,?_⟩
   rw[EW];refine E3 (λi σ H'=>H'=H/\∃v,σ=[Iq p,Iq r,v]) ⟨Iu,_,Iu⟩ ?_ ?_
   ·rintro i σ H' hi ⟨rfl,v,rfl⟩
    rw[HN];have ex:xs[i]? = some (xs[i]'(by lia)):=Gb (by lia)
    obtain⟨y,ey,al⟩:=j7 hp i _ ex;refine⟨_,Iu,_,Iu,.inl ⟨p,_,_,_,Iu,Iu,Iv k1,C4 ex,_,Iu,_,Iu,.inl ⟨r,_,_,_,Iu,Iu,Iv k2,C4 ey,_,_,Iu,al,_,Iu,B9 ⟨Iu,_,Iu⟩⟩⟩⟩
   ·rintro σ H' ⟨rfl,v,rfl⟩
    exact q
  ·refine⟨_,Iu,_,_,_,false,Iu,.tup k2,lZ,false,Iu,B9 ?_⟩
   refine⟨_,Iu,_,_,_,true,Iu,.tup k2,Y2,true,Iu,E9 ?_⟩;refine⟨_,Iu,_,_,_,true,Iu,.tup k1,Y2,true,Iu,B9 ?_⟩;refine⟨_,Iu,p,_,Iu,.inr (Iw k1),_,Iu,r,_,Iu,.inr (Iw k2),Iu,_,Iu,ou (by simp[ln]) ?_⟩
   refine⟨_,Iu,r,_,Iu,.inr (Iw k2),_,Iu,by lia,by lia,?_⟩
   rw[EW];refine E3 (λi σ H'=>H'=H/\∃v,σ=[Iq p,Iq r,v]) ⟨Iu,_,Iu⟩ ?_ ?_
   ·rintro i σ H' hi ⟨rfl,v,rfl⟩
    rw[HN];have ex:xs[i]? = some (xs[i]'(by lia)):=Gb (by lia)
    obtain⟨y,ey,al⟩:=j7 hp i _ ex;refine⟨_,Iu,_,Iu,.inr (.inl ⟨p,_,_,_,Iu,Iu,Iw k1,C4 ex,_,Iu,_,Iu,.inr (.inl ⟨r,_,_,_,Iu,Iu,Iw k2,C4 ey,_,_,Iu,al,_,Iu,B9 ⟨Iu,_,Iu⟩⟩)⟩)⟩
   ·rintro σ H' ⟨rfl,v,rfl⟩
    exact q
theorem fN (T:Txt K mg)(D:Def K mg "_law_alike" (top 63) p_7):∀n,i6 P w K mg base (n+1) "_law_alike" p_7 (V1 n)
 | 0=>fW T 0 _ (jn D 0) D λm h=>nomatch h
 | n+1=>fW T (n+1) _ (fN T D n) D λm h=>by cases h;rfl
def i7 (h:j8)(es:List Int):List Int:=A6 (es.map λe=>e/h.e)
def R8 (K:Frag)(d:j8->Int):Sp:=λvs H Q _=>∃(a:Addr)(h:j8)(x:Int),vs=[.ref a,.int x]/\SqT K H a (h.row.map V.int)/\h.Ok/\∀p,H p=none->Q (.ref p) (upd H p (.tup [.int (x/d h),.int (x%d h)]))
def T0 (K:Frag):Sp:=λvs H Q _=>∃(a p:Addr)(h:j8)(es:List Int),vs=[.ref a,.ref p]/\SqT K H a (h.row.map V.int)/\h.Ok/\(SqT K H p (es.map V.int)\/SqL K H p (es.map V.int))/\es.length<64/\∀(l:Addr)(H':Hp),i9 H H'->H l=none->H' l=some (.lst ((i7 h es).map V.int))->Q (.ref l) H'
def kH:FnScope ["hall","caller"] ["hall","caller"] (i4 (top 14)):=mkF
def lO (T:Txt K mg)(D:Def K mg "place_in" (top 14) p_31):i6 P w K mg base 1 "place_in" p_31 (R8 K j8.c):=by
 refine D.ok kH (λ_ _ _ _ h=>?_) (λ_ _ _ _ _ H _ Q E hr h=>?_)
 ·obtain⟨a,h,x,rfl,_⟩:=h
  rfl
 obtain⟨a,h,x,rfl,hS,ok,q⟩:=h;have b:=ok.c;refine⟨_,(h9 (j5 (j6 dh rfl T.BT boot_divmod (a8 (pv 1) (a8 (i8 (i5 K) (pv 0) h7) c7 m5) a9)))),?_⟩;exact⟨_,Iu,_,Iu,a,_,_,_,Iu,Iu,hS,Iu,_,_,Iu,⟨by lia,by lia⟩,q⟩
def ju:FnScope ["hall","end"] ["hall","end"] (i4 (top 15)):=mkF
def iV (T:Txt K mg)(D:Def K mg "place_out" (top 15) p_59):i6 P w K mg base 1 "place_out" p_59 (R8 K j8.e):=by
 refine D.ok ju (λ_ _ _ _ h=>?_) (λ_ _ _ _ _ H _ Q E hr h=>?_)
 ·obtain⟨a,h,x,rfl,_⟩:=h
  rfl
 obtain⟨a,h,x,rfl,hS,ok,q⟩:=h;have b:=ok.e;refine⟨_,(h9 (j5 (j6 dh rfl T.BT boot_divmod (a8 (pv 1) (a8 (i8 (i5 K) (pv 0) h7) c7 m5) a9)))),?_⟩;exact⟨_,Iu,_,Iu,a,_,_,_,Iu,Iu,hS,Iu,_,_,Iu,⟨by lia,by lia⟩,q⟩
def lq:FnScope ["hall","ends"] ["hall","ends"] (i4 (top 17)):=mkF
def sE (T:Txt K mg)(Bj:i6 P w K mg base 1 "place_out" p_59 (R8 K j8.e))(D:Def K mg "racks_of" (top 17) p_24):i6 P w K mg base 2 "racks_of" p_24 (T0 K):=by
 refine D.ok lq (λ_ _ _ _ h=>?_) (λ_ _ _ _ _ H _ Q E hr h=>?_)
 ·obtain⟨a,p,h,es,rfl,_⟩:=h
  rfl
 obtain⟨a,p,h,es,rfl,hH,ok,hS,h64,q⟩:=h;have hl:(es.map V.int).length=es.length:=EV _;have sz:(es.map V.int).length<=sizeLine:=by rw[hl];exact l_ (k9 (by lia))
 have fin:∀(H':Hp),i9 H H'->∀l,H' l=none->wt K P w [.ref l] (upd H' l (.lst ((es.take (es.map V.int).length).map λe=>V.int (e/h.e)))) λx H1=>ki P w [x] H1 Q:=λH' s1 l hl'=>by
  rw[hl,HB];have e1:upd H' l (.lst (es.map λe=>V.int (e/h.e))) l=some (.lst ((es.map λe=>e/h.e).map V.int)):=by rw[c9,GV];rfl
  have s2:=s1.trans (g9 hl' (.lst (es.map λe=>V.int (e/h.e))));generalize upd H' l _=H2 at e1 s2 ⊢;refine⟨l,_,Iu,Iv e1,by rw[EV];lia,λl2 hl2=>?_⟩
  refine⟨l2,_,Iu,c9,by rw[EV];lia,λl3 hl3=>?_⟩
  exact q l3 _ ((s2.trans (g9 hl2 _)).trans (g9 hl3 _)) ((s2.trans (g9 hl2 _)).free hl3) c9
 rcases hS with hS|hS
 ·refine⟨_,(h9 (j5 (j6 (aO P w rfl) rfl T.Aa HP (a8 (w9 (aC K P w rfl) rfl T.Bz boot_set (a8 (B3 (own:=["end"]) (fr:=[(0,"hall")]) rfl (mkC ["hall","ends"] (i4 (top 17))) (dP K (pv 1)) (λcl C s H ex=>⟨(l8 (i:=0) (show(["end","hall"]:List Str).Nodup from by decide +kernel) Iu Ix Iy),F1,(i8 (i5 K) (l9 Bj hr Iu (a8 (pv 1) (a8 (pv 0) c7 a9) a9)) h7)⟩)) c7 Q9)) c7 n9)))),?_⟩
  refine⟨_,Iu,p,Iu,⟨_,hS⟩,?_⟩
  refine gk (xs:=es.map V.int) (λi acc σ H'=>i9 H H'/\acc=(es.take i).map (λe=>V.int (e/h.e))/\∃v,σ=[v,Iq a])
   ⟨i9.refl H,Iu,none,Iu⟩ sz (λi acc σ H' g=>?_) (λi acc σ H' _ g=>i9.seqT g.1 hS) ?_ ?_
  ·obtain⟨_,rfl,_⟩:=g
   rw[EV,EM];lia
  ·rintro i y acc σ H' hy ⟨s1,rfl,v,rfl⟩
   rw[ER] at hy;obtain⟨e,he,rfl⟩:=Hg.mp hy;refine⟨_,Iu,_,Iu,a,h,e,Iu,i9.seqT s1 hH,ok,λr hr2=>⟨r,_,_,_,Iu,Iu,Iw c9,Iu,s1.trans (g9 hr2 _),?_,_,Iu⟩⟩;rw[HA,he,HE];rfl
  ·rintro acc σ H' ⟨s1,rfl,v,rfl⟩ l hl'
   exact fin H' s1 l hl'
 ·refine⟨_,(h9 (j5 (j6 (aO P w rfl) rfl T.Aa HP (a8 (w9 (aC K P w rfl) rfl T.Bz boot_set (a8 (B3 (own:=["end"]) (fr:=[(0,"hall")]) rfl (mkC ["hall","ends"] (i4 (top 17))) (m7 K (pv 1)) (λcl C s H ex=>⟨(l8 (i:=0) (show(["end","hall"]:List Str).Nodup from by decide +kernel) Iu Ix Iy),F1,(i8 (i5 K) (l9 Bj hr Iu (a8 (pv 1) (a8 (pv 0) c7 a9) a9)) h7)⟩)) c7 Q9)) c7 n9)))),?_⟩
  refine⟨_,Iu,p,Iu,⟨_,hS⟩,?_⟩
  refine A2 (xs:=es.map V.int) (λi acc σ H'=>i9 H H'/\acc=(es.take i).map (λe=>V.int (e/h.e))/\∃v,σ=[v,Iq a])
   ⟨i9.refl H,Iu,none,Iu⟩ sz (λi acc σ H' g=>?_) (λi acc σ H' _ g=>g.1.seq hS) ?_ ?_
  ·obtain⟨_,rfl,_⟩:=g
   rw[EV,EM];lia
  ·rintro i y acc σ H' hy ⟨s1,rfl,v,rfl⟩
   rw[ER] at hy;obtain⟨e,he,rfl⟩:=Hg.mp hy;refine⟨_,Iu,_,Iu,a,h,e,Iu,i9.seqT s1 hH,ok,λr hr2=>⟨r,_,_,_,Iu,Iu,Iw c9,Iu,s1.trans (g9 hr2 _),?_,_,Iu⟩⟩;rw[HA,he,HE];rfl
  ·rintro acc σ H' ⟨s1,rfl,v,rfl⟩ l hl'
   exact fin H' s1 l hl'
def x6 {r:Int}:r∈i7 h es↔∃e∈es,e/h.e=r:=by
 unfold i7;rw[D3,GX]
def O6 (h:j8)(es:List Int):(i7 h es).length<=es.length:=by
 have:=aB (es.map λe=>e/h.e)
 rw[EV] at this;exact this
def z9 (h:j8)(side:Bool)(r kk:Int)(k:Call):Bool:=decide (k.k=kk)&&(if side then decide (r∈i7 h k.es) else decide (k.c/h.c=r))
def nA (h:j8)(as:List Addr)(ks:List Call)(side:Bool)(r kk:Int)(v:Option V):Prop :=
 (v=none/\∀k∈ks,z9 h side r kk k=false)\/∃(j:Nat)(a:Addr)(k:Call),as[j]? = some a/\ks[j]? = some k/\z9 h side r kk k=true/\v=some (.ref a)
theorem bX {side:Bool}{r kk:Int}{k k':Call}(f:D7 h k k')(h1:z9 h side r kk k=true):z9 h side r kk k'=false:=by
 rw[Gq]
 intro h2
 unfold z9 at h1 h2;rw[Fd] at h1 h2;have e1:=GT h1.1;have e2:=GT h2.1
 cases side with
 | false =>
  have g1:k.c/h.c=r:=GT h1.2;have g2:k'.c/h.c=r:=GT h2.2;exact f (nIn r kk) (A1.mpr (.inl (by rw[g1,e1]))) (A1.mpr (.inl (by rw[g2,e2])))
 | true =>
  have g1:r∈i7 h k.es:=GT h1.2;have g2:r∈i7 h k'.es:=GT h2.2;obtain⟨x,x1,x2⟩:=x6.mp g1;obtain⟨y,y1,y2⟩:=x6.mp g2;exact f (K7 r kk) (A1.mpr (.inr (.inl ⟨x,x1,by rw[x2,e1]⟩))) (A1.mpr (.inr (.inl ⟨y,y1,by rw[y2,e2]⟩)))
theorem nA.find {ks:List Call}{side:Bool}{r kk:Int}(fr:ks.Pairwise (D7 h))(q:nA h as ks side r kk v) :
  (ks.find? (z9 h side r kk)=none/\v=none)\/∃(j:Nat)(a:Addr)(k:Call),as[j]? = some a/\ks[j]? = some k/\ks.find? (z9 h side r kk)=some k/\v=some (.ref a):=by
 rcases q with⟨rfl,no⟩|⟨j,a,k,ha,hk,hh,rfl⟩
 ·exact .inl ⟨Hv.mpr λx hx=>by rw[no x hx];exact Ei,Iu⟩
 ·refine .inr ⟨j,a,k,ha,hk,?_,Iu⟩
  cases e:ks.find? (z9 h side r kk) with
  | none=>exact absurd hh (by rw[Hv] at e;exact e k (ET hk))
  | some k' =>
   have h1:=Ht e;obtain⟨j',hj'⟩:=HX.mp (Hu e);obtain⟨q1,z1⟩:=s_.mp hk;obtain⟨q2,z2⟩:=s_.mp hj'
   rcases Hr j j' with g|g|g
   ·have:=(FR.mp fr) j j' q1 q2 g
    rw[z1,z2] at this;rw[bX this hh] at h1
    cases h1
   ·subst g
    rw[hk] at hj';rw[hj']
   ·have:=(FR.mp fr) j' j q2 q1 g
    rw[z1,z2] at this;rw[bX this h1] at hh
    cases hh
def F4 (h:j8)(ks:List Call)(a b:Int):Nat->Bool->Int->List Int->Option (List Int)
 | 0,_,_,acc=>some acc
 | n+1,side,r,acc=>match ks.find? (z9 h side r (if side then a else b)) with
  | none=>some acc
  | some k=>if k.c∈acc then some acc else if 1<(i7 h k.es).length then none else F4 h ks a b n (!side) (if side then k.c/h.c else (i7 h k.es).headD 0) (acc++[k.c])
def fG (s:Bool):Int:=if s then 1 else 0
def wR (H:Hp)(v:V)(o:Option (List Int)):Prop:=(o=none/\v=.non)\/∃l ns,o=some ns/\v=.ref l/\H l=some (.lst (ns.map V.int))
structure C2 (K:Frag)(H:Hp)(p l:Addr)(h:j8)(as:List Addr)(ks:List Call):Prop where
 p:SqT K H p (h.row.map V.int)
 ok:h.Ok
 l:SqL K H l (as.map V.ref)
 c:m8 H as ks
 hin:∀k∈ks,k.In h
 few:ks.length<=63
theorem C2.same {K:Frag}{H H':Hp}{p l:Addr}{h:j8}{as:List Addr}{ks:List Call}(s:i9 H H')(q:C2 K H p l h as ks):C2 K H' p l h as ks :=
 ⟨i9.seqT s q.p,q.ok,s.seq q.l,m8.same (λb xs z=>s _ _ z) q.c,q.hin,q.few⟩
def X6 (K:Frag):Sp:=λvs H Q _=>∃(p a:Addr)(h:j8)(k:Call),vs=[.ref p,.ref a]/\SqT K H p (h.row.map V.int)/\h.Ok/\y8 H a k/\k.In h/\∀(l:Addr)(H':Hp),i9 H H'->H l=none->H' l=some (.lst ((k.c/h.c::i7 h k.es).map V.int))->Q (.ref l) H'
def uU (K:Frag)(side:Bool):Sp:=λvs H Q _=>∃(p l:Addr)(h:j8)(as:List Addr)(ks:List Call)(kk:Int),vs=[.ref p,.ref l,.int kk]/\C2 K H p l h as ks/\∀(d:Addr)(kvs:List (Key×V))(H':Hp),i9 H H'->H' d=some (.dK kvs)->(∀r:Int,nA h as ks side r kk (A8 kvs (.inl r)))->Q (.ref d) H'
def Z5 (K:Frag):Sp:=λvs H Q _=>∃(p l:Addr)(h:j8)(as:List Addr)(ks:List Call)(side:Bool)(r a b:Int),vs=[.ref p,.ref l,.int (fG side),.int r,.int a,.int b]/\C2 K H p l h as ks/\ks.Pairwise (D7 h) /\
 ∀(v:V)(H':Hp),i9 H H'->(∀x,v=.ref x->H x=none)->wR H' v (F4 h ks a b 64 side r [])->Q v H'
def dR (K:Frag)(side:Bool):Sp:=λvs H Q _=>∃(p l:Addr)(h:j8)(as:List Addr)(ks:List Call)(r a b:Int),vs=[.ref p,.ref l,.int r,.int a,.int b]/\C2 K H p l h as ks/\ks.Pairwise (D7 h) /\
 ∀(v:V)(H':Hp),i9 H H'->(∀x,v=.ref x->H x=none)->wR H' v (F4 h ks a b 64 side r [])->Q v H'
def uI (ps:List (Key×V))(key:Key):(A8 (X8 ps) key=none/\∀p∈ps,p.1≠key)\/∃p∈ps,p.1=key/\A8 (X8 ps) key=some p.2:=by
 have go:∀(n:Nat)(ps:List (Key×V)),ps.length=n->(A8 (X8 ps) key=none/\∀p∈ps,p.1≠key)\/∃p∈ps,p.1=key/\A8 (X8 ps) key=some p.2:=by
  intro n
  induction n with
  | zero =>
   intro ps hl
   rw[Ha.mp hl];exact .inl ⟨Iu,λp hp=>nomatch hp⟩
  | succ n ih =>
   intro ps hl
   obtain⟨qs,p,rfl⟩:∃qs p,ps=qs++[p]:=⟨ps.dropLast,ps.getLast (by intro z;rw[z] at hl;cases hl),(List.dropLast_concat_getLast _).symm⟩
   rw[eC,U5]
   by_cases e:key=p.1
   ·rw[Ik e]
    exact .inr ⟨p,Es _ (Fx.mpr rfl),e.symm,Iu⟩
   ·rw[Il e]
    rcases ih qs (by simpa using hl) with⟨h1,h2⟩|⟨q,h1,h2,h3⟩
    ·refine .inl ⟨h1,λx hx=>?_⟩
     rcases q_.mp hx with z|z
     ·exact h2 x z
     ·rw[Fx] at z
      rw[z];exact Im e
    ·exact .inr ⟨q,r_ _ h1,h2,h3⟩
 exact go _ ps rfl
def gG:FnScope ["hall","call"] ["hall","call"] (i4 (top 40)):=mkF
def gz (T:Txt K mg)(zX:i6 P w K mg base 1 "place_in" p_31 (R8 K j8.c))(zV:i6 P w K mg base 2 "racks_of" p_24 (T0 K))(D:Def K mg "call_racks" (top 40) p_39):i6 P w K mg base 3 "call_racks" p_39 (X6 K):=by
 refine D.ok gG (λ_ _ _ _ h=>?_) (λ_ _ _ _ _ H _ Q E hr h=>?_)
 ·obtain⟨p,a,h,k,rfl,_⟩:=h
  rfl
 obtain⟨p,a,h,k,rfl,hP,ok,⟨ce,e1,e2⟩,hk,q⟩:=h;have few:=hk.few;refine⟨_,(h9 (j5 (l6 aU (r6 (a8 (i8 (i5 K) (l9 zX hr Iu (a8 (pv 0) (a8 (i8 (i5 K) (pv 1) h7) c7 m5) a9)) h7) c7 m5)) (l9 zV hr Iu (a8 (pv 0) (a8 (i8 (i5 K) (pv 1) h7) c7 m5) a9))))),?_⟩;refine⟨_,Iu,_,Iu,a,_,_,_,Iu,Iu,Iw e2,Iu,p,h,k.c,Iu,hP,ok,λt ht=>?_⟩;obtain⟨H1,Ip,s1,et⟩:=Io ht (.tup [.int (k.c/h.c),.int (k.c%h.c)]);rw[Ip];refine⟨t,_,_,_,Iu,Iu,Iw et,Iu,z_1,λl1 hl1=>?_⟩
 obtain⟨H2,Ip,s2,el⟩:=Io hl1 (.lst [.int (k.c/h.c)]);rw[Ip];have s12:=s1.trans s2;refine⟨_,Iu,_,Iu,a,_,_,_,Iu,Iu,Iw (s12 _ _ e2),Iu,p,ce,h,k.es,Iu,i9.seqT s12 hP,ok,.inl (Iw (s12 _ _ e1)),by lia,λl2 H3 s3 _ el2=>?_⟩
 have rl:=O6 h k.es;refine⟨l1,l2,_,_,Iu,Iu,s3 _ _ el,el2,(by rw[EV];show 1+_<=16777216;lia),λl3 hl3=>?_⟩
 exact q l3 _ ((s12.trans s3).trans (g9 hl3 _)) ((s12.trans s3).free hl3) c9
def fo:FnScope ["hall","calls","k"] ["hall","calls","k"] (i4 (top 41)):=mkF
def tJ {P:Program}{w:World}{base:Heap}(T:Txt K mg)(Aq:i6 P w K mg base 3 "call_racks" p_39 (X6 K))(D:Def K mg "calls_by_in" (top 41) p_23):i6 P w K mg base 4 "calls_by_in" p_23 (uU K false):=by
 refine D.ok fo (λ_ _ _ _ h=>?_) (λ_ _ _ _ _ H _ Q E hr h=>?_)
 ·obtain⟨p,l,h,as,ks,kk,rfl,_⟩:=h
  rfl
 obtain⟨p,l,h,as,ks,kk,rfl,hc,q⟩:=h;have la:=d_ hc.c;have h63:=hc.few;refine⟨_,(h9 (j5 (w9 (nS rfl) rfl T.Dk boot_dict (a8 (B3 (own:=["call"]) (fr:=[(0,"hall"),(2,"k")]) rfl (mkC ["hall","calls","k"] (i4 (top 41))) (m7 K (pv 1)) (λcl C s H ex=>⟨(l8 (i:=0) (show(["call","hall","k"]:List Str).Nodup from by decide +kernel) Iu Ix Iy),(K1 (k8 E4 (i8 (i5 K) (pv 0) h7) (pv 2) (m6 _))),(y7 (a8 (i8 (u7 K) (l9 Aq hr Iu (a8 (pv 1) (a8 (pv 0) c7 a9) a9)) h7) (a8 (pv 0) c7 a9) m5))⟩)) c7 Q9)))),?_⟩
 refine⟨_,Iu,l,Iu,⟨_,hc.l⟩,?_⟩
 refine A2 (xs:=as.map V.ref) (λi acc σ H'=>i9 H H'/\(∃(ts:List Addr)(ps:List (Key×V)),acc=ts.map V.ref/\Paired (λa (p:Key×V)=>H' a=some (.tup [kV p.1,p.2])) ts ps/\ps.length<=i /\
   (∀q∈ps,∃(j:Nat)(a:Addr)(k:Call),as[j]? = some a/\ks[j]? = some k/\k.k=kk/\q=(.inl (k.c/h.c),.ref a))/\∀(j:Nat)(k:Call),j<i->ks[j]? = some k->k.k=kk->∃q∈ps,q.1=.inl (k.c/h.c))/\∃v,σ=[v,Iq p,Ir kk])
  ⟨i9.refl _,⟨[],[],Iu,.nil,Eo _,(λq hq=>nomatch hq),λj k hj=>absurd hj (Hn _)⟩,none,Iu⟩ (l_ (k9 (by rw[EV];lia))) (λi acc σ H' g=>?_) (λi acc σ H' _ g=>g.1.seq hc.l) ?_ ?_
 ·obtain⟨_,⟨ts,ps,rfl,g1,g2,_⟩,_⟩:=g
  have:=d_ g1
  rw[EV];lia
 ·rintro i y acc σ H' hy ⟨s1,⟨ts,ps,rfl,g1,g2,g3,g4⟩,v,rfl⟩
  rw[ER] at hy;obtain⟨a,ha,rfl⟩:=Hg.mp hy;obtain⟨k,hk,hca⟩:=j7 hc.c i a ha;have hca1:=y8.same (λb xs z=>s1 _ _ z) hca;obtain⟨ce,e1,e2⟩:=id hca1;refine⟨_,Iu,a,_,_,_,Iu,Iu,Iw e2,Iu,_,Iu,Iu,_,Iu,?_⟩;refine B4 (λcc=>?_) (λcc=>?_)
  ·have cc':k.k=kk:=by simpa using cc
   refine⟨_,Iu,_,Iu,p,a,h,k,Iu,i9.seqT s1 hc.p,hc.ok,hca1,hc.hin k (ET hk),λlr H2 s2 _ er=>?_⟩;refine⟨lr,_,_,_,Iu,Iu,Iv er,(show atI ((k.c/h.c::i7 h k.es).map V.int) ((0:Nat):Int)=some (.int (k.c/h.c)) from C4 rfl),_,Iu,z_2,λt ht=>?_⟩
   have s3:=g9 ht (.tup [.int (k.c/h.c),.ref a]);refine⟨s1.trans (s2.trans s3),⟨ts++[t],ps++[(.inl (k.c/h.c),.ref a)],by rw[HE];rfl,?_,by rw[EU];show ps.length+1<=i+1;lia,λq hq=>?_,λj k' hj hk' hkk=>?_⟩,_,Iu⟩
   ·refine Fr (A5 g1 λa d _ e=>s3 _ _ (s2 _ _ e)) c9
   ·rcases q_.mp hq with z|z
    ·exact g3 q z
    ·rw[Fx] at z
     exact⟨i,a,k,ha,hk,cc',z⟩
   ·by_cases z:j=i
    ·subst z
     rw[hk] at hk'
     cases hk'
     exact⟨_,Es _ (Fx.mpr rfl),Iu⟩
    ·obtain⟨q,q1,q2⟩:=g4 j k' (by lia) hk' hkk
     exact⟨q,r_ _ q1,q2⟩
  ·have cc':¬k.k=kk:=by simpa using cc
   refine⟨s1,⟨ts,ps,Iu,g1,by lia,g3,λj k' hj hk' hkk=>?_⟩,_,Iu⟩
   by_cases z:j=i
   ·subst z
    rw[hk] at hk'
    cases hk'
    exact absurd hkk cc'
   ·exact g4 j k' (by lia) hk' hkk
 ·rintro acc σ H' ⟨s1,⟨ts,ps,rfl,g1,g2,g3,g4⟩,v,rfl⟩ lp hlp
  rw[EV] at g2 g4;have s2:=g9 hlp (.lst (ts.map V.ref));refine⟨lp,ts,ps,Iu,c9,A5 g1 λa d _ e=>s2 _ _ e,by lia,λd hd=>?_⟩
  refine q d _ _ ((s1.trans s2).trans (g9 hd _)) c9 λr=>?_
  rcases uI ps (.inl r) with⟨h1,h2⟩|⟨x,h1,h2,h3⟩
  ·refine .inl ⟨h1,λk hk=>?_⟩
   rw[Gq]
   intro z
   unfold z9 at z;rw[Fd] at z;obtain⟨j,hj⟩:=HX.mp hk;have hjl:=(s_.mp hj).1;obtain⟨x,x1,x2⟩:=g4 j k (by lia) hj (GT z.1)
   have z2:k.c/h.c=r:=GT z.2;exact h2 x x1 (by rw[x2,z2])
  ·obtain⟨j,a,k,ha,hk,hkk,rfl⟩:=g3 x h1
   refine .inr ⟨j,a,k,ha,hk,?_,h3⟩
   have e:k.c/h.c=r:=by
    have:(Sum.inl (k.c/h.c):Key)=.inl r:=h2
    exact a_ this
   unfold z9;rw[Fm hkk,HC];exact Fm e
def yU (h:j8)(as:List Addr)(ks:List Call)(kk:Int)(i n:Nat)(kvs:List (Key×V)):Prop:=∀r:Int,
 (A8 kvs (.inl r)=none/\(∀(j:Nat) k,j<i->ks[j]? = some k->z9 h true r kk k=false)/\∀k,ks[i]? = some k->k.k=kk->¬r∈(i7 h k.es).take n) \/
 ∃(j:Nat)(a:Addr)(k:Call),as[j]? = some a/\ks[j]? = some k/\z9 h true r kk k=true/\A8 kvs (.inl r)=some (.ref a)
def L7:FnScope ["hall","calls","k","found","call","rack"] ["hall","calls","k"] (i4 (top 42)):=mkF
def rX {P:Program}{w:World}{base:Heap}(T:Txt K mg)(zV:i6 P w K mg base 2 "racks_of" p_24 (T0 K))(D:Def K mg "calls_by_out" (top 42) p_23):i6 P w K mg base 3 "calls_by_out" p_23 (uU K true):=by
 refine D.ok L7 (λ_ _ _ _ h=>?_) (λ_ _ _ _ _ H _ Q E hr h=>?_)
 ·obtain⟨p,l,h,as,ks,kk,rfl,_⟩:=h
  rfl
 obtain⟨p,l,h,as,ks,kk,rfl,hc,q⟩:=h;have la:=d_ hc.c;have h63:=hc.few
 refine⟨_,(d9 (j4 (i:=3) L7.nd Iu Ix kA)
  (d9 (w5 HI rfl (m7 K (pv 1)) (l8 (i:=4) L7.nd Iu Ix)
  (h9 (n6 (k8 E4 (i8 (i5 K) (pv 4) h7) (pv 2) (m6 _)) (h9 (w5 HI rfl (m7 K (l9 zV hr Iu (a8 (pv 0) (a8 (i8 (i5 K) (pv 4) h7) c7 m5) a9))) (l8 (i:=5) L7.nd Iu Ix)
  (h9 (bx (Q4 hr) (pv 3) (pv 5) (pv 4) rfl)))) l7)))
  (h9 (j5 (pv 3))))),?_⟩
 refine λd hd=>?_;obtain⟨H1,Ip,s1,ed⟩:=Io hd (.dK []);rw[Ip];refine⟨_,Iu,l,Iu,⟨_,s1.seq hc.l⟩,?_⟩
 refine o9 (xs:=as.map V.ref) (λi σ H'=>i9 H H'/\(∃kvs,H' d=some (.dK kvs)/\kvs.length<=12*i/\yU h as ks kk i 0 kvs)/\∃v4 v5,σ=[Iq p,Iq l,Ir kk,Iq d,v4,v5])
  ⟨s1,⟨[],ed,Eo _,λr=>.inl ⟨Iu,(λj k hj=>absurd hj (Hn _)),λk _ _ hm=>by rw[HY] at hm;cases hm⟩⟩,none,none,Iu⟩ (λi σ H' _ g=>g.1.seq hc.l) ?_ ?_
 ·rintro i x σ H' hx ⟨s2,⟨kvs,ed2,hl,hD⟩,v4,v5,rfl⟩
  rw[ER] at hx;obtain⟨a,ha,rfl⟩:=Hg.mp hx;obtain⟨k,hk,hca⟩:=j7 hc.c i a ha;have hi:=(s_.mp hk).1;have hkI:=hc.hin k (ET hk);have few:=hkI.few;obtain⟨ce,e1,e2⟩:=y8.same (λb xs z=>s2 _ _ z) hca;refine⟨_,Iu,a,_,_,_,Iu,Iu,Iw e2,Iu,_,Iu,Iu,_,Iu,?_⟩;refine B4 (λcc=>?_) (λcc=>?_)
  ·have cc':k.k=kk:=by simpa using cc
   refine⟨_,Iu,_,Iu,a,_,_,_,Iu,Iu,Iw e2,Iu,p,ce,h,k.es,Iu,i9.seqT s2 hc.p,hc.ok,.inl (Iw e1),by lia,λlr H3 s3 hlr er=>?_⟩
   have s23:=s2.trans s3;have nlr:lr≠d:=λz=>by rw[z,ed2] at hlr;cases hlr
   have rl:=O6 h k.es;refine⟨lr,Iu,⟨_,Iv er⟩,?_⟩
   refine o9 (xs:=(i7 h k.es).map V.int) (λn σ H'=>i9 H H'/\H' lr=some (.lst ((i7 h k.es).map V.int))/\(∃kvs,H' d=some (.dK kvs)/\kvs.length<=12*i+n/\yU h as ks kk i n kvs)/\∃v5,σ=[Iq p,Iq l,Ir kk,Iq d,Iq a,v5])
    ⟨s23,er,⟨kvs,s3 _ _ ed2,by lia,hD⟩,_,Iu⟩ (λn σ H' _ g=>Iv g.2.1) ?_ ?_
   ·rintro n y σ H' hy ⟨g1,g2,⟨kvs,g3,g4,g5⟩,v5,rfl⟩
    rw[ER] at hy;obtain⟨r',hr',rfl⟩:=Hg.mp hy;have hn:=(s_.mp hr').1;refine⟨_,Iu,_,Iu,_,Iu,d,_,Iu,gm.k (k:=.inl r') g3 (by show kvs.length<16777216;lia),?_⟩
    refine⟨i9.put g1 hd,by rw[j9 nlr];exact g2,⟨_,c9,?_,λr=>?_⟩,_,Iu⟩
    ·have:=J4 kvs (Sum.inl r':Key) (V.ref a)
     lia
    ·rw[U5]
     by_cases z:(Sum.inl r:Key)=.inl r'
     ·have z':r=r':=a_ z
      subst z';rw[Ik rfl];refine .inr ⟨i,a,k,ha,hk,?_,Iu⟩;unfold z9;rw[Fm cc',HC];exact Fm (ET hr')
     ·rw[Il z]
      rcases g5 r with⟨x1,x2,x3⟩|x
      ·refine .inl ⟨x1,x2,λk' hk' hkk' hm=>?_⟩
       rw[hk] at hk'
       cases hk'
       rw[HA,hr'] at hm
       rcases q_.mp hm with m|m
       ·exact x3 k hk cc' m
       ·exact z (by rw[show r=r' by simpa using m])
      ·exact .inr x
   ·rintro σ H' ⟨g1,g2,⟨kvs,g3,g4,g5⟩,v5,rfl⟩
    rw[EV] at g4 g5;refine⟨g1,⟨kvs,g3,by lia,λr=>?_⟩,_,_,Iu⟩
    rcases g5 r with⟨x1,x2,x3⟩|x
    ·refine .inl ⟨x1,λj k' hj hk'=>?_,λk' _ _ hm=>by rw[HY] at hm;cases hm⟩
     by_cases z:j=i
     ·subst z
      rw[hk] at hk'
      cases hk'
      have:=x3 k hk cc'
      rw[HB] at this;unfold z9;rw[Fm cc',HC];exact b_ this
     ·exact x2 j k' (by lia) hk'
    ·exact .inr x
  ·have cc':¬k.k=kk:=by simpa using cc
   refine⟨s2,⟨kvs,ed2,by lia,λr=>?_⟩,_,_,Iu⟩
   rcases hD r with⟨x1,x2,x3⟩|x
   ·refine .inl ⟨x1,λj k' hj hk'=>?_,λk' _ _ hm=>by rw[HY] at hm;cases hm⟩
    by_cases z:j=i
    ·subst z
     rw[hk] at hk'
     cases hk'
     unfold z9;rw[b_ cc',Ek]
    ·exact x2 j k' (by lia) hk'
   ·exact .inr x
 ·rintro σ H' ⟨s2,⟨kvs,ed2,hl,hD⟩,v4,v5,rfl⟩
  rw[EV] at hD;refine⟨_,Iu,q d kvs H' s2 ed2 λr=>?_⟩
  rcases hD r with⟨x1,x2,x3⟩|x
  ·refine .inl ⟨x1,λk hk=>?_⟩
   obtain⟨j,hj⟩:=HX.mp hk
   have:=(s_.mp hj).1
   exact x2 j k (by lia) hj
  ·exact .inr x
def cD {a b:Int}{n:Nat}{side:Bool}{r:Int}:F4 h ks a b (n+1) side r acc=match ks.find? (z9 h side r (if side then a else b)) with
  | none=>some acc
  | some k=>if k.c∈acc then some acc else if 1<(i7 h k.es).length then none else F4 h ks a b n (!side) (if side then k.c/h.c else (i7 h k.es).headD 0) (acc++[k.c]):=rfl
theorem iL:∀{acc L:List Int},acc.Nodup->(∀c∈acc,c∈L)->acc.length<=L.length
 | [],_,_,_=>Et _
 | c::t,L,nd,hs=>by
  have hc:=hs c (n_ ..)
  have ih:=iL (L:=L.erase c) (EL.mp nd).2 λx hx=>by
   have hne:x≠c:=λz=>(EL.mp nd).1 (z▸hx);exact(List.mem_erase_of_ne hne).mpr (hs x (o_ _ hx))
  rw[List.length_erase_of_mem hc] at ih
  have:=List.length_pos_of_mem hc
  rw[Ez];lia
def az {ks:List Call}{acc:List Int}(nd:acc.Nodup)(hs:∀c∈acc,∃k∈ks,k.c=c):acc.length<=ks.length:=by
 have:=iL (L:=ks.map Call.c) nd λc hc=>by
  obtain⟨k,h1,h2⟩:=hs c hc;exact GX.mpr ⟨k,h1,h2⟩
 rw[EV] at this;exact this
def D6:FnScope ["hall","calls","side","rack","a","b","known","chain","call","racks"] ["hall","calls","side","rack","a","b"] (i4 (top 43)):=mkF
def gI (T:Txt K mg)(Aq:i6 P w K mg base 3 "call_racks" p_39 (X6 K))(Bt:i6 P w K mg base 4 "calls_by_in" p_23 (uU K false))(Bn:i6 P w K mg base 3 "calls_by_out" p_23 (uU K true))(D:Def K mg "chain_from" (top 43) p_27):i6 P w K mg base 5 "chain_from" p_27 (Z5 K):=by
 refine D.ok D6 (λ_ _ _ _ h=>?_) (λ_ _ _ _ _ H _ Q E hr h=>?_)
 ·obtain⟨p,l,h,as,ks,side,r,a,b,rfl,_⟩:=h
  rfl
 obtain⟨p,l,h,as,ks,side,r,a,b,rfl,hc,fr,q⟩:=h;have la:=d_ hc.c;have h63:=hc.few
 refine⟨_,(d9 (j4 (i:=6) D6.nd Iu Ix (y7 (a8 (l9 Bt hr Iu (a8 (pv 0) (a8 (pv 1) (a8 (pv 5) c7 a9) a9) a9)) (a8 (l9 Bn hr Iu (a8 (pv 0) (a8 (pv 1) (a8 (pv 4) c7 a9) a9) a9)) c7 n9) n9)))
  (d9 (j4 (i:=7) D6.nd Iu Ix (r6 c7))
  (d9 (j4 (i:=8) D6.nd Iu Ix (kW (Q4 hr) (i8 (i5 K) (pv 6) (pv 2)) (pv 3) ⟨Iu,Iu,Iu,Iu⟩))
  (d9 (lM HI (PW.pt (cJ (k8 L5 (pv 8) o5 (m6 _)) (aA (k8 (iH K) (i8 (i5 K) (pv 8) h7) (pv 7) (by with_unfolding_all rfl))))) (d9 (j4 (i:=9) D6.nd Iu Ix (l9 Aq hr Iu (a8 (pv 0) (a8 (pv 8) c7 a9) a9)))
  (d9 (n6 (k8 yw (j6 (y9 K) rfl T.zY HF (a8 (pv 9) c7 a9)) h7 (m6 _)) (h9 (j5 o5)) l7)
  (d9 (C3 (F8 K HJ HK HL B5 (pv 7) (a8 (i8 (i5 K) (pv 8) h7) c7 m5)))
  (d9 (j4 (i:=2) D6.nd Iu Ix (l6 cB h7 (pv 2)))
  (h9 (j4 (i:=8) D6.nd Iu Ix (kW (Q4 hr) (i8 (i5 K) (pv 6) (pv 2)) (i8 (u7 K) (pv 9) (pv 2)) ⟨Iu,Iu,Iu,Iu⟩))))))))
  (h9 (j5 (pv 7))))))),?_⟩
 refine⟨_,Iu,_,Iu,_,Iu,p,l,h,as,ks,b,Iu,hc,λd0 kv0 H1 s1 ed0 hat0=>?_⟩;refine⟨_,Iu,_,Iu,_,Iu,p,l,h,as,ks,a,Iu,hc.same s1,λd1 kv1 H2 s2 ed1 hat1=>?_⟩;refine⟨z_2,λt ht=>?_⟩
 obtain⟨H3,Ip,s3,et⟩:=Io ht (.tup [.ref d0,.ref d1]);rw[Ip];refine⟨z_0,λlc hlc=>?_⟩
 obtain⟨H4,Ip,s4,el⟩:=Io hlc (.lst []);rw[Ip];have s34:=s3.trans s4;have s24:=s2.trans s34;have s14:=s1.trans s24;have hlcH:H lc=none:=(s1.trans (s2.trans s3)).free hlc
 have dd:∀(H':Hp),i9 H3 H'->∀(sd:Bool),∃(d:Addr)(kv:List (Key×V)),atI [V.ref d0,V.ref d1] (fG sd)=some (.ref d)/\H' d=some (.dK kv)/\∀r:Int,nA h as ks sd r (if sd then a else b) (A8 kv (.inl r)):=λH' g sd=>by
  cases sd with
  | false=>exact⟨d0,kv0,Iu,g _ _ (s3 _ _ (s2 _ _ ed0)),hat0⟩
  | true=>exact⟨d1,kv1,Iu,g _ _ (s3 _ _ ed1),hat1⟩
 obtain⟨d,kv,i1,i2,i3⟩:=dd H4 s4 side;refine⟨_,Iu,_,Iu,t,_,_,_,Iu,Iu,Iw (s4 _ _ et),i1,d,Iu,.inl ⟨kv,.inl i2⟩,_,Iu,_,R9.k (k:=.inl r) i2,?_⟩
 refine⟨λm σ H'=>i9 H3 H'/\∃(sd:Bool)(r':Int)(acc:List Int)(v:Option V)(v9:Option V),m+acc.length=64/\acc.Nodup/\(∀c∈acc,∃k∈ks,k.c=c)/\H' lc=some (.lst (acc.map V.int))/\nA h as ks sd r' (if sd then a else b) v/\F4 h ks a b m sd r' acc=F4 h ks a b 64 side r [] /\
   σ=[Iq p,Iq l,Ir (fG sd),Ir r,Ir a,Ir b,Iq t,Iq lc,some (v.getD .non),v9],
  ⟨64,s4,side,r,[],A8 kv (.inl r),none,Iu,Fu,(λc hc=>nomatch hc),el,i3 r,Iu,Iu⟩,?_⟩
 rintro m σ H' ⟨g1,sd,r',acc,v,v9,g2,g3,g4,g5,g6,g7,rfl⟩
 have al:=az g3 g4;obtain⟨n,rfl⟩:∃n,m=n+1:=⟨m-1,by lia⟩
 have gH:i9 H H':=s1.trans (s2.trans (s3.trans g1));rw[cD] at g7;have done:some acc=F4 h ks a b 64 side r []->Q (.ref lc) H':=λz=>q (.ref lc) H' gH (λx hx=>by cases hx;exact hlcH) (.inr ⟨lc,acc,z.symm,Iu,g5⟩)
 rcases g6.find fr with⟨f1,rfl⟩|⟨j,ca,k,ha,hk,f1,rfl⟩
 ·rw[f1] at g7
  refine⟨_,Iu,Iu,_,Iu,B9 ?_⟩;exact B9 ⟨_,Iu,done g7⟩
 ·rw[f1] at g7
  obtain⟨k',hk',hca⟩:=j7 hc.c j ca ha;rw[hk] at hk'
  cases hk'
  have hkI:=hc.hin k (ET hk);have hca':=y8.same (λb xs z=>gH _ _ z) hca;obtain⟨ce,e1,e2⟩:=id hca';refine⟨_,Iu,Iu,_,Iu,E9 ?_⟩;refine⟨_,Iu,ca,_,_,_,Iu,Iu,Iw e2,Iu,_,Iu,lc,_,Iu,.inl (Iv g5),Iu,U7 acc,_,Iu,?_⟩;rw[bi];refine B4 (λcc=>?_) (λcc=>?_)
  ·have cc':¬k.c∈acc:=by simpa using cc
   simp only[Il cc'] at g7
   refine⟨λσ' H''=>∃m',m'<n+1/\(i9 H3 H''/\∃(sd:Bool)(r':Int)(acc:List Int)(v:Option V)(v9:Option V),m'+acc.length=64/\acc.Nodup/\(∀c∈acc,∃k∈ks,k.c=c)/\H'' lc=some (.lst (acc.map V.int))/\nA h as ks sd r' (if sd then a else b) v/\F4 h ks a b m' sd r' acc=F4 h ks a b 64 side r [] /\
     σ'=[Iq p,Iq l,Ir (fG sd),Ir r,Ir a,Ir b,Iq t,Iq lc,some (v.getD .non),v9]),λσ' H'' z=>z,?_⟩
   refine⟨_,Iu,_,Iu,p,ca,h,k,Iu,i9.seqT gH hc.p,hc.ok,hca',hkI,λlr H5 s5 hlr er=>?_⟩;have gH5:=gH.trans s5;have rl:=O6 h k.es;have few:=hkI.few;refine⟨_,Iu,lr,_,Iu,.inl (Iv er),_,_,Iu,Iu,_,Iu,?_⟩;refine B4 (λwd=>?_) (λwd=>?_)
   ·have wd':1<(i7 h k.es).length:=by
     have:=GT wd
     rw[EV,Ez] at this;lia
    simp only[Ik wd'] at g7
    exact q .non H5 gH5 (λx hx=>nomatch hx) (.inl ⟨g7.symm,Iu⟩)
   ·have wd':¬1<(i7 h k.es).length:=λz=>wd (Fm (by rw[EV,Ez];lia))
    simp only[Il wd'] at g7
    have hne:i7 h k.es≠[]:=λz=>by
     obtain⟨e,he⟩:=HZ _ hkI.some
     have:e/h.e∈i7 h k.es:=x6.mpr ⟨e,he,Iu⟩
     rw[z] at this
     cases this
    obtain⟨o,ho⟩:∃o,i7 h k.es=[o]:=by
     match e:i7 h k.es,hne,wd' with
     | [o],_,_=>exact⟨o,Iu⟩
     | _::_::_,_,w=>exact absurd (by simp) w
    rw[ho] at er g7;have e5:=s5 _ _ g5;refine⟨_,Iu,.inl ⟨Iu,_,Iv e5⟩,_,Iu,ca,_,_,_,Iu,Iu,Iw (s5 _ _ e2),Iu,lc,_,_,Iu,Iu,e5,k9 (by rw[EV];lia),?_⟩
    have er6:upd H5 lc (.lst (acc.map V.int++[.int k.c])) lr=some (.lst ([k.c/h.c,o].map V.int)):=by
     have z:lr≠lc:=λz=>by rw[z,g5] at hlr;cases hlr
     rw[j9 z];exact er
    have e6:upd H5 lc (.lst (acc.map V.int++[.int k.c])) lc=some (.lst ((acc++[k.c]).map V.int)):=by rw[c9,HE];rfl
    have g36:i9 H3 (upd H5 lc (.lst (acc.map V.int++[.int k.c]))):=i9.put (g1.trans s5) hlc;generalize upd H5 lc _=H6 at er6 e6 g36 ⊢;obtain⟨d',kv',j1,j2,j3⟩:=dd H6 g36 (!sd);have hside:(1:Int)-fG sd=fG (!sd):=by cases sd<;>rfl
    have hrk:atI ([k.c/h.c,o].map V.int) (fG (!sd))=some (.int (if sd then k.c/h.c else o)):=by cases sd<;>rfl
    refine⟨_,Iu,_,_,Iu,Iu,?_⟩;refine⟨_,Iu,_,Iu,t,_,_,_,Iu,Iu,Iw (g36 _ _ et),(by rw[hside];exact j1),d',Iu,.inl ⟨kv',.inl j2⟩,_,Iu,_,Iu,lr,_,_,_,Iu,Iu,Iv er6,(by rw[hside];exact hrk),_,R9.k (k:=.inl (if sd then k.c/h.c else o)) j2,?_⟩
    refine⟨n,by lia,g36,!sd,(if sd then k.c/h.c else o),acc++[k.c],_,_,by rw[EU,Fj];lia,?_,λc hcm=>?_,e6,j3 _,?_,by rw[<- hside];rfl⟩
    ·refine GR.mpr ⟨g3,by simp,λx hx y hy=>?_⟩
     rw[Fx] at hy
     rintro rfl
     exact cc' (hy▸hx)
    ·rcases q_.mp hcm with z|z
     ·exact g4 c z
     ·rw[Fx] at z
      exact⟨k,ET hk,z.symm⟩
    ·exact g7
  ·have cc':k.c∈acc:=by simpa using cc
   simp only[Ik cc'] at g7
   exact⟨_,Iu,done g7⟩
def T7 (side:Bool)(r kk:Int):List Key:=if side then K7 r kk else nIn r kk
theorem bv {side:Bool}{r kk:Int}{k:Call}:T7 side r kk∈o8 h k.c k.es k.k↔z9 h side r kk k=true:=by
 rw[z7];unfold z9;rw[Fd,FJ]
 cases side with
 | false =>
  show(nIn r kk=nIn (k.c/h.c) k.k\/∃e∈k.es,nIn r kk=K7 (e/h.e) k.k)↔k.k=kk/\decide (k.c/h.c=r)=true
  rw[FJ]
  constructor
  ·rintro(z|⟨e,_,z⟩)
   ·unfold nIn at z
    injection z with _ z
    injection z with z1 z2
    injection z2 with z2 _
    exact⟨(a_ z2).symm,(a_ z1).symm⟩
   ·unfold nIn K7 at z
    injection z with z _
    exact absurd (Sum.inr.inj z) (by decide)
  ·rintro⟨z1,z2⟩
   exact .inl (by rw[z1,z2])
 | true =>
  show(K7 r kk=nIn (k.c/h.c) k.k\/∃e∈k.es,K7 r kk=K7 (e/h.e) k.k)↔k.k=kk/\decide (r∈i7 h k.es)=true
  rw[FJ,x6]
  constructor
  ·rintro(z|⟨e,he,z⟩)
   ·unfold nIn K7 at z
    injection z with z _
    exact absurd (Sum.inr.inj z) (by decide)
   ·unfold K7 at z
    injection z with _ z
    injection z with z1 z2
    injection z2 with z2 _
    exact⟨(a_ z2).symm,e,he,(a_ z1).symm⟩
  ·rintro⟨z1,e,he,z2⟩
   exact .inr ⟨e,he,by rw[z1,z2]⟩
def iW:FnScope ["hall","calls","rack","a","b"] ["hall","calls","rack","a","b"] (i4 (top 44)):=mkF
def ji (Ar:i6 P w K mg base 5 "chain_from" p_27 (Z5 K))(D:Def K mg "chain_out" (top 44) p_13):i6 P w K mg base 6 "chain_out" p_13 (dR K true):=by
 refine D.ok iW (λ_ _ _ _ h=>?_) (λ_ _ _ _ _ H _ Q E hr h=>?_)
 ·obtain⟨p,l,h,as,ks,r,a,b,rfl,_⟩:=h
  rfl
 obtain⟨p,l,h,as,ks,r,a,b,rfl,hc,fr,q⟩:=h;refine⟨_,(h9 (j5 (l9 Ar hr Iu (a8 (pv 0) (a8 (pv 1) (a8 h7 (a8 (pv 2) (a8 (pv 3) (a8 (pv 4) c7 a9) a9) a9) m9) a9) a9)))),?_⟩;exact⟨_,Iu,_,Iu,_,Iu,_,Iu,_,Iu,p,l,h,as,ks,true,r,a,b,Iu,hc,fr,q⟩
def li:FnScope ["hall","calls","rack","a","b"] ["hall","calls","rack","a","b"] (i4 (top 45)):=mkF
def mf (Ar:i6 P w K mg base 5 "chain_from" p_27 (Z5 K))(D:Def K mg "chain_in" (top 45) p_13):i6 P w K mg base 6 "chain_in" p_13 (dR K false):=by
 refine D.ok li (λ_ _ _ _ h=>?_) (λ_ _ _ _ _ H _ Q E hr h=>?_)
 ·obtain⟨p,l,h,as,ks,r,a,b,rfl,_⟩:=h
  rfl
 obtain⟨p,l,h,as,ks,r,a,b,rfl,hc,fr,q⟩:=h;refine⟨_,(h9 (j5 (l9 Ar hr Iu (a8 (pv 0) (a8 (pv 1) (a8 h7 (a8 (pv 2) (a8 (pv 3) (a8 (pv 4) c7 a9) a9) a9) m9) a9) a9)))),?_⟩;exact⟨_,Iu,_,Iu,_,Iu,_,Iu,_,Iu,p,l,h,as,ks,false,r,a,b,Iu,hc,fr,q⟩
def col (a b:Int)(s:Bool):Int:=if s then a else b
def K6 (h:j8)(s:Bool)(k:Call):Int:=if s then (i7 h k.es).headD 0 else k.c/h.c
def sOf (a:Int)(k:Call):Bool:=decide (k.k=a)
theorem J6 {s:Bool}{r kk:Int}{k:Call}(nw:(i7 h k.es).length=1):z9 h s r kk k=true↔k.k=kk/\K6 h s k=r:=by
 unfold z9 K6;rw[Fd,FJ]
 cases s with
 | false =>
  show k.k=kk/\decide (k.c/h.c=r)=true↔k.k=kk/\k.c/h.c=r
  rw[FJ]
 | true =>
  show k.k=kk/\decide (r∈i7 h k.es)=true↔k.k=kk/\(i7 h k.es).headD 0=r
  rw[FJ]
  match i7 h k.es,nw with
  | [o],_ =>
   show k.k=kk/\r∈[o]↔k.k=kk/\o=r
   rw[Fx];exact⟨λz=>⟨z.1,z.2.symm⟩,λz=>⟨z.1,z.2.symm⟩⟩
def M5 {ks:List Call}{s:Bool}{r kk:Int}{k k':Call}(fr:ks.Pairwise (D7 h))(hk:k∈ks)(hk':k'∈ks)(h1:z9 h s r kk k=true)(h2:z9 h s r kk k'=true):k=k':=by
 obtain⟨i,hi⟩:=HX.mp hk;obtain⟨j,hj⟩:=HX.mp hk';obtain⟨q1,z1⟩:=s_.mp hi;obtain⟨q2,z2⟩:=s_.mp hj
 rcases Hr i j with g|g|g
 ·have:=(FR.mp fr) i j q1 q2 g
  rw[z1,z2] at this;rw[bX this h1] at h2
  cases h2
 ·subst g
  rw[hi] at hj
  cases hj
  rfl
 ·have:=(FR.mp fr) j i q2 q1 g
  rw[z1,z2] at this;rw[bX this h2] at h1
  cases h1
def ae {ks:List Call}{k k':Call}(fr:ks.Pairwise (D7 h))(hk:k∈ks)(hk':k'∈ks)(e:k.c=k'.c):k=k':=by
 obtain⟨i,hi⟩:=HX.mp hk;obtain⟨j,hj⟩:=HX.mp hk';obtain⟨q1,z1⟩:=s_.mp hi;obtain⟨q2,z2⟩:=s_.mp hj
 rcases Hr i j with g|g|g
 ·have:=(FR.mp fr) i j q1 q2 g
  rw[z1,z2] at this;exact absurd e this.caller
 ·subst g
  rw[hi] at hj
  cases hj
  rfl
 ·have:=(FR.mp fr) j i q2 q1 g
  rw[z1,z2] at this;exact absurd e.symm this.caller
inductive Q2 (h:j8)(ks:List Call)(a b:Int)(sd:Bool)(r:Int):List Call->Bool->Int->Prop where
 | nil:Q2 h ks a b sd r [] sd r
 | snoc {L:List Call} {s:Bool} {x:Int} {k:Call} (p:Q2 h ks a b sd r L s x) (hk:k∈ks) (hh:z9 h s x (col a b s) k=true) (nw:(i7 h k.es).length=1) (new:∀k'∈L,k'.c≠k.c):Q2 h ks a b sd r (L++[k]) (!s) (K6 h (!s) k)
structure S1 (h:j8)(ks:List Call)(a b:Int)(sd:Bool)(r:Int)(L:List Call):Prop where
 ex:∃s x,Q2 h ks a b sd r L s x/\∀k∈ks,z9 h s x (col a b s) k=true->k∈L
section
variable {a b:Int}{sd:Bool}{r:Int}
theorem Q2.mem {s:Bool}{x:Int}(p:Q2 h ks a b sd r L s x):∀k∈L,k∈ks/\(i7 h k.es).length=1/\(k.k=a\/k.k=b):=by
 induction p with
 | nil=>intro k hk;cases hk
 | @snoc L s x k p hk hh nw new ih =>
  intro y hy
  rcases q_.mp hy with z|z
  ·exact ih y z
  ·rw[Fx] at z
   subst z;refine⟨hk,nw,?_⟩
   have:=((J6 nw).mp hh).1
   cases s with
   | false=>exact .inr this
   | true=>exact .inl this
theorem Q2.nodup {s:Bool}{x:Int}(p:Q2 h ks a b sd r L s x):(L.map Call.c).Nodup:=by
 induction p with
 | nil=>exact Fu
 | @snoc L s x k p hk hh nw new ih =>
  rw[HE];refine GR.mpr ⟨ih,by simp,λc hc c' hc'=>?_⟩
  obtain⟨k',h1,rfl⟩:=GX.mp hc
  have:c'=k.c:=by simpa using hc'
  rw[this];exact new k' h1
def dS {k:Call}(hab:a≠b)(hk:k.k=a\/k.k=b):col a b (sOf a k)=k.k:=by
 unfold col sOf
 rcases hk with e|e
 ·rw[Fm e];exact e.symm
 ·rw[b_ (λz=>hab (z.symm.trans e))];exact e.symm
theorem dM {k:Call}{s:Bool}(hab:a≠b)(hk:k.k=col a b s):sOf a k=s:=by
 unfold sOf
 cases s with
 | true=>exact Fm hk
 | false =>
  have e:k.k=b:=hk;exact b_ λz=>hab (z.symm.trans e)
theorem Q2.last {s:Bool}{x:Int}(p:Q2 h ks a b sd r L s x):(L=[]/\s=sd/\x=r)\/∃k∈L,k.k=col a b (!s)/\K6 h s k=x:=by
 cases p with
 | nil=>exact .inl ⟨Iu,Iu,Iu⟩
 | @snoc L s x k p hk hh nw new =>
  refine .inr ⟨k,Es _ (Fx.mpr rfl),?_,Iu⟩;rw[Bool.not_not];exact((J6 nw).mp hh).1
theorem Q2.pred {s:Bool}{x:Int}(hab:a≠b)(p:Q2 h ks a b sd r L s x):∀k∈L,(sOf a k=sd/\K6 h (sOf a k) k=r)\/∃k'∈L,k'.k=col a b (!sOf a k)/\K6 h (sOf a k) k'=K6 h (sOf a k) k:=by
 induction p with
 | nil=>intro k hk;cases hk
 | @snoc L s x k p hk hh nw new ih =>
  intro y hy
  rcases q_.mp hy with z|z
  ·rcases ih y z with q|⟨k',q1,q2,q3⟩
   ·exact .inl q
   ·exact .inr ⟨k',r_ _ q1,q2,q3⟩
  ·rw[Fx] at z
   subst z;obtain⟨e1,e2⟩:=(J6 nw).mp hh;have es:=dM hab e1;rw[es,e2]
   rcases p.last with⟨_,q2,q3⟩|⟨k',q1,q2,q3⟩
   ·exact .inl ⟨q2,q3⟩
   ·exact .inr ⟨k',r_ _ q1,q2,q3⟩
theorem Q2.succ {ks:List Call}{s:Bool}{x:Int}(hab:a≠b)(fr:ks.Pairwise (D7 h))(p:Q2 h ks a b sd r L s x):∀k∈L,∀y∈ks,z9 h (!sOf a k) (K6 h (!sOf a k) k) (col a b (!sOf a k)) y=true->y∈L\/(!sOf a k)=s/\K6 h (!sOf a k) k=x:=by
 induction p with
 | nil=>intro k hk;cases hk
 | @snoc L s x k p hk hh nw new ih =>
  intro y hy u hu hq
  rcases q_.mp hy with z|z
  ·rcases ih y z u hu hq with q|⟨q1,q2⟩
   ·exact .inl (r_ _ q)
   ·rw[q1] at hq q2
    rw[q2] at hq;exact .inl (Es _ (Fx.mpr (M5 fr hu hk hq hh)))
  ·rw[Fx] at z
   subst z;have es:=dM hab ((J6 nw).mp hh).1;rw[es];exact .inr ⟨Iu,Iu⟩
theorem Q2.begin {ks:List Call}{s:Bool}{x:Int}(fr:ks.Pairwise (D7 h))(p:Q2 h ks a b sd r L s x):∀y∈ks,z9 h sd r (col a b sd) y=true->y∈L\/(s=sd/\x=r):=by
 induction p with
 | nil=>intro y _ _;exact .inr ⟨Iu,Iu⟩
 | @snoc L s x k p hk hh nw new ih =>
  intro y hy hq
  rcases ih y hy hq with q|⟨rfl,rfl⟩
  ·exact .inl (r_ _ q)
  ·exact .inl (Es _ (Fx.mpr (M5 fr hy hk hq hh)))
theorem S1.succ {ks:List Call}(hab:a≠b)(fr:ks.Pairwise (D7 h))(W:S1 h ks a b sd r L):∀k∈L,∀y∈ks,z9 h (!sOf a k) (K6 h (!sOf a k) k) (col a b (!sOf a k)) y=true->y∈L:=by
 obtain⟨s,x,p,st⟩:=W.ex
 intro k hk y hy hq
 rcases p.succ hab fr k hk y hy hq with q|⟨q1,q2⟩
 ·exact q
 ·rw[q1] at hq q2
  rw[q2] at hq;exact st y hy hq
theorem S1.begin {ks:List Call}(fr:ks.Pairwise (D7 h))(W:S1 h ks a b sd r L):∀y∈ks,z9 h sd r (col a b sd) y=true->y∈L:=by
 obtain⟨s,x,p,st⟩:=W.ex
 intro y hy hq
 rcases p.begin fr y hy hq with q|⟨rfl,rfl⟩
 ·exact q
 ·exact st y hy hq
theorem iz {h:j8}{ks:List Call}(hin:∀k∈ks,k.In h)(fr:ks.Pairwise (D7 h)):∀(n:Nat)(s:Bool)(x:Int)(L:List Call)(ns:List Int),F4 h ks a b n s x (L.map Call.c)=some ns->Q2 h ks a b sd r L s x->ks.length<n+L.length->∃L',ns=L'.map Call.c/\S1 h ks a b sd r L'
 | 0,s,x,L,ns,_,p,hl=>by
  have:=az (ks:=ks) p.nodup λc hc=>by
   obtain⟨k,h1,h2⟩:=GX.mp hc;exact⟨k,(p.mem k h1).1,h2⟩
  rw[EV] at this;lia
 | n+1,s,x,L,ns,e,p,hl=>by
  rw[cD] at e
  cases f:ks.find? (z9 h s x (if s then a else b)) with
  | none =>
   rw[f] at e
   cases e
   refine⟨L,Iu,s,x,p,λk hk hh=>?_⟩;exact absurd hh (by rw[Hv] at f;exact f k hk)
  | some k =>
   rw[f] at e;have hh:=Ht f;have hk:=Hu f
   by_cases c1:k.c∈L.map Call.c
   ·simp only[Ik c1] at e
    cases e
    refine⟨L,Iu,s,x,p,λy hy hq=>?_⟩;obtain⟨k',h1,h2⟩:=GX.mp c1;have e1:k'=k:=ae fr (p.mem k' h1).1 hk h2;have e2:y=k:=M5 fr hy hk hq hh;rw[e2,<- e1];exact h1
   ·simp only[Il c1] at e
    by_cases c2:1<(i7 h k.es).length
    ·simp only[Ik c2] at e
     cases e
    ·simp only[Il c2] at e
     have nw:(i7 h k.es).length=1:=by
      have hne:i7 h k.es≠[]:=λz=>by
       obtain⟨q,he⟩:=HZ _ (hin k hk).some
       have:q/h.e∈i7 h k.es:=x6.mpr ⟨q,he,Iu⟩
       rw[z] at this
       cases this
      have:=List.length_pos_iff.mpr hne
      lia
     have p':=Q2.snoc p hk hh nw λk' hk' z=>c1 (GX.mpr ⟨k',hk',z⟩);have er:(if s=true then k.c/h.c else (i7 h k.es).headD 0)=K6 h (!s) k:=by cases s<;>rfl
     have ea:L.map Call.c++[k.c]=(L++[k]).map Call.c:=by rw[HE];rfl
     rw[er,ea] at e;exact iz hin fr n (!s) _ (L++[k]) ns e p' (by rw[EU,Fj];lia)
def gA (a b:Int)(ns:List Int)(k:Call):Call:=if k.c∈ns then ⟨k.c,k.es,a+b-k.k⟩ else k
def X7 {s:Bool}{x kk kn:Int}{k:Call}:z9 h s x kk ⟨k.c,k.es,kn⟩=true↔kn=kk/\z9 h s x k.k k=true:=by
 unfold z9;rw[Fd,Fd,FJ,FJ];exact⟨λz=>⟨z.1,Iu,z.2⟩,λz=>⟨z.1,z.2.2⟩⟩
def fm {ks:List Call}{s:Bool}{x:Int}(fr:ks.Pairwise (D7 h))(p:Q2 h ks a b sd r L s x){k:Call}(hk:k∈ks):k.c∈L.map Call.c↔k∈L:=by
 constructor
 ·intro z
  obtain⟨k',h1,h2⟩:=GX.mp z;rw[<- ae fr (p.mem k' h1).1 hk h2];exact h1
 ·exact λz=>GX.mpr ⟨k,z,Iu⟩
def fX {ks:List Call}(hab:a≠b)(fr:ks.Pairwise (D7 h))(hf:∀y∈ks,z9 h sd r (col a b (!sd)) y=false)(W:S1 h ks a b sd r L)(hx:x∈L)(hy:y∈ks)(ny:¬y∈L){s:Bool}{q kk:Int}
  (h1:z9 h s q kk ⟨x.c,x.es,a+b-x.k⟩=true):z9 h s q kk y=false:=by
 rw[Gq]
 intro h2
 obtain⟨e1,e2⟩:=X7.mp h1;obtain⟨s',x',p,_⟩:=id W.ex;obtain⟨m1,m2,m3⟩:=p.mem x hx;have ec:=dS hab m3
 have ek:kk=col a b (!sOf a x):=by
  rw[<- e1,<- ec]
  cases sOf a x with
  | true=>show a+b-a=b;lia
  | false=>show a+b-b=a;lia
 have eq:=((J6 m2).mp e2).2
 by_cases es:s=sOf a x
 ·rw[es] at eq h2
  rw[<- eq,ek] at h2
  rcases p.pred hab x hx with⟨q1,q2⟩|⟨k',q1,q2,q3⟩
  ·rw[q2] at h2
   rw[q1] at h2;rw[hf y hy] at h2
   cases h2
  ·obtain⟨n1,n2,_⟩:=p.mem k' q1
   have h3:z9 h (sOf a x) (K6 h (sOf a x) x) (col a b (!sOf a x)) k'=true:=(J6 n2).mpr ⟨q2,q3⟩;exact ny (M5 fr hy n1 h2 h3▸q1)
 ·have es':s = !sOf a x:=by cases s<;>cases hs:sOf a x<;>simp_all
  rw[es'] at eq h2;rw[<- eq,ek] at h2;exact ny (W.succ hab fr x hx y hy h2)
def nO {ks:List Call}(hab:a≠b)(fr:ks.Pairwise (D7 h))(hf:∀y∈ks,z9 h sd r (col a b (!sd)) y=false)(W:S1 h ks a b sd r L)(hx:x∈ks)(hy:y∈ks)(ne:x≠y){s:Bool}{q kk:Int}
  (h1:z9 h s q kk (gA a b (L.map Call.c) x)=true):z9 h s q kk (gA a b (L.map Call.c) y)=false:=by
 obtain⟨s',x',p,_⟩:=id W.ex;rw[Gq]
 intro h2
 unfold gA at h1 h2
 by_cases cx:x.c∈L.map Call.c
 ·rw[Ik cx] at h1
  have mx:=(fm fr p hx).mp cx
  by_cases cy:y.c∈L.map Call.c
  ·rw[Ik cy] at h2
   have my:=(fm fr p hy).mp cy;obtain⟨e1,e2⟩:=X7.mp h1;obtain⟨e3,e4⟩:=X7.mp h2;have ek:x.k=y.k:=by lia
   rw[<- ek] at e4;exact ne (M5 fr hx hy e2 e4)
  ·rw[Il cy] at h2
   rw[fX hab fr hf W mx hy (λz=>cy ((fm fr p hy).mpr z)) h1] at h2
   cases h2
 ·rw[Il cx] at h1
  by_cases cy:y.c∈L.map Call.c
  ·rw[Ik cy] at h2
   have my:=(fm fr p hy).mp cy;rw[fX hab fr hf W my hx (λz=>cx ((fm fr p hx).mpr z)) h2] at h1
   cases h1
  ·rw[Il cy] at h2
   exact ne (M5 fr hx hy h1 h2)
def sf {ks:List Call}(hab:a≠b)(fr:ks.Pairwise (D7 h))(hf:∀y∈ks,z9 h sd r (col a b (!sd)) y=false)(W:S1 h ks a b sd r L)(hy:y∈ks):z9 h sd r (col a b sd) (gA a b (L.map Call.c) y)=false:=by
 obtain⟨s',x',p,_⟩:=id W.ex;rw[Gq]
 intro h2
 unfold gA at h2
 by_cases cy:y.c∈L.map Call.c
 ·rw[Ik cy] at h2
  obtain⟨e1,e2⟩:=X7.mp h2
  have ek:y.k=col a b (!sd):=by
   cases sd with
   | true=>have e1:a+b-y.k=a:=e1;show y.k=b;lia
   | false=>have e1:a+b-y.k=b:=e1;show y.k=a;lia
  rw[ek,hf y hy] at e2
  cases e2
 ·rw[Il cy] at h2
  exact cy ((fm fr p hy).mpr (W.begin fr y hy h2))
end
section
variable {a b:Int}
def bE {h:j8}{ks:List Call}{sd:Bool}{r:Int}(hf:∀y∈ks,z9 h sd r (col a b (!sd)) y=false){k:Call}(hk:k∈ks)(nw:(i7 h k.es).length=1)(e1:k.k=col a b (!sd))(e2:K6 h sd k=r):False:=by
 have:=hf k hk
 rw[(J6 nw).mpr ⟨e1,e2⟩] at this
 cases this
theorem oj {h:j8}{ks:List Call}{far near:Int}(hab:a≠b)(fr:ks.Pairwise (D7 h))(hf:∀y∈ks,z9 h true far (col a b false) y=false)(hn:∀y∈ks,z9 h false near (col a b true) y=false)
  {M:List Call}{s':Bool}{x':Int}(pM:Q2 h ks a b false near M s' x'){L:List Call}{s:Bool}{x:Int}(p:Q2 h ks a b true far L s x):∀k∈L,¬k∈M:=by
 induction p with
 | nil=>intro k hk;cases hk
 | @snoc L s x k p hk hh nw new ih =>
  intro y hy hM
  rcases q_.mp hy with z|z
  ·exact ih y z hM
  ·rw[Fx] at z
   subst z;obtain⟨e1,e2⟩:=(J6 nw).mp hh;have es:=dM hab e1;have pr:=pM.pred hab y hM;rw[es,e2] at pr
   rcases p.last with⟨_,l2,l3⟩|⟨k2,l1,l2,l3⟩
   ·rcases pr with⟨q1,_⟩|⟨k1,q1,q2,q3⟩
    ·rw[l2] at q1
     cases q1
    ·obtain⟨m1,m2,_⟩:=pM.mem k1 q1
     rw[l2] at q2 q3;rw[l3] at q3;exact bE (sd:=true) hf m1 m2 q2 q3
   ·obtain⟨n1,n2,_⟩:=p.mem k2 l1
    rcases pr with⟨q1,q2⟩|⟨k1,q1,q2,q3⟩
    ·rw[q1] at l2 l3
     rw[q2] at l3;exact bE (sd:=false) hn n1 n2 l2 l3
    ·obtain⟨m1,m2,_⟩:=pM.mem k1 q1
     have g1:z9 h s x (col a b (!s)) k1=true:=(J6 m2).mpr ⟨q2,q3⟩;have g2:z9 h s x (col a b (!s)) k2=true:=(J6 n2).mpr ⟨l2,l3⟩;exact ih k2 l1 (M5 fr n1 m1 g2 g1▸q1)
def tm (h:j8)(a:Int)(k:Call):Bool×Int:=(!sOf a k,K6 h (!sOf a k) k)
def tH (h:j8)(a:Int)(sd:Bool)(r:Int)(L:List Call):List (Bool×Int):=(sd,r)::L.map (tm h a)
def xf {sd:Bool}{r:Int}(hab:a≠b){s:Bool}{x:Int}(p:Q2 h ks a b sd r L s x){k:Call}(hk:k∈L)(t:Bool):(t,K6 h t k)∈tH h a sd r L:=by
 unfold tH
 by_cases e:t=sOf a k
 ·rw[e]
  rcases p.pred hab k hk with⟨q1,q2⟩|⟨k',q1,q2,q3⟩
  ·rw[q2,q1]
   exact n_ ..
  ·refine o_ _ (GX.mpr ⟨k',q1,?_⟩)
   unfold tm;rw[dM hab q2,Bool.not_not,q3]
 ·have e':t = !sOf a k:=by cases t<;>cases hs:sOf a k<;>simp_all
  rw[e'];exact o_ _ (GX.mpr ⟨k,hk,Iu⟩)
def kq {h:j8}{ks:List Call}{far near:Int}(hab:a≠b)(fr:ks.Pairwise (D7 h))(hf:∀y∈ks,z9 h true far (col a b false) y=false)(hn:∀y∈ks,z9 h false near (col a b true) y=false)
  {M:List Call}{s':Bool}{x':Int}(pM:Q2 h ks a b false near M s' x'){L:List Call}{s:Bool}{x:Int}(p:Q2 h ks a b true far L s x):∀v∈tH h a true far L,¬v∈tH h a false near M:=by
 have ap:=oj hab fr hf hn pM p
 intro v hv hw
 unfold tH at hv hw
 rcases p_.mp hv with rfl|hv
 ·rcases p_.mp hw with z|z
  ·have:=B_ Prod.fst z
   cases this
  ·obtain⟨k,h1,h2⟩:=GX.mp z
   obtain⟨m1,m2,m3⟩:=pM.mem k h1;unfold tm at h2;have z1:(!sOf a k)=true:=B_ Prod.fst h2;have z2:K6 h (!sOf a k) k=far:=B_ Prod.snd h2;rw[z1] at z2;have z3:sOf a k=false:=by cases hs:sOf a k<;>simp_all
   have c1:=dS hab m3;rw[z3] at c1;exact bE (sd:=true) hf m1 m2 c1.symm z2
 ·obtain⟨k,h1,rfl⟩:=GX.mp hv
  obtain⟨m1,m2,m3⟩:=p.mem k h1;have c1:=dS hab m3
  rcases p_.mp hw with z|z
  ·unfold tm at z
   have z1:(!sOf a k)=false:=B_ Prod.fst z;have z2:K6 h (!sOf a k) k=near:=B_ Prod.snd z;rw[z1] at z2;have z3:sOf a k=true:=by cases hs:sOf a k<;>simp_all
   rw[z3] at c1;exact bE (sd:=false) hn m1 m2 c1.symm z2
  ·obtain⟨k',g1,g2⟩:=GX.mp z
   obtain⟨n1,n2,n3⟩:=pM.mem k' g1;unfold tm at g2;have z1:(!sOf a k')=(!sOf a k):=B_ Prod.fst g2;have z2:K6 h (!sOf a k') k'=K6 h (!sOf a k) k:=B_ Prod.snd g2;have z3:sOf a k'=sOf a k:=by cases hs:sOf a k'<;>cases hs':sOf a k<;>simp_all
   rw[z1] at z2;have c2:=dS hab n3;rw[z3,c1] at c2;have u1:z9 h (!sOf a k) (K6 h (!sOf a k) k) k.k k'=true:=(J6 n2).mpr ⟨c2.symm,z2⟩;have u2:z9 h (!sOf a k) (K6 h (!sOf a k) k) k.k k=true:=(J6 m2).mpr ⟨Iu,Iu⟩;exact ap k h1 (M5 fr n1 m1 u1 u2▸g1)
end
inductive O8 (K:Frag)(H:Hp):V->Prop where
 | int (i:Int):O8 K H (.int i)
 | odd {x:V} {t:Value} {b1 b2:Bool} (ni:∀i,x≠.int i) (ty:S6 K H x t) (h1:kitOne K t (.type "int")=some b1) (h2:kitOne K t (.type "bool")=some b2) (hb:b1=false\/b2=true):O8 K H x
theorem S6.same {K:Frag}{t:Value}(s:i9 H H')(h:S6 K H x t):S6 K H' x t:=by
 cases h with
 | non=>exact .non
 | bl b=>exact .bl b
 | int i=>exact .int i
 | str y=>exact .str y
 | flt y=>exact .flt y
 | lst e=>exact .lst (s _ _ e)
 | frz e=>exact .frz (s _ _ e)
 | tup e=>exact .tup (s _ _ e)
 | dK e=>exact .dK (s _ _ e)
 | dT e=>exact .dT (s _ _ e)
 | ins e a b c d f=>exact .ins (s _ _ e) a b c d f
theorem O8.same {K:Frag}(s:i9 H H')(h:O8 K H x):O8 K H' x:=by
 cases h with
 | int i=>exact .int i
 | odd ni ty h1 h2 hb=>exact .odd ni (S6.same s ty) h1 h2 hb
def A9 (x:V)(lo hi:Int):Bool:=match x with
 | .int i=>decide (lo<=i)&&decide (i<=hi)
 | _=>false
def isInt:V->Bool
 | .int _=>true
 | _=>false
def aq (K:Frag):Sp:=λvs H Q _=>∃(x:V)(lo hi:Int),vs=[x,.int lo,.int hi]/\O8 K H x/\Q (.bl (A9 x lo hi)) H
def dJ (K:Frag):Sp:=λvs H Q _=>∃x:V,vs=[x]/\O8 K H x/\Q (.bl (isInt x)) H
def jp:FnScope ["thing"] ["thing"] (i4 (top 11)):=mkF
theorem jt (T:Txt K mg)(D:Def K mg "is_number" (top 11) p_56):i6 P w K mg base 1 "is_number" p_56 (dJ K):=by
 refine D.ok jp (λ_ _ _ _ h=>?_) (λ_ _ _ _ _ H _ Q E hr h=>?_)
 ·obtain⟨x,rfl,_⟩:=h
  rfl
 obtain⟨x,rfl,hp,q⟩:=h;refine⟨_,(h9 (j5 (T8 (j6 (D4 K) rfl T.zK HV (a8 (pv 0) (a8 (N3 (v:=.ty "int") rfl T.BS boot_int rfl) c7 a9) a9)) (Y8 (oB (j6 (D4 K) rfl T.zK HV (a8 (pv 0) (a8 (N3 (v:=.ty "bool") rfl T.CT boot_bool rfl) c7 a9) a9))))))),?_⟩
 cases hp with
 | int i =>
  refine⟨_,Iu,_,_,_,true,Iu,.int i,Y5,_,Iu,E9 ?_⟩;exact⟨_,Iu,_,_,_,false,Iu,.int i,bV,_,Iu,q⟩
 | @odd _ t b1 b2 ni ty h1 h2 hb =>
  have e:isInt x=false:=by
   cases x with
   | int i=>exact absurd rfl (ni i)
   | _=>rfl
  rw[e] at q;refine⟨_,Iu,_,_,_,b1,Iu,ty,h1,_,Iu,?_⟩
  cases b1 with
  | false=>exact B9 q
  | true =>
   have hb2:b2=true:=hb.elim (λz=>nomatch z) id;subst hb2;exact E9 ⟨_,Iu,_,_,_,true,Iu,ty,h2,_,Iu,q⟩
def lg:FnScope ["thing","least","most"] ["thing","least","most"] (i4 (top 12)):=mkF
theorem lX (T:Txt K mg)(Ad:i6 P w K mg base 1 "is_number" p_56 (dJ K))(D:Def K mg "is_whole" (top 12) p_32):i6 P w K mg base 2 "is_whole" p_32 (aq K):=by
 refine D.ok lg (λ_ _ _ _ h=>?_) (λ_ _ _ _ _ H _ Q E hr h=>?_)
 ·obtain⟨x,lo,hi,rfl,_⟩:=h
  rfl
 obtain⟨x,lo,hi,rfl,hp,q⟩:=h;refine⟨_,(h9 (j5 (T8 (l9 Ad hr Iu (a8 (pv 0) c7 a9)) (Y8 (ua jM jM (pv 1) (pv 0) (pv 2)))))),?_⟩;refine⟨_,Iu,x,Iu,hp,_,Iu,?_⟩
 cases hp with
 | int i =>
  refine E9 ?_;refine⟨_,Iu,_,Iu,_,_,Iu,Iu,_,Iu,?_⟩;refine B4 (λc=>?_) (λc=>?_)
  ·refine⟨_,Iu,_,_,Iu,Iu,?_⟩
   have e:A9 (.int i) lo hi=decide (i<=hi):=by show(decide (lo<=i)&&decide (i<=hi))=_;rw[c,HC]
   rw[e] at q;exact q
  ·have e:A9 (.int i) lo hi=false:=by show(decide (lo<=i)&&decide (i<=hi))=_;rw[Gq.mpr c,Ek]
   rw[e] at q;exact q
 | @odd _ t b1 b2 ni ty h1 h2 hb =>
  have e0:isInt x=false:=by
   cases x with
   | int i=>exact absurd rfl (ni i)
   | _=>rfl
  have e:A9 x lo hi=false:=by
   cases x with
   | int i=>exact absurd rfl (ni i)
   | _=>rfl
  rw[e] at q;rw[e0];exact B9 q
def tZ (xs:List V):List Int:=xs.filterMap λx=>match x with | .int i=>some i | _=>none
theorem cu (ns:List Int):tZ (ns.map V.int)=ns:=by
 unfold tZ
 induction ns with
 | nil=>rfl
 | cons i t ih=>rw[EX,m_];exact B_ (i::·) ih
def Q7 (xs:List V):Bool:=decide ((A6 (tZ xs)).length=xs.length)
def dk (h:j8):Option (List V)->Bool
 | none=>false
 | some xs=>!xs.isEmpty&&(xs.all (λx=>A9 x 0 (h.o*h.e-1))&&Q7 xs)
inductive cg (K:Frag)(H:Hp):V->Option (List V)->Prop where
 | lst {a:Addr} {xs:List V} (e:H a=some (.lst xs)) (h:∀x∈xs,O8 K H x) (hn:xs.length<=64):cg K H (.ref a) (some xs)
 | tup {a:Addr} {xs:List V} (e:H a=some (.tup xs)) (h:∀x∈xs,O8 K H x) (hn:xs.length<=64):cg K H (.ref a) (some xs)
 | no {x:V} {t:Value} (ty:S6 K H x t) (h1:kitOne K t (.type "list")=some false) (h2:kitOne K t (.type "tuple")=some false):cg K H x none
theorem cg.same {K:Frag}(s:i9 H H')(h:cg K H x o):cg K H' x o:=by
 cases h with
 | lst e h hn=>exact .lst (s _ _ e) (λx hx=>(h x hx).same s) hn
 | tup e h hn=>exact .tup (s _ _ e) (λx hx=>(h x hx).same s) hn
 | no ty h1 h2=>exact .no (S6.same s ty) h1 h2
theorem kj {lo hi:Int}(h:A9 x lo hi=true):∃i:Int,x=.int i/\lo<=i/\i<=hi:=by
 cases x with
 | int i =>
  have h':(decide (lo<=i)&&decide (i<=hi))=true:=h;rw[Fd] at h';exact⟨i,Iu,GT h'.1,GT h'.2⟩
 | _=>cases h
theorem nG {lo hi:Int}:∀{xs:List V},xs.all (λx=>A9 x lo hi)=true->∃ns:List Int,xs=ns.map V.int
 | [],_=>⟨[],Iu⟩
 | x::t,h=>by
  rw[all_cons,Fd] at h;obtain⟨i,rfl,_⟩:=kj h.1;obtain⟨ns,rfl⟩:=nG h.2;exact⟨i::ns,Iu⟩
def fh (K:Frag):Sp:=λvs H Q _=>∃(a:Addr)(h:j8)(x:V),vs=[.ref a,x]/\SqT K H a (h.row.map V.int)/\h.Ok/\O8 K H x/\Q (.bl (A9 x 0 (h.i*h.c-1))) H
def io (K:Frag):Sp:=λvs H Q _=>∃(a p:Addr)(h:j8)(xs:List V),vs=[.ref a,.ref p]/\SqT K H a (h.row.map V.int)/\h.Ok/\(SqL K H p xs\/SqT K H p xs)/\(∀x∈xs,O8 K H x)/\xs.length<=64/\∀H',i9 H H'->Q (.bl (xs.all λx=>A9 x 0 (h.o*h.e-1))) H'
def jT (K:Frag):Sp:=λvs H Q _=>∃(p:Addr)(ns:List Int),vs=[.ref p]/\(SqL K H p (ns.map V.int)\/SqT K H p (ns.map V.int))/\ns.length<=64/\∀H',i9 H H'->Q (.bl (decide ((A6 ns).length=ns.length))) H'
def kI (K:Frag):Sp:=λvs H Q _=>∃(a:Addr)(h:j8)(x:V)(o:Option (List V)),vs=[.ref a,x]/\SqT K H a (h.row.map V.int)/\h.Ok/\cg K H x o/\∀H',i9 H H'->Q (.bl (dk h o)) H'
def jg:FnScope ["hall","thing"] ["hall","thing"] (i4 (top 26)):=mkF
def jI (T:Txt K mg)(Ac:i6 P w K mg base 2 "is_whole" p_32 (aq K))(D:Def K mg "is_caller" (top 26) p_35):i6 P w K mg base 3 "is_caller" p_35 (fh K):=by
 refine D.ok jg (λ_ _ _ _ h=>?_) (λ_ _ _ _ _ H _ Q E hr h=>?_)
 ·obtain⟨a,h,x,rfl,_⟩:=h
  rfl
 obtain⟨a,h,x,rfl,hH,ok,hp,q⟩:=h;have o1:=ok.i;refine⟨_,(h9 (j5 (l9 Ac hr Iu (a8 (pv 1) (a8 h7 (a8 (l6 cB (l6 A4 (i8 (i5 K) (pv 0) h7) (i8 (i5 K) (pv 0) h7)) h7) c7 Q1) m9) a9)))),?_⟩;exact⟨_,Iu,_,Iu,a,_,_,_,Iu,Iu,hH,Iu,_,Iu,a,_,_,_,Iu,Iu,hH,Iu,_,_,Iu,Iu,.inl ⟨by lia,by lia⟩,_,_,Iu,Iu,x,_,_,Iu,hp,q⟩
def ad:FnScope ["hall","things","last"] ["hall","things"] (i4 (top 16)):=mkF
def mC (T:Txt K mg)(Ac:i6 P w K mg base 2 "is_whole" p_32 (aq K))(D:Def K mg "are_ends" (top 16) p_60):i6 P w K mg base 3 "are_ends" p_60 (io K):=by
 refine D.ok ad (λ_ _ _ _ h=>?_) (λ_ _ _ _ _ H _ Q E hr h=>?_)
 ·obtain⟨a,p,h,xs,rfl,_⟩:=h
  rfl
 obtain⟨a,p,h,xs,rfl,hH,ok,hS,hx,h64,q⟩:=h;have o1:=ok.o
 rcases hS with hS|hS
 ·refine⟨_,(d9 (j4 (i:=2) ad.nd Iu Iy (l6 cB (l6 A4 (i8 (i5 K) (pv 0) h7) (i8 (i5 K) (pv 0) h7)) h7))
  (h9 (j5 (j6 (cS K rfl) rfl T.CU boot_all (a8 (B3 (own:=["thing"]) (fr:=[(2,"last")]) rfl (mkC ["hall","things","last"] (i4 (top 16))) (m7 K (pv 1)) (λcl C s H ex=>⟨(l8 (i:=0) (show(["thing","last"]:List Str).Nodup from by decide +kernel) Iu Ix Iy),F1,(l9 Ac hr Iu (a8 (pv 0) (a8 h7 (a8 (pv 1) c7 a9) m9) a9))⟩)) c7 Q9))))),?_⟩
  refine⟨_,Iu,a,_,_,_,Iu,Iu,hH,Iu,_,Iu,a,_,_,_,Iu,Iu,hH,Iu,_,_,Iu,Iu,.inl ⟨by lia,by lia⟩,_,_,Iu,Iu,?_⟩
  refine⟨_,Iu,p,Iu,⟨_,hS⟩,?_⟩
  refine A2 (xs:=xs) (λi acc σ H'=>H'=H/\acc=((xs.take i).map λx=>A9 x 0 (h.o*h.e-1)).map V.bl/\∃v,σ=[v,Ir (h.o*h.e-1)])
   ⟨Iu,Iu,none,Iu⟩ (l_ (k9 (by lia))) (λi acc σ H' g=>?_) (λi acc σ H' _ g=>by rw[g.1];exact hS) ?_ ?_
  ·obtain⟨_,rfl,_⟩:=g
   rw[EV,EV,EM];lia
  ·rintro i y acc σ H' hy ⟨rfl,rfl,v,rfl⟩
   refine⟨_,Iu,_,Iu,y,_,_,Iu,hx y (ET hy),Iu,?_,_,Iu⟩;rw[HA,hy,HE,HE];rfl
  ·rintro acc σ H' ⟨rfl,rfl,v,rfl⟩ l hl
   rw[HB];refine⟨l,_,Iu,Iv c9,?_⟩
   have:=q _ (g9 hl (.lst ((xs.map λx=>A9 x 0 (h.o*h.e-1)).map V.bl)))
   rw[List.all_map];exact this
 ·refine⟨_,(d9 (j4 (i:=2) ad.nd Iu Iy (l6 cB (l6 A4 (i8 (i5 K) (pv 0) h7) (i8 (i5 K) (pv 0) h7)) h7))
  (h9 (j5 (j6 (cS K rfl) rfl T.CU boot_all (a8 (B3 (own:=["thing"]) (fr:=[(2,"last")]) rfl (mkC ["hall","things","last"] (i4 (top 16))) (dP K (pv 1)) (λcl C s H ex=>⟨(l8 (i:=0) (show(["thing","last"]:List Str).Nodup from by decide +kernel) Iu Ix Iy),F1,(l9 Ac hr Iu (a8 (pv 0) (a8 h7 (a8 (pv 1) c7 a9) m9) a9))⟩)) c7 Q9))))),?_⟩
  refine⟨_,Iu,a,_,_,_,Iu,Iu,hH,Iu,_,Iu,a,_,_,_,Iu,Iu,hH,Iu,_,_,Iu,Iu,.inl ⟨by lia,by lia⟩,_,_,Iu,Iu,?_⟩
  refine⟨_,Iu,p,Iu,⟨_,hS⟩,?_⟩
  refine gk (xs:=xs) (λi acc σ H'=>H'=H/\acc=((xs.take i).map λx=>A9 x 0 (h.o*h.e-1)).map V.bl/\∃v,σ=[v,Ir (h.o*h.e-1)])
   ⟨Iu,Iu,none,Iu⟩ (l_ (k9 (by lia))) (λi acc σ H' g=>?_) (λi acc σ H' _ g=>by rw[g.1];exact hS) ?_ ?_
  ·obtain⟨_,rfl,_⟩:=g
   rw[EV,EV,EM];lia
  ·rintro i y acc σ H' hy ⟨rfl,rfl,v,rfl⟩
   refine⟨_,Iu,_,Iu,y,_,_,Iu,hx y (ET hy),Iu,?_,_,Iu⟩;rw[HA,hy,HE,HE];rfl
  ·rintro acc σ H' ⟨rfl,rfl,v,rfl⟩ l hl
   rw[HB];refine⟨l,_,Iu,Iv c9,?_⟩
   have:=q _ (g9 hl (.lst ((xs.map λx=>A9 x 0 (h.o*h.e-1)).map V.bl)))
   rw[List.all_map];exact this
def aJ:FnScope ["some"] ["some"] (i4 (top 23)):=mkF
def qo (T:Txt K mg)(D:Def K mg "are_unlike" (top 23) p_62):i6 P w K mg base 1 "are_unlike" p_62 (jT K):=by
 refine D.ok aJ (λ_ _ _ _ h=>?_) (λ_ _ _ _ _ H _ Q E hr h=>?_)
 ·obtain⟨p,ns,rfl,_⟩:=h
  rfl
 obtain⟨p,ns,rfl,hS,h64,q⟩:=h;have ln:(ns.map V.int).length=ns.length:=EV _
 rcases hS with hS|hS
 ·refine⟨_,(h9 (j5 (F3 E4 (j6 (bp P w) rfl T.zY HF (a8 (w9 (aC K P w rfl) rfl T.Bz boot_set (a8 (pv 0) c7 a9)) c7 n9)) (j6 (y9 K) rfl T.zY HF (a8 (pv 0) c7 a9)) (m6 _)))),?_⟩
  refine⟨_,Iu,p,ns,Iu,hS,by lia,λl hl=>?_⟩
  have s1:=g9 hl (qD P w l ns);refine⟨l,ns,Iu,c9,_,Iu,p,_,Iu,.inl (s1.seq hS),Iu,?_⟩
  have:=q _ s1
  rw[ln]
  have e:decide (V.int (((A6 ns).length:Nat):Int)=V.int ((ns.length:Nat):Int))=decide ((A6 ns).length=ns.length):=by
   rw[Ew,FJ,FJ]
   constructor
   ·intro z
    have:=V.int.inj z
    lia
   ·intro z
    rw[z]
  rw[e];exact this
 ·refine⟨_,(h9 (j5 (F3 E4 (j6 (bp P w) rfl T.zY HF (a8 (w9 (nr K P w rfl) rfl T.Bz boot_set (a8 (pv 0) c7 a9)) c7 n9)) (j6 (y9 K) rfl T.zY HF (a8 (pv 0) c7 a9)) (m6 _)))),?_⟩
  refine⟨_,Iu,p,ns,Iu,hS,by lia,λl hl=>?_⟩
  have s1:=g9 hl (qD P w l ns);refine⟨l,ns,Iu,c9,_,Iu,p,_,Iu,.inr (i9.seqT s1 hS),Iu,?_⟩
  have:=q _ s1
  rw[ln]
  have e:decide (V.int (((A6 ns).length:Nat):Int)=V.int ((ns.length:Nat):Int))=decide ((A6 ns).length=ns.length):=by
   rw[Ew,FJ,FJ]
   constructor
   ·intro z
    have:=V.int.inj z
    lia
   ·intro z
    rw[z]
  rw[e];exact this
def oA:FnScope ["hall","thing"] ["hall","thing"] (i4 (top 27)):=mkF
theorem nK (T:Txt K mg)(Cs:i6 P w K mg base 3 "are_ends" p_60 (io K))(Ai:i6 P w K mg base 1 "are_unlike" p_62 (jT K))(D:Def K mg "is_ends" (top 27) p_35):i6 P w K mg base 4 "is_ends" p_35 (kI K):=by
 refine D.ok oA (λ_ _ _ _ h=>?_) (λ_ _ _ _ _ H _ Q E hr h=>?_)
 ·obtain⟨a,h,x,o,rfl,_⟩:=h
  rfl
 obtain⟨a,h,x,o,rfl,hH,ok,hT,q⟩:=h
 refine⟨_,(d9 (n6 (PW.pt (dg (F0 (B0 K (j6 (gC K) rfl T.zK HV (a8 (pv 1) (a8 (y7 (a8 (N3 (v:=.ty "list") rfl T.Ap HW rfl) (a8 (N3 (v:=.ty "tuple") rfl T.Ak HM rfl) c7 a9) a9)) c7 N8) a9)) (λ_=>rfl))) (aT (k8 E4 (j6 (y9 K) rfl T.zY HF (a8 (pv 1) c7 a9)) h7 (m6 _))))) (h9 (j5 F2)) l7)
  (h9 (j5 (T8 (l9 Cs hr Iu (a8 (pv 0) (a8 (pv 1) c7 a9) a9)) (Y8 (l9 Ai hr Iu (a8 (pv 1) c7 a9))))))),?_⟩
 refine⟨_,Iu,z_2,λtp htp=>?_⟩
 obtain⟨H1,Ip,s1,etp⟩:=Io htp (.tup [.ty "list",.ty "tuple"]);rw[Ip];have hT1:=hT.same s1
 cases hT1 with
 | no ty h1 h2 =>
  refine⟨_,tp,_,_,_,_,_,Iu,etp,ty,h1,h2,_,Iu,E9 ?_⟩;exact q _ s1
 | @lst p xs e hx h64 =>
  refine⟨_,tp,_,_,_,_,_,Iu,etp,.lst e,db,di,_,Iu,B9 ?_⟩;refine⟨_,Iu,p,xs,Iu,.inl (Iv e),Iu,_,Iu,?_⟩;refine B4 (λc=>?_) (λc=>?_)
  ·have c':xs=[]:=by
    have:((xs.length:Nat):Int)=0:=by simpa using c
    exact Ha.mp (by lia)
   have:=q _ s1
   rw[c'] at this;exact this
  ·have c':xs≠[]:=λz=>c (by rw[z];rfl)
   have ne:(!xs.isEmpty)=true:=by cases xs with
    | nil=>exact absurd rfl c'
    | cons _ _=>rfl
   refine⟨_,Iu,_,Iu,a,p,h,xs,Iu,i9.seqT s1 hH,ok,.inl (Iv e),hx,h64,λH2 s2=>⟨_,Iu,?_⟩⟩;refine B4 (λd=>?_) (λd=>?_)
   ·obtain⟨ns,rfl⟩:=nG d
    have e2:=s2 _ _ e;refine⟨_,Iu,p,ns,Iu,.inl (Iv e2),by rw[EV] at h64;exact h64,λH3 s3=>?_⟩
    have:=q _ ((s1.trans s2).trans s3)
    rw[show dk h (some (ns.map V.int))=decide ((A6 ns).length=ns.length) by
     show(!(ns.map V.int).isEmpty&&((ns.map V.int).all (λx=>A9 x 0 (h.o*h.e-1))&&Q7 (ns.map V.int)))=_
     rw[ne,d,HC,HC];unfold Q7
     rw[cu,EV]] at this
    exact this
   ·have:=q _ (s1.trans s2)
    rw[show dk h (some xs)=false by
     show(!xs.isEmpty&&(xs.all (λx=>A9 x 0 (h.o*h.e-1))&&Q7 xs))=_
     rw[Gq.mpr d,Ek,Fk]] at this
    exact this
 | @tup p xs e hx h64 =>
  refine⟨_,tp,_,_,_,_,_,Iu,etp,.tup e,jV,Y2,_,Iu,B9 ?_⟩;refine⟨_,Iu,p,xs,Iu,.inr (Iw e),Iu,_,Iu,?_⟩;refine B4 (λc=>?_) (λc=>?_)
  ·have c':xs=[]:=by
    have:((xs.length:Nat):Int)=0:=by simpa using c
    exact Ha.mp (by lia)
   have:=q _ s1
   rw[c'] at this;exact this
  ·have c':xs≠[]:=λz=>c (by rw[z];rfl)
   have ne:(!xs.isEmpty)=true:=by cases xs with
    | nil=>exact absurd rfl c'
    | cons _ _=>rfl
   refine⟨_,Iu,_,Iu,a,p,h,xs,Iu,i9.seqT s1 hH,ok,.inr (Iw e),hx,h64,λH2 s2=>⟨_,Iu,?_⟩⟩;refine B4 (λd=>?_) (λd=>?_)
   ·obtain⟨ns,rfl⟩:=nG d
    have e2:=s2 _ _ e;refine⟨_,Iu,p,ns,Iu,.inr (Iw e2),by rw[EV] at h64;exact h64,λH3 s3=>?_⟩
    have:=q _ ((s1.trans s2).trans s3)
    rw[show dk h (some (ns.map V.int))=decide ((A6 ns).length=ns.length) by
     show(!(ns.map V.int).isEmpty&&((ns.map V.int).all (λx=>A9 x 0 (h.o*h.e-1))&&Q7 (ns.map V.int)))=_
     rw[ne,d,HC,HC];unfold Q7
     rw[cu,EV]] at this
    exact this
   ·have:=q _ (s1.trans s2)
    rw[show dk h (some xs)=false by
     show(!xs.isEmpty&&(xs.all (λx=>A9 x 0 (h.o*h.e-1))&&Q7 xs))=_
     rw[Gq.mpr d,Ek,Fk]] at this
    exact this
def oR (as:List Addr)(ks:List Call)(c:Int)(v:V):Prop:=(v=.non/\∀k∈ks,k.c≠c)\/∃(j:Nat)(a:Addr)(k:Call),as[j]? = some a/\ks[j]? = some k/\k.c=c/\v=.ref a
def bz (K:Frag):Sp:=λvs H Q _=>∃(l:Addr)(x:V)(as:List Addr)(ks:List Call),vs=[.ref l,x]/\SqL K H l (as.map V.ref)/\m8 H as ks/\O8 K H x /\
 ((isInt x=false/\Q .non H)\/∃c,x=.int c/\∀v,oR as ks c v->Q v H)
def fU:FnScope ["calls","caller","call"] ["calls","caller"] (i4 (top 33)):=mkF
def nH {P:Program}{w:World}{base:Heap}(T:Txt K mg)(Ad:i6 P w K mg base 1 "is_number" p_56 (dJ K))(D:Def K mg "call_of" (top 33) p_49):i6 P w K mg base 2 "call_of" p_49 (bz K):=by
 refine D.ok fU (λ_ _ _ _ h=>?_) (λ_ _ _ _ _ H _ Q E hr h=>?_)
 ·obtain⟨l,x,as,ks,rfl,_⟩:=h
  rfl
 obtain⟨l,x,as,ks,rfl,hL,hC,hp,q⟩:=h
 refine⟨_,(d9 (n6 (F0 (B0 K (l9 Ad hr Iu (a8 (pv 1) c7 a9)) (λ_=>rfl))) (h9 (j5 o5)) l7)
  (d9 (w5 HI rfl (m7 K (pv 0)) (l8 (i:=2) fU.nd Iu Ix)
  (h9 (n6 (k8 E4 (i8 (i5 K) (pv 2) h7) (pv 1) (m6 _)) (h9 (j5 (pv 2))) l7)))
  (h9 (j5 o5)))),?_⟩
 refine⟨_,Iu,x,Iu,hp,_,Iu,?_⟩
 rcases q with⟨hx,q⟩|⟨c,rfl,q⟩
 ·rw[hx]
  exact E9 q
 refine B9 ?_;have la:=d_ hC;refine⟨_,Iu,l,Iu,⟨_,hL⟩,?_⟩
 refine o9 (xs:=as.map V.ref) (λi σ H'=>H'=H/\(∀(j:Nat) k,j<i->ks[j]? = some k->k.c≠c)/\∃v,σ=[Iq l,Ir c,v])
  ⟨Iu,(λj k hj=>absurd hj (Hn _)),none,Iu⟩ (λi σ H' _ g=>g.1▸hL) ?_ ?_
 ·rintro i x σ H' hx ⟨rfl,hno,v,rfl⟩
  rw[ER] at hx;obtain⟨a,ha,rfl⟩:=Hg.mp hx;obtain⟨k,hk,ce,e1,e2⟩:=j7 hC i a ha;refine⟨_,Iu,a,_,_,_,Iu,Iu,Iw e2,Iu,_,Iu,Iu,_,Iu,?_⟩;refine B4 (λcc=>?_) (λcc=>?_)
  ·have cc':k.c=c:=by simpa using cc
   exact⟨_,Iu,q _ (.inr ⟨i,a,k,ha,hk,cc',Iu⟩)⟩
  ·have cc':k.c≠c:=by simpa using cc
   refine⟨Iu,λj k' hj hk'=>?_,_,Iu⟩
   by_cases z:j=i
   ·subst z
    rw[hk] at hk'
    cases hk'
    exact cc'
   ·exact hno j k' (by lia) hk'
 ·rintro σ H' ⟨rfl,hno,v,rfl⟩
  refine q _ (.inl ⟨Iu,λk hk=>?_⟩);obtain⟨j,hj⟩:=HX.mp hk
  have:=(s_.mp hj).1
  exact hno j k (by rw[EV];lia) hj
def yC (ks:List Call)(e:Int)(v:V):Prop:=(v=.non/\∀k∈ks,¬e∈k.es)\/∃k∈ks,e∈k.es/\v=.int k.c
def eV (K:Frag):Sp:=λvs H Q _=>∃(l:Addr)(e:Int)(as:List Addr)(ks:List Call),vs=[.ref l,.int e]/\SqL K H l (as.map V.ref)/\m8 H as ks/\∀v,yC ks e v->Q v H
def bA:FnScope ["calls","end","call"] ["calls","end"] (i4 (top 34)):=mkF
def jF {P:Program}{w:World}{base:Heap}(T:Txt K mg)(Ad:i6 P w K mg base 1 "is_number" p_56 (dJ K))(D:Def K mg "holder_of" (top 34) p_64):i6 P w K mg base 2 "holder_of" p_64 (eV K):=by
 refine D.ok bA (λ_ _ _ _ h=>?_) (λ_ _ _ _ _ H _ Q E hr h=>?_)
 ·obtain⟨l,x,as,ks,rfl,_⟩:=h
  rfl
 obtain⟨l,e,as,ks,rfl,hL,hC,q⟩:=h
 refine⟨_,(d9 (n6 (F0 (B0 K (l9 Ad hr Iu (a8 (pv 1) c7 a9)) (λ_=>rfl))) (h9 (j5 o5)) l7)
  (d9 (w5 HI rfl (m7 K (pv 0)) (l8 (i:=2) bA.nd Iu Ix)
  (h9 (n6 (k8 (jG K) (pv 1) (i8 (i5 K) (pv 2) h7) (by with_unfolding_all rfl)) (h9 (j5 (i8 (i5 K) (pv 2) h7))) l7)))
  (h9 (j5 o5)))),?_⟩
 refine⟨_,Iu,.int e,Iu,.int e,_,Iu,B9 ?_⟩;have la:=d_ hC;refine⟨_,Iu,l,Iu,⟨_,hL⟩,?_⟩
 refine o9 (xs:=as.map V.ref) (λi σ H'=>H'=H/\(∀(j:Nat) k,j<i->ks[j]? = some k->¬e∈k.es)/\∃v,σ=[Iq l,Ir e,v])
  ⟨Iu,(λj k hj=>absurd hj (Hn _)),none,Iu⟩ (λi σ H' _ g=>g.1▸hL) ?_ ?_
 ·rintro i x σ H' hx ⟨rfl,hno,v,rfl⟩
  rw[ER] at hx;obtain⟨a,ha,rfl⟩:=Hg.mp hx;obtain⟨k,hk,ce,e1,e2⟩:=j7 hC i a ha;refine⟨_,Iu,_,Iu,a,_,_,_,Iu,Iu,Iw e2,Iu,ce,_,Iu,.inr (Iw e1),Iu,U7 k.es,_,Iu,?_⟩;rw[bi];refine B4 (λcc=>?_) (λcc=>?_)
  ·have cc':e∈k.es:=by simpa using cc
   exact⟨_,Iu,a,_,_,_,Iu,Iu,Iw e2,Iu,q _ (.inr ⟨k,ET hk,cc',Iu⟩)⟩
  ·have cc':¬e∈k.es:=by simpa using cc
   refine⟨Iu,λj k' hj hk'=>?_,_,Iu⟩
   by_cases z:j=i
   ·subst z
    rw[hk] at hk'
    cases hk'
    exact cc'
   ·exact hno j k' (by lia) hk'
 ·rintro σ H' ⟨rfl,hno,v,rfl⟩
  refine q _ (.inl ⟨Iu,λk hk=>?_⟩);obtain⟨j,hj⟩:=HX.mp hk
  have:=(s_.mp hj).1
  exact hno j k (by rw[EV];lia) hj
def F6 (h:j8)(s:Int)(gs:List Int)(k:Call):Bool:=decide (k.c/h.c=s) || (i7 h k.es).any λr=>decide (r∈gs)
def J8 (h:j8)(ks:List Call)(s:Int)(gs:List Int)(r:Nat):List Int:=(ks.filter λk=>decide (k.k=(r:Int))&&F6 h s gs k).map Call.c
def O4 (h:j8)(ks:List Call)(s:Int)(gs:List Int):List (List Int):=(List.range h.m.toNat).map (J8 h ks s gs)
def F7 (h:j8)(ks:List Call)(c:Int)(es:List Int):List (List Int):=O4 h ks (c/h.c) (i7 h es)
def ay (h:j8)(ks:List Call)(s:Int)(gs:List Int)(r:Nat)(k:Call):J8 h (ks++[k]) s gs r=J8 h ks s gs r++(if (decide (k.k=(r:Int))&&F6 h s gs k)=true then [k.c] else []):=by
 unfold J8;rw[HR,HE]
 have e:List.filter (λk=>decide (k.k=(r:Int))&&F6 h s gs k) [k]=if (decide (k.k=(r:Int))&&F6 h s gs k)=true then [k] else []:=by
  rw[List.filter_cons];rfl
 rw[e]
 by_cases c:(decide (k.k=(r:Int))&&F6 h s gs k)=true
 ·rw[Ik c,Ik c]
  rfl
 ·rw[Il c,Il c]
  rfl
def bu (h:j8)(ks:List Call)(s:Int)(gs:List Int)(r:Nat):(J8 h ks s gs r).length<=ks.length:=by
 unfold J8;rw[EV];exact HQ _ _
def bq (h:j8)(ks:List Call)(s:Int)(gs:List Int):(O4 h ks s gs).length=h.m.toNat:=by
 unfold O4;rw[EV,Hx]
def B8 (H:Hp)(rs:List Addr)(rows:List (List Int)):Prop:=Paired (λa row=>H a=some (.lst (row.map V.int))) rs rows
theorem B8.other (h:B8 H rs rows):¬a∈rs->B8 (upd H a o) rs rows:=by
 induction h with
 | nil=>exact λ_=>.nil
 | @cons b _ _ _ h t ih =>
  intro hn
  have:b≠a:=λz=>hn (by rw[z];exact n_ ..)
  refine .cons ?_ (ih λz=>hn (o_ _ z))
  show upd H a o b=_
  rw[j9 this];exact h
theorem B8.set {row:List Int}:∀{rs:List Addr}{rows:List (List Int)}{j:Nat},B8 H rs rows->rs.Nodup->rs[j]? = some a->B8 (upd H a (.lst (row.map V.int))) rs (rows.set j row)
 | _,_,_,.nil,_,h=>by cases h
 | _,_,0,.cons (a:=b) h t,nd,hj=>by
  cases hj
  exact .cons c9 (B8.other t (EL.mp nd).1)
 | _,_,j+1,.cons (a:=b) h t,nd,hj=>by
  have hj':_:=hj;rw[List.getElem?_cons_succ] at hj';have hm:=ET hj';have hb:b≠a:=λz=>(EL.mp nd).1 (by rw[z];exact hm)
  exact .cons (by
   show upd H a _ b=_
   rw[j9 hb];exact h) (B8.set t (EL.mp nd).2 hj')
theorem B8.same (s:i9 H H')(h:B8 H rs rows):B8 H' rs rows:=by
 unfold B8 at h ⊢;exact A5 h λa d _ e=>s _ _ e
def nQ {n j:Nat}(f:Nat->List Int)(x:List Int):((List.range n).map f).set j x=(List.range n).map λr=>if r=j then x else f r:=by
 refine GS λi=>?_;rw[List.getElem?_set,ER,ER]
 by_cases hi:i<n
 ·rw[I_ hi]
  simp only[EV,Hx,Fq]
  by_cases c:j=i
  ·subst c;simp[hi]
  ·simp[c,Im c]
 ·rw[Go (by simpa using hi)]
  simp only[EV,Hx,Option.map_none]
  by_cases c:j=i
  ·subst c;simp[hi]
  ·simp[c]
def lJ (K:Frag):Sp:=λvs H Q _=>∃(a p g:Addr)(h:j8)(k:Call)(st:Int)(gs:List Int),vs=[.ref a,.ref p,.int st,.ref g]/\SqT K H a (h.row.map V.int)/\h.Ok/\y8 H p k/\k.In h/\SqL K H g (gs.map V.int)/\∀H',i9 H H'->Q (.bl (F6 h st gs k)) H'
def aw (K:Frag):Sp:=λvs H Q _=>∃(a l e:Addr)(h:j8)(as:List Addr)(ks:List Call)(c:Int)(es:List Int),vs=[.ref a,.ref l,.int c,.ref e]/\SqT K H a (h.row.map V.int)/\h.Ok/\SqL K H l (as.map V.ref)/\m8 H as ks/\(∀k∈ks,k.In h)/\ks.length<=63/\(SqT K H e (es.map V.int)\/SqL K H e (es.map V.int))/\es.length<64 /\
 ∀(f:Addr)(rs:List Addr)(H':Hp),i9 H H'->H f=none->(∀r∈rs,H r=none)->rs.Nodup->¬f∈rs->H' f=some (.lst (rs.map V.ref))->B8 H' rs (F7 h ks c es)->Q (.ref f) H'
def dH:FnScope ["hall","call","start","goals"] ["hall","call","start","goals"] (i4 (top 28)):=mkF
def rS (T:Txt K mg)(zX:i6 P w K mg base 1 "place_in" p_31 (R8 K j8.c))(zV:i6 P w K mg base 2 "racks_of" p_24 (T0 K))(D:Def K mg "holds_needed" (top 28) p_28):i6 P w K mg base 3 "holds_needed" p_28 (lJ K):=by
 refine D.ok dH (λ_ _ _ _ h=>?_) (λ_ _ _ _ _ H _ Q E hr h=>?_)
 ·obtain⟨a,p,g,h,k,st,gs,rfl,_⟩:=h
  rfl
 obtain⟨a,p,g,h,k,st,gs,rfl,hH,ok,⟨e,ee,ep⟩,hk,hG,q⟩:=h;have few:=hk.few
 refine⟨_,(d9 (n6 (k8 E4 (i8 (i5 K) (l9 zX hr Iu (a8 (pv 0) (a8 (i8 (i5 K) (pv 1) h7) c7 m5) a9)) h7) (pv 2) (m6 _)) (h9 (j5 F2)) l7)
  (h9 (j5 (j6 (rW K rfl) rfl T.Dw boot_any (a8 (B3 (own:=["rack"]) (fr:=[(3,"goals")]) rfl (mkC ["hall","call","start","goals"] (i4 (top 28))) (m7 K (l9 zV hr Iu (a8 (pv 0) (a8 (i8 (i5 K) (pv 1) h7) c7 m5) a9))) (λcl C s H ex=>⟨(l8 (i:=0) (show(["rack","goals"]:List Str).Nodup from by decide +kernel) Iu Ix Iy),F1,(F3 (jG K) (pv 0) (pv 1) (by with_unfolding_all rfl))⟩)) c7 Q9))))),?_⟩
 refine⟨_,Iu,_,Iu,p,_,_,_,Iu,Iu,Iw ep,Iu,a,h,k.c,Iu,hH,ok,λr hr1=>?_⟩;obtain⟨H1,Ip,s1,er⟩:=Io hr1 (.tup [.int (k.c/h.c),.int (k.c%h.c)]);rw[Ip];refine⟨r,_,_,_,Iu,Iu,Iw er,Iu,_,Iu,Iu,_,Iu,?_⟩;refine B4 (λc=>?_) (λc=>?_)
 ·have c':k.c/h.c=st:=by simpa using c
  have:=q H1 s1
  rw[show F6 h st gs k=true by unfold F6;rw[Fm c'];rfl] at this
  exact this
 ·have c':¬k.c/h.c=st:=by simpa using c
  refine⟨_,Iu,_,Iu,p,_,_,_,Iu,Iu,Iw (s1 _ _ ep),Iu,a,e,h,k.es,Iu,i9.seqT s1 hH,ok,.inl (Iw (s1 _ _ ee)),by lia,λl H2 s2 _ el=>?_⟩
  have s12:=s1.trans s2;have rl:=O6 h k.es;refine⟨l,Iu,⟨_,Iv el⟩,?_⟩
  refine A2 (xs:=(i7 h k.es).map V.int) (λi acc σ H'=>H'=H2/\acc=(((i7 h k.es).take i).map λr=>decide (r∈gs)).map V.bl/\∃v,σ=[v,Iq g])
   ⟨Iu,Iu,none,Iu⟩ (l_ (k9 (by rw[EV];lia))) (λi acc σ H' gg=>?_) (λi acc σ H' _ gg=>by rw[gg.1];exact Iv el) ?_ ?_
  ·obtain⟨_,rfl,_⟩:=gg
   rw[EV,EV,EM];lia
  ·rintro i y acc σ H' hy ⟨rfl,rfl,v,rfl⟩
   rw[ER] at hy;obtain⟨x,hx,rfl⟩:=Hg.mp hy;refine⟨_,Iu,_,Iu,g,_,Iu,.inl (s12.seq hG),Iu,U7 gs,Iu,?_,_,Iu⟩;rw[HA,hx,HE,HE]
   show _=_++[V.bl _]
   rw[bi];rfl
  ·rintro acc σ H' ⟨rfl,rfl,v,rfl⟩ l2 hl2
   rw[EV,HB];refine⟨l2,_,Iu,Iv c9,?_⟩
   have:=q _ (s12.trans (g9 hl2 (.lst (((i7 h k.es).map λr=>decide (r∈gs)).map V.bl))))
   rw[show F6 h st gs k=((i7 h k.es).map λr=>decide (r∈gs)).any id by
    unfold F6;rw[b_ c',Bool.false_or,List.any_map]
    rfl] at this
   exact this
def S3:FnScope ["hall","calls","caller","ends","start","goals","found","call"] ["hall","calls","caller","ends"] (i4 (top 29)):=mkF
def oP {P:Program}{w:World}{base:Heap}(T:Txt K mg)(zX:i6 P w K mg base 1 "place_in" p_31 (R8 K j8.c))(zV:i6 P w K mg base 2 "racks_of" p_24 (T0 K))(Bo:i6 P w K mg base 3 "holds_needed" p_28 (lJ K))(D:Def K mg "holders" (top 29) p_25):i6 P w K mg base 4 "holders" p_25 (aw K):=by
 refine D.ok S3 (λ_ _ _ _ h=>?_) (λ_ _ _ _ _ H _ Q E hr h=>?_)
 ·obtain⟨a,l,e,h,as,ks,c,es,rfl,_⟩:=h
  rfl
 obtain⟨a,l,e,h,as,ks,c,es,rfl,hH,ok,hL,hC,hin,h63,hE,h64,q⟩:=h;have b3:=ok.m;have la:=d_ hC
 refine⟨_,(d9 (j4 (i:=4) S3.nd Iu Ix (i8 (i5 K) (l9 zX hr Iu (a8 (pv 0) (a8 (pv 2) c7 a9) a9)) h7))
  (d9 (j4 (i:=5) S3.nd Iu Ix (l9 zV hr Iu (a8 (pv 0) (a8 (pv 3) c7 a9) a9)))
  (d9 (bB (i:=6) (own:=["k"]) (fr:=[]) rfl S3.nd rfl rfl (mkC ["hall","calls","caller","ends","start","goals","found","call"] (i4 (top 29))) (C8 rfl T.zZ (a8 (i8 (i5 K) (pv 0) h7) c7 m5)) (λcl C s H ex=>⟨(l8 (i:=0) (show(["k"]:List Str).Nodup from by decide +kernel) Iu Ix Iy),F1,(r6 c7)⟩) rfl)
  (d9 (w5 HI rfl (m7 K (pv 1)) (l8 (i:=7) S3.nd Iu Ix)
  (h9 (n6 (B0 K (l9 Bo hr Iu (a8 (pv 0) (a8 (pv 7) (a8 (pv 4) (a8 (pv 5) c7 a9) a9) a9) a9)) (λ_=>rfl)) (h9 (C3 (F8 K HJ HK HL B5 (i8 (u7 K) (pv 6) (i8 (i5 K) (pv 7) h7)) (a8 (i8 (i5 K) (pv 7) h7) c7 m5)))) l7)))
  (h9 (j5 (pv 6))))))),?_⟩
 refine⟨_,Iu,_,Iu,a,h,c,Iu,hH,ok,λr hr1=>?_⟩;obtain⟨H1,Ip,s1,er⟩:=Io hr1 (.tup [.int (c/h.c),.int (c%h.c)]);rw[Ip];refine⟨r,_,_,_,Iu,Iu,Iw er,Iu,?_⟩;refine⟨_,Iu,_,Iu,a,e,h,es,Iu,i9.seqT s1 hH,ok,hE.imp (λz=>i9.seqT s1 z) (λz=>s1.seq z),h64,λg H2 s2 _ eg=>?_⟩;have s12:=s1.trans s2;refine⟨_,Iu,a,_,_,_,Iu,Iu,i9.seqT s12 hH,Iu,_,Iu,by show -(2^62)<=h.m;lia,by show h.m<2^62;lia,?_⟩
 refine bo (λi acc σ H'=>i9 H2 H'/\(∃rs:List Addr,acc=rs.map V.ref/\rs.length=i/\rs.Nodup/\(∀r∈rs,H2 r=none)/\B8 H' rs (List.replicate i []))/\∃v,σ=[v])
  ⟨i9.refl _,⟨[],Iu,Iu,Fu,(λr hr=>nomatch hr),.nil⟩,none,Iu⟩ (by show h.m.toNat<=16777216;lia) (λi acc σ H' gg=>?_) ?_ ?_
 ·obtain⟨_,⟨rs,rfl,hl,_⟩,_⟩:=gg
  rw[EV,hl];exact Eo _
 ·rintro i acc σ H' hi ⟨g1,⟨rs,rfl,hl,nd,hn,hr⟩,v,rfl⟩
  refine⟨z_0,λu hu=>⟨g1.trans (g9 hu _),⟨rs++[u],by rw[HE];rfl,by rw[EU,hl];rfl,?_,?_,?_⟩,_,Iu⟩⟩
  ·refine GR.mpr ⟨nd,by simp,λx hx y hy=>?_⟩
   rw[Fx] at hy
   rintro rfl
   have:H' x≠none:=by
    obtain⟨j,hj⟩:=HX.mp hx;obtain⟨row,_,e2⟩:=j7 hr j x hj;exact λz=>by rw[e2] at z;cases z
   exact this (by rw[hy];exact hu)
  ·intro x hx
   rcases q_.mp hx with z|z
   ·exact hn x z
   ·rw[Fx] at z
    rw[z];exact g1.free hu
  ·rw[List.replicate_succ']
   exact Fr (B8.same (g9 hu _) hr) c9
 ·rintro acc σ H3 ⟨s3,⟨rs,rfl,hl,nd,hn,hr⟩,v,rfl⟩ F hF
  have eF:=@c9 H3 F (.lst (rs.map V.ref));have s4:=s3.trans (g9 hF (.lst (rs.map V.ref)));have hr4:=B8.same (g9 hF (.lst (rs.map V.ref))) hr
  have hFn:¬F∈rs:=λz=>by
   obtain⟨j,hj⟩:=HX.mp z;obtain⟨row,_,e2⟩:=j7 hr j F hj;rw[hF] at e2
   cases e2
  generalize upd H3 F _=H4 at eF s4 hr4 ⊢;have hF2:H2 F=none:=s3.free hF
  have e0:List.replicate h.m.toNat []=O4 h (ks.take 0) (c/h.c) (i7 h es):=by
   unfold O4 J8;rw[HY];refine GS λi=>?_;rw[ER,List.getElem?_replicate]
   by_cases hi:i<h.m.toNat
   ·rw[Ik hi,I_ hi]
    rfl
   ·rw[Il hi,Go (by simpa using hi)]
    rfl
  rw[e0] at hr4;refine⟨_,Iu,l,Iu,⟨_,(s12.trans s4).seq hL⟩,?_⟩
  refine o9 (xs:=as.map V.ref) (λi σ H'=>i9 H2 H'/\H' F=some (.lst (rs.map V.ref))/\B8 H' rs (O4 h (ks.take i) (c/h.c) (i7 h es))/\∃v7,σ=[Iq a,Iq l,Ir c,Iq e,Ir (c/h.c),Iq g,Iq F,v7])
   ⟨s4,eF,hr4,none,Iu⟩ (λi σ H' _ gg=>(s12.trans gg.1).seq hL) ?_ ?_
  ·rintro i x σ H' hx ⟨s5,eF5,hr5,v7,rfl⟩
   rw[ER] at hx;obtain⟨p,hp,rfl⟩:=Hg.mp hx;obtain⟨k,hk1,hk2⟩:=j7 hC i p hp;have hkI:=hin k (ET hk1);have hkk:=hkI.k;have tk:ks.take (i+1)=ks.take i++[k]:=by rw[HA,hk1];rfl
   have s25:=s12.trans s5;have hk5:y8 H' p k:=y8.same (λb xs z=>s25 _ _ z) hk2;refine⟨_,Iu,_,Iu,_,Iu,_,Iu,a,p,g,h,k,c/h.c,i7 h es,Iu,i9.seqT s25 hH,ok,hk5,hkI,Iv (s5 _ _ eg),λH6 s6=>?_⟩;refine⟨_,Iu,?_⟩;have hr6:=B8.same s6 hr5;have eF6:=s6 _ _ eF5;refine B4 (λcc=>?_) (λcc=>?_)
   ·obtain⟨ce,e1,e2⟩:=y8.same (λb xs z=>s6 _ _ z) hk5
    obtain⟨n,hnk⟩:∃n:Nat,k.k=(n:Int):=⟨k.k.toNat,by lia⟩
    have hn1:n<h.m.toNat:=by lia
    have lr:=d_ hr6;rw[bq] at lr;have ea:rs[n]? = some (rs[n]'(by lia)):=Gb _
    generalize rs[n]'(by lia)=ra at ea
    obtain⟨row,w1,w2⟩:=j7 hr6 n ra ea
    have w1':row=J8 h (ks.take i) (c/h.c) (i7 h es) n:=by
     unfold O4 at w1;rw[ER,I_ hn1] at w1;exact(e_ w1).symm
    have hat:atI (rs.map V.ref) k.k=some (.ref ra):=by rw[hnk];exact C4 (by rw[ER,ea];rfl)
    have rlen:row.length<=63:=by
     rw[w1'];have h1:=bu h (ks.take i) (c/h.c) (i7 h es) n;have h2:(ks.take i).length<=ks.length:=by rw[EM];lia
     lia
    refine⟨_,Iu,_,Iu,p,_,_,_,Iu,Iu,Iw e2,Iu,F,_,_,_,Iu,Iu,Iv eF6,hat,.inl ⟨Iu,_,Iv w2⟩,_,Iu,p,_,_,_,Iu,Iu,Iw e2,Iu,ra,row.map V.int,_,Iu,Iu,w2,k9 (by rw[EV];lia),?_⟩
    have hra:=ET ea;have hFra:F≠ra:=λz=>hFn (by rw[z];exact hra)
    refine⟨i9.put (s5.trans s6) (hn ra hra),by rw[j9 hFra];exact eF6,?_,_,Iu⟩
    have em:(O4 h (ks.take i) (c/h.c) (i7 h es)).set n (row++[k.c])=O4 h (ks.take (i+1)) (c/h.c) (i7 h es):=by
     unfold O4;rw[nQ];refine GW λr hr=>?_;rw[tk,ay]
     by_cases z:r=n
     ·subst z
      rw[Ik rfl,Ik (by rw[Fm hnk,cc];rfl),w1']
     ·rw[Il z,Il (by rw[b_ (λy=>z (by lia))];exact Ei),EH]
    rw[<- em,show row.map V.int++[V.int k.c]=(row++[k.c]).map V.int by rw[HE];rfl]
    exact B8.set hr6 nd ea
   ·refine⟨s5.trans s6,eF6,?_,_,Iu⟩
    have em:O4 h (ks.take (i+1)) (c/h.c) (i7 h es)=O4 h (ks.take i) (c/h.c) (i7 h es):=by
     unfold O4;refine GW λr hr=>?_;rw[tk,ay,Il (λz=>cc (Ia.mp z).2),EH]
    rw[em];exact hr6
  ·rintro σ H' ⟨s5,eF5,hr5,v7,rfl⟩
   rw[EV,la,HB] at hr5;exact⟨_,Iu,q F rs H' (s12.trans s5) (s12.free hF2) (λr hr=>s12.free (hn r hr)) nd hFn eF5 hr5⟩
def r9 (sh:Int)(k:Nat):Bool:=decide (Builtin.bitAnd (sh/2^k) 1=0)
def o4 (h:j8)(sh:Int):List Nat:=(List.range h.m.toNat).filter (r9 sh)
def t6 (ks:List Nat):List V:=ks.map λ(k:Nat)=>V.int k
def bZ (h:j8)(sh:Int):(o4 h sh).length<=h.m.toNat:=by
 have:=HQ (r9 sh) (List.range h.m.toNat)
 rw[Hx] at this;exact this
def aD {sh:Int}{k:Nat}(hk:k∈o4 h sh):k<h.m.toNat:=j_.mp (i_.mp hk).1
def jL (K:Frag):Sp:=λvs H Q _=>∃(a:Addr)(h:j8)(sh:Int),vs=[.ref a,.int sh]/\SqT K H a (h.row.map V.int)/\h.Ok/\∀l,H l=none->Q (.ref l) (upd H l (.lst (t6 (o4 h sh))))
def jd:FnScope ["hall","shut"] ["hall","shut"] (i4 (top 19)):=mkF
def vF (T:Txt K mg)(D:Def K mg "left_open" (top 19) p_47):i6 P w K mg base 1 "left_open" p_47 (jL K):=by
 refine D.ok jd (λ_ _ _ _ h=>?_) (λ_ _ _ _ _ H _ Q E hr h=>?_)
 ·obtain⟨a,h,sh,rfl,_⟩:=h
  rfl
 obtain⟨a,h,sh,rfl,hH,ok,q⟩:=h;have b3:=ok.m;refine⟨_,(h9 (j5 (B3 (own:=["k"]) (fr:=[(1,"shut")]) rfl (mkC ["hall","shut"] (i4 (top 19))) (C8 rfl T.zZ (a8 (i8 (i5 K) (pv 0) h7) c7 m5)) (λcl C s H ex=>⟨(l8 (i:=0) (show(["k","shut"]:List Str).Nodup from by decide +kernel) Iu Ix Iy),(K1 (k8 E4 (l6 eQ (l6 fe (pv 1) (pv 0)) h7) h7 (m6 _))),(pv 0)⟩)))),?_⟩
 refine⟨_,Iu,a,_,_,_,Iu,Iu,hH,Iu,_,Iu,by show -(2^62)<=h.m;lia,by show h.m<2^62;lia,?_⟩
 refine bo (λi acc σ H'=>H'=H/\acc=t6 ((List.range i).filter (r9 sh))/\∃v,σ=[v,Ir sh])
  ⟨Iu,Iu,none,Iu⟩ (by show h.m.toNat<=16777216;lia) (λi acc σ H' g=>?_) ?_ ?_
 ·obtain⟨_,rfl,_⟩:=g
  unfold t6;rw[EV]
  have:=HQ (r9 sh) (List.range i)
  rw[Hx] at this;exact this
 ·rintro i acc σ H' hi ⟨rfl,rfl,v,rfl⟩
  rw[HN]
  have step:t6 ((List.range (i+1)).filter (r9 sh))=t6 ((List.range i).filter (r9 sh))++(if r9 sh i=true then [V.int (i:Int)] else []):=by
   unfold t6;rw[Hz,HR,HE]
   by_cases c:r9 sh i=true
   ·rw[Ik c]
    simp[c]
   ·rw[Il c]
    simp[c]
  refine⟨_,Iu,_,Iu,_,_,Iu,Iu,by lia,_,_,Iu,Iu,Iu,_,Iu,?_⟩
  refine B4 (λc=>?_) (λc=>?_)
  ·have c':r9 sh i=true:=by
    unfold r9
    simpa using c
   refine⟨_,Iu,Iu,?_,_,Iu⟩;rw[step,Ik c']
  ·have c':¬r9 sh i=true:=by
    unfold r9
    simpa using c
   refine⟨Iu,?_,_,Iu⟩;rw[step,Il c',EH]
 ·rintro acc σ H' ⟨rfl,rfl,v,rfl⟩ l hl
  exact q l hl
structure bP (K:Frag)(H:Hp)(a l e:Addr)(h:j8)(as:List Addr)(ks:List Call)(es:List Int):Prop where
 a:SqT K H a (h.row.map V.int)
 ok:h.Ok
 l:SqL K H l (as.map V.ref)
 c:m8 H as ks
 hin:∀k∈ks,k.In h
 few:ks.length<=63
 e:SqT K H e (es.map V.int)\/SqL K H e (es.map V.int)
 len:es.length<64
theorem bP.same {K:Frag}{H H':Hp}{a l e:Addr}{h:j8}{as:List Addr}{ks:List Call}{es:List Int}(s:i9 H H')(k:bP K H a l e h as ks es):bP K H' a l e h as ks es :=
 ⟨i9.seqT s k.a,k.ok,s.seq k.l,m8.same (λb xs z=>s _ _ z) k.c,k.hin,k.few,k.e.imp (λz=>i9.seqT s z) (λz=>s.seq z),k.len⟩
def O5 (h:j8)(ks:List Call)(c:Int)(es:List Int)(k:Nat):Bool:=decide (J8 h ks (c/h.c) (i7 h es) k=[])
def X1 (h:j8)(ks:List Call)(c:Int)(es:List Int)(sh:Int):List Nat:=(o4 h sh).filter (O5 h ks c es)
def sK (K:Frag):Sp:=λvs H Q _=>∃(a l e:Addr)(h:j8)(as:List Addr)(ks:List Call)(c:Int)(es:List Int)(sh:Int),vs=[.ref a,.ref l,.int c,.ref e,.int sh]/\bP K H a l e h as ks es /\
 ∀(f:Addr)(H':Hp),i9 H H'->H f=none->H' f=some (.lst (t6 (X1 h ks c es sh)))->Q (.ref f) H'
def pZ:FnScope ["hall","calls","caller","ends","shut","held"] ["hall","calls","caller","ends","shut"] (i4 (top 30)):=mkF
def vm {P:Program}{w:World}{base:Heap}(T:Txt K mg)(An:i6 P w K mg base 4 "holders" p_25 (aw K))(Ae:i6 P w K mg base 1 "left_open" p_47 (jL K))(D:dv K mg "ways" (top 30) p_1 [.int 0]):W8 P w K mg base 5 "ways" p_1 [.int 0] (sK K):=by
 refine D.ok pZ (λ_ _ _ _ h=>?_) (λ_ _ _ _ _ H _ Q E hr h=>?_)
 ·obtain⟨a,l,e,h,as,ks,c,es,sh,rfl,_⟩:=h
  rfl
 obtain⟨a,l,e,h,as,ks,c,es,sh,rfl,ask,q⟩:=h;have b3:=ask.ok.m
 refine⟨_,(d9 (j4 (i:=5) pZ.nd Iu Iy (l9 An hr Iu (a8 (pv 0) (a8 (pv 1) (a8 (pv 2) (a8 (pv 3) c7 a9) a9) a9) a9)))
  (h9 (j5 (B3 (own:=["k"]) (fr:=[(5,"held")]) rfl (mkC ["hall","calls","caller","ends","shut","held"] (i4 (top 30))) (m7 K (l9 Ae hr Iu (a8 (pv 0) (a8 (pv 4) c7 a9) a9))) (λcl C s H ex=>⟨(l8 (i:=0) (show(["k","held"]:List Str).Nodup from by decide +kernel) Iu Ix Iy),(K1 (k8 (uR K (C0.units0 hr)) (i8 (u7 K) (pv 1) (pv 0)) (r6 c7) (m6 _))),(pv 0)⟩))))),?_⟩
 refine⟨_,Iu,_,Iu,_,Iu,_,Iu,a,l,e,h,as,ks,c,es,Iu,ask.a,ask.ok,ask.l,ask.c,ask.hin,ask.few,ask.e,ask.len,λF rs H1 s1 hF hrs nd hFn eF hrows=>?_⟩;refine⟨_,Iu,_,Iu,a,h,sh,Iu,i9.seqT s1 ask.a,ask.ok,λlo hlo=>?_⟩;obtain⟨H2,Ip,s2,elo⟩:=Io hlo (.lst (t6 (o4 h sh)));rw[Ip];have ol:=bZ h sh;refine⟨lo,Iu,⟨_,Iv elo⟩,?_⟩
 refine A2 (xs:=t6 (o4 h sh)) (λi acc σ H'=>i9 H2 H'/\acc=t6 (((o4 h sh).take i).filter (O5 h ks c es))/\∃v,σ=[v,Iq F])
  ⟨i9.refl _,Iu,none,Iu⟩ (l_ (k9 (by unfold t6;rw[EV];lia))) (λi acc σ H' g=>?_) (λi acc σ H' _ g=>Iv (g.1 _ _ elo)) ?_ ?_
 ·obtain⟨_,rfl,_⟩:=g
  unfold t6;rw[EV];exact k_ (HQ _ _) (by rw[EM];lia)
 ·rintro i y acc σ H' hy ⟨s3,rfl,v,rfl⟩
  unfold t6 at hy;rw[ER] at hy;obtain⟨k,hk,rfl⟩:=Hg.mp hy;have hkm:=aD (ET hk)
  have step:t6 (((o4 h sh).take (i+1)).filter (O5 h ks c es))=t6 (((o4 h sh).take i).filter (O5 h ks c es))++(if O5 h ks c es k=true then [V.int (k:Int)] else []):=by
   unfold t6;rw[HA,hk,HR,HE]
   by_cases cc:O5 h ks c es k=true
   ·rw[Ik cc]
    simp[cc]
   ·rw[Il cc]
    simp[cc]
  have s13:=s2.trans s3;have hr3:=B8.same s13 hrows;have lr:=d_ hr3;unfold F7 at lr;rw[bq] at lr;have ea:rs[k]? = some (rs[k]'(by lia)):=Gb _
  generalize rs[k]'(by lia)=ra at ea
  obtain⟨row,w1,w2⟩:=j7 hr3 k ra ea
  have w1':row=J8 h ks (c/h.c) (i7 h es) k:=by
   unfold F7 O4 at w1;rw[ER,I_ hkm] at w1;exact(e_ w1).symm
  have hat:atI (rs.map V.ref) (k:Int)=some (.ref ra):=C4 (by rw[ER,ea];rfl)
  refine⟨_,Iu,_,Iu,F,_,_,_,Iu,Iu,Iv (s13 _ _ eF),hat,z_0,λo ho=>?_⟩
  have s4:=g9 ho (.lst []);refine⟨ra,o,row,[],Iu,Iu,Iv (s4 _ _ w2),Iv c9,_,Iu,?_⟩;refine B4 (λcc=>?_) (λcc=>?_)
  ·refine⟨_,Iu,s3.trans s4,?_,_,Iu⟩
   have c':O5 h ks c es k=true:=by
    unfold O5;rw[<- w1'];exact cc
   rw[step,Ik c']
  ·refine⟨s3.trans s4,?_,_,Iu⟩
   have c':¬O5 h ks c es k=true:=by
    unfold O5;rw[<- w1'];exact cc
   rw[step,Il c',EH]
 ·rintro acc σ H' ⟨s3,rfl,v,rfl⟩ l2 hl2
  have ln:(t6 (o4 h sh)).length=(o4 h sh).length:=by unfold t6;rw[EV]
  rw[ln,HB];have s13:=s1.trans (s2.trans s3);exact q l2 _ (s13.trans (g9 hl2 _)) (s13.free hl2) c9
def lN {k:Call}{c:Int}:(o8 h k.c k.es k.k).filter (λd=>inD (o8 h c es k.k) d)≠[]↔F6 h (c/h.c) (i7 h es) k=true:=by
 unfold F6;rw[Bool.or_eq_true,FJ,FH]
 constructor
 ·intro z
  obtain⟨d,hd⟩:=HZ _ z;obtain⟨h1,h2⟩:=i_.mp hd;rw[bT] at h2
  rcases z7.mp h1 with rfl|⟨e,he,rfl⟩
  ·rcases z7.mp h2 with q|⟨e',he',q⟩
   ·left
    unfold nIn at q
    simp only[List.cons.injEq,Sum.inl.injEq] at q
    exact q.2.1
   ·unfold nIn K7 at q
    simp at q
    exact absurd q.1 (by decide)
  ·rcases z7.mp h2 with q|⟨e',he',q⟩
   ·unfold nIn K7 at q
    simp at q
    exact absurd q.1 (by decide)
   ·right
    unfold K7 at q
    simp only[List.cons.injEq,Sum.inl.injEq] at q
    exact⟨e/h.e,x6.mpr ⟨e,he,Iu⟩,Fm (x6.mpr ⟨e',he',q.2.1.symm⟩)⟩
 ·intro z
  have:∃d,d∈o8 h k.c k.es k.k/\d∈o8 h c es k.k:=by
   rcases z with z|⟨r,h1,h2⟩
   ·exact⟨nIn (k.c/h.c) k.k,z7.mpr (.inl rfl),z7.mpr (.inl (by rw[z]))⟩
   ·obtain⟨e,he,q1⟩:=x6.mp h1
    obtain⟨e',he',q2⟩:=x6.mp (GT h2);exact⟨K7 r k.k,z7.mpr (.inr ⟨e,he,by rw[q1]⟩),z7.mpr (.inr ⟨e',he',by rw[q2]⟩)⟩
  obtain⟨d,h1,h2⟩:=this;exact List.ne_nil_of_mem (i_.mpr ⟨h1,bT.mpr h2⟩)
theorem gE {H:Hp}{F:Addr}{rs:List Addr}{rows:List (List Int)}(h:B8 H rs rows)(e:H F=some (.lst (rs.map V.ref)))(hm:F∈rs):False:=by
 obtain⟨m,hm'⟩:=HX.mp hm;obtain⟨row,_,e2⟩:=j7 h m F hm';have e2:H F=some (.lst (row.map V.int)):=e2;rw[e] at e2
 have e3:rs.map V.ref=row.map V.int:=by
  have:=e_ e2
  exact HO.lst.inj this
 match rs,row,e3,hm with
 | x::_,[],e3,_=>simp at e3
 | x::_,y::_,e3,_=>simp at e3
def lI (K:Frag):Sp:=λvs H Q _=>∃(a l e:Addr)(h:j8)(as:List Addr)(ks:List Call)(c:Int)(es:List Int),vs=[.ref a,.ref l,.int c,.ref e]/\SqT K H a (h.row.map V.int)/\h.Ok/\SqL K H l (as.map V.ref)/\m8 H as ks/\(∀k∈ks,k.In h)/\ks.length<=63/\SqL K H e (es.map V.int)/\es.length<=12 /\
 ∀(f:Addr)(rs:List Addr)(H':Hp),i9 H H'->H' f=some (.lst (rs.map V.ref))->B8 H' rs (F7 h ks c es)->Q (.ref f) H'
def D9:FnScope ["_law_hall_here","_law_calls_here","_law_caller","_law_ends_here","_law_due_here","_law_k","_law_need","_law_held_here","_law_call","_law_lines_here"] ["_law_hall_here","_law_calls_here","_law_caller","_law_ends_here"] (i4 (top 68)):=mkF
def qL {P:Program}{w:World}{base:Heap}(T:Txt K mg)(zQ:i6 P w K mg base 1 "_law_lines" p_3 (W1 K))(D:Def K mg "_law_holds" (top 68) p_17):i6 P w K mg base 2 "_law_holds" p_17 (lI K):=by
 refine D.ok D9 (λ_ _ _ _ h=>?_) (λ_ _ _ _ _ H _ Q E hr h=>?_)
 ·obtain⟨a,l,e,h,as,ks,c,es,rfl,_⟩:=h
  rfl
 obtain⟨a,l,e,h,as,ks,c,es,rfl,hH,ok,hL,hC,hin,h63,hE,few,q⟩:=h;have b3:=ok.m;have la:=d_ hC
 refine⟨_,(d9 (j4 (i:=4) D9.nd Iu Ix (r6 c7))
  (d9 (w5 HI rfl (C8 rfl T.zZ (a8 (i8 (i5 K) (pv 0) h7) c7 m5)) (l8 (i:=5) D9.nd Iu Ix)
  (d9 (j4 (i:=6) D9.nd Iu Iy (l9 zQ hr Iu (a8 (pv 0) (a8 (pv 2) (a8 (pv 3) (a8 (pv 5) c7 a9) a9) a9) a9)))
  (d9 (j4 (i:=7) D9.nd Iu Ix (r6 c7))
  (d9 (w5 HI rfl (m7 K (pv 1)) (l8 (i:=8) D9.nd Iu Ix)
  (d9 (j4 (i:=9) D9.nd Iu Ix (l9 zQ hr Iu (a8 (pv 0) (a8 (i8 (i5 K) (pv 8) h7) (a8 (i8 (i5 K) (pv 8) h7) (a8 (i8 (i5 K) (pv 8) h7) c7 m5) m5) m5) a9)))
  (h9 (n6 (PW.pt (cJ (k8 E4 (i8 (i5 K) (pv 8) h7) (pv 5) (m6 _)) (aA (k8 (vQ K (mD nJ) (C0.units2 hr)) (B3 (own:=["_law_line"]) (fr:=[(6,"_law_need")]) rfl (mkC ["_law_hall_here","_law_calls_here","_law_caller","_law_ends_here","_law_due_here","_law_k","_law_need","_law_held_here","_law_call","_law_lines_here"] (i4 (top 68))) (m7 K (pv 9)) (λcl C s H ex=>⟨(l8 (i:=0) (show(["_law_line","_law_need"]:List Str).Nodup from by decide +kernel) Iu Ix Iy),(K1 (k8 (vO K (C0.unitsT hr)) (pv 0) (pv 1) (by with_unfolding_all rfl))),(pv 0)⟩)) (r6 c7) (m6 _))))) (h9 (C3 (F8 K HJ HK HL B5 (pv 7) (a8 (i8 (i5 K) (pv 8) h7) c7 m5)))) l7))))
  (h9 (C3 (F8 K HJ HK HL B5 (pv 4) (a8 (pv 7) c7 a9))))))))
  (h9 (j5 (pv 4))))),?_⟩
 refine⟨z_0,λF hF=>?_⟩
 obtain⟨H1,Ip,s1,eF⟩:=Io hF (.lst []);rw[Ip];refine⟨_,Iu,a,_,_,_,Iu,Iu,i9.seqT s1 hH,Iu,_,Iu,by show -(2^62)<=h.m;lia,by show h.m<2^62;lia,?_⟩
 refine E3 (λi σ H'=>i9 H H'/\(∃rs:List Addr,H' F=some (.lst (rs.map V.ref))/\B8 H' rs ((List.range i).map (J8 h ks (c/h.c) (i7 h es))))/\∃v5 v6 v7 v8 v9,σ=[Iq a,Iq l,Ir c,Iq e,Iq F,v5,v6,v7,v8,v9])
  ⟨s1,⟨[],eF,.nil⟩,none,none,none,none,none,Iu⟩ ?_ ?_
 ·rintro i σ H' hi ⟨s2,⟨rs,eF2,hr2⟩,v5,v6,v7,v8,v9,rfl⟩
  rw[HN];refine⟨_,Iu,_,Iu,_,Iu,_,Iu,a,e,h,c,(i:Int),es,Iu,i9.seqT s2 hH,ok,.inr (s2.seq hE),few,λnl nas H3 s3 hnl enl tnl=>?_⟩;refine⟨z_0,λhd hhd=>?_⟩
  obtain⟨H4,Ip,s4,ehd⟩:=Io hhd (.lst []);rw[Ip];have s24:=(s2.trans s3).trans s4;have lr:=d_ hr2;rw[EV,Hx] at lr;refine⟨_,Iu,l,Iu,⟨_,s24.seq hL⟩,?_⟩
  refine o9 (xs:=as.map V.ref) (λj σ H'=>i9 H3 H'/\H' hd=some (.lst ((J8 h (ks.take j) (c/h.c) (i7 h es) i).map V.int))/\∃v8 v9,σ=[Iq a,Iq l,Ir c,Iq e,Iq F,Ir i,Iq nl,Iq hd,v8,v9])
   ⟨s4,ehd,_,_,Iu⟩ (λj σ H' _ gg=>((s2.trans s3).trans gg.1).seq hL) ?_ ?_
  ·rintro j x σ H' hx ⟨s5,ehd5,v8,v9,rfl⟩
   rw[ER] at hx;obtain⟨p,hp,rfl⟩:=Hg.mp hx;obtain⟨k,hk1,hk2⟩:=j7 hC j p hp;have hkI:=hin k (ET hk1);have tk:ks.take (j+1)=ks.take j++[k]:=by rw[HA,hk1];rfl
   have s25:=(s2.trans s3).trans s5;obtain⟨ce,e1,e2⟩:=y8.same (λb xs z=>s25 _ _ z) hk2;have kf:=hkI.few;refine⟨_,Iu,_,Iu,p,_,_,_,Iu,Iu,Iw e2,Iu,_,Iu,p,_,_,_,Iu,Iu,Iw e2,Iu,_,Iu,p,_,_,_,Iu,Iu,Iw e2,Iu,a,ce,h,k.c,k.k,k.es,Iu,i9.seqT s25 hH,ok,.inl (Iw e1),kf,λll las H6 s6 hll ell tll=>?_⟩;have e26:=s6 _ _ e2;refine⟨_,Iu,p,_,_,_,Iu,Iu,Iw e26,Iu,_,Iu,Iu,_,Iu,?_⟩;have ehd6:=s6 _ _ ehd5;have s36:=s5.trans s6;have lnl:=d_ tll;have ll2:=O7 h k.c k.es k.k;have tn6:=E8.same (λb xs z=>s36 _ _ z) tnl
   have skip:(decide (k.k=(i:Int))&&F6 h (c/h.c) (i7 h es) k)=false->J8 h (ks.take (j+1)) (c/h.c) (i7 h es) i=J8 h (ks.take j) (c/h.c) (i7 h es) i:=λz=>by
    rw[tk,ay,Il (by rw[z];exact Ei),EH]
   refine B4 (λcc=>?_) (λcc=>?_)
   ·have cc':k.k=(i:Int):=by simpa using cc
    rw[<- cc'] at tn6;refine⟨_,Iu,ll,Iu,⟨_,Iv ell⟩,?_⟩
    refine A2 (xs:=las.map V.ref) (λm acc σ H''=>H''=H6/\(∃bs,acc=bs.map V.ref/\E8 H6 bs (((o8 h k.c k.es k.k).take m).filter λd=>inD (o8 h c es k.k) d))/\∃v,σ=[v,Iq nl])
     ⟨Iu,⟨[],Iu,.nil⟩,none,Iu⟩ (l_ (k9 (by rw[EV];lia))) (λm acc σ H'' g=>?_) (λm acc σ H'' _ g=>by rw[g.1];exact Iv ell) ?_ ?_
    ·obtain⟨_,⟨bs,rfl,hb⟩,_⟩:=g
     have:=d_ hb
     rw[EV,this];exact k_ (HQ _ _) (by rw[EM];lia)
    ·rintro m y acc σ H'' hy ⟨rfl,⟨bs,rfl,hb⟩,v,rfl⟩
     rw[ER] at hy;obtain⟨x,hx,rfl⟩:=Hg.mp hy;obtain⟨d,hd1,hd2⟩:=j7 tll m x hx
     have step:((o8 h k.c k.es k.k).take (m+1)).filter (λd=>inD (o8 h c es k.k) d)=((o8 h k.c k.es k.k).take m).filter (λd=>inD (o8 h c es k.k) d)++(if inD (o8 h c es k.k) d=true then [d] else []):=by
      rw[HA,hd1,HR]
      by_cases c:inD (o8 h c es k.k) d=true
      ·rw[Ik c]
       simp[c]
      ·rw[Il c]
       simp[c]
     refine⟨_,Iu,_,Iu,nl,x,nas,d,o8 h c es k.k,Iu,Iu,Iv (s36 _ _ enl),Iw hd2,A5 tn6 (λ_ _ _ z=>Iw z),_,Iu,?_⟩;refine B4 (λcd=>?_) (λcd=>?_)
     ·refine⟨_,Iu,Iu,⟨bs++[_],by rw[HE];rfl,?_⟩,_,Iu⟩
      rw[step,Ik (show inD (o8 h c es k.k) d=true from cd)];exact Fr hb hd2
     ·refine⟨Iu,⟨bs,Iu,?_⟩,_,Iu⟩
      rw[step,Il (show ¬inD (o8 h c es k.k) d=true from cd),EH];exact hb
    rintro acc σ H'' ⟨rfl,⟨bs,rfl,hb⟩,v,rfl⟩ l5 hl5
    rw[EV,lnl,HB] at hb;obtain⟨H10,Ip,s10,el5⟩:=Io hl5 (.lst (bs.map V.ref));rw[Ip];refine⟨z_0,λo ho=>?_⟩
    obtain⟨H11,Ip,s11,eo⟩:=Io ho (.lst []);rw[Ip];have sA:=s10.trans s11;have ehdA:=sA _ _ ehd6;have e2A:=sA _ _ e26;refine⟨_,[],⟨l5,_,Iu,Iv (s11 _ _ el5),cb (E8.same (λb xs q=>sA _ _ q) hb)⟩,⟨o,[],Iu,Iv eo,.nil⟩,_,Iu,?_⟩;refine B4 (λc2=>?_) (λc2=>?_)
    ·have c3:(o8 h k.c k.es k.k).filter (λd=>inD (o8 h c es k.k) d)≠[]:=by simpa using c2
     have c4:=lN.mp c3;have hlen:=bu h (ks.take j) (c/h.c) (i7 h es) i;have hl2:(ks.take j).length<=ks.length:=by rw[EM];lia
     refine⟨_,Iu,.inl ⟨Iu,_,Iv ehdA⟩,_,Iu,p,_,_,_,Iu,Iu,Iw e2A,Iu,hd,_,_,Iu,Iu,ehdA,k9 (by rw[EV];lia),?_⟩
     refine⟨i9.put (s36.trans sA) hhd,?_,_,_,Iu⟩;rw[c9,tk,ay,Ik (by rw[Fm cc',c4];rfl),HE]
     rfl
    ·have c3:(o8 h k.c k.es k.k).filter (λd=>inD (o8 h c es k.k) d)=[]:=by simpa using c2
     have c4:F6 h (c/h.c) (i7 h es) k=false:=Gq.mpr λz=>lN.mpr z c3;refine⟨s36.trans sA,?_,_,_,Iu⟩;rw[skip (by rw[c4,Fk])]
     exact ehdA
   ·have cc':¬k.k=(i:Int):=by simpa using cc
    refine⟨s36,?_,_,_,Iu⟩;rw[skip (by rw[b_ cc'];rfl)]
    exact ehd6
  ·rintro σ H' ⟨s5,ehd5,v8,v9,rfl⟩
   rw[EV,la,HB] at ehd5;have s25:=(s2.trans s3).trans s5;have eF5:=s5 _ _ (s3 _ _ eF2);refine⟨_,Iu,.inl ⟨Iu,_,Iv eF5⟩,_,Iu,F,_,_,Iu,Iu,eF5,k9 (by rw[EV,lr];lia),?_⟩
   have hFd:hd≠F:=λz=>by rw[z] at hhd;rw[s3 _ _ eF2] at hhd;cases hhd
   refine⟨i9.put s25 hF,⟨rs++[hd],by rw[c9,HE];rfl,?_⟩,_,_,_,_,_,Iu⟩
   rw[Hz,HE];refine Fr (B8.other (B8.same (s3.trans s5) hr2) λz=>?_) ?_
   ·exact gE (B8.same (s3.trans s5) hr2) eF5 z
   ·show upd H' F _ hd=_
    rw[j9 hFd];exact ehd5
 ·rintro σ H' ⟨s2,⟨rs,eF2,hr2⟩,v5,v6,v7,v8,v9,rfl⟩
  exact⟨_,Iu,q F rs H' s2 eF2 hr2⟩
def aG (h:j8)(ks:List Call)(c:Int)(es:List Int)(k:Nat):Nat:=(J8 h ks (c/h.c) (i7 h es) k).length
def cQ (h:j8)(ks:List Call)(c:Int)(es:List Int)(sh:Int)(k:Nat):Prop:=k∈o4 h sh/\∀k'∈o4 h sh,aG h ks c es k<=aG h ks c es k'/\(k'<k->aG h ks c es k<aG h ks c es k')
theorem cQ.uniq {c:Int}{sh:Int}{k k':Nat}(a:cQ h ks c es sh k)(b:cQ h ks c es sh k'):k=k':=by
 rcases Hr k k' with z|z|z
 ·have h1:=(b.2 k a.1).2 z
  have h2:=(a.2 k' b.1).1;lia
 ·exact z
 ·have h1:=(a.2 k' b.1).2 z
  have h2:=(b.2 k a.1).1;lia
def qF (h:j8)(sh:Int):(o4 h sh).Pairwise (· < ·):=List.Pairwise.filter _ FY
def pY (K:Frag):Sp:=λvs H Q _=>∃(a l e:Addr)(h:j8)(as:List Addr)(ks:List Call)(c:Int)(es:List Int)(sh:Int),vs=[.ref a,.ref l,.int c,.ref e,.int sh]/\bP K H a l e h as ks es /\
 (∀H',i9 H H'->o4 h sh=[]->Q .non H')/\∀(r:Addr)(k:Nat)(H':Hp),i9 H H'->cQ h ks c es sh k->H' r=some (.lst ((J8 h ks (c/h.c) (i7 h es) k).map V.int))->Q (.ref r) H'
def X4:FnScope ["hall","calls","caller","ends","shut","held"] ["hall","calls","caller","ends","shut"] (i4 (top 31)):=mkF
def uA {P:Program}{w:World}{base:Heap}(T:Txt K mg)(An:i6 P w K mg base 4 "holders" p_25 (aw K))(Ae:i6 P w K mg base 1 "left_open" p_47 (jL K))(D:dv K mg "least_ended" (top 31) p_1 [.int 0]):W8 P w K mg base 5 "least_ended" p_1 [.int 0] (pY K):=by
 refine D.ok X4 (λ_ _ _ _ h=>?_) (λ_ _ _ _ _ H _ Q E hr h=>?_)
 ·obtain⟨a,l,e,h,as,ks,c,es,sh,rfl,_⟩:=h
  rfl
 obtain⟨a,l,e,h,as,ks,c,es,sh,rfl,ask,qN,q⟩:=h;have b3:=ask.ok.m
 refine⟨_,(d9 (j4 (i:=5) X4.nd Iu Iy (l9 An hr Iu (a8 (pv 0) (a8 (pv 1) (a8 (pv 2) (a8 (pv 3) c7 a9) a9) a9) a9)))
  (h9 (j5 (qK K rfl rfl T.BU rfl T.zY (a8 (B3 (own:=["k"]) (fr:=[(5,"held")]) rfl (mkC ["hall","calls","caller","ends","shut","held"] (i4 (top 31))) (m7 K (l9 Ae hr Iu (a8 (pv 0) (a8 (pv 4) c7 a9) a9))) (λcl C s H ex=>⟨(l8 (i:=0) (show(["k","held"]:List Str).Nodup from by decide +kernel) Iu Ix Iy),F1,(i8 (u7 K) (pv 1) (pv 0))⟩)) c7 Q9))))),?_⟩
 refine⟨_,Iu,_,Iu,_,Iu,_,Iu,a,l,e,h,as,ks,c,es,Iu,ask.a,ask.ok,ask.l,ask.c,ask.hin,ask.few,ask.e,ask.len,λF rs H1 s1 hF hrs nd hFn eF hrows=>?_⟩;refine⟨_,Iu,_,Iu,a,h,sh,Iu,i9.seqT s1 ask.a,ask.ok,λlo hlo=>?_⟩;obtain⟨H2,Ip,s2,elo⟩:=Io hlo (.lst (t6 (o4 h sh)));rw[Ip];have ol:=bZ h sh;have lno:(t6 (o4 h sh)).length=(o4 h sh).length:=by unfold t6;rw[EV]
 have rowAt:∀k,k∈o4 h sh->∃ra,rs[k]? = some ra/\H2 ra=some (.lst ((J8 h ks (c/h.c) (i7 h es) k).map V.int)):=λk hk=>by
  have hkm:=aD hk;have hr3:=B8.same s2 hrows;have lr:=d_ hr3;unfold F7 at lr;rw[bq] at lr;have ea:rs[k]? = some (rs[k]'(by lia)):=Gb _
  obtain⟨row,w1,w2⟩:=j7 hr3 k _ ea
  have w1':row=J8 h ks (c/h.c) (i7 h es) k:=by
   unfold F7 O4 at w1;rw[ER,I_ hkm] at w1;exact(e_ w1).symm
  rw[w1'] at w2;exact⟨_,ea,w2⟩
 refine⟨lo,Iu,⟨_,Iv elo⟩,?_⟩
 refine A2 (xs:=t6 (o4 h sh)) (λi acc σ H'=>H'=H2/\(∃bs:List Addr,acc=bs.map V.ref/\Paired (λb k=>H2 b=some (.lst ((J8 h ks (c/h.c) (i7 h es) k).map V.int))) bs ((o4 h sh).take i))/\∃v,σ=[v,Iq F])
  ⟨Iu,⟨[],Iu,.nil⟩,none,Iu⟩ (l_ (k9 (by lia))) (λi acc σ H' g=>?_) (λi acc σ H' _ g=>by rw[g.1];exact Iv elo) ?_ ?_
 ·obtain⟨_,⟨bs,rfl,hb⟩,_⟩:=g
  have:=d_ hb
  rw[EV,this,EM];lia
 ·rintro i y acc σ H' hy ⟨rfl,⟨bs,rfl,hb⟩,v,rfl⟩
  unfold t6 at hy;rw[ER] at hy;obtain⟨k,hk,rfl⟩:=Hg.mp hy;obtain⟨ra,e1,e2⟩:=rowAt k (ET hk);have hat:atI (rs.map V.ref) (k:Int)=some (.ref ra):=C4 (by rw[ER,e1];rfl)
  refine⟨_,Iu,_,Iu,F,_,_,_,Iu,Iu,Iv (s2 _ _ eF),hat,Iu,⟨bs++[ra],by rw[HE];rfl,?_⟩,_,Iu⟩
  rw[HA,hk];exact Fr hb e2
 ·rintro acc σ H' ⟨rfl,⟨bs,rfl,hb⟩,v,rfl⟩ lm hlm
  rw[lno,HB] at hb;obtain⟨H3,Ip,s3,elm⟩:=Io hlm (.lst (bs.map V.ref));rw[Ip];have s13:=s1.trans (s2.trans s3);have lb:=d_ hb
  have rowsL:∀{bs:List Addr}{os:List Nat},Paired (λb k=>H' b=some (.lst ((J8 h ks (c/h.c) (i7 h es) k).map V.int))) bs os->wu K H3 bs (os.map λk=>(J8 h ks (c/h.c) (i7 h es) k).map V.int):=by
   intro bs os hp
   induction hp with
   | nil=>exact .nil
   | cons h1 _ ih=>exact .cons (Iv (s3 _ _ h1)) ih
  have lenAt:∀j k,(o4 h sh)[j]? = some k->Y7 ((o4 h sh).map λk=>(J8 h ks (c/h.c) (i7 h es) k).map V.int) j=((aG h ks c es k:Nat):Int):=λj k hj=>by
   unfold Y7 aG;rw[List.getD,ER,hj]
   simp
  refine⟨lm,bs,_,Iu,Iv elm,rowsL hb,λz=>qN H3 s13 ?_,λi r hi hbest=>?_⟩
  ·rw[z] at lb
   exact Ha.mp lb.symm
  ·obtain⟨k,k1,k2⟩:=j7 hb i r hi
   refine q r k H3 s13 ⟨ET k1,λk' hk'=>?_⟩ (s3 _ _ k2);obtain⟨j,hj⟩:=HX.mp hk';have hjl:=(s_.mp hj).1
   have:=hbest j (by lia)
   rw[lenAt i k k1,lenAt j k' hj] at this;refine⟨by lia,λz=>?_⟩
   have hji:j<i:=by
    rcases Hr j i with y|y|y
    ·exact y
    ·subst y
     rw[k1] at hj
     cases hj
     lia
    ·obtain⟨q1,z1⟩:=s_.mp k1
     obtain⟨q2,z2⟩:=s_.mp hj
     have:=(FR.mp (qF h sh)) i j q1 q2 y
     lia
   have:=this.2 hji
   lia
theorem V2 {α β:Type}{R:α->β->Prop}{as as':List α}{ds ds':List β}(h:Paired R as ds)(h':Paired R as' ds'):Paired R (as++as') (ds++ds'):=by
 induction h with
 | nil=>exact h'
 | cons q t ih=>exact .cons q ih
def bO {K:Frag}{H:Hp}{l:Addr}{as:List Addr}{ks:List Call}{Q:VK}(el:H l=some (.lst (as.map V.ref)))(hC:m8 H as ks)(h64:ks.length<64)(ne:ks.Pairwise λk k'=>k.c≠k'.c)
  (q:∀l2 as' ks',H l2=none->m8 H as' ks'->ks'.Perm ks->ks'.Pairwise (λk k'=>k.c<k'.c)->Q (.ref l2) (upd H l2 (.lst (as'.map V.ref)))):lC K [.ref l] H Q:=by
 obtain⟨its,t1,t2⟩:=da (K:=K) hC;have la:=d_ hC;have lk:=d_ t2;have gd:∀(i:Nat) k,ks[i]? = some k->ks.getD i ⟨0,[],0⟩=k:=λi k e=>by rw[List.getD,e];rfl
 have uniq:∀(i j:Nat) k k',ks[i]? = some k->ks[j]? = some k'->k.c=k'.c->i=j:=λi j k k' e1 e2 hc=>by
  obtain⟨q1,z1⟩:=s_.mp e1;obtain⟨q2,z2⟩:=s_.mp e2
  rcases Hr i j with hij|hij|hij
  ·have:=(FR.mp ne) i j q1 q2 hij
   rw[z1,z2] at this;exact absurd hc this
  ·exact hij
  ·have:=(FR.mp ne) j i q2 q1 hij
   rw[z1,z2] at this;exact absurd hc.symm this
 have back:∀(i:Nat) x,its[i]? = some x->∃k e,ks[i]? = some k/\x=[V.int k.c,V.ref e,V.int k.k]:=λi x hx=>by
  have hi:=(s_.mp hx).1;have ek:ks[i]? = some (ks[i]'(by lia)):=Gb (by lia)
  obtain⟨x',e1,e,e2⟩:=j7 t2 i _ ek;rw[hx] at e1
  cases e1
  exact⟨_,e,ek,e2⟩
 refine⟨l,as,its,λi=>(ks.getD i ⟨0,[],0⟩).c,Iu,Iv el,t1,by lia,λi j x y hx hy=>?_,λpq pm up l2 hl2=>?_⟩
 ·obtain⟨k,e,e1,rfl⟩:=back i x hx
  obtain⟨k',e',e2,rfl⟩:=back j y hy
  show(if k.c=k'.c then dA [V.ref e,V.int k.k] [V.ref e',V.int k'.k] else some (decide (k.c<k'.c)))=some (decide ((ks.getD i ⟨0,[],0⟩).c<(ks.getD j ⟨0,[],0⟩).c))
  rw[gd i k e1,gd j k' e2]
  by_cases c:k.c=k'.c
  ·obtain rfl:=uniq i j k k' e1 e2 c
   rw[hx] at hy;rw[e1] at e2
   cases e2
   cases hy
   rw[Ik rfl]
   show(if e=e then (if k.k=k.k then dA [] [] else some (decide (k.k<k.k))) else none)=_
   rw[Ik rfl,Ik rfl,b_ (Int.lt_irrefl _)];rfl
  ·rw[Il c]
 ·rw[la] at pm up
  obtain⟨g1,g2⟩:=kE (xs:=ks) pm up ⟨0,[],0⟩ Call.c λi _=>rfl
  have hin:∀i∈pq.toList,i<ks.length:=λi hi=>by
   have:=(GQ pm (a:=i)).mp (by simpa using hi)
   simpa using this
  have cs:=Z8 0 ⟨0,[],0⟩ hC pq.toList hin;generalize (pq.toList.map λi=>ks.getD i ⟨0,[],0⟩)=ks' at g1 g2 cs;have ne':ks'.Pairwise λk k'=>k.c≠k'.c:=(List.Perm.pairwise_iff (λq=>Im q) g1).mpr ne;exact q l2 _ ks' hl2 cs g1 ((g2.and ne').imp λ{k k'} ⟨q1,q2⟩=>by lia)
def uE (ks:List Call)(c:Int)(es:List Int):Prop:=(∀k∈ks,k.c≠c)/\∀e∈es,∀k∈ks,¬e∈k.es
def tX (K:Frag):Sp:=λvs H Q _=>∃(l e:Addr)(as:List Addr)(ks:List Call)(c k:Int)(es:List Int),vs=[.ref l,.int c,.ref e,.int k]/\H l=some (.lst (as.map V.ref))/\m8 H as ks/\ks.length<63/\(ks.Pairwise λk k'=>k.c≠k'.c)/\(∀k∈ks,k.c≠c)/\(SqT K H e (es.map V.int)\/SqL K H e (es.map V.int))/\es.length<64 /\
 ∀(r:Addr)(bs:List Addr)(ks':List Call)(es':List Int)(H':Hp),i9 H H'->H' r=some (.lst (bs.map V.ref))->m8 H' bs ks'->es'.Perm es->es'.Pairwise (·<=·)->ks'.Perm (ks++[⟨c,es',k⟩])->ks'.Pairwise (λk k'=>k.c<k'.c)->Q (.ref r) H'
theorem oR.yes {c:Int}(h:oR as ks c v)(n:v≠.non):∃k∈ks,k.c=c:=by
 rcases h with⟨rfl,_⟩|⟨j,a,k,_,h2,h3,_⟩
 ·exact absurd rfl n
 ·exact⟨k,ET h2,h3⟩
def iZ:FnScope ["calls","caller","ends","k"] ["calls","caller","ends","k"] (i4 (top 38)):=mkF
def wb (T:Txt K mg)(D:Def K mg "with_call" (top 38) p_40):i6 P w K mg base 1 "with_call" p_40 (tX K):=by
 refine D.ok iZ (λ_ _ _ _ h=>?_) (λ_ _ _ _ _ H _ Q E hr h=>?_)
 ·obtain⟨l,e,as,ks,c,k,es,rfl,_⟩:=h
  rfl
 obtain⟨l,e,as,ks,c,k,es,rfl,el,hC,h63,nc,no,he,h64,q⟩:=h;have ln:as.length=ks.length:=d_ hC;refine⟨_,(h9 (j5 (j6 (U0 K) rfl T.Aa HP (a8 (l6 aU (pv 0) (r6 (a8 (y7 (a8 (pv 1) (a8 (w9 (P5 K) rfl T.Ak HM (a8 (j6 (W3 K) rfl T.Aa HP (a8 (pv 2) c7 a9)) c7 n9)) (a8 (pv 3) c7 a9) n9) a9)) c7 N8))) c7 Q1)))),?_⟩;refine⟨_,Iu,_,Iu,_,Iu,e,es,Iu,he,h64,λes' pm srt sl hsl=>?_⟩;obtain⟨H1,Ip,s1,e1⟩:=Io hsl (.lst (es'.map V.int));rw[Ip];refine⟨sl,_,Iu,.inl ⟨Iv e1,λt ht=>?_⟩⟩;have s2:=s1.trans (g9 ht (.tup (es'.map V.int)));have e2:=@c9 H1 t (.tup (es'.map V.int));generalize upd H1 t _=H2 at s2 e2 ⊢;refine⟨_,Iu,z_3,λp hp=>?_⟩
 have s3':=g9 hp (.tup [.int c,.ref t,.int k]);have s3:=s2.trans s3';have e3:y8 (upd H2 p (.tup [.int c,.ref t,.int k])) p ⟨c,es',k⟩:=⟨t,s3' _ _ e2,c9⟩;generalize upd H2 p _=H3 at s3 e3 ⊢;refine⟨z_1,λnl hnl=>?_⟩
 have s4':=g9 hnl (.lst [.ref p]);have s4:=s3.trans s4';have e4:=@c9 H3 nl (.lst [.ref p]);have c4:=y8.same (λb xs z=>s4' _ _ z) e3;generalize upd H3 nl _=H4 at s4 e4 c4 ⊢;refine⟨l,nl,_,_,Iu,Iu,s4 _ _ el,e4,l_ (k9 (by rw[EV];show as.length+1<=1000;lia)),λcl hcl=>?_⟩
 have s5':=g9 hcl (.lst (as.map V.ref++[.ref p]));have s5:=s4.trans s5';have e5:upd H4 cl (.lst (as.map V.ref++[.ref p])) cl=some (.lst ((as++[p]).map V.ref)):=by rw[c9,HE];rfl
 have c5:=y8.same (λb xs z=>s5' _ _ z) c4;generalize upd H4 cl _=H5 at s5 e5 c5 ⊢;have hC5:m8 H5 (as++[p]) (ks++[⟨c,es',k⟩]):=Fr (m8.same (λb xs z=>s5 _ _ z) hC) c5;refine bO e5 hC5 (by rw[EU,Fj];lia) (FW.mpr ⟨nc,HU ..,λk1 h1 k2 h2=>?_⟩) λl2 as' ks' h1 h2 h3 h4=>?_
 ·rw[Fx.mp h2]
  exact no k1 h1
 ·exact q l2 as' ks' es' _ (s5.trans (g9 h1 _)) c9 (m8.same (λb xs z=>g9 h1 _ _ _ z) h2) pm srt h3 h4
def kF (K:Frag):Sp:=λvs H Q _=>∃(a:Addr)(h:j8)(x y:V)(o:Option (List V)),vs=[.ref a,x,y]/\SqT K H a (h.row.map V.int)/\h.Ok/\O8 K H x/\cg K H y o/\A9 x 0 (h.i*h.c-1)=true/\dk h o=true /\
 ∀H',i9 H H'->Q .non H'
def pG (K:Frag):Sp:=λvs H Q _=>∃(l e:Addr)(as:List Addr)(ks:List Call)(c:Int)(es:List Int),vs=[.ref l,.int c,.ref e]/\SqL K H l (as.map V.ref)/\m8 H as ks/\(SqT K H e (es.map V.int)\/SqL K H e (es.map V.int))/\es.length<64/\uE ks c es /\
 ∀H',i9 H H'->Q .non H'
def dm:FnScope ["hall","caller","ends"] ["hall","caller","ends"] (i4 (top 35)):=mkF
def rR (T:Txt K mg)(BV:i6 P w K mg base 3 "is_caller" p_35 (fh K))(CJ:i6 P w K mg base 4 "is_ends" p_35 (kI K))(D:Def K mg "refuse_wrong" (top 35) p_48):i6 P w K mg base 5 "refuse_wrong" p_48 (kF K):=by
 refine D.ok dm (λ_ _ _ _ h=>?_) (λ_ _ _ _ _ H _ Q E hr h=>?_)
 ·obtain⟨a,h,x,y,o,rfl,_⟩:=h
  rfl
 obtain⟨a,h,x,y,o,rfl,hH,ok,px,ey,c1,c2,q⟩:=h
 refine⟨_,(d9 (n6 (F0 (B0 K (l9 BV hr Iu (a8 (pv 0) (a8 (pv 1) c7 a9) a9)) (λ_=>rfl))) (h9 N0) l7)
  (h9 (n6 (F0 (B0 K (l9 CJ hr Iu (a8 (pv 0) (a8 (pv 2) c7 a9) a9)) (λ_=>rfl))) (h9 N0) l7))),?_⟩
 refine⟨_,Iu,_,Iu,a,h,x,Iu,hH,ok,px,_,Iu,?_⟩;rw[c1];refine B9 ⟨_,Iu,_,Iu,a,h,y,o,Iu,hH,ok,ey,λH1 s1=>⟨_,Iu,?_⟩⟩;rw[c2];exact B9 (q H1 s1)
def S2:FnScope ["calls","caller","ends","end","who"] ["calls","caller","ends"] (i4 (top 36)):=mkF
def uP (T:Txt K mg)(Ao:i6 P w K mg base 2 "call_of" p_49 (bz K))(BW:i6 P w K mg base 2 "holder_of" p_64 (eV K))(D:Def K mg "refuse_busy" (top 36) p_50):i6 P w K mg base 4 "refuse_busy" p_50 (pG K):=by
 refine D.ok S2 (λ_ _ _ _ h=>?_) (λ_ _ _ _ _ H _ Q E hr h=>?_)
 ·obtain⟨l,e,as,ks,c,es,rfl,_⟩:=h
  rfl
 obtain⟨l,e,as,ks,c,es,rfl,hl,hC,he,h64,idle,q⟩:=h
 refine⟨_,(d9 (n6 (k8 L5 (l9 Ao hr Iu (a8 (pv 0) (a8 (pv 1) c7 a9) a9)) o5 (m6 _)) (h9 N0) l7)
  (h9 (w5 HI rfl (m7 K (j6 (W3 K) rfl T.Aa HP (a8 (pv 2) c7 a9))) (l8 (i:=3) S2.nd Iu Ix)
  (d9 (j4 (i:=4) S2.nd Iu Ix (l9 BW hr Iu (a8 (pv 0) (a8 (pv 3) c7 a9) a9)))
  (h9 (n6 (k8 L5 (pv 4) o5 (m6 _)) (h9 N0) l7)))))),?_⟩
 refine⟨_,Iu,_,Iu,l,.int c,as,ks,Iu,hl,hC,.int c,.inr ⟨c,Iu,λv mine=>⟨Iu,_,Iu,?_⟩⟩⟩
 have hv:v=.non:=by
  by_cases hv:v=.non
  ·exact hv
  ·obtain⟨k,hk,e⟩:=mine.yes hv
   exact absurd e (idle.1 k hk)
 rw[hv];refine B9 ?_;refine⟨_,Iu,e,es,Iu,he,h64,λns' pm srt sl hsl=>?_⟩;obtain⟨H1,Ip,s1,esl⟩:=Io hsl (.lst (ns'.map V.int));rw[Ip];refine⟨sl,Iu,⟨_,Iv esl⟩,?_⟩
 refine o9 (xs:=ns'.map V.int) (λi σ H'=>H'=H1/\∃v3 v4,σ=[Iq l,Ir c,Iq e,v3,v4])
  ⟨Iu,none,none,Iu⟩ (λi σ H' _ g=>by rw[g.1];exact Iv esl) ?_ ?_
 ·rintro i x σ G hx ⟨rfl,v3,v4,rfl⟩
  rw[ER] at hx;obtain⟨en,hen,rfl⟩:=Hg.mp hx;refine⟨_,Iu,_,Iu,l,en,as,ks,Iu,s1.seq hl,m8.same (λb xs z=>s1 _ _ z) hC,λv who=>?_⟩;refine⟨_,Iu,Iu,_,Iu,?_⟩
  rcases who with⟨rfl,none⟩|⟨k,hk,ek,rfl⟩
  ·exact B9 ⟨Iu,_,_,Iu⟩
  ·exact absurd ek (idle.2 en (pm.mem_iff.mp (ET hen)) k hk)
 ·rintro σ G ⟨rfl,v3,v4,rfl⟩
  exact q _ s1
theorem T3 {α β:Type}{R R':α->β->Prop}{as:List α}{bs:List β}(h:Paired R as bs):(∀a b,a∈as->R a b->R' a b)->Paired R' as bs:=by
 induction h with
 | nil=>exact λ_=>.nil
 | cons h t ih=>exact λk=>.cons (k _ _ (n_ ..) h) (ih λa b ha=>k a b (o_ _ ha))
structure X2 (H:Hp)(dx:Addr)(rows:List (List Int))(lst:Option (List Int))(nh:Addr)(nas:List Addr)(lv:V):Prop where
 d:H dx=some (XdO dx [("least",lv),("holds",.ref nh)])
 h:H nh=some (.lst (nas.map V.ref))
 rows:B8 H nas rows
 nd:nas.Nodup
 l:match lst with
  | none=>lv=.non
  | some ms=>∃m,lv=.ref m/\¬m∈nas/\m≠nh/\H m=some (.lst (ms.map V.int))
def Z0 (H:Hp)(nas:List Addr)(nlv:V):Prop:=(∀a∈nas,H a=none)/\∀m,nlv=.ref m->H m=none
theorem Z0.back (s:i9 H H')(f:Z0 H' nas nlv):Z0 H nas nlv:=⟨λa ha=>s.free (f.1 a ha),λm e=>s.free (f.2 m e)⟩
def mO (K:Frag)(C:Addr):Sp:=λvs H Q _=>∃(e f:Addr)(rs:List Addr)(rows:List (List Int))(lv:V)(lst:Option (List Int)),vs=[.ref e,.ref f,lv]/\H e=some (P9 e C none)/\SqL K H f (rs.map V.ref)/\B8 H rs rows/\rows.length<=64/\(match lst with | none=>lv=.non | some ms=>∃m,lv=.ref m/\H m=some (.lst (ms.map V.int))) /\
 ∀(dx nh:Addr)(nas:List Addr)(nlv:V)(H':Hp),(∀b u,b≠e->H b=some u->H' b=some u)->H' e=some (P9 e C (some dx))->H dx=none->dx≠e->X2 H' dx rows lst nh nas nlv->Z0 H nas nlv->nh≠e->(∀a∈nas,a≠e)->(∀m,nlv=.ref m->m≠e)->Q .non H'
def aF:FnScope ["self","holds","least"] ["self","holds","least"] (i4 (V5 (top 8) 0)):=mkF
def uX {P:Program}{w:World}{base:Heap}(T:Txt K mg)(Z:eY K mg zI zL zJ zM zN zR zT zH zO)(D:va K zH "__init__" "Engaged.__init__" (V5 (top 8) 0) p_33 [] noKw):dO P w K mg base 1 zH "__init__" p_33 [] noKw (mO K zH):=by
 refine D.ok aF (λ_ _ _ _ h=>?_) (λ_ _ _ _ _ H _ Q E hr h=>?_)
 ·obtain⟨e,f,rs,rows,lv,lst,rfl,_⟩:=h
  rfl
 obtain⟨e,f,rs,rows,lv,lst,rfl,he,hf,hR,few,hlv,q⟩:=h;have ln:rs.length=rows.length:=d_ hR
 refine⟨_,(d9 (yz K (pv 0) (B3 (own:=["callers"]) (fr:=[]) rfl (mkC ["self","holds","least"] (i4 (V5 (top 8) 0))) (m7 K (pv 1)) (λcl C s H ex=>⟨(l8 (i:=0) (show(["callers"]:List Str).Nodup from by decide +kernel) Iu Ix Iy),F1,(w9 (M3 K) rfl T.Ap HW (a8 (pv 0) c7 a9))⟩)) rfl)
  (h9 (yh K (pv 0) (kK (k8 M9 (pv 2) o5 (m6 _)) o5 (w9 (M3 K) rfl T.Ap HW (a8 (pv 2) c7 a9))) rfl))),?_⟩
 refine⟨_,Iu,f,Iu,⟨_,hf⟩,?_⟩
 refine A2 (xs:=rs.map V.ref) (λi acc σ H'=>i9 H H'/\(∃nas:List Addr,acc=nas.map V.ref/\nas.length=i/\B8 H' nas (rows.take i)/\nas.Nodup/\∀a∈nas,H a=none)/\∃v0,σ=[v0])
  ⟨λb u z=>z,⟨[],Iu,Iu,.nil,Fu,λa ha=>nomatch ha⟩,none,Iu⟩ (l_ (k9 (by rw[EV];lia))) (λi acc σ H' g=>by
   obtain⟨_,⟨nas,rfl,hl,_⟩,_⟩:=g;rw[EV]
   lia) (λi acc σ H' _ g=>g.1.seq hf) ?_ ?_
 ·rintro i x acc σ H' hx ⟨s1,⟨nas,rfl,hl,hN,nd,fr⟩,v0,rfl⟩
  rw[ER] at hx;obtain⟨a,ha,rfl⟩:=Hg.mp hx;obtain⟨row,J8,ea⟩:=j7 hR i a ha;refine⟨_,Iu,a,_,Iu,.inl (Iv (s1 _ _ ea)),λp hp=>?_⟩;have s2:=g9 hp (.lst (row.map V.int))
  have pn:¬p∈nas:=λz=>by
   obtain⟨j,hj⟩:=HX.mp z;obtain⟨r,_,e⟩:=j7 hN j p hj;rw[hp] at e
   cases e
  refine⟨s1.trans s2,⟨nas++[p],by rw[HE];rfl,by rw[EU,hl];rfl,?_,pi nd pn,λb hb=>?_⟩,_,Iu⟩
  ·rw[List.take_add_one,J8]
   exact Fr (Paired.mapP hN λa r z=>s2 _ _ z) c9
  ·rcases q_.mp hb with z|z
   ·exact fr b z
   ·rw[Fx.mp z]
    exact s1.free hp
 ·rintro acc σ H' ⟨s1,⟨nas,rfl,hl,hN,nd,fr⟩,v0,rfl⟩ nh hnh
  rw[EV] at hl hN;rw[ln,HB] at hN;have s2:=g9 hnh (.lst (nas.map V.ref));have enh:=@c9 H' nh (.lst (nas.map V.ref));have hN2:B8 (upd H' nh (.lst (nas.map V.ref))) nas rows:=Paired.mapP hN λa r z=>s2 _ _ z;have fnh:=s1.free hnh;have s3:=s1.trans s2;generalize upd H' nh _=H2 at s2 enh hN2 s3 ⊢;refine⟨_,Iu,e,zH,Iu,s3 _ _ he,Z.Am,Z.Aj.mo,Z.Av,λdx hdx=>?_⟩;have fdx:=s3.free hdx;have ne:dx≠e:=λz=>by rw[z,he] at fdx;cases fdx
  have old:∀b u,b≠e->H2 b=some u->upd (upd H2 e (P9 e zH (some dx))) dx (XdO dx [("holds",.ref nh)]) b=some u:=λb u n1 z=>by rw[j9 (n5 z hdx),j9 n1];exact z
  have e1:upd (upd H2 e (P9 e zH (some dx))) dx (XdO dx [("holds",.ref nh)]) e=some (P9 e zH (some dx)):=by rw[j9 (Im ne),c9]
  have e2:=c9 (H:=upd H2 e (P9 e zH (some dx))) (a:=dx) (o:=XdO dx [("holds",.ref nh)]);generalize upd (upd H2 e (P9 e zH (some dx))) dx (XdO dx [("holds",.ref nh)])=H3 at old e1 e2 ⊢;have nhe:nh≠e:=λz=>by rw[z,he] at fnh;cases fnh
  have nae:∀a∈nas,a≠e:=λa ha z=>by have:=fr a ha;rw[z,he] at this;cases this
  have old0:∀b u,b≠e->H b=some u->H3 b=some u:=λb u n1 z=>old b u n1 (s3 _ _ z);have ndx:nh≠dx:=λz=>by rw[z] at enh;rw[enh] at hdx;cases hdx
  have adx:∀a∈nas,a≠dx:=λa ha z=>by
   obtain⟨j,hj⟩:=HX.mp ha;obtain⟨r,_,y⟩:=j7 hN2 j a hj;rw[z,hdx] at y
   cases y
  have rows3:B8 H3 nas rows:=by
   refine T3 hN2 λa r ha z=>old a _ (nae a ha) z
  refine⟨_,Iu,Iu,_,Iu,?_⟩
  cases lst with
  | none =>
   subst hlv;refine E9 ⟨_,Iu,e,zH,dx,_,Iu,e1,e2,Z.Am,Z.Aj.mo,Z.Ah,(by show 1<1000;decide),?_⟩
   refine q dx nh nas .non _ (λb u n1 z=>by rw[j9 (n5 z fdx)];exact old0 b u n1 z) (by rw[j9 (Im ne)];exact e1) fdx ne ⟨c9,by rw[j9 ndx];exact old nh _ nhe enh,T3 rows3 λa r ha z=>by rw[j9 (adx a ha)];exact z,nd,Iu⟩ ⟨fr,λm z=>nomatch z⟩ nhe nae (λm z=>nomatch z)
  | some ms =>
   obtain⟨m,rfl,em⟩:=hlv;have mne:m≠e:=λz=>by rw[z,he] at em;cases em
   refine B9 ⟨_,Iu,m,_,Iu,.inl (Iv (old0 m _ mne em)),λq2 hq2=>?_⟩;have s4:=g9 hq2 (.lst (ms.map V.int));have eq2:=@c9 H3 q2 (.lst (ms.map V.int));have e1':=s4 _ _ e1;have e2':=s4 _ _ e2;have hq2e:q2≠e:=λz=>by rw[z,e1] at hq2;cases hq2
   have hq2d:q2≠dx:=λz=>by rw[z,e2] at hq2;cases hq2
   have hq2n:q2≠nh:=λz=>by rw[z,old nh _ nhe enh] at hq2;cases hq2
   have hq2a:¬q2∈nas:=λha=>by
    obtain⟨j,hj⟩:=HX.mp ha;obtain⟨r,_,y⟩:=j7 rows3 j q2 hj;rw[hq2] at y
    cases y
   generalize upd H3 q2 _=H4 at s4 eq2 e1' e2' ⊢;refine⟨_,Iu,e,zH,dx,_,Iu,e1',e2',Z.Am,Z.Aj.mo,Z.Ah,(by show 1<1000;decide),?_⟩
   refine q dx nh nas (.ref q2) _ (λb u n1 z=>by rw[j9 (n5 z fdx)];exact s4 _ _ (old0 b u n1 z)) (by rw[j9 (Im ne)];exact e1') fdx ne ⟨c9,by rw[j9 ndx];exact s4 _ _ (old nh _ nhe enh),T3 rows3 λa r ha z=>by rw[j9 (adx a ha)];exact s4 _ _ z,nd,q2,Iu,hq2a,hq2n,by rw[j9 hq2d];exact eq2⟩ ⟨fr,λm z=>by
    cases z
    cases y:H q2 with
    | none=>rfl
    | some u=>rw[old0 q2 u hq2e y] at hq2;cases hq2⟩ nhe nae (λm z=>by cases z;exact hq2e)
def Q3 (h:j8)(ks:List Call)(c:Int)(es:List Int)(sh:Int):Option (List Int)->Prop
 | none=>o4 h sh=[]
 | some ms=>∃k,cQ h ks c es sh k/\ms=J8 h ks (c/h.c) (i7 h es) k
def kJ (K:Frag)(C:Addr):Sp:=λvs H Q E=>∃(a l e:Addr)(h:j8)(as:List Addr)(ks:List Call)(c:Int)(es:List Int)(sh:Int),vs=[.ref a,.ref l,.int c,.ref e,.int sh]/\bP K H a l e h as ks es /\
 ∀(dx nh:Addr)(nas:List Addr)(nlv:V)(o:Option (List Int))(H':Hp),i9 H H'->Q3 h ks c es sh o->X2 H' dx (F7 h ks c es) o nh nas nlv->Z0 H nas nlv->E (.ref C) (some dx) H'
def bH:FnScope ["hall","calls","caller","ends","shut"] ["hall","calls","caller","ends","shut"] (i4 (top 37)):=mkF
def rf (T:Txt K mg)(Z:eY K mg zI zL zJ zM zN zR zT zH zO)(An:i6 P w K mg base 4 "holders" p_25 (aw K))(Bu:W8 P w K mg base 5 "least_ended" p_1 [.int 0] (pY K))(AL:dO P w K mg base 1 zH "__init__" p_33 [] noKw (mO K zH))(D:Def K mg "refuse_engaged" (top 37) p_1):O1 P w K mg base 6 "refuse_engaged" p_1 [] (kJ K zH):=by
 refine D.okF bH (λ_ _ _ _ h=>?_) (λ_ _ _ _ _ H _ Q E hr h=>?_)
 ·obtain⟨a,l,e,h,as,ks,c,es,sh,rfl,_⟩:=h
  rfl
 obtain⟨a,l,e,h,as,ks,c,es,sh,rfl,ask,qE⟩:=h;refine⟨_,(h9 (qv uH Z.CI AL hr hr.hd rfl (a8 (l9 An hr Iu (a8 (pv 0) (a8 (pv 1) (a8 (pv 2) (a8 (pv 3) c7 a9) a9) a9) a9)) (a8 (l9 Bu.all hr Iu (a8 (pv 0) (a8 (pv 1) (a8 (pv 2) (a8 (pv 3) (a8 (pv 4) c7 a9) a9) a9) a9) a9)) c7 n9) n9))),?_⟩;refine⟨_,Iu,_,Iu,_,Iu,_,Iu,a,l,e,h,as,ks,c,es,Iu,ask.a,ask.ok,ask.l,ask.c,ask.hin,ask.few,ask.e,ask.len,λf rs H1 s1 hf0 hrs nd nf ef hR=>?_⟩
 have rl:(F7 h ks c es).length<=64:=by
  have:=ask.ok.m
  unfold F7 O4;rw[EV,Hx];lia
 have go:∀(lv:V)(o:Option (List Int))(H2:Hp),i9 H1 H2->Q3 h ks c es sh o->(match o with | none=>lv=.non | some ms=>∃m,lv=.ref m/\H2 m=some (.lst (ms.map V.int)))->∀ea,H2 ea=none->mO K zH [.ref ea,.ref f,lv] (upd H2 ea (P9 ea zH none)) (λr H3=>r=.non/\∃od,H3 ea=some (P9 ea zH od)/\E (.ref zH) od (mE H3 ea)) E0:=by
  intro lv o H2 s2 ho hlv ea hea
  have s3:=g9 hea (P9 ea zH none);refine⟨ea,f,rs,F7 h ks c es,lv,o,Iu,c9,Iv (s3 _ _ (s2 _ _ ef)),Paired.mapP hR λa r z=>s3 _ _ (s2 _ _ z),rl,?_,λdx nh nas nlv H4 old e1 hdx ne eng frs nhe nae nme=>⟨Iu,some dx,e1,?_⟩⟩
  ·cases o with
   | none=>exact hlv
   | some ms =>
    obtain⟨m,e1,e2⟩:=hlv;exact⟨m,e1,s3 _ _ e2⟩
  ·refine qE dx nh nas nlv o _ (s1.trans (s2.trans λb u z=>?_)) ho ⟨by rw[L6 ne];exact eng.d,by rw[L6 nhe];exact eng.h,T3 eng.rows λa r ha z=>by rw[L6 (nae a ha)];exact z,eng.nd,?_⟩ (frs.back ((s1.trans s2).trans s3))
   ·have nb:b≠ea:=λy=>by rw[y,hea] at z;cases z
    rw[L6 nb];exact old b u nb (s3 _ _ z)
   ·have:=eng.l
    cases o with
    | none=>exact this
    | some ms =>
     obtain⟨m,y1,y2,y3,y4⟩:=this;exact⟨m,y1,y2,y3,by rw[L6 (nme m y1)];exact y4⟩
 refine⟨_,Iu,_,Iu,_,Iu,_,Iu,_,Iu,a,l,e,h,as,ks,c,es,sh,Iu,ask.same s1,λH2 s2 hno=>⟨(by show 2<=1000;decide),go _ none H2 s2 hno rfl⟩,λr k H2 s2 lk er=>⟨(by show 2<=1000;decide),go _ (some _) H2 s2 ⟨k,lk,Iu⟩ ⟨r,Iu,er⟩⟩⟩
structure sI (K:Frag)(C CH:Addr)(cs:List Addr)(bs:List Bool)(j:Nat):Prop where
 x:jC K C
 hall:kitOne K (.ref C) (.ref CH)=some true
 val:kitOne K (.ref C) (.type "ValueError")=some true
 each:Paired (λD b=>kitOne K (.ref C) (.ref D)=some b) cs bs
 one:bs.count true=1
 at_:bs[j]? = some true
 no:∀m<j,bs[m]? = some (!true)
 few:j<=1000
def ur (K:Frag)(CH:Addr)(cs:List Addr):Sp:=λvs H Q _=>∃(ea C:Addr)(od:Option Addr)(bs:List Bool)(j:Nat),vs=[.ref ea]/\H ea=some (aX ea C od)/\sI K C CH cs bs j/\∀H',i9 H H'->Q (.int (j:Nat)) H'
theorem de {α β:Type}{R:α->β->Prop}{a:α}{as:List α}{bs:List β}(h:Paired R (a::as) bs):∃b bs',bs=b::bs'/\R a b/\Paired R as bs':=by
 cases h with
 | cons h t=>exact⟨_,_,Iu,h,t⟩
def Q5:FnScope ["_law_e","_law_some"] ["_law_e"] (i4 (top 64)):=mkF
def uY (T:Txt K mg)(Z:eY K mg zI zL zJ zM zN zR zT zH zO)(D:Def K mg "_law_kind" (top 64) ["_law_e"]):i6 P w K mg base 1 "_law_kind" ["_law_e"] (ur K zI [zM,zT,zH,zR,zN,zO,zL,zJ]):=by
 refine D.ok Q5 (λ_ _ _ _ h=>?_) (λ_ _ _ _ _ H _ Q E hr h=>?_)
 ·obtain⟨ea,C,od,bs,j,rfl,_⟩:=h
  rfl
 obtain⟨ea,C,od,bs,j,rfl,he,ko,q⟩:=h
 obtain⟨b0,b1,b2,b3,b4,b5,b6,b7,rfl,k0,k1,k2,k3,k4,k5,k6,k7⟩:∃b0 b1 b2 b3 b4 b5 b6 b7,bs=[b0,b1,b2,b3,b4,b5,b6,b7]/\kitOne K (.ref C) (.ref zM)=some b0/\kitOne K (.ref C) (.ref zT)=some b1/\kitOne K (.ref C) (.ref zH)=some b2/\kitOne K (.ref C) (.ref zR)=some b3 /\
   kitOne K (.ref C) (.ref zN)=some b4/\kitOne K (.ref C) (.ref zO)=some b5/\kitOne K (.ref C) (.ref zL)=some b6/\kitOne K (.ref C) (.ref zJ)=some b7:=by
  obtain⟨b0,_,rfl,a0,h⟩:=de ko.each;obtain⟨b1,_,rfl,a1,h⟩:=de h;obtain⟨b2,_,rfl,a2,h⟩:=de h;obtain⟨b3,_,rfl,a3,h⟩:=de h;obtain⟨b4,_,rfl,a4,h⟩:=de h;obtain⟨b5,_,rfl,a5,h⟩:=de h;obtain⟨b6,_,rfl,a6,h⟩:=de h;obtain⟨b7,_,rfl,a7,h⟩:=de h
  cases h
  exact⟨_,_,_,_,_,_,_,_,Iu,a0,a1,a2,a3,a4,a5,a6,a7⟩
 have rr:∀{D:Addr}(u:Value),u9 (.ref D) u->u=.ref D:=λ{D} u h=>h
 refine⟨_,(d9 (j4 (i:=1) Q5.nd Iu Ix (r6 (a8 (j6 (B7 K) rfl T.zK HV (a8 (pv 0) (a8 (R3 (v:=.ref zM) rfl Z.CD rfl) c7 a9) a9)) (a8 (j6 (B7 K) rfl T.zK HV (a8 (pv 0) (a8 (R3 (v:=.ref zT) rfl Z.Dc rfl) c7 a9) a9)) (a8 (j6 (B7 K) rfl T.zK HV (a8 (pv 0) (a8 (R3 (v:=.ref zH) rfl Z.AI rfl) c7 a9) a9)) c7 n9) n9) n9)))
  (d9 (j4 (i:=1) Q5.nd Iu Ix (l6 aU (pv 1) (r6 (a8 (j6 (B7 K) rfl T.zK HV (a8 (pv 0) (a8 (R3 (v:=.ref zR) rfl Z.Db rfl) c7 a9) a9)) (a8 (j6 (B7 K) rfl T.zK HV (a8 (pv 0) (a8 (R3 (v:=.ref zN) rfl Z.CF rfl) c7 a9) a9)) (a8 (j6 (B7 K) rfl T.zK HV (a8 (pv 0) (a8 (R3 (v:=.ref zO) rfl Z.CG rfl) c7 a9) a9)) c7 n9) n9) n9))))
  (d9 (j4 (i:=1) Q5.nd Iu Ix (l6 aU (pv 1) (r6 (a8 (j6 (B7 K) rfl T.zK HV (a8 (pv 0) (a8 (R3 (v:=.ref zL) rfl Z.CC rfl) c7 a9) a9)) (a8 (j6 (B7 K) rfl T.zK HV (a8 (pv 0) (a8 (R3 (v:=.ref zJ) rfl Z.Cp rfl) c7 a9) a9)) c7 n9) n9))))
  (d9 (n6 (PW.pt (dg (F0 (B0 K (j6 (B7 K) rfl T.zK HV (a8 (pv 0) (a8 (R3 (v:=.ref zI) rfl Z.BA rfl) c7 a9) a9)) (λ_=>rfl))) (dg (F0 (B0 K (j6 (B7 K) rfl T.zK HV (a8 (pv 0) (a8 (N3 (v:=.ty "ValueError") rfl T.m_ValueError dw rfl) c7 a9) a9)) (λ_=>rfl))) (aT (k8 iJ (F8 K HJ PySem.F.slot_list_count PySem.F.type_list_count rY (pv 1) (a8 F2 c7 m9)) h7 (m6 _)))))) (h9 (j5 (yQ xj h7))) l7)
  (h9 (j5 (F8 K HJ PySem.F.slot_list_index PySem.F.type_list_index qx (pv 1) (a8 F2 c7 m9)))))))),?_⟩
 refine⟨_,Iu,ea,C,od,_,_,b0,Iu,rr,he,ko.x,k0,?_⟩;refine⟨_,Iu,ea,C,od,_,_,b1,Iu,rr,he,ko.x,k1,?_⟩;refine⟨_,Iu,ea,C,od,_,_,b2,Iu,rr,he,ko.x,k2,?_⟩;refine⟨z_3,λp1 hp1=>?_⟩
 obtain⟨H1,Ip,s1,e1⟩:=Io hp1 (.lst [.bl b0,.bl b1,.bl b2]);rw[Ip];have he1:=s1 _ _ he;refine⟨_,Iu,?_⟩;refine⟨_,Iu,ea,C,od,_,_,b3,Iu,rr,he1,ko.x,k3,?_⟩;refine⟨_,Iu,ea,C,od,_,_,b4,Iu,rr,he1,ko.x,k4,?_⟩;refine⟨_,Iu,ea,C,od,_,_,b5,Iu,rr,he1,ko.x,k5,?_⟩;refine⟨z_3,λp2 hp2=>?_⟩
 obtain⟨H2,Ip,s2,e2⟩:=Io hp2 (.lst [.bl b3,.bl b4,.bl b5]);rw[Ip];refine⟨p1,p2,_,_,Iu,Iu,s2 _ _ e1,e2,z_6,λp3 hp3=>?_⟩
 obtain⟨H3,Ip,s3,e3⟩:=Io hp3 (.lst ([.bl b0,.bl b1,.bl b2]++[.bl b3,.bl b4,.bl b5]));rw[Ip];have he3:=s3 _ _ (s2 _ _ he1);refine⟨_,Iu,?_⟩;refine⟨_,Iu,ea,C,od,_,_,b6,Iu,rr,he3,ko.x,k6,?_⟩;refine⟨_,Iu,ea,C,od,_,_,b7,Iu,rr,he3,ko.x,k7,?_⟩;refine⟨z_2,λp4 hp4=>?_⟩
 obtain⟨H4,Ip,s4,e4⟩:=Io hp4 (.lst [.bl b6,.bl b7]);rw[Ip];refine⟨p3,p4,_,_,Iu,Iu,s4 _ _ e3,e4,z_8,λp5 hp5=>?_⟩
 obtain⟨H5,Ip,s5,e5⟩:=Io hp5 (.lst (([.bl b0,.bl b1,.bl b2]++[.bl b3,.bl b4,.bl b5])++[.bl b6,.bl b7]));rw[Ip];have he5:=s5 _ _ (s4 _ _ he3);have s15:=s1.trans (s2.trans (s3.trans (s4.trans s5)));have e5':H5 p5=some (.lst ([b0,b1,b2,b3,b4,b5,b6,b7].map V.bl)):=e5;refine⟨_,Iu,ea,C,od,_,_,true,Iu,rr,he5,ko.x,ko.hall,_,Iu,B9 ?_⟩;refine⟨_,Iu,ea,C,od,_,_,true,Iu,(λu h=>h),he5,ko.x,ko.val,_,Iu,B9 ?_⟩;refine⟨_,Iu,.inl ⟨Iu,_,Iv e5'⟩,p5,true,_,Iu,Iu,e5',Iu,_,Iu,ou (by rw[ko.one];decide) ?_⟩
 exact⟨_,Iu,.inl ⟨Iu,_,Iv e5'⟩,p5,true,_,j,Iu,Iu,e5',ko.at_,ko.no,ko.few,q _ s15⟩
theorem nu:∀{rs1 rs2:List Addr}{rows:List (List Int)},B8 H rs1 rows->B8 H rs2 rows->(∀row∈rows,row.length<=1000)->Paired (Q8 H 1) (rs1.map V.ref) (rs2.map V.ref)
:=λh h' hl=>bn h h' λa b row hr q q'=>.inr ⟨_,_,_,_,Iu,Iu,.inl ⟨q,q'⟩,W0 row,by rw[EV];exact hl row hr⟩
def jz (Z:eY K mg zI zL zJ zM zN zR zT zH zO):sI K zH zI [zM,zT,zH,zR,zN,zO,zL,zJ] [false,false,true,false,false,false,false,false] 2 :=
 ⟨Z.Aj,Z.Aw,Z.Cq,.cons Z.AT (.cons Z.Bl (.cons Z.AK (.cons Z.Bk (.cons Z.AU (.cons Z.AV (.cons Z.AS (.cons Z.AJ .nil))))))),by decide,Iu,(λm hm=>by match m,hm with | 0,_=>rfl | 1,_=>rfl),by decide⟩
def pS (h:j8)(ks:List Call)(c:Int)(es:List Int)(sh:Int)(i:Nat)(v:V):Prop :=
 (v=.non/\∀k∈o4 h sh,¬k<i)\/∃k:Nat,v=.int (k:Int)/\k<i/\k∈o4 h sh/\∀k'∈o4 h sh,k'<i->aG h ks c es k<=aG h ks c es k'/\(k'<k->aG h ks c es k<aG h ks c es k')
def uF (K:Frag):Sp:=λvs H Q _=>∃(a L:Addr)(rs:List Addr)(h:j8)(ks:List Call)(c:Int)(es:List Int)(sh:Int),vs=[.ref a,.ref L,.int sh]/\SqT K H a (h.row.map V.int)/\h.Ok/\H L=some (.lst (rs.map V.ref))/\B8 H rs (F7 h ks c es) /\
 (o4 h sh=[]->Q .non H)/\∀k ra,cQ h ks c es sh k->H ra=some (.lst ((J8 h ks (c/h.c) (i7 h es) k).map V.int))->Q (.ref ra) H
def R6:FnScope ["_law_hall_here","_law_kept","_law_shut","_law_best_here","_law_k"] ["_law_hall_here","_law_kept","_law_shut"] (i4 (top 69)):=mkF
def vX {P:Program}{w:World}{base:Heap}(T:Txt K mg)(D:Def K mg "_law_best" (top 69) p_34):i6 P w K mg base 1 "_law_best" p_34 (uF K):=by
 refine D.ok R6 (λ_ _ _ _ h=>?_) (λ_ _ _ _ _ H _ Q E hr h=>?_)
 ·obtain⟨a,L,rs,h,ks,c,es,sh,rfl,_⟩:=h
  rfl
 obtain⟨a,L,rs,h,ks,c,es,sh,rfl,hH,ok,hL,hrows,qN,q⟩:=h;have b3:=ok.m
 refine⟨_,(d9 (j4 (i:=3) R6.nd Iu Ix o5)
  (d9 (w5 HI rfl (C8 rfl T.zZ (a8 (i8 (i5 K) (pv 0) h7) c7 m5)) (l8 (i:=4) R6.nd Iu Ix)
  (h9 (n6 (k8 E4 (l6 eQ (l6 fe (pv 2) (pv 4)) h7) h7 (m6 _)) (h9 (n6 (PW.pt (dg (k8 M9 (pv 3) o5 (m6 _)) (aT (k8 qb (j6 (y9 K) rfl T.zY HF (a8 (i8 (u7 K) (pv 1) (pv 4)) c7 m5)) (j6 (y9 K) rfl T.zY HF (a8 (i8 (u7 K) (pv 1) (pv 3)) c7 m5)) (m6 _))))) (h9 (j4 (i:=3) R6.nd Iu Ix (pv 4))) l7)) l7)))
  (d9 (n6 (k8 M9 (pv 3) o5 (m6 _)) (h9 (j5 o5)) l7)
  (h9 (j5 (i8 (u7 K) (pv 1) (pv 3))))))),?_⟩
 have lr:=d_ hrows;unfold F7 at lr;rw[bq] at lr
 have rowAt:∀k:Nat,k<h.m.toNat->∃ra,atI (rs.map V.ref) (k:Int)=some (.ref ra)/\H ra=some (.lst ((J8 h ks (c/h.c) (i7 h es) k).map V.int)):=λk hk=>by
  have ea:rs[k]? = some (rs[k]'(by lia)):=Gb _
  obtain⟨row,w1,w2⟩:=j7 hrows k _ ea
  have w1':row=J8 h ks (c/h.c) (i7 h es) k:=by
   unfold F7 O4 at w1;rw[ER,I_ hk] at w1;exact(e_ w1).symm
  rw[w1'] at w2;exact⟨_,C4 (by rw[ER,ea];rfl),w2⟩
 have lenE:∀k:Nat,((((J8 h ks (c/h.c) (i7 h es) k).map V.int).length:Nat):Int)=((aG h ks c es k:Nat):Int):=λk=>by
  unfold aG;rw[EV]
 have memO:∀i:Nat,i<h.m.toNat->(i∈o4 h sh↔r9 sh i=true):=λi hi=>by
  unfold o4;rw[i_,j_];exact⟨λz=>z.2,λz=>⟨hi,z⟩⟩
 refine⟨_,Iu,a,_,_,_,Iu,Iu,hH,Iu,_,Iu,by show -(2^62)<=h.m;lia,by show h.m<2^62;lia,?_⟩
 refine E3 (λi σ H'=>H'=H/\∃v3 v4,pS h ks c es sh i v3/\σ=[Iq a,Iq L,Ir sh,some v3,v4])
  ⟨Iu,.non,none,.inl ⟨Iu,λk _ z=>absurd z (Hn _)⟩,Iu⟩ ?_ ?_
 ·rintro i σ H' hi ⟨rfl,v3,v4,ht,rfl⟩
  rw[HN];refine⟨_,Iu,_,Iu,_,_,Iu,Iu,by lia,_,_,Iu,Iu,Iu,_,Iu,?_⟩
  have stay:¬i∈o4 h sh->pS h ks c es sh (i+1) v3:=λhn=>by
   rcases ht with⟨rfl,z⟩|⟨k,rfl,k1,k2,k3⟩
   ·refine .inl ⟨Iu,λk hk y=>?_⟩
    by_cases e:k=i
    ·exact hn (e▸hk)
    ·exact z k hk (by lia)
   ·refine .inr ⟨k,Iu,by lia,k2,λk' hk' y=>?_⟩
    by_cases e:k'=i
    ·exact absurd (e▸hk') hn
    ·exact k3 k' hk' (by lia)
  refine B4 (λc1=>?_) (λc1=>?_)
  ·have c1':i∈o4 h sh:=(memO i hi).mpr (by unfold r9;simpa using c1)
   rcases ht with⟨rfl,z⟩|⟨k,rfl,k1,k2,k3⟩
   ·refine⟨_,Iu,Iu,_,Iu,E9 ?_⟩
    refine⟨_,Iu,Iu,_,_,.inr ⟨i,Iu,by lia,c1',λk' hk' y=>?_⟩,Iu⟩
    have e:k'=i:=by
     have:=z k' hk'
     lia
    subst e;exact⟨Eo _,λz=>absurd z (g_ _)⟩
   ·refine⟨_,Iu,Iu,_,Iu,B9 ?_⟩
    obtain⟨ra,a1,a2⟩:=rowAt i hi;obtain⟨rb,b1,b2⟩:=rowAt k (by lia)
    refine⟨_,Iu,_,Iu,L,_,_,_,Iu,Iu,Iv hL,a1,ra,_,Iu,.inl (Iv a2),_,Iu,_,Iu,L,_,_,_,Iu,Iu,Iv hL,b1,rb,_,Iu,.inl (Iv b2),_,_,Iu,Iu,_,Iu,?_⟩;rw[lenE,lenE];refine B4 (λc2=>?_) (λc2=>?_)
    ·have c2':((aG h ks c es i:Nat):Int)<((aG h ks c es k:Nat):Int):=GT c2
     refine⟨_,Iu,Iu,_,_,.inr ⟨i,Iu,by lia,c1',λk' hk' y=>?_⟩,Iu⟩
     by_cases e:k'=i
     ·subst e
      exact⟨Eo _,λz=>absurd z (g_ _)⟩
     ·have:=(k3 k' hk' (by lia)).1
      exact⟨by lia,λ_=>by lia⟩
    ·have c2':¬((aG h ks c es i:Nat):Int)<((aG h ks c es k:Nat):Int):=λz=>c2 (Fm z)
     refine⟨Iu,_,_,.inr ⟨k,Iu,by lia,k2,λk' hk' y=>?_⟩,Iu⟩
     by_cases e:k'=i
     ·subst e
      exact⟨by lia,λz=>by lia⟩
     ·exact k3 k' hk' (by lia)
  ·have c1':¬i∈o4 h sh:=λz=>c1 (by
    have:=(memO i hi).mp z
    unfold r9 at this
    simpa using this)
   exact⟨Iu,_,_,stay c1',Iu⟩
 ·rintro σ H' ⟨rfl,v3,v4,ht,rfl⟩
  rcases ht with⟨rfl,z⟩|⟨k,rfl,k1,k2,k3⟩
  ·refine⟨_,Iu,Iu,_,Iu,E9 (qN ?_)⟩
   refine List.eq_nil_iff_forall_not_mem.mpr λk hk=>z k hk (aD hk)
  ·obtain⟨ra,a1,a2⟩:=rowAt k (aD k2)
   exact⟨_,Iu,Iu,_,Iu,B9 ⟨_,Iu,_,Iu,L,_,_,_,Iu,Iu,Iv hL,a1,q k ra ⟨k2,λk' hk'=>k3 k' hk' (aD hk')⟩ a2⟩⟩
noncomputable def dB (p:Prop):Bool:=@decide p (Classical.propDecidable p)
def jJ:dB p=true↔p:=by unfold dB;exact @decide_eq_true_iff p (Classical.propDecidable p)
theorem lK (h:¬p):dB p=false:=by cases q:dB p with
 | false=>rfl
 | true=>exact absurd (jJ.mp q) h
def aY (h:p):dB p=true:=jJ.mpr h
def sR {b:Bool}(h:b=true↔p):b=dB p:=by
 rw[Ew,jJ];exact h
theorem zD (xs:List V):eU xs (some 1) none=xs.tail:=by
 unfold eU;rw[show HT.sIx xs.length 0 (some 1)=min 1 xs.length from HT.sIx_nat _ 0 1,HT.sIx_none]
 cases xs with
 | nil=>rfl
 | cons x t =>
  have e:min 1 (x::t).length=1:=by rw[Ez];lia
  rw[e,Ez,Nat.add_sub_cancel,List.drop_succ_cons,List.drop_zero,HB];rfl
def E5 (h:j8)(k:Call):List (List Int):=[0,k.c/h.c,k.k]::(i7 h k.es).map λr=>[1,k.k,r]
def wN (h:j8)(k k':Call):Prop:=k.c/h.c=k'.c/h.c\/∃e∈k.es,e/h.e∈k'.es.map λe=>e/h.e
structure Fit (h:j8)(k k':Call):Prop where
 c:k.c<k'.c
 es:∀e∈k.es,¬e∈k'.es
 l:¬(k.k=k'.k/\wN h k k')
structure wO (h:j8)(ks:List Call):Prop where
 c:(ks.map Call.c).Pairwise (· < ·)
 es:(ks.flatMap Call.es).Nodup
 l:(ks.flatMap (E5 h)).Nodup
theorem V8 {α β:Type}(f:α->List β):∀ks:List α,(ks.flatMap f).Nodup↔(∀k∈ks,(f k).Nodup)/\ks.Pairwise λa b=>∀x∈f a,¬x∈f b
 | []=>by simp
 | k::t=>by
  rw[List.flatMap_cons,GR,V8 f t,FX]
  constructor
  ·rintro⟨h1,⟨h2,h3⟩,h4⟩
   refine⟨λk' hk'=>?_,λb hb x hx hx'=>h4 x hx x (List.mem_flatMap.mpr ⟨b,hb,hx'⟩) rfl,h3⟩
   rcases p_.mp hk' with rfl|q
   ·exact h1
   ·exact h2 k' q
  ·rintro⟨h1,h2,h3⟩
   refine⟨h1 k n_,⟨λk' hk'=>h1 k' (o_ _ hk'),h3⟩,λx hx y hy e=>?_⟩;obtain⟨b,hb,hy'⟩:=List.mem_flatMap.mp hy;exact h2 b hb x hx (e▸hy')
def gr {α β:Type}{f:α->β}(hf:∀a b,f a=f b->a=b){l:List α}(h:l.Nodup):(l.map f).Nodup:=by
 unfold List.Nodup;rw[Hw];exact h.imp λ{a b} q e=>q (hf a b e)
def L8 {k:Call}:d∈E5 h k↔d=[0,k.c/h.c,k.k]\/∃e∈k.es,d=[1,k.k,e/h.e]:=by
 unfold E5 i7;rw[p_,GX]
 constructor
 ·rintro(z|⟨r,hr,rfl⟩)
  ·exact .inl z
  ·rw[D3,GX] at hr
   obtain⟨e,he,rfl⟩:=hr;exact .inr ⟨e,he,Iu⟩
 ·rintro(z|⟨e,he,rfl⟩)
  ·exact .inl z
  ·exact .inr ⟨_,(D3 _ _).mpr (mem_map_of_mem he),Iu⟩
def iU (h:j8)(k:Call):(E5 h k).Nodup:=by
 unfold E5;rw[EL];refine⟨λz=>?_,gr (λa b e=>by injection e with _ e;injection e with _ e;injection e) (B6 (E1 _))⟩
 obtain⟨r,_,e⟩:=GX.mp z
 injection e with e _
 exact absurd e (by decide)
def gO {k k':Call}:(∀d∈E5 h k,¬d∈E5 h k')↔¬(k.k=k'.k/\wN h k k'):=by
 constructor
 ·rintro g ⟨e,z|⟨e1,h1,h2⟩⟩
  ·exact g _ (L8.mpr (.inl rfl)) (L8.mpr (.inl (by rw[e,z])))
  ·obtain⟨e2,h3,h4⟩:=GX.mp h2
   exact g _ (L8.mpr (.inr ⟨e1,h1,Iu⟩)) (L8.mpr (.inr ⟨e2,h3,by rw[e,h4]⟩))
 ·intro g d hd hd'
  rcases L8.mp hd with rfl|⟨e1,h1,rfl⟩
  ·rcases L8.mp hd' with z|⟨e2,h2,z⟩
   ·injection z with _ z
    injection z with z1 z
    injection z with z2 _
    exact g ⟨z2,.inl z1⟩
   ·injection z with z _
    exact absurd z (by decide)
  ·rcases L8.mp hd' with z|⟨e2,h2,z⟩
   ·injection z with z _
    exact absurd z (by decide)
   ·injection z with _ z
    injection z with z1 z
    injection z with z2 _
    exact g ⟨z1,.inr ⟨e1,h1,GX.mpr ⟨e2,h2,z2.symm⟩⟩⟩
def iE (hin:∀k∈ks,k.es.Nodup):wO h ks↔ks.Pairwise (Fit h):=by
 constructor
 ·rintro⟨h1,h2,h3⟩
  rw[Hw] at h1;rw[V8] at h2 h3;exact((h1.and h2.2).and h3.2).imp λ{a b} q=>⟨q.1.1,q.1.2,gO.mp q.2⟩
 ·intro g
  refine⟨?_,(V8 _ _).mpr ⟨hin,g.imp λ{a b} q=>q.es⟩,(V8 _ _).mpr ⟨λk _=>iU h k,g.imp λ{a b} q=>gO.mpr q.l⟩⟩;rw[Hw];exact g.imp λ{a b} q=>q.c
def oC:(A6 ns).length=ns.length↔ns.Nodup:=by
 constructor
 ·intro z
  exact(I9 (A6 ns) ns (B6 (E1 ns)) (λx hx=>(D3 x ns).mp hx) (by lia)).nodup_iff.mp (B6 (E1 ns))
 ·intro z
  have h1:=aB ns;exact(I9 ns (A6 ns) z (λx hx=>(D3 x ns).mpr hx) h1).length_eq.symm
def iw (K:Frag):Sp:=λvs H Q _=>∃p:Addr,vs=[.ref p] /\
  ((∃ns:List Int,SqL K H p (ns.map V.int)/\ns.length<4000/\∀H',i9 H H'->Q (.bl (dB ns.Nodup)) H') \/
   (∃(as:List Addr)(ds:List (List Int)),SqL K H p (as.map V.ref)/\uJ K H as ds/\ds.length<=1000/\∀H',i9 H H'->Q (.bl (dB ds.Nodup)) H'))
def fA (H:Hp)(l:Addr)(ds:List (List Int)):Prop:=∃as:List Addr,H l=some (.lst (as.map V.ref))/\Paired (λa d=>H a=some (.tup (d.map V.int))) as ds
def lG (K:Frag):Sp:=λvs H Q _=>∃(a p:Addr)(h:j8)(k:Call),vs=[.ref a,.ref p]/\SqT K H a (h.row.map V.int)/\h.Ok/\y8 H p k/\k.In h /\
 ∀(l:Addr)(H':Hp),i9 H H'->H l=none->fA H' l (E5 h k)->Q (.ref l) H'
def lQ:Sp:=λvs H Q _=>∃(a:Addr)(ns:List Int),vs=[.ref a]/\H a=some (.lst (ns.map V.int))/\ns.length<=200/\∀H',i9 H H'->Q (.bl (dB (ns.Pairwise (· < ·)))) H'
def hZ (K:Frag):Sp:=λvs H Q _=>∃(a b:Addr)(h:j8)(as:List Addr)(ks:List Call),vs=[.ref a,.ref b]/\SqT K H a (h.row.map V.int)/\h.Ok/\SqL K H b (as.map V.ref)/\m8 H as ks/\(∀k∈ks,k.In h)/\ks.length<=63 /\
 ∀H',i9 H H'->Q (.bl (dB (ks.Pairwise (Fit h)))) H'
theorem gP:∀ns:List Int,(ns.zip ns.tail).all (id ∘ λp=>decide (p.1<p.2))=true↔ns.Pairwise (· < ·)
 | []=>by simp
 | [a]=>by simp
 | a::b::t=>by
  have ih:=gP (b::t);rw[List.tail_cons] at ih ⊢;rw[List.zip_cons_cons,all_cons,Fd,FX,ih]
  constructor
  ·rintro⟨h1,h2⟩
   have h1':a<b:=GT h1;refine⟨λx hx=>?_,h2⟩
   rcases p_.mp hx with rfl|q
   ·exact h1'
   ·exact Int.lt_trans h1' ((FX.mp h2).1 x q)
  ·rintro⟨h1,h2⟩
   exact⟨Fm (h1 b n_),h2⟩
theorem eK {α β:Type}(n:Nat)(f:α->List β):∀(ks:List α),(∀k∈ks,(f k).length<=n)->∀i,((ks.take i).flatMap f).length<=n*i
 | [],_,i=>by simp
 | k::t,h,0=>by simp
 | k::t,h,i+1=>by
  rw[List.take_succ_cons,List.flatMap_cons,EU];have h1:=h k n_;have h2:=eK n f t (λk' hk'=>h k' (o_ _ hk')) i;rw[Nat.mul_add];lia
theorem fA.same (s:i9 H H')(h:fA H l ds):fA H' l ds:=by
 obtain⟨as,e1,e2⟩:=h;exact⟨as,s _ _ e1,A5 e2 λa d _ e=>s _ _ e⟩
theorem fA.push {H:Hp}{l t:Addr}{as:List Addr}(b1:H l=some (.lst (as.map V.ref)))(b2:Paired (λa d=>H a=some (.tup (d.map V.int))) as ds)(ht:H t=none) :
  fA (upd (upd H t (.tup (d.map V.int))) l (.lst (as.map V.ref++[.ref t]))) l (ds++[d]):=by
 have htl:t≠l:=λz=>by rw[z,b1] at ht;cases ht
 have s1:=g9 ht (.tup (d.map V.int));refine⟨as++[t],by rw[c9,HE];rfl,Fr (A5 b2 λa d' _ e=>?_) ?_⟩
 ·have:a≠l:=λz=>by rw[z,b1] at e;cases e
  rw[j9 this];exact s1 _ _ e
 ·rw[j9 htl,c9]
def nU (T:Txt K mg)(D:Def K mg "are_unlike" (top 23) p_62):i6 P w K mg base 1 "are_unlike" p_62 (iw K):=by
 refine D.ok aJ (λ_ _ _ _ h=>?_) (λ_ _ _ _ _ H _ Q E hr h=>?_)
 ·obtain⟨p,rfl,_⟩:=h
  rfl
 obtain⟨p,rfl,⟨ns,hS,hlt,q⟩|⟨as,ds,hS,hD,hle,q⟩⟩:=h
 ·refine⟨_,(h9 (j5 (F3 E4 (j6 (bp P w) rfl T.zY HF (a8 (w9 (aC K P w rfl) rfl T.Bz boot_set (a8 (pv 0) c7 a9)) c7 n9)) (j6 (y9 K) rfl T.zY HF (a8 (pv 0) c7 a9)) (m6 _)))),?_⟩
  refine⟨_,Iu,p,ns,Iu,hS,hlt,λl hl=>⟨l,ns,Iu,c9,_,Iu,p,_,Iu,.inl ((g9 hl _).seq hS),Iu,?_⟩⟩
  rw[show decide (V.int (((A6 ns).length:Nat):Int)=V.int (((ns.map V.int).length:Nat):Int))=dB ns.Nodup from sR (by
   rw[FJ,EV,<- oC]
   constructor
   ·intro z;injection z with z;lia
   ·intro z;rw[z])]
  exact q _ (g9 hl _)
 ·refine⟨_,(h9 (j5 (F3 E4 (j6 nP rfl T.zY HF (a8 (w9 (nW K rfl (C0.units9 hr)) rfl T.Bz boot_set (a8 (pv 0) c7 a9)) c7 n9)) (j6 (y9 K) rfl T.zY HF (a8 (pv 0) c7 a9)) (m6 _)))),?_⟩
  have la:=d_ hD;refine⟨_,Iu,p,as,ds,Iu,hS,hD,hle,λl hl=>⟨l,_,Iu,c9,_,Iu,p,_,Iu,.inl ((g9 hl _).seq hS),Iu,?_⟩⟩
  rw[show decide (V.int (((met ds ds.length).length:Nat):Int)=V.int (((as.map V.ref).length:Nat):Int))=dB ds.Nodup from sR (by
   rw[FJ,EV,la,<- (pE ds).1]
   constructor
   ·intro z;injection z with z;lia
   ·intro z;rw[z])]
  exact q _ (g9 hl _)
def sH:FnScope ["numbers"] ["numbers"] (i4 (top 13)):=mkF
def rD (T:Txt K mg)(D:Def K mg "rises" (top 13) p_61):i6 P w K mg base 1 "rises" p_61 lQ:=by
 refine D.ok sH (λ_ _ _ _ h=>?_) (λ_ _ _ _ _ H _ Q E hr h=>?_)
 ·obtain⟨a,ns,rfl,_⟩:=h
  rfl
 obtain⟨a,ns,rfl,e,h64,q⟩:=h;refine⟨_,(h9 (j5 (j6 (cS K rfl) rfl T.CU boot_all (a8 (B3 (own:=["one","other"]) (fr:=[]) rfl (mkC ["numbers"] (i4 (top 13))) (vA false K rfl T.Dx (a8 (pv 0) (a8 (kO (kg K) (pv 0) (jA h7) vo) c7 m5) a9)) (λcl C s H ex=>⟨(zj K rfl (show(["one","other"]:List Str).Nodup from by decide +kernel) (Nm.mk (i:=0) Iu Ix Iy) (Nm.mk (i:=1) Iu Ix Iy)),F1,(F3 qb (pv 0) (pv 1) (m6 _))⟩)) c7 Q9)))),?_⟩
 refine⟨_,Iu,_,Iu,_,Iu,a,_,Iu,Iv e,λp hp=>?_⟩;obtain⟨H1,Ip,s1,e1⟩:=Io hp (.lst (eU (ns.map V.int) (some 1) none));rw[Ip];rw[zD] at e1;have hlen:(ns.map V.int).length<=200:=by rw[EV];exact h64
 have et:(ns.map V.int).tail=ns.tail.map V.int:=(List.map_tail ..).symm;refine⟨a,p,ns.map V.int,(ns.map V.int).tail,Iu,Iv (s1 _ _ e),Iv e1,?_⟩
 refine sN (b:=false) (xs:=ns.map V.int) (ys:=(ns.map V.int).tail) (λi acc σ H'=>i9 H1 H'/\acc=((ns.zip ns.tail).take i).map (λp=>V.bl (decide (p.1<p.2)))/\∃v0 v1,σ=[v0,v1])
  ⟨i9.refl H1,Iu,none,none,Iu⟩ (l_ (k9 (by lia))) (λi acc σ H' h=>?_) (λi acc σ H' _ _ h=>?_) ?_ ?_
 ·obtain⟨_,rfl,_⟩:=h
  rw[EV,EM];lia
 ·obtain⟨s2,_⟩:=h
  exact⟨Iv (s2 _ _ (s1 _ _ e)),Iv (s2 _ _ e1)⟩
 ·rintro i x y acc σ H' p hxi hyi ⟨s2,rfl,v0,v1,rfl⟩ hpn
  rw[et] at hyi;rw[ER] at hxi hyi;obtain⟨n,hn,rfl⟩:=Hg.mp hxi;obtain⟨m,hm,rfl⟩:=Hg.mp hyi;refine⟨p,[.int n,.int m],Iu,Iw c9,Iu,.int n,[.int m],Iu,.int m,[],Iu,Iu,?_⟩;refine⟨_,Iu,_,Iu,_,_,Iu,Iu,s2.trans (g9 hpn _),?_,_,_,Iu⟩;have hz:(ns.zip ns.tail)[i]? = some (n,m):=by rw[List.getElem?_zip_eq_some];exact⟨hn,hm⟩
  rw[HA,hz,HE];rfl
 ·rintro acc σ H' ⟨s2,rfl,v0,v1,rfl⟩ l hl
  have hm:min (ns.map V.int).length (ns.map V.int).tail.length=(ns.zip ns.tail).length:=by rw[List.length_zip,et,EV,EV]
  rw[hm,HB];refine⟨l,(ns.zip ns.tail).map (λp=>decide (p.1<p.2)),Iu,Iv (by rw[c9,GV];rfl),?_⟩
  rw[List.all_map,show(ns.zip ns.tail).all (id ∘ λp=>decide (p.1<p.2))=dB (ns.Pairwise (· < ·)) from sR (gP ns)];exact q _ ((s1.trans s2).trans (g9 hl _))
def U2:FnScope ["hall","call","lines","rack"] ["hall","call"] (i4 (top 22)):=mkF
def tz (T:Txt K mg)(zX:i6 P w K mg base 1 "place_in" p_31 (R8 K j8.c))(zV:i6 P w K mg base 2 "racks_of" p_24 (T0 K))(D:Def K mg "held_lines" (top 22) p_39):i6 P w K mg base 3 "held_lines" p_39 (lG K):=by
 refine D.ok U2 (λ_ _ _ _ h=>?_) (λ_ _ _ _ _ H _ Q E hr h=>?_)
 ·obtain⟨a,p,h,k,rfl,_⟩:=h
  rfl
 obtain⟨a,p,h,k,rfl,hH,ok,⟨e,ee,ep⟩,hk,q⟩:=h
 refine⟨_,(d9 (j4 (i:=2) U2.nd Iu Ix (r6 (a8 (y7 (a8 h7 (a8 (i8 (i5 K) (l9 zX hr Iu (a8 (pv 0) (a8 (i8 (i5 K) (pv 1) h7) c7 m5) a9)) h7) (a8 (i8 (i5 K) (pv 1) h7) c7 m5) m5) m9)) c7 N8)))
  (d9 (w5 HI rfl (m7 K (l9 zV hr Iu (a8 (pv 0) (a8 (i8 (i5 K) (pv 1) h7) c7 m5) a9))) (l8 (i:=3) U2.nd Iu Ix)
  (h9 (C3 (F8 K HJ HK HL B5 (pv 2) (a8 (y7 (a8 h7 (a8 (i8 (i5 K) (pv 1) h7) (a8 (pv 3) c7 a9) m5) m9)) c7 N8)))))
  (h9 (j5 (pv 2))))),?_⟩
 refine⟨_,Iu,_,Iu,p,_,_,_,Iu,Iu,Iw ep,Iu,a,h,k.c,Iu,hH,ok,λr hr2=>?_⟩;obtain⟨H1,Ip,s1,er⟩:=Io hr2 (.tup [.int (k.c/h.c),.int (k.c%h.c)]);rw[Ip];refine⟨r,_,_,_,Iu,Iu,Iw er,Iu,_,Iu,p,_,_,_,Iu,Iu,Iw (s1 _ _ ep),Iu,z_3,λt ht=>?_⟩
 dsimp only[P2]
 have et:=@c9 H1 t (.tup [.int 0,.int (k.c/h.c),.int k.k]);have s2:=s1.trans (g9 ht (.tup [.int 0,.int (k.c/h.c),.int k.k]));generalize upd H1 t _=H2 at et s2 ⊢;refine⟨z_1,λl hl=>?_⟩
 have el:=@c9 H2 l (.lst [.ref t]);have s3:=s2.trans (g9 hl (.lst [.ref t]));have et3:=g9 hl (.lst [.ref t]) _ _ et;have hlH:H l=none:=s2.free hl;generalize upd H2 l _=H3 at el s3 et3 ⊢;have bag3:fA H3 l [[0,k.c/h.c,k.k]]:=⟨[t],el,.cons et3 .nil⟩;have rl:=O6 h k.es;have few:=hk.few;refine⟨_,Iu,_,Iu,p,_,_,_,Iu,Iu,Iw (s3 _ _ ep),Iu,a,e,h,k.es,Iu,i9.seqT s3 hH,ok,.inl (Iw (s3 _ _ ee)),by lia,λrl2 H4 s4 hrl er4=>?_⟩
 refine⟨rl2,Iu,⟨_,Iv er4⟩,?_⟩
 have hne:rl2≠l:=λz=>by
  rw[z,el] at hrl
  cases hrl
 have bag4:fA H4 l [[0,k.c/h.c,k.k]]:=bag3.same s4;have s34:=s3.trans s4
 refine o9 (xs:=(i7 h k.es).map V.int) (λi σ H'=>i9 H H'/\H' rl2=some (.lst ((i7 h k.es).map V.int))/\fA H' l ([0,k.c/h.c,k.k]::((i7 h k.es).take i).map λr=>[1,k.k,r])/\∃v3,σ=[Iq a,Iq p,Iq l,v3])
  ⟨s34,er4,bag4,none,Iu⟩ (λi σ H' _ gg=>Iv gg.2.1) ?_ ?_
 ·rintro i x σ H' hx ⟨s5,e5,⟨as,b1,b2⟩,v3,rfl⟩
  rw[ER] at hx;obtain⟨r,hr2,rfl⟩:=Hg.mp hx;refine⟨_,Iu,.inl ⟨Iu,_,Iv b1⟩,_,Iu,p,_,_,_,Iu,Iu,Iw (s5 _ _ ep),Iu,_,Iu,z_3,λt2 ht2=>?_⟩
  have htl:t2≠l:=λz=>by rw[z,b1] at ht2;cases ht2
  have htr:t2≠rl2:=λz=>by rw[z,e5] at ht2;cases ht2
  have hn:=d_ b2;refine⟨l,as.map V.ref,.ref t2,Iu,Iu,by rw[j9 (Im htl)];exact b1,k9 (by rw[EV,hn,Ez,EV,EM];lia),?_⟩
  refine⟨i9.put (s5.trans (g9 ht2 _)) hlH,by rw[j9 hne,j9 (Im htr)];exact e5,?_,_,Iu⟩
  have:=fA.push (d:=[1,k.k,r]) b1 b2 ht2
  rw[HA,hr2,HE];exact this
 ·rintro σ H5 ⟨s5,e5,bag5,v3,rfl⟩
  rw[EV,HB] at bag5;exact⟨_,Iu,q l H5 s5 hlH bag5⟩
def T6:FnScope ["hall","calls","ends","lines","call"] ["hall","calls"] (i4 (top 24)):=mkF
def jP {P:Program}{w:World}{base:Heap}(T:Txt K mg)(BB:i6 P w K mg base 3 "held_lines" p_39 (lG K))(Dd:i6 P w K mg base 1 "rises" p_61 lQ)(Ai:i6 P w K mg base 1 "are_unlike" p_62 (iw K))(D:Def K mg "is_right" (top 24) p_26):i6 P w K mg base 4 "is_right" p_26 (hZ K):=by
 refine D.ok T6 (λ_ _ _ _ h=>?_) (λ_ _ _ _ _ H _ Q E hr h=>?_)
 ·obtain⟨a,b,h,as,ks,rfl,_⟩:=h
  rfl
 obtain⟨a,b,h,as,ks,rfl,hH,ok,hB,hC,hin,h95,q⟩:=h;have la:=d_ hC;have few:∀i,((ks.take i).flatMap Call.es).length<=12*i:=λi=>eK 12 Call.es ks (λk hk=>(hin k hk).few) i
 have few2:∀i,((ks.take i).flatMap (E5 h)).length<=13*i:=λi=>eK 13 (E5 h) ks (λk hk=>by
  have h1:=(hin k hk).few;have h2:=O6 h k.es;unfold E5;rw[Ez,EV]
  lia) i
 refine⟨_,(d9 (j4 (i:=2) T6.nd Iu Ix (r6 c7))
  (d9 (j4 (i:=3) T6.nd Iu Ix (r6 c7))
  (d9 (w5 HI rfl (m7 K (pv 1)) (l8 (i:=4) T6.nd Iu Ix)
  (d9 (C3 (F8 K HJ PySem.F.slot_list_extend PySem.F.type_list_extend (oG K) (pv 2) (a8 (i8 (i5 K) (pv 4) h7) c7 m5)))
  (h9 (C3 (F8 K HJ PySem.F.slot_list_extend PySem.F.type_list_extend oM (pv 3) (a8 (l9 BB hr Iu (a8 (pv 0) (a8 (pv 4) c7 a9) a9)) c7 n9))))))
  (h9 (j5 (T8 (l9 Dd hr Iu (a8 (B3 (own:=["call"]) (fr:=[]) rfl (mkC ["hall","calls","ends","lines","call"] (i4 (top 24))) (m7 K (pv 1)) (λcl C s H ex=>⟨(l8 (i:=0) (show(["call"]:List Str).Nodup from by decide +kernel) Iu Ix Iy),F1,(i8 (i5 K) (pv 0) h7)⟩)) c7 Q9)) (T8 (l9 Ai hr Iu (a8 (pv 2) c7 a9)) (Y8 (l9 Ai hr Iu (a8 (pv 3) c7 a9)))))))))),?_⟩
 refine⟨z_0,λle hle=>?_⟩
 obtain⟨H1,Ip,s1,e1⟩:=Io hle (.lst []);rw[Ip];refine⟨z_0,λll hll=>?_⟩
 have e2:=@c9 H1 ll (.lst []);have s2:=g9 hll (.lst []);have hllH:=s1.free hll;have e1':=s2 _ _ e1;have hne:le≠ll:=λz=>by rw[<- z,e1] at hll;cases hll
 generalize upd H1 ll _=H2 at e2 s2 e1' ⊢;have s12:=s1.trans s2;refine⟨_,Iu,b,Iu,⟨_,s12.seq hB⟩,?_⟩
 refine o9 (xs:=as.map V.ref) (λi σ H'=>i9 H H'/\H' le=some (.lst (((ks.take i).flatMap Call.es).map V.int))/\fA H' ll ((ks.take i).flatMap (E5 h))/\∃v4,σ=[Iq a,Iq b,Iq le,Iq ll,v4])
  ⟨s12,e1',⟨[],e2,.nil⟩,none,Iu⟩ (λi σ H' _ gg=>gg.1.seq hB) ?_ ?_
 ·rintro i x σ H' hx ⟨s3,d1,⟨ts,d2,d3⟩,v4,rfl⟩
  rw[ER] at hx;obtain⟨p,hp,rfl⟩:=Hg.mp hx;obtain⟨k,hk,⟨e,ee,ep⟩⟩:=j7 hC i p hp;have hkm:=ET hk
  have hi:i<63:=by
   have:=(s_.mp hk).1
   lia
  have f1:=few i;have f2:=few2 i;have f3:=(hin k hkm).few;have hts:=d_ d3;refine⟨_,Iu,.inl ⟨Iu,_,Iv d1⟩,_,Iu,p,_,_,_,Iu,Iu,Iw (s3 _ _ ep),Iu,le,e,_,_,Iu,Iu,d1,Iw (s3 _ _ ee),l_ (k9 (by rw[EV,EV];lia)),?_⟩
  have t1:upd H' le (.lst (((ks.take i).flatMap Call.es).map V.int++k.es.map V.int)) le=some (.lst (((ks.take (i+1)).flatMap Call.es).map V.int)):=by
   rw[c9,HA,hk,List.flatMap_append,HE]
   simp
  have s4:i9 H (upd H' le (.lst (((ks.take i).flatMap Call.es).map V.int++k.es.map V.int))):=i9.put s3 hle;have d2':upd H' le (.lst (((ks.take i).flatMap Call.es).map V.int++k.es.map V.int)) ll=some (.lst (ts.map V.ref)):=by rw[j9 (Im hne)];exact d2
  have d3':Paired (λa d=>upd H' le (.lst (((ks.take i).flatMap Call.es).map V.int++k.es.map V.int)) a=some (.tup (d.map V.int))) ts ((ks.take i).flatMap (E5 h)):=A5 d3 λa d _ z=>by
   have:a≠le:=λy=>by rw[y,d1] at z;cases z
   rw[j9 this];exact z
  generalize upd H' le _=H4 at t1 s4 d2' d3' ⊢;refine⟨_,Iu,.inl ⟨Iu,_,Iv d2'⟩,_,Iu,_,Iu,a,p,h,k,Iu,i9.seqT s4 hH,ok,⟨e,s4 _ _ ee,s4 _ _ ep⟩,hin k hkm,λnl H5 s5 hnl ⟨us,g1,g2⟩=>?_⟩;have hus:=d_ g2
  have f4:(E5 h k).length<=13:=by
   have h2:=O6 h k.es;unfold E5;rw[Ez,EV];lia
  refine⟨ll,nl,_,_,Iu,Iu,s5 _ _ d2',g1,l_ (k9 (by rw[EV,EV];lia)),?_⟩
  refine⟨i9.put (s4.trans s5) hllH,by rw[j9 hne];exact s5 _ _ t1,⟨ts++us,by rw[c9,HE],?_⟩,_,Iu⟩
  rw[HA,hk,List.flatMap_append,show(some k).toList.flatMap (E5 h)=E5 h k by simp]
  have up:∀(c:Addr)(d:List Int),H5 c=some (.tup (d.map V.int))->upd H5 ll (.lst (ts.map V.ref++us.map V.ref)) c=some (.tup (d.map V.int)):=λc d z=>by
   have:c≠ll:=λy=>by rw[y,s5 _ _ d2'] at z;cases z
   rw[j9 this];exact z
  exact V2 (A5 d3' λc d _ z=>up c d (s5 _ _ z)) (A5 g2 λc d _ z=>up c d z)
 ·rintro σ H' ⟨s3,d1,⟨ts,d2,d3⟩,v4,rfl⟩
  rw[EV,la,HB] at d1 d3;have f1:=few ks.length;have f2:=few2 ks.length;rw[HB] at f1 f2;have hin':∀k∈ks,k.es.Nodup:=λk hk=>B6 (hin k hk).rise
  have nope:¬((ks.map Call.c).Pairwise (· < ·)/\(ks.flatMap Call.es).Nodup/\(ks.flatMap (E5 h)).Nodup)->dB (ks.Pairwise (Fit h))=false:=λz=>lK λy=>z (by
   obtain⟨a1,a2,a3⟩:=(iE hin').mpr y
   exact⟨a1,a2,a3⟩)
  refine⟨_,Iu,b,Iu,⟨_,s3.seq hB⟩,?_⟩
  refine A2 (xs:=as.map V.ref) (λi acc σ H''=>H''=H'/\acc=(ks.take i).map (λk=>V.int k.c)/\∃v,σ=[v])
   ⟨Iu,Iu,none,Iu⟩ (l_ (k9 (by rw[EV];lia))) (λi acc σ H'' g=>?_) (λi acc σ H'' _ g=>by rw[g.1];exact s3.seq hB) ?_ ?_
  ·obtain⟨_,rfl,_⟩:=g
   rw[EV,EM];lia
  ·rintro i x acc σ H'' hx ⟨rfl,rfl,v,rfl⟩
   rw[ER] at hx;obtain⟨p,hp,rfl⟩:=Hg.mp hx;obtain⟨k,hk,⟨e,ee,ep⟩⟩:=j7 hC i p hp;refine⟨_,Iu,p,_,_,_,Iu,Iu,Iw (s3 _ _ ep),Iu,Iu,?_,_,Iu⟩;rw[HA,hk,HE];rfl
  ·rintro acc σ H'' ⟨rfl,rfl,v,rfl⟩ lc hlc
   rw[EV,la,HB];have ec:upd H'' lc (.lst (ks.map λk=>V.int k.c)) lc=some (.lst ((ks.map Call.c).map V.int)):=by rw[c9,GV];rfl
   have s4:=g9 hlc (.lst (ks.map λk=>V.int k.c));generalize upd H'' lc _=H4 at ec s4 ⊢;have s34:=s3.trans s4;refine⟨lc,_,Iu,ec,by rw[EV];lia,λH5 s5=>⟨_,Iu,?_⟩⟩
   by_cases c1:(ks.map Call.c).Pairwise (· < ·)
   ·refine xy (aY c1) ?_
    refine⟨_,Iu,le,Iu,.inl ⟨_,Iv (s5 _ _ (s4 _ _ d1)),by lia,λH6 s6=>⟨_,Iu,?_⟩⟩⟩
    by_cases c2:(ks.flatMap Call.es).Nodup
    ·refine xy (aY c2) ?_
     have s46:=(s4.trans s5).trans s6;refine⟨_,Iu,ll,Iu,.inr ⟨ts,_,Iv (s46 _ _ d2),A5 d3 λc d _ z=>Iw (s46 _ _ z),by lia,λH7 s7=>?_⟩⟩
     have:dB (ks.flatMap (E5 h)).Nodup=dB (ks.Pairwise (Fit h)):=by
      by_cases c3:(ks.flatMap (E5 h)).Nodup
      ·rw[aY c3,aY ((iE hin').mp ⟨c1,c2,c3⟩)]
      ·rw[lK c3,nope λz=>c3 z.2.2]
     rw[this];exact q _ ((s3.trans s46).trans s7)
    ·refine ou (by rw[lK c2];decide) ?_
     have:=q _ ((s34.trans s5).trans s6)
     rw[nope λz=>c2 z.2.1] at this;exact this
   ·refine ou (by rw[lK c1];decide) ?_
    have:=q _ (s34.trans s5)
    rw[nope λz=>c1 z.1] at this;exact this
def sX {k k':Call}(f:D7 h k k')(c:k.c<k'.c):Fit h k k':=by
 refine⟨c,λe h1 h2=>f (mY e) (A1.mpr (.inr (.inr (.inr ⟨e,h1,Iu⟩)))) (A1.mpr (.inr (.inr (.inr ⟨e,h2,Iu⟩)))),?_⟩
 rintro⟨e,z|⟨e1,h1,h2⟩⟩
 ·exact f (nIn (k.c/h.c) k.k) (A1.mpr (.inl rfl)) (A1.mpr (.inl (by rw[z,e])))
 ·obtain⟨e2,h3,h4⟩:=GX.mp h2
  exact f (K7 (e1/h.e) k.k) (A1.mpr (.inr (.inl ⟨e1,h1,Iu⟩))) (A1.mpr (.inr (.inl ⟨e2,h3,by rw[<- e,h4]⟩)))
structure Mv where
 c:Int
 k:Int
 o:Int
def wP (H:Hp)(p:Addr)(m:Mv):Prop:=H p=some (.tup [.int m.c,.int m.k,.int m.o])
def t4 (H:Hp)(as:List Addr)(ms:List Mv):Prop:=Paired (wP H) as ms
theorem t4.same {H H':Hp}(s:∀b xs,H b=some (.tup xs)->H' b=some (.tup xs))(h:t4 H as ms):t4 H' as ms:=by
 unfold t4 at h ⊢;exact A5 h λa d _ e=>s _ _ e
def Ok1 (h:j8)(ks:List Call)(pre:List Mv)(m:Mv):Prop:=(∀m'∈pre,m'.c≠m.c)/\(∃k∈ks,k.c=m.c/\k.k=m.k)/\0<=m.o/\m.o<h.m
def qc (h:j8)(ks:List Call)(ms:List Mv):Prop:=∀(i:Nat) m,ms[i]? = some m->Ok1 h ks (ms.take i) m
def K8 (ms:List Mv)(c:Int):Option Int:=(ms.find? λm=>decide (m.c=c)).map Mv.o
def fc (ms:List Mv)(k:Call):Call:=⟨k.c,k.es,(K8 ms k.c).getD k.k⟩
def x9 (ks:List Call)(ms:List Mv):List Call:=ks.map (fc ms)
def cE {pre:List Mv}{m:Mv}(h:∀m'∈pre,m'.c≠m.c)(c:Int):K8 (pre++[m]) c=if c=m.c then some m.o else K8 pre c:=by
 unfold K8;rw[List.find?_append]
 by_cases e:c=m.c
 ·rw[Ik e,Hv.mpr λm' hm'=>by simp[e,h m' hm']]
  simp[e]
 ·rw[Il e]
  cases hf:pre.find? (λm=>decide (m.c=c)) with
  | some x=>rfl
  | none=>simp[Im e]
def kZ {c o:Int}(h:K8 ms c=some o):∃m∈ms,m.c=c/\m.o=o:=by
 unfold K8 at h;obtain⟨m,hm,rfl⟩:=Hg.mp h;exact⟨m,Hu hm,by simpa using Ht hm,Iu⟩
theorem ph (hin:∀k∈ks,k.In h)(hm:∀m∈ms,0<=m.o/\m.o<h.m):∀k∈x9 ks ms,k.In h:=λk hk=>by
 obtain⟨k0,hk0,rfl⟩:=GX.mp hk;have i:=hin k0 hk0;refine⟨i.c,i.rise,i.es,i.some,i.few,?_⟩
 show 0<=(K8 ms k0.c).getD k0.k/\(K8 ms k0.c).getD k0.k<h.m
 cases e:K8 ms k0.c with
 | none=>exact i.k
 | some o =>
  obtain⟨m,h1,_,h2⟩:=kZ e;rw[<- h2];exact hm m h1
theorem qc.pre (v:qc h ks ms):∀m∈ms,0<=m.o/\m.o<h.m:=λm hm=>by
 obtain⟨i,hi⟩:=HX.mp hm;exact(v i m hi).2.2
def fB {ks:List Call}(up:ks.Pairwise λk k'=>k.c<k'.c){k k':Call}(hk:k∈ks)(hk':k'∈ks)(e:k.c=k'.c):k=k':=by
 obtain⟨i,hi⟩:=HX.mp hk;obtain⟨j,hj⟩:=HX.mp hk';obtain⟨q1,z1⟩:=s_.mp hi;obtain⟨q2,z2⟩:=s_.mp hj
 rcases Hr i j with w|w|w
 ·have:=(FR.mp up) i j q1 q2 w
  rw[z1,z2] at this;lia
 ·subst w
  rw[hi] at hj
  injection hj
 ·have:=(FR.mp up) j i q2 q1 w
  rw[z1,z2] at this;lia
def sD (h:j8)(ks:List Call)(ms:List Mv)(i:Nat):Prop:=∀(j:Nat) m,j<i->ms[j]? = some m->Ok1 h ks (ms.take j) m
def rM (h:j8)(ks:List Call)(ms:List Mv):sD h ks ms 0:=λ_ _ z=>absurd z (Hn _)
def qZ {i:Nat}(u:sD h ks ms i)(hm:ms[i]? = some m)(o:Ok1 h ks (ms.take i) m):sD h ks ms (i+1):=λj m' hj hm'=>by
 by_cases e:j=i
 ·subst e
  rw[hm] at hm'
  injection hm' with hm'
  rw[<- hm'];exact o
 ·exact u j m' (by lia) hm'
def sw (u:sD h ks ms ms.length):qc h ks ms:=λi m hm=>u i m (s_.mp hm).1 hm
def gh (h:j8)(ks:List Call)(ms:List Mv):Prop:=qc h ks ms/\(x9 ks ms).Pairwise (Fit h)
def iK (K:Frag):Sp:=λvs H Q _=>∃(l g:Addr)(as:List Addr)(ks:List Call)(cs:List Int)(a b:Int),vs=[.ref l,.ref g,.int a,.int b]/\SqL K H l (as.map V.ref)/\m8 H as ks/\ks.Pairwise (λk k'=>k.c<k'.c)/\SqL K H g (cs.map V.int)/\cs.length<=63/\(∀c∈cs,∃k∈ks,k.c=c) /\
 ∀(ml:Addr)(mas:List Addr)(ms:List Mv)(H':Hp),i9 H H'->H' ml=some (.lst (mas.map V.ref))->t4 H' mas ms->ms.length=cs.length->(∀(j:Nat) m k,ms[j]? = some m->k∈ks->some k.c=cs[j]?->m=⟨k.c,k.k,if k.k=a then b else a⟩)->Q (.ref ml) H'
def kr (K:Frag):Sp:=λvs H Q _=>∃(a l g p:Addr)(h:j8)(as:List Addr)(ks:List Call)(kvs:List (Key×V))(pre:List Mv)(m:Mv),vs=[.ref a,.ref l,.ref g,.ref p]/\SqT K H a (h.row.map V.int)/\h.Ok/\SqL K H l (as.map V.ref)/\m8 H as ks/\ks.Pairwise (λk k'=>k.c<k'.c)/\H g=some (.dK kvs)/\(∀c,(A8 kvs (.inl c)).isSome=true↔∃m'∈pre,m'.c=c)/\wP H p m /\
 (Ok1 h ks pre m->Q .non H)/\(¬Ok1 h ks pre m->False)
def pQ (K:Frag):Sp:=λvs H Q _=>∃(a l ml:Addr)(h:j8)(as mas:List Addr)(ks:List Call)(ms:List Mv),vs=[.ref a,.ref l,.ref ml]/\SqT K H a (h.row.map V.int)/\h.Ok/\SqL K H l (as.map V.ref)/\m8 H as ks/\(∀k∈ks,k.In h)/\ks.Pairwise (λk k'=>k.c<k'.c)/\ks.length<=63/\SqL K H ml (mas.map V.ref)/\t4 H mas ms/\ms.length<=100 /\
 (gh h ks ms->∀(f:Addr)(bs:List Addr)(H':Hp),i9 H H'->H' f=some (.lst (bs.map V.ref))->m8 H' bs (x9 ks ms)->Q (.ref f) H')/\(¬gh h ks ms->∀H':Hp,i9 H H'->False)
def T4:FnScope ["calls","chain","a","b","moves","caller","k"] ["calls","chain","a","b"] (i4 (top 46)):=mkF
def mh {P:Program}{w:World}{base:Heap}(T:Txt K mg)(Ao:i6 P w K mg base 2 "call_of" p_49 (bz K))(D:Def K mg "moves_of" (top 46) p_51):i6 P w K mg base 3 "moves_of" p_51 (iK K):=by
 refine D.ok T4 (λ_ _ _ _ h=>?_) (λ_ _ _ _ _ H _ Q E hr h=>?_)
 ·obtain⟨l,g,as,ks,cs,a,b,rfl,_⟩:=h
  rfl
 obtain⟨l,g,as,ks,cs,a,b,rfl,hL,hC,up,hG,h63,hcs,q⟩:=h
 refine⟨_,(d9 (j4 (i:=4) T4.nd Iu Ix (r6 c7))
  (d9 (w5 HI rfl (m7 K (pv 1)) (l8 (i:=5) T4.nd Iu Ix)
  (d9 (j4 (i:=6) T4.nd Iu Ix (i8 (i5 K) (l9 Ao hr Iu (a8 (pv 0) (a8 (pv 5) c7 a9) a9)) h7))
  (h9 (C3 (F8 K HJ HK HL B5 (pv 4) (a8 (y7 (a8 (pv 5) (a8 (pv 6) (a8 (kK (k8 E4 (pv 6) (pv 2) (m6 _)) (pv 3) (pv 2)) c7 xZ) a9) a9)) c7 N8))))))
  (h9 (j5 (pv 4))))),?_⟩
 refine⟨z_0,λf hf=>?_⟩
 obtain⟨H1,Ip,s1,ef⟩:=Io hf (.lst []);rw[Ip];refine⟨_,Iu,g,Iu,⟨_,s1.seq hG⟩,?_⟩
 refine o9 (xs:=cs.map V.int) (λi σ H'=>i9 H H'/\(∃(mas:List Addr)(ms:List Mv),H' f=some (.lst (mas.map V.ref))/\t4 H' mas ms/\ms.length=i/\∀(j:Nat) m k,ms[j]? = some m->k∈ks->some k.c=cs[j]?->m=⟨k.c,k.k,if k.k=a then b else a⟩)/\∃v5 v6,σ=[Iq l,Iq g,Ir a,Ir b,Iq f,v5,v6])
  ⟨s1,⟨[],[],ef,.nil,Iu,λj m k z=>by simp at z⟩,_,_,Iu⟩ (λi σ H' _ gg=>gg.1.seq hG) ?_ ?_
 ·rintro i y σ H' hy ⟨s2,⟨mas,ms,e2,hm,hl,hj⟩,v5,v6,rfl⟩
  rw[ER] at hy;obtain⟨c,hc,rfl⟩:=Hg.mp hy
  have hi:i<63:=by
   have:=(s_.mp hc).1
   lia
  refine⟨_,Iu,_,Iu,l,.int c,as,ks,Iu,s2.seq hL,m8.same (λb xs z=>s2 _ _ z) hC,.int c,.inr ⟨c,Iu,λv hv=>?_⟩⟩;obtain⟨k0,hk0,hkc⟩:=hcs c (ET hc)
  rcases hv with⟨_,z⟩|⟨j,pa,k,ha,hk,hkc',rfl⟩
  ·exact absurd hkc (z k0 hk0)
  obtain⟨k',hk',ce,x1,x2⟩:=j7 hC j pa ha;rw[hk] at hk'
  injection hk' with hk'
  subst hk';refine⟨pa,_,_,_,Iu,Iu,Iw (s2 _ _ x2),Iu,?_⟩;refine⟨_,Iu,.inl ⟨Iu,_,Iv e2⟩,_,Iu,_,Iu,_,Iu,_,Iu,Iu,_,Iu,?_⟩;refine B4 (λc1=>?_) (λc1=>?_)
  ·have c1':k.k=a:=by simpa using c1
   refine⟨_,Iu,z_3,λt ht=>?_⟩
   have htf:t≠f:=λz=>by rw[z,e2] at ht;cases ht
   have lm:=d_ hm;obtain⟨H3,Ip,n1,et⟩:=Io ht (.tup [.int c,.int k.k,.int (b)]);rw[Ip];have ef3:=n1 _ _ e2;refine⟨f,mas.map V.ref,.ref t,Iu,Iu,ef3,k9 (by rw[EV,lm];lia),?_⟩
   have kt:∀b xs,H3 b=some (.tup xs)->upd H3 f (.lst (mas.map V.ref++[.ref t])) b=some (.tup xs):=λb xs z=>by
    have:b≠f:=λy=>by rw[y,ef3] at z;cases z
    rw[j9 this];exact z
   refine⟨i9.put (s2.trans n1) hf,⟨mas++[t],ms++[⟨c,k.k,b⟩],by rw[c9,HE];rfl,Fr (t4.same (λb xs z=>kt _ _ (n1 _ _ z)) hm) (kt _ _ et),by rw[EU,Fj,hl],λj' m k2 hm2 hk2 hc2=>?_⟩,_,_,Iu⟩
   rcases Nat.lt_or_ge j' i with w|w
   ·rw[EQ (by lia)] at hm2
    exact hj j' m k2 hm2 hk2 hc2
   ·have hjl:=(s_.mp hm2).1
    rw[EU,Fj] at hjl;have e5:j'=i:=by lia
    subst e5;rw[EO (by lia),hl,Nat.sub_self] at hm2
    injection hm2 with hm2
    rw[hc] at hc2
    injection hc2 with hc2
    have:k2=k:=fB up hk2 (ET hk) (by rw[hc2,hkc'])
    subst this;rw[<- hm2,hc2,Ik c1']
  ·have c1':¬k.k=a:=by simpa using c1
   refine⟨_,Iu,z_3,λt ht=>?_⟩
   have htf:t≠f:=λz=>by rw[z,e2] at ht;cases ht
   have lm:=d_ hm;obtain⟨H3,Ip,n1,et⟩:=Io ht (.tup [.int c,.int k.k,.int (a)]);rw[Ip];have ef3:=n1 _ _ e2;refine⟨f,mas.map V.ref,.ref t,Iu,Iu,ef3,k9 (by rw[EV,lm];lia),?_⟩
   have kt:∀b xs,H3 b=some (.tup xs)->upd H3 f (.lst (mas.map V.ref++[.ref t])) b=some (.tup xs):=λb xs z=>by
    have:b≠f:=λy=>by rw[y,ef3] at z;cases z
    rw[j9 this];exact z
   refine⟨i9.put (s2.trans n1) hf,⟨mas++[t],ms++[⟨c,k.k,a⟩],by rw[c9,HE];rfl,Fr (t4.same (λb xs z=>kt _ _ (n1 _ _ z)) hm) (kt _ _ et),by rw[EU,Fj,hl],λj' m k2 hm2 hk2 hc2=>?_⟩,_,_,Iu⟩
   rcases Nat.lt_or_ge j' i with w|w
   ·rw[EQ (by lia)] at hm2
    exact hj j' m k2 hm2 hk2 hc2
   ·have hjl:=(s_.mp hm2).1
    rw[EU,Fj] at hjl;have e5:j'=i:=by lia
    subst e5;rw[EO (by lia),hl,Nat.sub_self] at hm2
    injection hm2 with hm2
    rw[hc] at hc2
    injection hc2 with hc2
    have:k2=k:=fB up hk2 (ET hk) (by rw[hc2,hkc'])
    subst this;rw[<- hm2,hc2,Il c1']
 ·rintro σ H' ⟨s2,⟨mas,ms,e2,hm,hl,hj⟩,v5,v6,rfl⟩
  exact⟨_,Iu,q f mas ms H' s2 e2 hm (by rw[hl,EV]) hj⟩
def Z6:FnScope ["hall","calls","goals","move","call"] ["hall","calls","goals","move"] (i4 (top 47)):=mkF
def qR {P:Program}{w:World}{base:Heap}(T:Txt K mg)(Ao:i6 P w K mg base 2 "call_of" p_49 (bz K))(Ac:i6 P w K mg base 2 "is_whole" p_32 (aq K))(D:Def K mg "refuse_move" (top 47) p_44):i6 P w K mg base 3 "refuse_move" p_44 (kr K):=by
 refine D.ok Z6 (λ_ _ _ _ h=>?_) (λ_ _ _ _ _ H _ Q E hr h=>?_)
 ·obtain⟨a,l,g,p,h,as,ks,kvs,pre,m,rfl,_⟩:=h
  rfl
 obtain⟨a,l,g,p,h,as,ks,kvs,pre,m,rfl,hH,ok,hL,hC,up,eg,hg,ep,yes,no⟩:=h;have o3:=ok.m
 replace ep:H p=some (.tup [.int m.c,.int m.k,.int m.o]):=ep
 have hP:SqT K H p [.int m.c,.int m.k,.int m.o]:=Iw ep
 refine⟨_,(d9 (j4 (i:=4) Z6.nd Iu Ix (l9 Ao hr Iu (a8 (pv 1) (a8 (i8 (i5 K) (pv 3) h7) c7 m5) a9)))
  (d9 (n6 (k8 M9 (pv 4) o5 (m6 _)) (h9 N0) l7)
  (d9 (n6 (bg (fC (Q4 hr) (i8 (i5 K) (pv 3) h7) (pv 2))) (h9 N0) l7)
  (d9 (n6 (k8 iJ (i8 (i5 K) (pv 4) h7) (i8 (i5 K) (pv 3) h7) (m6 _)) (h9 N0) l7)
  (h9 (n6 (F0 (B0 K (l9 Ac hr Iu (a8 (i8 (i5 K) (pv 3) h7) (a8 h7 (a8 (l6 cB (i8 (i5 K) (pv 0) h7) h7) c7 Q1) m9) m5)) (λ_=>rfl))) (h9 N0) l7)))))),?_⟩
 refine⟨_,Iu,_,Iu,p,_,_,_,Iu,Iu,hP,Iu,l,.int m.c,as,ks,Iu,hL,hC,.int m.c,.inr ⟨m.c,Iu,λv hv=>?_⟩⟩
 rcases hv with⟨rfl,z⟩|⟨j,pa,k,ha,hk,hkc,rfl⟩
 ·exact⟨_,Iu,Iu,_,Iu,E9 (no λ⟨_,⟨k,h1,h2,_⟩,_⟩=>z k h1 h2)⟩
 obtain⟨k',hk',ce,x1,x2⟩:=j7 hC j pa ha;rw[hk] at hk'
 injection hk' with hk'
 subst hk';have hkm:=ET hk;refine⟨_,Iu,Iu,_,Iu,B9 ?_⟩;refine⟨_,Iu,p,_,_,_,Iu,Iu,hP,Iu,_,Iu,g,_,Iu,R9.k (k:=.inl m.c) eg,_,Iu,?_⟩;refine B4 (λc1=>?_) (λc1=>?_)
 ·obtain⟨m',h1,h2⟩:=(hg m.c).mp c1
  exact no λo=>o.1 m' h1 h2
 have n1:∀m'∈pre,m'.c≠m.c:=λm' h1 h2=>c1 ((hg m.c).mpr ⟨m',h1,h2⟩);refine⟨_,Iu,pa,_,_,_,Iu,Iu,Iw x2,Iu,_,Iu,p,_,_,_,Iu,Iu,hP,Iu,Iu,_,Iu,?_⟩;refine B4 (λc2=>?_) (λc2=>?_)
 ·have c2':¬k.k=m.k:=by simpa using c2
  refine no λ⟨_,⟨k0,h1,h2,h3⟩,_⟩=>c2' ?_;rw[fB up hkm h1 (by rw[hkc,h2])]
  exact h3
 have c2':k.k=m.k:=by simpa using c2
 refine⟨_,Iu,p,_,_,_,Iu,Iu,hP,Iu,_,Iu,a,_,_,_,Iu,Iu,hH,Iu,_,_,Iu,Iu,.int m.o,0,h.m-1,Iu,.int m.o,_,Iu,?_⟩;refine B4 (λc3=>?_) (λc3=>?_)
 ·have c3':¬A9 (.int m.o) 0 (h.m-1)=true:=by simpa using c3
  refine no λ⟨_,_,h1,h2⟩=>c3' ?_
  show(decide (0<=m.o)&&decide (m.o<=h.m-1))=true
  rw[Fm h1,Fm (show m.o<=h.m-1 by lia)]
  rfl
 ·have c3':A9 (.int m.o) 0 (h.m-1)=true:=by simpa using c3
  have c4:(decide (0<=m.o)&&decide (m.o<=h.m-1))=true:=c3';rw[Fd,FJ,FJ] at c4;exact yes ⟨n1,⟨k,hkm,hkc,c2'⟩,c4.1,by lia⟩
def bC:FnScope ["hall","calls","moves","goals","move","behind"] ["hall","calls","moves"] (i4 (top 48)):=mkF
def tj {P:Program}{w:World}{base:Heap}(T:Txt K mg)(Bv:i6 P w K mg base 3 "refuse_move" p_44 (kr K))(Ct:i6 P w K mg base 4 "is_right" p_26 (hZ K))(D:Def K mg "moved" (top 48) p_53):i6 P w K mg base 5 "moved" p_53 (pQ K):=by
 refine D.ok bC (λ_ _ _ _ h=>?_) (λ_ _ _ _ _ H _ Q E hr h=>?_)
 ·obtain⟨a,l,ml,h,as,mas,ks,ms,rfl,_⟩:=h
  rfl
 obtain⟨a,l,ml,h,as,mas,ks,ms,rfl,hH,ok,hL,hC,hin,up,h63,hM,hMs,h100,yes,no⟩:=h;have la:=d_ hC;have lm:=d_ hMs
 refine⟨_,(d9 (j4 (i:=3) bC.nd Iu Iy kA)
  (d9 (w5 HI rfl (m7 K (pv 2)) (l8 (i:=4) bC.nd Iu Ix)
  (d9 (C3 (l9 Bv hr Iu (a8 (pv 0) (a8 (pv 1) (a8 (pv 3) (a8 (pv 4) c7 a9) a9) a9) a9)))
  (h9 (bx (Q4 hr) (pv 3) (i8 (i5 K) (pv 4) h7) (i8 (i5 K) (pv 4) h7) rfl))))
  (d9 (bB (i:=5) (own:=["call"]) (fr:=[(3,"goals")]) rfl bC.nd rfl rfl (mkC ["hall","calls","moves","goals","move","behind"] (i4 (top 48))) (m7 K (pv 1)) (λcl C s H ex=>⟨(l8 (i:=0) (show(["call","goals"]:List Str).Nodup from by decide +kernel) Iu Ix Iy),F1,(y7 (a8 (i8 (i5 K) (pv 0) h7) (a8 (i8 (i5 K) (pv 0) h7) (a8 (kC (Q4 hr) (pv 1) (i8 (i5 K) (pv 0) h7) (i8 (i5 K) (pv 0) h7) ⟨Iu,Iu,Iu,Iu⟩) c7 n9) m5) m5))⟩) rfl)
  (d9 (n6 (F0 (B0 K (l9 Ct hr Iu (a8 (pv 0) (a8 (pv 5) c7 a9) a9)) (λ_=>rfl))) (h9 N0) l7)
  (h9 (j5 (pv 5))))))),?_⟩
 refine λg hg=>?_;obtain⟨H1,Ip,s1,eg⟩:=Io hg (.dK []);rw[Ip];refine⟨_,Iu,ml,Iu,⟨_,s1.seq hM⟩,?_⟩
 refine o9 (xs:=mas.map V.ref) (λi σ H'=>i9 H H'/\sD h ks ms i/\(∃kvs,H' g=some (.dK kvs)/\kvs.length<=i/\∀c,A8 kvs (.inl c)=(K8 (ms.take i) c).map V.int)/\∃v4 v5,σ=[Iq a,Iq l,Iq ml,Iq g,v4,v5])
  ⟨s1,rM _ _ _,⟨[],eg,Eo _,λc=>rfl⟩,_,_,Iu⟩ (λi σ H' _ gg=>gg.1.seq hM) ?_ ?_
 ·rintro i y σ H' hy ⟨s2,u2,⟨kvs,e2,hl,hv⟩,v4,v5,rfl⟩
  rw[ER] at hy;obtain⟨pm,hpm,rfl⟩:=Hg.mp hy;obtain⟨m,hm,em⟩:=j7 hMs i pm hpm
  have hi:i<100:=by
   have:=(s_.mp hm).1
   lia
  have em2:wP H' pm m:=s2 _ _ em;refine⟨_,Iu,_,Iu,_,Iu,_,Iu,a,l,g,pm,h,as,ks,kvs,ms.take i,m,Iu,i9.seqT s2 hH,ok,s2.seq hL,m8.same (λb xs z=>s2 _ _ z) hC,up,e2,λc=>?_,em2,λo1=>?_,λn1=>no (λz=>n1 (z.1 i m hm)) _ s2⟩
  ·rw[hv]
   constructor
   ·intro z
    cases q:K8 (ms.take i) c with
    | none=>rw[q] at z;cases z
    | some o =>
     obtain⟨m',h1,h2,_⟩:=kZ q;exact⟨m',h1,h2⟩
   ·rintro⟨m',h1,h2⟩
    cases q:K8 (ms.take i) c with
    | some o=>rfl
    | none =>
     unfold K8 at q
     have:=Hv.mp (Option.map_eq_none_iff.mp q) m' h1
     simp[h2] at this
  ·refine⟨_,Iu,pm,_,_,_,Iu,Iu,Iw em2,Iu,_,Iu,_,Iu,pm,_,_,_,Iu,Iu,Iw em2,Iu,g,_,Iu,gm.k (k:=.inl m.c) e2 (Fo hl (k9 (by lia))),?_⟩
   refine⟨i9.put s2 hg,qZ u2 hm o1,⟨_,c9,?_,λc=>?_⟩,_,_,Iu⟩
   ·have:=J4 kvs (.inl m.c) (.int m.o)
    lia
   ·rw[U5,HA,hm]
    show _=(K8 (ms.take i++[m]) c).map V.int
    rw[cE o1.1]
    by_cases e:c=m.c
    ·rw[Ik (by rw[e]),Ik e]
     rfl
    ·rw[Il (λz=>e (by injection z)),Il e]
     exact hv c
 ·rintro σ H2 ⟨s2,u2,⟨kvs,e2,hl,hv⟩,v4,v5,rfl⟩
  rw[EV,lm] at u2 hv;rw[HB] at hv;have vd:=sw u2;have hin':=ph hin vd.pre;have hC2:=m8.same (λb xs z=>s2 _ _ z) hC;refine⟨_,Iu,l,Iu,⟨_,s2.seq hL⟩,?_⟩
  refine A2 (xs:=as.map V.ref) (λj acc σ G=>i9 H2 G/\(∃bs:List Addr,acc=bs.map V.ref/\m8 G bs (x9 (ks.take j) ms))/\∃v,σ=[v,Iq g])
   ⟨i9.refl _,⟨[],Iu,.nil⟩,none,Iu⟩ (l_ (k9 (by rw[EV];lia))) (λj acc σ G gg=>?_) (λj acc σ G _ gg=>(s2.trans gg.1).seq hL) ?_ ?_
  ·obtain⟨_,⟨bs,rfl,hb⟩,_⟩:=gg
   have:=d_ hb
   rw[EV,this];unfold x9;rw[EV,EM];lia
  ·rintro j y acc σ G hy ⟨g1,⟨bs,rfl,hb⟩,v,rfl⟩
   rw[ER] at hy;obtain⟨pc,hpc,rfl⟩:=Hg.mp hy;obtain⟨k,hk,ce,x1,x2⟩:=j7 hC2 j pc hpc;have x2G:=Iw (K:=K) (g1 _ _ x2);have egG:=g1 _ _ e2;refine⟨_,Iu,pc,_,_,_,Iu,Iu,x2G,Iu,_,Iu,pc,_,_,_,Iu,Iu,x2G,Iu,_,Iu,g,Iu,.inl ⟨kvs,.inl egG⟩,_,Iu,pc,_,_,_,Iu,Iu,x2G,Iu,_,Iu,pc,_,_,_,Iu,Iu,x2G,Iu,_,R9.k (k:=.inl k.c) egG,?_⟩;rw[hv,show((K8 ms k.c).map V.int).getD (V.int k.k)=V.int ((K8 ms k.c).getD k.k) by cases K8 ms k.c<;>rfl]
   refine⟨z_3,λt ht=>?_⟩
   obtain⟨G2,Ip,g2,et⟩:=Io ht (.tup [.int k.c,.ref ce,.int ((K8 ms k.c).getD k.k)]);rw[Ip];refine⟨g1.trans g2,⟨bs++[t],by rw[HE];rfl,?_⟩,_,Iu⟩
   unfold x9;rw[HA,hk,HE];exact Fr (m8.same (λb xs z=>g2 _ _ z) hb) ⟨ce,g2 _ _ (g1 _ _ x1),et⟩
  rintro acc σ G ⟨g1,⟨bs,rfl,hb⟩,v,rfl⟩ lb hlb
  rw[EV,la,HB] at hb;obtain⟨G2,Ip,g2,elb⟩:=Io hlb (.lst (bs.map V.ref));rw[Ip];have sG:=(s2.trans g1).trans g2;have hb2:=m8.same (λb xs z=>g2 _ _ z) hb;refine⟨_,Iu,_,Iu,a,lb,h,bs,x9 ks ms,Iu,i9.seqT sG hH,ok,Iv elb,hb2,hin',by unfold x9;rw[EV];exact h63,λG3 g3=>⟨_,Iu,?_⟩⟩
  refine B4 (λc1=>?_) (λc1=>?_)
  ·refine no (λz=>?_) _ (sG.trans g3)
   rw[aY z.2] at c1
   cases c1
  ·have gd:gh h ks ms:=⟨vd,jJ.mp (by simpa using c1)⟩
   exact⟨_,Iu,yes gd lb bs _ (sG.trans g3) (g3 _ _ elb) (m8.same (λb xs z=>g3 _ _ z) hb2)⟩
def kG (h:j8)(c:Int)(es:List Int)(k:Int):(o8 h c es k).Nodup:=by
 have go:∀(es:List Int)(acc:List (List Key)),acc.Nodup->(es.foldl (y6 h k) acc).Nodup:=λes=>by
  induction es with
  | nil=>exact λacc z=>z
  | cons e t ih =>
   intro acc z
   rw[foldl_cons];refine ih _ ?_;unfold y6
   split
   ·exact z
   ·rename_i hn
    rw[GR];refine⟨z,by simp,λx hx y hy e=>hn ?_⟩
    rw[Fx] at hy;rw[e,hy] at hx;exact bT.mpr hx
 exact go es _ (by simp)
def LF (h:j8)(k k':Call):Prop:=∀d∈o8 h k.c k.es k.k,¬d∈o8 h k'.c k'.es k'.k
def nM {k k':Call}:LF h k k'↔¬(k.k=k'.k/\wN h k k'):=by
 unfold LF
 constructor
 ·rintro z ⟨e,y|⟨e1,h1,h2⟩⟩
  ·exact z (nIn (k.c/h.c) k.k) (z7.mpr (.inl rfl)) (z7.mpr (.inl (by rw[y,e])))
  ·obtain⟨e2,h3,h4⟩:=GX.mp h2
   exact z (K7 (e1/h.e) k.k) (z7.mpr (.inr ⟨e1,h1,Iu⟩)) (z7.mpr (.inr ⟨e2,h3,by rw[<- e,h4]⟩))
 ·intro z d h1 h2
  rcases z7.mp h1 with rfl|⟨e,he,rfl⟩<;>rcases z7.mp h2 with q|⟨e',he',q⟩<;>simp only[nIn,K7,List.cons.injEq,Sum.inl.injEq,Sum.inr.injEq,and_true,true_and] at q
  ·exact z ⟨q.2,.inl q.1⟩
  ·exact absurd q.1 (by decide)
  ·exact absurd q.1 (by decide)
  ·exact z ⟨q.2,.inr ⟨e,he,GX.mpr ⟨e',he',q.1.symm⟩⟩⟩
def xh {ks:List Call}(lt:ks.Pairwise λk k'=>k.c<k'.c)(dj:ks.Pairwise λk k'=>∀e∈k.es,¬e∈k'.es)(ms:List Mv):(x9 ks ms).Pairwise (Fit h)↔(x9 ks ms).Pairwise (LF h):=by
 unfold x9;rw[Hw,Hw]
 constructor
 ·exact λz=>z.imp λq=>nM.mpr q.l
 ·intro z
  refine((lt.and dj).and z).imp λ{a b} q=>⟨q.1.1,λe h1 h2=>q.1.2 e h1 h2,nM.mp q.2⟩
def gZ (K:Frag):Sp:=λvs H Q _=>∃(a l:Addr)(h:j8)(as:List Addr)(ks:List Call),vs=[.ref a,.ref l]/\SqT K H a (h.row.map V.int)/\h.Ok/\H l=some (.lst (as.map V.ref))/\m8 H as ks/\(∀k∈ks,k.In h)/\ks.length<=63 /\
 ∀H',i9 H H'->Q (.bl (dB (ks.Pairwise (LF h)))) H'
def O9:FnScope ["_law_hall_here","_law_calls_here","_law_taken","_law_call","_law_line"] ["_law_hall_here","_law_calls_here"] (i4 (top 65)):=mkF
def mW {P:Program}{w:World}{base:Heap}(T:Txt K mg)(zQ:i6 P w K mg base 1 "_law_lines" p_3 (W1 K))(D:Def K mg "_law_right" (top 65) p_9):i6 P w K mg base 2 "_law_right" p_9 (gZ K):=by
 refine D.ok O9 (λ_ _ _ _ h=>?_) (λ_ _ _ _ _ H _ Q E hr h=>?_)
 ·obtain⟨a,l,h,as,ks,rfl,_⟩:=h
  rfl
 obtain⟨a,l,h,as,ks,rfl,hH,ok,el,hC,hin,h63,q⟩:=h;have la:=d_ hC
 refine⟨_,(d9 (j4 (i:=2) O9.nd Iu Ix fZ)
  (d9 (w5 HI rfl (m7 K (pv 1)) (l8 (i:=3) O9.nd Iu Ix)
  (d9 (n6 (F0 (ui jM qb h7 (i8 (i5 K) (pv 3) h7) (i8 (i5 K) (pv 0) h7))) (h9 (j5 F2)) l7)
  (h9 (w5 HI rfl (m7 K (l9 zQ hr Iu (a8 (pv 0) (a8 (i8 (i5 K) (pv 3) h7) (a8 (i8 (i5 K) (pv 3) h7) (a8 (i8 (i5 K) (pv 3) h7) c7 m5) m5) m5) a9))) (l8 (i:=4) O9.nd Iu Ix)
  (d9 (n6 (bg (fC (Q4 hr) (pv 4) (pv 2))) (h9 (j5 F2)) l7)
  (h9 (bx (Q4 hr) (pv 2) (pv 4) F2 rfl)))))))
  (h9 (j5 F2)))),?_⟩
 refine λt ht=>?_;obtain⟨H1,Ip,s1,et⟩:=Io ht (.dT []);rw[Ip];refine⟨_,Iu,l,Iu,⟨_,Iv (s1 _ _ el)⟩,?_⟩
 refine o9 (xs:=as.map V.ref) (λi σ H'=>i9 H H'/\(ks.take i).Pairwise (LF h)/\(∃kvs,H' t=some (.dT kvs)/\kvs.length<=13*i/\∀d,(A8 kvs d).isSome=true↔∃k∈ks.take i,d∈o8 h k.c k.es k.k)/\∃v3 v4,σ=[Iq a,Iq l,Iq t,v3,v4])
  ⟨s1,.nil,⟨[],et,Eo _,λd=>⟨λz=>(nomatch z),λ⟨_,z,_⟩=>(nomatch z)⟩⟩,_,_,Iu⟩ (λi σ H' _ g=>Iv (g.1 _ _ el)) ?_ ?_
 ·rintro i x σ H' hx ⟨s5,pw,⟨kvs,et5,hkl,tk⟩,v3,v4,rfl⟩
  rw[ER] at hx;obtain⟨pc,hp,rfl⟩:=Hg.mp hx;obtain⟨k,hk1,ce,e1,e2⟩:=j7 hC i pc hp
  have hi63:i<63:=by
   have:=(s_.mp hk1).1
   lia
  have hkI:=hin k (ET hk1);have kf:=hkI.few;have kk:=hkI.k;have tkk:ks.take (i+1)=ks.take i++[k]:=by rw[HA,hk1];rfl
  have e25:=s5 _ _ e2;refine⟨_,Iu,pc,_,_,_,Iu,Iu,Iw e25,Iu,_,_,Iu,Iu,_,Iu,xy (Fm kk.1) ?_⟩;refine⟨_,Iu,a,_,_,_,Iu,Iu,i9.seqT s5 hH,Iu,_,_,Iu,Iu,_,Iu,ou (by rw[Fm (show k.k<h.m from kk.2)];simp) ?_⟩
  refine⟨_,Iu,_,Iu,pc,_,_,_,Iu,Iu,Iw e25,Iu,_,Iu,pc,_,_,_,Iu,Iu,Iw e25,Iu,_,Iu,pc,_,_,_,Iu,Iu,Iw e25,Iu,a,ce,h,k.c,k.k,k.es,Iu,i9.seqT s5 hH,ok,.inl (Iw (s5 _ _ e1)),kf,λnl nas H6 s6 hnl enl tnl=>?_⟩;have et6:=s6 _ _ et5;have hnt:nl≠t:=λz=>by rw[z,et5] at hnl;cases hnl
  have lnl:=d_ tnl;have ll:=O7 h k.c k.es k.k;have nd:=kG h k.c k.es k.k;refine⟨nl,Iu,⟨_,Iv enl⟩,?_⟩
  refine o9 (xs:=nas.map V.ref) (λj σ H'=>pV t H6 H'/\(∀d∈(o8 h k.c k.es k.k).take j,∀k'∈ks.take i,¬d∈o8 h k'.c k'.es k'.k)/\(∃kvs',H' t=some (.dT kvs')/\kvs'.length<=kvs.length+j/\(∀d,(A8 kvs' d).isSome=true↔(∃k∈ks.take i,d∈o8 h k.c k.es k.k)\/d∈(o8 h k.c k.es k.k).take j))/\∃v4,σ=[Iq a,Iq l,Iq t,Iq pc,v4])
   ⟨λ_ _ _ z=>z,(λd z=>by simp at z),⟨kvs,et6,Eo _,λd=>by rw[tk];simp⟩,_,Iu⟩ (λj σ H' _ g=>Iv (g.1 _ _ hnt enl)) ?_ ?_
  ·rintro j y σ H7 hy ⟨t1',fr',⟨kvs',t2',t7,t9⟩,v4,rfl⟩
   rw[ER] at hy;obtain⟨x,hx,rfl⟩:=Hg.mp hy;obtain⟨d,hd1,hd2⟩:=j7 tnl j x hx
   replace hd2:H6 x=some (.tup (d.map kV)):=hd2
   have hj:j<13:=by
    have:=(s_.mp hd1).1
    lia
   have hxt:x≠t:=λz=>by rw[z,et6] at hd2;cases hd2
   have hd7:=t1' _ _ hxt hd2
   have ndj:¬d∈(o8 h k.c k.es k.k).take j:=λz=>by
    obtain⟨m,hm⟩:=HX.mp z
    have hmj:m<j:=by
     have:=(s_.mp hm).1
     rw[EM] at this;lia
    rw[List.getElem?_take_of_lt hmj] at hm;obtain⟨q1,z1⟩:=s_.mp hm;obtain⟨q2,z2⟩:=s_.mp hd1;exact(FR.mp nd) m j q1 q2 hmj (by rw[z1,z2])
   refine⟨_,Iu,_,Iu,t,_,Iu,R9.t t2' hd7,_,Iu,?_⟩;refine B4 (λc1=>?_) (λc1=>?_)
   ·have:∃k'∈ks.take i,d∈o8 h k'.c k'.es k'.k:=by
     rcases(t9 d).mp c1 with z|z
     ·exact z
     ·exact absurd z ndj
    obtain⟨k',hk',hd'⟩:=this
    have npw:¬ks.Pairwise (LF h):=λz=>by
     have z2:=z.sublist (ES (i+1) ks);rw[tkk,FW] at z2;exact z2.2.2 k' hk' k (Fx.mpr rfl) d hd' (ET hd1)
    rw[lK npw] at q;exact q _ λb u z=>t1' b u (n5 z ht) (s6 _ _ (s5 _ _ z))
   ·refine⟨_,Iu,_,Iu,t,_,Iu,gm.t t2' hd7 (by show kvs'.length<16777216;lia),?_⟩
    refine⟨λb u hb z=>by rw[j9 hb];exact t1' b u hb z,λd' hd' k' hk' hm=>?_,⟨_,c9,?_,λd'=>?_⟩,_,Iu⟩
    ·rw[HA,hd1] at hd'
     rcases q_.mp hd' with z|z
     ·exact fr' d' z k' hk' hm
     ·have z':d'=d:=by simpa using z
      rw[z'] at hm;exact c1 ((t9 d).mpr (.inl ⟨k',hk',hm⟩))
    ·have:=J4 kvs' d (.bl true)
     lia
    ·rw[U5,HA,hd1,q_]
     by_cases c:d'=d
     ·rw[Ik c]
      simp[c]
     ·rw[Il c,t9]
      simp[c]
  ·rintro σ H7 ⟨t1',fr',⟨kvs',t2',t7,t9⟩,v4,rfl⟩
   rw[EV,lnl] at t7 t9 fr';rw[HB] at t9 fr';refine⟨λb u z=>t1' b u (n5 z ht) (s6 _ _ (s5 _ _ z)),?_,⟨kvs',t2',by lia,λd=>?_⟩,_,_,Iu⟩
   ·rw[tkk,FW]
    refine⟨pw,HU _ _,λk' hk' k'' hk'' d h1 h2=>?_⟩;rw[Fx.mp hk''] at h2;exact fr' d h2 k' hk' h1
   ·rw[t9,tkk]
    constructor
    ·rintro(⟨k1,g1,g2⟩|g)
     ·exact⟨k1,r_ _ g1,g2⟩
     ·exact⟨k,Es _ (Fx.mpr rfl),g⟩
    ·rintro⟨k1,g1,g2⟩
     rcases q_.mp g1 with g|g
     ·exact .inl ⟨k1,g,g2⟩
     ·rw[Fx.mp g] at g2
      exact .inr g2
 ·rintro σ H5 ⟨s5,pw,_,v3,v4,rfl⟩
  rw[EV,la,HB] at pw;rw[aY pw] at q;exact q H5 s5
def vc {x p q:Nat}(h:x.testBit p=false):(x+2^p).testBit q=if q=p then true else x.testBit q:=by
 by_cases hq:q=p
 ·subst hq
  rw[Ik rfl,Nat.add_comm,Nat.testBit_two_pow_add_eq,h];rfl
 ·rw[Il hq]
  rcases Nat.lt_or_gt_of_ne hq with hlt|hgt
  ·rw[Nat.add_comm,Nat.testBit_two_pow_add_gt hlt]
  ·have e:(x+2^p)/2^(p+1)=x/2^(p+1):=by
    rw[Hi,<- Hl,<- Hl,Nat.add_div_right x (Nat.two_pow_pos p)];rw[Ib] at h;have h':¬x/2^p%2=1:=HG h;lia
   have hk:q=(p+1)+(q-(p+1)):=by lia
   rw[Ib,Ib,hk,Nat.pow_add,<- Hl,<- Hl,e]
def S4 (ps:List Nat):Nat:=(ps.map λp=>2^p).sum
def sL:S4 []=0:=rfl
def qC (ps:List Nat)(p:Nat):S4 (ps++[p])=S4 ps+2^p:=by
 unfold S4;rw[HE,List.sum_append]
 simp
def qJ (ps:List Nat)(p:Nat):S4 (p::ps)=2^p+S4 ps:=by
 unfold S4;rw[EX,List.sum_cons]
theorem fq:∀(ps:List Nat),ps.Nodup->∀q,(S4 ps).testBit q=decide (q∈ps)
 | [],_,q=>by rw[sL,Nat.zero_testBit];simp
 | p::ps,h,q=>by
  have hn:=EL.mp h;have ih:=fq ps hn.2;rw[qJ,Nat.add_comm,vc (by rw[ih p];exact b_ hn.1),ih q]
  by_cases e:q=p
  ·subst e;simp
  ·simp[e]
def xD {b p:Nat}(h:b.testBit p=false):Builtin.bitOr (b:Int) (1*2^((p:Int)).toNat)=((b+2^p:Nat):Int):=by
 have e1:(1*2^((p:Int)).toNat:Int)=((2^p:Nat):Int):=by
  rw[Int.one_mul,EW];exact(Int.natCast_pow 2 p).symm
 have e2:b &&& 2^p=0:=by
  refine Nat.eq_of_testBit_eq λi=>?_;rw[Nat.testBit_and,Nat.testBit_two_pow,Nat.zero_testBit]
  by_cases hi:p=i
  ·subst hi;rw[h];rfl
  ·simp[hi]
 rw[e1,bitOr_and,bitAnd_pp (Eu _) (Eu _),EW,EW,e2]
 simp
def V0 (p:Call->Nat->Bool)(ks:List Call)(r:Nat):List Nat:=(ks.filter λk=>p k r).map λk=>k.k.toNat
def pIn (h:j8)(k:Call)(r:Nat):Bool:=decide (k.c/h.c=(r:Int))
def M8 (h:j8)(k:Call)(r:Nat):Bool:=decide ((r:Int)∈i7 h k.es)
def av (p:Call->Nat->Bool)(ks:List Call)(k:Call)(r:Nat):V0 p (ks++[k]) r=V0 p ks r++(if p k r=true then [k.k.toNat] else []):=by
 unfold V0;rw[HR,HE]
 by_cases c:p k r=true
 ·rw[Ik c]
  simp[c]
 ·rw[Il c]
  simp[c]
def uB (p:Call->Nat->Bool)(k k':Call):Prop:=∀r,p k r=true->p k' r=true->k.k≠k'.k
def U9 (r:Nat):∀{ks:List Call},ks.Pairwise (uB p)->(∀k∈ks,k.In h)->(V0 p ks r).Nodup:=λ{ks} hp hi=>by
 unfold V0 List.Nodup;rw[Hw,List.pairwise_filter];refine Hy ?_ hp
 intro a b ha hb hab pa pb e
 have h1:=(hi a ha).k;have h2:=(hi b hb).k;exact hab r pa pb (by lia)
def kz {k k':Call}(f:D7 h k k'):uB (pIn h) k k':=λr h1 h2 e=>by
 have h1':k.c/h.c=(r:Int):=GT h1;have h2':k'.c/h.c=(r:Int):=GT h2;exact f (nIn (k.c/h.c) k.k) (A1.mpr (.inl rfl)) (A1.mpr (.inl (by rw[h1',h2',e])))
def gY {k k':Call}(f:D7 h k k'):uB (M8 h) k k':=λr h1 h2 e=>by
 obtain⟨x,hx,q1⟩:=x6.mp (GT h1);obtain⟨y,hy,q2⟩:=x6.mp (GT h2);exact f (K7 (x/h.e) k.k) (A1.mpr (.inr (.inl ⟨x,hx,Iu⟩))) (A1.mpr (.inr (.inl ⟨y,hy,by rw[q1,q2,e]⟩)))
def pU {row:List Nat}{k:Int}(h:(row++[k.toNat]).Nodup)(hk:0<=k):Builtin.bitOr ((S4 row:Nat):Int) (1*2^k.toNat)=((S4 (row++[k.toNat]):Nat):Int):=by
 have nd:=GR.mp h
 have b:(S4 row).testBit k.toNat=false:=by
  rw[fq row nd.1];exact b_ λz=>nd.2.2 _ z _ (Fx.mpr rfl) rfl
 have:=xD b
 rw[EW] at this;rw[this,qC]
def gU {n j:Nat}:((List.range n).map f).set j v=(List.range n).map λr=>if r=j then v else f r:=by
 apply GS
 intro i
 rw[List.getElem?_set,ER,ER]
 by_cases hi:i<n
 ·rw[I_ hi]
  by_cases c:j=i
  ·subst c
   simp[hi]
  ·rw[Il c]
   simp[show ¬i=j from λz=>c z.symm]
 ·rw[Go (by simpa using hi)]
  by_cases c:j=i
  ·subst c
   simp[hi]
  ·rw[Il c]
   rfl
def K2 (p:Call->Nat->Bool)(ks:List Call)(n:Nat):List V:=(List.range n).map λr=>V.int ((S4 (V0 p ks r):Nat):Int)
def ip {n r:Nat}(h:r<n):(K2 p ks n)[r]? = some (V.int ((S4 (V0 p ks r):Nat):Int)):=by
 unfold K2;rw[ER,I_ h];rfl
def mV {n:Nat}:(K2 p ks n).length=n:=by simp[K2]
def mU {n:Nat}{i:Int}(h0:0<=i)(h1:i<n):ixN n i=some i.toNat:=by
 unfold ixN;rw[Ik h0,Ik h1]
def iX (K:Frag)(p:j8->Call->Nat->Bool)(n:j8->Int):Sp:=λvs H Q _=>∃(a b:Addr)(h:j8)(as:List Addr)(ks:List Call),vs=[.ref a,.ref b]/\SqT K H a (h.row.map V.int)/\h.Ok/\SqL K H b (as.map V.ref)/\m8 H as ks/\(∀k∈ks,k.In h)/\ks.Pairwise (D7 h)/\ks.length<=63 /\
 ∀(l:Addr)(H':Hp),i9 H H'->H l=none->H' l=some (.lst (K2 (p h) ks (n h).toNat))->Q (.ref l) H'
def aV:FnScope ["hall","calls","found","call"] ["hall","calls"] (i4 (top 20)):=mkF
def mH {P:Program}{w:World}{base:Heap}(T:Txt K mg)(zX:i6 P w K mg base 1 "place_in" p_31 (R8 K j8.c))(D:Def K mg "in_bits" (top 20) p_26):i6 P w K mg base 2 "in_bits" p_26 (iX K pIn j8.i):=by
 refine D.ok aV (λ_ _ _ _ h=>?_) (λ_ _ _ _ _ H _ Q E hr h=>?_)
 ·obtain⟨a,b,h,as,ks,rfl,_⟩:=h
  rfl
 obtain⟨a,b,h,as,ks,rfl,hH,ok,hB,hC,hin,hfr,h63,q⟩:=h;have o1:=ok.i;have o2:=ok.c;have o3:=ok.m
 refine⟨_,(d9 (j4 (i:=2) aV.nd Iu Ix (l6 sQ (r6 (a8 h7 c7 m9)) (i8 (i5 K) (pv 0) h7)))
  (d9 (w5 HI rfl (m7 K (pv 1)) (l8 (i:=3) aV.nd Iu Ix)
  (h9 (ql (pv 2) (i8 (i5 K) (l9 zX hr Iu (a8 (pv 0) (a8 (i8 (i5 K) (pv 3) h7) c7 m5) a9)) h7) (iN K) (l6 mK h7 (i8 (i5 K) (pv 3) h7)) uN gc)))
  (h9 (j5 (pv 2))))),?_⟩
 refine⟨z_1,λl0 hl0=>?_⟩
 obtain⟨H0,Ip,s0,e0⟩:=Io hl0 (.lst [.int 0]);rw[Ip];refine⟨_,Iu,a,_,_,_,Iu,Iu,i9.seqT s0 hH,Iu,l0,h.i,_,Iu,Iu,e0,by lia,by lia,l_ (k9 (by show 1*h.i.toNat<=1000;lia)),λl hl=>?_⟩
 have start:(List.replicate h.i.toNat [V.int 0]).flatten=K2 (pIn h) (ks.take 0) h.i.toNat:=by
  rw[HY];unfold K2;generalize h.i.toNat=n
  induction n with
  | zero=>rfl
  | succ n ih =>
   rw[Hz,HE,List.replicate_succ',List.flatten_append,ih];rfl
 rw[start];have hlH:H l=none:=s0.free hl;refine⟨_,Iu,b,Iu,⟨_,(s0.trans (g9 hl _)).seq hB⟩,?_⟩;refine o9 (xs:=as.map V.ref) (λi σ H'=>i9 H H'/\H' l=some (.lst (K2 (pIn h) (ks.take i) h.i.toNat))/\∃v3,σ=[Iq a,Iq b,Iq l,v3]) ⟨s0.trans (g9 hl _),c9,none,Iu⟩ (λi σ H' _ g=>g.1.seq hB) ?_ ?_
 ·rintro i x σ H' hx ⟨s1,e1,v3,rfl⟩
  rw[ER] at hx;obtain⟨p,hp,rfl⟩:=Hg.mp hx;obtain⟨k,hk,e,ee,ep⟩:=j7 hC i p hp;have hkI:=hin k (ET hk);have ep1:=s1 _ _ ep;have k1:=hkI.c;have k2:=hkI.k;have r0:0<=k.c/h.c:=Ic k1.1 (by lia)
  have r1:k.c/h.c<h.i:=Ie (by lia) k1.2
  refine⟨_,Iu,_,Iu,_,Iu,p,_,_,_,Iu,Iu,Iw ep1,Iu,a,h,k.c,Iu,i9.seqT s1 hH,ok,λg hg=>?_⟩;obtain⟨H2,Ip,s2,eg⟩:=Io hg (.tup [.int (k.c/h.c),.int (k.c%h.c)]);rw[Ip];have e2:=s2 _ _ e1;refine⟨g,_,_,_,Iu,Iu,Iw eg,Iu,l,_,k.c/h.c,_,Iu,Iu,Iv e2,r0,ip (by lia),?_⟩
  refine⟨_,Iu,p,_,_,_,Iu,Iu,Iw (s2 _ _ ep1),Iu,_,_,Iu,Iu,⟨by lia,by lia,by decide⟩,_,_,Iu,Iu,l,_,k.c/h.c,_,Iu,Iu,e2,mU r0 (by rw[mV];lia),?_⟩
  refine⟨i9.put (s1.trans s2) hlH,?_,_,Iu⟩;rw[c9]
  congr 2
  have tk:ks.take (i+1)=ks.take i++[k]:=by rw[HA,hk];rfl
  have nd:=U9 (p:=pIn h) (h:=h) (k.c/h.c).toNat (ks:=ks.take (i+1)) ((hfr.imp λq=>kz q).sublist (ES _ _)) λk' hk'=>hin k' (List.mem_of_mem_take hk');rw[tk,av,Ik (show pIn h k (k.c/h.c).toNat=true from Fm (by lia))] at nd
  dsimp only
  rw[pU nd k2.1];unfold K2;rw[gU];refine GW λr hr=>?_;rw[tk,av]
  by_cases c:r=(k.c/h.c).toNat
  ·subst c
   rw[Ik rfl,Ik (show pIn h k (k.c/h.c).toNat=true from Fm (by lia))]
  ·rw[Il c,Il (show ¬pIn h k r=true from λz=>c (by have:k.c/h.c=(r:Int):=GT z;lia)),EH]
 ·rintro σ H' ⟨s1,e1,v3,rfl⟩
  have hl2:ks.take (as.map V.ref).length=ks:=by rw[EV,d_ hC,HB]
  rw[hl2] at e1;exact⟨_,Iu,q l H' s1 hlH e1⟩
def cZ (h:j8)(ks:List Call)(k:Call)(rs:List Int)(n:Nat):List V:=(List.range n).map λr=>V.int ((S4 (V0 (M8 h) ks r++(if (r:Int)∈rs then [k.k.toNat] else [])):Nat):Int)
def S9:FnScope ["hall","calls","found","call","rack"] ["hall","calls"] (i4 (top 21)):=mkF
def lU {P:Program}{w:World}{base:Heap}(T:Txt K mg)(zV:i6 P w K mg base 2 "racks_of" p_24 (T0 K))(D:Def K mg "out_bits" (top 21) p_26):i6 P w K mg base 3 "out_bits" p_26 (iX K M8 j8.o):=by
 refine D.ok S9 (λ_ _ _ _ h=>?_) (λ_ _ _ _ _ H _ Q E hr h=>?_)
 ·obtain⟨a,b,h,as,ks,rfl,_⟩:=h
  rfl
 obtain⟨a,b,h,as,ks,rfl,hH,ok,hB,hC,hin,hfr,h63,q⟩:=h;have o1:=ok.o;have o2:=ok.e;have o3:=ok.m
 refine⟨_,(d9 (j4 (i:=2) S9.nd Iu Ix (l6 sQ (r6 (a8 h7 c7 m9)) (i8 (i5 K) (pv 0) h7)))
  (d9 (w5 HI rfl (m7 K (pv 1)) (l8 (i:=3) S9.nd Iu Ix)
  (h9 (w5 HI rfl (m7 K (l9 zV hr Iu (a8 (pv 0) (a8 (i8 (i5 K) (pv 3) h7) c7 m5) a9))) (l8 (i:=4) S9.nd Iu Ix)
  (h9 (ql (pv 2) (pv 4) (iN K) (l6 mK h7 (i8 (i5 K) (pv 3) h7)) uN gc)))))
  (h9 (j5 (pv 2))))),?_⟩
 refine⟨z_1,λl0 hl0=>?_⟩
 obtain⟨H0,Ip,s0,e0⟩:=Io hl0 (.lst [.int 0]);rw[Ip];refine⟨_,Iu,a,_,_,_,Iu,Iu,i9.seqT s0 hH,Iu,l0,h.o,_,Iu,Iu,e0,by lia,by lia,l_ (k9 (by show 1*h.o.toNat<=1000;lia)),λl hl=>?_⟩
 have start:(List.replicate h.o.toNat [V.int 0]).flatten=K2 (M8 h) (ks.take 0) h.o.toNat:=by
  rw[HY];unfold K2;generalize h.o.toNat=n
  induction n with
  | zero=>rfl
  | succ n ih =>
   rw[Hz,HE,List.replicate_succ',List.flatten_append,ih];rfl
 rw[start];have hlH:H l=none:=s0.free hl;refine⟨_,Iu,b,Iu,⟨_,(s0.trans (g9 hl _)).seq hB⟩,?_⟩;refine o9 (xs:=as.map V.ref) (λi σ H'=>i9 H H'/\H' l=some (.lst (K2 (M8 h) (ks.take i) h.o.toNat))/\∃v3 v4,σ=[Iq a,Iq b,Iq l,v3,v4]) ⟨s0.trans (g9 hl _),c9,none,none,Iu⟩ (λi σ H' _ g=>g.1.seq hB) ?_ ?_
 ·rintro i x σ H' hx ⟨s1,e1,v3,v4,rfl⟩
  rw[ER] at hx;obtain⟨p,hp,rfl⟩:=Hg.mp hx;obtain⟨k,hk,e,ee,ep⟩:=j7 hC i p hp;have hkI:=hin k (ET hk);have k2:=hkI.k;have few:=hkI.few;have tk:ks.take (i+1)=ks.take i++[k]:=by rw[HA,hk];rfl
  refine⟨_,Iu,_,Iu,p,_,_,_,Iu,Iu,Iw (s1 _ _ ep),Iu,a,e,h,k.es,Iu,i9.seqT s1 hH,ok,.inl (Iw (s1 _ _ ee)),by lia,λrl H2 s2 hrl er=>?_⟩
  refine⟨rl,Iu,⟨_,Iv er⟩,?_⟩;have hne:rl≠l:=λz=>by rw[z,e1] at hrl;cases hrl
  have mid0:K2 (M8 h) (ks.take i) h.o.toNat=cZ h (ks.take i) k ((i7 h k.es).take 0) h.o.toNat:=by
   unfold K2 cZ;refine GW λr hr=>?_;rw[HY,Il (by simp),EH]
  have e2:=s2 _ _ e1;rw[mid0] at e2;refine o9 (xs:=(i7 h k.es).map V.int) (λj σ H''=>i9 H H''/\H'' rl=some (.lst ((i7 h k.es).map V.int))/\H'' l=some (.lst (cZ h (ks.take i) k ((i7 h k.es).take j) h.o.toNat))/\∃v4,σ=[Iq a,Iq b,Iq l,Iq p,v4]) ⟨s1.trans s2,er,e2,_,Iu⟩ (λj σ H'' _ g=>Iv g.2.1) ?_ ?_
  ·rintro j x σ H'' hx ⟨s3,er3,e3,v4,rfl⟩
   rw[ER] at hx;obtain⟨r,hr2,rfl⟩:=Hg.mp hx;have hrm:r∈i7 h k.es:=ET hr2;obtain⟨y,hy,hyr⟩:=x6.mp hrm;have hye:=hkI.es y hy;have r0:0<=r:=by rw[<- hyr];exact Ic hye.1 (by lia)
   have r1:r<h.o:=by rw[<- hyr];exact Ie (by lia) hye.2
   have hrt:((r.toNat:Nat):Int)=r:=by lia
   have hnot:¬r∈(i7 h k.es).take j:=λz=>by
    have nd:=B6 (E1 (k.es.map λe=>e/h.e));have e4:(i7 h k.es).take (j+1)=(i7 h k.es).take j++[r]:=by rw[HA,hr2];rfl
    have nd2:((i7 h k.es).take (j+1)).Nodup:=nd.sublist (ES _ _);rw[e4] at nd2;exact(GR.mp nd2).2.2 r z r (Fx.mpr rfl) rfl
   have at1:(cZ h (ks.take i) k ((i7 h k.es).take j) h.o.toNat)[r.toNat]? = some (V.int ((S4 (V0 (M8 h) (ks.take i) r.toNat):Nat):Int)):=by
    unfold cZ;rw[ER,I_ (by lia),Fq,hrt,Il hnot,EH]
   refine⟨_,Iu,_,Iu,l,_,r,_,Iu,Iu,Iv e3,r0,at1,?_⟩;refine⟨_,Iu,p,_,_,_,Iu,Iu,Iw (s3 _ _ ep),Iu,_,_,Iu,Iu,⟨by lia,by lia,by decide⟩,_,_,Iu,Iu,l,_,r,_,Iu,Iu,e3,mU r0 (by unfold cZ;rw[EV,Hx];lia),?_⟩
   refine⟨i9.put s3 hlH,by rw[j9 hne];exact er3,?_,_,Iu⟩
   rw[c9]
   congr 2
   have pk:M8 h k r.toNat=true:=Fm (by rw[hrt];exact hrm)
   have nd:=U9 (p:=M8 h) (h:=h) r.toNat (ks:=ks.take (i+1)) ((hfr.imp λq=>gY q).sublist (ES _ _)) λk' hk'=>hin k' (List.mem_of_mem_take hk');rw[tk,av,Ik pk] at nd
   dsimp only
   rw[pU nd k2.1];unfold cZ;rw[gU];refine GW λm hm=>?_;have e4:(i7 h k.es).take (j+1)=(i7 h k.es).take j++[r]:=by rw[HA,hr2];rfl
   rw[e4]
   by_cases c:m=r.toNat
   ·subst c
    rw[Ik rfl,hrt,Ik (Es _ (Fx.mpr rfl))]
   ·rw[Il c]
    have:((m:Int)∈(i7 h k.es).take j++[r])↔(m:Int)∈(i7 h k.es).take j:=by
     rw[q_,Fx]
     constructor
     ·rintro(z|z)
      ·exact z
      ·exact absurd (show m=r.toNat by lia) c
     ·exact .inl
    by_cases d:(m:Int)∈(i7 h k.es).take j
    ·rw[Ik d,Ik (this.mpr d)]
    ·rw[Il d,Il (λz=>d (this.mp z))]
  ·rintro σ H'' ⟨s3,er3,e3,v4,rfl⟩
   refine⟨s3,?_,_,_,Iu⟩;rw[e3,EV,HB,tk]
   congr 2
   unfold cZ K2;refine GW λm hm=>?_;rw[av]
   by_cases d:(m:Int)∈i7 h k.es
   ·rw[Ik d,Ik (show M8 h k m=true from Fm d)]
   ·rw[Il d,Il (show ¬M8 h k m=true from λz=>d (GT z))]
 ·rintro σ H' ⟨s1,e1,v3,v4,rfl⟩
  have hl2:ks.take (as.map V.ref).length=ks:=by rw[EV,d_ hC,HB]
  rw[hl2] at e1;exact⟨_,Iu,q l H' s1 hlH e1⟩
def pf (K:Frag):Sp:=λvs H Q _=>∃(rl:Addr)(rs:List Nat)(b:Int),vs=[.ref rl,.int b]/\SqL K H rl (t6 rs)/\rs.length<=64/\∀l,H l=none->Q (.ref l) (upd H l (.lst (t6 (rs.filter (r9 b)))))
def gK:FnScope ["racks","bits"] ["racks","bits"] (i4 (top 50)):=mkF
def vD (T:Txt K mg)(D:Def K mg "idle_racks" (top 50) p_54):i6 P w K mg base 1 "idle_racks" p_54 (pf K):=by
 refine D.ok gK (λ_ _ _ _ h=>?_) (λ_ _ _ _ _ H _ Q E hr h=>?_)
 ·obtain⟨rl,rs,b,rfl,_⟩:=h
  rfl
 obtain⟨rl,rs,b,rfl,hR,few,q⟩:=h;have ln:(t6 rs).length=rs.length:=EV _;refine⟨_,(h9 (j5 (B3 (own:=["k"]) (fr:=[(1,"bits")]) rfl (mkC ["racks","bits"] (i4 (top 50))) (m7 K (pv 0)) (λcl C s H ex=>⟨(l8 (i:=0) (show(["k","bits"]:List Str).Nodup from by decide +kernel) Iu Ix Iy),(K1 (k8 E4 (l6 eQ (l6 fe (pv 1) (pv 0)) h7) h7 (m6 _))),(pv 0)⟩)))),?_⟩
 refine⟨_,Iu,rl,Iu,⟨_,hR⟩,?_⟩
 refine A2 (xs:=t6 rs) (λi acc σ H'=>H'=H/\acc=t6 ((rs.take i).filter (r9 b))/\∃v,σ=[v,Ir b])
  ⟨Iu,Iu,none,Iu⟩ (l_ (k9 (by rw[ln];lia))) (λi acc σ H' g=>?_) (λi acc σ H' _ g=>by rw[g.1];exact hR) ?_ ?_
 ·obtain⟨_,rfl,_⟩:=g
  unfold t6;rw[EV];exact k_ (HQ _ _) (by rw[EM];lia)
 ·rintro i y acc σ H' hy ⟨rfl,rfl,v,rfl⟩
  unfold t6 at hy;rw[ER] at hy;obtain⟨k,hk,rfl⟩:=Hg.mp hy
  have step:t6 ((rs.take (i+1)).filter (r9 b))=t6 ((rs.take i).filter (r9 b))++(if r9 b k=true then [V.int (k:Int)] else []):=by
   unfold t6;rw[HA,hk,HR,HE]
   by_cases c:r9 b k=true
   ·rw[Ik c]
    simp[c]
   ·rw[Il c]
    simp[c]
  refine⟨_,Iu,_,Iu,_,_,Iu,Iu,by lia,_,_,Iu,Iu,Iu,_,Iu,?_⟩
  refine B4 (λc=>?_) (λc=>?_)
  ·have c':r9 b k=true:=by
    unfold r9
    simpa using c
   refine⟨_,Iu,Iu,?_,_,Iu⟩;rw[step,Ik c']
  ·have c':¬r9 b k=true:=by
    unfold r9
    simpa using c
   refine⟨Iu,?_,_,Iu⟩;rw[step,Il c',EH]
 ·rintro acc σ H' ⟨rfl,rfl,v,rfl⟩ l hl
  rw[ln,HB];exact q l hl
def uC (b k:Nat):r9 (b:Int) k = !b.testBit k:=by
 unfold r9
 have e1:((b:Int)/2^k)=((b/2^k:Nat):Int):=by
  rw[Int.natCast_ediv,Int.natCast_pow];rfl
 rw[e1,bitAnd_pp (Eu _) (by decide),EW,show((1:Int)).toNat=1 from rfl,Nat.and_one_is_mod,Ib]
 by_cases z:b/2^k%2=1
 ·rw[z];rfl
 ·have:b/2^k%2=0:=by lia
  rw[this];rfl
def qP {c:Int}{k:Int}(hd:d∈o8 h c es k):∃s r,d=T7 s r k:=by
 rcases z7.mp hd with rfl|⟨e,_,rfl⟩
 ·exact⟨false,_,Iu⟩
 ·exact⟨true,_,Iu⟩
def E6 (h:j8)(ks:List Call)(sh:Int)(p:j8->Call->Nat->Bool)(r:Int):List Nat:=(o4 h sh).filter (r9 ((S4 (V0 (p h) ks r.toNat):Nat):Int))
def oS {n:Nat}{r:Int}(h0:0<=r)(h:r<n):atI (K2 p ks n) r=some (.int ((S4 (V0 p ks r.toNat):Nat):Int)):=by
 obtain⟨j,rfl⟩:=Int.eq_ofNat_of_zero_le h0;exact C4 (ip (by lia))
def fE {sh:Int}(sd:Bool){r:Int}(hin:∀k∈ks,k.In h)(fr:ks.Pairwise (D7 h))(h0:0<=r){k:Nat} :
  k∈E6 h ks sh (if sd then M8 else pIn) r↔k∈o4 h sh/\∀y∈ks,z9 h sd r (k:Int) y=false:=by
 have nd:(V0 ((if sd then M8 else pIn) h) ks r.toNat).Nodup:=by
  cases sd
  ·exact U9 _ (fr.imp λz=>kz z) hin
  ·exact U9 _ (fr.imp λz=>gY z) hin
 unfold E6;rw[i_,uC,fq _ nd];refine and_congr_right λ_=>?_;rw[Bool.not_eq_true',decide_eq_false_iff_not];unfold V0;rw[GX]
 have pe:∀y,(if sd then M8 else pIn) h y r.toNat=true↔(if sd then decide (r∈i7 h y.es) else decide (y.c/h.c=r))=true:=λy=>by
  cases sd
  ·show decide (y.c/h.c=((r.toNat:Nat):Int))=true↔_
   rw[Int.toNat_of_nonneg h0];exact Iff.rfl
  ·show decide (((r.toNat:Nat):Int)∈i7 h y.es)=true↔_
   rw[Int.toNat_of_nonneg h0];exact Iff.rfl
 constructor
 ·intro z y hy
  rw[Gq]
  intro w
  unfold z9 at w;rw[Fd,FJ] at w;exact z ⟨y,i_.mpr ⟨hy,(pe y).mpr w.2⟩,by rw[w.1];rfl⟩
 ·rintro z ⟨y,hy,e⟩
  obtain⟨h1,h2⟩:=i_.mp hy
  have:=z y h1
  have k0:=(hin y h1).k;have e':y.k=(k:Int):=by lia
  unfold z9 at this;rw[Fm e',HC,(pe y).mp h2] at this
  cases this
def exM (a b:Int)(k:Call):Mv:=⟨k.c,k.k,a+b-k.k⟩
theorem re {ks L:List Call}{ms:List Mv}{a b:Int}(hL:∀k∈L,k∈ks/\(k.k=a\/k.k=b))(hl:ms.length=(L.map Call.c).length)(hm:∀(j:Nat) m k,ms[j]? = some m->k∈ks->some k.c=(L.map Call.c)[j]?->m=⟨k.c,k.k,if k.k=a then b else a⟩):ms=L.map (exM a b):=by
 refine GS λj=>?_;rw[ER]
 cases e:L[j]? with
 | none =>
  rw[List.getElem?_eq_none_iff] at e;rw[EV] at hl;exact Go (by lia)
 | some k =>
  have hj:=(s_.mp e).1;rw[EV] at hl;have hj':j<ms.length:=by lia
  obtain⟨h1,h2⟩:=hL k (ET e);rw[Gb hj',hm j _ k (Gb hj') h1 (by rw[ER,e];rfl)]
  show _=some (exM a b k)
  unfold exM
  by_cases c:k.k=a
  ·rw[Ik c,c,show a+b-a=b by lia]
  ·rw[Il c,h2.resolve_left c,show a+b-b=a by lia]
def lH {ks L:List Call}{a b:Int}(un:∀k∈L,∀k'∈ks,k.c=k'.c->k=k'):x9 ks (L.map (exM a b))=ks.map (gA a b (L.map Call.c)):=by
 unfold x9;refine GW λk hk=>?_;unfold fc gA K8
 by_cases c:k.c∈L.map Call.c
 ·rw[Ik c]
  obtain⟨k0,h0,e0⟩:=GX.mp c;obtain rfl:=un k0 h0 k hk e0
  cases f:(L.map (exM a b)).find? (λm=>decide (m.c=k0.c)) with
  | none =>
   have:=Hv.mp f (exM a b k0) (mem_map_of_mem h0)
   simp[exM] at this
  | some m =>
   obtain⟨k1,h1,rfl⟩:=GX.mp (Hu f);have e2:=Ht f;have e1:k1.c=k0.c:=GT e2;obtain rfl:=un k1 h1 k0 hk e1;rfl
 ·rw[Il c]
  cases f:(L.map (exM a b)).find? (λm=>decide (m.c=k.c)) with
  | none=>rfl
  | some m =>
   obtain⟨k1,h1,rfl⟩:=GX.mp (Hu f);have e2:=Ht f;have e1:k1.c=k.c:=GT e2;exact absurd (GX.mpr ⟨k1,h1,e1⟩) c
structure nj (h:j8)(ks:List Call)(c:Int)(es:List Int)(sh:Int)(ms:List Mv)(k:Int):Prop where
 good:gh h ks ms
 free:∀y∈x9 ks ms,y.k=k->F6 h (c/h.c) (i7 h es) y=false
 op:∃n∈o4 h sh,k=(n:Int)
def eB {st:Int}{g:Int}{y:Call}{k:Int}(e:y.k=k)(n1:z9 h false st k y=false)(n2:z9 h true g k y=false):F6 h st [g] y=false:=by
 unfold z9 at n1 n2;rw[Fm e,HC] at n1 n2;have n1:decide (y.c/h.c=st)=false:=n1;have n2:decide (g∈i7 h y.es)=false:=n2;unfold F6;rw[n1,Bool.false_or,List.any_eq_false]
 intro r hr q
 have:r=g:=Fx.mp (GT q)
 exact absurd (this▸hr) (HG n2)
def U4 {a b r:Int}{sd:Bool}(hin:∀k∈ks,k.In h)(fr:ks.Pairwise (D7 h))(h63:ks.length<=63)(e:F4 h ks a b 64 sd r []=some ns):∃L,ns=L.map Call.c/\S1 h ks a b sd r L :=
 iz hin fr 64 sd r [] ns e .nil (by show ks.length<64+0;lia)
def uZ {ks:List Call}{a b r:Int}{sd:Bool}(fr:ks.Pairwise (D7 h))(hab:a≠b)(hf:∀y∈ks,z9 h sd r (col a b (!sd)) y=false)(W:S1 h ks a b sd r L):(ks.map (gA a b (L.map Call.c))).Pairwise (LF h):=by
 rw[Hw];refine Hy (λ{x y} hx hy f=>?_) fr;have ne:x≠y:=λz=>f.caller (by rw[z])
 intro d hd hd'
 obtain⟨s,q,rfl⟩:=qP hd;have h1:=bv.mp hd;have h2:=bv.mp hd';rw[nO hab fr hf W hx hy ne h1] at h2
 cases h2
def nB {h:j8}{ks:List Call}{c:Int}{es:List Int}{sh:Int}{a b st g:Int}{sd:Bool}{L:List Call}(ok:h.Ok)(hin:∀k∈ks,k.In h)(fr:ks.Pairwise (D7 h))(up:ks.Pairwise λk k'=>k.c<k'.c)
  (hst:c/h.c=st)(hes:i7 h es=[g])(h1:0<=g/\g<h.o)(h2:0<=st/\st<h.i)(hab:a≠b)(oa:∃n∈o4 h sh,a=(n:Int))(ob:∃n∈o4 h sh,b=(n:Int))
  (ia:∀y∈ks,z9 h false st a y=false)(ib:∀y∈ks,z9 h true g b y=false)(WL:S1 h ks a b sd (if sd then g else st) L):nj h ks c es sh (L.map (exM a b)) (col a b sd):=by
 have un:∀k∈L,∀k'∈ks,k.c=k'.c->k=k':=λk hk k' hk' e=>by
  obtain⟨s,x,p,_⟩:=WL.ex;exact ae fr (p.mem k hk).1 hk' e
 obtain⟨s,x,pL,_⟩:=id WL.ex;have pM:Q2 h ks a b (!sd) (if sd then st else g) [] (!sd) (if sd then st else g):=.nil;have hf:∀y∈ks,z9 h sd (if sd then g else st) (col a b (!sd)) y=false:=by cases sd;exact ia;exact ib
 have om:=ok.m
 have inr:∀{k:Int},(∃n∈o4 h sh,k=(n:Int))->0<=k/\k<h.m:=λ{k} z=>by
  obtain⟨n,hn,e⟩:=z
  have:=aD hn
  lia
 have pr:∀k∈L,(∃n∈o4 h sh,k.k=(n:Int))/\(∃n∈o4 h sh,a+b-k.k=(n:Int))/\k.k≠a+b-k.k:=λk hk=>by
  rcases(pL.mem k hk).2.2 with e|e
  ·rw[e,show a+b-a=b by lia]
   exact⟨oa,ob,hab⟩
  ·rw[e,show a+b-b=a by lia]
   exact⟨ob,oa,Im hab⟩
 have be:=lH (a:=a) (b:=b) un;refine⟨⟨λi m hm=>?_,?_⟩,λy hy e=>?_,?_⟩
 ·rw[ER] at hm
  obtain⟨k,hk,rfl⟩:=Hg.mp hm;have hkL:=ET hk;refine⟨λm' hm'=>?_,⟨k,(pL.mem k hkL).1,Iu,Iu⟩,inr (pr k hkL).2.1⟩;rw[<- List.map_take] at hm';obtain⟨k',hk',rfl⟩:=GX.mp hm';obtain⟨j,hj,ej⟩:=List.mem_take_iff_getElem.mp hk';have nd:=pL.nodup;obtain⟨hi,ei⟩:=s_.mp hk
  have:=(FR.mp nd) j i (by rw[EV];lia) (by rw[EV];lia) (by lia)
  rw[getElem_map,getElem_map,ej,ei] at this;exact this
 ·refine(xh up (fr.imp λ{x y} f e he he'=>f (mY e) (A1.mpr (.inr (.inr (.inr ⟨e,he,Iu⟩)))) (A1.mpr (.inr (.inr (.inr ⟨e,he',Iu⟩))))) _).mpr ?_
  rw[be];exact uZ fr hab hf WL
 ·rw[be] at hy
  obtain⟨y0,hy0,rfl⟩:=GX.mp hy;have f1:=sf hab fr hf WL hy0
  have f2:z9 h (!sd) (if sd then st else g) (col a b sd) (gA a b (L.map Call.c) y0)=false:=by
   unfold gA
   by_cases cy:y0.c∈L.map Call.c
   ·rw[Ik cy,Gq]
    intro w
    obtain⟨w1,w2⟩:=X7.mp w;have my:=(fm fr pL hy0).mp cy;have nw:=(pL.mem y0 my).2.1;have q:=((J6 nw).mp w2).2;have v1:=xf hab pL my (!sd);rw[q] at v1
    cases sd with
    | true=>exact kq hab fr ib ia pM pL _ v1 (n_ ..)
    | false=>exact kq hab fr ib ia pL pM _ (n_ ..) v1
   ·rw[Il cy]
    cases sd
    ·exact ib y0 hy0
    ·exact ia y0 hy0
  rw[hst,hes]
  cases sd
  ·exact eB e f1 f2
  ·exact eB e f2 f1
 ·cases sd
  ·exact ob
  ·exact oa
def W7 (h:j8)(as:List Addr)(ks:List Call)(kvs:List (List Key×V)):Prop:=∀(side:Bool)(r kk:Int),nA h as ks side r kk (A8 kvs (T7 side r kk))
def wD (h:j8)(as:List Addr)(ks:List Call)(i n:Nat)(kvs:List (List Key×V)):Prop:=∀d:List Key,
 (A8 kvs d=none/\(∀(j:Nat) k,j<i->ks[j]? = some k->¬d∈o8 h k.c k.es k.k)/\∀k,ks[i]? = some k->¬d∈(o8 h k.c k.es k.k).take n) \/
 ∃(j:Nat)(a:Addr)(k:Call),as[j]? = some a/\ks[j]? = some k/\d∈o8 h k.c k.es k.k/\A8 kvs d=some (.ref a)
def nV (K:Frag):Sp:=λvs H Q _=>∃(p l:Addr)(h:j8)(as:List Addr)(ks:List Call),vs=[.ref p,.ref l]/\C2 K H p l h as ks/\∀(d:Addr)(kvs:List (List Key×V))(H':Hp),i9 H H'->H' d=some (.dT kvs)->W7 h as ks kvs->Q (.ref d) H'
def fR (K:Frag):Sp:=λvs H Q _=>∃(p l hd:Addr)(h:j8)(as:List Addr)(ks:List Call)(kvs:List (List Key×V))(r a b:Int)(far:Bool),vs=[.ref p,.ref hd,.int r,.int a,.int b,.bl far]/\C2 K H p l h as ks/\ks.Pairwise (D7 h)/\H hd=some (.dT kvs)/\W7 h as ks kvs /\
 ∀(v:V)(H':Hp),i9 H H'->(∀x,v=.ref x->H x=none)->wR H' v (F4 h ks a b 64 far r [])->Q v H'
def fK {h:j8}{es:List Int}{M N:Int}(hM:M∈es.map λe=>e/h.e)(hM2:∀x∈es.map λe=>e/h.e,M<=x)(hN:N∈es.map λe=>e/h.e)(hN2:∀x∈es.map λe=>e/h.e,x<=N):M≠N↔1<(i7 h es).length:=by
 have mr:∀x,x∈i7 h es↔x∈es.map λe=>e/h.e:=λx=>by unfold i7;rw[D3]
 constructor
 ·intro hne
  have h1:=(mr M).mpr hM;have h2:=(mr N).mpr hN
  match e:i7 h es,h1,h2 with
  | [o],h1,h2=>exact absurd ((Fx.mp h1).trans (Fx.mp h2).symm) hne
  | _::_::_,_,_=>simp
 ·intro hl hMN
  have nd:=B6 (E1 (es.map λe=>e/h.e))
  match e:i7 h es,hl with
  | x::y::t,_ =>
   have hx:=(mr x).mp (by rw[e];simp)
   have hy:=(mr y).mp (by rw[e];simp)
   have a1:=hM2 x hx;have a2:=hN2 x hx;have a3:=hM2 y hy;have a4:=hN2 y hy
   have:x=y:=by lia
   have nd':(i7 h es).Nodup:=nd;rw[e,this] at nd'
   simp at nd'
def R5:FnScope ["_law_hall_here","_law_calls_here","_law_held_here","_law_call","_law_line"] ["_law_hall_here","_law_calls_here"] (i4 (top 66)):=mkF
def vq {P:Program}{w:World}{base:Heap}(T:Txt K mg)(zQ:i6 P w K mg base 1 "_law_lines" p_3 (W1 K))(D:Def K mg "_law_held" (top 66) p_9):i6 P w K mg base 2 "_law_held" p_9 (nV K):=by
 refine D.ok R5 (λ_ _ _ _ h=>?_) (λ_ _ _ _ _ H _ Q E hr h=>?_)
 ·obtain⟨p,l,h,as,ks,rfl,_⟩:=h
  rfl
 obtain⟨p,l,h,as,ks,rfl,hc,q⟩:=h;have la:=d_ hc.c;have h63:=hc.few
 refine⟨_,(d9 (j4 (i:=2) R5.nd Iu Ix fZ)
  (d9 (w5 HI rfl (m7 K (pv 1)) (l8 (i:=3) R5.nd Iu Ix)
  (h9 (w5 HI rfl (m7 K (l9 zQ hr Iu (a8 (pv 0) (a8 (i8 (i5 K) (pv 3) h7) (a8 (i8 (i5 K) (pv 3) h7) (a8 (i8 (i5 K) (pv 3) h7) c7 m5) m5) m5) a9))) (l8 (i:=4) R5.nd Iu Ix)
  (h9 (bx (Q4 hr) (pv 2) (pv 4) (pv 3) rfl)))))
  (h9 (j5 (pv 2))))),?_⟩
 refine λt ht=>?_;obtain⟨H1,Ip,s1,et⟩:=Io ht (.dT []);rw[Ip];refine⟨_,Iu,l,Iu,⟨_,s1.seq hc.l⟩,?_⟩
 refine o9 (xs:=as.map V.ref) (λi σ H'=>i9 H H'/\(∃kvs,H' t=some (.dT kvs)/\kvs.length<=13*i/\wD h as ks i 0 kvs)/\∃v3 v4,σ=[Iq p,Iq l,Iq t,v3,v4])
  ⟨s1,⟨[],et,Eo _,λd=>.inl ⟨Iu,(λj k hj=>absurd hj (Hn _)),λk _ hm=>by rw[HY] at hm;cases hm⟩⟩,none,none,Iu⟩ (λi σ H' _ g=>g.1.seq hc.l) ?_ ?_
 ·rintro i x σ H' hx ⟨s2,⟨kvs,et2,hl,hD⟩,v3,v4,rfl⟩
  rw[ER] at hx;obtain⟨a,ha,rfl⟩:=Hg.mp hx;obtain⟨k,hk,hca⟩:=j7 hc.c i a ha;have hi:=(s_.mp hk).1;have hkI:=hc.hin k (ET hk);have few:=hkI.few;obtain⟨ce,e1,e2⟩:=y8.same (λb xs z=>s2 _ _ z) hca;refine⟨_,Iu,_,Iu,a,_,_,_,Iu,Iu,Iw e2,Iu,_,Iu,a,_,_,_,Iu,Iu,Iw e2,Iu,_,Iu,a,_,_,_,Iu,Iu,Iw e2,Iu,p,ce,h,k.c,k.k,k.es,Iu,i9.seqT s2 hc.p,hc.ok,.inl (Iw e1),few,λnl nas H3 s3 hnl enl tnl=>?_⟩;have et3:=s3 _ _ et2;have hnt:nl≠t:=λz=>by rw[z,et2] at hnl;cases hnl
  have lnl:=d_ tnl;have ll:=O7 h k.c k.es k.k;refine⟨nl,Iu,⟨_,Iv enl⟩,?_⟩
  refine o9 (xs:=nas.map V.ref) (λn σ H'=>pV t H3 H'/\(∃kvs,H' t=some (.dT kvs)/\kvs.length<=13*i+n/\wD h as ks i n kvs)/\∃v4,σ=[Iq p,Iq l,Iq t,Iq a,v4])
   ⟨λ_ _ _ z=>z,⟨kvs,et3,by lia,hD⟩,_,Iu⟩ (λn σ H' _ g=>Iv (g.1 _ _ hnt enl)) ?_ ?_
  ·rintro n y σ H' hy ⟨g1,⟨kvs,g3,g4,g5⟩,v4,rfl⟩
   rw[ER] at hy;obtain⟨x,hx,rfl⟩:=Hg.mp hy;obtain⟨d,hd1,hd2⟩:=j7 tnl n x hx
   replace hd2:H3 x=some (.tup (d.map kV)):=hd2
   have hn:=(s_.mp hd1).1;have hxt:x≠t:=λz=>by rw[z,et3] at hd2;cases hd2
   refine⟨_,Iu,_,Iu,_,Iu,t,_,Iu,gm.t g3 (g1 _ _ hxt hd2) (by show kvs.length<16777216;lia),?_⟩
   refine⟨λb u hb z=>by rw[j9 hb];exact g1 b u hb z,⟨_,c9,?_,λd'=>?_⟩,_,Iu⟩
   ·have:=J4 kvs d (V.ref a)
    lia
   ·rw[U5]
    by_cases z:d'=d
    ·rw[Ik z]
     exact .inr ⟨i,a,k,ha,hk,by rw[z];exact ET hd1,Iu⟩
    ·rw[Il z]
     rcases g5 d' with⟨x1,x2,x3⟩|x
     ·refine .inl ⟨x1,x2,λk' hk' hm=>?_⟩
      rw[hk] at hk'
      cases hk'
      rw[HA,hd1] at hm
      rcases q_.mp hm with m|m
      ·exact x3 k hk m
      ·exact z (by simpa using m)
     ·exact .inr x
  ·rintro σ H' ⟨g1,⟨kvs,g3,g4,g5⟩,v4,rfl⟩
   rw[EV,lnl] at g4 g5;refine⟨λb u z=>g1 b u (n5 z ht) (s3 _ _ (s2 _ _ z)),⟨kvs,g3,by lia,λd'=>?_⟩,_,_,Iu⟩
   rcases g5 d' with⟨x1,x2,x3⟩|x
   ·refine .inl ⟨x1,λj k' hj hk'=>?_,λk' _ hm=>by rw[HY] at hm;cases hm⟩
    by_cases z:j=i
    ·subst z
     rw[hk] at hk'
     cases hk'
     have:=x3 k hk
     rw[HB] at this;exact this
    ·exact x2 j k' (by lia) hk'
   ·exact .inr x
 ·rintro σ H' ⟨s2,⟨kvs,et2,hl,hD⟩,v3,v4,rfl⟩
  rw[EV] at hD;refine⟨_,Iu,q t kvs H' s2 et2 λside r kk=>?_⟩
  rcases hD (T7 side r kk) with⟨x1,x2,x3⟩|⟨j,a,k,h1,h2,h3,h4⟩
  ·refine .inl ⟨x1,λk hk=>?_⟩
   obtain⟨j,hj⟩:=HX.mp hk
   have:=(s_.mp hj).1
   rw[Gq];exact λz=>x2 j k (by lia) hj (bv.mpr z)
  ·exact .inr ⟨j,a,k,h1,h2,bv.mp h3,h4⟩
def C5:FnScope ["_law_hall_here","_law_held_here","_law_rack","_law_a","_law_b","_law_far","_law_found_here","_law_line","_law_call","_law_racks"] ["_law_hall_here","_law_held_here","_law_rack","_law_a","_law_b","_law_far"] (i4 (top 67)):=mkF
def jD {P:Program}{w:World}{base:Heap}(T:Txt K mg)(D:Def K mg "_law_chain" (top 67) p_14):i6 P w K mg base 1 "_law_chain" p_14 (fR K):=by
 refine D.ok C5 (λ_ _ _ _ h=>?_) (λ_ _ _ _ _ H _ Q E hr h=>?_)
 ·obtain⟨p,l,hd,h,as,ks,kvs,r,a,b,far,rfl,_⟩:=h
  rfl
 obtain⟨p,l,hd,h,as,ks,kvs,r,a,b,far,rfl,hc,fr,ehd,hat,q⟩:=h;have la:=d_ hc.c;have h63:=hc.few;have o1:=hc.ok.e;have o2:=hc.ok.c
 refine⟨_,(d9 (j4 (i:=6) C5.nd Iu Ix (r6 c7))
  (h9 (lM HI (B0 K F2 (λ_=>rfl)) (d9 (j4 (i:=7) C5.nd Iu Ix (i8 (u7 K) (r6 (a8 (y7 (a8 U1 (a8 (pv 2) (a8 (pv 4) c7 a9) a9) m9)) (a8 (y7 (a8 U1 (a8 (pv 2) (a8 (pv 3) c7 a9) a9) m9)) c7 N8) N8)) (w9 ir rfl T.BS boot_int (a8 (pv 5) c7 a9))))
  (d9 (j4 (i:=8) C5.nd Iu Ix (kC (Q4 hr) (pv 1) (pv 7) o5 ⟨Iu,Iu,Iu,Iu⟩))
  (d9 (n6 (PW.pt (dg (k8 M9 (pv 8) o5 (m6 _)) (aT (k8 (jG K) (i8 (i5 K) (pv 8) h7) (pv 6) (by with_unfolding_all rfl))))) (h9 (j5 (pv 6))) l7)
  (d9 (bB (i:=9) (own:=["_law_end"]) (fr:=[(0,"_law_hall_here")]) rfl C5.nd rfl rfl (mkC ["_law_hall_here","_law_held_here","_law_rack","_law_a","_law_b","_law_far","_law_found_here","_law_line","_law_call","_law_racks"] (i4 (top 67))) (dP K (i8 (i5 K) (pv 8) h7)) (λcl C s H ex=>⟨(l8 (i:=0) (show(["_law_end","_law_hall_here"]:List Str).Nodup from by decide +kernel) Iu Ix Iy),F1,(l6 R7 (pv 0) (i8 (i5 K) (pv 1) h7))⟩) rfl)
  (d9 (n6 (k8 iJ (j6 (eD K rfl) rfl T.BU boot_min (a8 (pv 9) c7 a9)) (j6 (eT K rfl) rfl T.Dh boot_max (a8 (pv 9) c7 a9)) (m6 _)) (h9 (j5 o5)) l7)
  (d9 (C3 (F8 K HJ HK HL B5 (pv 6) (a8 (i8 (i5 K) (pv 8) h7) c7 m5)))
  (d9 (j4 (i:=2) C5.nd Iu Ix (i8 (u7 K) (pv 9) h7))
  (d9 (n6 (B0 K (pv 5) (λ_=>rfl)) (h9 (j4 (i:=2) C5.nd Iu Ix (l6 R7 (i8 (i5 K) (pv 8) h7) (i8 (i5 K) (pv 0) h7)))) l7)
  (h9 (j4 (i:=5) C5.nd Iu Ix (oB (pv 5))))))))))))))),?_⟩
 refine⟨z_0,λlc hlc=>?_⟩
 obtain⟨H1,Ip,s1,el⟩:=Io hlc (.lst []);rw[Ip]
 refine⟨λm σ H'=>i9 H H'/\∃(sd:Bool)(r':Int)(acc:List Int)(v7 v8 v9:Option V),m+acc.length=64/\acc.Nodup/\(∀c∈acc,∃k∈ks,k.c=c)/\H' lc=some (.lst (acc.map V.int))/\F4 h ks a b m sd r' acc=F4 h ks a b 64 far r [] /\
   σ=[Iq p,Iq hd,some (.int r'),Ir a,Ir b,some (.bl sd),Iq lc,v7,v8,v9],
  ⟨64,s1,far,r,[],none,none,none,Iu,Fu,(λc hc=>nomatch hc),el,Iu,Iu⟩,?_⟩
 rintro m σ H' ⟨g1,sd,r',acc,v7,v8,v9,g2,g3,g4,g5,g7,rfl⟩
 have al:=az g3 g4;obtain⟨n,rfl⟩:∃n,m=n+1:=⟨m-1,by lia⟩
 rw[cD] at g7;refine⟨true,Iu,E9 ?_⟩
 refine⟨λσ' H''=>∃m',m'<n+1/\(i9 H H''/\∃(sd:Bool)(r':Int)(acc:List Int)(v7 v8 v9:Option V),m'+acc.length=64/\acc.Nodup/\(∀c∈acc,∃k∈ks,k.c=c)/\H'' lc=some (.lst (acc.map V.int))/\F4 h ks a b m' sd r' acc=F4 h ks a b 64 far r [] /\
   σ'=[Iq p,Iq hd,some (.int r'),Ir a,Ir b,some (.bl sd),Iq lc,v7,v8,v9]),λσ' H'' z=>z,?_⟩
 refine⟨_,Iu,_,Iu,z_3,λt1 ht1=>?_⟩
 obtain⟨H2,Ip,s2,et1⟩:=Io ht1 (.tup [.str "in",.int r',.int b]);rw[Ip];refine⟨_,Iu,_,Iu,z_3,λt2 ht2=>?_⟩
 obtain⟨H3,Ip,s3,et2⟩:=Io ht2 (.tup [.str "out",.int r',.int a]);rw[Ip];refine⟨z_2,λt3 ht3=>?_⟩
 obtain⟨H4,Ip,s4,et3⟩:=Io ht3 (.lst [.ref t1,.ref t2]);rw[Ip];have s24:=s2.trans (s3.trans s4);have gH4:=g1.trans s24
 obtain⟨tl,i1,i2⟩:∃tl,atI [V.ref t1,V.ref t2] (if sd=true then (1:Int) else 0)=some (.ref tl)/\H4 tl=some (.tup ((T7 sd r' (if sd then a else b)).map kV)):=by
  cases sd with
  | false=>exact⟨t1,Iu,(s3.trans s4) _ _ et1⟩
  | true=>exact⟨t2,Iu,s4 _ _ et2⟩
 refine⟨_,Iu,.inr ⟨_,Iu,t3,_,_,_,Iu,Iu,Iv et3,i1,?_⟩⟩;have ehd4:=gH4 _ _ ehd;refine⟨_,Iu,hd,Iu,.inr ⟨kvs,.inl ehd4⟩,_,Iu,_,R9.t ehd4 i2,?_⟩;have g54:=s24 _ _ g5;have done:some acc=F4 h ks a b 64 far r []->Q (.ref lc) H4:=λz=>q (.ref lc) H4 gH4 (λx hx=>by cases hx;exact hlc) (.inr ⟨lc,acc,z.symm,Iu,g54⟩)
 rcases(hat sd r' (if sd then a else b)).find fr with⟨f1,fv⟩|⟨j,ca,k,ha,hk,f1,fv⟩
 ·rw[f1] at g7
  rw[fv];refine⟨_,Iu,Iu,_,Iu,E9 ?_⟩;exact E9 ⟨_,Iu,done g7⟩
 ·rw[f1] at g7
  rw[fv];obtain⟨k',hk',hca⟩:=j7 hc.c j ca ha;rw[hk] at hk'
  cases hk'
  have hkI:=hc.hin k (ET hk);have few:=hkI.few;obtain⟨ce,e1,e2⟩:=y8.same (λb xs z=>gH4 _ _ z) hca;refine⟨_,Iu,Iu,_,Iu,B9 ?_⟩;refine⟨_,Iu,ca,_,_,_,Iu,Iu,Iw e2,Iu,_,Iu,lc,_,Iu,.inl (Iv g54),Iu,U7 acc,_,Iu,?_⟩;rw[bi];refine B4 (λcc=>?_) (λcc=>?_)
  ·have cc':k.c∈acc:=by simpa using cc
   simp only[Ik cc'] at g7
   exact⟨_,Iu,done g7⟩
  ·have cc':¬k.c∈acc:=by simpa using cc
   simp only[Il cc'] at g7
   refine⟨_,Iu,ca,_,_,_,Iu,Iu,Iw e2,Iu,ce,Iu,⟨_,Iw e1⟩,?_⟩
   refine gk (xs:=k.es.map V.int) (λi acc σ H'=>H'=H4/\acc=((k.es.take i).map λe=>e/h.e).map V.int/\∃v,σ=[v,Iq p])
    ⟨Iu,Iu,none,Iu⟩ (l_ (k9 (by rw[EV];lia))) (λi acc σ H' g=>?_) (λi acc σ H' _ g=>g.1▸Iw e1) ?_ ?_
   ·obtain⟨_,rfl,_⟩:=g
    rw[EV,EV,EM];lia
   ·rintro i y acc σ H' hy ⟨rfl,rfl,v,rfl⟩
    rw[ER] at hy;obtain⟨e,he,rfl⟩:=Hg.mp hy;refine⟨_,Iu,_,Iu,p,_,_,_,Iu,Iu,i9.seqT gH4 hc.p,Iu,_,_,Iu,Iu,⟨by show 0<h.e;lia,by show h.e<1073741824;lia⟩,Iu,?_,_,Iu⟩
    rw[HA,he,HE,HE];rfl
   rintro acc2 σ H5 ⟨rfl,rfl,v,rfl⟩ lr hlr
   rw[EV,HB];have hlrc:lr≠lc:=λz=>by rw[z,g54] at hlr;cases hlr
   obtain⟨H6,Ip,s5,er⟩:=Io hlr (.lst ((k.es.map λe=>e/h.e).map V.int));rw[Ip];have hne:(k.es.map λe=>e/h.e)≠[]:=λz=>hkI.some (Ig.mp z);have gH6:=gH4.trans s5;refine⟨_,Iu,lr,_,Iu,Iv er,hne,λM hM hM2=>?_⟩;refine⟨_,Iu,lr,_,Iu,Iv er,hne,λN hN hN2=>?_⟩;have ni:=fK hM hM2 hN hN2;refine⟨Iu,_,Iu,?_⟩;refine B4 (λwd=>?_) (λwd=>?_)
   ·have wd':M≠N:=by simpa using wd
    simp only[Ik (ni.mp wd')] at g7
    exact q .non H6 gH6 (λx hx=>nomatch hx) (.inl ⟨g7.symm,Iu⟩)
   ·have wd':¬M≠N:=by simpa using wd
    have wd2:¬1<(i7 h k.es).length:=λz=>wd' (ni.mpr z)
    simp only[Il wd2] at g7
    obtain⟨e0,et,hes⟩:∃e0 et,k.es=e0::et:=List.exists_cons_of_ne_nil hkI.some
    have hhead:(i7 h k.es).headD 0=e0/h.e:=by
     have hm:e0/h.e∈i7 h k.es:=x6.mpr ⟨e0,by rw[hes];simp,Iu⟩
     match e:i7 h k.es,hm,wd2 with
     | [o],hm,_=>rw[Fx.mp hm];rfl
     | _::_::_,_,w=>exact absurd (by simp) w
    rw[hhead] at g7;have e5:=s5 _ _ g54;refine⟨_,Iu,.inl ⟨Iu,_,Iv e5⟩,_,Iu,ca,_,_,_,Iu,Iu,Iw (s5 _ _ e2),Iu,lc,_,_,Iu,Iu,e5,k9 (by rw[EV];lia),?_⟩
    have er7:upd H6 lc (.lst (acc.map V.int++[.int k.c])) lr=some (.lst ((k.es.map λe=>e/h.e).map V.int)):=by rw[j9 hlrc];exact er
    have e7:upd H6 lc (.lst (acc.map V.int++[.int k.c])) lc=some (.lst ((acc++[k.c]).map V.int)):=by rw[c9,HE];rfl
    have g7H:i9 H (upd H6 lc (.lst (acc.map V.int++[.int k.c]))):=i9.put gH6 hlc;have ca7:=y8.same (λb xs z=>g7H _ _ z) hca;generalize upd H6 lc _=H7 at er7 e7 g7H ca7 ⊢;obtain⟨cf,f3,f4⟩:=ca7
    have i0:atI ((k.es.map λe=>e/h.e).map V.int) 0=some (.int (e0/h.e)):=by
     rw[hes];exact(show atI _ ((0:Nat):Int)=_ from C4 rfl)
    refine⟨_,Iu,lr,_,_,_,Iu,Iu,Iv er7,i0,?_⟩
    have nd':(acc++[k.c]).Nodup:=by
     refine GR.mpr ⟨g3,by simp,λx hx y hy=>?_⟩
     rw[Fx] at hy
     rintro rfl
     exact cc' (hy▸hx)
    have hs':∀c∈acc++[k.c],∃k∈ks,k.c=c:=λc hcm=>by
     rcases q_.mp hcm with z|z
     ·exact g4 c z
     ·rw[Fx] at z
      exact⟨k,ET hk,z.symm⟩
    have hlen:n+(acc++[k.c]).length=64:=by rw[EU,Fj];lia
    refine⟨_,Iu,_,Iu,?_⟩
    cases sd with
    | true =>
     refine E9 ?_;refine⟨_,Iu,ca,_,_,_,Iu,Iu,Iw f4,Iu,_,Iu,p,_,_,_,Iu,Iu,i9.seqT g7H hc.p,Iu,_,_,Iu,Iu,⟨by show 0<h.c;lia,by show h.c<1073741824;lia⟩,?_⟩
     exact⟨_,Iu,_,Iu,n,by lia,g7H,false,_,acc++[k.c],_,_,_,hlen,nd',hs',e7,g7,Iu⟩
    | false =>
     refine B9 ?_;exact⟨_,Iu,_,Iu,n,by lia,g7H,true,_,acc++[k.c],_,_,_,hlen,nd',hs',e7,g7,Iu⟩
def uc {l1 l2:List Int}(p:l1.Perm l2)(s1:l1.Pairwise (·<=·))(s2:l2.Pairwise (·<=·)):l1=l2:=p.eq_of_pairwise (λa b _ _ h1 h2=>Int.le_antisymm h1 h2) s1 s2
def rC {l1 l2:List Call}(p:l1.Perm l2)(s1:l1.Pairwise λk k'=>k.c<k'.c)(s2:l2.Pairwise λk k'=>k.c<k'.c):l1=l2:=p.eq_of_pairwise (λa b _ _ h1 h2=>absurd h1 (by lia)) s1 s2
def mR (h:y8 H p κ)(h':y8 H p' κ)(few:κ.es.length<=1000):Q8 H 2 (.ref p) (.ref p'):=by
 obtain⟨t,t1,t2⟩:=h;obtain⟨t',t1',t2'⟩:=h';exact .inr ⟨p,p',_,_,Iu,Iu,.inr ⟨t2,t2'⟩,.cons (N7.at (.inr ⟨_,Iu,Iu⟩)) (.cons (.inr ⟨t,t',_,_,Iu,Iu,.inr ⟨t1,t1'⟩,W0 κ.es,by rw[EV];exact few⟩) (.cons (N7.at (.inr ⟨_,Iu,Iu⟩)) .nil)),by show 3<=1000;decide⟩
theorem kR:∀{bs as':List Addr}{ks:List Call},m8 H bs ks->m8 H as' ks->(∀κ∈ks,κ.es.length<=1000)->Paired (Q8 H 2) (bs.map V.ref) (as'.map V.ref)
:=λh h' few=>bn h h' λa b κ hκ q q'=>mR q q' (few κ hκ)
theorem Q3.one {c:Int}{sh:Int}(a:Q3 h ks c es sh o)(b:Q3 h ks c es sh o'):o=o':=by
 cases o with
 | none =>
  cases o' with
  | none=>rfl
  | some ms =>
   obtain⟨k,lk,_⟩:=b;have a':o4 h sh=[]:=a
   have:=lk.1
   rw[a'] at this
   cases this
 | some ms =>
  obtain⟨k,lk,rfl⟩:=a
  cases o' with
  | none =>
   have b':o4 h sh=[]:=b
   have:=lk.1
   rw[b'] at this
   cases this
  | some ms' =>
   obtain⟨k',lk',rfl⟩:=b;rw[lk.uniq lk']
def kX {b:Bool}{ta tb:TS}{D:bL}(R:L2.St->Hp->Prop)(hr:∀σ' G,R σ' G->D.nx σ' G)(h1:b=true->(∀σ' G,R σ' G->D.nx σ' G)->ta D σ H)(h2:b=false->(∀σ' G,R σ' G->D.nx σ' G)->tb D σ H):(λ(b:Bool) H1=>if b=true then ta D σ H1 else tb D σ H1) b H:=by
 cases b
 ·exact h2 rfl hr
 ·exact h1 rfl hr
def kD {c:Int}{sh:Int}{k:Nat}:k∈X1 h ks c es sh↔k∈o4 h sh/\J8 h ks (c/h.c) (i7 h es) k=[]:=by
 unfold X1 O5;rw[i_,FJ]
def E7 (h:j8)(ks:List Call)(st g a b:Int):Option (List Int×Int):=match F4 h ks a b 64 true g [],F4 h ks a b 64 false st [] with
 | some F,none=>some (F,a)
 | some F,some N=>if F.length<=N.length then some (F,a) else some (N,b)
 | none,some N=>some (N,b)
 | none,none=>none
theorem ac {st g a b:Int}{k:Int}(e:E7 h ks st g a b=some (cs,k)):∃sd:Bool,F4 h ks a b 64 sd (if sd then g else st) []=some cs/\k=col a b sd:=by
 unfold E7 at e
 cases e1:F4 h ks a b 64 true g [] with
 | none =>
  cases e2:F4 h ks a b 64 false st [] with
  | none=>rw[e1,e2] at e;cases e
  | some N=>rw[e1,e2] at e;cases e;exact⟨false,e2,Iu⟩
 | some F =>
  cases e2:F4 h ks a b 64 false st [] with
  | none=>rw[e1,e2] at e;cases e;exact⟨true,e1,Iu⟩
  | some N =>
   rw[e1,e2] at e;have e:(if F.length<=N.length then some (F,a) else some (N,b))=some (cs,k):=e
   split at e
   ·cases e;exact⟨true,e1,Iu⟩
   ·cases e;exact⟨false,e2,Iu⟩
def xT (H:Hp)(v:V)(o:Option (List Int×Int)):Prop:=(o=none/\v=.non)\/∃t cl cs k,o=some (cs,k)/\v=.ref t/\H t=some (.tup [.ref cl,.int k])/\H cl=some (.lst (cs.map V.int))
inductive Y6 (f:Int->Int->Option (List Int×Int))(A B:List Nat):Option (Nat×Nat×List Int×Int)->Prop
 | none (h:∀a∈A,∀b∈B,f a b=none):Y6 f A B none
 | some (i j a b:Nat) (cs:List Int) (k:Int) (ha:A[i]? = some a) (hb:B[j]? = some b) (e:f a b=some (cs,k)) (n1:∀i'<i,∀a',A[i']? = some a'->∀b'∈B,f a' b'=none) (n2:∀j'<j,∀b',B[j']? = some b'->f a b'=none):Y6 f A B (some (a,b,cs,k))
theorem Y6.one (h:Y6 f A B r)(h':Y6 f A B r'):r=r':=by
 cases h with
 | none n =>
  cases h' with
  | none n'=>rfl
  | some i j a b cs k ha hb e n1 n2=>rw[n a (ET ha) b (ET hb)] at e;cases e
 | some i j a b cs k ha hb e n1 n2 =>
  cases h' with
  | none n=>rw[n a (ET ha) b (ET hb)] at e;cases e
  | some i' j' a' b' cs' k' ha' hb' e' n1' n2' =>
   have ei:i=i':=by
    rcases Hr i i' with z|z|z
    ·rw[n1' i z a ha b (ET hb)] at e;cases e
    ·exact z
    ·rw[n1 i' z a' ha' b' (ET hb')] at e';cases e'
   subst ei;rw[ha] at ha'
   cases ha'
   have ej:j=j':=by
    rcases Hr j j' with z|z|z
    ·rw[n2' j z b hb] at e;cases e
    ·exact z
    ·rw[n2 j' z b' hb'] at e';cases e'
   subst ej;rw[hb] at hb'
   cases hb'
   rw[e] at e'
   cases e'
   rfl
abbrev wA (h:j8)(ks:List Call)(c:Int)(g:Int):Int->Int->Option (List Int×Int):=λa b=>E7 h ks (c/h.c) g a b
inductive P6 (h:j8)(ks:List Call)(c:Int)(es:List Int)(sh:Int):Option (List Mv×Int)->Prop
 | way (k:Nat) (ws:List Nat) (e:X1 h ks c es sh=k::ws):P6 h ks c es sh (some ([],(k:Int)))
 | chain (g:Int) (a b:Nat) (L:List Call) (k:Int) (ew:X1 h ks c es sh=[]) (eg:i7 h es=[g]) (r:Y6 (wA h ks c g) (E6 h ks sh pIn (c/h.c)) (E6 h ks sh M8 g) (some (a,b,L.map Call.c,k))) (hL:∀x∈L,x∈ks):P6 h ks c es sh (some (L.map (exM a b),k))
 | none (ew:X1 h ks c es sh=[]) (n:∀g,i7 h es=[g]->Y6 (wA h ks c g) (E6 h ks sh pIn (c/h.c)) (E6 h ks sh M8 g) none):P6 h ks c es sh none
theorem sV {ks:List Call}(up:ks.Pairwise λk k'=>k.c<k'.c):∀{L L':List Call},(∀x∈L,x∈ks)->(∀x∈L',x∈ks)->L.map Call.c=L'.map Call.c->L=L'
 | [],[],_,_,_=>rfl
 | [],_::_,_,_,e=>by cases e
 | _::_,[],_,_,e=>by cases e
 | x::t,y::u,h1,h2,e=>by
  rw[EX,EX] at e
  injection e with e1 e2
  rw[fB up (h1 x (n_ ..)) (h2 y (n_ ..)) e1,sV up (λz hz=>h1 z (o_ _ hz)) (λz hz=>h2 z (o_ _ hz)) e2]
theorem P6.one {ks:List Call}{c:Int}{sh:Int}(up:ks.Pairwise λk k'=>k.c<k'.c)(d:P6 h ks c es sh r)(d':P6 h ks c es sh r'):r=r':=by
 cases d with
 | way k ws e =>
  cases d' with
  | way k' ws' e'=>rw[e] at e';cases e';rfl
  | chain g a b L k ew eg q hL=>rw[e] at ew;cases ew
  | none ew n=>rw[e] at ew;cases ew
 | chain g a b L k ew eg q hL =>
  cases d' with
  | way k' ws' e'=>rw[ew] at e';cases e'
  | chain g' a' b' L' k' ew' eg' q' hL' =>
   rw[eg] at eg'
   cases eg'
   have z:=q.one q'
   injection z with z
   injection z with z1 z
   injection z with z2 z
   injection z with z3 z4
   subst z1 z2 z4;rw[sV up hL hL' z3]
  | none ew' n=>have:=q.one (n g eg);cases this
 | none ew n =>
  cases d' with
  | way k' ws' e'=>rw[ew] at e';cases e'
  | chain g a b L k ew' eg q hL=>have:=q.one (n g eg);cases this
  | none ew' n'=>rfl
structure eG (h:j8)(ks:List Call)(c:Int)(es:List Int):Prop where
 fr:ks.Pairwise (D7 h)
 up:ks.Pairwise λk k'=>k.c<k'.c
 cr:0<=c/\c<h.i*h.c
 er:∀x∈es,0<=x/\x<h.o*h.e
def fM (ks:List Call):x9 ks []=ks:=by
 unfold x9;exact(GW λk _=>rfl).trans (List.map_id _)
def ul {ks:List Call}(fr:ks.Pairwise (D7 h))(up:ks.Pairwise λk k'=>k.c<k'.c):gh h ks []:=by
 refine⟨λi m z=>(by rw[List.getElem?_nil] at z;cases z),?_⟩
 rw[fM];exact(fr.and up).imp λz=>sX z.1 z.2
theorem P6.room {h:j8}{ks:List Call}{c:Int}{es:List Int}{sh:Int}{ms:List Mv}{k:Int}(ok:h.Ok)(hin:∀k∈ks,k.In h)(few:ks.length<=63)(ask:eG h ks c es)(d:P6 h ks c es sh (some (ms,k))):nj h ks c es sh ms k/\ms.length<=ks.length:=by
 have o1:=ok.c;have o2:=ok.e
 cases d with
 | way k ws e =>
  obtain⟨h1,h2⟩:=kD.mp (show k∈X1 h ks c es sh by rw[e];exact n_ ..)
  refine⟨⟨ul ask.fr ask.up,λy hy e=>?_,⟨k,h1,Iu⟩⟩,Et _⟩;rw[fM] at hy;rw[Gq]
  intro w
  have:y.c∈J8 h ks (c/h.c) (i7 h es) k:=GX.mpr ⟨y,i_.mpr ⟨hy,by rw[Fm e,w];rfl⟩,Iu⟩
  rw[h2] at this
  cases this
 | chain g a b L k ew hg r hL =>
  cases r with
  | some i j _ _ _ _ ha hb e n1 n2 =>
  obtain⟨x,hx,hxg⟩:=x6.mp (show g∈i7 h es by rw[hg];exact n_ ..)
  have x1:=ask.er x hx;have hst:0<=c/h.c/\c/h.c<h.i:=⟨Ic ask.cr.1 (by lia),Ie (by lia) ask.cr.2⟩
  have hgr:0<=g/\g<h.o:=by
   rw[<- hxg];exact⟨Ic x1.1 (by lia),Ie (by lia) x1.2⟩
  obtain⟨oa,ia⟩:=(fE false hin ask.fr hst.1).mp (ET ha);obtain⟨ob,ib⟩:=(fE true hin ask.fr hgr.1).mp (ET hb)
  have hab:(a:Int)≠(b:Int):=λy=>by
   have y':a=b:=by lia
   subst y'
   have:a∈X1 h ks c es sh:=kD.mpr ⟨oa,by
    unfold J8;rw[Ig,HS]
    intro y hy w
    rw[Fd,FJ,hg] at w;rw[eB w.1 (ia y hy) (ib y hy)] at w
    cases w.2⟩
   rw[ew] at this
   cases this
  obtain⟨sd,ew2,rfl⟩:=ac e;obtain⟨L',eL,W⟩:=U4 hin ask.fr few ew2;obtain⟨s',x',pL,_⟩:=id W.ex
  have:=sV ask.up hL (λk hk=>(pL.mem k hk).1) eL
  subst this;refine⟨nB ok hin ask.fr ask.up rfl hg hgr hst hab ⟨a,oa,Iu⟩ ⟨b,ob,Iu⟩ ia ib W,?_⟩
  have lL:(L.map Call.c).length<=ks.length:=az pL.nodup λc hc=>by
   obtain⟨k,h1,h2⟩:=GX.mp hc;exact⟨k,(pL.mem k h1).1,h2⟩
  rw[EV] at lL ⊢;exact lL
def ke (K:Frag):Sp:=λvs H Q _=>∃(p l:Addr)(h:j8)(as:List Addr)(ks:List Call)(st g a b:Int),vs=[.ref p,.ref l,.int st,.int g,.int a,.int b]/\C2 K H p l h as ks/\ks.Pairwise (D7 h) /\
 ∀(v:V)(H':Hp),i9 H H'->xT H' v (E7 h ks st g a b)->Q v H'
def ie (K:Frag):Sp:=λvs H Q _=>∃(p l:Addr)(h:j8)(as:List Addr)(ks:List Call)(st g sh:Int),vs=[.ref p,.ref l,.int st,.int g,.int sh]/\C2 K H p l h as ks/\ks.Pairwise (D7 h)/\(ks.Pairwise λk k'=>k.c<k'.c)/\(0<=st/\st<h.i)/\(0<=g/\g<h.o) /\
 (Y6 (λa b=>E7 h ks st g a b) (E6 h ks sh pIn st) (E6 h ks sh M8 g) none->∀H',i9 H H'->Q .non H') /\
 ∀(a b:Nat)(L:List Call)(k:Int)(t ml:Addr)(mas:List Addr)(H':Hp),Y6 (λa b=>E7 h ks st g a b) (E6 h ks sh pIn st) (E6 h ks sh M8 g) (some (a,b,L.map Call.c,k))->(∀x∈L,x∈ks)->i9 H H'->H' t=some (.tup [.ref ml,.int k])->H' ml=some (.lst (mas.map V.ref))->t4 H' mas (L.map (exM a b))->Q (.ref t) H'
def P7:FnScope ["hall","calls","start","goal","a","b","far","near"] ["hall","calls","start","goal","a","b"] (i4 (top 51)):=mkF
def qM (T:Txt K mg)(BX:i6 P w K mg base 6 "chain_out" p_13 (dR K true))(Cu:i6 P w K mg base 6 "chain_in" p_13 (dR K false))(D:Def K mg "chain_chosen" (top 51) p_37):i6 P w K mg base 7 "chain_chosen" p_37 (ke K):=by
 refine D.ok P7 (λ_ _ _ _ h=>?_) (λ_ _ _ _ _ H _ Q E hr h=>?_)
 ·obtain⟨p,l,h,as,ks,st,g,a,b,rfl,_⟩:=h
  rfl
 obtain⟨p,l,h,as,ks,st,g,a,b,rfl,ch,fr,q⟩:=h
 refine⟨_,(d9 (j4 (i:=6) P7.nd Iu Ix (l9 BX hr Iu (a8 (pv 0) (a8 (pv 1) (a8 (pv 3) (a8 (pv 4) (a8 (pv 5) c7 a9) a9) a9) a9) a9)))
  (d9 (j4 (i:=7) P7.nd Iu Ix (l9 Cu hr Iu (a8 (pv 0) (a8 (pv 1) (a8 (pv 2) (a8 (pv 4) (a8 (pv 5) c7 a9) a9) a9) a9) a9)))
  (d9 (n6 (PW.pt (cJ (k8 L5 (pv 6) o5 (m6 _)) (aA (PW.pt (dg (k8 M9 (pv 7) o5 (m6 _)) (aT (k8 jM (j6 (y9 K) rfl T.zY HF (a8 (pv 6) c7 a9)) (j6 (y9 K) rfl T.zY HF (a8 (pv 7) c7 a9)) (m6 _)))))))) (h9 (j5 (y7 (a8 (pv 6) (a8 (pv 4) c7 a9) a9)))) l7)
  (d9 (n6 (k8 L5 (pv 7) o5 (m6 _)) (h9 (j5 (y7 (a8 (pv 7) (a8 (pv 5) c7 a9) a9)))) l7)
  (h9 (j5 o5)))))),?_⟩
 refine⟨_,Iu,_,Iu,_,Iu,_,Iu,_,Iu,p,l,h,as,ks,g,a,b,Iu,ch,fr,λv1 H1 s1 f1 o1=>?_⟩;refine⟨_,Iu,_,Iu,_,Iu,_,Iu,_,Iu,p,l,h,as,ks,st,a,b,Iu,ch.same s1,fr,λv2 H2 s2' f2 o2=>?_⟩;have s2:=s1.trans s2';unfold E7 at q
 rcases o1 with⟨eF,rfl⟩|⟨l1,F,eF,rfl,e1⟩
 ·refine⟨_,Iu,Iu,_,Iu,B9 (B9 ?_)⟩
  rw[eF] at q
  rcases o2 with⟨eN,rfl⟩|⟨l2,N,eN,rfl,e2⟩
  ·rw[eN] at q
   exact⟨_,Iu,Iu,_,Iu,B9 (q _ H2 s2 (.inl ⟨Iu,Iu⟩))⟩
  ·rw[eN] at q
   refine⟨_,Iu,Iu,_,Iu,E9 ⟨_,Iu,_,Iu,z_2,λt ht=>?_⟩⟩
   have s3:=g9 ht (.tup [.ref l2,.int b]);exact q _ _ (s2.trans s3) (.inr ⟨t,l2,N,b,Iu,Iu,c9,s3 _ _ e2⟩)
 ·have e1':=s2' _ _ e1
  rw[eF] at q;refine⟨_,Iu,Iu,_,Iu,E9 ?_⟩;have far:∀{G:Hp},i9 H2 G->xT G (.ref l1) none->True:=λ_ _=>trivial
  rcases o2 with⟨eN,rfl⟩|⟨l2,N,eN,rfl,e2⟩
  ·rw[eN] at q
   refine⟨_,Iu,Iu,_,Iu,E9 ?_⟩;refine E9 ⟨_,Iu,_,Iu,z_2,λt ht=>?_⟩
   have s3:=g9 ht (.tup [.ref l1,.int a]);exact q _ _ (s2.trans s3) (.inr ⟨t,l1,F,a,Iu,Iu,c9,s3 _ _ e1'⟩)
  ·rw[eN] at q
   refine⟨_,Iu,Iu,_,Iu,B9 ?_⟩;refine⟨_,Iu,l1,_,Iu,.inl (Iv e1'),_,Iu,l2,_,Iu,.inl (Iv e2),_,_,Iu,Iu,_,Iu,B4 (λz=>?_) (λz=>?_)⟩
   ·have z':F.length<=N.length:=by
     have:=GT z
     rw[EV,EV] at this;lia
    refine⟨_,Iu,_,Iu,z_2,λt ht=>?_⟩
    have s3:=g9 ht (.tup [.ref l1,.int a]);exact q _ _ (s2.trans s3) (.inr ⟨t,l1,F,a,Ik z',Iu,c9,s3 _ _ e1'⟩)
   ·have z':¬F.length<=N.length:=λy=>z (Fm (by rw[EV,EV];lia))
    refine⟨_,Iu,Iu,_,Iu,E9 ⟨_,Iu,_,Iu,z_2,λt ht=>?_⟩⟩
    have s3:=g9 ht (.tup [.ref l2,.int b]);exact q _ _ (s2.trans s3) (.inr ⟨t,l2,N,b,Il z',Iu,c9,s3 _ _ e2⟩)
def bY (K:Frag)(CE:Addr):Sp:=λvs H Q E=>∃(a l e:Addr)(h:j8)(as:List Addr)(ks:List Call)(c:Int)(es:List Int)(sh:Int),vs=[.ref a,.ref l,.int c,.ref e,.int sh]/\bP K H a l e h as ks es/\eG h ks c es /\
 (∀(ms:List Mv)(k:Int)(t ml:Addr)(mas:List Addr)(H':Hp),P6 h ks c es sh (some (ms,k))->i9 H H'->H' t=some (.tup [.ref ml,.int k])->H' ml=some (.lst (mas.map V.ref))->t4 H' mas ms->Q (.ref t) H') /\
 (P6 h ks c es sh none->∀(dx nh:Addr)(nas:List Addr)(nlv:V)(o:Option (List Int))(H':Hp),i9 H H'->Q3 h ks c es sh o->X2 H' dx (F7 h ks c es) o nh nas nlv->Z0 H nas nlv->E (.ref CE) (some dx) H')
def sU (K:Frag)(CE:Addr):Sp:=λvs H Q E=>∃(a l e:Addr)(h:j8)(as:List Addr)(ks:List Call)(c:Int)(es:List Int)(sh:Int),vs=[.ref a,.ref l,.int c,.ref e,.int sh]/\bP K H a l e h as ks es/\H l=some (.lst (as.map V.ref))/\ks.length<63/\cg K H (.ref e) (some (es.map V.int))/\dk h (some (es.map V.int))=true/\eG h ks c es/\uE ks c es /\
 (∀(ms:List Mv)(k:Int)(t ml r:Addr)(mas bs:List Addr)(ks':List Call)(es':List Int)(H':Hp),P6 h ks c es sh (some (ms,k))->i9 H H'->H' t=some (.tup [.ref ml,.ref r])->H' ml=some (.lst (mas.map V.ref))->t4 H' mas ms->H' r=some (.lst (bs.map V.ref))->m8 H' bs ks'->es'.Perm es->es'.Pairwise (·<=·)->ks'.Perm (x9 ks ms++[⟨c,es',k⟩])->ks'.Pairwise (λk k'=>k.c<k'.c)->Q (.ref t) H') /\
 (P6 h ks c es sh none->∀(dx nh:Addr)(nas:List Addr)(nlv:V)(o:Option (List Int))(H':Hp),i9 H H'->Q3 h ks c es sh o->X2 H' dx (F7 h ks c es) o nh nas nlv->Z0 H nas nlv->E (.ref CE) (some dx) H')
def C7:FnScope ["hall","calls","start","goal","shut","ready","goal_idle","a","b","chosen"] ["hall","calls","start","goal","shut"] (i4 (top 52)):=mkF
def nI (T:Txt K mg)(Ae:i6 P w K mg base 1 "left_open" p_47 (jL K))(CK:i6 P w K mg base 2 "in_bits" p_26 (iX K pIn j8.i))(Cv:i6 P w K mg base 3 "out_bits" p_26 (iX K M8 j8.o))(AW:i6 P w K mg base 1 "idle_racks" p_54 (pf K))(Bp:i6 P w K mg base 7 "chain_chosen" p_37 (ke K))(Cw:i6 P w K mg base 3 "moves_of" p_51 (iK K))(D:Def K mg "room_by_chain" (top 52) p_38):i6 P w K mg base 8 "room_by_chain" p_38 (ie K):=by
 refine D.ok C7 (λ_ _ _ _ h=>?_) (λ_ _ _ _ _ H _ Q E hr h=>?_)
 ·obtain⟨p,l,h,as,ks,st,g,sh,rfl,_⟩:=h
  rfl
 obtain⟨p,l,h,as,ks,st,g,sh,rfl,ch,fr,up,hst,hg,q0,q⟩:=h;have ol24:(o4 h sh).length<=24:=by have:=bZ h sh;have:=ch.ok.m;lia
 refine⟨_,(d9 (j4 (i:=5) C7.nd Iu Ix (l9 Ae hr Iu (a8 (pv 0) (a8 (pv 4) c7 a9) a9)))
  (d9 (j4 (i:=6) C7.nd Iu Ix (l9 AW hr Iu (a8 (pv 5) (a8 (i8 (u7 K) (l9 Cv hr Iu (a8 (pv 0) (a8 (pv 1) c7 a9) a9)) (pv 3)) c7 m5) a9)))
  (d9 (w5 HI rfl (m7 K (l9 AW hr Iu (a8 (pv 5) (a8 (i8 (u7 K) (l9 CK hr Iu (a8 (pv 0) (a8 (pv 1) c7 a9) a9)) (pv 2)) c7 m5) a9))) (l8 (i:=7) C7.nd Iu Ix)
  (h9 (w5 HI rfl (m7 K (pv 6)) (l8 (i:=8) C7.nd Iu Ix)
  (d9 (j4 (i:=9) C7.nd Iu Ix (l9 Bp hr Iu (a8 (pv 0) (a8 (pv 1) (a8 (pv 2) (a8 (pv 3) (a8 (pv 7) (a8 (pv 8) c7 a9) a9) a9) a9) a9) a9)))
  (h9 (n6 (k8 L5 (pv 9) o5 (m6 _)) (h9 (j5 (y7 (a8 (l9 Cw hr Iu (a8 (pv 1) (a8 (i8 (i5 K) (pv 9) h7) (a8 (pv 7) (a8 (pv 8) c7 a9) a9) m5) a9)) (a8 (i8 (i5 K) (pv 9) h7) c7 m5) n9)))) l7))))))
  (h9 (j5 o5))))),?_⟩
 refine⟨_,Iu,_,Iu,p,h,sh,Iu,ch.p,ch.ok,λrl hrl=>?_⟩;obtain⟨H1,Ip,s1,e1⟩:=Io hrl (.lst (t6 (o4 h sh)));rw[Ip];have c1:=ch.same s1;refine⟨_,Iu,_,Iu,_,Iu,p,l,h,as,ks,Iu,c1.p,c1.ok,c1.l,c1.c,c1.hin,fr,c1.few,λol H2 s2' hol eol=>?_⟩;have s2:=s1.trans s2';refine⟨_,Iu,ol,_,_,_,Iu,Iu,Iv eol,oS hg.1 (by lia),rl,o4 h sh,_,Iu,Iv (s2' _ _ e1),by lia,λgl hgl=>?_⟩
 have s3':=g9 hgl (.lst (t6 ((o4 h sh).filter (r9 ((S4 (V0 (M8 h) ks g.toNat):Nat):Int)))));have s3:=s2.trans s3';have e3:=s3' _ _ (s2' _ _ e1);have eg3:=@c9 H2 gl (.lst (t6 ((o4 h sh).filter (r9 ((S4 (V0 (M8 h) ks g.toNat):Nat):Int)))));generalize upd H2 gl _=H3 at s3 e3 eg3 ⊢;have c3:=ch.same s3;refine⟨_,Iu,_,Iu,_,Iu,p,l,h,as,ks,Iu,c3.p,c3.ok,c3.l,c3.c,c3.hin,fr,c3.few,λil H4 s4' hil eil=>?_⟩;have s4:=s3.trans s4';refine⟨_,Iu,il,_,_,_,Iu,Iu,Iv eil,oS hst.1 (by lia),rl,o4 h sh,_,Iu,Iv (s4' _ _ e3),by lia,λal hal=>?_⟩
 have s5':=g9 hal (.lst (t6 ((o4 h sh).filter (r9 ((S4 (V0 (pIn h) ks st.toNat):Nat):Int)))));have s5:=s4.trans s5';have e5:=@c9 H4 al (.lst (t6 ((o4 h sh).filter (r9 ((S4 (V0 (pIn h) ks st.toNat):Nat):Int)))));have eg5:=s5' _ _ (s4' _ _ eg3);generalize upd H4 al _=H5 at s5 e5 eg5 ⊢
 change H5 al=some (.lst (t6 (E6 h ks sh pIn st))) at e5
 change H5 gl=some (.lst (t6 (E6 h ks sh M8 g))) at eg5
 generalize E6 h ks sh pIn st=IA at q q0 e5;generalize E6 h ks sh M8 g=IB at q q0 eg5;refine⟨al,Iu,⟨_,Iv e5⟩,?_⟩
 refine o9 (xs:=t6 IA) (λi σ H'=>i9 H5 H'/\(∀i'<i,∀a',IA[i']? = some a'->∀b'∈IB,E7 h ks st g a' b'=none)/\∃v7 v8 v9,σ=[Iq p,Iq l,Ir st,Ir g,Ir sh,Iq rl,Iq gl,v7,v8,v9])
  ⟨i9.refl _,(λi' hi'=>absurd hi' (by lia)),none,none,none,Iu⟩ (λi σ H' _ gg=>Iv (gg.1 _ _ e5)) ?_ ?_
 ·rintro i x σ H' hx ⟨sH',no1,v7,v8,v9,rfl⟩
  unfold t6 at hx;rw[ER] at hx;obtain⟨a,ha,rfl⟩:=Hg.mp hx;refine⟨_,Iu,gl,Iu,⟨_,Iv (sH' _ _ eg5)⟩,?_⟩
  refine o9 (xs:=t6 IB) (λj σ H2=>i9 H5 H2/\(∀j'<j,∀b',IB[j']? = some b'->E7 h ks st g a b'=none)/\∃v8 v9,σ=[Iq p,Iq l,Ir st,Ir g,Ir sh,Iq rl,Iq gl,Ir (a:Nat),v8,v9])
   ⟨sH',(λi' hi'=>absurd hi' (by lia)),v8,v9,Iu⟩ (λi σ H2 _ gg=>Iv (gg.1 _ _ eg5)) ?_ ?_
  ·rintro j y σ H2 hy ⟨sH2,no2,v8,v9,rfl⟩
   unfold t6 at hy;rw[ER] at hy;obtain⟨b,hb,rfl⟩:=Hg.mp hy;have c5:=ch.same (s5.trans sH2);refine⟨_,Iu,_,Iu,_,Iu,_,Iu,_,Iu,_,Iu,p,l,h,as,ks,st,g,a,b,Iu,c5,fr,λv H6 s6' oc=>?_⟩;have s6:=s5.trans (sH2.trans s6')
   rcases oc with⟨en,rfl⟩|⟨t,cl,cs,k,es,rfl,et,ecl⟩
   ·refine⟨_,Iu,Iu,_,Iu,B9 ⟨sH2.trans s6',λj' hj' b' hb'=>?_,_,_,Iu⟩⟩
    by_cases z:j'=j
    ·subst z
     rw[hb] at hb'
     cases hb'
     exact en
    ·exact no2 j' (by lia) b' hb'
   have c6:=ch.same s6;refine⟨_,Iu,Iu,_,Iu,E9 ?_⟩;obtain⟨sd,ew,_⟩:=ac es;obtain⟨L,rfl,W⟩:=U4 ch.hin fr ch.few ew;obtain⟨s',x',pL,_⟩:=W.ex
   have lL:(L.map Call.c).length<=ks.length:=az pL.nodup λc hc=>by
    obtain⟨k,h1,h2⟩:=GX.mp hc;exact⟨k,(pL.mem k h1).1,h2⟩
   have:=ch.few
   refine⟨_,Iu,_,Iu,t,_,_,_,Iu,Iu,Iw et,Iu,_,Iu,_,Iu,l,cl,as,ks,L.map Call.c,a,b,Iu,c6.l,c6.c,up,Iv ecl,by lia,λc hc=>?_,λml mas ms H7 s7 em hms hlen hmm=>?_⟩
   ·obtain⟨k,h1,h2⟩:=GX.mp hc
    exact⟨k,(pL.mem k h1).1,h2⟩
   ·refine⟨_,Iu,t,_,_,_,Iu,Iu,Iw (s7 _ _ et),Iu,z_2,λt2 ht2=>?_⟩
    have s8:=g9 ht2 (.tup [.ref ml,.int k]);have em2:=re (a:=(a:Int)) (b:=(b:Int)) (λk hk=>⟨(pL.mem k hk).1,(pL.mem k hk).2.2⟩) hlen hmm;subst em2;exact q a b L k t2 ml mas _ (.some i j a b _ k ha hb es no1 no2) (λx hx=>(pL.mem x hx).1) (s6.trans (s7.trans s8)) c9 (s8 _ _ em) (t4.same (λb xs z=>s8 _ _ z) hms)
  ·rintro σ H2 ⟨sH2,no2,v8,v9,rfl⟩
   refine⟨sH2,λi' hi' a' ha' b' hb'=>?_,_,_,_,Iu⟩
   by_cases z:i'=i
   ·subst z
    rw[ha] at ha'
    cases ha'
    obtain⟨j,hj⟩:=GY hb';have hjl:=(s_.mp hj).1;exact no2 j (by unfold t6;rw[EV];exact hjl) b' hj
   ·exact no1 i' (by lia) a' ha' b' hb'
 ·rintro σ H2 ⟨sH2,no1,v7,v8,v9,rfl⟩
  refine q0 (.none λa ha b hb=>?_) H2 (s5.trans sH2);obtain⟨i,hi⟩:=GY ha;have hil:=(s_.mp hi).1;exact no1 i (by unfold t6;rw[EV];exact hil) a hi b hb
def bw:FnScope ["hall","calls","caller","ends","shut","free","goals","found"] ["hall","calls","caller","ends","shut"] (i4 (top 53)):=mkF
theorem si (T:Txt K mg)(Z:eY K mg zI zL zJ zM zN zR zT zH zO)(Dm:W8 P w K mg base 5 "ways" p_1 [.int 0] (sK K))(zV:i6 P w K mg base 2 "racks_of" p_24 (T0 K))(zX:i6 P w K mg base 1 "place_in" p_31 (R8 K j8.c))(Bm:i6 P w K mg base 8 "room_by_chain" p_38 (ie K))(Bd:O1 P w K mg base 6 "refuse_engaged" p_1 [] (kJ K zH))(D:dv K mg "room" (top 53) p_1 [.int 0]):O1 P w K mg base 9 "room" p_1 [.int 0] (bY K zH):=by
 refine D.okF bw (λ_ _ _ _ h=>?_) (λ_ _ _ _ _ H _ Q E hr h=>?_)
 ·obtain⟨a,l,e,h,as,ks,c,es,sh,rfl,_⟩:=h
  rfl
 obtain⟨a,l,e,h,as,ks,c,es,sh,rfl,ask,a34,q,qE⟩:=h;have o1:=ask.ok.c;have o2:=ask.ok.e
 refine⟨_,(d9 (j4 (i:=5) bw.nd Iu Ix (l9 Dm.all hr Iu (a8 (pv 0) (a8 (pv 1) (a8 (pv 2) (a8 (pv 3) (a8 (pv 4) c7 a9) a9) a9) a9) a9)))
  (d9 (n6 (k8 (gX K (C0.units0 hr)) (pv 5) (r6 c7) (m6 _)) (h9 (j5 (y7 (a8 (r6 c7) (a8 (i8 (u7 K) (pv 5) h7) c7 m5) bM)))) l7)
  (d9 (j4 (i:=6) bw.nd Iu Ix (l9 zV hr Iu (a8 (pv 0) (a8 (pv 3) c7 a9) a9)))
  (d9 (j4 (i:=7) bw.nd Iu Ix o5)
  (d9 (n6 (k8 E4 (j6 (y9 K) rfl T.zY HF (a8 (pv 6) c7 a9)) h7 (m6 _)) (h9 (j4 (i:=7) bw.nd Iu Ix (l9 Bm hr Iu (a8 (pv 0) (a8 (pv 1) (a8 (i8 (i5 K) (l9 zX hr Iu (a8 (pv 0) (a8 (pv 2) c7 a9) a9)) h7) (a8 (i8 (u7 K) (pv 6) h7) (a8 (pv 4) c7 a9) m5) m5) a9) a9)))) l7)
  (d9 (n6 (k8 M9 (pv 7) o5 (m6 _)) (h9 (C3 (cC 0 Bd (kU λ_ _ _ z=>z) hr Iu (a8 (pv 0) (a8 (pv 1) (a8 (pv 2) (a8 (pv 3) (a8 (pv 4) c7 a9) a9) a9) a9) a9)))) l7)
  (h9 (j5 (pv 7))))))))),?_⟩
 refine⟨_,Iu,_,Iu,_,Iu,_,Iu,_,Iu,a,l,e,h,as,ks,c,es,sh,Iu,ask,λfl H1 s1 hf0 ef=>?_⟩;refine⟨_,Iu,z_0,λnl hnl=>?_⟩
 have s2':=g9 hnl (.lst []);have s2:=s1.trans s2';have e2:=@c9 H1 nl (.lst []);have ef2:=s2' _ _ ef;generalize upd H1 nl _=H2 at s2 e2 ef2 ⊢;refine⟨fl,nl,_,Iu,Iu,Iv ef2,Iv e2,_,Iu,?_⟩
 cases ew:X1 h ks c es sh with
 | cons k ws =>
  rw[ew] at ef2;refine B4 (λz=>?_) (λz=>absurd rfl z);refine⟨z_0,λml hml=>?_⟩
  have s3':=g9 hml (.lst []);have s3:=s2.trans s3';have e3:=@c9 H2 ml (.lst []);have ef3:=s3' _ _ ef2;generalize upd H2 ml _=H3 at s3 e3 ef3 ⊢;refine⟨_,Iu,fl,_,_,_,Iu,Iu,Iv ef3,(show atI _ ((0:Nat):Int)=_ from C4 rfl),z_2,λt ht=>?_⟩
  have s4':=g9 ht (.tup [.ref ml,.int (k:Nat)]);exact q [] k t ml [] _ (.way k ws ew) (s3.trans s4') c9 (s4' _ _ e3) .nil
 | nil =>
  refine B4 (λz=>absurd z (by decide)) (λz=>?_)
  have k2:=ask.same s2;refine⟨_,Iu,_,Iu,a,e,h,es,Iu,k2.a,k2.ok,k2.e,k2.len,λgl H3 s3' hgl egl=>?_⟩;have s3:=s2.trans s3';have k3:=ask.same s3;refine⟨_,Iu,gl,_,Iu,.inl (Iv egl),Iu,_,Iu,?_⟩;rw[EV];have eng:∀(G:Hp),i9 H G->P6 h ks c es sh none->∀(dx nh:Addr)(nas:List Addr)(nlv:V)(o:Option (List Int))(H':Hp),i9 G H'->Q3 h ks c es sh o->X2 H' dx (F7 h ks c es) o nh nas nlv->Z0 G nas nlv->E (.ref zH) (some dx) H':=λG sG d dx nh nas nlv o H5 s5 lo en frs=>qE d dx nh nas nlv o H5 (sG.trans s5) lo en (frs.back sG);refine kX (λσ' G=>i9 H G/\((P6 h ks c es sh none/\σ'=[Iq a,Iq l,Ir c,Iq e,Ir sh,Iq fl,Iq gl,some .non])\/∃t,Q (.ref t) G/\σ'=[Iq a,Iq l,Ir c,Iq e,Ir sh,Iq fl,Iq gl,Iq t])) (λσ' G z=>?_) (λhb key=>?_) (λhb key=>?_)
  ·obtain⟨sG,⟨d,rfl⟩|⟨t,qt,rfl⟩⟩:=z
   ·refine⟨_,Iu,Iu,_,Iu,E9 ?_⟩
    exact⟨_,Iu,_,Iu,_,Iu,_,Iu,_,Iu,a,l,e,h,as,ks,c,es,sh,Iu,ask.same sG,λdx nh nas nlv o H5 s5 lo en frs=>eng G sG d dx nh nas nlv o H5 s5 lo en frs⟩
   ·exact⟨_,Iu,Iu,_,Iu,B9 ⟨_,Iu,qt⟩⟩
  ·have hb1:(i7 h es).length=1:=by
    have:=GT hb
    injection this with this
    lia
   obtain⟨g,hg⟩:=List.length_eq_one_iff.mp hb1;obtain⟨x,hx,hxg⟩:=x6.mp (show g∈i7 h es by rw[hg];exact n_ ..)
   have x1:=a34.er x hx;have hst:0<=c/h.c/\c/h.c<h.i:=⟨Ic a34.cr.1 (by lia),Ie (by lia) a34.cr.2⟩
   have hgr:0<=g/\g<h.o:=by
    rw[<- hxg];exact⟨Ic x1.1 (by lia),Ie (by lia) x1.2⟩
   rw[hg] at egl;refine⟨_,Iu,_,Iu,_,Iu,_,Iu,a,h,c,Iu,k3.a,k3.ok,λp hp=>?_⟩;have s4':=g9 hp (.tup [.int (c/h.c),.int (c%h.c)]);have s4:=s3.trans s4';have e4:=@c9 H3 p (.tup [.int (c/h.c),.int (c%h.c)]);have eg4:=s4' _ _ egl;generalize upd H3 p _=H4 at s4 e4 eg4 ⊢;have k4:=ask.same s4;refine⟨p,_,_,_,Iu,Iu,Iw e4,Iu,_,Iu,gl,_,_,_,Iu,Iu,Iv eg4,(show atI _ ((0:Nat):Int)=_ from C4 rfl),_,Iu,a,l,h,as,ks,c/h.c,g,sh,Iu,⟨k4.a,k4.ok,k4.l,k4.c,k4.hin,k4.few⟩,a34.fr,a34.up,hst,hgr,(λrc H5 s5=>?_),λa0 b0 L k t ml mas H5 rc hL s5 et em hms=>?_⟩
   ·exact key _ _ ⟨s4.trans s5,.inl ⟨.none ew λg' hg'=>by rw[hg] at hg';cases hg';exact rc,Iu⟩⟩
   ·exact key _ _ ⟨s4.trans s5,.inr ⟨t,q _ k t ml mas H5 (.chain g a0 b0 L k ew hg rc hL) (s4.trans s5) et em hms,Iu⟩⟩
  ·have hb1:(i7 h es).length≠1:=λz=>by
    have:=HG hb
    exact this (by rw[z];rfl)
   exact key _ _ ⟨s3,.inl ⟨.none ew λg' hg'=>absurd (by rw[hg'];rfl) hb1,Iu⟩⟩
def O0:FnScope ["hall","calls","caller","ends","shut","found","behind"] ["hall","calls","caller","ends","shut"] (i4 (top 54)):=mkF
def we (T:Txt K mg)(Z:eY K mg zI zL zJ zM zN zR zT zH zO)(Bq:i6 P w K mg base 5 "refuse_wrong" p_48 (kF K))(Bw:i6 P w K mg base 4 "refuse_busy" p_50 (pG K))(Be:O1 P w K mg base 9 "room" p_1 [.int 0] (bY K zH))(De:i6 P w K mg base 5 "moved" p_53 (pQ K))(BY:i6 P w K mg base 1 "with_call" p_40 (tX K))(D:dv K mg "joined_turning" (top 54) p_1 [.int 0]):O1 P w K mg base 10 "joined_turning" p_1 [.int 0] (sU K zH):=by
 refine D.okF O0 (λ_ _ _ _ h=>?_) (λ_ _ _ _ _ H _ Q E hr h=>?_)
 ·obtain⟨a,l,e,h,as,ks,c,es,sh,rfl,_⟩:=h
  rfl
 obtain⟨a,l,e,h,as,ks,c,es,sh,rfl,ask,el,h63,ey,w2,a34,idle,q,qE⟩:=h;have c0:=a34.cr
 have w1:A9 (.int c) 0 (h.i*h.c-1)=true:=by
  show(decide (0<=c)&&decide (c<=h.i*h.c-1))=true
  rw[Fm c0.1,Fm (show c<=h.i*h.c-1 by lia)]
  rfl
 refine⟨_,(d9 (C3 (l9 Bq hr Iu (a8 (pv 0) (a8 (pv 2) (a8 (pv 3) c7 a9) a9) a9)))
  (d9 (C3 (l9 Bw hr Iu (a8 (pv 1) (a8 (pv 2) (a8 (pv 3) c7 a9) a9) a9)))
  (d9 (j4 (i:=5) O0.nd Iu Ix (cC 1 Be (kU λ_ _ _ z=>z) hr Iu (a8 (pv 0) (a8 (pv 1) (a8 (pv 2) (a8 (pv 3) (a8 (pv 4) c7 a9) a9) a9) a9) a9)))
  (d9 (j4 (i:=6) O0.nd Iu Ix (l9 De hr Iu (a8 (pv 0) (a8 (pv 1) (a8 (i8 (i5 K) (pv 5) h7) c7 m5) a9) a9)))
  (h9 (j5 (y7 (a8 (i8 (i5 K) (pv 5) h7) (a8 (l9 BY hr Iu (a8 (pv 6) (a8 (pv 2) (a8 (pv 3) (a8 (i8 (i5 K) (pv 5) h7) c7 m5) a9) a9) a9)) c7 n9) m5)))))))),?_⟩
 refine⟨_,Iu,_,Iu,_,Iu,a,h,.int c,.ref e,_,Iu,ask.a,ask.ok,.int c,ey,w1,w2,λH1 s1=>?_⟩;have k1:=ask.same s1;refine⟨_,Iu,_,Iu,_,Iu,l,e,as,ks,c,es,Iu,k1.l,k1.c,k1.e,ask.len,idle,λH2 s2'=>?_⟩;have s2:=s1.trans s2';refine⟨_,Iu,_,Iu,_,Iu,_,Iu,_,Iu,a,l,e,h,as,ks,c,es,sh,Iu,ask.same s2,a34,(λms k t ml mas H3 due s3' et em hms=>?_),λdue dx nh nas nlv o H3 s3 lo en frs=>qE due dx nh nas nlv o H3 (s2.trans s3) lo en (frs.back s2)⟩;have s3:=s2.trans s3';have k3:=ask.same s3;obtain⟨ri,lm⟩:=due.room ask.ok ask.hin ask.few a34;refine⟨_,Iu,_,Iu,_,Iu,t,_,_,_,Iu,Iu,Iw et,Iu,a,l,ml,h,as,mas,ks,ms,Iu,k3.a,k3.ok,k3.l,k3.c,k3.hin,a34.up,k3.few,Iv em,hms,by lia,λ_ bl bs H4 s4' ebl hbs=>?_,λz=>absurd ri.good z⟩
 have s4:=s3.trans s4';have k4:=ask.same s4;have et4:=s4' _ _ et
 have bc:∀κ∈x9 ks ms,∃κ0∈ks,κ.c=κ0.c:=λκ hκ=>by
  obtain⟨κ0,h0,rfl⟩:=GX.mp hκ;exact⟨κ0,h0,Iu⟩
 refine⟨_,Iu,t,_,_,_,Iu,Iu,Iw et4,Iu,_,Iu,_,Iu,_,Iu,_,Iu,t,_,_,_,Iu,Iu,Iw et4,Iu,bl,e,bs,x9 ks ms,c,k,es,Iu,ebl,hbs,by unfold x9;rw[EV];exact h63,ri.good.2.imp (λ{x y} z=>by have:=z.c;lia),λκ hκ=>?_,k4.e,ask.len,λr cs ks' es' H5 s5' er hcs pe se pk sk=>?_⟩
 ·obtain⟨κ0,h0,e0⟩:=bc κ hκ
  rw[e0];exact idle.1 κ0 h0
 refine⟨z_2,λt2 ht2=>?_⟩
 have s6':=g9 ht2 (.tup [.ref ml,.ref r]);have s56:=s5'.trans s6';exact q ms k t2 ml r mas cs ks' es' _ due (s4.trans s56) c9 (s56 _ _ (s4' _ _ em)) (t4.same (λb xs z=>s56 _ _ (s4' _ _ z)) hms) (s6' _ _ er) (m8.same (λb xs z=>s6' _ _ z) hcs) pe se pk sk
def Y1 (ha:W7 h as ks kvs)(sd:Bool)(r k:Int):(A8 kvs (T7 sd r k)).isSome=true↔∃y∈ks,z9 h sd r k y=true:=by
 rcases ha sd r k with⟨e,n⟩|⟨j,a,y,_,hy,hb,e⟩
 ·rw[e]
  constructor
  ·intro z;cases z
  ·rintro⟨y,hy,z⟩;rw[n y hy] at z;cases z
 ·rw[e]
  exact⟨λ_=>⟨y,ET hy,hb⟩,λ_=>rfl⟩
def hW {sh:Int}(ha:W7 h as ks kvs)(hin:∀k∈ks,k.In h)(fr:ks.Pairwise (D7 h))(sd:Bool){r:Int}(h0:0<=r) :
  (o4 h sh).filter (λ(k:Nat)=>!(A8 kvs (T7 sd r (k:Int))).isSome)=E6 h ks sh (if sd then M8 else pIn) r:=by
 unfold E6;refine List.filter_congr λk hk=>?_;have i:=fE (sh:=sh) sd hin fr h0 (k:=k);unfold E6 at i;rw[i_] at i;rw[Ew]
 constructor
 ·intro z
  refine(i.mpr ⟨hk,λy hy=>?_⟩).2;rw[Gq]
  intro b
  rw[(Y1 ha sd r k).mpr ⟨y,hy,b⟩] at z
  cases z
 ·intro z
  have n:=(i.mp ⟨hk,z⟩).2;rw[Bool.not_eq_true'];rw[Gq]
  intro b
  obtain⟨y,hy,c⟩:=(Y1 ha sd r k).mp b;rw[n y hy] at c
  cases c
def iO (K:Frag):Sp:=λvs H Q _=>∃(p l hd pl:Addr)(h:j8)(as:List Addr)(ks:List Call)(kvs:List (List Key×V))(st g a b:Int),vs=[.ref p,.ref hd,.ref pl,.int a,.int b]/\C2 K H p l h as ks/\ks.Pairwise (D7 h)/\H hd=some (.dT kvs)/\W7 h as ks kvs/\H pl=some (.tup [.int st,.int g]) /\
 ∀(v:V)(H':Hp),i9 H H'->xT H' v (E7 h ks st g a b)->Q v H'
def uL (H:Hp)(v:V)(o:Option (List Mv×Int)):Prop:=(o=none/\v=.non)\/∃t ml mas ms k,o=some (ms,k)/\v=.ref t/\H t=some (.tup [.ref ml,.int k])/\H ml=some (.lst (mas.map V.ref))/\t4 H mas ms
theorem uL.same (s:i9 H H')(q:uL H v o):uL H' v o:=by
 rcases q with q|⟨t,ml,mas,ms,k,e,ev,e1,e2,e3⟩
 ·exact .inl q
 ·exact .inr ⟨t,ml,mas,ms,k,e,ev,s _ _ e1,s _ _ e2,t4.same (λb xs z=>s _ _ z) e3⟩
def mz (K:Frag):Sp:=λvs H Q _=>∃(p l hd pl:Addr)(h:j8)(as:List Addr)(ks:List Call)(kvs:List (List Key×V))(st g sh:Int),vs=[.ref p,.ref hd,.ref pl,.int sh,.ref l]/\C2 K H p l h as ks/\ks.Pairwise (D7 h)/\(ks.Pairwise λk k'=>k.c<k'.c)/\H hd=some (.dT kvs)/\W7 h as ks kvs/\H pl=some (.tup [.int st,.int g])/\(0<=st/\st<h.i)/\(0<=g/\g<h.o) /\
 (Y6 (λa b=>E7 h ks st g a b) (E6 h ks sh pIn st) (E6 h ks sh M8 g) none->∀H',i9 H H'->Q .non H') /\
 ∀(a b:Nat)(L:List Call)(k:Int)(t ml:Addr)(mas:List Addr)(H':Hp),Y6 (λa b=>E7 h ks st g a b) (E6 h ks sh pIn st) (E6 h ks sh M8 g) (some (a,b,L.map Call.c,k))->(∀x∈L,x∈ks)->i9 H H'->H' t=some (.tup [.ref ml,.int k])->H' ml=some (.lst (mas.map V.ref))->t4 H' mas (L.map (exM a b))->Q (.ref t) H'
def Q0:FnScope ["_law_hall_here","_law_held_here","_law_places","_law_a","_law_b","_law_out","_law_back"] ["_law_hall_here","_law_held_here","_law_places","_law_a","_law_b"] (i4 (top 70)):=mkF
def mQ (T:Txt K mg)(AX:i6 P w K mg base 1 "_law_chain" p_14 (fR K))(D:Def K mg "_law_shorter" (top 70) p_18):i6 P w K mg base 2 "_law_shorter" p_18 (iO K):=by
 refine D.ok Q0 (λ_ _ _ _ h=>?_) (λ_ _ _ _ _ H _ Q E hr h=>?_)
 ·obtain⟨p,l,hd,pl,h,as,ks,kvs,st,g,a,b,rfl,_⟩:=h
  rfl
 obtain⟨p,l,hd,pl,h,as,ks,kvs,st,g,a,b,rfl,ch,fr,ehd,hAll,epl,q⟩:=h
 refine⟨_,(d9 (j4 (i:=5) Q0.nd Iu Ix (l9 AX hr Iu (a8 (pv 0) (a8 (pv 1) (a8 (i8 (i5 K) (pv 2) h7) (a8 (pv 3) (a8 (pv 4) (a8 F2 c7 m9) a9) a9) m5) a9) a9)))
  (d9 (j4 (i:=6) Q0.nd Iu Ix (l9 AX hr Iu (a8 (pv 0) (a8 (pv 1) (a8 (i8 (i5 K) (pv 2) h7) (a8 (pv 3) (a8 (pv 4) (a8 F2 c7 m9) a9) a9) m5) a9) a9)))
  (d9 (n6 (PW.pt (cJ (k8 M9 (pv 5) o5 (m6 _)) (aA (k8 M9 (pv 6) o5 (m6 _))))) (h9 (j5 o5)) l7)
  (d9 (n6 (k8 M9 (pv 6) o5 (m6 _)) (h9 (j5 (y7 (a8 (pv 5) (a8 (pv 3) c7 a9) a9)))) l7)
  (d9 (n6 (PW.pt (cJ (k8 L5 (pv 5) o5 (m6 _)) (aA (k8 jM (j6 (y9 K) rfl T.zY HF (a8 (pv 5) c7 a9)) (j6 (y9 K) rfl T.zY HF (a8 (pv 6) c7 a9)) (m6 _))))) (h9 (j5 (y7 (a8 (pv 5) (a8 (pv 3) c7 a9) a9)))) l7)
  (h9 (j5 (y7 (a8 (pv 6) (a8 (pv 4) c7 a9) a9))))))))),?_⟩
 refine⟨_,Iu,_,Iu,_,Iu,pl,_,_,_,Iu,Iu,Iw epl,Iu,_,Iu,_,Iu,p,l,hd,h,as,ks,kvs,g,a,b,true,Iu,ch,fr,ehd,hAll,λv1 H1 s1 f1 o1=>?_⟩;refine⟨_,Iu,_,Iu,_,Iu,pl,_,_,_,Iu,Iu,Iw (s1 _ _ epl),Iu,_,Iu,_,Iu,p,l,hd,h,as,ks,kvs,st,a,b,false,Iu,ch.same s1,fr,s1 _ _ ehd,hAll,λv2 H2 s2' f2 o2=>?_⟩;have s2:=s1.trans s2';unfold E7 at q
 rcases o1 with⟨eF,rfl⟩|⟨l1,F,eF,rfl,e1⟩
 ·rw[eF] at q
  refine⟨_,Iu,Iu,_,Iu,E9 ?_⟩
  rcases o2 with⟨eN,rfl⟩|⟨l2,N,eN,rfl,e2⟩
  ·rw[eN] at q
   exact⟨_,Iu,Iu,_,Iu,E9 (q _ H2 s2 (.inl ⟨Iu,Iu⟩))⟩
  ·rw[eN] at q
   refine⟨_,Iu,Iu,_,Iu,B9 ?_⟩;refine⟨_,Iu,Iu,_,Iu,B9 ?_⟩;refine⟨_,Iu,Iu,_,Iu,B9 (B9 ?_)⟩;refine⟨_,Iu,_,Iu,z_2,λt ht=>?_⟩
   have s3:=g9 ht (.tup [.ref l2,.int b]);exact q _ _ (s2.trans s3) (.inr ⟨t,l2,N,b,Iu,Iu,c9,s3 _ _ e2⟩)
 ·have e1':=s2' _ _ e1
  rw[eF] at q;refine⟨_,Iu,Iu,_,Iu,B9 (B9 ?_)⟩
  rcases o2 with⟨eN,rfl⟩|⟨l2,N,eN,rfl,e2⟩
  ·rw[eN] at q
   refine⟨_,Iu,Iu,_,Iu,E9 ⟨_,Iu,_,Iu,z_2,λt ht=>?_⟩⟩
   have s3:=g9 ht (.tup [.ref l1,.int a]);exact q _ _ (s2.trans s3) (.inr ⟨t,l1,F,a,Iu,Iu,c9,s3 _ _ e1'⟩)
  ·rw[eN] at q
   refine⟨_,Iu,Iu,_,Iu,B9 ?_⟩;refine⟨_,Iu,Iu,_,Iu,E9 ?_⟩;refine⟨_,Iu,l1,_,Iu,.inl (Iv e1'),_,Iu,l2,_,Iu,.inl (Iv e2),_,_,Iu,Iu,_,Iu,B4 (λz=>?_) (λz=>?_)⟩
   ·have z':F.length<=N.length:=by
     have:=GT z
     rw[EV,EV] at this;lia
    refine⟨_,Iu,_,Iu,z_2,λt ht=>?_⟩
    have s3:=g9 ht (.tup [.ref l1,.int a]);exact q _ _ (s2.trans s3) (.inr ⟨t,l1,F,a,Ik z',Iu,c9,s3 _ _ e1'⟩)
   ·have z':¬F.length<=N.length:=λy=>z (Fm (by rw[EV,EV];lia))
    refine⟨_,Iu,_,Iu,z_2,λt ht=>?_⟩
    have s3:=g9 ht (.tup [.ref l2,.int b]);exact q _ _ (s2.trans s3) (.inr ⟨t,l2,N,b,Il z',Iu,c9,s3 _ _ e2⟩)
def iT {K:Frag}{rs:List Nat}{g:TG}{tt:TT}{Q:VK}(f:Nat->Bool)(few:rs.length<=64)(hR:SqL K H a (t6 rs))
  (hs:∀(k:Nat)(v:Option V)(G:Hp)(A:V->L2.St->Hp->Prop)(B:L2.St->Hp->Prop),i9 H G->(f k=true->∀G2 v',i9 G G2->A (.int k) [v',some x,some y] G2)->(f k=false->∀G2 v',i9 G G2->B [v',some x,some y] G2)->g (.int k) [v,some x,some y] G λσ2 H2=>tt σ2 H2 λok H3=>if ok=true then te σ2 H3 λz H4=>A z σ2 H4 else B σ2 H3)
  (hd:∀l G,i9 H G->G l=some (.lst (t6 (rs.filter f)))->Q (.ref l) G):aj (Itl K a) g tt te Q [none,some x,some y] H:=by
 have ln:(t6 rs).length=rs.length:=EV _
 refine A2 (xs:=t6 rs) (λi acc σ G=>i9 H G/\acc=t6 ((rs.take i).filter f)/\∃v,σ=[v,some x,some y])
  ⟨i9.refl _,Iu,none,Iu⟩ (l_ (k9 (by rw[ln];lia))) (λi acc σ H' g=>?_) (λi acc σ H' _ g=>g.1.seq hR) ?_ ?_
 ·obtain⟨_,rfl,_⟩:=g
  unfold t6;rw[EV];exact k_ (HQ _ _) (by rw[EM];lia)
 ·rintro i z acc σ G hz ⟨sG,rfl,v,rfl⟩
  unfold t6 at hz;rw[ER] at hz;obtain⟨k,hk,rfl⟩:=Hg.mp hz
  have step:t6 ((rs.take (i+1)).filter f)=t6 ((rs.take i).filter f)++(if f k=true then [V.int (k:Int)] else []):=by
   unfold t6;rw[HA,hk,HR,HE]
   by_cases c:f k=true
   ·rw[Ik c]
    simp[c]
   ·rw[Il c]
    simp[c]
  refine hs k v G _ _ sG (λc G2 v' s2=>?_) (λc G2 v' s2=>?_)
  ·exact⟨sG.trans s2,by rw[step,Ik c],_,Iu⟩
  ·exact⟨sG.trans s2,by rw[step,c,Il (by decide),EH],_,Iu⟩
 ·rintro acc σ G ⟨sG,rfl,v,rfl⟩ l hl
  rw[ln,HB];exact hd l _ (sG.trans (g9 hl _)) c9
def C6:FnScope ["_law_hall_here","_law_held_here","_law_places","_law_shut","_law_calls_here","_law_ready","_law_a","_law_b","_law_best_here","_law_moves","_law_caller","_law_mine"] ["_law_hall_here","_law_held_here","_law_places","_law_shut","_law_calls_here"] (i4 (top 71)):=mkF
def uy (T:Txt K mg)(Br:i6 P w K mg base 2 "_law_shorter" p_18 (iO K))(D:Def K mg "_law_found" (top 71) p_10):i6 P w K mg base 3 "_law_found" p_10 (mz K):=by
 refine D.ok C6 (λ_ _ _ _ h=>?_) (λ_ _ _ _ _ H _ Q E hr h=>?_)
 ·obtain⟨p,l,hd,pl,h,as,ks,kvs,st,g,sh,rfl,_⟩:=h
  rfl
 obtain⟨p,l,hd,pl,h,as,ks,kvs,st,g,sh,rfl,ch,fr,up,ehd,hAll,epl,hst,hg,q0,q⟩:=h;have b3:=ch.ok.m;have ol24:(o4 h sh).length<=24:=by have:=bZ h sh;lia
 refine⟨_,(d9 (bB (i:=5) (own:=["_law_k"]) (fr:=[(3,"_law_shut")]) rfl C6.nd rfl rfl (mkC ["_law_hall_here","_law_held_here","_law_places","_law_shut","_law_calls_here","_law_ready","_law_a","_law_b","_law_best_here","_law_moves","_law_caller","_law_mine"] (i4 (top 71))) (C8 rfl T.zZ (a8 (i8 (i5 K) (pv 0) h7) c7 m5)) (λcl C s H ex=>⟨(l8 (i:=0) (show(["_law_k","_law_shut"]:List Str).Nodup from by decide +kernel) Iu Ix Iy),(K1 (k8 E4 (l6 eQ (l6 fe (pv 1) (pv 0)) h7) h7 (m6 _))),(pv 0)⟩) rfl)
  (d9 (w5 HI rfl (m7 K (B3 (own:=["_law_k"]) (fr:=[(2,"_law_places"),(1,"_law_held_here")]) rfl (mkC ["_law_hall_here","_law_held_here","_law_places","_law_shut","_law_calls_here","_law_ready","_law_a","_law_b","_law_best_here","_law_moves","_law_caller","_law_mine"] (i4 (top 71))) (m7 K (pv 5)) (λcl C s H ex=>⟨(l8 (i:=0) (show(["_law_k","_law_places","_law_held_here"]:List Str).Nodup from by decide +kernel) Iu Ix Iy),(K1 (bg (iB (Q4 hr) (y7 (a8 U1 (a8 (i8 (i5 K) (pv 1) h7) (a8 (pv 0) c7 a9) m5) m9)) (pv 2)))),(pv 0)⟩))) (l8 (i:=6) C6.nd Iu Ix)
  (h9 (w5 HI rfl (m7 K (B3 (own:=["_law_k"]) (fr:=[(2,"_law_places"),(1,"_law_held_here")]) rfl (mkC ["_law_hall_here","_law_held_here","_law_places","_law_shut","_law_calls_here","_law_ready","_law_a","_law_b","_law_best_here","_law_moves","_law_caller","_law_mine"] (i4 (top 71))) (m7 K (pv 5)) (λcl C s H ex=>⟨(l8 (i:=0) (show(["_law_k","_law_places","_law_held_here"]:List Str).Nodup from by decide +kernel) Iu Ix Iy),(K1 (bg (iB (Q4 hr) (y7 (a8 U1 (a8 (i8 (i5 K) (pv 1) h7) (a8 (pv 0) c7 a9) m5) m9)) (pv 2)))),(pv 0)⟩))) (l8 (i:=7) C6.nd Iu Ix)
  (d9 (j4 (i:=8) C6.nd Iu Ix (l9 Br hr Iu (a8 (pv 0) (a8 (pv 1) (a8 (pv 2) (a8 (pv 6) (a8 (pv 7) c7 a9) a9) a9) a9) a9)))
  (h9 (n6 (k8 L5 (pv 8) o5 (m6 _)) (d9 (j4 (i:=9) C6.nd Iu Ix (r6 c7))
  (d9 (w5 HI rfl (m7 K (i8 (i5 K) (pv 8) h7)) (l8 (i:=10) C6.nd Iu Iy)
  (d9 (j4 (i:=11) C6.nd Iu Ix (i8 (u7 K) (B3 (own:=["_law_call"]) (fr:=[(10,"_law_caller")]) rfl (mkC ["_law_hall_here","_law_held_here","_law_places","_law_shut","_law_calls_here","_law_ready","_law_a","_law_b","_law_best_here","_law_moves","_law_caller","_law_mine"] (i4 (top 71))) (m7 K (pv 4)) (λcl C s H ex=>⟨(l8 (i:=0) (show(["_law_call","_law_caller"]:List Str).Nodup from by decide +kernel) Iu Ix Iy),(K1 (k8 E4 (i8 (i5 K) (pv 0) h7) (pv 1) (m6 _))),(pv 0)⟩)) h7))
  (h9 (C3 (F8 K HJ HK HL B5 (pv 9) (a8 (y7 (a8 (pv 10) (a8 (i8 (i5 K) (pv 11) h7) (a8 (l6 cB (l6 L9 (pv 6) (pv 7)) (i8 (i5 K) (pv 11) h7)) c7 Q1) m5) a9)) c7 N8))))))
  (h9 (j5 (y7 (a8 (pv 9) (a8 (i8 (i5 K) (pv 8) h7) c7 m5) a9)))))) l7))))))
  (h9 (j5 o5)))),?_⟩
 refine⟨_,Iu,p,_,_,_,Iu,Iu,ch.p,Iu,_,Iu,by show -(2^62)<=h.m;lia,by show h.m<2^62;lia,?_⟩
 refine bo (λi acc σ H'=>H'=H/\acc=t6 ((List.range i).filter (r9 sh))/\∃v,σ=[v,Ir sh])
  ⟨Iu,Iu,none,Iu⟩ (by show h.m.toNat<=16777216;lia) (λi acc σ H' g=>?_) ?_ ?_
 ·obtain⟨_,rfl,_⟩:=g
  unfold t6;rw[EV]
  have:=HQ (r9 sh) (List.range i)
  rw[Hx] at this;exact this
 ·rintro i acc σ H' hi ⟨rfl,rfl,v,rfl⟩
  rw[HN]
  have step:t6 ((List.range (i+1)).filter (r9 sh))=t6 ((List.range i).filter (r9 sh))++(if r9 sh i=true then [V.int (i:Int)] else []):=by
   unfold t6;rw[Hz,HR,HE]
   by_cases c:r9 sh i=true
   ·rw[Ik c]
    simp[c]
   ·rw[Il c]
    simp[c]
  refine⟨_,Iu,_,Iu,_,_,Iu,Iu,by lia,_,_,Iu,Iu,Iu,_,Iu,?_⟩
  refine B4 (λc=>?_) (λc=>?_)
  ·have c':r9 sh i=true:=by
    unfold r9
    simpa using c
   refine⟨_,Iu,Iu,?_,_,Iu⟩;rw[step,Ik c']
  ·have c':¬r9 sh i=true:=by
    unfold r9
    simpa using c
   refine⟨Iu,?_,_,Iu⟩;rw[step,Il c',EH]
 rintro acc σ H' ⟨rfl,rfl,v,rfl⟩ rl hrl
 have s1:=g9 hrl (.lst (t6 (o4 h sh)));have e1:=@c9 H' rl (.lst (t6 (o4 h sh)))
 change H' rl=none at hrl
 generalize hH1:upd H' rl (.lst (t6 (o4 h sh)))=H1 at s1 e1;refine show _ from ?_;rw[show upd H' rl (.lst (t6 ((List.range h.m.toNat).filter (r9 sh))))=H1 from hH1];have dn:∀(sd:Bool)(r:Int)(k:Nat)(G:Hp)(tp:Addr),i9 H1 G->G tp=some (.tup ((T7 sd r k).map kV))->R9 G hd (.ref tp) (A8 kvs (T7 sd r k)):=λsd r k G tp sG e=>R9.t (sG _ _ (s1 _ _ ehd)) e;refine⟨_,Iu,rl,Iu,⟨_,Iv e1⟩,?_⟩;refine iT (λ(k:Nat)=>!(A8 kvs (T7 false st (k:Int))).isSome) (by lia) (Iv e1) (λk v G A B sG yA yB=>?_) (λal H2 s2' e2=>?_)
 ·refine⟨_,Iu,pl,_,_,_,Iu,Iu,Iw (sG _ _ (s1 _ _ epl)),Iu,_,Iu,z_3,λtp htp=>?_⟩
  obtain⟨G4,Ip,s4,e4⟩:=Io htp (.tup [.str "in",.int st,.int (k:Nat)]);rw[Ip];refine⟨_,Iu,hd,_,Iu,dn false st k G4 tp (sG.trans s4) e4,_,Iu,B4 (λc=>?_) (λc=>?_)⟩
  ·exact⟨_,Iu,yA c _ _ s4⟩
  ·exact yB (Gq.mpr c) _ _ s4
 rw[hW hAll ch.hin fr false hst.1] at e2;have s2:=s1.trans s2';have al2:H2 al=some (.lst (t6 (E6 h ks sh pIn st))):=e2;generalize E6 h ks sh pIn st=IA at q q0 al2;refine⟨al,Iu,⟨_,Iv al2⟩,?_⟩
 refine o9 (xs:=t6 IA) (λi σ G=>i9 H2 G/\(∀i'<i,∀a',IA[i']? = some a'->∀b'∈E6 h ks sh M8 g,E7 h ks st g a' b'=none)/\∃v6 v7 v8 v9 v10 v11,σ=[Iq p,Iq hd,Iq pl,Ir sh,Iq l,Iq rl,v6,v7,v8,v9,v10,v11])
  ⟨i9.refl _,(λi' hi'=>absurd hi' (by lia)),none,none,none,none,none,none,Iu⟩ (λi σ G _ gg=>Iv (gg.1 _ _ al2)) ?_ ?_
 ·rintro i x σ G hx ⟨sG,no1,v6,v7,v8,v9,v10,v11,rfl⟩
  unfold t6 at hx;rw[ER] at hx;obtain⟨a,ha,rfl⟩:=Hg.mp hx;have e1G:=sG _ _ (s2' _ _ e1);have sG1:=s2'.trans sG;refine⟨_,Iu,rl,Iu,⟨_,Iv e1G⟩,?_⟩;refine iT (λ(k:Nat)=>!(A8 kvs (T7 true g (k:Int))).isSome) (by lia) (Iv e1G) (λk v G3 A B sG3 yA yB=>?_) (λgl H3 s3' e3=>?_)
  ·refine⟨_,Iu,pl,_,_,_,Iu,Iu,Iw (sG3 _ _ (sG1 _ _ (s1 _ _ epl))),Iu,_,Iu,z_3,λtp htp=>?_⟩
   obtain⟨G4,Ip,s4,e4⟩:=Io htp (.tup [.str "out",.int g,.int (k:Nat)]);rw[Ip];refine⟨_,Iu,hd,_,Iu,dn true g k G4 tp (sG1.trans (sG3.trans s4)) e4,_,Iu,B4 (λc=>?_) (λc=>?_)⟩
   ·exact⟨_,Iu,yA c _ _ s4⟩
   ·exact yB (Gq.mpr c) _ _ s4
  rw[hW hAll ch.hin fr true hg.1] at e3;have gl3:H3 gl=some (.lst (t6 (E6 h ks sh M8 g))):=e3;generalize E6 h ks sh M8 g=IB at q q0 gl3 no1 ⊢;have s3:=sG.trans s3';refine⟨gl,Iu,⟨_,Iv gl3⟩,?_⟩
  refine o9 (xs:=t6 IB) (λj σ G=>i9 H3 G/\(∀j'<j,∀b',IB[j']? = some b'->E7 h ks st g a b'=none)/\∃v7 v8 v9 v10 v11,σ=[Iq p,Iq hd,Iq pl,Ir sh,Iq l,Iq rl,Ir (a:Nat),v7,v8,v9,v10,v11])
   ⟨i9.refl _,(λi' hi'=>absurd hi' (by lia)),v7,v8,v9,v10,v11,Iu⟩ (λi σ G _ gg=>Iv (gg.1 _ _ gl3)) ?_ ?_
  ·rintro j y σ G5 hy ⟨sG5,no2,v7,v8,v9,v10,v11,rfl⟩
   unfold t6 at hy;rw[ER] at hy;obtain⟨b,hb,rfl⟩:=Hg.mp hy;have s5:=s2.trans (s3.trans sG5);refine⟨_,Iu,_,Iu,_,Iu,_,Iu,_,Iu,p,l,hd,pl,h,as,ks,kvs,st,g,a,b,Iu,ch.same s5,fr,s5 _ _ ehd,hAll,s5 _ _ epl,λv H6 s6' oc=>?_⟩;have s6:=s5.trans s6'
   rcases oc with⟨en,rfl⟩|⟨t,cl,cs,k,es,rfl,et,ecl⟩
   ·refine⟨_,Iu,Iu,_,Iu,B9 ⟨sG5.trans s6',λj' hj' b' hb'=>?_,_,_,_,_,_,Iu⟩⟩
    by_cases z:j'=j
    ·subst z
     rw[hb] at hb'
     cases hb'
     exact en
    ·exact no2 j' (by lia) b' hb'
   have c6:=ch.same s6;obtain⟨sd,ew,_⟩:=ac es;obtain⟨L,rfl,W⟩:=U4 ch.hin fr ch.few ew;obtain⟨s',x',pL,_⟩:=W.ex
   have lL:(L.map Call.c).length<=ks.length:=az pL.nodup λc hc=>by
    obtain⟨k,h1,h2⟩:=GX.mp hc;exact⟨k,(pL.mem k h1).1,h2⟩
   rw[EV] at lL;have few:=ch.few;have qq:=λ(t2 ml:Addr) (mas:List Addr) (H':Hp)=>q a b L k t2 ml mas H' (.some i j a b _ k ha hb es no1 no2) (λx hx=>(pL.mem x hx).1);clear q q0;refine⟨_,Iu,Iu,_,Iu,E9 ?_⟩;refine⟨z_0,λml hml=>?_⟩
   obtain⟨H7,Ip,s7,e7⟩:=Io hml (.lst []);rw[Ip];refine⟨_,Iu,t,_,_,_,Iu,Iu,Iw (s7 _ _ et),Iu,cl,Iu,⟨_,Iv (s7 _ _ ecl)⟩,?_⟩
   refine o9 (xs:=(L.map Call.c).map V.int) (λn σ G=>i9 H6 G/\(∃mas:List Addr,G ml=some (.lst (mas.map V.ref))/\t4 G mas ((L.take n).map (exM a b)))/\∃v10 v11,σ=[Iq p,Iq hd,Iq pl,Ir sh,Iq l,Iq rl,Ir (a:Nat),Ir (b:Nat),Iq t,Iq ml,v10,v11])
    ⟨s7,⟨[],e7,.nil⟩,v10,v11,Iu⟩ (λi σ G _ gg=>Iv (gg.1 _ _ ecl)) ?_ ?_
   ·rintro n y σ G hy ⟨sG,⟨mas,eml,hmas⟩,v10,v11,rfl⟩
    rw[GV,ER] at hy;obtain⟨x,hx,rfl⟩:=Hg.mp hy;have cG:=c6.same sG;have hxk:=(pL.mem x (ET hx)).1;have la:=d_ cG.c;refine⟨_,Iu,l,Iu,⟨_,cG.l⟩,?_⟩
    refine A2 (xs:=as.map V.ref) (λi acc σ G'=>G'=G/\(∃bs:List Addr,acc=bs.map V.ref/\bs.length<=i/\Paired (y8 G) bs ((ks.take i).filter λκ=>decide (κ.c=x.c)))/\∃v,σ=[v,some (.int x.c)])
     ⟨Iu,⟨[],Iu,Eo _,.nil⟩,none,Iu⟩ (l_ (k9 (by rw[EV];lia))) (λi acc σ H' g=>?_) (λi acc σ H' _ g=>by rw[g.1];exact cG.l) ?_ ?_
    ·obtain⟨_,⟨bs,rfl,hb,_⟩,_⟩:=g
     rw[EV];exact hb
    ·rintro m z acc σ G' hz ⟨rfl,⟨bs,rfl,hbl,hbs⟩,v,rfl⟩
     rw[ER] at hz;obtain⟨ca,hca,rfl⟩:=Hg.mp hz;obtain⟨κ,hκ,hcall⟩:=j7 cG.c m ca hca;obtain⟨ce,f1,f2⟩:=id hcall
     have step:(ks.take (m+1)).filter (λκ=>decide (κ.c=x.c))=(ks.take m).filter (λκ=>decide (κ.c=x.c))++(if κ.c=x.c then [κ] else []):=by
      rw[HA,hκ,HR]
      by_cases c:κ.c=x.c<;>simp[c]
     refine⟨_,Iu,ca,_,_,_,Iu,Iu,Iw f2,Iu,_,Iu,Iu,_,Iu,B4 (λc=>?_) (λc=>?_)⟩
     ·have c':κ.c=x.c:=by simpa using c
      refine⟨_,Iu,Iu,⟨bs++[ca],by rw[HE];rfl,by rw[EU];simp;lia,?_⟩,_,Iu⟩
      rw[step,Ik c'];exact V2 hbs (.cons hcall .nil)
     ·have c':¬κ.c=x.c:=by simpa using c
      refine⟨Iu,⟨bs,Iu,by lia,?_⟩,_,Iu⟩
      rw[step,Il c',EH];exact hbs
    ·rintro acc σ G' ⟨rfl,⟨bs,rfl,hbl,hbs⟩,v,rfl⟩ nl hnl
     obtain⟨G8,Ip,s8,e8⟩:=Io hnl (.lst (bs.map V.ref));rw[Ip];have la2:(as.map V.ref).length=ks.length:=by rw[EV,la]
     rw[la2,HB] at hbs;have hin2:x∈ks.filter λκ=>decide (κ.c=x.c):=i_.mpr ⟨hxk,Fm rfl⟩
     obtain⟨b0,bt,rfl,hb0⟩:∃b0 bt,bs=b0::bt/\y8 G' b0 x:=by
      cases hbs':ks.filter λκ=>decide (κ.c=x.c) with
      | nil=>rw[hbs'] at hin2;cases hin2
      | cons κ rest =>
       rw[hbs'] at hbs
       cases hbs with
       | cons h1 h2 =>
        have hκ:=i_.mp (show κ∈ks.filter _ by rw[hbs'];exact n_ ..)
        have:=fB up hκ.1 hxk (GT hκ.2)
        subst this;exact⟨_,_,Iu,h1⟩
     obtain⟨ce,f1,f2⟩:=hb0;have f28:=s8 _ _ f2;refine⟨nl,_,_,_,Iu,Iu,Iv e8,(show atI _ ((0:Nat):Int)=_ from C4 rfl),?_⟩;have eml8:=s8 _ _ eml;refine⟨_,Iu,.inl ⟨Iu,_,Iv eml8⟩,_,Iu,_,Iu,b0,_,_,_,Iu,Iu,Iw f28,Iu,_,Iu,_,Iu,_,_,Iu,Iu,_,Iu,b0,_,_,_,Iu,Iu,Iw f28,Iu,_,_,Iu,Iu,z_3,λmt hmt=>?_⟩
     have s9:=g9 hmt (.tup [.int x.c,.int x.k,.int ((a:Int)+b-x.k)]);have e9:=@c9 G8 mt (.tup [.int x.c,.int x.k,.int ((a:Int)+b-x.k)]);have lm:=d_ hmas;rw[EV,EM] at lm;refine⟨ml,mas.map V.ref,.ref mt,Iu,Iu,s9 _ _ eml8,k9 (by rw[EV];lia),?_⟩
     have sx:∀bb u,bb≠ml->G' bb=some u->upd (upd G8 mt (.tup [.int x.c,.int x.k,.int ((a:Int)+b-x.k)])) ml (.lst (mas.map V.ref++[.ref mt])) bb=some u:=λbb u hb z=>by rw[j9 hb];exact s9 _ _ (s8 _ _ z)
     have hmtl:mt≠ml:=λz=>by rw[z,eml8] at hmt;cases hmt
     refine⟨λbb u z=>sx bb u (n5 z hml) (sG _ _ z),⟨mas++[mt],by rw[c9,HE];rfl,?_⟩,_,_,Iu⟩
     rw[HA,hx,HE];refine V2 (t4.same (λbb xs z=>sx bb _ (λy=>by rw[y,eml] at z;cases z) z) hmas) (.cons ?_ .nil)
     show upd (upd G8 mt (.tup [.int x.c,.int x.k,.int ((a:Int)+b-x.k)])) ml _ mt=_
     rw[j9 hmtl];exact e9
   ·rintro σ G ⟨sG,⟨mas,eml,hmas⟩,v10,v11,rfl⟩
    rw[EV,EV,HB] at hmas;refine⟨_,Iu,_,Iu,t,_,_,_,Iu,Iu,Iw (sG _ _ et),Iu,z_2,λt2 ht2=>?_⟩
    have s8:=g9 ht2 (.tup [.ref ml,.int k]);exact qq t2 ml mas _ (s6.trans (sG.trans s8)) c9 (s8 _ _ eml) (t4.same (λb xs z=>s8 _ _ z) hmas)
  ·rintro σ G5 ⟨sG5,no2,v7,v8,v9,v10,v11,rfl⟩
   refine⟨s3.trans sG5,λi' hi' a' ha' b' hb'=>?_,_,_,_,_,_,_,Iu⟩
   by_cases z:i'=i
   ·subst z
    rw[ha] at ha'
    cases ha'
    obtain⟨j,hj⟩:=GY hb';have hjl:=(s_.mp hj).1;exact no2 j (by unfold t6;rw[EV];exact hjl) b' hj
   ·exact no1 i' (by lia) a' ha' b' hb'
 ·rintro σ G ⟨sG,no1,v6,v7,v8,v9,v10,v11,rfl⟩
  refine q0 (.none λa ha b hb=>?_) G (s2.trans sG);obtain⟨i,hi⟩:=GY ha;have hil:=(s_.mp hi).1;exact no1 i (by unfold t6;rw[EV];exact hil) a hi b hb
def aQ (ha:W7 h as ks kvs){c:Int}(k:Int):(∀d∈o8 h c es k,(A8 kvs d).isSome=false)↔∀y∈ks,y.k=k->F6 h (c/h.c) (i7 h es) y=false:=by
 constructor
 ·intro z y hy ek
  rw[Gq]
  intro n
  unfold F6 at n
  rcases Bool.or_eq_true_iff.mp n with n|n
  ·have hs:=(Y1 ha false (c/h.c) k).mpr ⟨y,hy,by unfold z9;rw[Fm ek];exact n⟩
   rw[show(A8 kvs (T7 false (c/h.c) k)).isSome=false from z _ (z7.mpr (.inl rfl))] at hs
   cases hs
  ·obtain⟨r,hr,n⟩:=FH.mp n
   obtain⟨x,hx,rfl⟩:=x6.mp (GT n);have hs:=(Y1 ha true (x/h.e) k).mpr ⟨y,hy,by unfold z9;rw[Fm ek];exact Fm hr⟩
   rw[show(A8 kvs (T7 true (x/h.e) k)).isSome=false from z _ (z7.mpr (.inr ⟨x,hx,Iu⟩))] at hs
   cases hs
 ·intro z d hd
  have key:∀(sd:Bool)(r:Int),(∀y,z9 h sd r k y=true->F6 h (c/h.c) (i7 h es) y=true)->(A8 kvs (T7 sd r k)).isSome=false:=λsd r hb=>by
   rw[Gq]
   intro n
   obtain⟨y,hy,b⟩:=(Y1 ha sd r k).mp n;have b2:=b;unfold z9 at b2
   have:=z y hy (GT (Ia.mp b2).1)
   rw[hb y b] at this
   cases this
  rcases z7.mp hd with rfl|⟨x,hx,rfl⟩
  ·refine key false (c/h.c) λy b=>?_
   unfold z9 at b;unfold F6;rw[show decide (y.c/h.c=c/h.c)=true from(Ia.mp b).2];rfl
  ·refine key true (x/h.e) λy b=>?_
   unfold z9 at b;unfold F6;rw[Bool.or_eq_true_iff];exact .inr (FH.mpr ⟨_,GT (Ia.mp b).2,Fm (x6.mpr ⟨x,hx,Iu⟩)⟩)
def lY {s:Int}{k:Nat}:J8 h ks s gs k=[]↔∀y∈ks,y.k=(k:Int)->F6 h s gs y=false:=by
 unfold J8;rw[Ig,HS];refine forall_congr' λy=>forall_congr' λhy=>?_;rw[Fd,FJ]
 constructor
 ·intro z e
  rw[Gq];exact λn=>z ⟨e,n⟩
 ·rintro z ⟨e,n⟩
  rw[z e] at n
  cases n
def kY {K:Frag}{a:Addr}{nas:List Addr}{ds:List (List Key)}{g:TG}{tt:TT}{te:TE}{y:V}{H:Hp}{Q:VK}(f:List Key->Bool)(few:ds.length<=64)(hR:SqL K H a (nas.map V.ref))(hp:E8 H nas ds)
  (hs:∀(n:Addr)(d:List Key)(v:Option V)(A:V->L2.St->Hp->Prop)(B:L2.St->Hp->Prop),H n=some (.tup (d.map kV))->(f d=true->∀v',A (.ref n) [v',some y] H)->(f d=false->∀v',B [v',some y] H)->g (.ref n) [v,some y] H λσ2 H2=>tt σ2 H2 λok H3=>if ok=true then te σ2 H3 λz H4=>A z σ2 H4 else B σ2 H3)
  (hq:∀l (xs:List Addr),H l=none->(xs=[]↔∀d∈ds,f d=false)->Q (.ref l) (upd H l (.lst (xs.map V.ref)))):aj (Itl K a) g tt te Q [none,some y] H:=by
 have la:=d_ hp
 refine A2 (xs:=nas.map V.ref) (λi acc σ G=>G=H/\(∃xs:List Addr,acc=xs.map V.ref/\xs.length<=i/\(xs=[]↔∀d∈ds.take i,f d=false))/\∃v,σ=[v,some y])
  ⟨Iu,⟨[],Iu,Eo _,λ_ d hd=>(by rw[HY] at hd;cases hd),λ_=>rfl⟩,none,Iu⟩ (l_ (k9 (by rw[EV];lia))) (λi acc σ H' g=>?_) (λi acc σ H' _ g=>by rw[g.1];exact hR) ?_ ?_
 ·obtain⟨_,⟨xs,rfl,hl,_⟩,_⟩:=g
  rw[EV];exact hl
 ·rintro i z acc σ G hz ⟨rfl,⟨xs,rfl,hl,hx⟩,v,rfl⟩
  rw[ER] at hz;obtain⟨n,hn,rfl⟩:=Hg.mp hz;obtain⟨d,hd1,hd2⟩:=j7 hp i n hn;have tk:ds.take (i+1)=ds.take i++[d]:=by rw[HA,hd1];rfl
  refine hs n d v _ _ hd2 (λc v'=>?_) (λc v'=>?_)
  ·refine⟨Iu,⟨xs++[n],by rw[HE];rfl,by rw[EU];exact Nat.succ_le_succ hl,?_⟩,_,Iu⟩
   constructor
   ·intro e
    cases xs<;>cases e
   ·intro e
    have:=e d (by rw[tk];exact Es _ (Fx.mpr rfl))
    rw[c] at this
    cases this
  ·refine⟨Iu,⟨xs,Iu,by lia,?_⟩,_,Iu⟩
   rw[hx,tk]
   constructor
   ·intro e d' hd'
    rcases q_.mp hd' with m|m
    ·exact e d' m
    ·rw[Fx.mp m]
     exact c
   ·exact λe d' hd'=>e d' (r_ _ hd')
 ·rintro acc σ G ⟨rfl,⟨xs,rfl,hl,hx⟩,v,rfl⟩ l hl
  rw[EV,la,HB] at hx;exact hq l xs hl hx
def Z2 (h:j8)(ks:List Call)(c:Int)(es:List Int)(sh:Int)(i:Nat):List Nat:=((List.range i).filter (r9 sh)).filter (O5 h ks c es)
theorem T5 (h:j8)(ks:List Call)(c:Int)(es:List Int)(sh:Int)(i:Nat):Z2 h ks c es sh (i+1)=Z2 h ks c es sh i++(if (r9 sh i&&O5 h ks c es i)=true then [i] else []):=by
 unfold Z2;rw[Hz,HR,HR]
 congr 1
 rw[List.filter_cons]
 cases r9 sh i with
 | false=>rfl
 | true =>
  rw[Ik rfl,List.filter_cons]
  cases O5 h ks c es i<;>rfl
def cU {c:Int}{sh:Int}{i:Nat}(e:Z2 h ks c es sh i=[])(b:(r9 sh i&&O5 h ks c es i)=true)(hi:i<h.m.toNat):∃ws,X1 h ks c es sh=i::ws:=by
 have key:∀n,∃ws,Z2 h ks c es sh (i+1+n)=i::ws:=by
  intro n
  induction n with
  | zero =>
   refine⟨[],?_⟩
   show Z2 h ks c es sh (i+1)=_
   rw[T5,e,Ik b];rfl
  | succ n ih =>
   obtain⟨ws,hw⟩:=ih;refine⟨ws++(if (r9 sh (i+1+n)&&O5 h ks c es (i+1+n))=true then [i+1+n] else []),?_⟩
   show Z2 h ks c es sh (i+1+n+1)=_
   rw[T5,hw,cons_append]
 obtain⟨ws,hw⟩:=key (h.m.toNat-(i+1));rw[show i+1+(h.m.toNat-(i+1))=h.m.toNat by lia] at hw
 exact⟨ws,hw⟩
def pF (K:Frag):Sp:=λvs H Q _=>∃(p l e:Addr)(h:j8)(as:List Addr)(ks:List Call)(c:Int)(es:List Int)(sh:Int),vs=[.ref p,.ref l,.int c,.ref e,.int sh]/\C2 K H p l h as ks/\eG h ks c es/\SqL K H e (es.map V.int)/\es≠[]/\es.length<=12 /\
 ∀(v:V)(r:Option (List Mv×Int))(H':Hp),i9 H H'->P6 h ks c es sh r->uL H' v r->Q v H'
def P1:FnScope ["_law_hall_here","_law_calls_here","_law_caller","_law_ends_here","_law_shut","_law_held_here","_law_k","_law_need","_law_racks"] ["_law_hall_here","_law_calls_here","_law_caller","_law_ends_here","_law_shut"] (i4 (top 72)):=mkF
def ss {P:Program}{w:World}{base:Heap}(T:Txt K mg)(Az:i6 P w K mg base 2 "_law_held" p_9 (nV K))(zQ:i6 P w K mg base 1 "_law_lines" p_3 (W1 K))(BC:i6 P w K mg base 3 "_law_found" p_10 (mz K))(D:Def K mg "_law_due" (top 72) p_11):i6 P w K mg base 4 "_law_due" p_11 (pF K):=by
 refine D.ok P1 (λ_ _ _ _ h=>?_) (λ_ _ _ _ _ H _ Q E hr h=>?_)
 ·obtain⟨p,l,e,h,as,ks,c,es,sh,rfl,_⟩:=h
  rfl
 obtain⟨p,l,e,h,as,ks,c,es,sh,rfl,ch,ask,hE,ne,few,q⟩:=h;have b3:=ch.ok.m;have o1:=ch.ok.c;have o2:=ch.ok.e
 refine⟨_,(d9 (j4 (i:=5) P1.nd Iu Iy (l9 Az hr Iu (a8 (pv 0) (a8 (pv 1) c7 a9) a9)))
  (d9 (w5 HI rfl (C8 rfl T.zZ (a8 (i8 (i5 K) (pv 0) h7) c7 m5)) (l8 (i:=6) P1.nd Iu Ix)
  (d9 (j4 (i:=7) P1.nd Iu Ix (l9 zQ hr Iu (a8 (pv 0) (a8 (pv 2) (a8 (pv 3) (a8 (pv 6) c7 a9) a9) a9) a9)))
  (h9 (n6 (PW.pt (cJ (k8 E4 (l6 eQ (l6 fe (pv 4) (pv 6)) h7) h7 (m6 _)) (aA (k8 (iC K (C0.units0 hr)) (B3 (own:=["_law_line"]) (fr:=[(5,"_law_held_here")]) rfl (mkC ["_law_hall_here","_law_calls_here","_law_caller","_law_ends_here","_law_shut","_law_held_here","_law_k","_law_need","_law_racks"] (i4 (top 72))) (m7 K (pv 7)) (λcl C s H ex=>⟨(l8 (i:=0) (show(["_law_line","_law_held_here"]:List Str).Nodup from by decide +kernel) Iu Ix Iy),(K1 (bg (fC (Q4 hr) (pv 0) (pv 1)))),(pv 0)⟩)) (r6 c7) (m6 _))))) (h9 (j5 (y7 (a8 (r6 c7) (a8 (pv 6) c7 a9) bM)))) l7))))
  (d9 (bB (i:=8) (own:=["_law_end"]) (fr:=[(0,"_law_hall_here")]) rfl P1.nd rfl rfl (mkC ["_law_hall_here","_law_calls_here","_law_caller","_law_ends_here","_law_shut","_law_held_here","_law_k","_law_need","_law_racks"] (i4 (top 72))) (m7 K (pv 3)) (λcl C s H ex=>⟨(l8 (i:=0) (show(["_law_end","_law_hall_here"]:List Str).Nodup from by decide +kernel) Iu Ix Iy),F1,(l6 R7 (pv 0) (i8 (i5 K) (pv 1) h7))⟩) rfl)
  (d9 (n6 (k8 iJ (j6 (eD K rfl) rfl T.BU boot_min (a8 (pv 8) c7 a9)) (j6 (eT K rfl) rfl T.Dh boot_max (a8 (pv 8) c7 a9)) (m6 _)) (h9 (j5 o5)) l7)
  (h9 (j5 (l9 BC hr Iu (a8 (pv 0) (a8 (pv 5) (a8 (y7 (a8 (l6 R7 (pv 2) (i8 (i5 K) (pv 0) h7)) (a8 (i8 (u7 K) (pv 8) h7) c7 m5) Q1)) (a8 (pv 4) (a8 (pv 1) c7 a9) a9) N8) a9) a9)))))))),?_⟩
 refine⟨_,Iu,_,Iu,p,l,h,as,ks,Iu,ch,λhd kvs H1 s1 ehd hAll=>?_⟩;refine⟨_,Iu,p,_,_,_,Iu,Iu,(ch.same s1).p,Iu,_,Iu,by show -(2^62)<=h.m;lia,by show h.m<2^62;lia,?_⟩
 refine E3 (λi σ G=>i9 H1 G/\Z2 h ks c es sh i=[]/\∃v6 v7,σ=[Iq p,Iq l,Ir c,Iq e,Ir sh,Iq hd,v6,v7,none])
  ⟨i9.refl _,Iu,none,none,Iu⟩ ?_ ?_
 ·rintro i σ G hi ⟨sG,w0,v6,v7,rfl⟩
  rw[HN];have sHG:=s1.trans sG;have chG:=ch.same sHG;refine⟨_,Iu,_,Iu,_,Iu,_,Iu,p,e,h,c,(i:Int),es,Iu,chG.p,ch.ok,.inr (sHG.seq hE),few,λnl nas H3 s3 hnl enl tnl=>?_⟩;have s13:=sG.trans s3;refine⟨_,Iu,_,Iu,_,_,Iu,Iu,by lia,_,_,Iu,Iu,Iu,_,Iu,?_⟩
  refine B4 (λc1=>?_) (λc1=>?_)
  ·have ob:r9 sh i=true:=by
    unfold r9
    simpa using c1
   refine⟨_,Iu,nl,Iu,⟨_,Iv enl⟩,?_⟩;have ll:=O7 h c es i;refine kY (λd=>(A8 kvs d).isSome) (by lia) (Iv enl) tnl (λn d v A B hn yA yB=>?_) (λl5 xs hl5 hx=>?_)
   ·refine⟨_,Iu,_,Iu,hd,_,Iu,R9.t (s13 _ _ ehd) hn,_,Iu,B4 (λc=>?_) (λc=>?_)⟩
    ·exact⟨_,Iu,yA c _⟩
    ·exact yB (Gq.mpr c) _
   obtain⟨H5,Ip,s5,e5⟩:=Io hl5 (.lst (xs.map V.ref));rw[Ip];refine⟨z_0,λo ho=>?_⟩
   obtain⟨H6,Ip,s6,e6⟩:=Io ho (.lst []);rw[Ip];have s16:=s13.trans (s5.trans s6);refine⟨l5,o,_,Iu,Iu,Iv (s6 _ _ e5),Iv e6,_,Iu,B4 (λc2=>?_) (λc2=>?_)⟩
   ·have x0:xs=[]:=Ig.mp (GT c2)
    have fb:O5 h ks c es i=true:=Fm (lY.mpr ((aQ hAll _).mp (hx.mp x0)));obtain⟨ws,hw⟩:=cU w0 (by rw[ob,fb];rfl) hi
    refine⟨z_0,λml hml=>?_⟩
    obtain⟨H7,Ip,s7,e7⟩:=Io hml (.lst []);rw[Ip];refine⟨_,Iu,z_2,λt ht=>?_⟩
    have s8:=g9 ht (.tup [.ref ml,.int (i:Nat)]);exact q _ _ _ (s1.trans (s16.trans (s7.trans s8))) (.way i ws hw) (.inr ⟨t,ml,[],[],_,Iu,Iu,c9,s8 _ _ e7,.nil⟩)
   ·have x0:¬xs=[]:=λz=>c2 (Fm (by rw[z];rfl))
    have fb:O5 h ks c es i=false:=b_ λz=>x0 (hx.mpr ((aQ hAll _).mpr (lY.mp z)));refine⟨s16,?_,_,_,Iu⟩;rw[T5,w0,fb,Fk];rfl
  ·have ob:r9 sh i=false:=by
    refine Gq.mpr λy=>c1 ?_;unfold r9 at y
    simpa using y
   refine⟨s13,?_,_,_,Iu⟩;rw[T5,w0,ob,Ek];rfl
 ·rintro σ G ⟨sG,w0,v6,v7,rfl⟩
  have ew:X1 h ks c es sh=[]:=w0;have sHG:=s1.trans sG;have chG:=ch.same sHG;refine⟨_,Iu,e,Iu,⟨_,sHG.seq hE⟩,?_⟩
  refine A2 (xs:=es.map V.int) (λi acc σ H'=>H'=G/\acc=((es.take i).map λe=>e/h.e).map V.int/\∃v,σ=[v,Iq p])
   ⟨Iu,Iu,none,Iu⟩ (l_ (k9 (by rw[EV];lia))) (λi acc σ H' g=>?_) (λi acc σ H' _ g=>g.1▸sHG.seq hE) ?_ ?_
  ·obtain⟨_,rfl,_⟩:=g
   rw[EV,EV,EM];lia
  ·rintro i y acc σ H' hy ⟨rfl,rfl,v,rfl⟩
   rw[ER] at hy;obtain⟨x,he,rfl⟩:=Hg.mp hy;refine⟨_,Iu,_,Iu,p,_,_,_,Iu,Iu,chG.p,Iu,_,_,Iu,Iu,⟨by show 0<h.e;lia,by show h.e<1073741824;lia⟩,Iu,?_,_,Iu⟩
   rw[HA,he,HE,HE];rfl
  rintro acc2 σ H5 ⟨rfl,rfl,v,rfl⟩ lr hlr
  rw[EV,HB];obtain⟨H6,Ip,s5,er⟩:=Io hlr (.lst ((es.map λe=>e/h.e).map V.int));rw[Ip];have hne:(es.map λe=>e/h.e)≠[]:=λz=>ne (Ig.mp z);have s6:=sHG.trans s5;refine⟨_,Iu,lr,_,Iu,Iv er,hne,λM hM hM2=>?_⟩;refine⟨_,Iu,lr,_,Iu,Iv er,hne,λN hN hN2=>?_⟩;have ni:=fK hM hM2 hN hN2;refine⟨Iu,_,Iu,?_⟩;refine B4 (λwd=>?_) (λwd=>?_)
  ·have wd':M≠N:=by simpa using wd
   have wl:=ni.mp wd';exact q .non none H6 s6 (.none ew λg hg=>absurd wl (by rw[hg];exact g_ 1)) (.inl ⟨Iu,Iu⟩)
  ·have wd':¬M≠N:=by simpa using wd
   have wd2:¬1<(i7 h es).length:=λz=>wd' (ni.mpr z);obtain⟨e0,et,rfl⟩:∃e0 et,es=e0::et:=List.exists_cons_of_ne_nil ne
   have hg:i7 h (e0::et)=[e0/h.e]:=by
    have hm:e0/h.e∈i7 h (e0::et):=x6.mpr ⟨e0,n_ ..,Iu⟩
    match e:i7 h (e0::et),hm,wd2 with
    | [o],hm,_=>rw[Fx.mp hm]
    | _::_::_,_,z=>exact absurd (by simp) z
   have x1:=ask.er e0 (n_ ..);have ch6:=ch.same s6;refine⟨_,Iu,_,Iu,_,Iu,_,Iu,p,_,_,_,Iu,Iu,ch6.p,Iu,_,_,Iu,Iu,⟨by show 0<h.c;lia,by show h.c<1073741824;lia⟩,_,Iu,lr,_,_,_,Iu,Iu,Iv er,(show atI _ ((0:Nat):Int)=_ from C4 rfl),z_2,λpl hpl=>?_⟩
   obtain⟨H7,Ip,s7,e7⟩:=Io hpl (.tup [.int (c/h.c),.int (e0/h.e)]);rw[Ip];have s17:=s6.trans s7;refine⟨_,Iu,_,Iu,p,l,hd,pl,h,as,ks,kvs,c/h.c,e0/h.e,sh,Iu,ch.same s17,ask.fr,ask.up,s7 _ _ (s5 _ _ (sG _ _ ehd)),hAll,e7,⟨Ic ask.cr.1 (by lia),Ie (by lia) ask.cr.2⟩,⟨Ic x1.1 (by lia),Ie (by lia) x1.2⟩,(λrc H8 s8=>?_),λa b L k t ml mas H8 rc hL s8 et em hms=>?_⟩
   ·exact q .non none H8 (s17.trans s8) (.none ew λg' hg'=>by rw[hg] at hg';cases hg';exact rc) (.inl ⟨Iu,Iu⟩)
   ·exact q _ _ H8 (s17.trans s8) (.chain _ a b L k ew hg rc hL) (.inr ⟨t,ml,mas,_,k,Iu,Iu,et,em,hms⟩)
theorem gM {α β:Type}{R:α->β->Prop}:∀{as:List α}{ds:List β},as.length=ds.length->(∀(q:Nat) d,ds[q]? = some d->∃a,as[q]? = some a/\R a d)->Paired R as ds
 | [],[],_,_=>.nil
 | [],_::_,h,_=>by cases h
 | _::_,[],h,_=>by cases h
 | a::t,d::u,h,z=>by
  obtain⟨a',e,r⟩:=z 0 d rfl
  cases e
  exact .cons r (gM (Nat.succ.inj h) λq d' hd=>z (q+1) d' hd)
def jZ {q j:Nat}(z:¬q=j):(if q<j+1 then a else b)=if q<j then a else b:=by
 by_cases y:q<j
 ·rw[Ik y,Ik (by lia)]
 ·rw[Il y,Il (by lia)]
def tY (H:Hp)(f:Addr)(ks:List Call)(ms ms':List Mv)(j:Nat):Prop:=∃fa:List Addr,H f=some (.lst (fa.map V.ref))/\fa.length=ks.length/\∀(q:Nat) k,ks[q]? = some k->∃b,fa[q]? = some b/\y8 H b (fc (if q<j then ms' else ms) k)
def fY (K:Frag):Sp:=λvs H Q _=>∃(l ml:Addr)(as mas:List Addr)(ks:List Call)(ms:List Mv),vs=[.ref l,.ref ml]/\SqL K H l (as.map V.ref)/\m8 H as ks/\ks.length<=63/\H ml=some (.lst (mas.map V.ref))/\t4 H mas ms/\(∀(i:Nat) m,ms[i]? = some m->∀m'∈ms.take i,m'.c≠m.c) /\
 ∀(f:Addr)(bs:List Addr)(H':Hp),i9 H H'->H' f=some (.lst (bs.map V.ref))->m8 H' bs (x9 ks ms)->Q (.ref f) H'
def tN (K:Frag):Sp:=λvs H Q _=>∃(p l t ml e:Addr)(h:j8)(as mas:List Addr)(ks:List Call)(ms:List Mv)(c:Int)(es:List Int)(k sh:Int),vs=[.ref p,.ref l,.ref t,.int c,.ref e]/\C2 K H p l h as ks/\H t=some (.tup [.ref ml,.int k])/\H ml=some (.lst (mas.map V.ref))/\t4 H mas ms/\nj h ks c es sh ms k/\SqL K H e (es.map V.int)/\es.length<=12 /\
 ∀H',i9 H H'->Q (.bl true) H'
def P0:FnScope ["_law_calls_here","_law_moves","_law_left","_law_mover","_law_k","_law_other","_law_at"] ["_law_calls_here","_law_moves"] (i4 (top 73)):=mkF
def qO {P:Program}{w:World}{base:Heap}(T:Txt K mg)(D:Def K mg "_law_moved" (top 73) p_36):i6 P w K mg base 1 "_law_moved" p_36 (fY K):=by
 refine D.ok P0 (λ_ _ _ _ h=>?_) (λ_ _ _ _ _ H _ Q E hr h=>?_)
 ·obtain⟨l,ml,as,mas,ks,ms,rfl,_⟩:=h
  rfl
 obtain⟨l,ml,as,mas,ks,ms,rfl,hL,hC,h63,em,hMs,uv,q⟩:=h;have la:=d_ hC;have lm:=d_ hMs
 refine⟨_,(d9 (j4 (i:=2) P0.nd Iu Ix (w9 (M3 K) rfl T.Ap HW (a8 (pv 0) c7 a9)))
  (d9 (w5 HI rfl (m7 K (pv 1)) (yF K rfl P0.nd (Nm.mk (i:=3) Iu Ix Ix) (Nm.mk (i:=4) Iu Ix Ix) (Nm.mk (i:=5) Iu Ix Ix))
  (h9 (w5 HI rfl (C8 rfl T.zZ (a8 (j6 (y9 K) rfl T.zY HF (a8 (pv 0) c7 a9)) c7 n9)) (l8 (i:=6) P0.nd Iu Ix)
  (h9 (n6 (k8 E4 (i8 (i5 K) (i8 (u7 K) (pv 0) (pv 6)) h7) (pv 3) (m6 _)) (h9 (tL (y7 (a8 (pv 3) (a8 (i8 (i5 K) (i8 (u7 K) (pv 0) (pv 6)) h7) (a8 (pv 5) c7 a9) m5) a9)) (wH (pv 2) (pv 6) gc))) l7)))))
  (h9 (j5 (pv 2))))),?_⟩
 refine⟨_,Iu,l,_,Iu,.inl hL,λf hf=>?_⟩;obtain⟨H1,Ip,s1,ef⟩:=Io hf (.lst (as.map V.ref));rw[Ip];refine⟨_,Iu,ml,Iu,⟨_,Iv (s1 _ _ em)⟩,?_⟩
 refine o9 (xs:=mas.map V.ref) (λi σ H'=>i9 H H'/\tY H' f ks (ms.take i) (ms.take i) 0/\∃v3 v4 v5 v6,σ=[Iq l,Iq ml,Iq f,v3,v4,v5,v6])
  ⟨s1,⟨as,ef,la,λq k hk=>?_⟩,none,none,none,none,Iu⟩ (λi σ H' _ gg=>Iv (gg.1 _ _ em)) ?_ ?_
 ·have hq:=(s_.mp hk).1
  have ea:as[q]? = some (as[q]'(by lia)):=Gb _
  obtain⟨k',hk',hca⟩:=j7 hC q _ ea;rw[hk] at hk'
  cases hk'
  exact⟨_,ea,y8.same (λb xs z=>s1 _ _ z) hca⟩
 ·rintro i y σ G hy ⟨sG,hLe,v3,v4,v5,v6,rfl⟩
  rw[ER] at hy;obtain⟨pm,hpm,rfl⟩:=Hg.mp hy;obtain⟨m,hm,hem⟩:=j7 hMs i pm hpm
  replace hem:H pm=some (.tup [.int m.c,.int m.k,.int m.o]):=hem
  have n1:=uv i m hm;have tkm:ms.take (i+1)=ms.take i++[m]:=by rw[HA,hm];rfl
  refine⟨pm,_,Iu,Iw (sG _ _ hem),Iu,_,_,Iu,_,_,Iu,_,_,Iu,Iu,?_⟩;refine⟨_,Iu,l,_,Iu,.inl (sG.seq hL),_,Iu,by rw[EV];lia,by rw[EV];lia,?_⟩
  rw[EW,EV]
  refine E3 (λj σ H'=>i9 H H'/\tY H' f ks (ms.take i) (ms.take (i+1)) j/\∃v6,σ=[Iq l,Iq ml,Iq f,some (.int m.c),some (.int m.k),some (.int m.o),v6])
   ⟨sG,?_,v6,Iu⟩ ?_ ?_
  ·obtain⟨fa,e1,e2,e3⟩:=hLe
   exact⟨fa,e1,e2,λq k hk=>e3 q k hk⟩
  ·rintro j σ H' hj ⟨s2,⟨fa,e1,e2,e3⟩,v6,rfl⟩
   rw[HN];have ea:as[j]? = some (as[j]'hj):=Gb _;obtain⟨k,hk,hca⟩:=j7 hC j _ ea;obtain⟨ce,x1,x2⟩:=y8.same (λb xs z=>s2 _ _ z) hca;have hat:atI (as.map V.ref) (j:Int)=some (.ref (as[j]'hj)):=C4 (by rw[ER,ea];rfl)
   refine⟨_,Iu,_,Iu,l,_,_,_,Iu,Iu,s2.seq hL,hat,_,_,_,_,Iu,Iu,Iw x2,Iu,_,Iu,Iu,_,Iu,B4 (λc=>?_) (λc=>?_)⟩
   ·have c':k.c=m.c:=by simpa using c
    refine⟨_,Iu,_,Iu,_,Iu,l,_,_,_,Iu,Iu,s2.seq hL,hat,_,_,_,_,Iu,Iu,Iw x2,Iu,_,Iu,z_3,λt ht=>?_⟩
    obtain⟨H4,Ip,s3,e4⟩:=Io ht (.tup [.int m.c,.ref ce,.int m.o]);rw[Ip];refine⟨_,Iu,_,Iu,f,fa.map V.ref,(j:Int),j,Iu,Iu,s3 _ _ e1,?_,?_⟩
    ·rw[EV,e2,mU (by lia) (by lia),EW]
    rw[<- List.map_set]
    have tp:∀b xs,H4 b=some (.tup xs)->upd H4 f (.lst ((fa.set j t).map V.ref)) b=some (.tup xs):=λb xs z=>by
     rw[j9 (λy=>by rw[y,s3 _ _ e1] at z;cases z)]
     exact z
    refine⟨λb u z=>by rw[j9 (n5 z hf)];exact s3 _ _ (s2 _ _ z),⟨fa.set j t,c9,by rw[List.length_set];exact e2,λq k' hk'=>?_⟩,_,Iu⟩
    by_cases z:q=j
    ·subst z
     rw[hk] at hk'
     cases hk'
     refine⟨t,t_ (by lia),?_⟩
     rw[Ik (FD q),tkm];unfold fc;rw[cE n1,Ik c',c'];exact⟨ce,tp _ _ (s3 _ _ x1),tp _ _ e4⟩
    ·obtain⟨b,f1,f2⟩:=e3 q k' hk'
     refine⟨b,by rw[v_ (Im z)];exact f1,?_⟩
     rw[jZ z];exact y8.same (λb xs y=>tp _ _ (s3 _ _ y)) f2
   ·have c':¬k.c=m.c:=by simpa using c
    refine⟨s2,⟨fa,e1,e2,λq k' hk'=>?_⟩,_,Iu⟩;obtain⟨b,f1,f2⟩:=e3 q k' hk';refine⟨b,f1,?_⟩
    by_cases z:q=j
    ·subst z
     rw[hk] at hk'
     cases hk'
     rw[Il (g_ q)] at f2;rw[Ik (FD q),tkm];unfold fc at f2 ⊢;rw[cE n1,Il c'];exact f2
    ·rw[jZ z]
     exact f2
  ·rintro σ H' ⟨s2,⟨fa,e1,e2,e3⟩,v6,rfl⟩
   refine⟨s2,⟨fa,e1,e2,λq k hk=>?_⟩,_,_,_,_,Iu⟩;obtain⟨b,f1,f2⟩:=e3 q k hk;have hq:=(s_.mp hk).1;rw[Ik (by lia)] at f2
   rw[ite_self];exact⟨b,f1,f2⟩
 ·rintro σ H' ⟨s2,⟨fa,e1,e2,e3⟩,v3,v4,v5,v6,rfl⟩
  rw[EV,lm,HB] at e3;refine⟨_,Iu,q f fa H' s2 e1 (gM ?_ λq d hd=>?_)⟩
  ·unfold x9
   rw[EV,e2]
  ·unfold x9 at hd
   rw[ER] at hd;obtain⟨k,hk,rfl⟩:=Hg.mp hd;obtain⟨b,f1,f2⟩:=e3 q k hk;rw[ite_self] at f2;exact⟨b,f1,f2⟩
def Q6:FnScope ["_law_hall_here","_law_calls_here","_law_found_here","_law_caller","_law_ends_here","_law_left","_law_held_here","_law_need"] ["_law_hall_here","_law_calls_here","_law_found_here","_law_caller","_law_ends_here"] (i4 (top 74)):=mkF
def vp (T:Txt K mg)(As:i6 P w K mg base 1 "_law_moved" p_36 (fY K))(BD:i6 P w K mg base 2 "_law_right" p_9 (gZ K))(Az:i6 P w K mg base 2 "_law_held" p_9 (nV K))(zQ:i6 P w K mg base 1 "_law_lines" p_3 (W1 K))(D:Def K mg "_law_good" (top 74) p_8):i6 P w K mg base 3 "_law_good" p_8 (tN K):=by
 refine D.ok Q6 (λ_ _ _ _ h=>?_) (λ_ _ _ _ _ H _ Q E hr h=>?_)
 ·obtain⟨p,l,t,ml,e,h,as,mas,ks,ms,c,es,k,sh,rfl,_⟩:=h
  rfl
 obtain⟨p,l,t,ml,e,h,as,mas,ks,ms,c,es,k,sh,rfl,ch,et,em,hms,ri,hE,few,q⟩:=h;have h63:=ch.few;have lb:(x9 ks ms).length=ks.length:=EV _;have hin:=ph ch.hin ri.good.1.pre
 refine⟨_,(d9 (j4 (i:=5) Q6.nd Iu Ix (l9 As hr Iu (a8 (pv 1) (a8 (i8 (i5 K) (pv 2) h7) c7 m5) a9)))
  (d9 (n6 (F0 (B0 K (l9 BD hr Iu (a8 (pv 0) (a8 (pv 5) c7 a9) a9)) (λ_=>rfl))) (h9 (j5 F2)) l7)
  (d9 (j4 (i:=6) Q6.nd Iu Iy (l9 Az hr Iu (a8 (pv 0) (a8 (pv 5) c7 a9) a9)))
  (d9 (j4 (i:=7) Q6.nd Iu Ix (l9 zQ hr Iu (a8 (pv 0) (a8 (pv 3) (a8 (pv 4) (a8 (i8 (i5 K) (pv 2) h7) c7 m5) a9) a9) a9)))
  (h9 (j5 (F3 (iC K (C0.units0 hr)) (B3 (own:=["_law_line"]) (fr:=[(6,"_law_held_here")]) rfl (mkC ["_law_hall_here","_law_calls_here","_law_found_here","_law_caller","_law_ends_here","_law_left","_law_held_here","_law_need"] (i4 (top 74))) (m7 K (pv 7)) (λcl C s H ex=>⟨(l8 (i:=0) (show(["_law_line","_law_held_here"]:List Str).Nodup from by decide +kernel) Iu Ix Iy),(K1 (bg (fC (Q4 hr) (pv 0) (pv 1)))),(pv 0)⟩)) (r6 c7) (m6 _)))))))),?_⟩
 refine⟨_,Iu,_,Iu,t,_,_,_,Iu,Iu,Iw et,Iu,l,ml,as,mas,ks,ms,Iu,ch.l,ch.c,h63,em,hms,λi m hm=>(ri.good.1 i m hm).1,λf bs H1 s1 ef hbs=>?_⟩;have c1:C2 K H1 p f h bs (x9 ks ms):=⟨i9.seqT s1 ch.p,ch.ok,Iv ef,hbs,hin,by lia⟩
 refine⟨_,Iu,_,Iu,p,f,h,bs,x9 ks ms,Iu,c1.p,ch.ok,ef,hbs,hin,by lia,λH2 s2=>?_⟩
 have lf:dB ((x9 ks ms).Pairwise (LF h))=true:=aY (ri.good.2.imp λz=>nM.mpr z.l);rw[lf];refine⟨_,Iu,B9 ?_⟩;have c2:=c1.same s2;refine⟨_,Iu,_,Iu,p,f,h,bs,x9 ks ms,Iu,c2,λhd kvs H3 s3 ehd hAll=>?_⟩;have sH3:=s1.trans (s2.trans s3);refine⟨_,Iu,_,Iu,_,Iu,_,Iu,t,_,_,_,Iu,Iu,Iw (sH3 _ _ et),Iu,p,e,h,c,k,es,Iu,i9.seqT sH3 ch.p,ch.ok,.inr (sH3.seq hE),few,λnl nas H4 s4 hnl enl tnl=>?_⟩;refine⟨_,Iu,nl,Iu,⟨_,Iv enl⟩,?_⟩;have ll:=O7 h c es k;refine kY (λd=>(A8 kvs d).isSome) (by lia) (Iv enl) tnl (λn d v A B hn yA yB=>?_) (λl5 xs hl5 hx=>?_)
 ·refine⟨_,Iu,_,Iu,hd,_,Iu,R9.t (s4 _ _ ehd) hn,_,Iu,B4 (λc=>?_) (λc=>?_)⟩
  ·exact⟨_,Iu,yA c _⟩
  ·exact yB (Gq.mpr c) _
 obtain rfl:xs=[]:=hx.mpr ((aQ hAll k).mpr ri.free);have s5:=g9 hl5 (.lst []);have e5:=@c9 H4 l5 (.lst []);refine show _ from ?_;refine⟨z_0,λo ho=>?_⟩
 have s6:=g9 ho (.lst []);have e6:=c9 (H:=upd H4 l5 (.lst [])) (a:=o) (o:=.lst []);exact⟨l5,o,_,Iu,Iu,Iv (s6 _ _ e5),Iv e6,q _ (sH3.trans (s4.trans (s5.trans s6)))⟩
theorem X2.same {H H':Hp}{dx nh:Addr}{rows:List (List Int)}{o:Option (List Int)}{nas:List Addr}{lv:V}(s:i9 H H')(g:X2 H dx rows o nh nas lv):X2 H' dx rows o nh nas lv:=by
 refine⟨s _ _ g.d,s _ _ g.h,Paired.mapP g.rows λa r z=>s _ _ z,g.nd,?_⟩;have gl:=g.l
 cases o with
 | none=>exact gl
 | some ms =>
  obtain⟨m,e1,e2,e3,e4⟩:=gl;exact⟨m,e1,e2,e3,s _ _ e4⟩
theorem cV {n:Nat}:∀{as bs:List Addr}{ms:List Mv},t4 H as ms->t4 H bs ms->Paired (Q8 H (n+1)) (as.map V.ref) (bs.map V.ref)
:=λh h'=>bn h h' λa b κ _ q q'=>.inr ⟨_,_,_,_,Iu,Iu,.inr ⟨q,q'⟩,.cons (N7.at (.inr ⟨_,Iu,Iu⟩)) (.cons (N7.at (.inr ⟨_,Iu,Iu⟩)) (.cons (N7.at (.inr ⟨_,Iu,Iu⟩)) .nil)),by show 3<=1000;decide⟩
def cM (K:Frag)(CE:Addr):Sp:=λvs H Q _=>∃(p l qa ea dx nh e:Addr)(nas:List Addr)(nlv:V)(o:Option (List Int))(h:j8)(as:List Addr)(ks:List Call)(c:Int)(es:List Int)(sh:Int),vs=[.ref p,.ref l,.ref qa,.ref ea]/\C2 K H p l h as ks/\H qa=some (.tup [.int c,.ref e,.int sh])/\SqL K H e (es.map V.int)/\es.length<=12/\H ea=some (aX ea CE (some dx))/\X2 H dx (F7 h ks c es) o nh nas nlv/\Q3 h ks c es sh o/\∀H',i9 H H'->Q (.bl true) H'
def gb (K:Frag):Sp:=λvs H Q _=>∃(p l qa e:Addr)(v:V)(h:j8)(as:List Addr)(ks:List Call)(c:Int)(es:List Int)(sh:Int)(r:Option (List Mv×Int)),vs=[.ref p,.ref l,.ref qa,v]/\C2 K H p l h as ks/\ks.length<63/\H qa=some (.tup [.int c,.ref e,.int sh])/\H e=some (.lst (es.map V.int))/\oq h es/\eG h ks c es/\P6 h ks c es sh r/\uL H v r/\∀H',i9 H H'->Q (.bl true) H'
def qy {ns:List Int}(h:ns.Nodup):(A6 ns).length=ns.length:=(I9 ns (A6 ns) h (λx hx=>(D3 x ns).mpr hx) (aB ns)).length_eq.symm
def rF (eo:oq h es):dk h (some (es.map V.int))=true:=by
 show(!(es.map V.int).isEmpty&&((es.map V.int).all (λx=>A9 x 0 (h.o*h.e-1))&&Q7 (es.map V.int)))=true
 have h1:(!(es.map V.int).isEmpty)=true:=by
  have:=eo.some
  cases es with
  | nil=>exact absurd rfl this
  | cons _ _=>rfl
 have h2:(es.map V.int).all (λx=>A9 x 0 (h.o*h.e-1))=true:=by
  rw[FF]
  intro x hx
  obtain⟨e,he,rfl⟩:=GX.mp hx
  have:=eo.es e he
  show(decide (0<=e)&&decide (e<=h.o*h.e-1))=true
  rw[Fm this.1,Fm (by lia)]
  rfl
 rw[h1,h2];unfold Q7;rw[cu,EV,Fm (qy eo.nd)];rfl
def aK:FnScope ["_law_hall_here","_law_calls_here","_law_asked_here","_law_e","_law_kept"] ["_law_hall_here","_law_calls_here","_law_asked_here","_law_e"] (i4 (top 75)):=mkF
def nz (T:Txt K mg)(Z:eY K mg zI zL zJ zM zN zR zT zH zO)(BZ:i6 P w K mg base 1 "_law_kind" ["_law_e"] (ur K zI [zM,zT,zH,zR,zN,zO,zL,zJ]))(BE:i6 P w K mg base 2 "_law_holds" p_17 (lI K))(Ca:i6 P w K mg base 1 "_law_best" p_34 (uF K))(zW:i6 P w K mg base 3 "_law_alike" p_7 (V1 2))(D:Def K mg "_law_paper" (top 75) p_12):i6 P w K mg base 4 "_law_paper" p_12 (cM K zH):=by
 refine D.ok aK (λ_ _ _ _ h=>?_) (λ_ _ _ _ _ H _ Q E hr h=>?_)
 ·obtain⟨p,l,qa,ea,dx,nh,e,nas,nlv,o,h,as,ks,c,es,sh,rfl,_⟩:=h
  rfl
 obtain⟨p,l,qa,ea,dx,nh,e,nas,nlv,o,h,as,ks,c,es,sh,rfl,ch,eq,hE,few,he,g,lo,q⟩:=h;have h63:=ch.few
 refine⟨_,(d9 (n6 (k8 iJ (l9 BZ hr Iu (a8 (pv 3) c7 a9)) h7 (m6 _)) (h9 (j5 F2)) l7)
  (d9 (j4 (i:=4) aK.nd Iu Ix (l9 BE hr Iu (a8 (pv 0) (a8 (pv 1) (a8 (i8 (i5 K) (pv 2) h7) (a8 (i8 (i5 K) (pv 2) h7) c7 m5) m5) a9) a9)))
  (d9 (n6 (F0 (B0 K (l9 zW hr Iu (a8 (wq K (pv 3)) (a8 (pv 4) c7 a9) oZ)) (λ_=>rfl))) (h9 (j5 F2)) l7)
  (h9 (j5 (l9 zW hr Iu (a8 (wq K (pv 3)) (a8 (l9 Ca hr Iu (a8 (pv 0) (a8 (pv 4) (a8 (i8 (i5 K) (pv 2) h7) c7 m5) a9) a9)) c7 n9) oZ))))))),?_⟩
 refine⟨_,Iu,ea,zH,some dx,_,2,Iu,he,jz Z,λH1 s1=>?_⟩;refine⟨Iu,_,Iu,ou (by simp) ?_⟩
 have c1:=ch.same s1;have eq1:=s1 _ _ eq;refine⟨_,Iu,_,Iu,_,Iu,qa,_,_,_,Iu,Iu,Iw eq1,Iu,_,Iu,qa,_,_,_,Iu,Iu,Iw eq1,Iu,p,l,e,h,as,ks,c,es,Iu,c1.p,c1.ok,c1.l,c1.c,c1.hin,c1.few,s1.seq hE,few,λkf rs H2 s2' ekf hR=>?_⟩;have s2:=s1.trans s2';have g2:=g.same s2;have he2:=s2 _ _ he
 have l99:∀row∈F7 h ks c es,row.length<=1000:=λrow hr=>by
  obtain⟨k,_,rfl⟩:=GX.mp hr
  have:=bu h ks (c/h.c) (i7 h es) k
  lia
 have ln:=d_ g2.rows
 have lh:(F7 h ks c es).length=h.m.toNat:=by
  unfold F7 O4;rw[EV,Hx]
 have om:=ch.ok.m;refine⟨_,Iu,ea,zH,dx,_,.ref nh,Iu,he2,g2.d,Z.Aj,Z.Am,Z.Av,Iu,_,Iu,_,_,Iu,.inr ⟨nh,kf,_,_,Iu,Iu,.inl ⟨g2.h,ekf⟩,nu g2.rows hR l99,by rw[EV];lia⟩,_,Iu,B9 ?_⟩
 refine⟨_,Iu,ea,zH,dx,_,nlv,Iu,he2,g2.d,Z.Aj,Z.Am,Z.Ah,Iu,_,Iu,_,Iu,_,Iu,qa,_,_,_,Iu,Iu,Iw (s2 _ _ eq),Iu,p,kf,rs,h,ks,c,es,sh,Iu,(ch.same s2).p,ch.ok,ekf,hR,(λop=>?_),λk ra lk era=>?_⟩
 ·have:=lo.one (o':=none) op
  subst this;have gl:nlv=.non:=g2.l;rw[gl];exact⟨_,_,Iu,N7.at (.inl ⟨Iu,Iu⟩),q _ s2⟩
 ·have:=lo.one (o':=some _) ⟨k,lk,Iu⟩
  subst this;obtain⟨m,rfl,_,_,em⟩:=g2.l
  have:=bu h ks (c/h.c) (i7 h es) k
  exact⟨_,_,Iu,.inr ⟨m,ra,_,_,Iu,Iu,.inl ⟨em,era⟩,W0 _,by rw[EV];lia⟩,q _ s2⟩
def w6:FnScope ["_law_hall_here","_law_calls_here","_law_asked_here","_law_due_here","_law_caller","_law_ends_here","_law_shut","_law_call","_law_refused","_law_found_here","_law_mine","_law_some","_law_e","_law_new","_law_behind"] ["_law_hall_here","_law_calls_here","_law_asked_here","_law_due_here"] (i4 (top 76)):=mkF
def lP {P:Program}{w:World}{base:Heap}(T:Txt K mg)(Z:eY K mg zI zL zJ zM zN zR zT zH zO)(Bf:O1 P w K mg base 10 "joined_turning" p_1 [.int 0] (sU K zH))(At:i6 P w K mg base 4 "_law_paper" p_12 (cM K zH))(As:i6 P w K mg base 1 "_law_moved" p_36 (fY K))(zW:i6 P w K mg base 5 "_law_alike" p_7 (V1 4))(D:Def K mg "_law_joined" (top 76) p_16):i6 P w K mg base 11 "_law_joined" p_16 (gb K):=by
 refine D.ok w6 (λ_ _ _ _ h=>?_) (λ_ _ _ _ _ H _ Q E hr h=>?_)
 ·obtain⟨p,l,qa,e,v,h,as,ks,c,es,sh,r,rfl,_⟩:=h
  rfl
 obtain⟨p,l,qa,e,v,h,as,ks,c,es,sh,r,rfl,ch,h63,eq,ee,eo,ask,due,om,q⟩:=h;have la:=d_ ch.c;have few:=eo.few
 refine⟨_,(d9 (tL (pv 2) (yF K rfl w6.nd (Nm.mk (i:=4) Iu Ix Ix) (Nm.mk (i:=5) Iu Ix Ix) (Nm.mk (i:=6) Iu Ix Ix)))
  (d9 (w5 HI rfl (m7 K (pv 1)) (l8 (i:=7) w6.nd Iu Iy)
  (h9 (n6 (PW.pt (dg (k8 E4 (i8 (i5 K) (pv 7) h7) (pv 4) (m6 _)) (aT (k8 (gX K (C0.units0 hr)) (B3 (own:=["_law_end"]) (fr:=[(7,"_law_call")]) rfl (mkC ["_law_hall_here","_law_calls_here","_law_asked_here","_law_due_here","_law_caller","_law_ends_here","_law_shut","_law_call","_law_refused","_law_found_here","_law_mine","_law_some","_law_e","_law_new","_law_behind"] (i4 (top 76))) (m7 K (pv 5)) (λcl C s H ex=>⟨(l8 (i:=0) (show(["_law_end","_law_call"]:List Str).Nodup from by decide +kernel) Iu Ix Iy),(K1 (k8 (jG K) (pv 0) (i8 (i5 K) (pv 1) h7) (by with_unfolding_all rfl))),(pv 0)⟩)) (r6 c7) (m6 _))))) (h9 (j5 F2)) l7)))
  (d9 (j4 (i:=8) w6.nd Iu Ix o5)
  (d9 (j4 (i:=9) w6.nd Iu Ix o5)
  (d9 (j4 (i:=10) w6.nd Iu Ix (w9 (M3 K) rfl T.Ap HW (a8 (pv 1) c7 a9)))
  (d9 (j4 (i:=11) w6.nd Iu Ix (w9 (M3 K) rfl T.Ap HW (a8 (pv 5) c7 a9)))
  (d9 (pK (c:=.ref zH) (i:=12) rfl Z.AI w6.nd rfl rfl rfl rfl rfl (λpn E =>
  (h9 (j4 (i:=9) w6.nd Iu Ix (cC 1 Bf cF hr Iu (a8 (pv 0) (a8 (pv 10) (a8 (pv 4) (a8 (pv 11) (a8 (pv 6) c7 a9) a9) a9) a9) a9))))) (λea =>
  (h9 (j4 (i:=8) w6.nd Iu Ix (pv 12)))))
  (d9 (n6 (k8 M9 (pv 3) o5 (m6 _)) (h9 (j5 (T8 (F3 L5 (pv 8) o5 (m6 _)) (Y8 (l9 At hr Iu (a8 (pv 0) (a8 (pv 1) (a8 (pv 2) (a8 (pv 8) c7 a9) a9) a9) a9)))))) l7)
  (d9 (j4 (i:=13) w6.nd Iu Ix (y7 (a8 (pv 4) (a8 (w9 (P5 K) rfl T.Ak HM (a8 (j6 (W3 K) rfl T.Aa HP (a8 (pv 5) c7 a9)) c7 n9)) (a8 (i8 (i5 K) (pv 3) h7) c7 m5) n9) a9)))
  (d9 (j4 (i:=14) w6.nd Iu Ix (j6 (U0 K) rfl T.Aa HP (a8 (l6 aU (l9 As hr Iu (a8 (pv 1) (a8 (i8 (i5 K) (pv 3) h7) c7 m5) a9)) (r6 (a8 (pv 13) c7 a9))) c7 Q1)))
  (h9 (j5 (T8 (F3 M9 (pv 8) o5 (m6 _)) (Y8 (l9 zW hr Iu (a8 (pv 9) (a8 (y7 (a8 (i8 (i5 K) (pv 3) h7) (a8 (pv 14) c7 a9) m5)) c7 N8) a9)))))))))))))))),?_⟩
 refine⟨_,Iu,qa,_,Iu,Iw eq,Iu,_,_,Iu,_,_,Iu,_,_,Iu,Iu,?_⟩;refine⟨_,Iu,l,Iu,⟨_,ch.l⟩,?_⟩
 refine o9 (xs:=as.map V.ref) (λi σ G=>i9 H G/\(∀k∈ks.take i,k.c≠c/\∀x∈es,¬x∈k.es)/\∃v7,σ=[Iq p,Iq l,Iq qa,some v,Ir c,Iq e,Ir sh,v7,none,none,none,none,none,none,none])
  ⟨i9.refl _,(λk hk=>by rw[HY] at hk;cases hk),none,Iu⟩ (λi σ G _ gg=>gg.1.seq ch.l) ?_ ?_
 ·rintro i y σ G hy ⟨sG,no,v7,rfl⟩
  rw[ER] at hy;obtain⟨ca,hca,rfl⟩:=Hg.mp hy;obtain⟨k,hk,hcall⟩:=j7 ch.c i ca hca;obtain⟨ce,e1,e2⟩:=y8.same (λb xs z=>sG _ _ z) hcall;have tk:ks.take (i+1)=ks.take i++[k]:=by rw[HA,hk];rfl
  refine⟨_,Iu,ca,_,_,_,Iu,Iu,Iw e2,Iu,_,Iu,Iu,_,Iu,B4 (λz=>E9 (q G sG)) (λz=>?_)⟩;have z':k.c≠c:=λy=>z (Fm (by rw[y]))
  have eeG:=sG _ _ ee;refine⟨_,Iu,e,Iu,⟨_,Iv eeG⟩,?_⟩
  refine A2 (xs:=es.map V.int) (λj acc σ G'=>G'=G/\acc=((es.take j).filter λx=>decide (x∈k.es)).map V.int/\∃v,σ=[v,Iq ca])
   ⟨Iu,Iu,none,Iu⟩ (l_ (k9 (by rw[EV];lia))) (λi acc σ H' g=>?_) (λi acc σ H' _ g=>by rw[g.1];exact Iv eeG) ?_ ?_
  ·obtain⟨_,rfl,_⟩:=g
   rw[EV];exact k_ (HQ _ _) (by rw[EM];lia)
  ·rintro j y acc σ G' hy ⟨rfl,rfl,v,rfl⟩
   rw[ER] at hy;obtain⟨x,hx,rfl⟩:=Hg.mp hy
   have step:(es.take (j+1)).filter (λx=>decide (x∈k.es))=(es.take j).filter (λx=>decide (x∈k.es))++(if x∈k.es then [x] else []):=by
    rw[HA,hx,HR]
    by_cases c:x∈k.es<;>simp[c]
   refine⟨_,Iu,_,Iu,ca,_,_,_,Iu,Iu,Iw e2,Iu,ce,_,Iu,.inr (Iw e1),Iu,U7 _,_,Iu,?_⟩;rw[bi];refine B4 (λcc=>?_) (λcc=>?_)
   ·have cc':x∈k.es:=by simpa using cc
    refine⟨_,Iu,Iu,?_,_,Iu⟩;rw[step,Ik cc',HE];rfl
   ·have cc':¬x∈k.es:=by simpa using cc
    refine⟨Iu,?_,_,Iu⟩;rw[step,Il cc',EH]
  rintro acc σ G' ⟨rfl,rfl,v,rfl⟩ l5 hl5
  rw[EV,HB];obtain⟨H5,Ip,s5,e5⟩:=Io hl5 (.lst ((es.filter λx=>decide (x∈k.es)).map V.int));rw[Ip];refine⟨z_0,λo ho=>?_⟩
  obtain⟨H6,Ip,s6,e6⟩:=Io ho (.lst []);rw[Ip];have s56:=sG.trans (s5.trans s6);refine⟨l5,o,_,Iu,Iu,Iv (s6 _ _ e5),Iv e6,_,Iu,B4 (λz2=>q _ s56) (λz2=>?_)⟩;refine⟨s56,λk' hk'=>?_,_,Iu⟩;rw[tk] at hk'
  rcases q_.mp hk' with m|m
  ·exact no k' m
  ·rw[Fx.mp m]
   refine⟨z',λx hx y=>z2 ?_⟩
   have:¬(es.filter λx=>decide (x∈k.es)).map V.int=[]:=λw=>by
    have:=Ig.mp w
    have hm:x∈es.filter λx=>decide (x∈k.es):=i_.mpr ⟨hx,Fm y⟩;rw[this] at hm
    cases hm
   show(!decide _)=true
   rw[b_ this];rfl
 rintro σ G ⟨sG,no,v7,rfl⟩
 rw[EV,la,HB] at no;have idle:uE ks c es:=⟨λk hk=>(no k hk).1,λx hx k hk=>(no k hk).2 x hx⟩;have chG:=ch.same sG;refine⟨_,Iu,l,_,Iu,.inl chG.l,λmi hmi=>?_⟩;obtain⟨G1,Ip,s1,e1⟩:=Io hmi (.lst (as.map V.ref));rw[Ip];refine⟨_,Iu,e,_,Iu,.inl (Iv (s1 _ _ (sG _ _ ee))),λso hso=>?_⟩;obtain⟨G2,Ip,s2,e2⟩:=Io hso (.lst (es.map V.int));rw[Ip];have e12:=s2 _ _ e1;have sG2:=sG.trans (s1.trans s2);have ch2:=ch.same sG2;have om2:=om.same sG2;have eq2:=sG2 _ _ eq;have ee2:=sG2 _ _ ee;have asked:bP K G2 p mi so h as ks es:=⟨ch2.p,ch2.ok,Iv e12,ch2.c,ch2.hin,ch2.few,.inr (Iv e2),by lia⟩
 refine⟨λσ' c0 d H'=>σ'=[Iq p,Iq l,Iq qa,some v,Ir c,Iq e,Ir sh,v7,some .non,some .non,Iq mi,Iq so,none,none,none]/\c0=.ref zH/\i9 G2 H'/\P6 h ks c es sh none/\∃dx nh nas nlv o,d=some dx/\Q3 h ks c es sh o/\X2 H' dx (F7 h ks c es) o nh nas nlv,?_,?_⟩
 ·refine⟨_,Iu,_,Iu,_,Iu,_,Iu,_,Iu,p,mi,so,h,as,ks,c,es,sh,Iu,asked,e12,h63,.lst e2 (λx hx=>?_) (by rw[EV];lia),rF eo,ask,idle,(λms k t2 ml2 r2 mas2 bs ks' es' H3 due2 s3 et2 em2 hms2 er2 hbs pe se pk sk=>?_),λd dx nh nas nlv o H3 s3 lo en _=>⟨Iu,Iu,s3,d,dx,nh,nas,nlv,o,Iu,lo,en⟩⟩
  ·obtain⟨i,_,rfl⟩:=GX.mp hx
   exact .int i
  have:=due.one ask.up due2
  subst this
  rcases om2.same s3 with⟨z,_⟩|⟨t,ml,mas,ms',k',ez,rfl,et,em,hms⟩
  ·cases z
  cases ez
  have c3:=ch2.same s3;obtain⟨ri,lm⟩:=due.room ch.ok ch.hin ch.few ask;refine⟨_,Iu,Iu,_,Iu,B9 ?_⟩;refine⟨_,Iu,_,Iu,e,es,Iu,.inr (Iv (s3 _ _ ee2)),by lia,λes3 pm srt sl hsl=>?_⟩
  obtain rfl:es3=es':=uc (pm.trans pe.symm) srt se;obtain⟨G3,Ip,q1,e1⟩:=Io hsl (.lst (es3.map V.int));rw[Ip];refine⟨sl,_,Iu,.inl ⟨Iv e1,λtt htt=>?_⟩⟩;have q2:=q1.trans (g9 htt (.tup (es3.map V.int)));have e2:=@c9 G3 tt (.tup (es3.map V.int));generalize upd G3 tt _=G4 at q2 e2 ⊢;refine⟨_,Iu,t,_,_,_,Iu,Iu,Iw (q2 _ _ et),Iu,z_3,λpn hpn=>?_⟩
  have q3':=g9 hpn (.tup [.int c,.ref tt,.int k]);have q3:=q2.trans q3';have cn:y8 (upd G4 pn (.tup [.int c,.ref tt,.int k])) pn ⟨c,es3,k⟩:=⟨tt,q3' _ _ e2,c9⟩;generalize upd G4 pn _=G5 at q3 cn ⊢;have c5:=c3.same q3;refine⟨_,Iu,_,Iu,t,_,_,_,Iu,Iu,Iw (q3 _ _ et),Iu,l,ml,as,mas,ks,ms,Iu,c5.l,c5.c,ch.few,q3 _ _ em,t4.same (λb xs z=>q3 _ _ z) hms,λi m hm=>(ri.good.1 i m hm).1,λlf fs G6 s6 elf hfs=>?_⟩;have q6:=q3.trans s6;have cn6:=y8.same (λb xs z=>s6 _ _ z) cn;refine⟨_,Iu,z_1,λnl hnl=>?_⟩
  have q7':=g9 hnl (.lst [.ref pn]);have q7:=q6.trans q7';have e7:=@c9 G6 nl (.lst [.ref pn]);have cn7:=y8.same (λb xs z=>q7' _ _ z) cn6;have elf7:=q7' _ _ elf;have hfs7:=m8.same (λb xs z=>q7' _ _ z) hfs;generalize upd G6 nl _=G7 at q7 e7 cn7 elf7 hfs7 ⊢;have lfs:=d_ hfs;have lb:(x9 ks ms).length=ks.length:=EV _;refine⟨lf,nl,_,_,Iu,Iu,elf7,e7,l_ (k9 (by rw[EV];show fs.length+1<=1000;lia)),λcl hcl=>?_⟩
  have q8':=g9 hcl (.lst (fs.map V.ref++[.ref pn]));have q8:=q7.trans q8';have e8:upd G7 cl (.lst (fs.map V.ref++[.ref pn])) cl=some (.lst ((fs++[pn]).map V.ref)):=by rw[c9,HE];rfl
  have cn8:=y8.same (λb xs z=>q8' _ _ z) cn7;have hfs8:=m8.same (λb xs z=>q8' _ _ z) hfs7;generalize upd G7 cl _=G8 at q8 e8 cn8 hfs8 ⊢
  dsimp only[yt]
  refine bO e8 (V2 hfs8 (.cons cn8 .nil)) (by rw[EU,Fj];lia) (FW.mpr ⟨ri.good.2.imp (λ{x y} z=>by have:=z.c;lia),HU ..,λk1 h1 k2 h2=>?_⟩) λl2 as' ks'' h1 h2 h3 h4=>?_
  ·rw[Fx.mp h2]
   obtain⟨κ,hκ,rfl⟩:=GX.mp h1;exact idle.1 κ hκ
  obtain rfl:ks''=ks':=rC (h3.trans pk.symm) h4 sk;have q9':=g9 h1 (.lst (as'.map V.ref));have q9:=q8.trans q9';have hB9:m8 (upd G8 l2 (.lst (as'.map V.ref))) bs ks'':=m8.same (λb xs z=>q9 _ _ z) hbs;have hA9:m8 (upd G8 l2 (.lst (as'.map V.ref))) as' ks'':=m8.same (λb xs z=>q9' _ _ z) h2;have e9:=@c9 G8 l2 (.lst (as'.map V.ref));generalize upd G8 l2 _=G9 at q9 hB9 hA9 e9 ⊢;refine⟨_,Iu,Iu,_,Iu,E9 ⟨_,Iu,_,Iu,t,_,_,_,Iu,Iu,Iw (q9 _ _ et),Iu,_,Iu,z_2,λp2 hp2=>?_⟩⟩
  obtain⟨GA,Ip,qA',eA⟩:=Io hp2 (.tup [.ref ml,.ref l2]);rw[Ip];have qA:=q9.trans qA';have hBA:=m8.same (λb xs z=>qA' _ _ z) hB9;have hAA:=m8.same (λb xs z=>qA' _ _ z) hA9;have e9A:=qA' _ _ e9
  have few':∀κ∈ks'',κ.es.length<=1000:=λκ hκ=>by
   rcases q_.mp (pk.mem_iff.mp hκ) with z|z
   ·obtain⟨κ0,h0,rfl⟩:=GX.mp z
    have:=(ch.hin κ0 h0).few
    show κ0.es.length<=1000
    lia
   ·rw[Fx.mp z]
    have:=pe.length_eq
    show es3.length<=1000
    lia
  have kl:bs.length<=1000:=by
   rw[d_ hbs,pk.length_eq,EU,Fj];lia
  have lma:mas2.length<=1000:=by
   rw[d_ hms2];lia
  refine⟨_,_,Iu,.inr ⟨t2,p2,_,_,Iu,Iu,.inr ⟨qA _ _ et2,eA⟩,.cons (.inr ⟨ml2,ml,_,_,Iu,Iu,.inl ⟨qA _ _ em2,qA _ _ em⟩,cV (t4.same (λb xs z=>qA _ _ z) hms2) (t4.same (λb xs z=>qA _ _ z) hms),by rw[EV];exact lma⟩) (.cons (.inr ⟨r2,l2,_,_,Iu,Iu,.inl ⟨qA _ _ er2,e9A⟩,kR hBA hAA few',by rw[EV];exact kl⟩) .nil),by show 2<=1000;decide⟩,?_⟩
  exact q GA (sG2.trans (s3.trans qA))
 ·rintro σ' c0 d H6 ⟨rfl,rfl,s6,due2,dx,nh,nas,nlv,o,rfl,lo,en⟩
  refine⟨Iu,Z.ke_Engaged,λea C hc hea=>?_⟩
  cases hc
  have:=due.one ask.up due2
  subst this
  rcases om2 with⟨_,rfl⟩|⟨t,ml,mas,ms',k',ez,_⟩
  rotate_left
  ·cases ez
  have s7':=g9 hea (aX ea zH (some dx));have e7:=c9 (H:=H6) (a:=ea) (o:=aX ea zH (some dx));have en7:=en.same s7';have s7:=s6.trans s7';generalize upd H6 ea _=H7 at e7 en7 s7 ⊢;refine⟨_,Iu,?_⟩;refine⟨_,Iu,Iu,_,Iu,E9 ?_⟩;exact⟨_,Iu,Iu,_,Iu,E9 ⟨_,Iu,_,Iu,_,Iu,_,Iu,p,l,qa,ea,dx,nh,e,nas,nlv,o,h,as,ks,c,es,sh,Iu,ch2.same s7,s7 _ _ eq2,Iv (s7 _ _ ee2),few,e7,en7,lo,λH8 s8=>q H8 (sG2.trans (s7.trans s8))⟩⟩
def qT {b:Bool}{tt:TS}{D:bL}{σ:Int->L2.St}{x:Int}(h:∀W,D.nx (σ W) H0)(h1:b=true->(∀W,D.nx (σ W) H0)->tt D (σ x) H0):(λ(b:Bool) H1=>if b=true then tt D (σ x) H1 else tD D (σ x) H1) b H0:=by
 cases b
 ·exact h x
 ·exact h1 rfl h
def gR (K:Frag):Sp:=λvs H Q _=>∃(a l:Addr)(h:j8)(as:List Addr)(ks:List Call)(n:Int),vs=[.ref a,.ref l,.int n]/\C2 K H a l h as ks/\ks.Pairwise (D7 h)/\(ks.Pairwise λk k'=>k.c<k'.c)/\ks.length<63/\∀(H':Hp),i9 H H'->Q (.bl true) H'
def t5:FnScope ["_law_hall_here","_law_calls_here","_law_number_here","_law_caller","_law_ends_here","_law_shut","_law_due_here","_law_handed","_law_refused","_law_found_here","_law_e","_law_asked_here"] ["_law_hall_here","_law_calls_here","_law_number_here"] (i4 (top 77)):=mkF
def mG (T:Txt K mg)(Z:eY K mg zI zL zJ zM zN zR zT zH zO)(Ay:i6 P w K mg base 1 "_law_ends" p_29 (nY K))(Cy:i6 P w K mg base 4 "_law_due" p_11 (pF K))(Be:O1 P w K mg base 9 "room" p_1 [.int 0] (bY K zH))(Bx:i6 P w K mg base 11 "_law_joined" p_16 (gb K))(zW:i6 P w K mg base 5 "_law_alike" p_7 (V1 4))(Cb:i6 P w K mg base 3 "_law_good" p_8 (tN K))(At:i6 P w K mg base 4 "_law_paper" p_12 (cM K zH))(D:Def K mg "_law_asked" (top 77) p_21):i6 P w K mg base 12 "_law_asked" p_21 (gR K):=by
 refine D.ok t5 (λ_ _ _ _ h=>?_) (λ_ _ _ _ _ H _ Q E hr h=>?_)
 ·obtain⟨a,l,h,as,ks,n,rfl,_⟩:=h
  rfl
 obtain⟨a,l,h,as,ks,n,rfl,ch,fr,up,h63,q⟩:=h;have ok:=ch.ok;have b1:=ok.ic;have b2:=ok.i;have b3:=ok.m;have b4:=ok.c
 refine⟨_,(d9 (j4 (i:=3) t5.nd Iu Ix (l6 B2 (l6 B2 (l6 A4 (pv 2) h7) h7) (l6 A4 (i8 (i5 K) (pv 0) h7) (i8 (i5 K) (pv 0) h7))))
  (d9 (j4 (i:=4) t5.nd Iu Ix (l9 Ay hr Iu (a8 (pv 0) (a8 (l6 L9 (l6 A4 (pv 2) h7) h7) c7 Q1) a9)))
  (d9 (j4 (i:=5) t5.nd Iu Ix h7)
  (d9 (n6 (k8 E4 (l6 B2 (l6 B2 (l6 A4 (pv 2) h7) h7) h7) h7 (m6 _)) (h9 (j4 (i:=5) t5.nd Iu Ix (l6 B2 (l6 B2 (l6 A4 (pv 2) h7) h7) (l6 mK h7 (i8 (i5 K) (pv 0) h7))))) l7)
  (d9 (j4 (i:=6) t5.nd Iu Ix (l9 Cy hr Iu (a8 (pv 0) (a8 (pv 1) (a8 (pv 3) (a8 (pv 4) (a8 (pv 5) c7 a9) a9) a9) a9) a9)))
  (d9 (j4 (i:=7) t5.nd Iu Ix (r6 (a8 (w9 (M3 K) rfl T.Ap HW (a8 (pv 1) c7 a9)) (a8 (w9 (M3 K) rfl T.Ap HW (a8 (pv 4) c7 a9)) c7 n9) n9)))
  (d9 (j4 (i:=8) t5.nd Iu Ix o5)
  (d9 (j4 (i:=9) t5.nd Iu Ix o5)
  (d9 (pK (c:=.ref zH) (i:=10) rfl Z.AI t5.nd rfl rfl rfl rfl rfl (λpn E =>
  (h9 (n6 (k8 E4 (pv 5) h7 (m6 _)) (h9 (j4 (i:=9) t5.nd Iu Ix (cC 0 Be cF hr Iu (a8 (pv 0) (a8 (i8 (u7 K) (pv 7) h7) (a8 (pv 3) (a8 (i8 (u7 K) (pv 7) h7) c7 m5) a9) m5) a9)))) (h9 (j4 (i:=9) t5.nd Iu Ix (cC 1 Be cF hr Iu (a8 (pv 0) (a8 (i8 (u7 K) (pv 7) h7) (a8 (pv 3) (a8 (w9 (P5 K) rfl T.Ak HM (a8 (pv 4) c7 a9)) (a8 (pv 5) c7 a9) n9) a9) m5) a9))))))) (λea =>
  (h9 (j4 (i:=8) t5.nd Iu Ix (pv 10)))))
  (d9 (j4 (i:=11) t5.nd Iu Ix (y7 (a8 (pv 3) (a8 (pv 4) (a8 (pv 5) c7 a9) a9) a9)))
  (d9 (n6 (PW.pt (dg (k8 (rm K (C0.unitsT hr)) (pv 7) (r6 (a8 (pv 1) (a8 (pv 4) c7 a9) a9)) (m6 _)) (aT (F0 (B0 K (l9 Bx hr Iu (a8 (pv 0) (a8 (pv 1) (a8 (pv 11) (a8 (pv 6) c7 a9) a9) a9) a9)) (λ_=>rfl)))))) (h9 (j5 F2)) l7)
  (d9 (n6 (k8 L5 (pv 6) o5 (m6 _)) (d9 (n6 (F0 (B0 K (l9 zW hr Iu (a8 (pv 9) (a8 (pv 6) c7 a9) a9)) (λ_=>rfl))) (h9 (j5 F2)) l7)
  (h9 (j5 (l9 Cb hr Iu (a8 (pv 0) (a8 (pv 1) (a8 (pv 6) (a8 (pv 3) (a8 (pv 4) c7 a9) a9) a9) a9) a9))))) l7)
  (h9 (j5 (T8 (F3 L5 (pv 8) o5 (m6 _)) (Y8 (l9 At hr Iu (a8 (pv 0) (a8 (pv 1) (a8 (pv 11) (a8 (pv 8) c7 a9) a9) a9) a9)))))))))))))))))),?_⟩
 refine⟨_,Iu,_,_,Iu,Iu,.inr ⟨by decide,by decide⟩,_,_,Iu,Iu,(by show(0:Int)<999953;decide),_,Iu,a,_,_,_,Iu,Iu,ch.p,Iu,_,Iu,a,_,_,_,Iu,Iu,ch.p,Iu,_,_,Iu,Iu,.inl ⟨by lia,by lia⟩,_,_,Iu,Iu,(by show 0<h.i*h.c;lia),?_⟩
 have hc:0<=n*39373%999953%(h.i*h.c)/\n*39373%999953%(h.i*h.c)<h.i*h.c:=cL (by lia)
 refine⟨_,Iu,_,Iu,_,_,Iu,Iu,.inr ⟨by decide,by decide⟩,_,_,Iu,Iu,a,h,n*7+1,Iu,ch.p,ok,λe es H1 s1 _ ee eo=>?_⟩
 have few:=eo.few;have c1:=ch.same s1;refine⟨_,Iu,_,_,Iu,Iu,.inr ⟨by decide,by decide⟩,_,_,Iu,Iu,(by show(0:Int)<999907;decide),_,_,Iu,Iu,(by show(0:Int)<3;decide),Iu,_,Iu,?_⟩
 refine qT (σ:=λW=>[Iq a,Iq l,Ir n,some (.int (n*39373%999953%(h.i*h.c))),Iq e,Ir W,none,none,none,none,none,none]) (λsh=>?_) (λ_ key=>?_)
 rotate_left
 ·exact⟨_,Iu,_,_,Iu,Iu,.inr ⟨by decide,by decide⟩,_,_,Iu,Iu,(by show(0:Int)<16777213;decide),_,Iu,a,_,_,_,Iu,Iu,c1.p,Iu,_,_,Iu,Iu,⟨by show 0<=h.m;lia,by show h.m<=1000000;lia,by decide⟩,_,_,Iu,Iu,(by show(0:Int)<1*2^h.m.toNat;rw[Int.one_mul];exact Int.pow_pos (by decide)),key _⟩
 generalize n*39373%999953%(h.i*h.c)=c at hc ⊢;have ask:eG h ks c es:=⟨fr,up,hc,eo.es⟩;refine⟨_,Iu,_,Iu,_,Iu,_,Iu,_,Iu,a,l,e,h,as,ks,c,es,sh,Iu,c1,ask,Iv ee,eo.some,few,λv r H2 s2' due om=>?_⟩;have s2:=s1.trans s2';have ee2:=s2' _ _ ee;have c2:=ch.same s2;refine⟨_,Iu,l,_,Iu,.inl c2.l,λl1 hl1=>?_⟩;obtain⟨H3,Ip,s3,e3⟩:=Io hl1 (.lst (as.map V.ref));rw[Ip];refine⟨_,Iu,e,_,Iu,.inl (Iv (s3 _ _ ee2)),λl2 hl2=>?_⟩;have s4':=g9 hl2 (.lst (es.map V.int));have s4:=s3.trans s4';have e4:=@c9 H3 l2 (.lst (es.map V.int));have e34:=s4' _ _ e3;generalize upd H3 l2 _=H4 at s4 e4 e34 ⊢;refine⟨z_2,λhd hhd=>?_⟩
 have s5':=g9 hhd (.lst [.ref l1,.ref l2]);have s5:=s4.trans s5';have e5:=@c9 H4 hd (.lst [.ref l1,.ref l2]);have e15:=s5' _ _ e34;have e25:=s5' _ _ e4;generalize upd H4 hd _=G at s5 e5 e15 e25 ⊢;have sG:=s2.trans s5;have cG:=ch.same sG;have eeG:=s5 _ _ ee2;have omG:=om.same s5;have at0:atI [V.ref l1,V.ref l2] 0=some (.ref l1):=(show atI _ ((0:Nat):Int)=_ from C4 rfl);have at1:atI [V.ref l1,V.ref l2] 1=some (.ref l2):=(show atI _ ((1:Nat):Int)=_ from C4 rfl)
 dsimp only[P2,tD]
 refine jr (λσ' G'=>G=G'/\σ'=[Iq a,Iq l,Ir n,Ir c,Iq e,Ir sh,some v,Iq hd,some .non,none,none,none]) (λR rest=>rest _ _ ⟨Iu,Iu⟩) ?_
 rintro σ' _ ⟨rfl,rfl⟩
 refine jr (λσ' G'=>G=G'/\σ'=[Iq a,Iq l,Ir n,Ir c,Iq e,Ir sh,some v,Iq hd,some .non,some .non,none,none]) (λR rest=>rest _ _ ⟨Iu,Iu⟩) ?_
 rintro σ' _ ⟨rfl,rfl⟩
 refine jr (λσ' G'=>i9 G G'/\∃rv fv v10,σ'=[Iq a,Iq l,Ir n,Ir c,Iq e,Ir sh,some v,Iq hd,some rv,some fv,v10,none]/\((∃ms k t2 ml2 mas2,r=some (ms,k)/\G' t2=some (.tup [.ref ml2,.int k])/\G' ml2=some (.lst (mas2.map V.ref))/\t4 G' mas2 ms/\rv=.non/\fv=.ref t2) \/
   ∃ea dx nh nas nlv o,r=none/\G' ea=some (aX ea zH (some dx))/\Q3 h ks c es sh o/\X2 G' dx (F7 h ks c es) o nh nas nlv/\rv=.ref ea)) (λR rest=>?_) ?_
 ·refine⟨λσ' c0 d H'=>σ'=[Iq a,Iq l,Ir n,Ir c,Iq e,Ir sh,some v,Iq hd,some .non,some .non,none,none]/\c0=.ref zH/\i9 G H'/\r=none/\∃dx nh nas nlv o,d=some dx/\Q3 h ks c es sh o/\X2 H' dx (F7 h ks c es) o nh nas nlv,?_,?_⟩
  ·refine⟨_,Iu,Iu,_,Iu,?_⟩
   refine kX (λσ' G'=>i9 G G'/\∃ms k t2 ml2 mas2,r=some (ms,k)/\G' t2=some (.tup [.ref ml2,.int k])/\G' ml2=some (.lst (mas2.map V.ref))/\t4 G' mas2 ms/\σ'=[Iq a,Iq l,Ir n,Ir c,Iq e,Ir sh,some v,Iq hd,some .non,Iq t2,none,none]) (λσ' G' ⟨z1,ms,k,t2,ml2,mas2,z2,z3,z4,z5,z6⟩=>rest _ _ ⟨z1,_,_,_,z6,.inl ⟨ms,k,t2,ml2,mas2,z2,z3,z4,z5,Iu,Iu⟩⟩) (λhb key=>?_) (λhb key=>?_)
   ·have sh0:sh=0:=by simpa using hb
    subst sh0;refine⟨_,Iu,_,Iu,hd,_,_,_,Iu,Iu,Iv e5,at0,_,Iu,_,Iu,hd,_,_,_,Iu,Iu,Iv e5,at1,a,l1,l2,h,as,ks,c,es,0,Iu,⟨cG.p,ok,Iv e15,cG.c,cG.hin,cG.few,.inr (Iv e25),by lia⟩,ask,(λms k t2 ml2 mas2 H6 d2 s6 et em hms=>key _ _ ⟨s6,ms,k,t2,ml2,mas2,due.one up d2,et,em,hms,Iu⟩),λd2 dx nh nas nlv o H6 s6 lo en _=>⟨Iu,Iu,s6,due.one up d2,dx,nh,nas,nlv,o,Iu,lo,en⟩⟩
   ·refine⟨_,Iu,_,Iu,hd,_,_,_,Iu,Iu,Iv e5,at0,_,Iu,_,Iu,e,_,Iu,.inl ⟨Iv eeG,λtt htt=>?_⟩⟩
    obtain⟨G6,Ip,s6,e6⟩:=Io htt (.tup (es.map V.int));rw[Ip];have c6:=cG.same s6;exact⟨_,Iu,a,l1,tt,h,as,ks,c,es,sh,Iu,⟨c6.p,ok,Iv (s6 _ _ e15),c6.c,c6.hin,c6.few,.inl (Iw e6),by lia⟩,ask,(λms k t2 ml2 mas2 H7 d2 s7 et em hms=>key _ _ ⟨s6.trans s7,ms,k,t2,ml2,mas2,due.one up d2,et,em,hms,Iu⟩),λd2 dx nh nas nlv o H7 s7 lo en _=>⟨Iu,Iu,s6.trans s7,due.one up d2,dx,nh,nas,nlv,o,Iu,lo,en⟩⟩
  ·rintro σ' c0 d H6 ⟨rfl,rfl,s6,rn,dx,nh,nas,nlv,o,rfl,lo,en⟩
   refine⟨Iu,Z.ke_Engaged,λea C hc hea=>?_⟩
   cases hc
   have s7':=g9 hea (aX ea zH (some dx));exact⟨_,Iu,rest _ _ ⟨s6.trans s7',_,_,_,Iu,.inr ⟨ea,dx,nh,nas,nlv,o,rn,c9,lo,en.same s7',Iu⟩⟩⟩
 rintro σ' G' ⟨sG',rv,fv,v10,rfl,cs⟩
 have sA:=sG.trans sG';have cA:=ch.same sA;have omA:=omG.same sG';have eeA:=sG' _ _ eeG
 have refsA:∀x∈as.map V.ref,∃c,x=V.ref c:=λx hx=>by
  obtain⟨b,_,rfl⟩:=GX.mp hx;exact⟨b,Iu⟩
 refine⟨_,Iu,_,Iu,_,Iu,z_3,λqa hqa=>?_⟩
 obtain⟨G7,Ip,s7,e7⟩:=Io hqa (.tup [.int c,.ref e,.int sh]);rw[Ip];refine⟨_,Iu,_,Iu,_,Iu,z_2,λnl hnl=>?_⟩
 have s8':=g9 hnl (.lst [.ref l,.ref e]);have s8:=s7.trans s8';have e8:=@c9 G7 nl (.lst [.ref l,.ref e]);have e78:=s8' _ _ e7;generalize upd G7 nl _=G8 at s8 e8 e78 ⊢;have c8:=cA.same s8;refine⟨hd,nl,l1,l2,l,e,_,_,Iu,Iu,Iv (s8 _ _ (sG' _ _ e5)),Iv e8,Iv (s8 _ _ (sG' _ _ e15)),c8.l,Iv (s8 _ _ (sG' _ _ e25)),Iv (s8 _ _ eeA),.inl refsA,.inr ⟨es,Iu⟩,_,Iu,B9 ?_⟩;refine⟨_,Iu,_,Iu,_,Iu,_,Iu,a,l,qa,e,v,h,as,ks,c,es,sh,_,Iu,c8,h63,e78,s8 _ _ eeA,eo,ask,due,omA.same s8,λH9 s9=>⟨_,Iu,B9 ?_⟩⟩;have s89:=s8.trans s9
 rcases cs with⟨ms,k,t2,ml2,mas2,rfl,et2,em2,hms2,rfl,rfl⟩|⟨ea,dx,nh,nas,nlv,o,rfl,eea,lo,en,rfl⟩
 ·rcases omA with⟨z,_⟩|⟨t,ml,mas,ms',k',ez,rfl,et,em,hms⟩
  ·cases z
  cases ez
  obtain⟨ri,lm⟩:=due.room ok ch.hin ch.few ask
  have lma:mas2.length<=1000:=by
   rw[d_ hms2];lia
  refine⟨_,Iu,Iu,_,Iu,E9 ?_⟩;refine⟨_,Iu,_,Iu,_,_,Iu,.inr ⟨t2,t,_,_,Iu,Iu,.inr ⟨s89 _ _ et2,s89 _ _ et⟩,.cons (.inr ⟨ml2,ml,_,_,Iu,Iu,.inl ⟨s89 _ _ em2,s89 _ _ em⟩,cV (t4.same (λb xs z=>s89 _ _ z) hms2) (t4.same (λb xs z=>s89 _ _ z) hms),by rw[EV];exact lma⟩) (.cons (N7.at (.inr ⟨_,Iu,Iu⟩)) .nil),by show 2<=1000;decide⟩,_,Iu,B9 ?_⟩
  exact⟨_,Iu,_,Iu,_,Iu,_,Iu,_,Iu,a,l,t,ml,e,h,as,mas,ks,ms,c,es,k,sh,Iu,cA.same s89,s89 _ _ et,s89 _ _ em,t4.same (λb xs z=>s89 _ _ z) hms,ri,Iv (s89 _ _ eeA),few,λH10 s10=>q H10 (sA.trans (s89.trans s10))⟩
 ·rcases omA with⟨_,rfl⟩|⟨t,ml,mas,ms',k',ez,_⟩
  rotate_left
  ·cases ez
  refine⟨_,Iu,Iu,_,Iu,B9 ?_⟩;exact⟨_,Iu,Iu,_,Iu,E9 ⟨_,Iu,_,Iu,_,Iu,_,Iu,a,l,qa,ea,dx,nh,e,nas,nlv,o,h,as,ks,c,es,sh,Iu,cA.same s89,s9 _ _ e78,Iv (s89 _ _ eeA),few,s89 _ _ eea,en.same s89,lo,λH10 s10=>q H10 (sA.trans (s89.trans s10))⟩⟩
def cK:FnScope ["_law_script","_law_hall_here","_law_cells","_law_calls_here","_law_at","_law_number_here"] ["_law_script"] (i4 (top 78)):=mkF
def wY (T:Txt K mg)(Z:eY K mg zI zL zJ zM zN zR zT zH zO)(Cc:i6 P w K mg base 2 "_law_hall" p_46 (uG K))(BF:i6 P w K mg base 3 "_law_calls" p_43 (oW K))(Al:i6 P w K mg base 1 "_law_number" p_41 sZ)(BG:i6 P w K mg base 12 "_law_asked" p_21 (gR K))(Be:O1 P w K mg base 9 "room" p_1 [.int 0] (bY K zH))(zW:i6 P w K mg base 5 "_law_alike" p_7 (V1 4))(F:Fun K "law" "law" (top 78) f fd):bF P w K mg base CX0 13 f fd p_46 (pP K):=by
 refine F.ok cK (λ_ _ _ _ h=>?_) (λcdv A outer s H vs Q E hr h=>?_)
 ·obtain⟨a,ns,rfl,_⟩:=h
  rfl
 obtain⟨a,ns,rfl,hS,h63,q⟩:=h
 refine⟨_,(d9 (j4 (i:=1) cK.nd Iu Ix (l9 Cc hr Iu (a8 (pv 0) c7 a9)))
  (d9 (j4 (i:=2) cK.nd Iu Ix (kO (kg K) (pv 0) (jA h7) (jA h7)))
  (d9 (j4 (i:=3) cK.nd Iu Ix (l9 BF hr Iu (a8 (pv 1) (a8 (pv 2) c7 a9) a9)))
  (d9 (w5 HI rfl (C8 rfl T.zZ (a8 (j6 (gQ rfl) rfl T.BU boot_min (a8 (j6 (y9 K) rfl T.zY HF (a8 (pv 2) c7 a9)) (a8 h7 c7 m9) n9)) c7 n9)) (l8 (i:=4) cK.nd Iu Ix)
  (d9 (j4 (i:=5) cK.nd Iu Ix (l6 L9 (l6 L9 (l6 A4 (l9 Al hr Iu (a8 (i8 (u7 K) (pv 2) (pv 4)) (a8 (pv 4) c7 a9) m5)) h7) (l6 A4 h7 (pv 4))) h7))
  (h9 (n6 (F0 (B0 K (l9 BG hr Iu (a8 (pv 1) (a8 (pv 3) (a8 (pv 5) c7 a9) a9) a9)) (λ_=>rfl))) (h9 (j5 F2)) l7))))
  (h9 (j5 (l9 zW hr Iu (a8 (cC 0 Be uw hr Iu (a8 (pv 1) (a8 (r6 c7) (a8 h7 (a8 (r6 (a8 h7 c7 m9)) c7 bM) m9) bM) a9)) (a8 (y7 (a8 (r6 c7) (a8 h7 c7 m9) bM)) c7 N8) n9)))))))),?_⟩
 refine⟨_,Iu,a,ns,Iu,hS,λp h H1 ok _ s1 ep=>?_⟩;refine⟨_,Iu,_,Iu,_,Iu,a,_,Iu,s1.seq hS,λl hl=>?_⟩
 obtain⟨cs,hcs,hc57⟩:∃cs:List Int,eU (ns.map V.int) (some 6) (some 70)=cs.map V.int/\cs.length<=57:=by
  refine⟨(ns.drop (HT.sIx (ns.map V.int).length 0 (some 6))).take (HT.sIx (ns.map V.int).length (ns.map V.int).length (some 70)-HT.sIx (ns.map V.int).length 0 (some 6)),?_,?_⟩
  ·unfold eU
   rw[List.map_take,List.map_drop]
  ·rw[EM,length_drop,show HT.sIx (ns.map V.int).length 0 (some 6)=min 6 (ns.map V.int).length from HT.sIx_nat _ _ 6,EV]
   lia
 rw[hcs];obtain⟨H2,Ip,s2,el⟩:=Io hl (.lst (cs.map V.int));rw[Ip];refine⟨_,Iu,_,Iu,p,l,h,cs,Iu,Iw (s2 _ _ ep),ok,Iv el,by lia,λlc as ks H3 s3 ec hC hin hlt hfr hkl0=>?_⟩
 have ep3:=s3 _ _ (s2 _ _ ep);have el3:=s3 _ _ el;have ch:C2 K H3 p lc h as ks:=⟨Iw ep3,ok,Iv ec,hC,hin,by lia⟩
 refine⟨_,Iu,l,_,Iu,.inl (Iv el3),_,_,Iu,_,Iu,?_,?_,?_⟩
 ·show -(2^62)<=(if (3:Int)<(((cs.map V.int).length:Nat):Int) then 3 else (((cs.map V.int).length:Nat):Int))
  split<;>lia
 ·rw[EV]
  show(if (3:Int)<((cs.length:Nat):Int) then 3 else ((cs.length:Nat):Int))<2^62
  split<;>lia
 rw[EV]
 have bnd:∀i:Nat,i<(if (3:Int)<((cs.length:Nat):Int) then (3:Int) else ((cs.length:Nat):Int)).toNat->i<cs.length/\i<3:=λi hi=>by
  split at hi<;>lia
 refine E3 (λi σ H'=>i9 H3 H'/\∃v4 v5,σ=[Iq a,Iq p,Iq l,Iq lc,v4,v5])
  ⟨i9.refl _,_,_,Iu⟩ ?_ ?_
 ·rintro i σ H' hi ⟨s6,v4,v5,rfl⟩
  obtain⟨hi1,hi2⟩:=bnd i hi;rw[HN];refine⟨_,Iu,_,Iu,l,_,_,_,Iu,Iu,Iv (s6 _ _ el3),mT hi1,_,Iu,_,i,Iu,by lia,λn0 hn0=>?_⟩
  refine⟨_,_,Iu,Iu,.inr ⟨by decide,by decide⟩,_,Iu,_,_,Iu,Iu,.inl ⟨by decide,by decide⟩,_,_,Iu,Iu,_,_,Iu,Iu,?_⟩
  exact⟨_,Iu,_,Iu,_,Iu,p,lc,h,as,ks,_,Iu,ch.same s6,hfr,hlt,by lia,λH7 s7=>⟨_,Iu,B9 ⟨s6.trans s7,_,_,Iu⟩⟩⟩
 ·rintro σ H' ⟨s6,v4,v5,rfl⟩
  have b1:=ok.ic;have b2:=ok.oe;have b3:=ok.m;refine⟨_,Iu,z_0,λl0 hl0=>?_⟩
  obtain⟨H7,Ip,s7,el0⟩:=Io hl0 (.lst []);rw[Ip];refine⟨z_1,λle hle=>?_⟩
  obtain⟨H8,Ip,s8',ele⟩:=Io hle (.lst [.int 0]);rw[Ip];have s8:=s7.trans s8';have el8:=s8' _ _ el0;obtain⟨ws,hw⟩:∃ws,X1 h [] 0 [0] 0=0::ws:=cU rfl (by rfl) (by lia)
  have ask:eG h [] 0 [0]:=⟨.nil,.nil,⟨by lia,by lia⟩,λx hx=>by rw[Fx.mp hx];exact⟨by lia,by lia⟩⟩
  refine⟨p,l0,le,h,[],[],0,[0],0,Iu,⟨Iw (s8 _ _ (s6 _ _ ep3)),ok,Iv el8,.nil,(λk hk=>nomatch hk),by decide,.inr (Iv ele),by decide⟩,ask,(λms k t ml mas H9 d s9 et em hms=>?_),λd=>?_⟩
  ·have:=d.one .nil (.way 0 ws hw)
   injection this with this
   injection this with e1 e2
   subst e1 e2
   cases hms
   refine⟨z_0,λn0 hn0=>?_⟩
   obtain⟨G7,Ip,q7',e7⟩:=Io hn0 (.lst []);rw[Ip];refine⟨z_2,λp2 hp2=>?_⟩
   have q8':=g9 hp2 (.tup [.ref n0,.int 0]);have q8:=q7'.trans q8';exact⟨_,_,Iu,.inr ⟨t,p2,_,_,Iu,Iu,.inr ⟨q8 _ _ et,c9⟩,.cons (.inr ⟨ml,n0,[],[],Iu,Iu,.inl ⟨q8 _ _ em,q8' _ _ e7⟩,.nil,by decide⟩) (.cons (N7.at (.inr ⟨0,Iu,Iu⟩)) .nil),by show 2<=1000;decide⟩,q _⟩
  ·have:=d.one .nil (.way 0 ws hw)
   cases this
section
variable {K:Frag}
def wX {st:Stmt}{ps:List Str}{kV dc pm cd ct:Value}(X:K.In h)(G:h.Ns mainGlobals mg)(a:nsIn K mainGlobals x=some (some (.ref f)))
  (l:K.lookup f=some ⟨oc,od,.func (fnOf x x (x8 st) (o7 st) (i4 st) .none kV dc pm an cd ct),sl⟩)(c:codeIn K cd x=true)(k:keepIn K (.ref f)=true)
  (b:∀us:List Value,us.length=ps.length->bindArgs (fnOf x x (x8 st) (o7 st) (i4 st) .none kV dc pm an cd ct) ⟨us,[]⟩=pure (ps.zip us)):Def K mg x st ps :=
 ⟨f,_,uu l c k,.all b,Ih X G a⟩
def Fnd (K:Frag)(x:Str)(st:Stmt)(f:Addr):Prop:=nsIn K mainGlobals x=some (some (.ref f))/\∃(oc:Value)(od an:Option Addr)(sl:Array (Option Value))(kV dc pm cd ct:Value),K.lookup f=some ⟨oc,od,.func (fnOf x x (x8 st) (o7 st) (i4 st) .none kV dc pm an cd ct),sl⟩/\codeIn K cd x=true/\keepIn K (.ref f)=true
def xi {st:Stmt}{kV dc pm cd ct:Value}(a:nsIn K mainGlobals x=some (some (.ref f)))(l:K.lookup f=some ⟨oc,od,.func (fnOf x x (x8 st) (o7 st) (i4 st) .none kV dc pm an cd ct),sl⟩)(c:codeIn K cd x=true)(k:keepIn K (.ref f)=true):Fnd K x st f:=⟨a,_,_,_,_,_,_,_,_,_,l,c,k⟩
def aE {st:Stmt}{ps:List Str}(X:K.In h)(G:h.Ns mainGlobals mg)(F:Fnd K x st f)(b:∀(kV dc pm cd ct:Value)(an:Option Addr)(us:List Value),us.length=ps.length->bindArgs (fnOf x x (x8 st) (o7 st) (i4 st) .none kV dc pm an cd ct) ⟨us,[]⟩=pure (ps.zip us)):Def K mg x st ps:=by
 obtain⟨a,_,_,_,_,_,_,_,_,_,l,c,k⟩:=F;exact wX X G a l c k (b _ _ _ _ _ _)
def zi {p:List Value->Prop}(h:∀(u0:Value),p [u0])(us:List Value)(e:us.length=1):p us:=by
 rcases us with _|⟨_,_|⟨_,_⟩⟩<;>first|(cases e;done)|exact h _
def au {st:Stmt}{ps:List Str}(X:K.In h)(G:h.Ns mainGlobals mg)(F:Fnd K x st f)(b:∀(kV dc pm cd ct:Value)(an:Option Addr)(u0:Value),bindArgs (fnOf x x (x8 st) (o7 st) (i4 st) .none kV dc pm an cd ct) ⟨[u0],[]⟩=pure (ps.zip [u0]):=by intros;rfl)(e:ps.length=1:=by rfl):Def K mg x st ps:=aE X G F λkV dc pm cd ct an us hl=>zi (p:=λus=>bindArgs (fnOf x x (x8 st) (o7 st) (i4 st) .none kV dc pm an cd ct) ⟨us,[]⟩=pure (ps.zip us)) (λu0=>b kV dc pm cd ct an u0) us (hl.trans e)
def zt {p:List Value->Prop}(h:∀(u0 u1:Value),p [u0,u1])(us:List Value)(e:us.length=2):p us:=by
 rcases us with _|⟨_,_|⟨_,_|⟨_,_⟩⟩⟩<;>first|(cases e;done)|exact h _ _
def A7 {st:Stmt}{ps:List Str}(X:K.In h)(G:h.Ns mainGlobals mg)(F:Fnd K x st f)(b:∀(kV dc pm cd ct:Value)(an:Option Addr)(u0 u1:Value),bindArgs (fnOf x x (x8 st) (o7 st) (i4 st) .none kV dc pm an cd ct) ⟨[u0,u1],[]⟩=pure (ps.zip [u0,u1]):=by intros;rfl)(e:ps.length=2:=by rfl):Def K mg x st ps:=aE X G F λkV dc pm cd ct an us hl=>zt (p:=λus=>bindArgs (fnOf x x (x8 st) (o7 st) (i4 st) .none kV dc pm an cd ct) ⟨us,[]⟩=pure (ps.zip us)) (λu0 u1=>b kV dc pm cd ct an u0 u1) us (hl.trans e)
def zE {p:List Value->Prop}(h:∀(u0 u1 u2:Value),p [u0,u1,u2])(us:List Value)(e:us.length=3):p us:=by
 rcases us with _|⟨_,_|⟨_,_|⟨_,_|⟨_,_⟩⟩⟩⟩<;>first|(cases e;done)|exact h _ _ _
def R4 {st:Stmt}{ps:List Str}(X:K.In h)(G:h.Ns mainGlobals mg)(F:Fnd K x st f)(b:∀(kV dc pm cd ct:Value)(an:Option Addr)(u0 u1 u2:Value),bindArgs (fnOf x x (x8 st) (o7 st) (i4 st) .none kV dc pm an cd ct) ⟨[u0,u1,u2],[]⟩=pure (ps.zip [u0,u1,u2]):=by intros;rfl)(e:ps.length=3:=by rfl):Def K mg x st ps:=aE X G F λkV dc pm cd ct an us hl=>zE (p:=λus=>bindArgs (fnOf x x (x8 st) (o7 st) (i4 st) .none kV dc pm an cd ct) ⟨us,[]⟩=pure (ps.zip us)) (λu0 u1 u2=>b kV dc pm cd ct an u0 u1 u2) us (hl.trans e)
def uo {p:List Value->Prop}(h:∀(u0 u1 u2 u3:Value),p [u0,u1,u2,u3])(us:List Value)(e:us.length=4):p us:=by
 rcases us with _|⟨_,_|⟨_,_|⟨_,_|⟨_,_|⟨_,_⟩⟩⟩⟩⟩<;>first|(cases e;done)|exact h _ _ _ _
def R0 {st:Stmt}{ps:List Str}(X:K.In h)(G:h.Ns mainGlobals mg)(F:Fnd K x st f)(b:∀(kV dc pm cd ct:Value)(an:Option Addr)(u0 u1 u2 u3:Value),bindArgs (fnOf x x (x8 st) (o7 st) (i4 st) .none kV dc pm an cd ct) ⟨[u0,u1,u2,u3],[]⟩=pure (ps.zip [u0,u1,u2,u3]):=by intros;rfl)(e:ps.length=4:=by rfl):Def K mg x st ps:=aE X G F λkV dc pm cd ct an us hl=>uo (p:=λus=>bindArgs (fnOf x x (x8 st) (o7 st) (i4 st) .none kV dc pm an cd ct) ⟨us,[]⟩=pure (ps.zip us)) (λu0 u1 u2 u3=>b kV dc pm cd ct an u0 u1 u2 u3) us (hl.trans e)
def ud {p:List Value->Prop}(h:∀(u0 u1 u2 u3 u4:Value),p [u0,u1,u2,u3,u4])(us:List Value)(e:us.length=5):p us:=by
 rcases us with _|⟨_,_|⟨_,_|⟨_,_|⟨_,_|⟨_,_|⟨_,_⟩⟩⟩⟩⟩⟩<;>first|(cases e;done)|exact h _ _ _ _ _
def S7 {st:Stmt}{ps:List Str}(X:K.In h)(G:h.Ns mainGlobals mg)(F:Fnd K x st f)(b:∀(kV dc pm cd ct:Value)(an:Option Addr)(u0 u1 u2 u3 u4:Value),bindArgs (fnOf x x (x8 st) (o7 st) (i4 st) .none kV dc pm an cd ct) ⟨[u0,u1,u2,u3,u4],[]⟩=pure (ps.zip [u0,u1,u2,u3,u4]):=by intros;rfl)(e:ps.length=5:=by rfl):Def K mg x st ps:=aE X G F λkV dc pm cd ct an us hl=>ud (p:=λus=>bindArgs (fnOf x x (x8 st) (o7 st) (i4 st) .none kV dc pm an cd ct) ⟨us,[]⟩=pure (ps.zip us)) (λu0 u1 u2 u3 u4=>b kV dc pm cd ct an u0 u1 u2 u3 u4) us (hl.trans e)
def za {p:List Value->Prop}(h:∀(u0 u1 u2 u3 u4 u5:Value),p [u0,u1,u2,u3,u4,u5])(us:List Value)(e:us.length=6):p us:=by
 rcases us with _|⟨_,_|⟨_,_|⟨_,_|⟨_,_|⟨_,_|⟨_,_|⟨_,_⟩⟩⟩⟩⟩⟩⟩<;>first|(cases e;done)|exact h _ _ _ _ _ _
def jy {st:Stmt}{ps:List Str}(X:K.In h)(G:h.Ns mainGlobals mg)(F:Fnd K x st f)(b:∀(kV dc pm cd ct:Value)(an:Option Addr)(u0 u1 u2 u3 u4 u5:Value),bindArgs (fnOf x x (x8 st) (o7 st) (i4 st) .none kV dc pm an cd ct) ⟨[u0,u1,u2,u3,u4,u5],[]⟩=pure (ps.zip [u0,u1,u2,u3,u4,u5]):=by intros;rfl)(e:ps.length=6:=by rfl):Def K mg x st ps:=aE X G F λkV dc pm cd ct an us hl=>za (p:=λus=>bindArgs (fnOf x x (x8 st) (o7 st) (i4 st) .none kV dc pm an cd ct) ⟨us,[]⟩=pure (ps.zip us)) (λu0 u1 u2 u3 u4 u5=>b kV dc pm cd ct an u0 u1 u2 u3 u4 u5) us (hl.trans e)
def xo {l:PySem.W.OpenLaw}{fa f1 f2 f3 f4 f5 f6 f7 f8 f9 f10 f11 f12 f13 f14 f15 f16 f17 f18 f19 f20 f21 f22 f23 f24 f25 f26 f27 f28 f29 f30 f31 f32 f33 f34 f35 f36 f37 f38 f39 f40 f41 f42 f43 f44 f45 f46 f47 f48 f49 f50 f51 f52 f53 f54 f55 f56 f57 f58 f59 f60 f61 f62  zI zL zJ zM zN zR zT zH zO zU:Addr}(X:K.In h)(G:h.Ns mainGlobals mg)(hfa:mg "law" = some (.ref fa))
  
  {nv18:Nat}
  {nv19:Nat}
  {nv38:Nat}
  {nv39:Nat}
  (b1:Fnd K "is_number" (top 11) f1)
  (b2:Fnd K "is_whole" (top 12) f2)
  (b3:Fnd K "rises" (top 13) f3)
  (b4:Fnd K "place_in" (top 14) f4)
  (b5:Fnd K "place_out" (top 15) f5)
  (b6:Fnd K "are_ends" (top 16) f6)
  (b7:Fnd K "racks_of" (top 17) f7)
  (b8:Fnd K "left_open" (top 19) f8)
  (b9:Fnd K "in_bits" (top 20) f9)
  (b10:Fnd K "out_bits" (top 21) f10)
  (b11:Fnd K "held_lines" (top 22) f11)
  (b12:Fnd K "are_unlike" (top 23) f12)
  (b13:Fnd K "is_right" (top 24) f13)
  (b14:Fnd K "is_caller" (top 26) f14)
  (b15:Fnd K "is_ends" (top 27) f15)
  (b16:Fnd K "holds_needed" (top 28) f16)
  (b17:Fnd K "holders" (top 29) f17)
  (dl18:K.lookup dv18=some ⟨.type "tuple",Dy,.seq #[.int 0 td18_0] nv18,Dz⟩)
  (a18:nsIn K mainGlobals "ways" = some (some (.ref f18)))(l18:K.lookup f18=some ⟨oc18,DL,.func (fnOf "ways" "ways" (x8 (top 30)) (o7 (top 30)) (i4 (top 30)) (.ref dv18) kV18 dc18 pm18 an18 cd18 ct18),DQ⟩)(c18:codeIn K cd18 "ways" = true)(k18:keepIn K (.ref f18)=true)
  (dl19:K.lookup dv19=some ⟨.type "tuple",DA,.seq #[.int 0 td19_0] nv19,DB⟩)
  (a19:nsIn K mainGlobals "least_ended" = some (some (.ref f19)))(l19:K.lookup f19=some ⟨oc19,DM,.func (fnOf "least_ended" "least_ended" (x8 (top 31)) (o7 (top 31)) (i4 (top 31)) (.ref dv19) kV19 dc19 pm19 an19 cd19 ct19),DR⟩)(c19:codeIn K cd19 "least_ended" = true)(k19:keepIn K (.ref f19)=true)
  (b20:Fnd K "call_of" (top 33) f20)
  (b21:Fnd K "holder_of" (top 34) f21)
  (b22:Fnd K "refuse_wrong" (top 35) f22)
  (b23:Fnd K "refuse_busy" (top 36) f23)
  (b24:Fnd K "refuse_engaged" (top 37) f24)
  (b25:Fnd K "with_call" (top 38) f25)
  (b26:Fnd K "call_racks" (top 40) f26)
  (b27:Fnd K "calls_by_in" (top 41) f27)
  (b28:Fnd K "calls_by_out" (top 42) f28)
  (b29:Fnd K "chain_from" (top 43) f29)
  (b30:Fnd K "chain_out" (top 44) f30)
  (b31:Fnd K "chain_in" (top 45) f31)
  (b32:Fnd K "moves_of" (top 46) f32)
  (b33:Fnd K "refuse_move" (top 47) f33)
  (b34:Fnd K "moved" (top 48) f34)
  (b35:Fnd K "idle_racks" (top 50) f35)
  (b36:Fnd K "chain_chosen" (top 51) f36)
  (b37:Fnd K "room_by_chain" (top 52) f37)
  (dl38:K.lookup dv38=some ⟨.type "tuple",DC,.seq #[.int 0 td38_0] nv38,DD⟩)
  (a38:nsIn K mainGlobals "room" = some (some (.ref f38)))(l38:K.lookup f38=some ⟨oc38,DN,.func (fnOf "room" "room" (x8 (top 53)) (o7 (top 53)) (i4 (top 53)) (.ref dv38) kV38 dc38 pm38 an38 cd38 ct38),DS⟩)(c38:codeIn K cd38 "room" = true)(k38:keepIn K (.ref f38)=true)
  (dl39:K.lookup dv39=some ⟨.type "tuple",DE,.seq #[.int 0 td39_0] nv39,DF⟩)
  (a39:nsIn K mainGlobals "joined_turning" = some (some (.ref f39)))(l39:K.lookup f39=some ⟨oc39,DO,.func (fnOf "joined_turning" "joined_turning" (x8 (top 54)) (o7 (top 54)) (i4 (top 54)) (.ref dv39) kV39 dc39 pm39 an39 cd39 ct39),DT⟩)(c39:codeIn K cd39 "joined_turning" = true)(k39:keepIn K (.ref f39)=true)
  (b40:Fnd K "_law_cell_at" (top 56) f40)
  (b41:Fnd K "_law_hall" (top 57) f41)
  (b42:Fnd K "_law_ends" (top 58) f42)
  (b43:Fnd K "_law_lines" (top 59) f43)
  (b44:Fnd K "_law_number" (top 60) f44)
  (b45:Fnd K "_law_try" (top 61) f45)
  (b46:Fnd K "_law_calls" (top 62) f46)
  (b47:Fnd K "_law_alike" (top 63) f47)
  (b48:Fnd K "_law_kind" (top 64) f48)
  (b49:Fnd K "_law_right" (top 65) f49)
  (b50:Fnd K "_law_held" (top 66) f50)
  (b51:Fnd K "_law_chain" (top 67) f51)
  (b52:Fnd K "_law_holds" (top 68) f52)
  (b53:Fnd K "_law_best" (top 69) f53)
  (b54:Fnd K "_law_shorter" (top 70) f54)
  (b55:Fnd K "_law_found" (top 71) f55)
  (b56:Fnd K "_law_due" (top 72) f56)
  (b57:Fnd K "_law_moved" (top 73) f57)
  (b58:Fnd K "_law_good" (top 74) f58)
  (b59:Fnd K "_law_paper" (top 75) f59)
  (b60:Fnd K "_law_joined" (top 76) f60)
  (b61:Fnd K "_law_asked" (top 77) f61)
  (a62:nsIn K mainGlobals "law" = some (some (.ref f62)))(l62:K.lookup f62=some ⟨oc62,DP,.func (fnOf "law" "law" (x8 (top 78)) (o7 (top 78)) (i4 (top 78)) .none kV62 dc62 pm62 an62 cd62 ct62),DU⟩)(c62:codeIn K cd62 "law" = true)(k62:keepIn K (.ref f62)=true)
  (Bs:nsIn K mainGlobals "HallError" = some (some (.ref zI)))
  (Cd:nsIn K mainGlobals "NoHall" = some (some (.ref zL)))
  (BH:nsIn K mainGlobals "NoCalls" = some (some (.ref zJ)))
  (Ce:nsIn K mainGlobals "NoLine" = some (some (.ref zM)))
  (Cf:nsIn K mainGlobals "NoRule" = some (some (.ref zN)))
  (CL:nsIn K mainGlobals "Idle" = some (some (.ref zR)))
  (CM:nsIn K mainGlobals "Busy" = some (some (.ref zT)))
  (AY:nsIn K mainGlobals "Engaged" = some (some (.ref zH)))
  (Cg:nsIn K mainGlobals "NoMove" = some (some (.ref zO)))
  (AA:isClsIn K zI=true)(AB:typeIn K (.ref zI)=some (.type "type"))
  (Ch:isClsIn K zL=true)(Ci:typeIn K (.ref zL)=some (.type "type"))
  (BI:isClsIn K zJ=true)(BJ:typeIn K (.ref zJ)=some (.type "type"))
  (Cj:isClsIn K zM=true)(Ck:typeIn K (.ref zM)=some (.type "type"))
  (Cl:isClsIn K zN=true)(Cm:typeIn K (.ref zN)=some (.type "type"))
  (CN:isClsIn K zR=true)(CO:typeIn K (.ref zR)=some (.type "type"))
  (CP:isClsIn K zT=true)(CQ:typeIn K (.ref zT)=some (.type "type"))
  (Au:isClsIn K zH=true)(AZ:typeIn K (.ref zH)=some (.type "type"))
  (Cn:isClsIn K zO=true)(Co:typeIn K (.ref zO)=some (.type "type"))
  (DV:subIn K (.ref zI) (.type "BaseException")=some true)(DW:PySem.W.specialIn K (.builtin "object.__class__") "__get__" = some (some (.builtin "getset_descriptor.__get__")))(DX:PySem.W.takesIn K (.builtin "object.__class__")=some true)
  (BK:subIn K (.ref zH) (.type "BaseException")=some true)
  (BL:findIn K (.ref zH) "__setattr__" = some (some (.builtin "object.__setattr__")))
  (Ba:findIn K (.ref zH) "holds" = some none)
  (Bb:findIn K (.ref zH) "least" = some none)
  (BM:findIn K (.ref zH) "__getattribute__" = some (some (.builtin "BaseException.__getattribute__")))(BN:findIn K (.ref zH) "__getattr__" = some none)(BO:findIn K (.ref zH) "__class__" = some (some (.builtin "object.__class__")))(BP:PySem.W.mroIn K zH (.type "object")=some true)(BQ:PySem.W.mroIn K zH (.type "BaseException")=some true)(BR:subIn K (.ref zH) (.type "ValueError")=some true)
  (Ab:subIn K (.ref zH) (.ref zI)=some true)
  (AM:subIn K (.ref zH) (.ref zL)=some false)
  (AH:subIn K (.ref zH) (.ref zJ)=some false)
  (AN:subIn K (.ref zH) (.ref zM)=some false)
  (AO:subIn K (.ref zH) (.ref zN)=some false)
  (Bg:subIn K (.ref zH) (.ref zR)=some false)
  (Bh:subIn K (.ref zH) (.ref zT)=some false)
  (zP:subIn K (.ref zH) (.ref zH)=some true)
  (AQ:subIn K (.ref zH) (.ref zO)=some false)
  
  (Ag:findIn K (.ref zH) "__init__" = some (some (.ref zU)))(AC:PySem.W.isFn K (.ref zU)=true)(AD:K.lookup zU=some ⟨ocm_Engaged___init__,odm_Engaged___init__,.func (fnOf "__init__" "Engaged.__init__" (x8 (V5 (top 8) 0)) (o7 (V5 (top 8) 0)) (i4 (V5 (top 8) 0)) .none kvm_Engaged___init__ dcm_Engaged___init__ pmm_Engaged___init__ anm_Engaged___init__ Af ctm_Engaged___init__),slm_Engaged___init__⟩)(AE:codeIn K Af "Engaged.__init__" = true)(AF:keepIn K (.ref zU)=true)
  (Bc:cz K zH zU=true)
  (z_len:nsIn K mainGlobals "len" = some none)(z_isinstance:nsIn K mainGlobals "isinstance" = some none)(z_int:nsIn K mainGlobals "int" = some none)(z_bool:nsIn K mainGlobals "bool" = some none)(z_tuple:nsIn K mainGlobals "tuple" = some none)(z_list:nsIn K mainGlobals "list" = some none)(z_set:nsIn K mainGlobals "set" = some none)(z_sorted:nsIn K mainGlobals "sorted" = some none)(z_divmod:nsIn K mainGlobals "divmod" = some none)(z_range:nsIn K mainGlobals "range" = some none)(z_abs:nsIn K mainGlobals "abs" = some none)(z_min:nsIn K mainGlobals "min" = some none)(z_max:nsIn K mainGlobals "max" = some none)(z_any:nsIn K mainGlobals "any" = some none)(z_all:nsIn K mainGlobals "all" = some none)(z_zip:nsIn K mainGlobals "zip" = some none)(z_dict:nsIn K mainGlobals "dict" = some none)(z_ValueError:nsIn K mainGlobals "ValueError" = some none) :
  ∃fd:FuncData,(∀(s:Shared)(v:Value),BindsTo s fd ⟨[v],[]⟩ [("_law_script",v)])/\∀base:Heap,K.In base->base.Ns mainGlobals mg->bF l.prog w K mg base CX0 13 fa fd ["_law_script"] (pP K):=by
 have e:=hfa.symm.trans (Ih X G a62)
 cases e
 have T:Txt K mg:=⟨Ii X G z_len,Ii X G z_isinstance,Ii X G z_int,Ii X G z_bool,Ii X G z_tuple,Ii X G z_list,Ii X G z_set,Ii X G z_sorted,Ii X G z_divmod,Ii X G z_range,Ii X G z_abs,Ii X G z_min,Ii X G z_max,Ii X G z_any,Ii X G z_all,Ii X G z_zip,Ii X G z_dict,Ii X G z_ValueError⟩;have Z:eY K mg zI zL zJ zM zN zR zT zH zO:=⟨Ih X G Bs,Ih X G Cd,Ih X G BH,Ih X G Ce,Ih X G Cf,Ih X G CL,Ih X G CM,Ih X G AY,Ih X G Cg,⟨_,Ih X G AY,Bc,Ag⟩,vJ Bc BL,⟨BM,BN,BO,DW,DX,BP,BQ,Au⟩,vt BR,qd AA AB Ab DV,pW AA AB Ab,V4 Ch Ci AM zP,V4 BI BJ AH zP,V4 Cj Ck AN zP,V4 Cl Cm AO zP,V4 CN CO Bg zP,V4 CP CQ Bh zP,pW Au AZ zP,V4 Cn Co AQ zP,Ba,Bb,qd Au AZ zP BK⟩;have AR:va K zH "__init__" "Engaged.__init__" (V5 (top 8) 0) ["self","holds","least"] [] noKw:=⟨zU,_,⟨⟨_,_,_,_,_,_,_,_,_,_,Iu,AD,AE⟩⟩,⟨Ag,AC,AF⟩,trivial,λm hm=>match m,hm with | 0,_=>⟨[],.nil,.all λus hl=>match us,hl with | [_,_,_],_=>rfl⟩ | _+1,h=>absurd h (by simp)⟩
 have Do:dv K mg "ways" (top 30) ["hall","calls","caller","ends","shut"] [.int 0]:=⟨f18,_,⟨_,_,_,_,_,_,_,_,_,_,Iu,l18,c18⟩,k18,λm hm=>match m,hm with | 0,_=>⟨[.int 0 td18_0],(.cons ⟨_,Iu⟩ .nil),λs us X hl=>uo (p:=λus=>BindsTo s _ ⟨us,[]⟩ (List.zip _ (us++_))) (λ_ _ _ _=>Ij rfl (X _ _ dl18) rfl rfl rfl) us (by simpa using hl)⟩ | 1,_=>⟨[],.nil,λs us X hl=>ud (p:=λus=>BindsTo s _ ⟨us,[]⟩ (List.zip _ (us++_))) (λ_ _ _ _ _=>Ij rfl (X _ _ dl18) rfl rfl rfl) us (by simpa using hl)⟩ | _+2,h=>absurd h (by simp),Ih X G a18⟩
 have By:dv K mg "least_ended" (top 31) ["hall","calls","caller","ends","shut"] [.int 0]:=⟨f19,_,⟨_,_,_,_,_,_,_,_,_,_,Iu,l19,c19⟩,k19,λm hm=>match m,hm with | 0,_=>⟨[.int 0 td19_0],(.cons ⟨_,Iu⟩ .nil),λs us X hl=>uo (p:=λus=>BindsTo s _ ⟨us,[]⟩ (List.zip _ (us++_))) (λ_ _ _ _=>Ij rfl (X _ _ dl19) rfl rfl rfl) us (by simpa using hl)⟩ | 1,_=>⟨[],.nil,λs us X hl=>ud (p:=λus=>BindsTo s _ ⟨us,[]⟩ (List.zip _ (us++_))) (λ_ _ _ _ _=>Ij rfl (X _ _ dl19) rfl rfl rfl) us (by simpa using hl)⟩ | _+2,h=>absurd h (by simp),Ih X G a19⟩
 have Dp:dv K mg "room" (top 53) ["hall","calls","caller","ends","shut"] [.int 0]:=⟨f38,_,⟨_,_,_,_,_,_,_,_,_,_,Iu,l38,c38⟩,k38,λm hm=>match m,hm with | 0,_=>⟨[.int 0 td38_0],(.cons ⟨_,Iu⟩ .nil),λs us X hl=>uo (p:=λus=>BindsTo s _ ⟨us,[]⟩ (List.zip _ (us++_))) (λ_ _ _ _=>Ij rfl (X _ _ dl38) rfl rfl rfl) us (by simpa using hl)⟩ | 1,_=>⟨[],.nil,λs us X hl=>ud (p:=λus=>BindsTo s _ ⟨us,[]⟩ (List.zip _ (us++_))) (λ_ _ _ _ _=>Ij rfl (X _ _ dl38) rfl rfl rfl) us (by simpa using hl)⟩ | _+2,h=>absurd h (by simp),Ih X G a38⟩
 have Bi:dv K mg "joined_turning" (top 54) ["hall","calls","caller","ends","shut"] [.int 0]:=⟨f39,_,⟨_,_,_,_,_,_,_,_,_,_,Iu,l39,c39⟩,k39,λm hm=>match m,hm with | 0,_=>⟨[.int 0 td39_0],(.cons ⟨_,Iu⟩ .nil),λs us X hl=>uo (p:=λus=>BindsTo s _ ⟨us,[]⟩ (List.zip _ (us++_))) (λ_ _ _ _=>Ij rfl (X _ _ dl39) rfl rfl rfl) us (by simpa using hl)⟩ | 1,_=>⟨[],.nil,λs us X hl=>ud (p:=λus=>BindsTo s _ ⟨us,[]⟩ (List.zip _ (us++_))) (λ_ _ _ _ _=>Ij rfl (X _ _ dl39) rfl rfl rfl) us (by simpa using hl)⟩ | _+2,h=>absurd h (by simp),Ih X G a39⟩
 have F:=uu (st:=top 78) l62 c62 k62;refine⟨fnOf "law" "law" (x8 (top 78)) (o7 (top 78)) (i4 (top 78)) .none kV62 dc62 pm62 an62 cd62 ct62,λs v=>.of_eq rfl,λbase _ _=>?_⟩;have Dq:=uW (P:=l.prog) (w:=w) (base:=base) T (A7 X G b40);have AG:=uj (P:=l.prog) (w:=w) (base:=base) T (R0 X G b43);have CV:=vn (P:=l.prog) (w:=w) (base:=base) T (A7 X G b42);have Di:=qm (P:=l.prog) (w:=w) (base:=base) T (A7 X G b44);have CS:=lO (P:=l.prog) (w:=w) (base:=base) T (A7 X G b4);have Cz:=sE (P:=l.prog) (w:=w) (base:=base) T (iV T (A7 X G b5)) (A7 X G b7);have CA:=oP T CS Cz (rS T CS Cz (R0 X G b16)) (R0 X G b17);have CB:=vF (P:=l.prog) (w:=w) (base:=base) T (A7 X G b8);have Df:=uA T CA CB By;have CW:=jt (P:=l.prog) (w:=w) (base:=base) T (au X G b1);have CY:=lX T CW (R4 X G b2);have DG:=nK T (mC T CY (A7 X G b6)) (qo T (au X G b12)) (A7 X G b15);have Dr:=nH T CW (A7 X G b20);have DY:=jF T CW (A7 X G b21);have DZ:=rR T (jI T CY (A7 X G b14)) DG (R4 X G b22);have Ea:=uP T Dr DY (R4 X G b23);have Eb:=rf T Z CA Df (uX T Z AR) (S7 X G b24);have DH:=gz T CS Cz (A7 X G b26);have DI:=gI T DH (tJ T DH (R4 X G b27)) (rX T Cz (R4 X G b28)) (jy X G b29);have Ec:=qM T (ji DI (S7 X G b30)) (mf DI (S7 X G b31)) (jy X G b36);have Ed:=nI T CB (mH T CS (A7 X G b9)) (lU T Cz (A7 X G b10)) (vD T (A7 X G b35)) Ec (mh T Dr (R0 X G b32)) (S7 X G b37);have Ds:=si T Z (vm T CA CB Do) Cz CS Ed Eb Dp;have Dg:=jP (P:=l.prog) (w:=w) (base:=base) T (tz T CS Cz (A7 X G b11)) (rD T (au X G b3)) (nU T (au X G b12)) (A7 X G b13);have Ee:=tj T (qR T Dr CY (R0 X G b33)) Dg (R4 X G b34);have Ef:=we T Z DZ Ea Ds Ee (wb T (R0 X G b25)) Bi;have CZ:=vq T AG (A7 X G b50);have DJ:=ss T CZ AG (uy T (mQ T (jD T (jy X G b51)) (S7 X G b54)) (S7 X G b55)) (S7 X G b56);have DK:=qO (P:=l.prog) (w:=w) (base:=base) T (A7 X G b57);have Dt:=vp T DK (mW T AG (A7 X G b49)) CZ AG (S7 X G b58);have Dj:=nz (P:=l.prog) (w:=w) (base:=base) T Z (uY T Z (au X G b48)) (qL T AG (R0 X G b52)) (vX T (R4 X G b53)) (fN T (A7 X G b47) 2) (R0 X G b59);have Du:=fN (P:=l.prog) (w:=w) (base:=base) T (A7 X G b47) 4;have Eg:=lP T Z Ef Dj DK Du (R0 X G b60);exact wY T Z (wm T Dq (au X G b41)) (tW T Di (xL T CV AG (R4 X G b45)) (A7 X G b46)) Di (mG T Z CV DJ Ds Eg Du Dt Dj (R4 X G b61)) Ds Du F
end
def walk {l:PySem.W.OpenLaw}{YP:World->Heap->Prop}{d:DefRec}{K:Params->Frag}(hn:l.most=some 63)(hdf:d.params.defaults=[])
  (hY:∀(w:World)(h:Heap),YP w h->(K w.params).In h)
  (F:∀(w:World)(mg:Str->Option Value)(fa:Addr)(h:Heap),(K w.params).In h->h.Ns mainGlobals mg->mg d.name=some (.ref fa) ->
   ∃fd:FuncData,(∀(s:Shared)(u:Value),BindsTo s fd ⟨[u],[]⟩ [("_law_script",u)])/\∀base:Heap,(K w.params).In base->base.Ns mainGlobals mg->bF l.prog w (K w.params) mg base CX0 13 fa fd ["_law_script"] (pP (K w.params))) :
  PySem.W.WalkO q loose XP YP l.row.toRowW d [] (λf vs=>PySem.call f vs) :=
 L2.wa (n:=63) (k:=13) (x:="_law_script") (CX:=λ_=>CX0) (sp:=λw=>pP (K w.params)) hn (by decide) hdf ⟨Iu,by decide,by decide⟩ hY F (λ_ _ a ns hl _ hS=>⟨a,ns,Iu,hS,hl,λ_=>rfl⟩) λ_ _ _ _ _ z=>z
end My
open PySem PySem.W PyProof.Rows
set_option maxRecDepth 100000 in
set_option maxHeartbeats 0 in
theorem PySem.Challenge.cw_crossracks_k34_room_holds : PySem.Challenge.rw_crossracks_k34_room.Holds := by
 w_on;o_law;k_head;(case hw=>w_witness2)
 k_fill
 refine My.walk (l:=PySem.Challenge.rw_crossracks_k34_room) rfl rfl (fun w h Y=>PySem.W.kIn_of Y) ?F
 case F =>
  intro w mg fa h KX G hmg
  refine' My.xo KX G hmg _ _ _ _ _ _ _ _ _ _ _ _ _ _ _ _ _ ?dl18 ?a18 ?l18 ?c18 ?k18 ?dl19 ?a19 ?l19 ?c19 ?k19 _ _ _ _ _ _ _ _ _ _ _ _ _ _ _ _ _ _ ?dl38 ?a38 ?l38 ?c38 ?k38 ?dl39 ?a39 ?l39 ?c39 ?k39 _ _ _ _ _ _ _ _ _ _ _ _ _ _ _ _ _ _ _ _ _ _ ?a62 ?l62 ?c62 ?k62   _ _ _ _ _ _ _ _ _ _ _ _ _ _ _ _ _ _ _ _ _ _ _ _ _ _ _ _ _ _ _ _ _ _ _ _ _ _ _ _ _ _ _ _ _ _ _ _ _ _ _ _ _ _ _ _ _ _ _ _ _ _ _ _ _ _ _ _ _ _ _ _ _
  (case a18=>k_is);(case l18=>k_is);(case dl18=>k_is);(case c18=>k_is);(case k18=>k_is)
  (case a19=>k_is);(case l19=>k_is);(case dl19=>k_is);(case c19=>k_is);(case k19=>k_is)
  (case a38=>k_is);(case l38=>k_is);(case dl38=>k_is);(case c38=>k_is);(case k38=>k_is)
  (case a39=>k_is);(case l39=>k_is);(case dl39=>k_is);(case c39=>k_is);(case k39=>k_is)
  (case a62=>k_is);(case l62=>k_is);(case c62=>k_is);(case k62=>k_is)
  any_goals (refine' My.xi _ _ _ _;any_goals k_is)
  any_goals k_is
  all_goals try k_is
  all_goals try k_exc
  all_goals try kernel_rfl
