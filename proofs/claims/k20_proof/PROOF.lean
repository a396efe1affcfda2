import PyProof.Rows.All
import Wide.All
import OpenK.AllK
import Wide.FinOn
import Lean
import PyProof.EqAt
import PyProof.EqKinds
import PyProof.TupleCall
import PyProof.NeKinds
import KE.KDictOf
import PyProof.Rows.TupDisplay
import PyProof.DictItems
import KE.KPairComp
import PyProof.Draws
import KE.KTupSum
import KE.KIntText
import PyProof.Rows.Range3
import PyProof.Rows.FStr
import PyProof.StrCalls2
import PyProof.StrLawsTight
import PyProof.StrLawsIn
import PyProof.StrCalls
import KE.KLam
import KE.KMinKey
import PyProof.Rows.RuleN_abs
import PyProof.Rows.StrCut
import PySem.Challenge.RW_screenlines_k20_whole_least
section
open PySem PySem.Spec PyProof.Rows
def z8:=@wpAny_bind
def z9:=@Nat.le_refl
def zc:=@wpAny_pure
def zi:=@List.getD_eq_getElem?_getD
def zx:=@List.mem_cons_self
def zy:=@List.length_map
def zF:=@List.mem_cons_of_mem
def zL:=@List.mem_cons
def xf:=@Bool.and_eq_true
def xk:=@List.map_cons
def xn:=@List.getElem?_eq_getElem
def xp:=@List.all_eq_true
def w5:=@Heap.lt_size
def w6:=@List.length_append
def w8:=@List.size_toArray
def w9:=@Heap.get?_push_of_some
def wa:=@decide_eq_true_eq
def wo:=@List.length_take
def wq:=@Option.some.inj
def wt:=@Nat.le_trans
def wA:=@Nat.zero_le
def wP:=@List.mem_singleton
def wU:=@List.mem_map
def v6:=@decide_eq_false
def v7:=@Heap.get?_push_size
def v8:=@List.getElem?_map
def v9:=@Nat.ne_of_lt
def vc:=@List.getElem?_eq_some_iff
def vp:=@List.map_append
def vy:=@List.lookup_cons
def vz:=@List.length_cons
def vC:=@congrArg
def vE:=@List.getElem?_set_self
def vN:=@Int.toNat_natCast
def vP:=@if_true
def vV:=@wpAny_mono
def ue:=@if_false
def uf:=@Nat.lt_of_lt_of_le
def ul:=@List.flatMap_cons
def uo:=@Ne.symm
def uA:=@List.getElem?_set_ne
def uF:=@List.mem_append
def t8:=@List.append_nil
def t9:=@List.getElem?_append_left
def tU:=@Option.map_some
def tV:=@List.append_assoc
def sw:=@List.sum_append
def sT:=@PySem.W.mg_none_of
def r6:=@beq_eq_false_iff_ne
def rg:=@List.getElem?_append_right
def rE:=@List.length_replicate
def rH:=@Bool.false_ne_true
def rR:=@List.sum_cons
def qJ:=@wpAny_holding
def qO:=@wpAny_field
def qQ:=@decide_eq_true
def p6:=@PassesOwn.leaving
def p7:=@List.foldl_cons
def p8:=@List.nil_append
def p9:=@List.getElem?_eq_none
def pc:=@beq_self_eq_true
def pw:=@List.length_nil
def pO:=@List.mem_range
def pQ:=@List.length_set
def pR:=@call_meets
def o4:=@PySem.W.mg_of
def o5:=@List.all_cons
def o8:=@beq_iff_eq
def o9:=@List.map_map
def oR:=@wpAny_truthy_bool
def oT:=@wpAny_newObj_type
def n0:=@List.mem_append_right
def n6:=@List.length_drop
def n8:=@wpAny_call_entry
def n9:=@List.map_nil
def nA:=@Bool.false_eq_true
def nD:=@Option.some.injEq
def nE:=@eq_true
def my:=@List.mem_append_left
def mC:=@Nat.ne_of_gt
def mE:=@List.replicate_succ
def mP:=@Nat.not_lt
def mY:=@Int.toNat_of_nonneg
def l4:=@List.mem_of_mem_take
def l5:=@List.getElem?_take
def l6:=@Nat.lt_irrefl
def l7:=@List.mem_filterMap
def l8:=@List.nodup_cons
def l9:=@List.getElem?_replicate
def la:=@Nat.le_succ
def lE:=@Array.length_toList
def lH:=@IsTup.new
def lO:=@List.mem_of_getElem?
def lT:=@wpAny_callSpecial?_slot
def lW:=@typeIs_int
def k7:=@Nat.le_of_eq
def k8:=@Bool.true_and
def k9:=@List.map_congr_left
def kj:=@List.set_set
def kG:=@List.mem_nil_iff
def j0:=@or_false
def j2:=@wpAny_seqItems
def j3:=@List.take_of_length_le
def j4:=@Bool.not_true
def j5:=@decide_eq_false_iff_not
def j6:=@List.range'_succ
def j7:=@PySem.mem_of_lookup
def j8:=@List.flatten_cons
def j9:=@wpAny_dictEntries
def jb:=@wpAny_setField_rec
def jg:=@List.getElem_mem
def jp:=@List.range_succ
def jB:=@List.getElem?_drop
def jP:=@List.zip_cons_cons
def jR:=@wpAny_tryCatch
def i9:=@Nat.zero_add
def ig:=@Paired.length
def io:=@Nat.le_of_lt
def iF:=@wpAny_standAt
def iN:=@wpAny_passesOwn
def iO:=@wpAny_Call_Name_kw
def iT:=@tupleItemsOf_
def g0:=@wpAny_typeOf
def g9:=@eq_of_beq
def eQ:=@Bool.or_false
def d7:=@Bool.and_false
def d8:=@codeAny_mono
def d9:=@decide_true
def dh:=@decide_false
def dj:=@List.filter_cons_of_pos
def dq:=@List.filter_cons_of_neg
def dz:=@wpAny_attempt
def c6:=@wpAny_letGo
def c7:=@Heap.size_push
def c8:=@List.drop_zero
def cY:=@List.take_length
def b6:=@Nat.sub_zero
def b7:=@List.drop_eq_getElem_cons
def b8:=@PySem.F.plainAttrs_list
def b9:=@wpAny_call
def bY:=@of_decide_eq_true
def aT:=@Heap.SameBut.update
def Z0:=@List.mem_flatMap
def Z1:=@List.mem_of_mem_drop
def Z2:=@List.flatMap_append
def Z4:=@wpAny_bindName
def Z5:=@Bool.false_and
def Z6:=@List.of_mem_zip
def Z7:=@F.slot_int_rmul
def Z8:=@Nat.mul_comm
def Z9:=@wpAny_specialOf
def Za:=@tupleKind_room_in1
def Zb:=@PySem.F.slot_dict_itemiterator_next
def Zc:=@wpAny_typeNameOfWhole_itemiter
def Zd:=@Nat.lt_or_ge
def Ze:=@wpAny_getItem_str_slice
def Zf:=@post_val_or_str
def Zg:=@Txt.slice_le
def Zh:=@List.getElem?_set
def Zi:=@List.drop_length
def Zj:=@lookup_relabel_local
def Zk:=@codeAny_builtin
def Zl:=@wpAny_of_eq
def Zm:=@Option.bind_some
def Zn:=@F.slot_tuple_iterator_next
def Zo:=@wpAny_pyIter_enum
def Zp:=@wpAny_updateSeq
def Zq:=@plainId_quiet
def Zr:=@PySem.F.plain_min_loop
def Zs:=@Nat.min_eq_left
def Zt:=@Nat.min_eq_right
def Zu:=@List.mem_replicate
def Zv:=@Bool.and_true
def Zw:=@List.length_filter_le
def Zx:=@List.all_nil
def Zy:=@List.foldl_append
def Zz:=@List.mem_range'_1
def ZA:=@Nat.mul_succ
def ZB:=@List.mem_filter
def ZC:=@wpAny_execs_nil
def ZD:=@assignInOrder_cons
def ZE:=@noFill_tuple_add
def ZF:=@Heap.get?_update_self
def ZG:=@List.length_singleton
def ZH:=@List.find?_cons
def ZI:=@wpAny_dictEpoch
def ZJ:=@wpAny_isOneOf_itemiter
def ZK:=@Array.getElem?_eq_none
def ZL:=@Bool.eq_iff_iff
def ZM:=@wpAny_pyIter_list
def ZN:=@wpAny_pyIter_tuple
def ZO:=@Nat.lt_succ_self
def ZP:=@PySem.W.of_hideAll
def ZQ:=@wpAny_ite_false
def ZR:=@Int.natCast_mul
def ZS:=@F.slot_tuple_mul
def ZT:=@F.entry_tuple_mul
def ZU:=@F.args_tuple_mul_2
def ZV:=@List.getElem?_cons_succ
def ZW:=@wpAny_loadPart'
def ZX:=@List.map_snd_zip
def ZY:=@PySem.F.entry_min_loop
def ZZ:=@PySem.W.Looks.of_pure
def Y0:=@List.drop_of_length_le
def Y1:=@Int.eq_ofNat_of_zero_le
def Y2:=@Option.getD_some
def Y3:=@List.length_range
def Y4:=@Int.natCast_add
def Y5:=@List.ext_getElem?
def Y6:=@List.range'_1_concat
def Y7:=@decide_eq_true_iff
def Y8:=@List.filterMap_cons
def Y9:=@Calls.Name_function_global
def Ya:=@PySem.F.slot_dict_items_iter
def Yb:=@PySem.F.entry_dict_itemiterator_next
def Yc:=@PySem.F.args_dict_itemiterator_next_1
def Yd:=@PyProof.Rows.slot_tuple_getitem
def Ye:=@List.eq_nil_of_length_eq_zero
def Yf:=@List.getElem?_range
def Yg:=@F.entry_tuple_iterator_next
def Yh:=@F.args_tuple_iterator_next_1
def Yi:=@List.takeWhile_append_dropWhile
def Yk:=@List.take_append_of_le_length
end
set_option Elab.async false
set_option linter.all false
set_option maxRecDepth 100000
noncomputable section
variable{us its:List Value}{x y qual y0 y1 y2 y3 y4 y5 y6:Str}{u cdv:Value}{a it f q C aq aB aI aK aQ ba bb a_ELSEWHERE a_HERE a_HERE_WIPED a_ELSEWHERE_WIPED a_NO_ORDERS:Addr}{b neg fz:Bool}{P:Program}{h h':Heap}{t' i j k kt J:Nat}{ch fp rs:List Addr}{E:Value->Shared->Prop}{s' s:Shared}{pos py p:Pos}{pins:List (Addr×Obj)}{es elts:List Expr}{iter tgt:Expr}{fd:FuncData}{ps loose:List Str}{scope:Scope}{od:Option Addr}{osl:Array (Option Value)}{st:Stmt}{ix is old ks:List Nat}{ts:List (Str×Addr)}
namespace L2
open PySem PySem.Spec PyProof.Rows
abbrev Key:=Sum Int Str
noncomputable def IU:Key->Value->Bool
 |.inl k,v=>Value.isInt k v
 |.inr x,v=>Value.isStrOf x v
def O0(w:World):Key->Int
 |.inl k=>hashInt k
 |.inr x=>hashStr w x
def cH:∀{k:Key}{v:Value},IU k v=true->(∃i t,k=Sum.inl i/\v=Value.int i t)\/(∃x t,k=Sum.inr x/\v=Value.str x t)
 |.inl i,v,h=>by obtain⟨t,e⟩:=Value.isInt_shape h;exact .inl ⟨i,t,rfl,e⟩
 |.inr x,v,h=>by obtain⟨t,e⟩:=Value.isStrOf_shape h;exact .inr ⟨x,t,rfl,e⟩
def Ke(a b:Int):decide ((Sum.inl a:Key)=Sum.inl b)=(a==b):=by
 by_cases e:a=b;·subst e;simp
 ·have h : ¬ (Sum.inl a:Key)=Sum.inl b:=λq=>e (Sum.inl.inj q);rw[v6 h];exact(r6.mpr e).symm
def Lo(a b:Str):decide ((Sum.inr a:Key)=Sum.inr b)=decide (a=b):=by
 by_cases e:a=b;·subst e;simp
 ·have h : ¬ (Sum.inr a:Key)=Sum.inr b:=λq=>e (Sum.inr.inj q);rw[v6 h,v6 e]
def Lm(a:Int)(b:Str):decide ((Sum.inl a:Key)=Sum.inr b)=false:=v6 (λq=>nomatch q)
def IC(a:Str)(b:Int):decide ((Sum.inr a:Key)=Sum.inl b)=false:=v6 (λq=>nomatch q)
noncomputable def wF(prog:Program)(w:World):PySem.KeyKind prog w Key where
 is:=IU
 hash:=O0 w
 inj:=λv a b ha hb=>by
  rcases cH ha with⟨i,t,rfl,rfl⟩|⟨x,t,rfl,rfl⟩
  ·rcases cH hb with⟨j,u,rfl,e⟩|⟨y,u,rfl,e⟩;·injection e with e1 _;rw[e1]
   ·exact nomatch e
  ·rcases cH hb with⟨j,u,rfl,e⟩|⟨y,u,rfl,e⟩;·exact nomatch e
   ·injection e with e1 _;rw[e1]
 byValue:=λk v h=>by rcases cH h with⟨i,t,rfl,rfl⟩|⟨x,t,rfl,rfl⟩ <;> rfl
 pyHash:=λhv h=>by
  rcases cH hv with⟨i,t,rfl,rfl⟩|⟨x,t,rfl,rfl⟩;·exact wpAny_pyHash_int h
  ·exact wpAny_pyHash_str h
 eqBool:=λhu hv h=>by
  rcases cH hu with⟨i,t,rfl,rfl⟩|⟨x,t,rfl,rfl⟩
  ·rcases cH hv with⟨j,u,rfl,rfl⟩|⟨y,u,rfl,rfl⟩;·rw[Ke]at h;exact wpAny_eqBool_int h
   ·rw[Lm]at h;exact SeqAt.EqAt.int_str i t y u _ _ _ _ h
  ·rcases cH hv with⟨j,u,rfl,rfl⟩|⟨y,u,rfl,rfl⟩;·rw[IC]at h;exact SeqAt.EqAt.str_int x t j u _ _ _ _ h
   ·rw[Lo]at h;exact wpAny_eqBool_str h
 «strs»:=λk x t v h=>by
  rcases cH h with⟨i,u,rfl,e⟩|⟨y,u,rfl,e⟩;·exact nomatch e
  ·injection e with e1 _;subst e1;cases v <;> rfl
inductive V where
 |non|bl (b:Bool)|int (i:Int)|str (x:Str)|byt (b:Array UInt8)|flt (b:UInt64)|ref (a:Addr)|ty (n:String)
 deriving DecidableEq
noncomputable def RelV:V->Value->Prop
 |.non,u=>u=Value.none
 |.bl b,u=>u=Value.bool b
 |.int i,u=>∃t,u=Value.int i t
 |.str x,u=>∃t,u=Value.str x t
 |.byt b,u=>∃t,u=Value.bytes b t
 |.flt b,u=>∃t,u=Value.float b t
 |.ref a,u=>u=Value.ref a
 |.ty n,u=>u=Value.type n
abbrev Vals:List V->List Value->Prop:=Paired RelV
def Vals.length{xs:List V}(r:Vals xs us):xs.length=us.length:=ig r
theorem Vals.get:∀{xs:List V}{us:List Value}{i:Nat}{x:V},Vals xs us->xs[i]?=some x->∃u,us[i]?=some u/\RelV x u
 |_,_,_,_,.nil,e=>by simp at e
 |_,_,0,_,.cons r _,e=>by simp at e;subst e;exact⟨_,rfl,r⟩
 |_,_,i+1,x,.cons _ t,e=>by obtain⟨u,h1,h2⟩:=Vals.get t (by simpa using e);exact⟨u,by simpa using h1,h2⟩
theorem Vals.set{x:V}(r:RelV x u):∀{xs:List V}{us:List Value}(i:Nat),Vals xs us->Vals (xs.set i x) (us.set i u)
 |_,_,_,.nil=>.nil
 |_,_,0,.cons _ t=>.cons r t
 |_,_,i+1,.cons q t=>.cons q (Vals.set r i t)
theorem Vals.append:∀{xs ys:List V}{us ws:List Value},Vals xs us->Vals ys ws->Vals (xs++ys) (us++ws)
 |_,_,_,_,.nil,s=>s
 |_,_,_,_,.cons r t,s=>.cons r (Vals.append t s)
theorem Vals.take:∀{xs:List V}{us:List Value}(n:Nat),Vals xs us->Vals (xs.take n) (us.take n)
 |_,_,0,_=>.nil
 |_,_,_+1,.nil=>.nil
 |_,_,n+1,.cons r t=>.cons r (Vals.take n t)
theorem Vals.drop:∀{xs:List V}{us:List Value}(n:Nat),Vals xs us->Vals (xs.drop n) (us.drop n)
 |_,_,0,r=>r
 |_,_,_+1,.nil=>.nil
 |_,_,n+1,.cons _ t=>Vals.drop n t
noncomputable def RelO:Option V->Option Value->Prop
 |some v,some u=>RelV v u
 |none,none=>True
 |_,_=>False
noncomputable def KV{κ:Type}:List (κ×V)->List (κ×Value)->Prop:=Paired λ(p:κ×V) (q:κ×Value)=>p.1=q.1/\RelV p.2 q.2
def kV:Key->V
 |.inl i=>.int i
 |.inr x=>.str x
inductive HO where
  |lst (xs : List V)
  |tup (xs : List V)
  |dK (kvs : List (Key × V))|dT (kvs : List (List Key × V))
  |set (S : Int -> Bool) (n : Nat)
  |ins (C dx : Addr) (fs : List (Str × V))
  |own (x : Addr)
  |xd (fs : List (Str × V))
  |met (f x : Addr)
  |rng (lo hi : Int)
  |frz (o : Obj) (u : HO)
  |tbl (ps : Array Value)
  |ext (φ : Heap -> Prop)

abbrev Hp:=Addr->Option HO
def upd(H:Hp)(a:Addr)(o:HO):Hp:=λb=>if b=a then some o else H b
def aY{H:Hp}{o:HO}:upd H a o a=some o:=by unfold upd;rw[if_pos rfl]
def aM{H:Hp}{b:Addr}{o:HO}(h:b≠a):upd H a o b=H b:=by unfold upd;rw[if_neg h]
def aF{H:Hp}{b:Addr}{o:HO}(h:H a=some o)(h':H b=none):a≠b:=by intro e;subst e;rw[h]at h';cases h'
noncomputable def IY(ps:Array Value):Str:=match ps.toList with
 |.str q _::_=>q
 |_=>Str.empty
section
variable(P:Program)(w:World)
noncomputable def ObjOk(H:Hp)(h:Heap)(a:Addr):HO->Prop
 |.lst xs=>xs.length<=sizeLine/\∃(its:List Value)(n:Nat),Vals xs its/\h.get? a=some { cls:=.type "list",data:=.seq its.toArray n }
 |.tup xs=>xs.length<=sizeLine/\∃its:List Value,Vals xs its/\IsTup h a its.toArray
 |.dK kvs=>kvs.length<=sizeLine/\(a==sysModules)=false/\∃vs,KV kvs vs/\h.DictOf (wF P w) a vs
 |.dT kvs=>kvs.length<=sizeLine/\(a==sysModules)=false/\∃xs:List (List Key×Addr×Value),
   Paired (λ(p:List Key×V) (q:List Key×Addr×Value)=>p.1=q.1/\H q.2.1=some (.tup (p.1.map kV))/\RelV p.2 q.2.2) kvs xs/\
   ∃o es ep,h.get? a=some o/\o.ExactDict/\o.data=.dict es ep/\es.toList=xs.map (entryOfKey (tupleKind (wF P w)))/\(xs.map (·.1)).Nodup
 |.set S n=>h.SetOf (intKind P w) a S n
 |.ins C dx fs=>H dx=some (.own a)/\fs.length<=1000/\dx≠a/\h.get? a=some (W.instObj C dx)/\
   ∃mA,h.Ns1 dx mA/\(∀f,RelO (fs.lookup f) (mA f))/\PySem.Within mA (fs.map (·.1))
 |.own _=>∃o,h.get? a=some o
 |.xd fs=>∃mA,h.Ns1 a mA/\∀f,RelO (fs.lookup f) (mA f)
 |.rng lo hi=>∃t u v,h.get? a=some { cls:=.type "range",data:=.fields #[.int lo t,.int hi u,.int 1 v] }
 |.frz o u=>h.get? a=some o/\ObjOk H h a u
 |.tbl ps=>∃qs:Array Value,h.get? a=some { cls:=.none,data:=.fields qs }/\TriplesOk qs.toList/\∀(pos:Pos)(cv:Value),codeAmong pos qs.toList=some cv->∃c o vs t,cv=.ref c/\H c=some (.frz o (.own a))/\o.data=.fields vs/\vs[1]?=some (.str (IY ps) t)
 |.met f x=>h.get? a=some (W.methodObj (.ref f) (.ref x))
 |.ext φ=>φ h/\(∃o,h.get? a=some o)/\∀h1 h2:Heap,φ h1->(∀o,h1.get? a=some o->h2.get? a=some o)->φ h2
def HOk(H:Hp)(h:Heap):Prop:=∀a o,H a=some o->ObjOk P w H h a o
end
section
variable{w:World}{H H':Hp}{o:HO}
def ObjOk.lt(x:ObjOk P w H h a o):a<h.objs.size:=by
 cases o with
 |lst xs=>obtain⟨_,_,_,_,e⟩:=x;exact w5 e
 |tup xs=>obtain⟨_,_,_,p⟩:=x;exact p.lt
 |dK kvs=>obtain⟨_,_,_,_,o,_,_,e,_⟩:=x;exact w5 e
 |dT kvs=>obtain⟨_,_,_,_,o,_,_,e,_⟩:=x;exact w5 e
 |set S n=>obtain⟨o,_,_,_,e,_⟩:=x;exact w5 e
 |ins C dx fs=>obtain⟨_,_,_,e,_⟩:=x;exact w5 e
 |own y=>obtain⟨_,e⟩:=x;exact w5 e
 |xd fs=>obtain⟨_,⟨_,_,_,e,_⟩,_⟩:=x;exact w5 e
 |rng lo hi=>obtain⟨_,_,_,e⟩:=x;exact w5 e
 |frz ob u=>obtain⟨e,_⟩:=x;exact w5 e
 |tbl ps=>obtain⟨_,e,_⟩:=x;exact w5 e
 |met f y=>exact w5 (show h.get? a=some _ from x)
 |ext φ=>obtain⟨_,⟨_,e⟩,_⟩:=x;exact w5 e
theorem Paired.mapP{α β:Type}{F G:α->β->Prop}:∀{l₁:List α}{l₂:List β},Paired F l₁ l₂->(∀a b,F a b->G a b)->Paired G l₁ l₂
 |_,_,.nil,_=>.nil
 |_,_,.cons r t,f=>.cons (f _ _ r) (Paired.mapP t f)
def ObjOk.stay(x:ObjOk P w H h a o)(k:∀b u,(b=a\/H b=some (.own a))->h.get? b=some u->h'.get? b=some u)(ho:∀b,H b=some (.own a)->H' b=some (.own a))(ht:∀b xs,H b=some (.tup xs)->H' b=some (.tup xs))(hz:∀b o u,H b=some (.frz o u)->H' b=some (.frz o u):=by exact λ_ _ _ q=>q):ObjOk P w H' h' a o:=by
 induction o with
 |lst xs=>obtain⟨z,its,n,r,e⟩:=x;exact⟨z,its,n,r,k _ _ (.inl rfl) e⟩
 |tup xs=>obtain⟨z,its,r,ob,e,c⟩:=x;exact⟨z,its,r,ob,k _ _ (.inl rfl) e,c⟩
 |dK kvs=>obtain⟨z,y,vs,r,ob,es,ep,e,c⟩:=x;exact⟨z,y,vs,r,ob,es,ep,k _ _ (.inl rfl) e,c⟩
 |dT kvs=>obtain⟨z,y,xs,r,ob,es,ep,e,c⟩:=x;exact⟨z,y,xs,Paired.mapP r λp q z=>⟨z.1,ht _ _ z.2.1,z.2.2⟩,ob,es,ep,k _ _ (.inl rfl) e,c⟩
 |set S n=>obtain⟨ob,es,ep,t,e,c⟩:=x;exact⟨ob,es,ep,t,k _ _ (.inl rfl) e,c⟩
 |ins C dx fs=>obtain⟨d,z,ne,e,mA,⟨od,es,ep,e2,c⟩,r⟩:=x;exact⟨ho _ d,z,ne,k _ _ (.inl rfl) e,mA,⟨od,es,ep,k _ _ (.inr d) e2,c⟩,r⟩
 |own y=>obtain⟨ob,e⟩:=x;exact⟨ob,k _ _ (.inl rfl) e⟩
 |xd fs=>obtain⟨mA,⟨od,es,ep,e,c⟩,r⟩:=x;exact⟨mA,⟨od,es,ep,k _ _ (.inl rfl) e,c⟩,r⟩
 |rng lo hi=>obtain⟨t,u,v,e⟩:=x;exact⟨t,u,v,k _ _ (.inl rfl) e⟩
 |frz ob u ih=>obtain⟨e,q⟩:=x;exact⟨k _ _ (.inl rfl) e,ih q⟩
 |tbl ps=>obtain⟨qs,e,tr,c⟩:=x;refine⟨qs,k _ _ (.inl rfl) e,tr,λpos cv q=>?_⟩;obtain⟨c',o',vs,tk,e1,e2,e3⟩:=c pos cv q;exact⟨c',o',vs,tk,e1,hz _ _ _ e2,e3⟩
 |met f y=>have e:=x;exact k a _ (.inl rfl) e
 |ext φ=>obtain⟨p,⟨o,e⟩,st⟩:=x;exact⟨st _ _ p λo q=>k _ _ (.inl rfl) q,⟨o,k _ _ (.inl rfl) e⟩,st⟩
def HOk.lt(x:HOk P w H h)(e:H a=some o):a<h.objs.size:=(x a o e).lt
def HOk.fresh(x:HOk P w H h)(e:h.objs.size<=a):H a=none:=by
 cases q:H a with
 |none=>rfl
 |some u=>exact absurd (uf (x.lt q) e) (l6 _)
def HOk.kept(x:HOk P w H h)(k:∀b u,h.get? b=some u->h'.get? b=some u):HOk P w H h':=λa o e=>(x a o e).stay (λb u _ q=>k b u q) (λ_ q=>q) λ_ _ q=>q
def HOk.laid(x:HOk P w H h)(k:∀b u,h.get? b=some u->h'.get? b=some u)(hp:h.objs.size<=a)(new:ObjOk P w (upd H a o) h' a o):HOk P w (upd H a o) h':=λb u e=>by
 have hn:=x.fresh hp;by_cases hb:b=a;·subst hb;rw[aY]at e;cases e;exact new
 ·rw[aM hb]at e;exact(x b u e).stay (λc v _ q=>k c v q) (λc q=>by rw[aM (aF q hn)];exact q) (λc xs q=>by rw[aM (aF q hn)];exact q) λc ob u q=>by rw[aM (aF q hn)];exact q
end
def Rd(H:Hp)(a:Addr)(u:HO):Prop:=H a=some u\/∃o,H a=some (.frz o u)
def Rd.ok{w:World}{H:Hp}{u:HO}(r:Rd H a u)(x:HOk P w H h):ObjOk P w H h a u:=by
 rcases r with r|⟨o,r⟩;·exact x a u r
 ·obtain⟨_,q⟩:=x a _ r;exact q
noncomputable def Mut:Option HO->Prop
 |some (.lst _)=>True
 |some (.dK _)=>True
 |some (.dT _)=>True
 |some (.set _ _)=>True
 |some (.ins _ _ _)=>True
 |some (.ext _)=>True
 |_=>False
section
variable{w:World}{H:Hp}{x e:Addr}{o':HO}
def HOk.write(ok:HOk P w H h)(mu:Mut (H x))(he:e=x\/H e=some (.own x))(k:∀b u,b≠e->h.get? b=some u->h'.get? b=some u)(heo:∃u,h'.get? e=some u)(new:ObjOk P w (upd H x o') h' x o'):HOk P w (upd H x o') h':=λb u q=>by
 have nown:∀c y,H c=some (.own y)->c≠x:=λc y r z=>by subst z;rw[r]at mu;exact mu
 have ntup:∀c xs,H c=some (.tup xs)->c≠x:=λc xs r z=>by subst z;rw[r]at mu;exact mu
 have nfrz:∀c ob u,H c=some (.frz ob u)->c≠x:=λc ob u r z=>by subst z;rw[r]at mu;exact mu
 by_cases hb:b=x;·subst hb;rw[aY]at q;cases q;exact new
 ·rw[aM hb]at q;by_cases hbe:b=e
  ·have q':H b=some (.own x):=by
    rcases he with z|z;·exact absurd (hbe.trans z) hb
    ·rw[hbe];exact z
   rw[q]at q';cases q';obtain⟨v,hv⟩:=heo;exact⟨v,by rw[hbe];exact hv⟩
  ·refine(ok b u q).stay (λc v hc r=>k c v ?_ r) (λc r=>by rw[aM (nown c b r)];exact r) (λc xs r=>by rw[aM (ntup c xs r)];exact r) λc ob u r=>by rw[aM (nfrz c ob u r)];exact r
   rcases hc with rfl|hc;·exact hbe
   ·rintro rfl;rcases he with z|z;·exact nown c b hc z
    ·rw[hc]at z;cases z;exact hb rfl
end
structure Un(fs ex:List Addr)(H H':Hp)(h h':Heap):Prop where
 keep:∀b o,h.get? b=some o->H b=none->b∉fs->b∉ex->h'.get? b=some o
 slot:∀b o,h.get? b=some o->H b=none->b∈fs->b∉ex->∃sl,h'.get? b=some { o with slots:=sl }
 free:∀b o,h.get? b=some o->H b=none->b∉ex->H' b=none
 there:∀b o,h.get? b=some o->b∉ex->∃o',h'.get? b=some o'
 tups:∀b xs,H b=some (.tup xs)->H' b=some (.tup xs)
 frzs:∀b o u,H b=some (.frz o u)->H' b=some (.frz o u)
 tbls:∀b ps,H b=some (.tbl ps)->∃more,H' b=some (.tbl (ps++more))
section
variable{fs fs' ex ex':List Addr}{H H1 H2:Hp}{h1 h2:Heap}{x e:Addr}{o:HO}
def Un.any(u:Un fs ex H H1 h h1){b:Addr}{ob:Obj}(q:h.get? b=some ob)(n:H b=none)(hx:b∉ex):∃sl,h1.get? b=some { ob with slots:=sl }:=by
 by_cases hb:b∈fs;·exact u.slot b ob q n hb hx
 ·exact⟨ob.slots,u.keep b ob q n hb hx⟩
def Un.kept(k:∀b u,h.get? b=some u->h'.get? b=some u):Un fs ex H H h h':=
 ⟨λb ob q _ _ _=>k b ob q,λb ob q _ _ _=>⟨ob.slots,k b ob q⟩,λ_ _ _ n _=>n,λb ob q _=>⟨ob,k b ob q⟩,λ_ _ q=>q,λ_ _ _ q=>q,λ_ ps q=>⟨#[],by rw[q];simp⟩⟩
def Un.refl:Un fs ex H H h h:=Un.kept λ_ _ q=>q
def Un.laid(k:∀b u,h.get? b=some u->h'.get? b=some u)(hp:h.objs.size<=a)(hn:H a=none):Un fs ex H (upd H a o) h h' where
 keep:=λb u q _ _ _=>k b u q
 slot:=λb u q _ _ _=>⟨u.slots,k b u q⟩
 free:=λb u q n _=>by rw[aM (v9 (uf (w5 q) hp))];exact n
 there:=λb u q _=>⟨u,k b u q⟩
 tups:=λb xs q=>by rw[aM (aF q hn)];exact q
 frzs:=λb u xs q=>by rw[aM (aF q hn)];exact q
 tbls:=λb ps q=>⟨#[],by rw[aM (aF q hn),q];simp⟩
def Un.write(mu:Mut (H x))(he:e=x\/H e=some (.own x))(k:∀b u,b≠e->h.get? b=some u->h'.get? b=some u)(heo:∃u,h'.get? e=some u):Un fs ex H (upd H x o) h h':=by
 have hx:∀b,H b=none->b≠x:=λb n z=>by subst z;rw[n]at mu;exact mu
 have hb:∀b,H b=none->b≠e:=λb n z=>by
  subst z;rcases he with r|r;·exact hx b n r
  ·rw[n]at r;cases r
 have hm:∀b u,H b=some u->¬ Mut (some u)->b≠x:=λb u q nm z=>by subst z;rw[q]at mu;exact nm mu
 refine⟨λb u q n _ _=>k b u (hb b n) q,λb u q n _ _=>⟨u.slots,k b u (hb b n) q⟩,λb u q n _=>by rw[aM (hx b n)];exact n,λb u q _=>?_,
  λb xs q=>by rw[aM (hm b _ q λz=>z)];exact q,λb u xs q=>by rw[aM (hm b _ q λz=>z)];exact q,λb ps q=>⟨#[],by rw[aM (hm b _ q λz=>z),q];simp⟩⟩;by_cases hbe:b=e;·subst hbe;exact heo
 ·exact⟨u,k b u hbe q⟩
end
noncomputable def Fw:HO->Value
 |.tbl ps=>if ps.size=1 then ps.getD 0 .none else .none
 |_=>.none
noncomputable def Iu(H:Hp)(b:Addr)(o:Obj):Obj:=match H b with
 |none=>(match o.data with|.freed=>⟨.none,none,.freed,#[]⟩|_=>o)
 |some u=>⟨Fw u,none,.freed,#[]⟩
def CJ(h:Heap)(H:Hp):Heap:=⟨h.objs.mapIdx λb o=>Iu H b o,h.life⟩
def BG(h:Heap)(H:Hp):(CJ h H).objs.size=h.objs.size:=Array.size_mapIdx
def get_objs{b:Addr}{o:Obj}:h.get? b=some o ↔ h.objs[b]?=some o/\o.data≠.freed:=by
 unfold Heap.get?;constructor
 ·intro e;split at e;·cases e
  ·rename_i z;refine⟨e,λq=>?_⟩;obtain⟨a,b,c,d⟩:=o;cases q;exact z _ _ _ e
 ·rintro ⟨e,n⟩;rw[e];split;·rename_i q;cases q;exact absurd rfl n
  ·rfl
def pF(h:Heap)(H:Hp)(b:Addr):(CJ h H).objs[b]?=(h.objs[b]?).map (Iu H b):=Array.getElem?_mapIdx
def C3{H:Hp}{b:Addr}{o:Obj}(e:h.get? b=some o)(n:H b=none):(CJ h H).get? b=some o:=by
 obtain⟨e1,e2⟩:=get_objs.1 e;have z:Iu H b o=o:=by unfold Iu;rw[n];cases q:o.data <;> first|rfl|exact absurd q e2
 exact get_objs.2 ⟨by rw[pF,e1,tU,z],e2⟩
def G6{H:Hp}{b:Addr}{o:Obj}(e:(CJ h H).get? b=some o):h.get? b=some o/\H b=none:=by
 obtain⟨e1,e2⟩:=get_objs.1 e;rw[pF]at e1;cases q:h.objs[b]? with
 |none=>rw[q]at e1;cases e1
 |some o'=>
  rw[q,tU]at e1;have e1:=wq e1;unfold Iu at e1;cases hq:H b with
  |none=>
   rw[hq]at e1;dsimp only at e1;split at e1;·rw[<- e1]at e2;exact absurd rfl e2
   ·exact⟨get_objs.2 ⟨by rw[q,e1],e2⟩,rfl⟩
  |some u=>rw[hq]at e1;dsimp only at e1;rw[<- e1]at e2;exact absurd rfl e2
noncomputable def LU(base:Heap)(p:Addr)(q:Str):Prop:=base.objs[p]?=some ⟨.str q 0,none,.freed,#[]⟩
noncomputable def TabsIn(base:Heap)(H:Hp):Prop:=∀p q,LU base p q->∃more,H p=some (.tbl (#[.str q 0]++more))
def B5(h : Heap)(H : Hp): TabsIn (CJ h H) H := λp q e => by
  unfold LU at e;rw[pF]at e;cases z : h.objs[p]? with
  |none => rw[z]at e; cases e
  |some o =>
    rw[z, tU]at e;have e := wq e;unfold Iu at e;cases hq : H p with
    |none =>
      rw[hq]at e;dsimp only at e;split at e;· cases e
      · rename_i n; rw[e]at n; exact absurd rfl n
    |some u =>
      rw[hq]at e;have e := vC Obj.cls e;cases u with
      |tbl ps =>
        dsimp only[Fw]at e;split at e
        · rename_i n;refine⟨#[], ?_⟩;obtain⟨l⟩ := ps
          match l, n with
          | [v], _ => have : v = .str q 0 := e
                      rw[this]; rfl
        · cases e
      |_ => cases e
def TabsIn.un{base:Heap}{fs ex:List Addr}{H H':Hp}(t:TabsIn base H)(u:Un fs ex H H' h h'):TabsIn base H':=λp q e=>by obtain⟨m1,z⟩:=t p q e;obtain⟨m2,z⟩:=u.tbls p _ z;exact⟨m1++m2,by rw[z,Array.append_assoc]⟩
noncomputable def Hk(g h:Heap)(L:Addr):List (Addr×Obj):=(List.range h.objs.size).filterMap λa=>if a=L\/(g.get? a).isSome=true then none else (h.get? a).map λo=>(a,o)
noncomputable def eN(g h:Heap)(L d:Addr):List (Addr×Obj):=(Hk g h L).filter λp=>decide (p.1≠d)
end L2
variable{xs vs:List L2.V}{H H' G G₀:L2.Hp}{v:L2.V}{sq:L2.Hp->List L2.V->Prop}
namespace L2
open PySem PySem.Spec PyProof.Rows
structure Mod(K:W.Frag)(mg:Str->Option Value)(base:Heap):Prop where
 kin:K.In base
 glob:base.Ns mainGlobals mg
 blt:∃mb,base.Ns builtinsNs mb/\∀x:Str,x≠"__name__"->mb x=bootBuiltins x
 nolimit:base.NoLimit
structure Cx where
 prog:Program
 w:World
 K:W.Frag
 mg:Str->Option Value
 base:Heap
 A:Around
 N:List Str
 s₀:Shared
 H₀:Hp
 env:Env
 outer:List Env
 stack:List Env
 ex:List Addr
 fn:Str->Bool
 calm:Bool
 pn:List (Addr×Obj)
 xe:Value->Shared->Prop
def frs(l:List Env):List Addr:=l.filterMap (·.frame)
abbrev Cx.fs(X:Cx):List Addr:=frs X.outer
noncomputable def Vis(sc:Scope)(x:Str):Prop:=sc.names.lookup x=some .local\/sc.names.lookup x=some .cell\/sc.names.lookup x=some .free
noncomputable def Loc(sc:Scope)(x:Str):Prop:=sc.names.lookup x=some .local\/sc.names.lookup x=some .cell
noncomputable def Ow(env:Env)(h:Heap)(m:Str->Option Value)(x:Str)(u:Value):Prop:=
 (env.kindOf x=some .local/\m x=some u)\/((env.kindOf x=some .cell\/env.kindOf x=some .free)/\∃c,env.cells.lookup x=some c/\h.IsCell c (some u))
structure Cx.Ok(X:Cx):Prop where
 mod:Mod X.K X.mg X.base
 kind:X.env.scope.kind=.function
 glob:X.env.globals=mainGlobals
 blt:X.env.builtins=builtinsNs
 above:X.s₀.heap.objs.size<=X.env.locals
 inj:∀x y c,X.env.cells.lookup x=some c->X.env.cells.lookup y=some c->x=y
 has:∀x,(X.env.kindOf x=some .cell\/X.env.kindOf x=some .free)->∃c,X.env.cells.lookup x=some c
 cab:∀x c,X.fn x=true->X.env.cells.lookup x=some c->X.s₀.heap.objs.size<=c
 hd:X.calm=true->X.A.handled=none
 frames:X.A.frames=some X.stack
 stk:X.stack=X.outer\/(X.stack=X.env::X.outer/\X.env.frame=some X.env.locals)
 exf:∀b∈X.ex,b≠X.env.locals/\∀x c,X.env.cells.lookup x=some c->c≠b
 bs:∀b o,X.base.get? b=some o->X.s₀.heap.get? b=some o/\X.H₀ b=none
 bsz:X.base.objs.size<=X.s₀.heap.objs.size
 noex:∀b o,X.base.get? b=some o->b∉X.ex
 exfs:∀b∈X.ex,b∉X.fs
 funs:X.s₀.heap.FunFrames X.base X.outer
 frf:∀b∈X.fs,X.H₀ b=none
 tabs:TabsIn X.base X.H₀
structure Inv(X:Cx)(pins:List (Addr×Obj))(σ:List (Option V))(H:Hp)(s:Shared):Prop where
 ok:X.Ok
 os:s.os=X.s₀.os
 bare:AllBare s.gens
 base:Un X.fs X.ex X.H₀ H X.s₀.heap s.heap
 loc:∃m,s.heap.Ns X.env.locals m/\∀(i:Nat)(x:Str)(v:V),X.N[i]?=some x->σ[i]?=some (some v)->Vis X.env.scope x->∃u,RelV v u/\Ow X.env s.heap m x u
 cell:∀x c,X.env.cells.lookup x=some c->∃v,s.heap.IsCell c v
 free:H X.env.locals=none
 freeC:∀x c,X.env.cells.lookup x=some c->H c=none
 pin:∀p∈X.pn++pins,s.heap.get? p.1=some p.2/\H p.1=none/\p.1≠X.env.locals/\p.1∉X.fs/\∀v,p.2.data≠.cell v
 hok:HOk X.prog X.w H s.heap
 len:σ.length=X.N.length
section
variable{X:Cx}{σ:List (Option V)}
def Cx.Ok.nofr(ok:X.Ok){b:Addr}{o:Obj}(e:X.base.get? b=some o):b∉X.fs:=λhb=>by have:=(ok.funs.mem hb).1;rw[e]at this;cases this
def Inv.bs(I:Inv X pins σ H s):∀b o,X.base.get? b=some o->s.heap.get? b=some o/\H b=none:=λb o e=>⟨I.base.keep b o (I.ok.bs b o e).1 (I.ok.bs b o e).2 (I.ok.nofr e) (I.ok.noex b o e),I.base.free b o (I.ok.bs b o e).1 (I.ok.bs b o e).2 (I.ok.noex b o e)⟩
def Inv.bk(I:Inv X pins σ H s):∀b o,X.base.get? b=some o->s.heap.get? b=some o:=λb o e=>(I.bs b o e).1
def Inv.mod(I:Inv X pins σ H s):Mod X.K X.mg X.base:=I.ok.mod
def Inv.kIn(I:Inv X pins σ H s):X.K.In s.heap:=I.ok.mod.kin.keeps I.bk
def Inv.lt(I:Inv X pins σ H s):X.env.locals<s.heap.objs.size:=let⟨_,hn,_⟩:=I.loc;hn.lt
def Inv.sz(I:Inv X pins σ H s):X.s₀.heap.objs.size<=s.heap.objs.size:=wt I.ok.above (io I.lt)
def Inv.nofs(I:Inv X pins σ H s)(h:s.heap.objs.size<=a):a∉X.fs:=λhb=>by obtain⟨_,o,ho,_⟩:=I.ok.funs.mem hb;exact absurd (uf (w5 ho) (wt I.sz h)) (l6 _)
def Inv.cne(I:Inv X pins σ H s):∀x c,X.env.cells.lookup x=some c->c≠X.env.locals:=λx c e z=>by obtain⟨v,o,ho,hd⟩:=I.cell x c e;obtain⟨m,⟨o',es,ep,ho',hd',_⟩,_⟩:=I.loc;rw[z,ho']at ho;cases ho;rw[hd']at hd;cases hd
def Inv.funs(I:Inv X pins σ H s):s.heap.FunFrames X.base X.outer:=by
 have all:∀(l:List Env),(∀b∈frs l,b∈X.fs)->X.s₀.heap.FunFrames X.base l->s.heap.FunFrames X.base l:=by
  intro l;induction l with
  |nil=>intro _ _;trivial
  |cons env r ih=>intro hs hl;obtain⟨hk,⟨L,o,hf,hn,ho,hd⟩,hr⟩:=hl;have hL:=hs L (by unfold frs;rw[List.filterMap_cons,hf];exact List.mem_cons_self);obtain⟨sl,e⟩:=I.base.slot L o ho (I.ok.frf L hL) hL λz=>I.ok.exfs L z hL;exact⟨hk,⟨L,_,hf,hn,e,hd⟩,ih (λb hb=>hs b (by unfold frs;rw[List.filterMap_cons,hf];exact List.mem_cons_of_mem _ hb)) hr⟩
 exact all X.outer (λ_ hb=>hb) I.ok.funs
def Inv.stack(I:Inv X pins σ H s):s.heap.FunFrames X.base X.stack:=by
 rcases I.ok.stk with e|⟨e,hf⟩;·rw[e];exact I.funs
 ·rw[e];obtain⟨m,hn,_⟩:=I.loc;refine .cons (by rw[I.ok.kind];decide) hf hn ?_ I.funs;exact Heap.get?_none_of_le (wt I.ok.bsz I.ok.above)
def Inv.stkSub(I:Inv X pins σ H s):∀b∈frs X.stack,b∈X.env.locals::X.fs:=λb hb=>by
 rcases I.ok.stk with e|⟨e,hf⟩;·rw[e]at hb;exact zF _ hb
 ·rw[e]at hb;unfold frs at hb;rw[Y8,hf]at hb;exact hb
def Inv.stkFree(I:Inv X pins σ H s):∀b∈frs X.stack,H b=none:=λb hb=>by
 rcases zL.mp (I.stkSub b hb)with e|hb;·rw[e];exact I.free
 ·obtain⟨_,o,ho,_⟩:=I.ok.funs.mem hb;exact I.base.free b o ho (I.ok.frf b hb) λz=>I.ok.exfs b z hb
def Inv.step{g':Array GenState}{t':Nat}{d':Drawn}(I:Inv X pins σ H s)(hch:∀b∈ch,(b∈X.ex\/X.s₀.heap.objs.size<=b)/\b≠X.env.locals/\(∀x c,X.env.cells.lookup x=some c->c≠b)/\∀p∈X.pn++pins,p.1≠b)(keep:∀b o,b≠X.env.locals->b∉X.fs->b∉ch->s.heap.get? b=some o->H b=none->h'.get? b=some o)(slot:∀b o,b≠X.env.locals->b∈X.fs->b∉ch->s.heap.get? b=some o->H b=none->∃sl,h'.get? b=some { o with slots:=sl })(free:∀b o,b∉ch->s.heap.get? b=some o->H b=none->H' b=none)(there:∀b o,b∉ch->s.heap.get? b=some o->∃o',h'.get? b=some o')(tups:∀b xs,H b=some (.tup xs)->H' b=some (.tup xs))(frzs:∀b o u,H b=some (.frz o u)->H' b=some (.frz o u))(tbls:∀b ps,H b=some (.tbl ps)->∃more,H' b=some (.tbl (ps++more)))(ns:∀m,s.heap.Ns X.env.locals m->h'.Ns X.env.locals m)(hok:HOk X.prog X.w H' h')(hg:AllBare g'):
  Inv X pins σ H' { s with heap:=h',gens:=g',drawn:=d',toks:=t' }:=by
 have neL:∀b o,X.s₀.heap.get? b=some o->b≠X.env.locals:=λb o e=>v9 (uf (w5 e) I.ok.above);have neC:∀b o,X.s₀.heap.get? b=some o->b∉X.ex->b∉ch:=λb o e hx hb=>by
  rcases (hch b hb).1 with z|z;·exact hx z
  ·exact absurd (uf (w5 e) z) (l6 _)
 have cellK:∀x c,X.env.cells.lookup x=some c->∀v,s.heap.IsCell c v->h'.IsCell c v:=λx c e v ⟨o,ho,hd⟩=>by
  have nch:c∉ch:=λz=>(hch c z).2.2.1 x c e rfl;by_cases hc:c∈X.fs;·obtain⟨sl,q⟩:=slot c o (I.cne x c e) hc nch ho (I.freeC x c e);exact⟨_,q,hd⟩
  ·exact⟨o,keep c o (I.cne x c e) hc nch ho (I.freeC x c e),hd⟩
 refine⟨I.ok,I.os,hg,⟨λb o e n hb hx=>?_,λb o e n hb hx=>?_,λb o e n hx=>?_,λb o e hx=>?_,λb xs e=>tups b xs (I.base.tups b xs e),λb o xs e=>frzs b o xs (I.base.frzs b o xs e),λb ps e=>?_⟩,?_,λx c e=>?_,?_,λx c e=>?_,λp hp=>?_,hok,I.len⟩;·exact keep b o (neL b o e) hb (neC b o e hx) (I.base.keep b o e n hb hx) (I.base.free b o e n hx)
 ·obtain⟨sl,e1⟩:=I.base.slot b o e n hb hx;obtain⟨sl',e2⟩:=slot b _ (neL b o e) hb (neC b o e hx) e1 (I.base.free b o e n hx);exact⟨sl',e2⟩
 ·obtain⟨o',e1⟩:=I.base.there b o e hx;exact free b o' (neC b o e hx) e1 (I.base.free b o e n hx)
 ·obtain⟨o',e1⟩:=I.base.there b o e hx;exact there b o' (neC b o e hx) e1
 ·obtain⟨m1,e1⟩:=I.base.tbls b ps e;obtain⟨m2,e2⟩:=tbls b _ e1;exact⟨m1++m2,by rw[e2,Array.append_assoc]⟩
 ·obtain⟨m,hn,hl⟩:=I.loc;refine⟨m,ns m hn,λi x v e1 e2 e3=>?_⟩;obtain⟨u,r,l⟩:=hl i x v e1 e2 e3;refine⟨u,r,?_⟩;rcases l with l|⟨k,c,e,z⟩;·exact .inl l
  ·exact .inr ⟨k,c,e,cellK x c e _ z⟩
 ·obtain⟨v,z⟩:=I.cell x c e;exact⟨v,cellK x c e v z⟩
 ·obtain⟨m,⟨o,_,_,ho,_⟩,_⟩:=I.loc;exact free _ o (λz=>(hch _ z).2.1 rfl) ho I.free
 ·obtain⟨v,o,ho,hd⟩:=I.cell x c e;exact free c o (λz=>(hch c z).2.2.1 x c e rfl) ho (I.freeC x c e)
 ·obtain⟨e,n,ne,nf,d⟩:=I.pin p hp;have nch:p.1∉ch:=λz=>(hch p.1 z).2.2.2 p hp rfl;exact⟨keep p.1 p.2 ne nf nch e n,free p.1 p.2 nch e n,ne,nf,d⟩
def Inv.un{t':Nat}(I:Inv X pins σ H s)(u:Un X.fs [] H H' s.heap h')(hok:HOk X.prog X.w H' h'):Inv X pins σ H' { s with heap:=h',toks:=t' }:=by obtain⟨m,⟨o,es,ep,ho,r⟩,_⟩:=id I.loc;obtain⟨sl,hL⟩:=u.any ho I.free (by simp);exact I.step (ch:=[]) (λ_ z=>nomatch z) (λb o _ hb _ e n=>u.keep b o e n hb (by simp)) (λb o _ hb _ e n=>u.slot b o e n hb (by simp)) (λb o _ e n=>u.free b o e n (by simp)) (λb o _ e=>u.there b o e (by simp)) u.tups u.frzs u.tbls (λm' hm=>by obtain⟨o',es',ep',ho',r'⟩:=hm;rw[ho]at ho';cases ho';exact⟨_,es',ep',hL,r'⟩) hok I.bare
def Inv.call{g':Array GenState}{t':Nat}{d':Drawn}(I:Inv X pins σ H s)(u:Un (frs X.stack) ch H H' s.heap h')(hok:HOk X.prog X.w H' h')(hg:AllBare g')(hch:∀b∈ch,(b∈X.ex\/X.s₀.heap.objs.size<=b)/\b≠X.env.locals/\(∀x c,X.env.cells.lookup x=some c->c≠b)/\∀p∈X.pn++pins,p.1≠b):
  Inv X pins σ H' { s with heap:=h',gens:=g',drawn:=d',toks:=t' }:=by
 obtain⟨m,⟨o,es,ep,ho,r⟩,_⟩:=id I.loc;obtain⟨sl,hL⟩:=u.any ho I.free λz=>(hch _ z).2.1 rfl;exact I.step hch (λb o hL hb hc e n=>u.keep b o e n (λz=>(zL.mp (I.stkSub b z)).elim hL hb) hc) (λb o _ _ hc e n=>u.any e n hc) (λb o hc e n=>u.free b o e n hc) (λb o hc e=>u.there b o e hc) u.tups u.frzs u.tbls (λm' hm=>by obtain⟨o',es',ep',ho',r'⟩:=hm;rw[ho]at ho';cases ho';exact⟨_,es',ep',hL,r'⟩) hok hg
def Inv.turned{t':Nat}(I:Inv X pins σ H s)(k:∀b o,b≠it->s.heap.get? b=some o->h'.get? b=some o)(hn:H it=none)(hL:it≠X.env.locals)(h1:it∈X.ex\/X.s₀.heap.objs.size<=it)(h2:∀x c,X.env.cells.lookup x=some c->c≠it)(h3:∀p∈X.pn++pins,p.1≠it):Inv X pins σ H { s with heap:=h',toks:=t' }:=by
 have nit:∀b u,H b=some u->b≠it:=λb u e z=>by rw[z,hn]at e;cases e
 refine I.step (ch:=[it]) (λb hb=>?_) (λb o _ _ hc e _=>k b o (λz=>hc (by simp[z])) e) (λb o _ _ hc e _=>⟨o.slots,k b o (λz=>hc (by simp[z])) e⟩) (λ_ _ _ _ n=>n)
  (λb o hc e=>⟨o,k b o (λz=>hc (by simp[z])) e⟩) (λ_ _ e=>e) (λ_ _ _ e=>e) (λb ps e=>⟨#[],by rw[e];simp⟩) (λm hm=>?_) (λb u e=>?_) I.bare
 ·have e:b=it:=by simpa using hb
  subst e;exact⟨h1,hL,h2,h3⟩
 ·obtain⟨o,es,ep,ho,r⟩:=hm;exact⟨o,es,ep,k _ o (uo hL) ho,r⟩
 ·refine(I.hok b u e).stay (λc v hc q=>k c v ?_ q) (λ_ q=>q) λ_ _ q=>q;rcases hc with z|z;·rw[z];exact nit b u e
  ·exact nit c _ z
def Inv.tok(I:Inv X pins σ H s)(t:Nat):Inv X pins σ H { s with toks:=t }:=I.un Un.refl I.hok
def Inv.kept{t':Nat}(I:Inv X pins σ H s)(k:∀b u,s.heap.get? b=some u->h'.get? b=some u):Inv X pins σ H { s with heap:=h',toks:=t' }:=I.un (Un.kept k) (I.hok.kept k)
def Inv.laid{o:HO}{t':Nat}(I:Inv X pins σ H s)(k:∀b u,s.heap.get? b=some u->h'.get? b=some u)(hp:s.heap.objs.size<=a)(new:ObjOk X.prog X.w (upd H a o) h' a o):
  Inv X pins σ (upd H a o) { s with heap:=h',toks:=t' }:=I.un (Un.laid k hp (I.hok.fresh hp)) (I.hok.laid k hp new)
def Inv.write{x e:Addr}{o:HO}{t':Nat}(I:Inv X pins σ H s)(mu:Mut (H x))(he:e=x\/H e=some (.own x))(k:∀b u,b≠e->s.heap.get? b=some u->h'.get? b=some u)(heo:∃u,h'.get? e=some u)(new:ObjOk X.prog X.w (upd H x o) h' x o):Inv X pins σ (upd H x o) { s with heap:=h',toks:=t' }:=I.un (Un.write mu he k heo) (I.hok.write mu he k heo new)
def Inv.pins_of{pins':List (Addr×Obj)}(I:Inv X pins σ H s)(h:∀p∈pins',s.heap.get? p.1=some p.2/\H p.1=none/\p.1≠X.env.locals/\p.1∉X.fs/\∀v,p.2.data≠.cell v):Inv X pins' σ H s:=
 ⟨I.ok,I.os,I.bare,I.base,I.loc,I.cell,I.free,I.freeC,λp hp=>(uF.mp hp).elim (λz=>I.pin p (my _ z)) (h p),I.hok,I.len⟩
def qL{N:List Str}(hN:N.Nodup)(a:N[i]?=some x)(b:N[j]?=some x):i=j:=by obtain⟨h1,e1⟩:=vc.mp a;obtain⟨h2,e2⟩:=vc.mp b;exact(List.getElem_inj hN).mp (e1.trans e2.symm)
def lg{M:Model}{A:Around}{Q:Unit->Shared->Prop}(I:Inv X pins σ H s)(hN:X.N.Nodup)(hi:X.N[i]?=some x)(hx:Loc X.env.scope x)(r:RelV v u)(h:∀s',Inv X pins (σ.set i (some v)) H s'->(∃a,Heap.SameBut a s.heap s'.heap/\(a=X.env.locals\/X.env.cells.lookup x=some a))->Q () s')(hf:X.fn x=true\/X.env.scope.names.lookup x=some .local:=by first|exact .inl rfl|exact .inr rfl|assumption):wpAny M A (storeName X.env x u) Q E s:=by
 obtain⟨m,hn,hl⟩:=id I.loc;have hcls:(X.env.scope.kind==.class || (X.env.scope.kind==.module && X.env.locals != X.env.globals))=false:=by rw[I.ok.kind];rfl
 have hiσ:i<σ.length:=by rw[I.len];exact(vc.mp hi).1
 have cne:=I.cne;have tracked:∀{a:Addr}{h':Heap},(∃o,s.heap.get? a=some o/\H a=none)->Heap.SameBut a s.heap h'->HOk X.prog X.w H h':=λ{a h'} ha hs b ob e=>by
  obtain⟨_,_,hfree⟩:=ha;refine(I.hok b ob e).stay (λc w' hc q=>(hs.2 c ?_).trans q) (λ_ q=>q) λ_ _ q=>q;rintro rfl;rcases hc with rfl|hc;·rw[hfree]at e;cases e
  ·rw[hfree]at hc;cases hc
 rcases hx with hk|hk
 ·refine wpAny_storeName_local hk hn (λh' hn' hs=>?_) hcls;obtain⟨oL,_,_,hoL,_⟩:=id hn;refine h _ ⟨I.ok,I.os,I.bare,⟨λb o e n hb hx=>?_,λb o e n hb hx=>?_,I.base.free,λb o e hx=>?_,I.base.tups,I.base.frzs,I.base.tbls⟩,⟨_,hn',λj y v' e1 e2 e3=>?_⟩,λy c e=>?_,I.free,I.freeC,λp hp=>?_,tracked ⟨oL,hoL,I.free⟩ hs,by simpa using I.len⟩ ⟨_,hs,.inl rfl⟩;·exact(hs.2 b (v9 (uf (w5 e) I.ok.above))).trans (I.base.keep b o e n hb hx)
  ·obtain⟨sl,e1⟩:=I.base.slot b o e n hb hx;exact⟨sl,(hs.2 b (v9 (uf (w5 e) I.ok.above))).trans e1⟩
  ·obtain⟨o',e1⟩:=I.base.there b o e hx;exact⟨o',(hs.2 b (v9 (uf (w5 e) I.ok.above))).trans e1⟩
  ·by_cases hj:j=i;·subst hj;rw[hi]at e1;cases e1;rw[vE hiσ]at e2;cases e2;exact⟨u,r,.inl ⟨hk,by simp⟩⟩
   ·rw[uA (uo hj)]at e2;obtain⟨u',r',q⟩:=hl j y v' e1 e2 e3;refine⟨u',r',?_⟩;rcases q with⟨k,e⟩|⟨k,c,e,z⟩
    ·refine .inl ⟨k,?_⟩;have:y≠x:=λe=>hj (qL hN e1 (e▸hi));simp[this,e]
    ·exact .inr ⟨k,c,e,z.sameBut hs (cne y c e)⟩
  ·obtain⟨w',z⟩:=I.cell y c e;exact⟨w',z.sameBut hs (cne y c e)⟩
  ·obtain⟨e,n,ne,nf,d⟩:=I.pin p hp;exact⟨(hs.2 p.1 ne).trans e,n,ne,nf,d⟩
 ·have hfn:X.fn x=true:=by
   rcases hf with z|z;·exact z
   ·rw[z]at hk;cases hk
  obtain⟨c,hc⟩:=I.ok.has x (.inl hk);obtain⟨w',z⟩:=I.cell x c hc;refine wpAny_storeName_cell I.ok.kind hk hc z (λh' hc' hs=>?_);obtain⟨oc,hoc,hocd⟩:=id z;refine h { s with heap:=h' } ⟨I.ok,I.os,I.bare,⟨λb o e n hb hx=>?_,λb o e n hb hx=>?_,I.base.free,λb o e hx=>?_,I.base.tups,I.base.frzs,I.base.tbls⟩,⟨m,hn.sameBut hs (uo (cne x c hc)),λj y v' e1 e2 e3=>?_⟩,λy c' e=>?_,I.free,I.freeC,λp hp=>?_,tracked ⟨oc,hoc,I.freeC x c hc⟩ hs,by simpa using I.len⟩ ⟨c,hs,.inr hc⟩;·exact(hs.2 b (v9 (uf (w5 e) (I.ok.cab x c hfn hc)))).trans (I.base.keep b o e n hb hx)
  ·obtain⟨sl,e1⟩:=I.base.slot b o e n hb hx;exact⟨sl,(hs.2 b (v9 (uf (w5 e) (I.ok.cab x c hfn hc)))).trans e1⟩
  ·obtain⟨o',e1⟩:=I.base.there b o e hx;exact⟨o',(hs.2 b (v9 (uf (w5 e) (I.ok.cab x c hfn hc)))).trans e1⟩
  ·by_cases hj:j=i;·subst hj;rw[hi]at e1;cases e1;rw[vE hiσ]at e2;cases e2;exact⟨u,r,.inr ⟨.inl hk,c,hc,hc'⟩⟩
   ·rw[uA (uo hj)]at e2;obtain⟨u',r',q⟩:=hl j y v' e1 e2 e3;refine⟨u',r',?_⟩;rcases q with q|⟨k,c',e,z'⟩;·exact .inl q
    ·refine .inr ⟨k,c',e,z'.sameBut hs ?_⟩;rintro rfl;exact hj (qL hN e1 (I.ok.inj _ _ _ e hc▸hi))
  ·by_cases hcc:c'=c;·subst hcc;exact⟨_,hc'⟩
   ·obtain⟨w2,z2⟩:=I.cell y c' e;exact⟨w2,z2.sameBut hs hcc⟩
  ·obtain⟨e,n,ne,nf,d⟩:=I.pin p hp;refine⟨(hs.2 p.1 ?_).trans e,n,ne,nf,d⟩;intro q;rw[q,hoc]at e;have q':=wq e;exact d w' (by rw[<- q'];exact hocd)
def mK{M:Model}{A:Around}{Q:Unit->Shared->Prop}(I:Inv X pins σ H s)(hN:X.N.Nodup)(hi:X.N[i]?=some x)(hx:Loc X.env.scope x)(r:RelV v u)(h:∀s',Inv X pins (σ.set i (some v)) H s'->Q () s')(hf:X.fn x=true\/X.env.scope.names.lookup x=some .local:=by first|exact .inl rfl|exact .inr rfl|assumption):wpAny M A (storeName X.env x u) Q E s:=
 lg I hN hi hx r (λs' I' _=>h s' I') hf
def Inv.call'(I:Inv X pins σ H s)(ho:s'.os=s.os)(u:Un (frs X.stack) ch H H' s.heap s'.heap)(hok:HOk X.prog X.w H' s'.heap)(hg:AllBare s'.gens)(hch:∀b∈ch,(b∈X.ex\/X.s₀.heap.objs.size<=b)/\b≠X.env.locals/\(∀x c,X.env.cells.lookup x=some c->c≠b)/\∀p∈X.pn++pins,p.1≠b):Inv X pins σ H' s':=by
 obtain⟨h',g',d',t',o'⟩:=s';have e:=ho;subst e;exact I.call u hok hg hch
end
abbrev XK:=Value->Option Addr->Hp->Prop
abbrev St:=List (Option V)
abbrev VK:=V->Hp->Prop
abbrev TE:=St->Hp->VK->Prop
abbrev TT:=St->Hp->(Bool->Hp->Prop)->Prop
abbrev TA:=St->Hp->(List V->Hp->Prop)->Prop
structure Ends where
 nx:St->Hp->Prop
 rt:VK
 bk:St->Hp->Prop:=λ_ _=>False
 ct:St->Hp->Prop:=λ_ _=>False
abbrev TS:=Ends->St->Hp->Prop
noncomputable def EP(X:Cx)(pins:List (Addr×Obj))(σ:St)(Q:VK)(u:Value)(s':Shared):Prop:=∃v H',Inv X pins σ H' s'/\RelV v u/\Q v H'
noncomputable def TP(X:Cx)(pins:List (Addr×Obj))(σ:St)(Q:Bool->Hp->Prop)(b:Bool)(s':Shared):Prop:=∃H',Inv X pins σ H' s'/\Q b H'
noncomputable def AP(X:Cx)(pins:List (Addr×Obj))(σ:St)(Q:List V->Hp->Prop)(us:List Value)(s':Shared):Prop:=∃vs H',Inv X pins σ H' s'/\Vals vs us/\Q vs H'
noncomputable def SP(X:Cx)(pins:List (Addr×Obj))(D:Ends)(f:Flow)(s':Shared):Prop:=
 match f with
 |.next=>∃σ' H',Inv X pins σ' H' s'/\D.nx σ' H'
 |.brk=>∃σ' H',Inv X pins σ' H' s'/\D.bk σ' H'
 |.cont=>∃σ' H',Inv X pins σ' H' s'/\D.ct σ' H'
 |.ret u=>∃v σ' H',Inv X pins σ' H' s'/\RelV v u/\D.rt v H'
noncomputable def PE(X:Cx)(e:Expr)(t:TE):Prop:=
 ∀(pins:List (Addr×Obj))(s:Shared)(σ:St)(H:Hp)(Q:VK),Inv X pins σ H s->t σ H Q->wpAny (model X.prog X.w) X.A (eval e X.env) (EP X pins σ Q) X.xe s
noncomputable def PT(X:Cx)(e:Expr)(t:TT):Prop:=
 ∀(pins:List (Addr×Obj))(s:Shared)(σ:St)(H:Hp)(Q:Bool->Hp->Prop),Inv X pins σ H s->t σ H Q->wpAny (model X.prog X.w) X.A (isTrue e X.env (eval e X.env)) (TP X pins σ Q) X.xe s
noncomputable def PW(X:Cx)(e:Expr)(t:TT):Prop:=
 ∀(whole:Sem Value)(pins:List (Addr×Obj))(s:Shared)(σ:St)(H:Hp)(Q:Bool->Hp->Prop),Inv X pins σ H s->t σ H Q->wpAny (model X.prog X.w) X.A (isTrue e X.env whole) (TP X pins σ Q) X.xe s
noncomputable def PA(X:Cx)(es:List Expr)(t:TA):Prop:=
 ∀(pos:Pos)(pins:List (Addr×Obj))(s:Shared)(σ:St)(H:Hp)(Q:List V->Hp->Prop),Inv X pins σ H s->t σ H Q->wpAny (model X.prog X.w) X.A (spliced (backTo pos (starEach es X.env))) (AP X pins σ Q) X.xe s
noncomputable def PS(X:Cx)(st:Stmt)(t:TS):Prop:=
 ∀(pins:List (Addr×Obj))(s:Shared)(σ:St)(H:Hp)(D:Ends),Inv X pins σ H s->t D σ H->wpAny (model X.prog X.w) X.A (exec st X.env) (SP X pins D) X.xe s
noncomputable def PSs(X:Cx)(st:List Stmt)(t:TS):Prop:=
 ∀(pins:List (Addr×Obj))(s:Shared)(σ:St)(H:Hp)(D:Ends),Inv X pins σ H s->t D σ H->wpAny (model X.prog X.w) X.A (execs st X.env) (SP X pins D) X.xe s
def thn{α:Type}{t:Sem α}{Q Q':α->Shared->Prop}{M:Model}{A:Around}(h:wpAny M A t Q E s)(hQ:∀a s,Q a s->Q' a s):wpAny M A t Q' E s:=vV h hQ λ_ _ x=>x
end L2
variable{σ:L2.St}{X:L2.Cx}
namespace L2
open PySem PySem.Spec PyProof.Rows
section
def L5(i:Nat):TE:=λσ H Q=>∃v,σ[i]?=some (some v)/\Q v H
def tC(v:V):TE:=λ_ H Q=>Q v H
def jm(hN:X.N[i]?=some x)(hv:Vis X.env.scope x)(hd:(x==("__debug__":Str))=false:=by decide)(hcd:(x==("__classdict__":Str))=false:=by decide):PE X (.Name x pos) (L5 i):=by
 intro pins s σ H Q I h;obtain⟨v,e,h⟩:=h;obtain⟨m,hn,hl⟩:=I.loc;obtain⟨u,r,l⟩:=hl i x v hN e hv;have fin:EP X pins σ Q u s:=⟨v,H,I,r,h⟩
 rcases l with⟨hk,hm⟩|⟨hk,c,hc,hcell⟩;·exact wpAny_Name (wpAny_loadName_local I.ok.kind hk hn hm fin) hd
 ·rcases hk with hk|hk;·exact wpAny_Name (wpAny_loadName_cell I.ok.kind hk hc hcell fin) hd
  ·exact wpAny_Name (wpAny_loadName_free I.ok.kind hk hc hcell fin hcd) hd
def I8 {i j pos}:PE X (.Constant (.int i) j pos) (tC (.int i)):=λ_ _ _ H _ I h=>wpAny_Constant_int ⟨.int i,H,I.tok _,⟨_,rfl⟩,h⟩
def MM {b j pos}:PE X (.Constant (.bool b) j pos) (tC (.bl b)):=λ_ _ _ H _ I h=>Constant_bool ⟨.bl b,H,I,rfl,h⟩
def Kb {j pos}:PE X (.Constant .none j pos) (tC .non):=λ_ _ _ H _ I h=>Constant_none ⟨.non,H,I,rfl,h⟩
def Lh {x j pos}:PE X (.Constant (.str x) j pos) (tC (.str x)):=λ_ _ _ H _ I h=>Calls.Constant_str ⟨.str x,H,I.tok _,⟨_,rfl⟩,h⟩
def Gl(X:Cx)(x:Str):Prop:=X.env.kindOf x=some .globalImplicit
def oJ{Q:Value->Shared->Prop}(I:Inv X pins σ H s)(hg:Gl X x)(hm:X.mg x=some u)(h:Q u s)(hd:(x==("__debug__":Str))=false:=by decide):wpAny (model X.prog X.w) X.A (eval (.Name x pos) X.env) Q E s:=
 Y9 I.ok.kind hg (Calls.loadGlobal_global (by rw[I.ok.glob];exact I.mod.glob.keeps I.bk) hm h) hd
def oS{Q:Value->Shared->Prop}(I:Inv X pins σ H s)(hg:Gl X x)(hm:X.mg x=none)(hv:bootBuiltins x=some u)(h:Q u s)(hn:x≠"__name__":=by decide)(hd:(x==("__debug__":Str))=false:=by decide):wpAny (model X.prog X.w) X.A (eval (.Name x pos) X.env) Q E s:=by
 obtain⟨mb,h1,h2⟩:=I.mod.blt;exact Y9 I.ok.kind hg (Calls.loadGlobal_builtin (by rw[I.ok.glob];exact I.mod.glob.keeps I.bk) hm (by rw[I.ok.blt];exact h1.keeps I.bk) ((h2 x hn).trans hv) h) hd
def qW(hg:Gl X x)(hm:X.mg x=some u)(r:RelV v u)(hd:(x==("__debug__":Str))=false:=by decide):PE X (.Name x pos) (tC v):=
 λ_ _ _ H _ I h=>oJ I hg hm ⟨v,H,I,r,h⟩ hd
def AJ(hg:Gl X x)(hm:X.mg x=none)(hv:bootBuiltins x=some u)(r:RelV v u)(hn:x≠"__name__":=by decide)(hd:(x==("__debug__":Str))=false:=by decide):PE X (.Name x pos) (tC v):=
 λ_ _ _ H _ I h=>oS I hg hm hv ⟨v,H,I,r,h⟩ hn hd
variable{a b:Expr}{ta tb:TE}
variable{tA tB':TT}{eN:List Expr}
noncomputable def PC(t u:TT):TT:=λσ H Q=>t σ H λc H1=>if c=true then u σ H1 Q else Q false H1
noncomputable def tOr(t u:TT):TT:=λσ H Q=>t σ H λc H1=>if c=true then Q true H1 else u σ H1 Q
def P0(t:TT):TT:=λσ H Q=>t σ H λc H1=>Q (!c) H1
def Gz(ha:PT X a tA):PW X (.BoolOp .And [a] pos) tA:=by
 intro wh pins s σ H Q I h;refine isTrue_and (thn (ha pins s σ H Q I h) λc s1 e=>?_);cases c with
 |true=>exact isTrue_and_nil e
 |false=>exact e
def Kc(ha:PT X a tA):PW X (.BoolOp .Or [a] pos) tA:=by
 intro wh pins s σ H Q I h;refine isTrue_or (thn (ha pins s σ H Q I h) λc s1 e=>?_);cases c with
 |false=>exact isTrue_or_nil e
 |true=>exact e
def Kl(ha:PT X a tA)(hb:PW X (.BoolOp .And (b::eN) pos) tB'):PW X (.BoolOp .And (a::b::eN) pos) (PC tA tB'):=by
 intro wh pins s σ H Q I h;refine isTrue_and (thn (ha pins s σ H _ I h) λc s1 ⟨H1,I1,q1⟩=>?_);cases c with
 |true=>exact hb wh pins s1 σ H1 Q I1 q1
 |false=>exact⟨H1,I1,q1⟩
def Ob(ha:PT X a tA)(hb:PW X (.BoolOp .Or (b::eN) pos) tB'):PW X (.BoolOp .Or (a::b::eN) pos) (tOr tA tB'):=by
 intro wh pins s σ H Q I h;refine isTrue_or (thn (ha pins s σ H _ I h) λc s1 ⟨H1,I1,q1⟩=>?_);cases c with
 |true=>exact⟨H1,I1,q1⟩
 |false=>exact hb wh pins s1 σ H1 Q I1 q1
def Ji(ha:PT X a tA):PT X (.UnaryOp .Not a pos) (P0 tA):=by intro pins s σ H Q I h;exact isTrue_not (ha pins s σ H (λc H1=>Q (!c) H1) I h)
noncomputable def MH(ta tb:TE):TE:=λσ H Q=>ta σ H λx H1=>∃c,x=.bl c/\if c=true then tb σ H1 Q else Q (.bl false) H1
noncomputable def Qp(ta tb:TE):TE:=λσ H Q=>ta σ H λx H1=>∃c,x=.bl c/\if c=true then Q (.bl true) H1 else tb σ H1 Q
noncomputable def MT(ta:TE):TE:=λσ H Q=>ta σ H λx H1=>∃c,x=.bl c/\Q (.bl (!c)) H1
def KY {op} {t:TE} (h:PE X a t):PE X (.BoolOp op [a] pos) t:=λpins s σ H Q I hw=>BoolOp_one (h pins s σ H Q I hw)
def KC(ha:PE X a ta)(hb:PE X (.BoolOp .And (b::eN) pos) tb):PE X (.BoolOp .And (a::b::eN) pos) (MH ta tb):=by
 intro pins s σ H Q I h;refine BoolOp_and (thn (ha pins s σ H _ I h) λv s1 ⟨x,H1,I1,r1,q1⟩=>?_);obtain⟨c,rfl,q1⟩:=q1;cases r1;refine oR ?_;cases c with
 |true=>exact hb pins s1 σ H1 Q I1 q1
 |false=>exact⟨.bl false,H1,I1,rfl,q1⟩
def Ng(ha:PE X a ta)(hb:PE X (.BoolOp .Or (b::eN) pos) tb):PE X (.BoolOp .Or (a::b::eN) pos) (Qp ta tb):=by
 intro pins s σ H Q I h;refine BoolOp_or (thn (ha pins s σ H _ I h) λv s1 ⟨x,H1,I1,r1,q1⟩=>?_);obtain⟨c,rfl,q1⟩:=q1;cases r1;refine oR ?_;cases c with
 |false=>exact hb pins s1 σ H1 Q I1 q1
 |true=>exact⟨.bl true,H1,I1,rfl,q1⟩
def Kx(ha:PE X a ta):PE X (.UnaryOp .Not a pos) (MT ta):=by intro pins s σ H Q I h;refine UnaryOp_ (thn (ha pins s σ H _ I h) λv s1 ⟨x,H1,I1,r1,q1⟩=>?_);obtain⟨c,rfl,q1⟩:=q1;cases r1;exact not_of (oR ⟨.bl (!c),H1,I1,rfl,q1⟩)
noncomputable def tIf(t:TT)(ta tb:TE):TE:=λσ H Q=>t σ H λc H1=>if c=true then ta σ H1 Q else tb σ H1 Q
def DL{c:Expr}(hc:PT X c tA)(ha:PE X a ta)(hb:PE X b tb):PE X (.IfExp c a b pos) (tIf tA ta tb):=by
 intro pins s σ H Q I h;refine wpAny_IfExp (thn (hc pins s σ H _ I h) λd s1 ⟨H1,I1,q1⟩=>?_);cases d with
 |true=>exact ha pins s1 σ H1 Q I1 q1
 |false=>exact hb pins s1 σ H1 Q I1 q1
end
noncomputable def SqL(K:W.Frag)(H:Hp)(a:Addr)(xs:List V):Prop:=
 Rd H a (.lst xs)\/
  ∃(o:Obj)(its:Array Value)(n:Nat),K.lookup a=some o/\o.cls=.type "list"/\o.dict=none/\o.data=.seq its n/\its.size<=sizeLine/\Vals xs its.toList
noncomputable def SqT(K:W.Frag)(H:Hp)(a:Addr)(xs:List V):Prop:=
 Rd H a (.tup xs)\/
  ∃(o:Obj)(its:Array Value)(n:Nat),K.lookup a=some o/\o.cls=.type "tuple"/\o.data=.seq its n/\its.size<=sizeLine/\Vals xs its.toList
noncomputable def Pr:Value->Option V
 |.none=>some .non
 |.bool b=>some (.bl b)
 |.int i _=>some (.int i)
 |.str x _=>some (.str x)
 |.bytes b _=>some (.byt b)
 |.float b _=>some (.flt b)
 |.ref a=>some (.ref a)
 |.type n=>some (.ty n)
 |_=>none
def RelV.abs{x:V}(r:RelV x u):Pr u=some x:=by
 cases x with
 |non=>cases r;rfl
 |bl _=>cases r;rfl
 |int _=>obtain⟨t,rfl⟩:=r;rfl
 |str _=>obtain⟨t,rfl⟩:=r;rfl
 |byt _=>obtain⟨t,rfl⟩:=r;rfl
 |flt _=>obtain⟨t,rfl⟩:=r;rfl
 |ref _=>cases r;rfl
 |ty _=>cases r;rfl
def RelV.inj{x y:V}(r:RelV x u)(q:RelV y u):x=y:=wq (r.abs.symm.trans q.abs)
theorem Vals.inj:∀{xs ys:List V}{us:List Value},Vals xs us->Vals ys us->xs=ys
 |_,_,_,.nil,.nil=>rfl
 |_,_,_,.cons r t,.cons r' t'=>by rw[r.inj r',Vals.inj t t']
section
variable{ys:List V}
def SqL.of{K:W.Frag}(h:H a=some (.lst xs)):SqL K H a xs:=.inl (.inl h)
def SqT.of{K:W.Frag}(h:H a=some (.tup xs)):SqT K H a xs:=.inl (.inl h)
def Inv.list(I:Inv X pins σ H s)(h:SqL X.K H a xs):∃its:List Value,Vals xs its/\PlainL s.heap a its.toArray/\xs.length<=sizeLine:=by
 rcases h with h|⟨o,its,n,hk,hc,hd,hs,hz,r⟩;·obtain⟨z,its,n,r,e⟩:=h.ok I.hok;exact⟨its,r,⟨_,n,e,rfl,rfl,rfl⟩,z⟩
 ·refine⟨its.toList,r,⟨o,n,I.kIn a o hk,hc,hd,by simpa using hs⟩,?_⟩;have e:=r.length;simp only[lE]at e;omega
def Inv.tuple(I:Inv X pins σ H s)(h:SqT X.K H a xs):∃its:List Value,Vals xs its/\IsTup s.heap a its.toArray/\xs.length<=sizeLine:=by
 rcases h with h|⟨o,its,n,hk,hc,hs,hz,r⟩;·obtain⟨z,its,r,p⟩:=h.ok I.hok;exact⟨its,r,p,z⟩
 ·refine⟨its.toList,r,⟨o,I.kIn a o hk,hc,n,by simpa using hs⟩,?_⟩;have e:=r.length;simp only[lE]at e;omega
def Inv.list_inj(I:Inv X pins σ H s)(h:SqL X.K H a xs)(h':SqL X.K H a ys):xs=ys:=by
 obtain⟨its,r,⟨o,n,e,_,_,d⟩,_⟩:=I.list h;obtain⟨its',r',⟨o',n',e',_,_,d'⟩,_⟩:=I.list h';rw[e]at e';cases e';rw[d]at d';injection d' with d1 _;have:its=its':=by simpa using vC Array.toList d1
 subst this;exact r.inj r'
def Inv.tuple_inj(I:Inv X pins σ H s)(h:SqT X.K H a xs)(h':SqT X.K H a ys):xs=ys:=by
 obtain⟨its,r,⟨o,e,_,n,d⟩,_⟩:=I.tuple h;obtain⟨its',r',⟨o',e',_,n',d'⟩,_⟩:=I.tuple h';rw[e]at e';cases e';rw[d]at d';injection d' with d1 _;have:its=its':=by simpa using vC Array.toList d1
 subst this;exact r.inj r'
end
abbrev Cx.wish(X:Cx)(E:Value->Shared->Prop):Cx:={ X with xe:=E }
section
variable{eN:List Stmt}{t u:TS}{e:Expr}{te:TE}
def MY:TS:=λD σ H=>D.nx σ H
def PM(t u:TS):TS:=λD σ H=>t { D with nx:=u D } σ H
def Hf:PSs X [] MY:=λ_ _ σ H _ I h=>ZC ⟨σ,H,I,h⟩
def sy(h1:PS X st t)(h2:PSs X eN u):PSs X (st::eN) (PM t u):=by
 intro pins s σ H D I h;refine wpAny_execs_cons (thn (h1 pins s σ H { D with nx:=u D } I h) λf s1 q=>?_);cases f with
 |next=>obtain⟨σ',H',I',q⟩:=q;exact h2 pins s1 σ' H' D I' q
 |ret v=>exact q
 |brk=>exact q
 |cont=>exact q
def Inv.quiet(I:Inv X pins σ H s):interactive X.env=false:=by simp[interactive,I.ok.kind]
def Nl(te:TE):TS:=λD σ H=>te σ H λ_ H1=>D.nx σ H1
def nM(he:PE X e te)(hs:swapsWith e none pos.line X.env=pure false:=by rfl):PS X (.Expr e pos) (Nl te):=by intro pins s σ H D I h;exact wpAny_Expr_any (thn (he pins s σ H _ I h) λv s1 ⟨x,H1,I1,r1,q1⟩=>⟨σ,H1,I1,q1⟩) I.quiet hs
def Qq(te:TE):TS:=λD σ H=>te σ H D.rt
def EZ(he:PE X e te):PS X (.Return (some e) pos) (Qq te):=by intro pins s σ H D I h;exact wpAny_Return_some (thn (he pins s σ H _ I h) λv s1 ⟨x,H1,I1,r1,q1⟩=>⟨x,σ,H1,I1,r1,q1⟩)
noncomputable def OU(c:TT)(t u:TS):TS:=λD σ H=>c σ H λb H1=>if b=true then t D σ H1 else u D σ H1
def N5{c:Expr}{a b:List Stmt}{tc:TT}(hc:PT X c tc)(ha:PSs X a t)(hb:PSs X b u):PS X (.If c a b pos) (OU tc t u):=by
 intro pins s σ H D I h;refine wpAny_If (thn (hc pins s σ H _ I h) λd s1 ⟨H1,I1,q1⟩=>?_);cases d with
 |true=>exact ha pins s1 σ H1 D I1 q1
 |false=>exact hb pins s1 σ H1 D I1 q1
end
abbrev TG:=V->St->Hp->(St->Hp->Prop)->Prop
abbrev TGs:=List V->St->Hp->(St->Hp->Prop)->Prop
noncomputable def PG(X:Cx)(target:Expr)(t:TG):Prop:=
 ∀(pins:List (Addr×Obj))(s:Shared)(σ:St)(H:Hp)(v:V)(u:Value)(Q:St->Hp->Prop),Inv X pins σ H s->RelV v u->t v σ H Q->
  wpAny (model X.prog X.w) X.A (assign target X.env u) (λ_ s'=>∃σ' H',Inv X pins σ' H' s'/\Q σ' H') X.xe s
noncomputable def PGs(X:Cx)(ts:List Expr)(t:TGs):Prop:=
 ∀(pins:List (Addr×Obj))(s:Shared)(σ:St)(H:Hp)(vs:List V)(us:List Value)(Q:St->Hp->Prop),Inv X pins σ H s->Vals vs us->t vs σ H Q->
  wpAny (model X.prog X.w) X.A (assignInOrder ((assignEach ts X.env).map (·.2)) us) (λ_ s'=>∃σ' H',Inv X pins σ' H' s'/\Q σ' H') X.xe s
abbrev LX:=V->V->V->Hp->(Hp->Prop)->Prop
noncomputable def M4(X:Cx)(t:LX):Prop:=
 ∀(pins:List (Addr×Obj))(s:Shared)(σ:St)(H:Hp)(o i v:V)(ov iv u:Value)(Q:Hp->Prop),Inv X pins σ H s->RelV o ov->RelV i iv->RelV v u->t o i v H Q->
  wpAny (model X.prog X.w) X.A (setItem ov iv u) (λ_ s'=>∃H',Inv X pins σ H' s'/\Q H') X.xe s
section
def N6(i:Nat):TG:=λv σ H Q=>Q (σ.set i (some v)) H
def lU(hN:X.N.Nodup)(hi:X.N[i]?=some x)(hx:Loc X.env.scope x)(hf:X.fn x=true\/X.env.scope.names.lookup x=some .local:=by first|exact .inl rfl|exact .inr rfl|assumption):PG X (.Name x pos) (N6 i):=by intro pins s σ H v u Q I r h;exact wpAny_assign_Name (mK I hN hi hx r (λs' I'=>⟨_,H,I',h⟩) hf)
def Ps:TGs:=λvs σ H Q=>vs=[]/\Q σ H
noncomputable def N1(t:TG)(u:TGs):TGs:=λvs σ H Q=>∃v r,vs=v::r/\t v σ H λσ' H'=>u r σ' H' Q
def GP:PGs X [] Ps:=by intro pins s σ H vs us Q I r h;obtain⟨e,h⟩:=h;exact assignInOrder_nil ⟨σ,H,I,h⟩
def C4{e:Expr}{t:TG}{u:TGs}(h1:PG X e t)(h2:PGs X es u)(hs:(assignEach (e::es) X.env).map (·.2)=assign e X.env::(assignEach es X.env).map (·.2):=by rfl):PGs X (e::es) (N1 t u):=by
 intro pins s σ H vs us Q I r h;obtain⟨v,vr,e1,h⟩:=h;subst e1;cases r with
 |cons r rr=>rw[hs];refine ZD (thn (h1 pins s σ H _ _ _ I r h) λ_ s1 ⟨σ1,H1,I1,q1⟩=>?_);exact h2 pins s1 σ1 H1 _ _ Q I1 rr q1
noncomputable def Qh(K:W.Frag)(n:Nat)(t:TGs):TG:=λv σ H Q=>∃a xs,v=.ref a/\SqT K H a xs/\xs.length=n/\t xs σ H Q
def IR{t:TGs}{n:Nat}(hc:X.calm=true)(h:PGs X es t)(hn:(assignEach es X.env).length=n:=by rfl)(hst:(assignEach es X.env).findIdx? (·.1)=none:=by rfl):PG X (.Tuple es k pos) (Qh X.K n t):=by
 intro pins s σ H v u Q I r hw;obtain⟨a,xs,e1,hq,hl,hw⟩:=hw;subst e1;cases r;obtain⟨its,rv,ht,hz⟩:=I.tuple hq;refine assign_Tuple_tuple (I.ok.hd hc) ht (by simp[hn,<- hl,rv.length]) hst λh' hx=>?_;have I1:Inv X pins σ H { s with heap:=h' }:=I.kept λb o e=>hx b o (v9 (w5 e)) e;exact h pins _ σ H xs _ Q I1 (by simpa using rv) hw
noncomputable def PH(to ti:TE)(t:LX):TG:=λv σ H Q=>to σ H λo H1=>ti σ H1 λi H2=>t o i v H2 λH3=>Q σ H3
def FM{o i:Expr}{to ti:TE}{t:LX}(ho:PE X o to)(hi:PE X i ti)(hs:M4 X t)(ha:∀v,assign (.Subscript o i pos) X.env v=(do
 let ov <- holding [v] (eval o X.env);let iv <- holding [v,ov] (eval i X.env)
 standAt pos
 holding [v,ov,iv] (setItem ov iv v)
 release [v,ov,iv] []):=by intro _;rfl):PG X (.Subscript o i pos) (PH to ti t):=by
 intro pins s σ H v u Q I r h;refine z8 (qJ (thn (ho pins s σ H _ I h) λov s1 ⟨x,H1,I1,r1,q1⟩=>?_));refine z8 (qJ (thn (hi pins s1 σ H1 _ I1 q1) λiv s2 ⟨y,H2,I2,r2,q2⟩=>?_));refine z8 (iF (z8 (qJ (thn (hs pins s2 σ H2 x y v ov iv u _ I2 r1 r2 r q2) λ_ s3 ⟨H3,I3,q3⟩=>?_))));exact wpAny_release ⟨σ,H3,I3,q3⟩
def P8(te:TE)(g:TG):TS:=λD σ H=>te σ H λx H1=>g x σ H1 D.nx
def oy{tg e:Expr}{te:TE}{g:TG}(he:PE X e te)(hg:PG X tg g)(hs:swapsWithSole [tg] e pos.line X.env=pure false:=by rfl)(hw:swappedStores [tg] e X.env=pure none:=by rfl)(h1:(assignEach [tg] X.env).map (·.2)=[assign tg X.env]:=by rfl):PS X (.Assign [tg] e pos) (P8 te g):=by
 intro pins s σ H D I h;refine wpAny_Assign_stores (thn (he pins s σ H _ I h) λv s1 ⟨x,H1,I1,r1,q1⟩=>?_) hs hw;rw[h1];exact thn (hg pins s1 σ H1 x v _ I1 r1 q1) λ_ s2 q=>q
noncomputable def O3(i j:Nat)(ta:TA):TS:=λD σ H=>ta σ H λvs H1=>∃v w,vs=[v,w]/\D.nx ((σ.set i (some v)).set j (some w)) H1
def Lu{a b:Expr}{ta:TA}{px pt:Pos} {kt k2 pt2} (hc:X.calm=true) (hN:X.N.Nodup) (hi:X.N[i]?=some x) (hj:X.N[j]?=some y) (hij:i≠j)
 (hx:X.env.scope.names.lookup x=some .local) (hy:X.env.scope.names.lookup y=some .local) (ha:PA X [a,b] ta)
 (hw:swappedStores [.Tuple [.Name x px,.Name y py] kt pt] (.Tuple [a,b] k2 pt2) X.env=pure (some [x,y]))
 (hs:swapsWithSole [.Tuple [.Name x px,.Name y py] kt pt] (.Tuple [a,b] k2 pt2) pos.line X.env=pure false:=by rfl) :
  PS X (.Assign [.Tuple [.Name x px,.Name y py] kt pt] (.Tuple [a,b] k2 pt2) pos) (O3 i j ta):=by
 intro pins s σ H D I h;refine z8 (iF ?_);refine z8 (zc ?_);refine z8 (Tuple_ (thn (ha _ pins s σ H _ I h) λus s1 ⟨vs,H1,I1,r1,q1⟩=>?_));obtain⟨v,w,e1,q1⟩:=q1;subst e1;obtain⟨u1,u2,rfl,rv,rw'⟩:∃u1 u2,us=[u1,u2]/\RelV v u1/\RelV w u2:=by
  cases r1 with
  |cons p q=>
   cases q with
   |cons p' q'=>cases q';exact⟨_,_,rfl,p,p'⟩
 refine oT ?_ (by show 2<=sizeLine;decide);have I2:Inv X pins σ H1 { s1 with heap:=s1.heap.push { cls:=.type "tuple",data:=.seq [u1,u2].toArray } }:=I1.kept λb o e=>w9 _ e;rw[hw];refine z8 (zc ?_);refine z8 (wpAny_rule (z8 (unpackItems_tuple (items:=#[u1,u2]) (I.ok.hd hc) (lH s1.heap _) λh' hx'=>?_)));have I3:=I2.kept (t':=s1.toks) λb o e=>hx' b o (v9 (w5 e)) e;refine z8 (ZD (Z4 (mK I3 hN hj (.inl hy) rw' (λs2 I4=>?_) (.inr hy))));refine ZD (Z4 (mK I4 hN hi (.inl hx) rv (λs3 I5=>assignInOrder_nil (zc ?_)) (.inr hx)));rw[List.set_comm _ _ (uo hij)]at I5;exact⟨_,H1,I5,q1⟩
end
structure It where
 go:Nat->Hp->Prop
 yld:Nat->Hp->V->Hp->Prop
 stop:Nat->Hp->Prop
noncomputable def qe(X:Cx)(pins:List (Addr×Obj))(H:Hp)(b:Addr):Prop:=
 H b=none/\b≠X.env.locals/\b∉X.fs/\(b∈X.ex\/X.s₀.heap.objs.size<=b)/\(∀x c,X.env.cells.lookup x=some c->c≠b)/\∀p∈X.pn++pins,p.1≠b
def Inv.fpOk{b:Addr}(I:Inv X pins σ H s)(hb:s.heap.objs.size<=b)(hn:H' b=none):qe X pins H' b:=by
 refine⟨hn,mC (uf I.lt hb),I.nofs hb,.inr (wt I.sz hb),λx c e z=>?_,λp hp z=>?_⟩;·obtain⟨v,q⟩:=I.cell x c e;exact absurd (uf q.lt (by rw[z];exact hb)) (l6 _)
 ·exact absurd (uf (w5 (I.pin p hp).1) (by rw[z];exact hb)) (l6 _)
structure Turn(P:Program)(w:World)(K:W.Frag)(tg:Expr)(J:It)(fp:List Addr)(it:Addr)(tn:Nat->Heap->Prop):Prop where
 mem:it∈fp
 obj:∀i h,tn i h->∀b∈fp,∃o,h.get? b=some o/\∀v,o.data≠.cell v
 keep:∀i h h',tn i h->(∀b∈fp,∀o,h.get? b=some o->h'.get? b=some o)->tn i h'
 item:∀(X:Cx),X.prog=P->X.w=w->X.K=K->X.calm=true->∀(i:Nat)(pins:List (Addr×Obj))(s:Shared)(σ:St)(H:Hp)(E:Value->Shared->Prop),Inv X pins σ H s->(∀b∈fp,qe X pins H b)->tn i s.heap->J.go i H->
  wpAny (model P w) X.A (pyNext (.ref it)) (λr s1=>∃u,r=some u/\
   wpAny (model P w) X.A (letOwnedTupleGo tg (.ref it) u) (λ_ s2=>∃x H',Inv X pins σ H' s2/\RelV x u/\J.yld i H x H'/\tn (i+1) s2.heap/\∀b∈fp,H' b=none) E s1) E s
 done:∀(X:Cx),X.prog=P->X.w=w->X.K=K->X.calm=true->∀(i:Nat)(pins:List (Addr×Obj))(s:Shared)(σ:St)(H:Hp)(E:Value->Shared->Prop),Inv X pins σ H s->(∀b∈fp,qe X pins H b)->tn i s.heap->J.stop i H->
  wpAny (model P w) X.A (pyNext (.ref it)) (λr s1=>r=none/\Inv X pins σ H s1) E s
 self:∀(A:Around)(i:Nat)(s:Shared)(Q:Value->Shared->Prop)(E:Value->Shared->Prop),tn i s.heap->Q (.ref it) s->wpAny (model P w) A (pyIter (.ref it)) Q E s
abbrev TI:=St->Hp->(It->Hp->Prop)->Prop
noncomputable def PIE(X:Cx)(pins:List (Addr×Obj))(σ:St)(tg:Expr)(R:It->Hp->Prop)(itv:Value)(s2:Shared):Prop:=
 ∃(it:Addr)(fp:List Addr)(tn:Nat->Heap->Prop)(J:It)(H':Hp),itv=.ref it/\Inv X pins σ H' s2/\Turn X.prog X.w X.K tg J fp it tn/\tn 0 s2.heap/\(∀b∈fp,qe X pins H' b)/\R J H'
noncomputable def PI(X:Cx)(tg iter:Expr)(wi:TI):Prop:=
 ∀(pins:List (Addr×Obj))(s:Shared)(σ:St)(H:Hp)(R:It->Hp->Prop),Inv X pins σ H s->wi σ H R->
  wpAny (model X.prog X.w) X.A (eval iter X.env) (λv s1=>wpAny (model X.prog X.w) X.A (pyIter v) (PIE X pins σ tg R) X.xe s1) X.xe s
def Bq{M : Model}{A : Around}{tg : Expr}{o : Obj}{n : String}{vs : Array Value}{Q : Unit -> Shared -> Prop}(ho : s.heap.get? it = some o)(hc : o.cls = .type n)(hd : o.data = .fields vs)(hn : ["enumerate", "zip", "dict_itemiterator", "dict_reverseitemiterator", "odict_iterator", "itertools.zip_longest", "itertools.pairwise"].contains n = false)(hQ : Q () s): wpAny M A (letOwnedTupleGo tg (.ref it) u) Q E s := by
  cases tg <;> first
    |exact zc hQ
    | (cases u <;> first
        |exact zc hQ
        | (refine z8 (wpAny_load ho ?_)
           rw[hc, hd];show wpAny M A (if (["enumerate", "zip", "dict_itemiterator", "dict_reverseitemiterator", "odict_iterator", "itertools.zip_longest", "itertools.pairwise"].contains n && vs[0]? == some (rawInt _)) = true then _ else _) Q E s;rw[if_neg (by intro h; rw[hn, Z5]at h; cases h)];exact zc hQ))

noncomputable def Itl(K:W.Frag)(a:Addr):It:=
 ⟨λi H=>∃xs x,SqL K H a xs/\xs[i]?=some x,λi H x H'=>H'=H/\∀xs,SqL K H a xs->xs[i]?=some x,λi H=>∃xs,SqL K H a xs/\xs.length<=i⟩
noncomputable def Itt(K:W.Frag)(a:Addr):It:=
 ⟨λi H=>∃xs x,SqT K H a xs/\xs[i]?=some x,λi H x H'=>H'=H/\∀xs,SqT K H a xs->xs[i]?=some x,λi H=>∃xs,SqT K H a xs/\xs.length<=i⟩
noncomputable def Itr(lo:Int)(n:Nat):It:=⟨λi _=>i<n,λi H x H'=>H'=H/\x=.int (lo+i),λi _=>n<=i⟩
def AE{w:World}{K:W.Frag}{tg:Expr}(a it:Addr):Turn P w K tg (Itl K a) [it] it (λi h=>h.IsListIter it a i) where
 mem:=by simp
 obj:=λi h st b hb=>by
  have e:b=it:=by simpa using hb
  subst e;obtain⟨o,e,c,d⟩:=st;exact⟨o,e,λv z=>by rw[d]at z;cases z⟩
 keep:=λi h h' st k=>st.at λo e=>k it (by simp) o e
 item:=by intro X hP hw hK hc i pins s σ H E I hf st hg;subst hP hw hK;obtain⟨xs,x,hq,hx⟩:=hg;obtain⟨its,rv,p,hz⟩:=I.list hq;obtain⟨u,hu,ru⟩:=rv.get hx;obtain⟨f0,f1,f2,f3,f4,f5⟩:=hf it (by simp);refine wpAny_pyNext_list_item st p.isList (by simpa using hu) λh' st' sb=>?_;have I1:Inv X pins σ H { s with heap:=h' }:=I.turned (λb o hb e=>(sb.2 b hb).trans e) f0 f1 f3 f4 f5;obtain⟨o,e,c,d⟩:=id st';exact⟨u,rfl,Bq e c d (by decide) ⟨x,H,I1,ru,⟨rfl,λys hy=>by rw[I.list_inj hy hq];exact hx⟩,st',λb hb=>(hf b hb).1⟩⟩
 done:=by intro X hP hw hK hc i pins s σ H E I hf st hg;subst hP hw hK;obtain⟨xs,hq,hx⟩:=hg;obtain⟨its,rv,p,hz⟩:=I.list hq;obtain⟨f0,f1,f2,f3,f4,f5⟩:=hf it (by simp);have hl:=rv.length;exact wpAny_pyNext_list_end (I.ok.hd hc) st p.isList (by simp;omega) λh' eb=>⟨rfl,I.turned (λb o hb e=>eb b o hb e) f0 f1 f3 f4 f5⟩
 self:=λ_ _ _ _ _ st h=>wpAny_pyIter_listiter st h
def zv{w:World}{K:W.Frag}{tg:Expr}(a it:Addr):Turn P w K tg (Itt K a) [it] it (λi h=>h.IsTupleIter it a i) where
 mem:=by simp
 obj:=λi h st b hb=>by
  have e:b=it:=by simpa using hb
  subst e;obtain⟨o,e,c,d⟩:=st;exact⟨o,e,λv z=>by rw[d]at z;cases z⟩
 keep:=λi h h' st k=>st.at λo e=>k it (by simp) o e
 item:=by intro X hP hw hK hc i pins s σ H E I hf st hg;subst hP hw hK;obtain⟨xs,x,hq,hx⟩:=hg;obtain⟨its,rv,p,hz⟩:=I.tuple hq;obtain⟨u,hu,ru⟩:=rv.get hx;obtain⟨f0,f1,f2,f3,f4,f5⟩:=hf it (by simp);refine wpAny_pyNext_tuple_item st (show s.heap.IsTuple a its.toArray from p) (by simpa using hu) λh' st' sb=>?_;have I1:Inv X pins σ H { s with heap:=h' }:=I.turned (λb o hb e=>(sb.2 b hb).trans e) f0 f1 f3 f4 f5;obtain⟨o,e,c,d⟩:=id st';exact⟨u,rfl,Bq e c d (by decide) ⟨x,H,I1,ru,⟨rfl,λys hy=>by rw[I.tuple_inj hy hq];exact hx⟩,st',λb hb=>(hf b hb).1⟩⟩
 done:=by intro X hP hw hK hc i pins s σ H E I hf st hg;subst hP hw hK;obtain⟨xs,hq,hx⟩:=hg;obtain⟨its,rv,p,hz⟩:=I.tuple hq;obtain⟨f0,f1,f2,f3,f4,f5⟩:=hf it (by simp);have hl:=rv.length;exact wpAny_pyNext_tuple_end (I.ok.hd hc) st (show s.heap.IsTuple a its.toArray from p) (by simp;omega) λh' eb=>⟨rfl,I.turned (λb o hb e=>eb b o hb e) f0 f1 f3 f4 f5⟩
 self:=λ_ _ _ _ _ st h=>wpAny_pyIter_tupleiter st h
def yP{w:World}{K:W.Frag}{tg:Expr}(it:Addr)(lo:Int)(n:Nat):Turn P w K tg (Itr lo n) [it] it (λi h=>IsRangeIter h it (lo+(i:Nat) * 1) ((n:Int) - (i:Nat)) 1) where
 mem:=by simp
 obj:=λi h st b hb=>by
  have e:b=it:=by simpa using hb
  subst e;exact⟨_,st,λv z=>by have z':=z;cases z'⟩
 keep:=λi h h' st k=>k it (by simp) _ st
 item:=by intro X hP hw hK hc i pins s σ H E I hf st hg;subst hP hw hK;obtain⟨f0,f1,f2,f3,f4,f5⟩:=hf it (by simp);have W:=Walks.range (prog:=X.prog) (w:=X.w) (I.ok.hd hc) it lo 1 n;refine W.item i s _ _ hg st λv h' tk hv st' kk=>?_;obtain⟨t,rfl⟩:=hv;have I1:Inv X pins σ H { s with heap:=h',toks:=tk }:=I.turned (λb o hb e=>kk b o (by simpa using hb) e) f0 f1 f3 f4 f5;refine⟨_,rfl,Bq st' rfl rfl (by decide) ⟨.int (lo+i),H,I1,⟨t,?_⟩,⟨rfl,rfl⟩,st',λb hb=>(hf b hb).1⟩⟩;rw[Int.mul_one]
 done:=by intro X hP hw hK hc i pins s σ H E I hf st hg;obtain⟨f0,f1,f2,f3,f4,f5⟩:=hf it (by simp);exact wpAny_pyNext_range_end (I.ok.hd hc) st (by have:n<=i:=hg;omega) λh' eb=>⟨rfl,I.turned (λb o hb e=>eb b o hb e) f0 f1 f3 f4 f5⟩
 self:=λ_ _ _ _ _ st h=>wpAny_pyIter_rangeiter st h
section
variable{tg:Expr}
def xN{R:It->Hp->Prop}{lo hi:Int}{t u v:Tok}{tk:Nat}(I:Inv X pins σ H s)(h1 : -(2 ^ 62)<=lo)(h2:lo<2 ^ 62)(h3 : -(2 ^ 62)<=hi)(h4:hi<2 ^ 62)(q:R (Itr lo (hi - lo).toNat) H):wpAny (model X.prog X.w) X.A (pyIter (.ref s.heap.objs.size)) (PIE X pins σ tg R) E { s with heap:=s.heap.push { cls:=.type "range",data:=.fields #[.int lo t,.int hi u,.int 1 v] },toks:=tk }:=by
 refine wpAny_pyIter_range (IsRange.new ..) (small_one h1 h2 h3 h4) ?_;have I1:Inv X pins σ H { s with heap:=s.heap.push { cls:=.type "range",data:=.fields #[.int lo t,.int hi u,.int 1 v] },toks:=tk }:=I.kept λb o e=>w9 _ e;refine⟨(s.heap.push { cls:=.type "range",data:=.fields #[.int lo t,.int hi u,.int 1 v] }).objs.size,[(s.heap.push { cls:=.type "range",data:=.fields #[.int lo t,.int hi u,.int 1 v] }).objs.size],_,_,H,rfl,
  I1.kept λb o e=>w9 _ e,yP _ lo (hi - lo).toNat,?_,λb hb=>?_,q⟩
 ·have e1:lo+((0:Nat):Int) * 1=lo:=by simp
  have e2:(((hi - lo).toNat:Nat):Int) - ((0:Nat):Int)=Builtin.Range.rangeSize lo hi 1:=by rw[rangeSize_one];split <;> omega
  rw[e1,e2];exact v7 _ rfl
 ·have e:b=(s.heap.push { cls:=.type "range",data:=.fields #[.int lo t,.int hi u,.int 1 v] }).objs.size:=by simpa using hb
  subst e;exact I1.fpOk (z9 _) (I1.hok.fresh (z9 _))
noncomputable def ML(ta:TA):TI:=λσ H R=>ta σ H λvs H1=>∃j:Int,vs=[.int j]/\-(2 ^ 62)<=j/\j<2 ^ 62/\R (Itr 0 j.toNat) H1
noncomputable def NF(ta:TA):TI:=λσ H R=>ta σ H λvs H1=>∃i j:Int,vs=[.int i,.int j]/\(-(2 ^ 62)<=i/\i<2 ^ 62/\-(2 ^ 62)<=j/\j<2 ^ 62)/\R (Itr i (j - i).toNat) H1
def Bu{a:Expr}{ta:TA}(hg:Gl X "range")(hm:X.mg "range"=none)(ha:PA X [a] ta)(hs:starEach [a] X.env=[(false,eval a X.env)]:=by rfl):PI X tg (.Call (.Name "range" p) [a] [] pos) (ML ta):=by
 intro pins s σ H R I h;refine Call_ (oS I hg hm boot_range (callWith_type1 (thn (ha pos pins s σ H _ I h) λus s1 ⟨vs,H1,I1,r1,q1⟩=>?_) hs rfl));obtain⟨j,e,q1,q2,q⟩:=q1;subst e;cases r1 with
 |cons r rr=>cases rr;obtain⟨t,rfl⟩:=r;exact call_range_1 (xN I1 (by omega) (by omega) q1 q2 (by simpa using q))
def A8{a b:Expr}{ta:TA}(hg:Gl X "range")(hm:X.mg "range"=none)(ha:PA X [a,b] ta)(hs:starEach [a,b] X.env=[(false,eval a X.env),(false,eval b X.env)]:=by rfl)(hs2:starEach [b] X.env=[(false,eval b X.env)]:=by rfl):
  PI X tg (.Call (.Name "range" p) [a,b] [] pos) (NF ta):=by
 intro pins s σ H R I h;refine Call_ (oS I hg hm boot_range (callWith_type1 (thn (ha pos pins s σ H _ I h) λus s1 ⟨vs,H1,I1,r1,q1⟩=>?_) (by rw[hs,hs2]) (by rw[hs2];rfl)));obtain⟨i,j,e,⟨q1,q2,q3,q4⟩,q⟩:=q1;subst e;cases r1 with
 |cons r rr=>
  cases rr with
  |cons r' rr=>cases rr;obtain⟨t,rfl⟩:=r;obtain⟨t',rfl⟩:=r';exact call_range_2 (xN I1 q1 q2 q3 q4 q)
noncomputable def Pk(wi:TI)(g:TG)(tb:TS):TS:=λD σ H=>wi σ H λJ H1=>∃W:Nat->Nat->St->Hp->Prop,(∃m,W 0 m σ H1)/\∀i m σ H,W i m σ H->
 (J.stop i H/\D.nx σ H)\/(J.go i H/\∃N:St->Hp->Prop,(∀σ' H',N σ' H'->∃m',m'<m/\W (i+1) m' σ' H')/\∀x H',J.yld i H x H'->g x σ H' λσ2 H2=>tb { D with nx:=N,ct:=N,bk:=D.nx } σ2 H2)
noncomputable def td(fp:List Addr)(h:Heap):List (Addr×Obj):=fp.filterMap λb=>(h.get? b).map λo=>(b,o)
def lJ{b:Addr}{o:Obj}(hb:b∈fp)(e:h.get? b=some o):(b,o)∈td fp h:=l7.mpr ⟨b,hb,by rw[e];rfl⟩
def Cw{p:Addr×Obj}(hp:p∈td fp h):p.1∈fp/\h.get? p.1=some p.2:=by
 obtain⟨b,hb,e⟩:=l7.mp hp;cases q:h.get? b with
 |none=>rw[q]at e;cases e
 |some o=>rw[q]at e;have e':=wq e;subst e';exact⟨hb,q⟩
def Inv.pinned(I:Inv X pins σ H s)(hf:∀b∈fp,qe X pins H b)(ho:∀b∈fp,∃o,s.heap.get? b=some o/\∀v,o.data≠.cell v):Inv X (pins++td fp s.heap) σ H s:=
 I.pins_of λp hp=>(uF.mp hp).elim (λz=>I.pin p (n0 _ z)) λz=>by obtain⟨hb,e⟩:=Cw z;obtain⟨f0,f1,f2,_⟩:=hf p.1 hb;obtain⟨o,e',d⟩:=ho p.1 hb;rw[e]at e';cases e';exact⟨e,f0,f1,f2,d⟩
def Inv.unpinned{pl:List (Addr×Obj)}(I:Inv X (pins++pl) σ H s):Inv X pins σ H s:=I.pins_of λp hp=>I.pin p (n0 _ (my _ hp))
def E9{body:List Stmt}{wi:TI}{g:TG}{tb:TS}(hp:PassesOwn (model X.prog X.w) X.A X.env X.xe)(hc:X.calm=true)(hi:PI X tg iter wi)(hg:PG X tg g)(hb:PSs X body tb)(hs:∀x,foldedSetIterable iter X.env x=pure x:=by intro _;rfl):PS X (.For tg iter body [] pos) (Pk wi g tb):=by
 intro pins s σ H D I h;refine wpAny_For (thn (hi pins s σ H _ I h) λv s1 h1=>thn h1 λitv s2 h2=>?_) hs;obtain⟨it,fp,tn,J,H2,e,I2,T,st2,f2,W,⟨m0,w0⟩,turn⟩:=h2;subst e;have stat:∀{H':Hp},(∀b∈fp,H' b=none)->∀b∈fp,qe X pins H' b:=λhn b hb=>⟨hn b hb,(f2 b hb).2⟩
 refine codeAny_forLoop_any (λn s'=>∃i σ' H',Inv X pins σ' H' s'/\tn i s'.heap/\(∀b∈fp,H' b=none)/\W i n σ' H') ?_ m0 ⟨0,σ,H2,I2,st2,λb hb=>(f2 b hb).1,w0⟩;rintro n s3 ⟨i,σ3,H3,I3,st3,fr3,w3⟩;rcases turn i n σ3 H3 w3 with⟨stop,qn⟩|⟨go,N,hN,step⟩
 ·refine iN hp (thn (T.done X rfl rfl rfl hc i pins s3 σ3 H3 X.xe I3 (stat fr3) st3 stop) λr s4 ⟨hr,I4⟩=>?_);subst hr;exact ZC ⟨σ3,H3,I4,qn⟩
 ·refine iN hp (thn (T.item X rfl rfl rfl hc i pins s3 σ3 H3 X.xe I3 (stat fr3) st3 go) λr s4 ⟨u,hr,h4⟩=>?_);subst hr;refine iN hp (thn h4 λ_ s5 ⟨x,H5,I5,r5,y5,st5,fr5⟩=>?_);have I5':=I5.pinned (stat fr5) (T.obj _ _ st5);refine iN hp (thn (hg _ s5 σ3 H5 x u _ I5' r5 (step x H5 y5)) λ_ s6 ⟨σ6,H6,I6,q6⟩=>?_);refine iN hp (thn (hb _ s6 σ6 H6 _ I6 q6) λf s7 q7=>?_);have again:∀{σ7:St}{H7:Hp},Inv X (pins++td fp s5.heap) σ7 H7 s7->N σ7 H7->∃m,m<n/\∃i σ' H',Inv X pins σ' H' s7/\tn i s7.heap/\(∀b∈fp,H' b=none)/\W i m σ' H':=λ{σ7 H7} I7 n7=>by obtain⟨m',hm,w7⟩:=hN σ7 H7 n7;refine⟨m',hm,i+1,σ7,H7,I7.unpinned,T.keep _ _ _ st5 λb hb o e=>(I7.pin (b,o) (n0 _ (n0 _ (lJ hb e)))).1,λb hb=>?_,w7⟩;obtain⟨o,e,d⟩:=T.obj _ _ st5 b hb;exact(I7.pin (b,o) (n0 _ (n0 _ (lJ hb e)))).2.1
  cases f with
  |next=>obtain⟨σ7,H7,I7,n7⟩:=q7;exact again I7 n7
  |cont=>obtain⟨σ7,H7,I7,n7⟩:=q7;exact again I7 n7
  |brk=>obtain⟨σ7,H7,I7,q7⟩:=q7;exact⟨σ7,H7,I7.unpinned,q7⟩
  |ret v=>obtain⟨x7,σ7,H7,I7,r7,q7⟩:=q7;exact⟨x7,σ7,H7,I7.unpinned,r7,q7⟩
end
abbrev R2:=V->V->Hp->VK->Prop
noncomputable def OpR(X:Cx)(f:Value->Value->Sem Value)(r:R2):Prop:=
 ∀(pins:List (Addr×Obj))(s:Shared)(σ:St)(H:Hp)(x y:V)(v u:Value)(Q:VK),Inv X pins σ H s->RelV x v->RelV y u->r x y H Q->
  wpAny (model X.prog X.w) X.A (f v u) (EP X pins σ Q) X.xe s
noncomputable def UnR(X:Cx)(f:Value->Sem Value)(r:V->Hp->VK->Prop):Prop:=
 ∀(pins:List (Addr×Obj))(s:Shared)(σ:St)(H:Hp)(x:V)(v:Value)(Q:VK),Inv X pins σ H s->RelV x v->r x H Q->
  wpAny (model X.prog X.w) X.A (f v) (EP X pins σ Q) X.xe s
noncomputable def lC(X:Cx)(f:Value)(r:List V->Hp->VK->Prop):Prop:=
 ∀(pins:List (Addr×Obj))(s:Shared)(σ:St)(H:Hp)(xs:List V)(us:List Value)(Q:VK),Inv X pins σ H s->Vals xs us->r xs H Q->
  wpAny (model X.prog X.w) X.A (call f us) (EP X pins σ Q) X.xe s
noncomputable def Qa(X:Cx)(r:V->Hp->(Bool->Hp->Prop)->Prop):Prop:=
 ∀(pins:List (Addr×Obj))(s:Shared)(σ:St)(H:Hp)(x:V)(v:Value)(Q:Bool->Hp->Prop),Inv X pins σ H s->RelV x v->r x H Q->
  wpAny (model X.prog X.w) X.A (truthy v) (TP X pins σ Q) X.xe s
noncomputable def tOp(r:R2)(ta tb:TE):TE:=λσ H Q=>ta σ H λx H1=>tb σ H1 λy H2=>r x y H2 Q
noncomputable def tUn(r:V->Hp->VK->Prop)(ta:TE):TE:=λσ H Q=>ta σ H λx H1=>r x H1 Q
noncomputable def rI(C:Int->Int->Prop)(g:Int->Int->V):R2:=λx y H Q=>∃i j,x=.int i/\y=.int j/\C i j/\Q (g i j) H
noncomputable def rI0(g:Int->Int->V):R2:=λx y H Q=>∃i j,x=.int i/\y=.int j/\Q (g i j) H
def rU(g:Int->V):V->Hp->VK->Prop:=λx H Q=>∃i,x=.int i/\Q (g i) H
section
variable{a b c:Expr}{ta tb tc:TE}
def Mi(ha:PE X a ta)(hb:PE X b tb){R:V->V->Hp->Prop}(I:Inv X pins σ H s)(h:ta σ H λx H1=>tb σ H1 λy H2=>R x y H2){Q:Value->Shared->Prop}{f:Value->Value->Sem Value}(hf:∀v u s2 x y H2,Inv X pins σ H2 s2->RelV x v->RelV y u->R x y H2->wpAny (model X.prog X.w) X.A (f v u) Q X.xe s2):
  wpAny (model X.prog X.w) X.A (eval a X.env) (λv s₁=>wpAny (model X.prog X.w) X.A (eval b X.env) (λu s₂=>wpAny (model X.prog X.w) X.A (f v u) Q X.xe s₂) X.xe s₁) X.xe s:=by
 refine thn (ha pins s σ H _ I h) λv s1 ⟨x,H1,I1,r1,q1⟩=>?_;refine thn (hb pins s1 σ H1 _ I1 q1) λu s2 ⟨y,H2,I2,r2,q2⟩=>?_;exact hf v u s2 x y H2 I2 r1 r2 q2
def MC{op:Operator}{r:R2}(ho:OpR X (binaryOp op) r)(ha:PE X a ta)(hb:PE X b tb):PE X (.BinOp a op b pos) (tOp r ta tb):=by intro pins s σ H Q I h;exact wpAny_BinOp (Mi ha hb I h λv u s2 x y H2 I2 rx ry q=>ho pins s2 σ H2 x y v u Q I2 rx ry q)
def Oa{op:UnaryOp}{r:V->Hp->VK->Prop}(ho:UnR X (unaryOp op) r)(ha:PE X a ta):PE X (.UnaryOp op a pos) (tUn r ta):=by intro pins s σ H Q I h;exact UnaryOp_ (thn (ha pins s σ H _ I h) λv s1 ⟨x,H1,I1,r1,q1⟩=>ho pins s1 σ H1 x v Q I1 r1 q1)
def opI{f:Value->Value->Sem Value}{C:Int->Int->Prop}{g:Int->Int->Int}(rule:∀(i j:Int)(t u:Tok)(s:Shared)(Q:Value->Shared->Prop)(E:Value->Shared->Prop),C i j->Q (.int (g i j) s.toks) { s with toks:=s.toks+1 }->wpAny (model X.prog X.w) X.A (f (.int i t) (.int j u)) Q E s):
  OpR X f (rI C λi j=>.int (g i j)):=by
 intro pins s σ H x y v u Q I rx ry h;obtain⟨i,j,rfl,rfl,hc,q⟩:=h;obtain⟨t,rfl⟩:=rx;obtain⟨t',rfl⟩:=ry;exact rule i j t t' s _ _ hc ⟨.int (g i j),H,I.tok _,⟨_,rfl⟩,q⟩
def OL{f:Value->Value->Sem Value}{g:Int->Int->Int}(rule:∀(i j:Int)(t u:Tok)(s:Shared)(Q:Value->Shared->Prop)(E:Value->Shared->Prop),Q (.int (g i j) s.toks) { s with toks:=s.toks+1 }->wpAny (model X.prog X.w) X.A (f (.int i t) (.int j u)) Q E s):
  OpR X f (rI0 λi j=>.int (g i j)):=by
 intro pins s σ H x y v u Q I rx ry h;obtain⟨i,j,rfl,rfl,q⟩:=h;obtain⟨t,rfl⟩:=rx;obtain⟨t',rfl⟩:=ry;exact rule i j t t' s _ _ ⟨.int (g i j),H,I.tok _,⟨_,rfl⟩,q⟩
def LZ{f:Value->Value->Sem Value}{g:Int->Int->Bool}(rule:∀(i j:Int)(t u:Tok)(s:Shared)(Q:Value->Shared->Prop)(E:Value->Shared->Prop),Q (.bool (g i j)) s->wpAny (model X.prog X.w) X.A (f (.int i t) (.int j u)) Q E s):
  OpR X f (rI0 λi j=>.bl (g i j)):=by
 intro pins s σ H x y v u Q I rx ry h;obtain⟨i,j,rfl,rfl,q⟩:=h;obtain⟨t,rfl⟩:=rx;obtain⟨t',rfl⟩:=ry;exact rule i j t t' s _ _ ⟨.bl (g i j),H,I,rfl,q⟩
def PL(i j:Int):Prop:=0<j/\j<1073741824
def CMul(i j:Int):Prop:=(-(2 ^ 64)<i/\i<2 ^ 64)\/(-(2 ^ 64)<j/\j<2 ^ 64)
def CMul.ok{i j:Int}(h:CMul i j):IntMulOk i j:=by
 rcases h with⟨h1,h2⟩|⟨h1,h2⟩;·exact .of_left (intBits_le_64 h1 h2)
 ·exact .of_right (intBits_le_64 h1 h2)
def op_add:OpR X (binaryOp .Add) (rI0 λi j=>.int (i+j)):=OL λ_ _ _ _ _ _ _ q=>add_int q
def IL:OpR X (binaryOp .Sub) (rI0 λi j=>.int (i - j)):=OL λ_ _ _ _ _ _ _ q=>sub_int q
def op_mul:OpR X (binaryOp .Mult) (rI CMul λi j=>.int (i * j)):=opI λ_ _ _ _ _ _ _ hc q=>mul_int q hc.ok
def Ih:OpR X (binaryOp .FloorDiv) (rI PL λi j=>.int (i / j)):=opI λi j _ _ _ _ _ hc q=>by have h1:=hc.1;have h2:=hc.2;exact floordiv_int (by omega) (by rw[Int.fdiv_eq_ediv_of_nonneg i (by omega)];exact q) (.inl (PyProof.noPylong_small (by omega)))
def Lk:OpR X (binaryOp .Mod) (rI (λ_ j=>0<j) λi j=>.int (i % j)):=opI λi j _ _ _ _ _ hc q=>by exact mod_int' (by omega) (by rw[Int.fmod_eq_emod_of_nonneg i (by omega)];exact q)
def unI{f:Value->Sem Value}{g:Int->Int}(rule:∀(i:Int)(t:Tok)(s:Shared)(Q:Value->Shared->Prop)(E:Value->Shared->Prop),Q (.int (g i) s.toks) { s with toks:=s.toks+1 }->wpAny (model X.prog X.w) X.A (f (.int i t)) Q E s):
  UnR X f (rU λi=>.int (g i)):=by
 intro pins s σ H x v Q I rx h;obtain⟨i,rfl,q⟩:=h;obtain⟨t,rfl⟩:=rx;exact rule i t s _ _ ⟨.int (g i),H,I.tok _,⟨_,rfl⟩,q⟩
def Kn:UnR X (unaryOp .USub) (rU λi=>.int (-i)):=unI λ_ _ _ _ _ q=>neg_int q
end
section
variable{a b c:Expr}{ta tb tc:TE}
def zW{Q:VK}{k k':Bool}(I:Inv X pins σ H s)(q:Q (.bl k) H)(e:k=k'):EP X pins σ Q (.bool k') s:=by subst e;exact⟨.bl k,H,I,rfl,q⟩
def op_lt:OpR X (compareOp .Lt) (rI0 λi j=>.bl (decide (i<j))):=LZ λ_ _ _ _ _ _ _ q=>lt_int q
def op_le:OpR X (compareOp .LtE) (rI0 λi j=>.bl (decide (i<=j))):=LZ λ_ _ _ _ _ _ _ q=>le_int q
def Nh:OpR X (compareOp .Gt) (rI0 λi j=>.bl (decide (j<i))):=LZ λ_ _ _ _ _ _ _ q=>gt_int q
def MN:OpR X (compareOp .GtE) (rI0 λi j=>.bl (decide (j<=i))):=LZ λ_ _ _ _ _ _ _ q=>ge_int q
def Ci:OpR X (compareOp .Lt) (λx y H Q=>∃i j,x=.str i/\y=.str j/\Q (.bl (decide (i.cps.toList<j.cps.toList))) H):=by intro pins s σ H x y v u Q I rx ry h;obtain⟨i,j,rfl,rfl,q⟩:=h;obtain⟨t,rfl⟩:=rx;obtain⟨t',rfl⟩:=ry;exact lt_str (zW I q rfl)
def op_isN:OpR X (compareOp .Is) (λx y H Q=>y=.non/\Q (.bl (decide (x=.non))) H):=by
 intro pins s σ H x y v u Q I rx ry h;obtain⟨rfl,q⟩:=h;cases ry;refine is_none_gen (zW I q ?_);cases x <;> first
  | (cases rx;rfl)
  | (obtain⟨t,rfl⟩:=rx;rfl)
def OpR.or{f:Value->Value->Sem Value}{r r':R2}(h:OpR X f r)(h':OpR X f r'):OpR X f (λx y H Q=>r x y H Q\/r' x y H Q):=by
 intro pins s σ H x y v u Q I rx ry q;rcases q with q|q;·exact h pins s σ H x y v u Q I rx ry q
 ·exact h' pins s σ H x y v u Q I rx ry q
def kW(b:Expr){op:CmpOp}(h:op≠.In:=by decide)(h2:op≠.NotIn:=by decide):behindInMarks op b=false:=by
 have e1:(op==CmpOp.In)=false:=by cases op <;> first|rfl|exact absurd rfl h
 have e2:(op==CmpOp.NotIn)=false:=by cases op <;> first|rfl|exact absurd rfl h2
 cases b <;> simp[behindInMarks,e1,e2]
def GG{op:CmpOp}{r:R2}(ho:OpR X (compareOp op) r)(ha:PE X a ta)(hb:PE X b tb)(hm:behindInMarks op b=false):PE X (.Compare a [op] [b] pos) (tOp r ta tb):=by intro pins s σ H Q I h;exact wpAny_Compare1 (Mi ha hb I h λv u s2 x y H2 I2 rx ry q=>ho pins s2 σ H2 x y v u Q I2 rx ry q) hm
def HZ(t:TE):TT:=λσ H Q=>t σ H λx H'=>∃k,x=.bl k/\Q k H'
def wY{op:CmpOp}{r:R2}(ho:OpR X (compareOp op) r)(ha:PE X a ta)(hb:PE X b tb)(hm:behindInMarks op b=false):PT X (.Compare a [op] [b] pos) (HZ (tOp r ta tb)):=by intro pins s σ H Q I h;refine wpAny_isTrue_Compare1 (thn (ha pins s σ H _ I h) λv s1 ⟨x,H1,I1,r1,q1⟩=>thn (hb pins s1 σ H1 _ I1 q1) λu s2 ⟨y,H2,I2,r2,q2⟩=>thn (ho pins s2 σ H2 x y v u _ I2 r1 r2 q2) λc s3 ⟨z,H3,I3,r3,k,e,q3⟩=>?_) hm;subst e;cases r3;exact oR ⟨H3,I3,q3⟩
noncomputable def FN(r r':R2)(ta tb tc:TE):TE:=λσ H Q=>ta σ H λx H1=>tb σ H1 λy H2=>r x y H2 λz H3=>∃k,z=.bl k/\
 (if k=true then tc σ H3 λw' H4=>r' y w' H4 Q else Q (.bl false) H3)
def DE{op op':CmpOp}{r r':R2}(ho:OpR X (compareOp op) r)(ho':OpR X (compareOp op') r')(ha:PE X a ta)(hb:PE X b tb)(hc:PE X c tc)(hm:lastMarks [op,op'] [b,c]=false:=by with_unfolding_all rfl):PE X (.Compare a [op,op'] [b,c] pos) (FN r r' ta tb tc):=by
 intro pins s σ H Q I h;refine Compare_chain (thn (ha pins s σ H _ I h) λv s1 ⟨x,H1,I1,r1,q1⟩=>chain_link (thn (hb pins s1 σ H1 _ I1 q1) λu s2 ⟨y,H2,I2,r2,q2⟩=>thn (ho pins s2 σ H2 x y v u _ I2 r1 r2 q2) λd s3 ⟨z,H3,I3,r3,k,e,q3⟩=>?_)) hm;subst e;cases r3;refine oR ?_;cases k with
 |false=>exact ite_ff ⟨.bl false,H3,I3,rfl,q3⟩
 |true=>exact ite_tt (chain_last (thn (hc pins s3 σ H3 _ I3 q3) λw' s4 ⟨z',H4,I4,r4,q4⟩=>ho' pins s4 σ H4 y z' u w' Q I4 r2 r4 q4))
def D9{op op':CmpOp}{r r':R2}(ho:OpR X (compareOp op) r)(ho':OpR X (compareOp op') r')(ha:PE X a ta)(hb:PE X b tb)(hc:PE X c tc)(hm:lastMarks [op,op'] [b,c]=false:=by with_unfolding_all rfl):PT X (.Compare a [op,op'] [b,c] pos) (HZ (FN r r' ta tb tc)):=by
 intro pins s σ H Q I h;refine isTrue_chain (thn (ha pins s σ H _ I h) λv s1 ⟨x,H1,I1,r1,q1⟩=>test_link (thn (hb pins s1 σ H1 _ I1 q1) λu s2 ⟨y,H2,I2,r2,q2⟩=>thn (ho pins s2 σ H2 x y v u _ I2 r1 r2 q2) λd s3 ⟨z,H3,I3,r3,k,e,q3⟩=>?_)) hm;subst e;cases r3;refine oR ?_;cases k with
 |false=>obtain⟨k',e',q'⟩:=q3;cases e';exact ite_ff ⟨H3,I3,q'⟩
 |true=>refine ite_tt (test_last (thn (hc pins s3 σ H3 _ I3 q3) λw' s4 ⟨z',H4,I4,r4,q4⟩=>thn (ho' pins s4 σ H4 y z' u w' _ I4 r2 r4 q4) λd' s5 ⟨z2,H5,I5,r5,k2,e2,q5⟩=>?_));subst e2;cases r5;exact oR ⟨H5,I5,q5⟩
noncomputable def OP(K:W.Frag)(x:V)(H:Hp)(k:Bool):Prop:=
 match x with
 |.non=>k=false
 |.bl b=>k=b
 |.int i=>k=(i != 0)
 |.str y=>y.length<=sizeLine/\k=((y.length:Int) != 0)
 |.byt y=>y.size<=sizeLine/\k=((y.size:Int) != 0)
 |.ref p=>(∃xs,SqL K H p xs/\k = !xs.isEmpty)\/(∃xs,SqT K H p xs/\k = !xs.isEmpty)\/∃kvs,H p=some (.dK kvs)/\k = !kvs.isEmpty
 |_=>False
def yK{κ:Type}{kvs:List (κ×V)}{vs:List (κ×Value)}(r:KV kvs vs):(!vs.isEmpty) = !kvs.isEmpty:=by cases r <;> rfl
def qj(r:Vals xs its):(!its.toArray.isEmpty) = !xs.isEmpty:=by cases r <;> simp
def qy:(sizeLine:Nat)<2 ^ 63:=by rw[sizeLine_eq];decide
def LI:Qa X (λx H Q=>∃k,OP X.K x H k/\Q k H):=by
 intro pins s σ H x v Q I rx h;obtain⟨k,e,q⟩:=h;have hl:=qy;have hs:=sizeLine_eq;cases x with
 |non=>cases rx;have e':=e;subst e';exact truthy_none ⟨H,I,q⟩
 |bl b=>cases rx;have e':=e;subst e';exact oR ⟨H,I,q⟩
 |int i=>obtain⟨t,rfl⟩:=rx;have e':=e;subst e';exact PySem.P.truthy_int ⟨H,I,q⟩
 |str y=>obtain⟨t,rfl⟩:=rx;obtain⟨hy,e'⟩:y.length<=sizeLine/\k=((y.length:Int) != 0):=e;subst e';exact PySem.P.truthy_str (by omega) ⟨H,I.tok _,q⟩
 |byt y=>obtain⟨t,rfl⟩:=rx;obtain⟨hy,e'⟩:y.size<=sizeLine/\k=((y.size:Int) != 0):=e;subst e';exact W.truthy_bytes (by omega) ⟨H,I.tok _,q⟩
 |ref p=>
  cases rx;have e':=e;rcases e' with⟨xs,hx,e'⟩|⟨xs,hx,e'⟩|⟨kvs,hx,e'⟩
  ·subst e';obtain⟨its,r,pl,hz⟩:=I.list hx;have hlen:=r.length;exact wpAny_truthy_list pl.isList (by simp only[w8];omega) ⟨H,I.tok _,by rw[qj r];exact q⟩
  ·subst e';obtain⟨its,r,pl,hz⟩:=I.tuple hx;have hlen:=r.length;exact truthy_tuple pl (by simp only[w8];omega) ⟨H,I.tok _,by rw[qj r];exact q⟩
  ·subst e';obtain⟨hz,hS,vs,r,m⟩:kvs.length<=sizeLine/\(p==sysModules)=false/\∃vs,KV kvs vs/\s.heap.DictOf (wF X.prog X.w) p vs:=I.hok p _ hx;have hlen:=ig r;exact wpAny_truthy_dict hS m (by omega) ⟨H,I.tok _,by rw[yK r];exact q⟩
 |_=>exact(show False from e).elim
def DF(ha:PE X a ta)(he:∀whole,isTrue a X.env whole=(do let v <- whole;standAt a.pos;holding [v] (truthy v))):
  PT X a (λσ H Q=>ta σ H λx H'=>∃k,OP X.K x H' k/\Q k H'):=by
 intro pins s σ H Q I h;exact isTrue_plain (thn (ha pins s σ H _ I h) λv s1 ⟨x,H1,I1,r1,q1⟩=>LI pins s1 σ H1 x v Q I1 r1 q1) (he _)
def op_add_str:OpR X (binaryOp .Add) (λx y H Q=>∃i j,x=.str i/\y=.str j/\i.length+j.length<=sizeLine/\Q (.str (i++j)) H):=by intro pins s σ H x y v u Q I rx ry h;obtain⟨i,j,rfl,rfl,hz,q⟩:=h;obtain⟨t,rfl⟩:=rx;obtain⟨t',rfl⟩:=ry;exact add_str (λt' tk=>⟨.str (i++j),H,I.tok _,⟨_,rfl⟩,q⟩) hz
def A2{x:V}(r:Vals [x] us):∃u,us=[u]/\RelV x u:=by
 cases r with
 |cons r1 r2=>cases r2;exact⟨_,rfl,r1⟩
def Du:lC X (.builtin "ord") (λxs H Q=>∃x,xs=[.str x]/\x.length=1/\Q (.int (x.cps.getD 0 0:Nat)) H):=by intro pins s σ H xs us Q I r h;obtain⟨x,rfl,hz,q⟩:=h;obtain⟨u,rfl,t,rfl⟩:=A2 r;exact ord_of_one hz ⟨.int _,H,I.tok _,⟨_,rfl⟩,q⟩
noncomputable def PU(K:W.Frag)(x:V)(H:Hp)(n:Nat):Prop:=
 match x with
 |.str y=>y.length<=sizeLine/\n=y.length
 |.byt y=>y.size<=sizeLine/\n=y.size
 |.ref p=>(∃xs,SqL K H p xs/\n=xs.length)\/∃xs,SqT K H p xs/\n=xs.length
 |_=>False
def CY:lC X (.builtin "len") (λxs H Q=>∃x n,xs=[x]/\PU X.K x H n/\Q (.int n) H):=by
 intro pins s σ H xs us Q I r h;obtain⟨x,n,rfl,e,q⟩:=h;obtain⟨u,rfl,rx⟩:=A2 r;have hs:=sizeLine_eq;cases x with
 |str y=>obtain⟨t,rfl⟩:=rx;obtain⟨hy,e'⟩:y.length<=sizeLine/\n=y.length:=e;subst e';exact len_str (by omega) ⟨.int _,H,I.tok _,⟨_,rfl⟩,q⟩
 |byt y=>obtain⟨t,rfl⟩:=rx;obtain⟨hy,e'⟩:y.size<=sizeLine/\n=y.size:=e;subst e';exact W.len_bytes (by omega) ⟨.int _,H,I.tok _,⟨_,rfl⟩,q⟩
 |ref p=>
  cases rx;have e':=e;rcases e' with⟨xs,hx,e'⟩|⟨xs,hx,e'⟩
  ·subst e';obtain⟨its,r',pl,hz⟩:=I.list hx;have hlen:=r'.length;exact Calls.call_len_list pl.isList (by simp only[w8];omega) ⟨.int xs.length,H,I.tok _,⟨_,by simp only[w8];rw[hlen]⟩,q⟩
  ·subst e';obtain⟨its,r',pl,hz⟩:=I.tuple hx;have hlen:=r'.length;exact len_tuple pl (by simp only[w8];omega) ⟨.int xs.length,H,I.tok _,⟨_,by simp only[w8];rw[hlen]⟩,q⟩
 |_=>exact(show False from e).elim
end
structure ObjM(h:Heap)(x dx C:Addr)(mA:Str->Option Value):Prop where
 obj:h.get? x=some (W.instObj C dx)
 ns:h.Ns1 dx mA
 ne:dx≠x
noncomputable def nh(f:Str)(v:V):List (Str×V)->List (Str×V)
 | []=>[(f,v)]
 | (g,x)::r=>if g=f then (g,v)::r else (g,x)::nh f v r
def RelO.some_of{o:Option Value}(r:RelO (some v) o):∃u,o=some u/\RelV v u:=by
 cases o with
 |none=>exact(show False from r).elim
 |some u=>exact⟨u,rfl,r⟩
structure Cls(K:W.Frag)(C:Addr):Prop where
 pg:W.plainGet K C Str.empty=true
 hd:W.hasDictIn K C=true
 po:W.plainOver K C=true
 sa:W.findIn K (.ref C) "__setattr__"=some (some (.builtin "object.__setattr__"))
def J5(K:W.Frag)(C:Addr)(f:Str):Prop:=W.findIn K (.ref C) f=some none
structure Con(K:W.Frag)(C:Addr)(f:Str)(v:V)(u:Value):Prop where
 at_:W.findIn K (.ref C) f=some (some u)
 rel:RelV v u
 get:W.specialIn K u "__get__"=some none
 cp:W.copiedNames.contains f=false
structure Meth(K:W.Frag)(C:Addr)(m:Str)(f:Addr):Prop where
 at_:W.findIn K (.ref C) m=some (some (.ref f))
 fn:W.isFn K (.ref f)=true
 kp:W.keepIn K (.ref f)=true
section
variable{A:Around}{Q:Value->Shared->Prop}{c:Value}
inductive TyOf(K:W.Frag)(H:Hp):V->Value->Prop where
 |non:TyOf K H .non (.type "NoneType")
 |bl (x:Bool):TyOf K H (.bl x) (.type "bool")
 |int (i:Int):TyOf K H (.int i) (.type "int")
 |str (x:Str):TyOf K H (.str x) (.type "str")
 |flt (x:UInt64):TyOf K H (.flt x) (.type "float")
 |lst {a:Addr} {xs:List V} (e:H a=some (.lst xs)):TyOf K H (.ref a) (.type "list")
 |frz {a:Addr} {o:Obj} {xs:List V} (e:H a=some (.frz o (.lst xs))):TyOf K H (.ref a) (.type "list")
 |tup {a:Addr} {xs:List V} (e:H a=some (.tup xs)):TyOf K H (.ref a) (.type "tuple")
 |dK {a:Addr} {kvs:List (Key×V)} (e:H a=some (.dK kvs)):TyOf K H (.ref a) (.type "dict")
 |dT {a:Addr} {kvs:List (List Key×V)} (e:H a=some (.dT kvs)):TyOf K H (.ref a) (.type "dict")
 |ins {a C dx:Addr} {fs:List (Str×V)} (e:H a=some (.ins C dx fs)) (cl:Cls K C) (ha:W.findIn K (.ref C) "__class__"=some (some (.builtin "object.__class__")))
   (hn:W.specialIn K (.builtin "object.__class__") "__get__"=some (some (.builtin "getset_descriptor.__get__"))) (htk:W.takesIn K (.builtin "object.__class__")=some true)
   (hm:W.mroIn K C (.type "object")=some true):TyOf K H (.ref a) (.ref C)
end
structure Room(k:Nat)(A:Around):Prop where
 hd:A.handled=none
 dp:A.depth+3 * k+5<recursionLimit
 un:A.units+16 * k+200<cLine
def Room.mono{A:Around}(r:Room k A)(h:j<=k):Room j A:=⟨r.hd,by have:=r.dp;omega,by have:=r.un;omega⟩
def Room.deeper{A:Around}(r:Room (k+1) A)(env:Env):Room k (A.deeper env):=
 ⟨r.hd,by have:=r.dp;show A.depth+1+3 * k+5<_;omega,by have:=r.un;show A.units+3+16 * k+200<_;omega⟩
def Room.in1{A:Around}(r:Room (k+1) A):Room k A.in1:=
 ⟨r.hd,by have:=r.dp;show A.depth+3 * k+5<_;omega,by have:=r.un;show A.units+1+16 * k+200<_;omega⟩
def Room.depth{A:Around}(r:Room k A):A.depth<recursionLimit:=by have:=r.dp;omega
def Room.units{A:Around}(r:Room k A):A.units+64<cLine:=by have:=r.un;omega
def Nq:TA:=λ_ H Q=>Q [] H
noncomputable def Ej(ta:TE)(tr:TA):TA:=λσ H Q=>ta σ H λx H1=>tr σ H1 λxs H2=>Q (x::xs) H2
section
variable{e:Expr}{te:TE}{t:TA}
def lx:PA X [] Nq:=λ_ _ _ _ H Q I h=>Calls.spliced_nil ⟨[],H,I,.nil,h⟩
def eW(ha:PE X e te)(hr:PA X es t)(hs:starEach (e::es) X.env=(false,eval e X.env)::starEach es X.env:=by rfl):PA X (e::es) (Ej te t):=by intro pos pins s σ H Q I h;rw[hs];refine Calls.spliced_cons (thn (ha pins s σ H _ I h) λu s1 ⟨x,H1,I1,r1,q1⟩=>?_);exact thn (hr pos pins s1 σ H1 _ I1 q1) λus s2 ⟨xs,H2,I2,r2,q2⟩=>⟨x::xs,H2,I2,.cons r1 r2,q2⟩
noncomputable def OW(t:TA):TE:=λσ H Q=>t σ H λxs H1=>xs.length<=sizeLine/\∀p,H1 p=none->Q (.ref p) (upd H1 p (.tup xs))
noncomputable def Pi(t:TA):TE:=λσ H Q=>t σ H λxs H1=>xs.length<=sizeLine/\∀p,H1 p=none->Q (.ref p) (upd H1 p (.lst xs))
def LD {x1} (h:PA X es t):PE X (.Tuple es x1 pos) (OW t):=by intro pins s σ H Q I hq;refine wpAny_Tuple_spliced (thn (h pos pins s σ H _ I hq) λus s1 ⟨xs,H1,I1,r,z,q⟩=>⟨by rw[<- r.length];exact z,?_⟩);have hf:=I1.hok.fresh (z9 _);refine⟨.ref s1.heap.objs.size,upd H1 s1.heap.objs.size (.tup xs),I1.laid (λb u e=>w9 _ e) (z9 _) ?_,rfl,q _ hf⟩;exact⟨z,us,r,⟨_,v7 _ rfl,rfl,_,rfl⟩⟩
def KH(h:PA X es t):PE X (.List es pos) (Pi t):=by intro pins s σ H Q I hq;refine wpAny_List_spliced (thn (h pos pins s σ H _ I hq) λus s1 ⟨xs,H1,I1,r,z,q⟩=>⟨by rw[<- r.length];exact z,?_⟩);have hf:=I1.hok.fresh (z9 _);refine⟨.ref s1.heap.objs.size,upd H1 s1.heap.objs.size (.lst xs),I1.laid (λb u e=>w9 _ e) (z9 _) ?_,rfl,q _ hf⟩;exact⟨z,us,0,r,v7 _ rfl⟩
end
abbrev Sp:=List V->Hp->VK->XK->Prop
abbrev CXT:=List Env->Hp->Shared->XK->Value->Shared->Prop
structure Env0(P:Program)(w:World)(K:W.Frag)(mg:Str->Option Value)(base:Heap)(A:Around)(outer:List Env)(s:Shared)(H:Hp):Prop where
 frames:A.frames=some outer
 mod:Mod K mg base
 bs:∀b o,base.get? b=some o->s.heap.get? b=some o/\H b=none
 bsz:base.objs.size<=s.heap.objs.size
 funs:s.heap.FunFrames base outer
 frf:∀b∈frs outer,H b=none
 hok:HOk P w H s.heap
 bare:AllBare s.gens
 tabs:TabsIn base H
noncomputable def CE(outer:List Env)(P:Program)(w:World)(H:Hp)(s:Shared)(Q:VK)(u:Value)(s':Shared):Prop:=
 ∃v H',s'.os=s.os/\AllBare s'.gens/\Un (frs outer) [] H H' s.heap s'.heap/\HOk P w H' s'.heap/\RelV v u/\Q v H'
noncomputable def CR(CX:CXT)(outer:List Env)(P:Program)(w:World)(H:Hp)(s:Shared)(Q:VK)(E:XK)(r:Result)(s':Shared):Prop:=
 match r with
 |.ok (.ret u)=>CE outer P w H s Q u s'
 |.ok _=>False
 |.error e=>CX outer H s E e s'
structure FnOk(P:Program)(w:World)(K:W.Frag)(mg:Str->Option Value)(base:Heap)(CX:CXT)(k:Nat)(f:Addr)(fd:FuncData)(ps:List Str)(sp:Sp):Prop where
 len:∀vs H Q E,sp vs H Q E->vs.length=ps.length
 run:∀(A:Around)(outer:List Env)(s:Shared)(H:Hp)(args:Args)(us:List Value)(vs:List V)(Q:VK)(E:XK),Room k A->Env0 P w K mg base A outer s H->BindsTo s fd args (ps.zip us)->Vals vs us->sp vs H Q E->
  codeAny (model P w) A (.call (.ref f) args) (CR CX outer P w H s Q E) s
def FnOk.imp{w:World}{K:W.Frag}{mg:Str->Option Value}{base:Heap}{CX:CXT}{sp sp':Sp}(F:FnOk P w K mg base CX k f fd ps sp)(h:∀vs H Q E,sp' vs H Q E->sp vs H Q E):FnOk P w K mg base CX k f fd ps sp':=
 ⟨λvs H Q E q=>F.len vs H Q E (h _ _ _ _ q),λA outer s H args us vs Q E hr he hb hv hs=>F.run A outer s H args us vs Q E hr he hb hv (h _ _ _ _ hs)⟩
section
def Inv.env0(I:Inv X pins σ H s):Env0 X.prog X.w X.K X.mg X.base X.A X.stack s H:=
 ⟨I.ok.frames,I.ok.mod,I.bs,wt I.ok.bsz I.sz,I.stack,I.stkFree,I.hok,I.bare,I.ok.tabs.un I.base⟩
def Inv.after{Q:VK}(I:Inv X pins σ H s)(h:CE X.stack X.prog X.w H s Q u s'):EP X pins σ Q u s':=by obtain⟨v,H',os,bare,un,hok,r,q⟩:=h;obtain⟨hh,g,d,t,os'⟩:=s';obtain rfl:os'=s.os:=os;exact⟨v,H',I.call un hok bare (λb z=>absurd z (by simp)),r,q⟩
end
noncomputable def Binds(K:W.Frag)(fd:FuncData)(ps:List Str)(ds:List Value):Prop:=
 ∀(s:Shared)(us:List Value),K.In s.heap->(us++ds).length=ps.length->BindsTo s fd ⟨us,[]⟩ (ps.zip (us++ds))
def Binds.all{K:W.Frag}(h:∀us:List Value,us.length=ps.length->bindArgs fd ⟨us,[]⟩=pure (ps.zip us)):Binds K fd ps []:=λs us _ hl=>by rw[t8]at hl⊢;exact .of_eq (h us hl)
section
variable{CX:CXT}{sp:Sp}{dvs:List V}{ds:List Value}{E:XK}{m:Str}{apos:Pos}{e o:Expr}{ta:TE}{t:TA}
structure Mk(K:W.Frag)(C f:Addr):Prop where
 makes:W.makesIn K C=true
 init:W.findIn K (.ref C) "__init__"=some (some (.ref f))
 fn:W.isFn K (.ref f)=true
 kp:W.keepIn K (.ref C)=true
end
section
variable{CX:CXT}{ks:List Str}{sp:Sp}{E:XK}{m:Str}{apos kpos:Pos}{e o:Expr}{kws:List Keyword}{te ta:TE}{t tk:TA}{nm:Option Str}
structure KBinds(K:W.Frag)(fd:FuncData)(ps ks:List Str)(g:List Value->List Value->List Value)(gV:List V->List V->List V):Prop where
 to:∀(s:Shared)(us ws:List Value),K.In s.heap->(g us ws).length=ps.length->BindsTo s fd ⟨us,ks.zip ws⟩ (ps.zip (g us ws))
 rel:∀{vs:List V}{us:List Value}{zs:List V}{ws:List Value},Vals vs us->Vals zs ws->Vals (gV vs zs) (g us ws)
variable{g:List Value->List Value->List Value}{gV:List V->List V->List V}
end
structure FnScope(N P:List Str)(sc:Scope):Prop where
 kind:sc.kind=.function
 co:sc.isCoroutine=false
 gen:sc.isGenerator=false
 nd:N.Nodup
 pre:N.take P.length=P
 par:∀x∈P,sc.names.lookup x=some .local\/sc.names.lookup x=some .cell
 nofree:∀y∈sc.names,y.2≠.free
theorem uR{kindOf:Str->Option NameKind}{x:Str}:∀{binds:List (Str×Value)}{m:Str->Option Value},(∀v,(x,v)∉binds)->bindL kindOf binds m x=m x
 | [],_,_=>rfl
 | (n,v)::r,m,h=>by
  unfold bindL;rw[uR λw hw=>h w (zF _ hw)];split
  ·have:x≠n:=by rintro rfl;exact h v zx
   simp[this]
  ·rfl
theorem ut{kindOf:Str->Option NameKind}{x:Str}:∀{binds:List (Str×Value)}{m:Str->Option Value},(∀v,(x,v)∉binds)->bindC kindOf binds m x=m x
 | [],_,_=>rfl
 | (n,v)::r,m,h=>by
  unfold bindC;rw[ut λw hw=>h w (zF _ hw)];split;·rfl
  ·have:x≠n:=by rintro rfl;exact h v zx
   simp[this]
theorem tI{kindOf:Str->Option NameKind}{x:Str}{v:Value}:∀{P:List Str}{vs:List Value}{i:Nat}{m:Str->Option Value},P.Nodup->P[i]?=some x->vs[i]?=some v->kindOf x=some .local->
  bindL kindOf (P.zip vs) m x=some v
 | [],_,_,_,_,h,_,_=>by simp at h
 |_::_,[],_,_,_,_,h,_=>by simp at h
 |p::P,w::vs,0,m,nd,h1,h2,hk=>by simp at h1 h2;subst h1;subst h2;show bindL kindOf ((p,w)::P.zip vs) m p=_;unfold bindL;rw[uR λv hv=>(l8.mp nd).1 (Z6 hv).1,if_pos hk];simp
 |p::P,w::vs,i+1,m,nd,h1,h2,hk=>by show bindL kindOf ((p,w)::P.zip vs) m x=_;exact tI (l8.mp nd).2 (by simpa using h1) (by simpa using h2) hk
theorem uG{kindOf:Str->Option NameKind}{x:Str}{v:Value}:∀{P:List Str}{vs:List Value}{i:Nat}{m:Str->Option Value},P.Nodup->P[i]?=some x->vs[i]?=some v->kindOf x≠some .local->
  bindC kindOf (P.zip vs) m x=some v
 | [],_,_,_,_,h,_,_=>by simp at h
 |_::_,[],_,_,_,_,h,_=>by simp at h
 |p::P,w::vs,0,m,nd,h1,h2,hk=>by simp at h1 h2;subst h1;subst h2;show bindC kindOf ((p,w)::P.zip vs) m p=_;unfold bindC;rw[ut λv hv=>(l8.mp nd).1 (Z6 hv).1,if_neg hk];simp
 |p::P,w::vs,i+1,m,nd,h1,h2,hk=>by show bindC kindOf ((p,w)::P.zip vs) m x=_;exact uG (l8.mp nd).2 (by simpa using h1) (by simpa using h2) hk
noncomputable def start(N:List Str)(vs:List V):St:=vs.map some++List.replicate (N.length - vs.length) none
noncomputable def gJ(CX:CXT)(P:Program)(w:World)(K:W.Frag)(mg:Str->Option Value)(base:Heap)(N:List Str)(qual:Str)(scope:Scope)(f:Addr)(cd:Value)(A:Around)(outer:List Env)(s:Shared)(H:Hp)(E:XK):Cx where
 prog:=P
 w:=w
 K:=K
 mg:=mg
 base:=base
 A:=A.deeper (envOfC qual scope s.heap.objs.size f cd)
 N:=N
 s₀:=s
 H₀:=H
 env:=envOfC qual scope s.heap.objs.size f cd
 outer:=outer
 stack:=envOfC qual scope s.heap.objs.size f cd::outer
 ex:=[]
 calm:=true
 fn:=λ_=>true
 pn:=[]
 xe:=λe s'=>wpAny (model P w) (A.deeper (envOfC qual scope s.heap.objs.size f cd)) (leaving (envOfC qual scope s.heap.objs.size f cd) e) (λ_ s''=>CX outer H s E e s'') (λe' s''=>CX outer H s E e' s'') s'
def xP{sc:Scope}{n:Nat}(h:sc.names.lookup x=some .cell):∃c,(cellsFrom n sc.names []).lookup x=some c:=by have q:=W.cellsFrom_some sc.names n [] (.inl h);exact Option.isSome_iff_exists.mp q
def Ap{CX:CXT}{w:World}{K:W.Frag}{mg:Str->Option Value}{base:Heap}{N:List Str}{cd:Value}{A:Around}{outer:List Env}{s1:Shared}{E:XK}(S:FnScope N ps scope)(hd:A.handled=none)(e0:Env0 P w K mg base A outer s H)(hl:vs.length=ps.length)(r:Vals vs us)(x:InCallC s s.heap.objs.size (bindL (envOfC qual scope s.heap.objs.size f cd).kindOf (ps.zip us) λ_=>none) (cellsFrom (s.heap.objs.size+1) scope.names []) (bindC (envOfC qual scope s.heap.objs.size f cd).kindOf (ps.zip us) λ_=>none) s1):
  Inv (gJ CX P w K mg base N qual scope f cd A outer s H E) [] (start N vs) H s1:=by
 have hpl:ps.length<=N.length:=by have:=vC List.length S.pre;rw[wo]at this;omega
 obtain⟨h1,tk,rfl,hk⟩:=x.done;have noA:∀b:Addr,b∉(gJ CX P w K mg base N qual scope f cd A outer s H E).ex:=λb z=>absurd (show b∈([]:List Addr) from z) (by simp);refine⟨⟨e0.mod,S.kind,rfl,rfl,z9 _,λy z c h1 h2=>?_,λy hy=>?_,λy c _ h=>?_,λ_=>hd,Around.frames_deeper e0.frames,.inr ⟨rfl,rfl⟩,λb z=>absurd z (noA b),e0.bs,e0.bsz,λb _ _=>noA b,λb z=>absurd z (noA b),e0.funs,e0.frf,e0.tabs⟩,
  rfl,e0.bare,Un.kept hk,⟨_,x.toInCall.ns,λi y v h1 h2 h3=>?_⟩,λy c h=>⟨_,x.cell y c h⟩,e0.hok.fresh (z9 _),λy c h=>?_,λp hp=>absurd (show p∈([]:List (Addr×Obj)) from hp) (by simp),e0.hok.kept hk,?_⟩;·exact name_of_addr x.apart (j7 h1) (j7 h2)
 ·rcases hy with hy|hy;·exact xP hy
  ·exact absurd rfl (S.nofree _ (j7 hy))
 ·exact io (x.above y c (j7 h))
 ·have hi:i<vs.length:=by
   unfold start at h2;by_cases hi:i<vs.length;·exact hi
   ·rw[rg (by simpa using hi)]at h2;rw[l9]at h2;split at h2 <;> cases h2
  have ha:vs[i]?=some v:=by
   unfold start at h2;rw[t9 (by simpa using hi),v8]at h2;cases e:vs[i]? with
   |none=>rw[e]at h2;cases h2
   |some a=>rw[e]at h2;cases h2;rfl
  obtain⟨u,hu,rv⟩:=r.get ha;have hp:ps[i]?=some y:=by rw[<- S.pre,List.getElem?_take_of_lt (by omega)];exact h1
  have ndP:ps.Nodup:=by rw[<- S.pre];exact S.nd.sublist (List.take_sublist _ _)
  refine⟨u,rv,?_⟩;rcases S.par y (lO hp)with k|k;·exact .inl ⟨k,tI ndP hp hu k⟩
  ·obtain⟨c,e⟩:=xP k;refine .inr ⟨.inl k,c,e,?_⟩;have q:=x.cell y c e;rw[uG ndP hp hu (by show scope.names.lookup y≠_;rw[k];decide)]at q;exact q
 ·exact e0.hok.fresh (io (x.above y c (j7 h)))
 ·unfold start;show _=N.length;rw[w6,zy,rE];omega
def DV{CX:CXT}{w:World}{K:W.Frag}{mg:Str->Option Value}{base:Heap}{name:Str}{params:Arguments}{body:List Stmt}{dV kV doc pm ct oc:Value}{an:Option Addr}{N:List Str}{sp:Sp}(lk:K.lookup f=some ⟨oc,od,.func (W.fnOf name qual params body scope dV kV doc pm an cdv ct),osl⟩)(hcd:W.codeIn K cdv qual=true)(S:FnScope N ps scope)(len:∀vs H Q E,sp vs H Q E->vs.length=ps.length)(hbody:∀(A:Around)(outer:List Env)(s:Shared)(H:Hp)(vs:List V)(Q:VK)(E:XK),Room k (A.deeper (envOfC qual scope s.heap.objs.size f cdv))->sp vs H Q E->
 ∃t,PSs (gJ CX P w K mg base N qual scope f cdv A outer s H E) body t/\t { nx:=λ_ H'=>Q .non H',rt:=Q } (start N vs) H):
  FnOk P w K mg base CX (k+1) f (W.fnOf name qual params body scope dV kV doc pm an cdv ct) ps sp:=by
 refine⟨len,λA outer s H args us vs Q E hr e0 hb r hsp=>?_⟩;have hl:=len _ _ _ _ hsp;have KX:=e0.mod.kin.keeps λb o e=>(e0.bs b o e).1;have lim:=e0.mod.nolimit.keeps λb o e=>(e0.bs b o e).1;have hkind:∀y∈ps.zip us,scope.names.lookup y.1=some .local\/(scope.names.lookup y.1=some .cell/\((cellsFrom (s.heap.objs.size+1) scope.names []).lookup y.1).isSome=true):=λ⟨n,v⟩ hy=>by
  rcases S.par n (Z6 hy).1 with q|q;·exact .inl q
  ·exact .inr ⟨q,W.cellsFrom_some _ _ _ (.inl q)⟩
 refine codeAny_call_function hr.depth (KX _ _ lk) rfl S.co S.gen rfl (W.codeRec_of KX hcd) (hb _ _ _ _ ?_);refine wpAny_newFunctionEnv_cells S.kind hkind λenv he s1 x=>?_;subst he;refine⟨lim.keeps x.toInCall.keep,codeAny_func ?_⟩;obtain⟨t,ht,hq⟩:=hbody A outer s H vs Q E (hr.deeper _) hsp;have I:Inv (gJ CX P w K mg base N qual scope f cdv A outer s H E) [] (start N vs) H s1:=Ap S hr.hd e0 hl r x;refine vV (ht [] s1 (start N vs) H _ I hq) (λfl s' hs=>?_) λe s' hs=>hs;have fin:∀{σ':St}{H':Hp}{v:V}{u:Value},Inv (gJ CX P w K mg base N qual scope f cdv A outer s H E) [] σ' H' s'->RelV v u->Q v H'->CE outer P w H s Q u s':=
  λ{σ' H' v u} J rv q=>⟨v,H',J.os,J.bare,J.base,J.hok,rv,q⟩
 cases fl with
 |ret u=>obtain⟨v,σ',H',J,rv,q⟩:=hs;exact fin J rv q
 |next=>obtain⟨σ',H',J,q⟩:=hs;exact fin (v:=V.non) J rfl q
 |brk=>obtain⟨_,_,_,q⟩:=hs;exact False.elim q
 |cont=>obtain⟨_,_,_,q⟩:=hs;exact False.elim q
end L2
variable{CX:L2.CXT}
namespace L2
open PySem PySem.Spec PyProof.Rows
section
variable{e:Expr}{t:TA}{id T:String}{r:List V->Hp->VK->Prop}
noncomputable def tCB(r:List V->Hp->VK->Prop)(t:TA):TE:=λσ H Q=>t σ H λvs H1=>r vs H1 Q
def sP(hc:lC X (.builtin id) r)(hg:Gl X x)(hm:X.mg x=none)(hv:bootBuiltins x=some (.builtin id))(ha:PA X (e::es) t)(hn:x≠"__name__":=by decide)(hdb:(x==("__debug__":Str))=false:=by decide)(he:starEach (e::es) X.env=(false,eval e X.env)::starEach es X.env:=by rfl)(hpl:(backTo pos (starEach es X.env)).any (·.1)=false:=by rfl):PE X (.Call (.Name x p) (e::es) [] pos) (tCB r t):=by
 intro pins s σ H Q I h;refine iO (oS I hg hm hv ?_ hn hdb);exact callWith_builtin1 (thn (ha pos pins s σ H _ I h) λus s1 ⟨vs,H1,I1,r1,q1⟩=>hc pins s1 σ H1 vs us Q I1 r1 q1) he hpl
def pI(hc:lC X (.type T) r)(hg:Gl X x)(hm:X.mg x=none)(hv:bootBuiltins x=some (.type T))(ha:PA X (e::es) t)(hn:x≠"__name__":=by decide)(hdb:(x==("__debug__":Str))=false:=by decide)(he:starEach (e::es) X.env=(false,eval e X.env)::starEach es X.env:=by rfl)(hpl:(backTo pos (starEach es X.env)).any (·.1)=false:=by rfl):PE X (.Call (.Name x p) (e::es) [] pos) (tCB r t):=by
 intro pins s σ H Q I h;refine iO (oS I hg hm hv ?_ hn hdb);exact callWith_type1 (thn (ha pos pins s σ H _ I h) λus s1 ⟨vs,H1,I1,r1,q1⟩=>hc pins s1 σ H1 vs us Q I1 r1 q1) he hpl
end
end L2
namespace HT
open PySem PyProof.Rows
section
open PySem.SeqAt
open PySem.AutoSeq1 (wpAny_loadPart')
open PySem.MeetsSeq PySem.MeetsSeq2 PySem.MeetsSeq3
end
section
variable{prog:Program}{w:World}{A:Around}
theorem cat_tup{t b:Addr}{vs ws:List Value}{Q:Value->Shared->Prop}(ht:IsTup s.heap t vs.toArray)(hb:IsTup s.heap b ws.toArray)(hv:vs≠[])(h1:ws=[]->Q (.ref t) s)(h2:ws≠[]->Q (.ref s.heap.objs.size) { s with heap:=s.heap.push { cls:=.type "tuple",data:=.seq (vs++ws).toArray } })(hsz:vs.length+ws.length<=sizeLine):wpAny (model prog w) A (binaryOp .Add (.ref t) (.ref b)) Q E s:=by
 obtain⟨⟨cls,dd,data,sl⟩,ho,hc,n,hd⟩:=id ht;obtain⟨⟨cls2,dd2,data2,sl2⟩,ho2,hc2,n2,hd2⟩:=id hb;subst hc hd hc2 hd2;have e:vs.toArray++ws.toArray=(vs++ws).toArray:=by simp
 by_cases hw:ws=[]
 ·exact concat_meets ⟨_,ho,rfl⟩ ⟨_,ho2,rfl⟩ ZE seq_tuple_add F.slot_tuple_add F.entry_tuple_add (F.args_tuple_add_2 _ _)
   (tuple_addW1 t b vs.toArray ws.toArray n n2 dd dd2 sl sl2 (by simpa using hv) (by simp[hw])) ⟨ho,ho2,h1 hw⟩
 ·refine concat_meets ⟨_,ho,rfl⟩ ⟨_,ho2,rfl⟩ ZE seq_tuple_add F.slot_tuple_add F.entry_tuple_add (F.args_tuple_add_2 _ _)
   (tuple_addW2 t b vs.toArray ws.toArray n n2 dd dd2 sl sl2 (by simpa using hv) (by simpa using hw) (by rw[w8,w8];exact hsz)) ⟨ho,ho2,?_⟩;rw[e];exact h2 hw
noncomputable def sIx(n d:Nat):Option Int->Nat
 |none=>d
 |some v=>if v<0 then (v+(n:Int)).toNat else min v.toNat n
def sIx_none(n d:Nat):sIx n d none=d:=rfl
def sIx_nat(n d k:Nat):sIx n d (some (k:Int))=min k n:=by show(if (k:Int)<0 then ((k:Int)+(n:Int)).toNat else min (k:Int).toNat n)=min k n;rw[if_neg (by omega),vN]
def sIx_le(n d:Nat)(hd:d<=n)(o:Option Int):sIx n d o<=n:=by
 cases o with
 |none=>exact hd
 |some v=>
  show(if v<0 then (v+(n:Int)).toNat else min v.toNat n)<=n;by_cases hv:v<0;·rw[if_pos hv];omega
  ·rw[if_neg hv];exact Nat.min_le_right _ _
def Aq(v:Int)(n d:Nat):(if v<0 then max (v+(n:Int)) 0 else min v (n:Int))=((sIx n d (some v):Nat):Int):=by
 show(if v<0 then max (v+(n:Int)) 0 else min v (n:Int))=(((if v<0 then (v+(n:Int)).toNat else min v.toNat n):Nat):Int);by_cases hv:v<0;·simp only[if_pos hv];omega
 ·simp only[if_neg hv];omega
def zb(lo hi:Option Int)(n:Nat):Builtin.Slice.sliceAdjust lo hi 1 (n:Int)=(((sIx n 0 lo:Nat):Int),((sIx n n hi:Nat):Int)):=by
 refine Prod.ext ?_ ?_
 ·cases lo with
  |none=>rfl
  |some v=>exact Aq v n 0
 ·cases hi with
  |none=>rfl
  |some v=>exact Aq v n n
def zh(i j:Nat):Builtin.Slice.slicePlaces (i:Int) (j:Int) 1=j - i:=by unfold Builtin.Slice.slicePlaces;split <;> omega
def qE{v:Value}{o:Option Int}{Q:Option Int->Shared->Prop}(p:IsPart v o)(h:Q o s):wpAny (model prog w) A (Builtin.Slice.slicePartIndex v) Q E s:=by
 cases p with
 |none=>exact slicePart_none h
 |int i t=>exact slicePart_int h
def sliceApplied_gen{sl:Addr}{vl vu:Value}{lo hi:Option Int}{n:Nat}{Q:Int×Int×Nat->Shared->Prop}(hs:s.heap.IsSliceOf sl vl vu .none)(pl:IsPart vl lo)(pu:IsPart vu hi)(h:Q (((sIx n 0 lo:Nat):Int),1,sIx n n hi - sIx n 0 lo) s):wpAny (model prog w) A (Builtin.Slice.sliceApplied (.ref sl) (pure (n:Int))) Q E s:=by
 obtain⟨os,hos,hcs,hds⟩:=id hs;refine z8 (z8 (qO hos hds rfl (z8 (qO hos hds rfl (z8 (qO hos hds rfl (zc ?_)))))));refine z8 (slicePart_none ?_);refine z8 (qE pl (z8 (qE pu (z8 (zc ?_)))));show wpAny _ _ (match Builtin.Slice.sliceAdjust lo hi 1 (n:Int)with|(lo,hi)=>pure (lo,(1:Int),Builtin.Slice.slicePlaces lo hi 1)) _ _ s;rw[zb lo hi n];show wpAny _ _ (pure (((sIx n 0 lo:Nat):Int),(1:Int),Builtin.Slice.slicePlaces ((sIx n 0 lo:Nat):Int) ((sIx n n hi:Nat):Int) 1)) _ _ s;rw[zh];exact zc h
def DS(xs:Array Value)(i k:Nat):((List.range k).filterMap λ(m:Nat)=>xs[((i:Int)+(m:Int) * 1).toNat]?).toArray=((xs.toList.drop i).take k).toArray:=by
 have e:(λ(m:Nat)=>xs[((i:Int)+(m:Int) * 1).toNat]?)=λm=>xs[i+m]?:=by
  funext m
  have:((i:Int)+(m:Int) * 1).toNat=i+m:=by omega
  rw[this]
 rw[e];have:=pick_run xs i k;rw[List.filterMap_map]at this;have e2:((λx=>xs[x]?) ∘ λx=>i+x)=λm=>xs[i+m]?:=rfl;rw[e2]at this;rw[this]
def getItem_tuple_cut{t sl:Addr}{items:Array Value}{vl vu:Value}{lo hi:Option Int}{Q:Value->Shared->Prop}(ht:IsTup s.heap t items)(hs:s.heap.IsSliceOf sl vl vu .none)(pl:IsPart vl lo)(pu:IsPart vu hi)(hw : ¬ (sIx items.size 0 lo=0/\sIx items.size items.size hi=items.size))(h:Q (.ref s.heap.objs.size) { s with heap:=s.heap.push { cls:=.type "tuple",data:=.seq ((items.toList.drop (sIx items.size 0 lo)).take (sIx items.size items.size hi - sIx items.size 0 lo)).toArray } })(hsz:items.size<=sizeLine):wpAny (model prog w) A (getItem (.ref t) (.ref sl)) Q E s:=by
 have htake:sizeOk (.seq ((items.toList.drop (sIx items.size 0 lo)).take (sIx items.size items.size hi - sIx items.size 0 lo)).toArray):=by show((items.toList.drop (sIx items.size 0 lo)).take (sIx items.size items.size hi - sIx items.size 0 lo)).toArray.size<=sizeLine;rw[w8,wo,n6,lE];omega
 obtain⟨os,hos,hcs,hds⟩:=id hs;have hTs:s.TypeIs (.ref sl) "slice":=⟨os,hos,hcs⟩
 unfold getItem
 try with_reducible refine qJ ?_
 refine z8 (wpAny_sequenceKey ht.typeIs (by decide) ?_);refine z8 (lT (name:=Str.ofString "__getitem__") ht.typeIs slot_tuple_getitem
  (n8 slot_tuple_getitem ht.typeIs entry_tuple_getitem ?_ (args_tuple_getitem _ _)));show wpAny _ _ (Builtin.Tuple.tupleItemsOf (.ref t)>>=_) _ _ s;refine z8 (iT ht ?_);refine z8 (g0 hTs ?_);refine z8 (sliceApplied_gen hs pl pu ?_);have hno : ¬ ((((sIx items.size 0 lo:Nat):Int)==0 && (1:Int)==1 && (sIx items.size items.size hi - sIx items.size 0 lo)==items.size)=true):=by
  intro q;rw[xf,xf]at q;have q1:=g9 q.1.1;have q2:=g9 q.2;exact hw ⟨by omega,by omega⟩
 show wpAny _ _ (if (((sIx items.size 0 lo:Nat):Int)==0 && (1:Int)==1 && (sIx items.size items.size hi - sIx items.size 0 lo)==items.size)=true then _ else _) _ _ s;rw[if_neg hno,DS]
 first
  |exact z8 (m:=Builtin.Tuple.tupleExact _) (oT (zc ⟨_,rfl,zc h⟩) htake)
  |exact z8 (oT (z8 (zc (zc ⟨_,rfl,zc h⟩))) htake)
  |exact z8 (z8 (oT (zc (zc ⟨_,rfl,zc h⟩)) htake))
  |exact z8 (z8 (oT (zc ⟨_,rfl,zc h⟩) htake))
end
end HT
namespace L2
open PySem PySem.Spec PyProof.Rows
abbrev TO:=St->Hp->(Option Int->Hp->Prop)->Prop
noncomputable def PO(X:Cx)(e:Option Expr)(t:TO):Prop:=
 ∀(pins:List (Addr×Obj))(s:Shared)(σ:St)(H:Hp)(Q:Option Int->Hp->Prop),Inv X pins σ H s->t σ H Q->
  wpAny (model X.prog X.w) X.A (evalPart e X.env) (λu s'=>∃o H',Inv X pins σ H' s'/\IsPart u o/\Q o H') X.xe s
def F9:TO:=λ_ H Q=>Q none H
def Of(t:TE):TO:=λσ H Q=>t σ H λx H1=>∃i,x=.int i/\Q (some i) H1
section
variable{e:Expr}{te:TE}{lo hi:Option Expr}{tl th:TO}{p2:Pos}
def Gi:PO X none F9:=by intro pins s σ H Q I h;exact zc ⟨none,H,I,.none,h⟩
def Hs(h:PE X e te):PO X (some e) (Of te):=by intro pins s σ H Q I hw;refine thn (h pins s σ H _ I hw) λu s1 ⟨x,H1,I1,r1,q1⟩=>?_;obtain⟨i,rfl,q⟩:=q1;obtain⟨t,rfl⟩:=r1;exact⟨some i,H1,I1,.int i t,q⟩
noncomputable def SlR(X:Cx)(r:V->Option Int->Option Int->Hp->VK->Prop):Prop:=
 ∀(pins:List (Addr×Obj))(s:Shared)(σ:St)(H:Hp)(x:V)(v vl vu:Value)(lo hi:Option Int)(sl:Addr)(Q:VK),Inv X pins σ H s->RelV x v->s.heap.IsSliceOf sl vl vu .none->IsPart vl lo->IsPart vu hi->r x lo hi H Q->
  ∃T id,typeLookup (.type T) "__getitem__"=pure (some (.builtin id))/\s.TypeIs v T/\wpAny (model X.prog X.w) X.A (getItem v (.ref sl)) (EP X pins σ Q) X.xe s
def SlR.or{r r':V->Option Int->Option Int->Hp->VK->Prop}(h:SlR X r)(h':SlR X r'):SlR X (λx lo hi H Q=>r x lo hi H Q\/r' x lo hi H Q):=by
 intro pins s σ H x v vl vu lo hi sl Q I rx hs pl pu q;rcases q with q|q;·exact h pins s σ H x v vl vu lo hi sl Q I rx hs pl pu q
 ·exact h' pins s σ H x v vl vu lo hi sl Q I rx hs pl pu q
noncomputable def tSl(r:V->Option Int->Option Int->Hp->VK->Prop)(te:TE)(tl th:TO):TE:=λσ H Q=>te σ H λx H1=>tl σ H1 λl H2=>th σ H2 λu H3=>r x l u H3 Q
def Dj{r:V->Option Int->Option Int->Hp->VK->Prop}(hr:SlR X r)(he:PE X e te)(hl:PO X lo tl)(hu:PO X hi th):PE X (.Subscript e (.Slice lo hi none p2) pos) (tSl r te tl th):=by intro pins s σ H Q I h;refine Subscript_ (thn (he pins s σ H _ I h) λv s1 ⟨x,H1,I1,r1,q1⟩=>?_);refine wpAny_Slice (thn (hl pins s1 σ H1 _ I1 q1) λvl s2 ⟨l,H2,I2,pl,q2⟩=>thn (hu pins s2 σ H2 _ I2 q2) λvu s3 ⟨u,H3,I3,pu,q3⟩=>?_);refine zc ?_;have I4:Inv X pins σ H3 { s3 with heap:=s3.heap.push { cls:=.type "slice",data:=.fields #[vl,vu,.none] } }:=I3.kept λb ob q=>w9 _ q;obtain⟨T,id,hT,ht,hg⟩:=hr pins { s3 with heap:=s3.heap.push { cls:=.type "slice",data:=.fields #[vl,vu,.none] } } σ H3 x v vl vu l u s3.heap.objs.size Q I4 r1 (Heap.IsSliceOf.new ..) pl pu q3;exact tail_any ht hT hg (by with_unfolding_all rfl)
noncomputable def Im(xs:List V)(lo hi:Option Int):List V:=(xs.drop (HT.sIx xs.length 0 lo)).take (HT.sIx xs.length xs.length hi - HT.sIx xs.length 0 lo)
def oV(xs:List V)(lo hi:Option Int):(Im xs lo hi).length<=xs.length:=by unfold Im;rw[wo,n6];omega
noncomputable def OD(K:W.Frag):V->Option Int->Option Int->Hp->VK->Prop:=λx lo hi H Q=>∃a xs,x=.ref a/\SqT K H a xs/\
 ¬ (HT.sIx xs.length 0 lo=0/\HT.sIx xs.length xs.length hi=xs.length)/\∀p,H p=none->Q (.ref p) (upd H p (.tup (Im xs lo hi)))
def sl_tup:SlR X (OD X.K):=by
 intro pins s σ H x v vl vu lo hi sl Q I rx hs pl pu h;obtain⟨a,xs,rfl,hx,hw,q⟩:=h;cases rx;obtain⟨its,r,ht,hz⟩:=I.tuple hx;have hlen:its.toArray.size=xs.length:=by rw[w8];exact r.length.symm
 refine⟨"tuple",_,slot_tuple_getitem.lookup,ht.typeIs,?_⟩;refine HT.getItem_tuple_cut ht hs pl pu (by rw[hlen];exact hw) ?_ (by rw[hlen];exact hz);rw[hlen];refine⟨.ref s.heap.objs.size,_,I.laid (λb ob q=>w9 _ q) (z9 _) ?_,rfl,q _ (I.hok.fresh (z9 _))⟩;exact⟨wt (oV xs lo hi) hz,_,(r.drop (HT.sIx xs.length 0 lo)).take (HT.sIx xs.length xs.length hi - HT.sIx xs.length 0 lo),lH _ _⟩
noncomputable def NX(K:W.Frag):R2:=λx y H Q=>∃a b xs ys,x=.ref a/\y=.ref b/\SqT K H a xs/\SqT K H b ys/\xs≠[]/\xs.length+ys.length<=sizeLine/\
 (ys=[]->Q (.ref a) H)/\(ys≠[]->∀p,H p=none->Q (.ref p) (upd H p (.tup (xs++ys))))
def Vals.nil_iff(r:Vals xs us):us=[] ↔ xs=[]:=by
 cases r with
 |nil=>simp
 |cons _ _=>simp
def HV:OpR X (binaryOp .Add) (NX X.K):=by intro pins s σ H x y v u Q I rx ry h;obtain⟨a,b,xs,ys,rfl,rfl,ha,hb,hx,hz,q1,q2⟩:=h;cases rx;cases ry;obtain⟨its,r1,p1,_⟩:=I.tuple ha;obtain⟨its2,r2,p2,_⟩:=I.tuple hb;refine HT.cat_tup p1 p2 (λz=>hx (r1.nil_iff.mp z)) (λz=>⟨.ref a,H,I,rfl,q1 (r2.nil_iff.mp z)⟩) (λz=>?_) (by rw[<- r1.length,<- r2.length];exact hz);refine⟨.ref s.heap.objs.size,_,I.laid (λb ob q=>w9 _ q) (z9 _) ?_,rfl,q2 (λw=>z (r2.nil_iff.mpr w)) _ (I.hok.fresh (z9 _))⟩;exact⟨by rw[w6];exact hz,_,r1.append r2,lH _ _⟩
end
noncomputable def ixN(n:Nat)(i:Int):Option Nat:=if 0<=i then (if i<n then some i.toNat else none)else if -(n:Int)<=i then some (i+n).toNat else none
noncomputable def atI{α:Type}(xs:List α)(i:Int):Option α:=(ixN xs.length i).bind λj=>xs[j]?
def Bb{n:Nat}{i:Int}(h:ixN n i=some j):seqIndex? i n=some j/\j<n/\-(n:Int)<=i/\i<n:=by
 unfold ixN at h;by_cases h0:0<=i
 ·rw[if_pos h0]at h;by_cases h1:i<n;·rw[if_pos h1]at h;have e:=wq h;exact⟨by rw[seqIndex_of h0 h1,e],by omega,by omega,h1⟩
  ·rw[if_neg h1]at h;cases h
 ·rw[if_neg h0]at h;by_cases h1 : -(n:Int)<=i;·rw[if_pos h1]at h;have e:=wq h;exact⟨by rw[seqIndex_neg (by omega) h1,e],by omega,h1,by omega⟩
  ·rw[if_neg h1]at h;cases h
def wv{α:Type}{xs:List α}{i:Int}{v:α}(h:atI xs i=some v):∃j,seqIndex? i xs.length=some j/\xs[j]?=some v/\j<xs.length/\-(xs.length:Int)<=i/\i<xs.length:=by
 unfold atI at h;cases e:ixN xs.length i with
 |none=>rw[e]at h;cases h
 |some j=>rw[e]at h;obtain⟨h1,h2,h3,h4⟩:=Bb e;exact⟨j,h1,h,h2,h3,h4⟩
def vJ{α:Type}{xs:List α}{v:α}(h:xs[j]?=some v):atI xs (j:Int)=some v:=by
 have hj:=(vc.mp h).1;have e:ixN xs.length (j:Int)=some j:=by unfold ixN;rw[if_pos (by omega),if_pos (by omega)];simp
 unfold atI;rw[e];exact h
noncomputable def wm(b:Expr):Prop:=∀o i,subscripted b false o i=operate [o,i] (getItem o i)
noncomputable def IxR(X:Cx)(r:R2):Prop:=
 ∀(value slice:Expr)(pins:List (Addr×Obj))(s:Shared)(σ:St)(H:Hp)(x y:V)(v u:Value)(Q:VK),Inv X pins σ H s->RelV x v->RelV y u->r x y H Q->
  subscripted slice false v u=operate [v,u] (getItem v u)->wpAny (model X.prog X.w) X.A (subscriptTail value slice v u) (EP X pins σ Q) X.xe s
noncomputable def MtR(X:Cx)(id:String)(r:V->List V->Hp->VK->Prop):Prop:=
 ∀(pins:List (Addr×Obj))(s:Shared)(σ:St)(H:Hp)(x:V)(xs:List V)(v:Value)(us:List Value)(Q:VK),Inv X pins σ H s->RelV x v->Vals xs us->r x xs H Q->
  wpAny (model X.prog X.w) X.A (call (.builtin id) (v::us)) (EP X pins σ Q) X.xe s
section
variable{a b:Expr}{ta tb:TE}
def IxR.or{r r':R2}(h:IxR X r)(h':IxR X r'):IxR X (λx y H Q=>r x y H Q\/r' x y H Q):=by
 intro value slice pins s σ H x y v u Q I rx ry q hs;rcases q with q|q;·exact h value slice pins s σ H x y v u Q I rx ry q hs
 ·exact h' value slice pins s σ H x y v u Q I rx ry q hs
def JL{r:R2}(hr:IxR X r)(ha:PE X a ta)(hb:PE X b tb)(hs:wm b):PE X (.Subscript a b pos) (tOp r ta tb):=by intro pins s σ H Q I h;exact Subscript_ (Mi ha hb I h λv u s2 x y H2 I2 rx ry q=>hr a b pins s2 σ H2 x y v u Q I2 rx ry q (hs _ _))
noncomputable def Ot(K:W.Frag):R2:=λx y H Q=>∃p xs i v,x=.ref p/\y=.int i/\SqL K H p xs/\atI xs i=some v/\Q v H
noncomputable def OF(K:W.Frag):R2:=λx y H Q=>∃p xs i v,x=.ref p/\y=.int i/\SqT K H p xs/\atI xs i=some v/\Q v H
noncomputable def OO:R2:=λx y H Q=>∃z i c,x=.str z/\y=.int i/\z.length<=sizeLine/\atI z.cps.toList i=some c/\Q (.str ⟨#[c]⟩) H
def ix_list:IxR X (Ot X.K):=by
 intro value slice pins s σ H x y v u Q I rx ry h hs;obtain⟨p,xs,i,z,rfl,rfl,hq,he,q⟩:=h;cases rx;obtain⟨t,rfl⟩:=ry;obtain⟨its,r,pl,hz⟩:=I.list hq;obtain⟨j,h1,h2,h3,h4,h5⟩:=wv he;obtain⟨w,ew,rw'⟩:=r.get h2;have hl:=r.length;have hn:=qy;have fin:EP X pins σ Q w s:=⟨z,H,I,rw',q⟩
 by_cases h0:0<=i
 ·have hj:i.toNat=j:=by rw[seqIndex_of h0 h5]at h1;exact wq h1
  exact item_listR pl.isList h0 (by omega) (by rw[hj];simpa using ew) fin hs
 ·have hj:(i+(its.toArray.size:Int)).toNat=j:=by rw[seqIndex_neg (by omega) h4]at h1;rw[w8,<- hl];exact wq h1
  exact subscriptTail_builtinR pl.isList.typeIs slot_list_getitem.lookup
   (wpAny_getItem_list_neg pl.isList (by omega) (by rw[w8] <;> omega) (by omega) (by rw[hj];simpa using ew) ⟨rfl,fin⟩) hs
def ix_tup:IxR X (OF X.K):=by
 intro value slice pins s σ H x y v u Q I rx ry h hs;obtain⟨p,xs,i,z,rfl,rfl,hq,he,q⟩:=h;cases rx;obtain⟨t,rfl⟩:=ry;obtain⟨its,r,pl,hz⟩:=I.tuple hq;obtain⟨j,h1,h2,h3,h4,h5⟩:=wv he;obtain⟨w,ew,rw'⟩:=r.get h2;have hl:=r.length;have hn:=qy;have fin:EP X pins σ Q w s:=⟨z,H,I,rw',q⟩
 exact subscriptTail_builtinR (x:=w) pl.typeIs slot_tuple_getitem.lookup
  (getItem_tuple pl (by omega) (by omega) (by rw[w8,<- hl];exact h1) (by simpa using ew) ⟨rfl,fin⟩) hs
def LO:IxR X OO:=by
 intro value slice pins s σ H x y v u Q I rx ry h hs;obtain⟨z,i,c,rfl,rfl,hz,he,q⟩:=h;obtain⟨t,rfl⟩:=rx;obtain⟨t',rfl⟩:=ry;obtain⟨j,h1,h2,h3,h4,h5⟩:=wv he;have hl:z.cps.toList.length=z.length:=by simp[Str.length]
 rw[hl]at h1 h4 h5;have hn:=qy;exact tail_any (typeIs_str s z t) slot_str_getitem.lookup (getItem_str (by have e1:decide (i < -(2 ^ 63:Int))=false:=v6 (by omega);have e2:decide (i ≥ 2 ^ 63)=false:=v6 (by omega);rw[e1,e2,eQ]) (by rw[h1];simpa using h2) ⟨.str ⟨#[c]⟩,H,I.tok _,⟨_,rfl⟩,q⟩) hs
def rIx(K:W.Frag):R2:=λx y H Q=>Ot K x y H Q\/OF K x y H Q\/OO x y H Q
def Ln:IxR X (rIx X.K):=ix_list.or (ix_tup.or LO)
def zn(its:List Value)(n j:Nat)(u:Value):Obj.mapSeq (·.setIfInBounds j u) { cls:=.type "list",data:=.seq its.toArray n }={ cls:=.type "list",data:=.seq (its.set j u).toArray n }:=by simp[Obj.mapSeq]
def Inv.lst{p:Addr}(I:Inv X pins σ H s)(h:H p=some (.lst xs)):
  ∃(its:List Value)(n:Nat),Vals xs its/\s.heap.get? p=some { cls:=.type "list",data:=.seq its.toArray n }/\xs.length<=sizeLine:=by
 obtain⟨z,its,n,r,e⟩:=I.hok p _ h;exact⟨its,n,r,e,z⟩
def Inv.lstUpd{p:Addr}{ys:List V}{its':List Value}{n n':Nat}{f:Obj->Obj}(I:Inv X pins σ H s)(h:H p=some (.lst xs))(ho:s.heap.get? p=some { cls:=.type "list",data:=.seq its.toArray n })(hf:f { cls:=.type "list",data:=.seq its.toArray n }={ cls:=.type "list",data:=.seq its'.toArray n' })(r:Vals ys its')(hz:ys.length<=sizeLine)(t:Nat):
  Inv X pins σ (upd H p (.lst ys)) { s with heap:=s.heap.update p f,toks:=t }:=by
 have e:(s.heap.update p f).get? p=some { cls:=.type "list",data:=.seq its'.toArray n' }:=by rw[ZF f ho (by rw[hf] <;> rfl),hf]
 refine I.write (by rw[h];trivial) (.inl rfl) (λb u hb q=>(Heap.get?_update_other _ _ (uo hb)).trans q) ⟨_,e⟩ ?_;exact⟨hz,its',n',r,e⟩
noncomputable def Mx:V->V->V->Hp->(Hp->Prop)->Prop:=λo i v H Q=>∃p xs k j,o=.ref p/\i=.int k/\H p=some (.lst xs)/\ixN xs.length k=some j/\Q (upd H p (.lst (xs.set j v)))
def DP:M4 X Mx:=by
 intro pins s σ H o i v ov iv u Q I ro ri rv h;obtain⟨p,xs,k,j,rfl,rfl,hp,hj,q⟩:=h;cases ro;obtain⟨t,rfl⟩:=ri;obtain⟨its,n,r,ho,hz⟩:=I.lst hp;obtain⟨h1,h2,h3,h4⟩:=Bb hj;have hl:=r.length;have hn:=qy;have I':=
  I.lstUpd hp ho (zn its n j u) (r.set rv j) (by rw[pQ];exact hz) s.toks;by_cases h0:0<=k
 ·have hk:k.toNat=j:=by rw[seqIndex_of h0 h4]at h1;exact wq h1
  exact W.ki_setAt ho h0 (by omega) (by rw[w8,<- hl];exact h4) (by rw[hk];exact⟨_,I',q⟩)
 ·have hk:(k+(its.toArray.size:Int)).toNat=j:=by rw[seqIndex_neg (by omega) h3]at h1;rw[w8,<- hl];exact wq h1
  exact W.ki_setBack ho (by omega) (by rw[w8,<- hl];exact h3) (by omega) (by rw[hk];exact⟨_,I',q⟩)
def uQ(lo hi:Option Int)(n:Nat):(sliceBounds lo hi none n).1=((HT.sIx n 0 lo:Nat):Int)/\(sliceBounds lo hi none n).2.1=((HT.sIx n n hi:Nat):Int)/\(sliceBounds lo hi none n).2.2=1:=by
 refine⟨?_,?_,rfl⟩
 ·cases lo with
  |none=>simp[sliceBounds,HT.sIx]
  |some i=>
   simp only[sliceBounds,HT.sIx,Option.getD_none,show(1:Int) > 0 by decide,vP];by_cases h:i<0;·simp only[h,vP] <;> omega
   ·simp only[h,ue] <;> omega
 ·cases hi with
  |none=>simp[sliceBounds,HT.sIx]
  |some i=>
   simp only[sliceBounds,HT.sIx,Option.getD_none,show(1:Int) > 0 by decide,vP];by_cases h:i<0;·simp only[h,vP] <;> omega
   ·simp only[h,ue] <;> omega
def rV(its:List Value)(lo hi:Option Int):slicePick its.toArray lo hi none=((its.drop (HT.sIx its.length 0 lo)).take (HT.sIx its.length its.length hi - HT.sIx its.length 0 lo)).toArray:=by obtain⟨h1,h2,h3⟩:=uQ lo hi its.toArray.size;unfold slicePick;rw[h1,h2,h3];simp only[sliceRange_one,pick_run,w8] <;> rfl
noncomputable def Oz(K:W.Frag):V->Option Int->Option Int->Hp->VK->Prop:=λx lo hi H Q=>∃a xs,x=.ref a/\SqL K H a xs/\∀p,H p=none->Q (.ref p) (upd H p (.lst (Im xs lo hi)))
def Gm:SlR X (Oz X.K):=by intro pins s σ H x v vl vu lo hi sl Q I rx hs pl pu h;obtain⟨a,xs,rfl,hx,q⟩:=h;cases rx;obtain⟨its,r,ht,hz⟩:=I.list hx;have hlen:=r.length;refine⟨"list",_,slot_list_getitem.lookup,ht.isList.typeIs,?_⟩;refine wpAny_getItem_list_slice ht.isList hs pl pu .none (by simp) ?_ (by rw[w8] <;> omega);rw[rV,<- hlen];refine⟨.ref s.heap.objs.size,_,I.laid (λb ob q=>w9 _ q) (z9 _) ?_,rfl,q _ (I.hok.fresh (z9 _))⟩;exact⟨wt (oV xs lo hi) hz,_,0,(r.drop (HT.sIx xs.length 0 lo)).take (HT.sIx xs.length xs.length hi - HT.sIx xs.length 0 lo),v7 _ rfl⟩
def uc:lC X (.type "list") (λxs H Q=>∃p ys,xs=[.ref p]/\(SqL X.K H p ys\/SqT X.K H p ys)/\∀l,H l=none->Q (.ref l) (upd H l (.lst ys))):=by
 intro pins s σ H xs us Q I r h;obtain⟨p,ys,rfl,hq,q⟩:=h;obtain⟨u,rfl,rx⟩:=A2 r;cases rx;have fin:∀(its:List Value),Vals ys its->ys.length<=sizeLine->∀(h':Heap)(c':Nat),(∀b o',s.heap.get? b=some o'->h'.get? b=some o')->
   h'.get? s.heap.objs.size=some { cls:=.type "list",dict:=none,data:=.seq its.toArray c',slots:=#[] }->EP X pins σ Q (.ref s.heap.objs.size) { s with heap:=h' }:=λits r' hz h' c' kp e=>
  ⟨.ref s.heap.objs.size,_,I.laid kp (z9 _) (show ObjOk X.prog X.w _ h' _ (.lst ys) from⟨hz,its,c',r',e⟩),rfl,q _ (I.hok.fresh (z9 _))⟩
 rcases hq with hq|hq;·obtain⟨its,r',pl,hz⟩:=I.list hq;have hlen:=r'.length;obtain⟨o,ho,hc,n,hd⟩:=pl.isList;exact call_list_seq p (.inl rfl) ho hc hd (λh' c' kp e=>fin its r' hz h' c' kp e) (by simp only[w8] <;> omega)
 ·obtain⟨its,r',pl,hz⟩:=I.tuple hq;have hlen:=r'.length;obtain⟨o,ho,hc,n,hd⟩:=pl;exact call_list_seq p (.inr rfl) ho hc hd (λh' c' kp e=>fin its r' hz h' c' kp e) (by simp only[w8] <;> omega)
def ss:lC X (.type "tuple") (λxs H Q=>∃p ys,xs=[.ref p]/\((SqL X.K H p ys/\∀l,H l=none->Q (.ref l) (upd H l (.tup ys)))\/(SqT X.K H p ys/\Q (.ref p) H))):=by
 intro pins s σ H xs us Q I r h;obtain⟨p,ys,rfl,h⟩:=h;obtain⟨u,rfl,rx⟩:=A2 r;cases rx;rcases h with⟨hq,q⟩|⟨hq,q⟩
 ·obtain⟨its,r',pl,hz⟩:=I.list hq;have hlen:=r'.length;refine call_tuple_list pl.isList (λh' kp=>?_) (by simp only[w8] <;> omega);have I1:Inv X pins σ H { s with heap:=h' }:=I.kept kp;have I2:Inv X pins σ (upd H h'.objs.size (.tup ys)) { s with heap:=h'.push { cls:=.type "tuple",data:=.seq its.toArray } }:=
   I1.laid (λb o e=>w9 _ e) (z9 _) (show ObjOk X.prog X.w _ _ _ (.tup ys) from⟨hz,its,r',lH _ _⟩);exact⟨.ref h'.objs.size,_,I2,rfl,q _ (I1.hok.fresh (z9 _))⟩
 ·obtain⟨its,r',pl,hz⟩:=I.tuple hq;exact call_tuple_same pl ⟨.ref p,H,I,rfl,q⟩
noncomputable def tyV(K:W.Frag)(T:String)(x:V)(H:Hp):Prop:=match x with
 |.str _=>T="str"
 |.int _=>T="int"
 |.ref p=>(T="list"/\∃xs,SqL K H p xs)\/(T="tuple"/\∃o,K.lookup p=some o/\o.cls=.type "tuple"/\o.dict=none)\/
   (T="dict"/\((∃kvs,H p=some (.dK kvs))\/∃kvs,H p=some (.dT kvs)))\/(T="set"/\∃S n,H p=some (.set S n))
 |_=>False
def JQ{T:String}{x:V}{v:Value}(I:Inv X pins σ H s)(r:RelV x v)(ty:tyV X.K T x H):
  s.TypeIs v T/\∀a,v=.ref a->∃ob,s.heap.get? a=some ob/\ob.dict=none:=by
 cases x with
 |str z=>obtain⟨t,rfl⟩:=r;cases (show T="str" from ty);exact⟨typeIs_str s z t,λ_ e=>nomatch e⟩
 |int i=>obtain⟨t,rfl⟩:=r;cases (show T="int" from ty);exact⟨lW s i t,λ_ e=>nomatch e⟩
 |ref p=>
  cases r;rcases ty with⟨rfl,xs,hq⟩|⟨rfl,o,hk,hc,hd⟩|⟨rfl,hk⟩|⟨rfl,S,n,hk⟩
  ·obtain⟨its,_,pl,_⟩:=I.list hq;refine⟨pl.isList.typeIs,λa e=>?_⟩;cases e;obtain⟨o,n,e,c,hd,_⟩:=pl;exact⟨o,e,hd⟩
  ·refine⟨⟨o,I.kIn p o hk,hc⟩,λa e=>?_⟩;cases e;exact⟨o,I.kIn _ o hk,hd⟩
  ·have z:∃o,s.heap.get? p=some o/\o.ExactDict:=by
    rcases hk with⟨kvs,hk⟩|⟨kvs,hk⟩;·obtain⟨_,_,_,_,o,_,_,e,ex,_⟩:=I.hok p _ hk;exact⟨o,e,ex⟩
    ·obtain⟨_,_,_,_,o,_,_,e,ex,_⟩:=I.hok p _ hk;exact⟨o,e,ex⟩
   obtain⟨o,e,ex⟩:=z;refine⟨⟨o,e,ex.1⟩,λa e2=>?_⟩;cases e2;exact⟨o,e,ex.2.1⟩
  ·obtain⟨o,_,_,_,e,ex,_⟩:=I.hok p _ hk;refine⟨⟨o,e,ex.1⟩,λa e2=>?_⟩;cases e2;exact⟨o,e,ex.2.1⟩
 |_=>exact False.elim ty
noncomputable def tBM(K:W.Frag)(T:String)(r:V->List V->Hp->VK->Prop)(to:TE)(t:TA):TE:=λσ H Q=>to σ H λx H1=>tyV K T x H1/\t σ H1 λxs H2=>r x xs H2 Q
variable{o e:Expr}{to:TE}{t:TA}{name:Str}{apos cpos:Pos}{T id:String}{r:V->List V->Hp->VK->Prop}
def Dg(pa:PlainAttrs T)(slot:Slot T name id)(hty:typeOf (.builtin id)=pure (.type "method_descriptor"))(hm:MtR X id r)(ho:PE X o to)(ha:PA X (e::es) t)(hbase:attributeBase o name X.env (eval o X.env)=eval o X.env:=by rfl)(hfew:((backTo cpos (starEach (e::es) X.env)).all (λx=>!x.1) && (backToKw cpos (keywordEach [] X.env)).all (λx=>x.1.isSome)
 && decide ((e::es).length+([]:List Keyword).length+(if ([]:List Keyword).isEmpty then 0 else 1)<30))=true:=by rfl)(hline:(apos.endLine==cpos.line)=true:=by rfl)(hs:starEach (e::es) X.env=(false,eval e X.env)::starEach es X.env:=by rfl)(hplain:(backTo cpos (starEach es X.env)).any (·.1)=false:=by rfl):
  PE X (.Call (.Attribute o name apos) (e::es) [] cpos) (tBM X.K T r to t):=by
 intro pins s σ H Q I h;refine wpAny_Call_method_late hbase hfew hline rfl (thn (ho pins s σ H _ I h) λv s1 ⟨x,H1,I1,r1,ty,q1⟩=>?_);obtain⟨h1,h2⟩:=JQ I1 r1 ty;refine⟨T,id,pa,slot,hty,h1,h2,?_⟩;have hA:=ha cpos pins s1 σ H1 _ I1 q1;rw[hs]at hA⊢;refine Calls.callWith_builtin (by show(false || (backTo cpos (starEach es X.env)).any (·.1))=false;rw[hplain] <;> rfl) (Calls.evalArgs_plain ?_);exact thn hA λus s2 ⟨vs,H2,I2,r2,q2⟩=>hm pins s2 σ H2 x vs v us Q I2 r1 r2 q2
/- xs.append(e),list.index on a module's tuple .. are MtR facts of 06m -/
end
noncomputable def MtM(X:Cx)(id:String)(r:V->List V->Hp->VK->Prop):Prop:=
 ∀(pins:List (Addr×Obj))(s:Shared)(σ:St)(H:Hp)(x:V)(xs:List V)(v:Value)(us:List Value)(Q:VK),Inv X pins σ H s->RelV x v->Vals xs us->r x xs H Q->
  wpAny (model X.prog X.w) X.A (call (.builtin id) (v::us)) (EP X pins σ Q) X.xe s
def Vals.one:∀{x:V}{us:List Value},Vals [x] us->∃u,us=[u]/\RelV x u
 |_,_,.cons r .nil=>⟨_,rfl,r⟩
def Vals.two:∀{x y:V}{us:List Value},Vals [x,y] us->∃u v,us=[u,v]/\RelV x u/\RelV y v
 |_,_,_,.cons r (.cons q .nil)=>⟨_,_,rfl,r,q⟩
theorem Vals.rep(h:Vals xs us):∀k:Nat,Vals (List.replicate k xs).flatten (List.replicate k us).flatten
 | 0=>.nil
 |k+1=>by exact Vals.append h (Vals.rep h k)
theorem kZ(its:List Value):∀(k:Nat)(acc:List Value),
  List.foldl (λx1 x2=>x1++x2) acc.toArray (List.replicate k its.toArray)=(acc++(List.replicate k its).flatten).toArray
 | 0,acc=>by simp
 |k+1,acc=>by
  have e:acc.toArray++its.toArray=(acc++its).toArray:=by simp
  have e2:(acc++its)++(List.replicate k its).flatten=acc++(List.replicate (k+1) its).flatten:=by rw[mE,j8,tV]
  rw[<- e2,<- kZ its k (acc++its),<- e,mE,p7]
section
variable{l b:Addr}{ys zs:List V}
def Inv.lset{its':List Value}{n:Nat}{f:Array Value->Array Value}{t':Nat}(I:Inv X pins σ H s)(hH:H l=some (.lst xs))(e:s.heap.get? l=some { cls:=.type "list",data:=.seq its.toArray n })(hf:f its.toArray=its'.toArray)(hv:Vals ys its')(hz:ys.length<=sizeLine):
  Inv X pins σ (upd H l (.lst ys)) { s with heap:=s.heap.update l (Obj.mapSeq f),toks:=t' }:=by
 have q:=PySem.IsL.update e f;rw[hf]at q;refine I.write (x:=l) (by rw[hH];exact trivial) (.inl rfl) (λb' u hb hu=>(Heap.get?_update_other s.heap (Obj.mapSeq f) (uo hb)).trans hu) ⟨_,q⟩ ?_;exact⟨hz,its',_,hv,q⟩
def Inv.lnew{t':Nat}(I:Inv X pins σ H s)(hv:Vals ys its)(hz:ys.length<=sizeLine):
  Inv X pins σ (upd H s.heap.objs.size (.lst ys)) { s with heap:=s.heap.push { cls:=.type "list",data:=.seq its.toArray },toks:=t' }:=
 I.laid (λ_ _ q=>w9 _ q) (z9 _) ⟨hz,its,0,hv,v7 _ rfl⟩
def Inv.fresh(I:Inv X pins σ H s):H s.heap.objs.size=none:=I.hok.fresh (z9 _)
def Inv.lstM(I:Inv X pins σ H s)(hH:H l=some (.lst xs)):xs.length<=sizeLine/\∃(its:List Value)(n:Nat),Vals xs its/\xs.length=its.length/\s.heap.get? l=some { cls:=.type "list",data:=.seq its.toArray n }:=by obtain⟨z,its,n,r,e⟩:=I.hok l _ hH;exact⟨z,its,n,r,r.length,e⟩
def qK{n:Nat}(h:n<=sizeLine):Builtin.List.listTooLong n=false:=by exact v6 (by omega)
end
section
noncomputable def HY:V->List V->Hp->VK->Prop:=λx vs H Q=>∃l xs y,x=.ref l/\vs=[y]/\H l=some (.lst xs)/\xs.length<sizeLine/\Q .non (upd H l (.lst (xs++[y])))
theorem uD:MtM X "list.append" HY:=by intro pins s σ H x vs v us Q I rx rv h;obtain⟨l,xs,y,rfl,rfl,hH,hz,q⟩:=h;cases rx;obtain⟨u,rfl,ru⟩:=rv.one;obtain⟨z,its,n,r,hl,e⟩:=I.lstM hH;refine pR F.slot_list_append ⟨_,e,rfl⟩ F.entry_list_append (F.args_list_append_2 _ _) (PySem.list_append l its.toArray n u (by rw[w8];omega)) ⟨e,?_⟩;refine⟨.non,_,I.lset hH e (by simp) (r.append (.cons ru .nil)) ?_,rfl,q⟩;rw[w6,ZG];omega
noncomputable def GZ:V->List V->Hp->VK->Prop:=λx vs H Q=>∃l b xs zs,x=.ref l/\vs=[.ref b]/\H l=some (.lst xs)/\H b=some (.lst zs)/\xs.length+zs.length<=sizeLine/\Q .non (upd H l (.lst (xs++zs)))
theorem BA:MtM X "list.extend" GZ:=by
 intro pins s σ H x vs v us Q I rx rv h;obtain⟨l,b,xs,zs,rfl,rfl,hH,hB,hz,q⟩:=h;cases rx;obtain⟨u,rfl,ru⟩:=rv.one;cases ru;obtain⟨z,its,n,r,hl,e⟩:=I.lstM hH;obtain⟨z2,its2,n2,r2,hl2,e2⟩:=I.lstM hB;have hsz:its.toArray.size+its2.toArray.size<=sizeLine:=by rw[w8,w8];omega
 have hlong : ¬ (!its.toArray.isEmpty && Builtin.List.listTooLong (its.toArray.size+its2.toArray.size))=true:=by rw[qK hsz,d7];exact rH
 refine pR F.slot_list_extend ⟨_,e,rfl⟩ F.entry_list_extend (F.args_list_extend_2 _ _)
  (AutoSeq1.list_extend_list_list_0 l its.toArray n b its2.toArray n2 hlong (by rw[w8];omega) (by omega)) ⟨e,e2,?_⟩;refine⟨.non,_,I.lset hH e (by simp) (r.append r2) ?_,rfl,q⟩;rw[w6];omega
noncomputable def OB:R2:=λx y H Q=>∃l b xs zs,x=.ref l/\y=.ref b/\H l=some (.lst xs)/\H b=some (.lst zs)/\xs.length+zs.length<=sizeLine/\∀p,H p=none->Q (.ref p) (upd H p (.lst (xs++zs)))
def op_cat:OpR X (binaryOp .Add) OB:=by
 intro pins s σ H x y v u Q I rx ry h;obtain⟨l,b,xs,zs,rfl,rfl,hH,hB,hz,q⟩:=h;cases rx;cases ry;obtain⟨z,its,n,r,hl,e⟩:=I.lstM hH;obtain⟨z2,its2,n2,r2,hl2,e2⟩:=I.lstM hB;refine PySem.P.add_list e e2 ?_ (by rw[w8,w8];omega);have ea:its.toArray++its2.toArray=(its++its2).toArray:=by simp
 rw[ea];exact⟨.ref _,_,I.lnew (t':=s.toks) (r.append r2) (by rw[w6];omega),rfl,q _ I.fresh⟩
noncomputable def OK:R2:=λx y H Q=>∃l k xs,x=.ref l/\y=.int k/\H l=some (.lst xs)/\-(2 ^ 63)<=k/\k<2 ^ 63/\xs.length * k.toNat<=sizeLine/\
 ∀p,H p=none->Q (.ref p) (upd H p (.lst (List.replicate k.toNat xs).flatten))
def rN{α:Type}(xs:List α)(k:Nat):(List.replicate k xs).flatten.length=k * xs.length:=by
 induction k with
 |zero=>simp
 |succ k ih=>rw[mE,j8,w6,ih,Nat.succ_mul,Nat.add_comm]
theorem Ld:OpR X (binaryOp .Mult) OK:=by
 intro pins s σ H x y v u Q I rx ry h;obtain⟨l,k,xs,rfl,rfl,hH,h1,h2,hz,q⟩:=h;cases rx;obtain⟨t,rfl⟩:=ry;obtain⟨z,its,n,r,hl,e⟩:=I.lstM hH;have hlen:its.toArray.size * k.toNat<=sizeLine:=by rw[w8,<- hl];exact hz
 have hcap : ¬ its.toArray.size * k.toNat > (2 ^ 63 - 1) / 8:=by
  have:(sizeLine:Nat)<=(2 ^ 63 - 1) / 8:=by decide
  omega
 have hfit : ¬ (!Builtin.List.listFitsIndex k)=true:=by rw[fitsIndex_both h1 h2];exact rH
 have hlong : ¬ Builtin.List.listTooLong (its.toArray.size * k.toNat)=true:=by rw[qK hlen];exact rH
 have hnew:List.foldl (λx1 x2=>x1++x2) #[] (List.replicate (if its.toArray.isEmpty=true then 0 else k.toNat) its.toArray)=(List.replicate k.toNat its).flatten.toArray:=by
  have f0:∀m:Nat,List.foldl (λx1 x2=>x1++x2) #[] (List.replicate m its.toArray)=(List.replicate m its).flatten.toArray:=λm=>by have:=kZ its m [];rw[p8]at this;exact this
  rw[f0];cases its with
  |nil=>simp
  |cons a r'=>rw[if_neg (by simp)]
 refine wpAny_binaryOp_repeat_ref (T:="list") (U:="int") (by decide) ⟨_,e,rfl⟩ (λs'=>lW s' k t) noFill_list_mul F.fills_int_mul Z7 repeat_list F.slot_int_index.lookup
  (pR Z7 (lW s k t) F.entry_int_rmul (F.args_int_rmul_2 _ _) (int___rmul___int_list k t l its.toArray n)
   ⟨e,rfl,⟨_,e,rfl⟩,pR F.slot_list_mul ⟨_,e,rfl⟩ F.entry_list_mul (F.args_list_mul_2 _ _) (AutoListH.list___mul___list_int_3 l its.toArray n k t hfit hcap hlong) ⟨e,?_⟩⟩);rw[hnew];exact⟨.ref _,_,I.lnew (t':=s.toks) (r.rep k.toNat) (by rw[rN,Z8];exact hz),rfl,q _ I.fresh⟩
end
end L2
namespace Att
open PySem PySem.W PySem.Calls PyProof.Rows
def oA{P:Params}:∀(ns:List Int)(vs:List Value),WellAll P h vs (ns.map WData.int)->IntsAre vs ns:=by
 intro ns;induction ns with
 |nil=>intro vs w;cases w;exact .nil
 |cons n ns ih=>
  intro vs w;cases w with
  |cons a b=>cases a;exact .cons _ _ (ih _ b)
def AN{l:OpenLaw}{n:Nat}(hn:l.most=some n){P:Params}{args:List WData}{vals:List Value}(hpre:l.row.toRowW.claim.pre args=true)(hwl:WellAll P h vals args):
  ∃a vs ns,vals=[Value.ref a]/\args=[WData.list (ns.map WData.int)]/\h.get? a=some { cls:=.type "list",data:=.seq vs.toArray }/\IntsAre vs ns/\ns.length<=n:=by
 have hsh:=(pre_splitW hpre).1;have hc:l.pre.holds [] { args:=args }=true:=(pre_splitW hpre).2;obtain⟨d,r,rfl,h1,h2⟩:=hasAllW_cons hsh;obtain rfl:=hasAllW_nil h2;obtain⟨xs,rfl,h3⟩:=hasW_list h1;obtain⟨ns,rfl⟩:=items_int h3;have hlen:ns.length<=n:=by
  have h4:(WTm.not (.lt (.lit (.int (n:Int))) (.len (.arg 0)))).holds [] { args:=[.list (ns.map .int)] }=true:=by have h4:=(holds_andW hc).1;rw[hn]at h4;exact h4
  have h5:=condW_of h4 (w_not (w_lt w_lit (w_len_list (w_arg rfl))))
  first
   | (rw[qQ q']at h5;exact absurd h5 (by decide))
   | (simp at h5;omega)
 cases hwl with
 |cons w1 w2=>
  cases w2;cases w1 with
  |list ho hall=>exact⟨_,_,ns,rfl,rfl,ho,oA ns _ hall,hlen⟩
def BI(l:OpenLaw)(args:List WData):l.row.toRowW.claim.post args (.bool true) args=true:=
 postW_of
  (show WShape.has [] (.bool true) .bool=true by first|rfl|decide|simp[WShape.has,WShape.arms,WShape.armsAll])
  (show(WTm.eq .res (.lit (.bool true))).value [] { args:=args,res:=some (.bool true),after:=args }=some (.bool (true==true)) from w_eq_bool (w_res rfl) w_lit) rfl
def attach_call{l:OpenLaw}{n:Nat}{q:Program}{XP:(Str->Option Value)->Heap->Prop}{YP:World->Heap->Prop}{d:DefRec}(hn:l.most=some n)(hdf:d.params.defaults=[])(call:∀(w:World)(s₀ s₁:Shared)(mg mb:Str->Option Value)(fa:Addr)(o:Obj)(pm cd doc:Value)(a:Addr)(vs:List Value)(ns:List Int),
 Ground q loose [] XP w s₀ mg mb s₁.heap->YP w s₁.heap->
 s₁.heap.get? fa=some o->o.data=.func (docDef d.name d.params d.body d.scope pm cd doc)->s₁.heap.CodeRec cd d.name->mg d.name=some (.ref fa)->
 s₁.heap.get? a=some { cls:=.type "list",data:=.seq vs.toArray }->IntsAre vs ns->ns.length<=n->s₁.gens = #[]->
 codeAny (model l.prog w) callerA (.call (.ref fa) ⟨[.ref a],[]⟩) (λr s'=>r=.ok (.ret (.bool true))/\OldK s₁.heap s'.heap/\s'.os=s₁.os/\AllBare s'.gens) s₁):
  WalkO q loose XP YP l.row.toRowW d [] (λf vs=>PySem.call f vs):=by
 intro w s₀ s₁ mg mb G Y fa o pm cd doc dV kV ho hd hcd hD hmg hg args vals as hpre hlay hrd hwl hlo;obtain rfl:dV=.none:=Dflts.none hD hdf;obtain rfl:kV=.none:=Dflts.noKw hD;obtain⟨a,vs,ns,rfl,rfl,hobj,hints,hlen⟩:=AN hn hpre hwl;refine enter_call (d8 (call w s₀ s₁ mg mb fa o pm cd doc a vs ns G Y ho (fd_plain hd) hcd hmg hobj hints hlen hg) λr s' hq=>?_);obtain⟨rfl,h2,h3,h4⟩:=hq;exact⟨.inl ⟨.bool true,.bool true,[],rfl,λ_=>rfl,.bool true,BI l _,λ_=>⟨List.Pairwise.nil,λ_ hm=>(nomatch hm)⟩⟩,h2,h3,h4⟩
section
variable{prog:Program}{w:World}{A:Around}{K:Frag}
noncomputable def OA(h:Heap)(L d:Addr):List (Addr×Obj):=(List.range h.objs.size).filterMap λa=>if a=L\/a=d then none else (h.get? a).map λo=>(a,o)
end
end Att
namespace L2
open PySem PySem.Spec PyProof.Rows
theorem tY:∀{vs:List Value}{ns:List Int},IntsAre vs ns->Vals (ns.map V.int) vs
 |_,_,.nil=>.nil
 |_,_,.cons n t h=>.cons ⟨t,rfl⟩ (tY h)
def MX(H:Hp):Prop:=∀b,H b=none\/∃o xs,H b=some (.frz o (.lst xs))
def Ep{w:World}{K:W.Frag}{mg mb:Str->Option Value}{fa:Addr}{sp:Sp}{s₁:Shared}{vs:List Value}{ns:List Int}(KX:K.In s₁.heap)(hns:s₁.heap.Ns mainGlobals mg)(hb:s₁.heap.Ns builtinsNs mb)(hbb:∀x:Str,x≠"__name__"->mb x=bootBuiltins x)(hlim:s₁.heap.NoLimit)(hg:s₁.gens = #[])(ha:s₁.heap.get? a=some { cls:=.type "list",data:=.seq vs.toArray })(hi:IntsAre vs ns)(hl:ns.length<=sizeLine)(hr:Room k callerA)(F:∀base:Heap,K.In base->base.Ns mainGlobals mg->FnOk P w K mg base CX k fa fd [x] sp)(hbind:∀(s:Shared)(u:Value),BindsTo s fd ⟨[u],[]⟩ [(x,u)])(hsp:∀H:Hp,MX H->SqL K H a (ns.map V.int)->sp [.ref a] H (λv _=>v=.bl true) λ_ _ _=>False)(hCX:∀H e s',CX [] H s₁ (λ_ _ _=>False) e s'->False):
  codeAny (model P w) callerA (.call (.ref fa) ⟨[.ref a],[]⟩) (λr s'=>r=.ok (.ret (.bool true))/\OldK s₁.heap s'.heap/\s'.os=s₁.os/\AllBare s'.gens) s₁:=by
 have rv:=tY hi;have lenV:=hi.length;have core:∀H:Hp,MX H->SqL K H a (ns.map V.int)->HOk P w H s₁.heap->(∀b,H b≠none->b=a)->(H a≠none->K.lookup a=none)->
   codeAny (model P w) callerA (.call (.ref fa) ⟨[.ref a],[]⟩) (λr s'=>r=.ok (.ret (.bool true))/\OldK s₁.heap s'.heap/\s'.os=s₁.os/\AllBare s'.gens) s₁:=by
  intro H hO hS hok hA hK;have base_of:∀{b:Addr}{o:Obj},s₁.heap.get? b=some o->H b=none->(CJ s₁.heap H).get? b=some o:=λe n=>C3 e n;have noA:∀{b:Addr}{o:Obj}{es:Array DictEntry}{ep:Nat},s₁.heap.get? b=some o->o.data=.dict es ep->H b=none:=λ{b o es ep} e d=>by
   cases q:H b with
   |none=>rfl
   |some u=>have e':=hA b (by rw[q];simp);subst e';rw[ha]at e;cases e;have d':=d;cases d'
  have nsK:∀{b:Addr}{m:Str->Option Value},s₁.heap.Ns b m->(CJ s₁.heap H).Ns b m:=λ{b m} ⟨o,es,ep,e,d,r⟩=>⟨o,es,ep,base_of e (noA e d),d,r⟩
  have hKb:K.In (CJ s₁.heap H):=λb o e=>base_of (KX b o e) (by
   cases q:H b with
   |none=>rfl
   |some u=>have e':=hA b (by rw[q];simp);subst e';rw[hK (by rw[q];simp)]at e;cases e);have hM:Mod K mg (CJ s₁.heap H):=⟨hKb,nsK hns,⟨mb,nsK hb,hbb⟩,let⟨mc,h1,h2⟩:=hlim;⟨mc,nsK h1,h2⟩⟩
  have e0:Env0 P w K mg (CJ s₁.heap H) callerA [] s₁ H:=⟨rfl,hM,λb o e=>G6 e,k7 (BG _ _),trivial,λb hb=>absurd (show b∈([]:List Addr) from hb) (by simp),hok,.of_eq hg,B5 _ _⟩
  refine d8 ((F _ hKb (nsK hns)).run callerA [] s₁ H ⟨[.ref a],[]⟩ [.ref a] [.ref a] _ _ hr e0 (hbind s₁ (.ref a)) (.cons rfl .nil) (hsp H hO hS)) λr s' h=>?_;cases r with
  |error e=>exact(hCX H e s' h).elim
  |ok fl=>
   cases fl with
   |next=>exact False.elim h
   |brk=>exact False.elim h
   |cont=>exact False.elim h
   |ret u=>
    obtain⟨v,H',os,bare,un,hok',r',q⟩:=h;have q':=q;subst q';obtain rfl:u=Value.bool true:=r';refine⟨rfl,OldK.of_keep λb o e=>?_,os,bare⟩;cases q:H b with
    |none=>exact un.keep b o e q (by intro z;exact absurd (show b∈([]:List Addr) from z) (by simp)) (by simp)
    |some u=>
     rcases hO b with z|⟨ob,xs,z⟩;·rw[q]at z;cases z
     ·have z2:=un.frzs b ob _ z;obtain⟨e1,_⟩:=hok b _ z;obtain⟨e2,_⟩:=hok' b _ z2;rw[e]at e1;cases e1;exact e2
 cases hk:K.lookup a with
 |some o=>have e:=KX a o hk;rw[ha]at e;cases e;refine core (λ_=>none) (λ_=>.inl rfl) (.inr ⟨_,vs.toArray,_,hk,rfl,rfl,rfl,by rw[w8,lenV];exact hl,by simpa using rv⟩) (λb u z=>by have z':=z;cases z') (λb z=>absurd rfl z) λz=>absurd rfl z
 |none=>
  refine core (λb=>if b=a then some (.frz { cls:=.type "list",data:=.seq vs.toArray } (.lst (ns.map V.int)))else none) (λb=>?_) (.inl (.inr ⟨{ cls:=.type "list",data:=.seq vs.toArray },if_pos rfl⟩)) (λb u z=>?_) (λb z=>?_) λ_=>hk
  ·by_cases hb:b=a;·exact .inr ⟨_,_,if_pos hb⟩
   ·exact .inl (if_neg hb)
  ·by_cases hb:b=a;·have z':=(if_pos hb).symm.trans z;cases z';subst hb;exact⟨ha,by rw[zy];exact hl,vs,_,rv,ha⟩
   ·have z':=(if_neg hb).symm.trans z;cases z'
  ·by_cases hb:b=a;·exact hb
   ·exact absurd (if_neg hb) z
abbrev KOf{K:W.Frag}{h:Heap}(_:K.In h):W.Frag:=K
def AK{l:W.OpenLaw}{n:Nat}{q:Program}{XP:(Str->Option Value)->Heap->Prop}{YP:World->Heap->Prop}{d:DefRec}{K:Params->W.Frag}{CX:World->CXT}{sp:World->Sp}(hn:l.most=some n)(hn2:n<=sizeLine)(hdf:d.params.defaults=[])(hr:Room k callerA)(hY:∀(w:World)(h:Heap),YP w h->(K w.params).In h)(F:∀(w:World)(mg:Str->Option Value)(fa:Addr)(h:Heap),(K w.params).In h->h.Ns mainGlobals mg->mg d.name=some (.ref fa)->
 ∃fd:FuncData,(∀(s:Shared)(u:Value),BindsTo s fd ⟨[u],[]⟩ [(x,u)])/\
 ∀base:Heap,(K w.params).In base->base.Ns mainGlobals mg->FnOk l.prog w (K w.params) mg base (CX w) k fa fd [x] (sp w))(hsp:∀(w:World)(H:Hp)(a:Addr)(ns:List Int),ns.length<=n->MX H->SqL (K w.params) H a (ns.map V.int)->sp w [.ref a] H (λv _=>v=.bl true) λ_ _ _=>False)(hCX:∀(w:World)(H:Hp)(s:Shared)(e:Value)(s':Shared),CX w [] H s (λ_ _ _=>False) e s'->False):
  W.WalkO q loose XP YP l.row.toRowW d [] (λf vs=>PySem.call f vs):=by
 refine Att.attach_call hn hdf λw s₀ s₁ mg mb fa o pm cd doc a vs ns G Y ho hd hcd hmg hobj hints hlen hg=>?_;have KX:=hY w _ Y;obtain⟨fd,hb,hF⟩:=F w mg fa _ KX G.T.g hmg;exact Ep KX G.T.g G.T.b G.T.builtins G.T.nolimit hg hobj hints (wt hlen hn2) hr hF hb (λH hO hS=>hsp w H a ns hlen hO hS) λH e s'=>hCX w H s₁ e s'
end L2
/- THE LAST THEOREM (shape;LID,My.* are yours):
  My.Adr: a structure of the addresses that your layer names (classes,functions);My.Txt K t: a structure (Prop) of the equations over K;
  My.txt_mk:{K} {implicit addresses ..} (e1:nsIn K mainGlobals "law"=some (some (.ref f))) (e2:K.lookup f=some ⟨oc,od,.func (fnOf "law" "law" params body scope dV kV doc pm an cdv ct),sl⟩) (e3:codeIn K cdv "law"=true) .. : ∃ t,My.Txt K t
set_option maxRecDepth 100000 in
set_option maxHeartbeats 0 in
def PySem.Challenge.cw_LID_holds : PySem.Challenge.rw_LID.Holds := by
 w_on;o_law;k_head;(case hw=>w_witness2)
 k_fill
 refine L2.AK (l:=PySem.Challenge.rw_LID) (n:=63) (k:=40) (x:="script") (CX:=λw=>..) (sp:=λ_=>My.sp_law) rfl (by decide) rfl ⟨rfl,by decide,by decide⟩ (λw h Y=>PySem.W.kIn_of Y) ?F ?S ?C
 case F=>
  intro w mg fa h KX G hmg;have T:∃t,My.Txt (L2.KOf KX) t:=by
   dsimp only[L2.KOf]
   refine' My.txt_mk ?e1 ?e2 ?e3 ..
   (case e1=>PySem.W.k_is)
   (case e2=>PySem.W.k_is)
   ..
  obtain⟨t,T⟩:=T;have e0:=hmg.symm.trans (o4 KX G T.law);cases e0;exact⟨_,λs u=>.of_eq rfl,λbase kb nb=>My.law_fn T kb nb⟩
 case S=>exact λw H a ns hl hO hS=>..
 case C=>exact ..
(the tactic k_is has no namespace: write k_is) -/
namespace L2
open PySem PySem.Spec PyProof.Rows
noncomputable def kr(s:Stmt):Arguments:=match s with
 |.FunctionDef _ a _ _ _ _ _ _ _ _=>a
 |_=>{ posonlyargs:=[],args:=[],vararg:=none,kwonlyargs:=[],kw_defaults:=[],kwarg:=none,defaults:=[] }
noncomputable def db(s:Stmt):List Stmt:=match s with
 |.FunctionDef _ _ b _ _ _ _ _ _ _=>b
 |_=>[]
noncomputable def am(s:Stmt):Scope:=match s with
 |.FunctionDef _ _ _ _ _ _ sc _ _ _=>sc
 |_=>{ kind:=.function,names:=[],isGenerator:=false,isCoroutine:=false }
structure Fun(K:PySem.W.Frag)(x qual:Str)(st:Stmt)(f:Addr)(fd:FuncData):Prop where
 ex:∃(oc:Value)(od:Option Addr)(kV doc pm:Value)(an:Option Addr)(cdv ct:Value)(osl:Array (Option Value)),
  fd=PySem.W.fnOf x qual (kr st) (db st) (am st) .none kV doc pm an cdv ct/\K.lookup f=some ⟨oc,od,.func fd,osl⟩/\PySem.W.codeIn K cdv qual=true
 kp:PySem.W.keepIn K (.ref f)=true
section
variable{w:World}{K:PySem.W.Frag}{mg:Str->Option Value}{base:Heap}
def Fun.binds(F:Fun K x qual st f fd)(h:∀(kV doc pm:Value)(an:Option Addr)(cdv ct:Value)(us:List Value),us.length=ps.length->bindArgs (PySem.W.fnOf x qual (kr st) (db st) (am st) .none kV doc pm an cdv ct) ⟨us,[]⟩=pure (ps.zip us)):Binds K fd ps []:=by
 obtain⟨oc,od,kV,doc,pm,an,cdv,ct,osl,rfl,lk,hcd⟩:=F.ex;exact .all (h kV doc pm an cdv ct)
def Jt{oc:Value}{an:Option Addr}{kV doc pm ct:Value}(l:K.lookup f=some ⟨oc,od,.func (PySem.W.fnOf x qual (kr st) (db st) (am st) .none kV doc pm an cdv ct),osl⟩)(c:PySem.W.codeIn K cdv qual=true)(k:PySem.W.keepIn K (.ref f)=true):Fun K x qual st f (PySem.W.fnOf x qual (kr st) (db st) (am st) .none kV doc pm an cdv ct):=⟨⟨oc,od,kV,doc,pm,an,cdv,ct,osl,rfl,l,c⟩,k⟩
end
def Same(H H':Hp):Prop:=∀b o,H b=some o->H' b=some o
def Same.refl(H:Hp):Same H H:=λ_ _ h=>h
def Same.trans{H1 H2:Hp}(a:Same H H1)(b:Same H1 H2):Same H H2:=λc o h=>b c o (a c o h)
def Same.free(e:Same H H'){l:Addr}(h:H' l=Option.none):H l=Option.none:=by
 cases q:H l with
 |none=>rfl
 |some o=>rw[e l o q]at h;cases h
def Same.seq{K:PySem.W.Frag}(e:Same H H')(h:SqL K H a xs):SqL K H' a xs:=by
 rcases h with (h|⟨o,h⟩)|h;·exact .inl (.inl (e _ _ h))
 ·exact .inl (.inr ⟨o,e _ _ h⟩)
 ·exact .inr h
end L2
namespace L2
open PySem PySem.Spec PyProof.Rows
open PySem.MeetsSeq PySem.MeetsSeq2 PySem.MeetsSeq3
section
variable{prog:Program}{w:World}{A:Around}
theorem GW{Q:Int->Shared->Prop}(h:Q (if b then 1 else 0) { s with toks:=s.toks+1 }):wpAny (model prog w) A (pyHash (.bool b)) Q E s:=by
 have t:s.TypeIs (.bool b) "bool":=rfl;refine z8 (zc ?_);refine z8 (Z9 t F.slot_bool_hash.lookup ?_);refine z8 (Z9 t F.slot_bool_hash.lookup ?_);refine z8 (wpAny_callSpecialIfBoundUnlessNone?_slot t F.slot_bool_hash (n8 F.slot_bool_hash t F.entry_int_hash ?_ (F.args_int_hash_1 _)));cases b
 ·wp_walk
  exact⟨.int 0 _,rfl,zc h⟩
 ·wp_walk
  exact⟨.int 1 _,rfl,zc h⟩
noncomputable def uu(prog:Program)(w:World):PySem.KeyKind prog w Bool where
 is:=λk v=>match v with
  |.bool b=>b==k
  |_=>false
 hash:=λk=>if k then 1 else 0
 inj:=λv a b ha hb=>by cases v <;> simp_all
 byValue:=λk v h=>by cases v <;> simp_all[carriedByValue]
 pyHash:=λ{A E s k v Q} hv h=>by cases v <;> simp_all;exact GW h
 eqBool:=λ{A E s a b u v Q} hu hv h=>by
  cases u <;> simp_all;cases v <;> simp_all;have e:decide (a=b)=(a==b):=by cases a <;> cases b <;> rfl
  rw[e]at h;exact PySem.SeqAt.EqAt.bool_bool a b prog w E Q h
 «strs»:=λk x t v h=>by simp at h
end
abbrev DX:=List (List Bool×Addr×V)
abbrev DU:=List (List Bool×Addr×Value)
noncomputable def um(bs:List Bool):Int:=reduceHash (Builtin.Tuple.tupleHashOf (bs.map λk=>if k then 1 else 0))
noncomputable abbrev DRel:DX->DU->Prop:=Paired λp q=>p.1=q.1/\p.2.1=q.2.1/\RelV p.2.2 q.2.2
noncomputable def Gx(a:Addr)(o:Obj)(xs:DX):Heap->Prop:=λh=>h.get? a=some o/\xs.length<=sizeLine/\(a==sysModules)=false/\o.ExactDict/\∃us:DU,DRel xs us/\
 ∃es ep,o.data=.dict es ep/\es.toList=us.map (λx=>⟨um x.1,.ref x.2.1,x.2.2⟩)/\(us.map (·.1)).Nodup
def DctO(a:Addr)(o:Obj)(xs:DX):HO:=.ext (Gx a o xs)
def DctO.ok{w:World}{o:Obj}{xs:DX}(d:Gx a o xs h):ObjOk P w H h a (DctO a o xs):=
 ⟨d,⟨o,d.1⟩,λ_ _ p st=>⟨st o p.1,p.2⟩⟩
noncomputable def jx(K:PySem.W.Frag)(H:Hp)(xs:DX):Prop:=∀x∈xs,SqT K H x.2.1 (x.1.map V.bl)
noncomputable def pM(xs:DX)(k:List Bool):Option V:=(xs.find? λx=>decide (x.1=k)).map (·.2.2)
theorem ye{P:Program}{w:World}:∀{bs:List Bool}{us:List Value},Vals (bs.map V.bl) us->ItemsAre (uu P w) bs us
 | [],_,r=>by rw[n9]at r;cases r;exact .nil
 |b::bs,_,r=>by
  cases r with
  |cons h t=>
   obtain rfl:=(show _=Value.bool b from h)
   exact .cons (by simp[uu]) (ye t)
theorem DRel.find{k:List Bool}:∀{xs:DX}{us:DU},DRel xs us->RelO (pM xs k) ((atKey us k).map (·.2))
 |_,_,.nil=>trivial
 |x::xs,u::us,.cons ⟨h1,h2,h3⟩ t=>by
  have ih:=DRel.find (k:=k) t;unfold pM atKey at ih⊢;by_cases e:x.1=k;·have e':=h1▸e;simp only[ZH,e,e',d9,tU];exact h3
  ·have e' : ¬ u.1=k:=λz=>e (h1.trans z);simp only[ZH,e,e',dh];exact ih
def DRel.isSome{k:List Bool}{xs:DX}{us:DU}(r:DRel xs us):(pM xs k).isSome=(atKey us k).isSome:=by have h:=r.find (k:=k);revert h;cases pM xs k <;> cases atKey us k <;> intro h <;> first|rfl|exact h.elim
section
variable{o:Obj}{xs:DX}{k:List Bool}{A:Around}
def qr(I:Inv X pins σ H s)(h:SqT X.K H q (k.map V.bl)):(tupleKind (uu X.prog X.w)).is s.heap k q:=by obtain⟨its,rv,⟨o,h1,h2,n,h3⟩,_⟩:=I.tuple h;exact⟨o,its.toArray,n,h1,h2,h3,by simpa using ye rv⟩
def qm(I:Inv X pins σ H s)(e:H a=some (DctO a o xs))(kk:jx X.K H xs):xs.length<=sizeLine/\(a==sysModules)=false/\∃us:DU,DRel xs us/\s.heap.DictOfH (tupleKind (uu X.prog X.w)) a us:=by
 obtain⟨⟨h1,z1,z2,h2,us,r,es,ep,h3,h4,h5⟩,_⟩:=(show ObjOk X.prog X.w H s.heap a (DctO a o xs) from I.hok a _ e)
 refine⟨z1,z2,us,r,o,es,ep,h1,h2,h3,h4,λu hu=>?_,h5⟩;have all:∀{l:DX}{m:DU},DRel l m->(∀x∈l,SqT X.K H x.2.1 (x.1.map V.bl))->∀u∈m,(tupleKind (uu X.prog X.w)).is s.heap u.1 u.2.1:=by
  intro l m q;induction q with
  |nil=>intro _ u hu;exact nomatch hu
  | @cons x y ps qs hq t ih=>
   intro hl u hu;rcases zL.mp hu with z|hu
   ·subst z;have:=qr I (hl x (zx ..));rw[hq.1,hq.2.1]at this;exact this
   ·exact ih (λx hx=>hl x (zF _ hx)) u hu
 exact all r kk u hu
def Hn{Q:Value->Shared->Prop}(hu:A.units+1<cLine)(I:Inv X pins σ H s)(e:H a=some (DctO a o xs))(kk:jx X.K H xs)(hk:SqT X.K H q (k.map V.bl))(hv:pM xs k=some v)(h:∀w' s',Inv X pins σ H s'->RelV v w'->Q w' s'):
  wpAny (model X.prog X.w) A (getItem (.ref a) (.ref q)) Q E s:=by
 obtain⟨z,hd,us,rel,dd⟩:=qm I e kk;obtain⟨w',hw,rw'⟩:=RelO.some_of (by rw[<- hv];exact rel.find);obtain⟨p,hp,hp2⟩:=Option.map_eq_some_iff.mp hw;refine wpAny_getItem_heap (Za hu) (qr I hk) dd hp ?_;rw[hp2];exact h w' _ (I.tok _) rw'
def Lg{Q:Value->Shared->Prop}(hu:A.units+1<cLine)(I:Inv X pins σ H s)(e:H a=some (DctO a o xs))(kk:jx X.K H xs)(hk:SqT X.K H q (k.map V.bl))(h:∀s',Inv X pins σ H s'->Q (.bool (pM xs k).isSome) s'):
  wpAny (model X.prog X.w) A (compareOp .In (.ref q) (.ref a)) Q E s:=by
 obtain⟨z,hd,us,rel,dd⟩:=qm I e kk;refine wpAny_in_heap (Za hu) (qr I hk) hd dd ?_;rw[<- rel.isSome];exact h _ (I.tok _)
def A1{Q:Value->Shared->Prop}(hu:A.units+1<cLine)(I:Inv X pins σ H s)(e:H a=some (DctO a o xs))(kk:jx X.K H xs)(hk:SqT X.K H q (k.map V.bl))(h:∀s',Inv X pins σ H s'->Q (.bool (!(pM xs k).isSome)) s'):
  wpAny (model X.prog X.w) A (compareOp .NotIn (.ref q) (.ref a)) Q E s:=by
 obtain⟨z,hd,us,rel,dd⟩:=qm I e kk;refine wpAny_notIn_heap (Za hu) (qr I hk) hd dd ?_;rw[<- rel.isSome];exact h _ (I.tok _)
noncomputable def ED(xs:DX)(k:List Bool)(q:Addr)(v:V):DX:=if (pM xs k).isSome then xs.map (λx=>if x.1=k then (x.1,x.2.1,v)else x)else xs++[(k,q,v)]
theorem DRel.snoc:∀{xs:DX}{us:DU}{x:List Bool×Addr×V}{u:List Bool×Addr×Value},DRel xs us->(x.1=u.1/\x.2.1=u.2.1/\RelV x.2.2 u.2.2)->DRel (xs++[x]) (us++[u])
 |_,_,_,_,.nil,h=>.cons h .nil
 |_,_,_,_,.cons a t,h=>.cons a (DRel.snoc t h)
def DRel.put{xs:DX}{us:DU}(r:DRel xs us)(q:Addr)(rv:RelV v u):DRel (ED xs k q v) (storedH us k q u):=by
 have e:(pM xs k).isSome=(atKey us k).isSome:=r.isSome;unfold ED storedH;rw[e];by_cases z:(atKey us k).isSome=true
 ·rw[if_pos z,if_pos z];clear e z;induction r with
  |nil=>exact .nil
  | @cons x y ps qs h t ih=>
   obtain⟨h1,h2,h3⟩:=h;rw[xk,xk];refine .cons ?_ ih;unfold putAt;by_cases z:x.1=k;·rw[if_pos z,if_pos (h1▸z)];exact⟨h1,h2,rv⟩
   ·rw[if_neg z,if_neg (λy=>z (h1.trans y))];exact⟨h1,h2,h3⟩
 ·rw[if_neg z,if_neg z];exact DRel.snoc r ⟨rfl,rfl,rv⟩
def EK(xs:DX)(k:List Bool)(q:Addr)(v:V):(ED xs k q v).length<=xs.length+1:=by unfold ED;split <;> simp
def Ga{Q:Unit->Shared->Prop}(hu:A.units+1<cLine)(I:Inv X pins σ H s)(e:H a=some (DctO a o xs))(kk:jx X.K H xs)(hk:SqT X.K H q (k.map V.bl))(hl:xs.length<sizeLine)(rv:RelV v u)(h:∀o' s',Inv X pins σ (upd H a (DctO a o' (ED xs k q v))) s'->Q () s'):
  wpAny (model X.prog X.w) A (setItem (.ref a) (.ref q) u) Q E s:=by
 obtain⟨z,hd,us,rel,dd⟩:=qm I e kk;have hz:us.length<=sizeLine:=by rw[<- ig rel];exact z
 refine wpAny_setItem_heap (Za hu) (qr I hk) dd λh' dd' hs=>?_;obtain⟨o',es,ep,h1,h2,h3,h4,_,h5⟩:=dd';refine h o' _ (I.write (by rw[e];trivial) (.inl rfl) (λb y hb z=>(hs.2 b hb).trans z) ⟨o',h1⟩ (DctO.ok ⟨h1,?_,hd,h2,_,rel.put q rv,es,ep,h3,h4,h5⟩));have:=EK xs k q v;omega
end
end L2
namespace L2
open PySem PySem.Spec PyProof.Rows
def Inv.big0(I:Inv X pins σ H s):(s.heap.objs.size==sysModules)=false:=by have h:=(I.mod.glob.keeps I.bk).lt;exact r6.mpr λe=>by rw[e]at h;exact absurd h (by decide)
section
def Nz:TE:=λ_ H Q=>∀p o,H p=none->Q (.ref p) (upd H p (DctO p o []))
def Gu:PE X (.Dict [] [] pos) Nz:=λpins s σ H Q I h=>wpAny_Dict_empty ⟨.ref s.heap.objs.size,_,I.laid (λ_ _ q=>w9 _ q) (z9 _) (DctO.ok ⟨v7 _ rfl,wA _,I.big0,⟨rfl,rfl,rfl⟩,[],.nil,#[],0,rfl,rfl,List.nodup_nil⟩),rfl,h _ _ (I.hok.fresh (z9 _))⟩
noncomputable def Nf(tk tv:TE)(K:PySem.W.Frag):TE:=λσ H Q=>∀p o,H p=none->tk σ (upd H p (DctO p o [])) λx H1=>tv σ H1 λy H2=>H2 p=some (DctO p o [])/\∃q bs,x=.ref q/\SqT K H2 q (bs.map V.bl)/\∀o',Q (.ref p) (upd H2 p (DctO p o' [(bs,q,y)]))
def HB{k v:Expr}{tk tv:TE}(hu:X.A.units+1<cLine)(hk:PE X k tk)(hv:PE X v tv):PE X (.Dict [some k] [v] pos) (Nf tk tv X.K):=λpins s σ H Q I h=>by have hn:=I.hok.fresh (z9 s.heap.objs.size);have I1:Inv X pins σ (upd H s.heap.objs.size (DctO s.heap.objs.size { cls:=.type "dict",data:=.dict #[] } [])) { s with heap:=s.heap.push { cls:=.type "dict",data:=.dict #[] } }:=I.laid (λ_ _ q=>w9 _ q) (z9 _) (DctO.ok ⟨v7 _ rfl,wA _,I.big0,⟨rfl,rfl,rfl⟩,[],.nil,#[],0,rfl,rfl,List.nodup_nil⟩);refine wpAny_Dict_any rfl rfl (by simp) (by show 1<=15;decide) (pairTrees_cons_walk (thn (hk pins _ σ _ _ I1 (h _ _ hn)) λu s1 ⟨x,H1,I2,rx,q1⟩=>thn (hv pins s1 σ H1 _ I2 q1) λw s2 ⟨y,H2,I3,ry,hp,q,bs,ex,hq,q2⟩=>pairTrees_nil_walk ?_));subst ex;cases rx;obtain⟨z,hd,us,rel,dd⟩:=qm I3 hp (λ_ hx=>nomatch hx);cases rel;refine z8 (z8 (wpAny_dictSet_heap (show X.A.units<cLine by omega) (qr I3 hq) dd λh' dd' hs=>?_));refine zc ?_;obtain⟨o,es,ep,h1,h2,h3,h4,_,h5⟩:=dd';refine zc ⟨.ref _,_,?_,rfl,q2 o⟩;exact I3.write (by rw[hp];trivial) (.inl rfl) (λb y hb z=>(hs.2 b hb).trans z) ⟨o,h1⟩ (DctO.ok ⟨h1,by show 1<=sizeLine;decide,hd,h2,_,.cons ⟨rfl,rfl,ry⟩ .nil,es,ep,h3,h4,h5⟩)
end
def EA:∀a b c d:Bool,um [a,b]=um [c,d]->[a,b]=[c,d]:=by decide +kernel
theorem Ff{α:Type}{f:α->Int}{c:Int}:∀{l:List α},(l.map f).Nodup->(l.filter λx=>f x==c).length<=1
 | [],_=>by simp
 |a::l,h=>by
  rw[xk,l8]at h;by_cases e:f a=c;·have z:=List.filter_eq_nil_iff.2 λx hx q=>h.1 (wU.2 ⟨x,hx,by rw[e];exact g9 q⟩);rw[dj (by simp[e]),z];simp
  ·rw[dq (by simp[e])];exact Ff h.2
def M9(xs:DX):Prop:=∀x∈xs,∃a b,x.1=[a,b]
theorem tW:∀{us:DU},(∀u∈us,∃a b,u.1=[a,b])->(us.map (·.1)).Nodup->(us.map λu=>um u.1).Nodup
 | [],_,_=>List.nodup_nil
 |u::us,h2,hn=>by rw[xk,l8]at hn⊢;refine⟨λhm=>hn.1 ?_,tW (λx hx=>h2 x (zF _ hx)) hn.2⟩;obtain⟨y,hy,e⟩:=wU.1 hm;obtain⟨a,b,e1⟩:=h2 u (zx ..);obtain⟨c,d,e2⟩:=h2 y (zF _ hy);rw[e1,e2]at e;exact wU.2 ⟨y,hy,by rw[e1,e2];exact EA _ _ _ _ e⟩
theorem DRel.twos:∀{xs:DX}{us:DU},DRel xs us->M9 xs->∀u∈us,∃a b,u.1=[a,b]
 |_,_,.nil,_,u,hu=>nomatch hu
 |x::xs,y::us,.cons h t,h2,u,hu=>by
  rcases zL.1 hu with rfl|hu;·obtain⟨a,b,e⟩:=h2 x (zx ..);exact⟨a,b,h.1▸e⟩
  ·exact DRel.twos t (λz hz=>h2 z (zF _ hz)) u hu
section
variable{prog:Program}{w:World}{A:Around}
def zE{d o:Addr}{od oo:Obj}{es:Array DictEntry}{e0 ep:Nat}{id:String}{Q:Unit->Shared->Prop}(hne:(d==o)=false)(hos:(o==sysModules)=false)(hd:s.heap.get? d=some od)(hdd:od.data=.dict #[] e0)(ho:s.heap.get? o=some oo)(hdo:oo.data=.dict es ep)(hz:es.size<=sizeLine)(h0:0<es.size)(hr:∀e∈es.toList,∃q,e.key=.ref q/\s.TypeIs (.ref q) "tuple")(hf:∀e∈es.toList,(es.filter (·.hash==e.hash)).size<=1)(h:Q () { s with heap:=s.heap.update d (Obj.mapDictKeys λ_=>es) }):wpAny (model prog w) A (Builtin.Dict.mergeDict id d o) Q E s:=by
 have few:(decide (es.size<=8) && es.all λe=>(keyPart e.key).isSome)=false:=by
  have hx:es[0]∈es.toList:=by simp
  obtain⟨q,e,_⟩:=hr _ hx;have:(es.all λe=>(keyPart e.key).isSome)=false:=by rw[Array.all_eq_false];exact⟨0,h0,by rw[e];exact rH⟩
  rw[this,d7]
 unfold Builtin.Dict.mergeDict Builtin.Dict.showsAll;rw[hne,hos];refine z8 (zc (z8 (j9 ho hdo ?_)));rw[few];refine z8 (j9 hd hdd ?_);refine z8 (z8 (j9 ho hdo (z8 ?_)));rw[<- Array.forIn_toList];refine wpAny_forIn_list _ (λeN _ z=>z=s/\∀e∈eN,e∈es.toList) _ (λe eN _ z hz'=>?_) (λ_ z hz'=>?_) _ _ ⟨rfl,λe he=>he⟩;·obtain⟨rfl,he⟩:=hz';obtain⟨q,ek,ty⟩:=hr e (he e (zx ..));rw[ek];refine z8 (z8 (Z9 ty PySem.F.slot_tuple_eq.lookup (zc ?_)));rw[if_neg (mP.2 (hf e (he e (zx ..))))];exact zc ⟨rfl,λx hx=>he x (zF _ hx)⟩
 ·obtain⟨rfl,_⟩:=hz';refine zc ?_;have ne:(!es.isEmpty)=true:=by simp;intro z;rw[z]at h0;exact absurd h0 (by simp)
  rw[if_pos ne];exact z8 (wpAny_updateDictKeysTo hd hdd (zc h) (by omega))
end
theorem DRel.refs(I:Inv X pins σ H s):∀{xs:DX}{us:DU},DRel xs us->jx X.K H xs->∀u∈us,s.TypeIs (.ref u.2.1) "tuple"
 |_,_,.nil,_,u,hu=>nomatch hu
 |x::xs,y::us,.cons h t,kk,u,hu=>by
  rcases zL.1 hu with rfl|hu;·obtain⟨its,rv,⟨o,h1,h2,_⟩,_⟩:=I.tuple (kk x (zx ..));exact⟨o,h.2.1▸h1,h2⟩
  ·exact DRel.refs I t (λz hz=>kk z (zF _ hz)) u hu
def uE:lC X (.type "dict") (λxs H Q=>∃a o ys,xs=[.ref a]/\H a=some (DctO a o ys)/\jx X.K H ys/\M9 ys/\ys≠[]/\∀p o',H p=none->Q (.ref p) (upd H p (DctO p o' ys))):=by
 intro pins s σ H xs vs Q I r h;obtain⟨a,o0,ys,rfl,e,kk,tw,ne,q⟩:=h;obtain⟨u,rfl,rx⟩:=A2 r;cases rx;obtain⟨z,hd,us,rel,dd⟩:=qm I e kk;obtain⟨o,es,ep,h1,h2,h3,h4,h5,h6⟩:=id dd;have tn:∀h:Heap,h.get? s.heap.objs.size=some { cls:=.type "dict",data:=.dict #[] }->Shared.TypeIs { s with heap:=h } (.ref s.heap.objs.size) "dict":=λh e=>⟨_,e,rfl⟩
 have hlt:=w5 h1;have ho:(s.heap.push { cls:=.type "dict",data:=.dict #[] }).get? a=some o:=w9 _ h1;have hn:(s.heap.push { cls:=.type "dict",data:=.dict #[] }).get? s.heap.objs.size=some { cls:=.type "dict",data:=.dict #[] }:=v7 _ rfl;have ta:Shared.TypeIs { s with heap:=s.heap.push { cls:=.type "dict",data:=.dict #[] } } (.ref a) "dict":=⟨o,ho,h2.1⟩
 have ez:es.size=us.length:=by rw[<- lE,h4,zy]
 have uz:=(ig rel).symm;refine callType_codes (Q₁:=λv t=>v=.ref s.heap.objs.size/\t={ s with heap:=s.heap.push { cls:=.type "dict",data:=.dict #[] } }) PySem.F.kt_called_dict (PySem.F.kt_typeCall_dict_1 _) PySem.F.entry_dict_init (kt_code_dict_new _ ⟨rfl,rfl⟩) λv t hv=>?_;obtain⟨rfl,rfl⟩:=hv;refine⟨tn _ hn,PySem.F.args_dict_init_2 _ _,?_⟩;have fin:∀h',h'=(s.heap.push { cls:=.type "dict",data:=.dict #[] }).update s.heap.objs.size (Obj.mapDictKeys λ_=>es)->EP X pins σ Q (.ref s.heap.objs.size) { s with heap:=h' }:=λh' eh=>by subst eh;refine⟨.ref s.heap.objs.size,_,I.laid (λb y hb=>?_) (z9 _) (DctO.ok ⟨ZF _ hn rfl,z,I.big0,⟨rfl,rfl,rfl⟩,us,rel,es,_,rfl,h4,h6⟩),rfl,q _ _ (I.hok.fresh (z9 _))⟩;exact(Heap.get?_update_ne _ _ _ _ (v9 (w5 hb))).trans (w9 _ hb)
 have mg:∀{id:String}{Q':Unit->Shared->Prop}{A':Around}{E':Value->Shared->Prop},Q' () { s with heap:=(s.heap.push { cls:=.type "dict",data:=.dict #[] }).update s.heap.objs.size (Obj.mapDictKeys λ_=>es) }->wpAny (model X.prog X.w) A' (Builtin.Dict.mergeDict id s.heap.objs.size a) Q' E' { s with heap:=s.heap.push { cls:=.type "dict",data:=.dict #[] } }:=λhq=>
  zE (r6.2 (mC hlt)) hd hn rfl ho h3 (by omega) (by rw[ez,uz];exact List.length_pos_iff.2 ne) (λx hx=>by
   rw[h4]at hx;obtain⟨u,hu,rfl⟩:=wU.1 hx;obtain⟨ob,e1,e2⟩:=DRel.refs I rel kk u hu;exact⟨u.2.1,rfl,ob,w9 _ e1,e2⟩) (λx hx=>by
   have hh:=Ff (c:=x.hash) (tW (rel.twos tw) h6);rw[<- lE,Array.toList_filter,h4,List.filter_map,zy];exact hh) hq;have sub:=PySem.F.kt_sub_dict
 wp_walk using wpAny_notOrdered_dict (tn _ hn),Z9 ta PySem.F.slot_dict_iter.lookup,mg
 exact⟨rfl,fin _ rfl⟩
section
variable{prog:Program}{w:World}{A:Around}{d:Addr}{o:Obj}{es:Array DictEntry}{ep:Nat}
def zk{Q:Value->Shared->Prop}(hs:(d==sysModules)=false)(ho:s.heap.get? d=some o)(hx:o.ExactDict)(h:Q (.ref s.heap.objs.size) { s with heap:=s.heap.push { cls:=.type "dict_items",data:=.fields #[.ref d] } }):
  wpAny (model prog w) A (call (.builtin "dict.items") [.ref d]) Q E s:=by
 have t:s.TypeIs (.ref d) "dict":=⟨o,ho,hx.1⟩
 refine n8 PySem.F.slot_dict_items t PySem.F.entry_dict_items ?_ (PySem.F.args_dict_items_1 _)
 wp_walk using wpAny_notOrdered_dict t
 exact⟨_,rfl,h⟩
def yN{v:Addr}{Q:Value->Shared->Prop}(hv:s.heap.get? v=some { cls:=.type "dict_items",data:=.fields #[.ref d] })(ho:s.heap.get? d=some o)(hd:o.data=.dict es ep)(h:Q (.ref s.heap.objs.size) { s with heap:=s.heap.push { cls:=.type "dict_itemiterator",data:=.fields #[.none,.bool false,.ref d,.int 0 0,.int es.size 0,.int ep 0,.none,.none] } }):
  wpAny (model prog w) A (pyIter (.ref v)) Q E s:=by
 have t:s.TypeIs (.ref v) "dict_items":=⟨_,hv,rfl⟩
 refine wpAny_pyIter_slot t Ya (n8 Ya t PySem.F.entry_dict_items_iter ?_ (PySem.F.args_dict_items_iter_1 _))
 wp_walk using qO hv rfl rfl,j9 ho hd,ZI ho hd
 have own:Builtin.Dict_items.ownsTuple "dict_itemiterator"=true:=by decide
 refine⟨_,rfl,"dict_itemiterator",_,⟨_,v7 _ rfl,rfl⟩,PySem.F.slot_dict_itemiterator_next.lookup,?_⟩;simpa[own,rawInt,Builtin.Dict_items.ownedTupleFields]using h
noncomputable def O6(it d:Addr)(n ep i:Nat)(h:Heap):Prop:=∃x y,IsItemIter h it d i n ep x y
def zp{Q:Option Value->Shared->Prop}{x y:Value}(hi:IsItemIter s.heap it d i es.size ep x y)(hne:d≠it)(ho:s.heap.get? d=some o)(hd:o.data=.dict es ep)(hl:i<es.size)(h:∀h',IsItemIterOut h' it d (i+1) es.size ep es[i].key es[i].val s.heap.objs.size->h'.get? s.heap.objs.size=some { cls:=.type "tuple",data:=.seq #[es[i].key,es[i].val] }->(∀b ob,b≠it->s.heap.get? b=some ob->h'.get? b=some ob)->Q (some (.ref s.heap.objs.size)) { s with heap:=h' }):
  wpAny (model prog w) A (pyNext (.ref it)) Q E s:=by
 have t:s.TypeIs (.ref it) "dict_itemiterator":=⟨_,hi,rfl⟩
 refine z8 (dz (lT t Zb (n8 Zb t Yb ?_ (Yc _))))
 wp_walk using Zc t,wpAny_fieldsOf hi rfl,j9 ho hd,ZI ho hd
 have i0:(if (i:Int)<0 then none else es[(i:Int).toNat]?)=some es[i]:=by rw[if_neg (by omega),vN,Array.getElem?_eq_getElem hl]
 rw[i0];refine z8 (z8 (Zc t (zc (z8 (ZJ t ?_)))));show wpAny _ _ (setField (.ref it) 3 (rawInt ((i:Int)+1))>>=_) _ _ s;refine z8 (jb hi (by simp) λh1 e1 s1=>z8 (qJ ?_));have t1:Shared.TypeIs { s with heap:=h1 } (.ref it) "dict_itemiterator":=⟨_,e1,rfl⟩
 refine z8 (ZJ t1 (z8 (ZJ t1 ?_)));refine z8 (wpAny_newTuple ?_);have e2:IsItemIter (h1.push { cls:=.type "tuple",data:=.seq #[es[i].key,es[i].val] }) it d (i+1) es.size ep x y:=w9 _ e1;have lt:=w5 hi;have z1:=s1.1;have g2:(h1.push { cls:=.type "tuple",data:=.seq #[es[i].key,es[i].val] }).get? s.heap.objs.size=some { cls:=.type "tuple",data:=.seq #[es[i].key,es[i].val] }:=by rw[<- z1];exact v7 _ rfl
 have k2:∀b ob,b≠it->s.heap.get? b=some ob->(h1.push { cls:=.type "tuple",data:=.seq #[es[i].key,es[i].val] }).get? b=some ob:=λb ob n q=>w9 _ (s1.extBut b ob n q);rw[show({ s with heap:=h1 }:Shared).heap.objs.size=s.heap.objs.size from z1];have gt:=mC lt;refine z8 (z8 (qO e2 rfl rfl (zc ?_)));refine z8 (qO e2 rfl rfl (z8 (qO e2 rfl rfl (z8 (jb e2 (by simp) λh3 e3 s3=>?_)))));refine z8 (jb e3 (by simp) λh4 e4 s4=>z8 (jb e4 (by simp) λh5 e5 s5=>?_));refine z8 (jb e5 (by simp) λh6 e6 s6=>z8 (c6 (zc (zc ⟨_,rfl,zc (h h6 e6 ?_ ?_)⟩))));·exact s6.extBut _ _ gt (s5.extBut _ _ gt (s4.extBut _ _ gt (s3.extBut _ _ gt g2)))
 ·exact λb ob n q=>s6.extBut b ob n (s5.extBut b ob n (s4.extBut b ob n (s3.extBut b ob n (k2 b ob n q))))
def AX{Q:Option Value->Shared->Prop}{x y:Value}(hh:A.handled=none)(hi:IsItemIter s.heap it d i es.size ep x y)(hne:d≠it)(ho:s.heap.get? d=some o)(hd:o.data=.dict es ep)(hl:es.size<=i)(h:∀h',(∀b ob,b≠it->s.heap.get? b=some ob->h'.get? b=some ob)->Q none { s with heap:=h' }):wpAny (model prog w) A (pyNext (.ref it)) Q E s:=by
 have t:s.TypeIs (.ref it) "dict_itemiterator":=⟨_,hi,rfl⟩
 refine z8 (dz (lT t Zb (n8 Zb t Yb ?_ (Yc _))))
 wp_walk using Zc t,wpAny_fieldsOf hi rfl,j9 ho hd,ZI ho hd
 have i0:(if (i:Int)<0 then none else es[(i:Int).toNat]?)=none:=by rw[if_neg (by omega),vN,ZK hl]
 rw[i0];refine z8 (z8 (Zc t (zc ?_)));show wpAny _ _ (setField (.ref it) 2 .none>>=_) _ _ s;refine z8 (jb hi (by simp) λh1 e1 s1=>?_);have sub:=isSubtype_stop;simp only[newExc,raiseNew]
 wp_walk
 exact h _ λb ob n q=>w9 _ (w9 _ (s1.extBut b ob n q))
end
def DW{b:Addr}{ob o:Obj}(hb:b<h.objs.size)(q:(h.push ob).get? b=some o):h.get? b=some o:=by unfold Heap.get? Heap.push at *;simpa[Array.getElem?_push,v9 hb]using q
noncomputable def Itd(a:Addr)(o:Obj)(xs:DX):It:=
 ⟨λi H=>H a=some (DctO a o xs)/\i<xs.length,λi H x H'=>∃p y,x=.ref p/\H p=none/\xs[i]?=some y/\H'=upd H p (.tup [.ref y.2.1,y.2.2]),λi H=>H a=some (DctO a o xs)/\xs.length<=i⟩
theorem DRel.get:∀{xs:DX}{us:DU}{i:Nat}{x:List Bool×Addr×V},DRel xs us->xs[i]?=some x->∃u,us[i]?=some u/\x.2.1=u.2.1/\RelV x.2.2 u.2.2
 |_,_,i,_,.nil,e=>by simp at e
 |_,_,0,_,.cons h _,e=>by simp at e;subst e;exact⟨_,rfl,h.2⟩
 |_,_,i+1,_,.cons _ t,e=>DRel.get (i:=i) t (by simpa using e)
def nO{o:Obj}{xs:DX}(I:Inv X pins σ H s)(e:H a=some (DctO a o xs)):Gx a o xs s.heap:=
 (show ObjOk X.prog X.w H s.heap a (DctO a o xs) from I.hok a _ e).1
def zK{w:World}{K:PySem.W.Frag}{tp:Pos}(a it:Addr)(o:Obj)(xs:DX){es:Array DictEntry}{ep:Nat}(hd:o.data=.dict es ep)(hz:es.size=xs.length):
  Turn P w K (.Tuple elts kt tp) (Itd a o xs) [it] it (λi h=>O6 it a es.size ep i h) where
 mem:=by simp
 obj:=λi h st b hb=>by
  obtain⟨x,y,q⟩:=st;obtain rfl:b=it:=by simpa using hb
  exact⟨_,q,λv z=>by cases z⟩
 keep:=λi h h' ⟨x,y,q⟩ k=>⟨x,y,k it (by simp) _ q⟩
 item:=by
  intro X hP hw hK hc i pins s σ H E I hf st hg;obtain⟨x,y,hi⟩:=st;obtain⟨e,hl⟩:=hg;obtain⟨h1,z1,z2,h2,us,r,es',ep',h3,h4,h5⟩:=nO I e;rw[hd]at h3;cases h3;obtain⟨f0,f1,f2,f3,f4,f5⟩:=hf it (by simp);have ne:a≠it:=λz=>by rw[z,f0]at e;cases e
  have hlt:i<es.size:=by omega
  obtain⟨u,hu,k1,k2⟩:=r.get (xn hl);have ee:es[i]=⟨um u.1,.ref u.2.1,u.2.2⟩:=by
   have q:es.toList[i]?=some es[i]:=by simp[hlt]
   rw[h4,v8,hu]at q;exact(wq q).symm
  have hp:=I.hok.fresh (z9 _);have npt:=mC (w5 hi);refine zp hi ne h1 hd hlt λh6 o6 g6 k6=>⟨_,rfl,wpAny_letOwnedTupleGo_items o6 λh7 o7 s7=>?_⟩
  have Ia:Inv X pins σ (upd H s.heap.objs.size (.tup [.ref xs[i].2.1,xs[i].2.2])) { s with heap:=s.heap.push { cls:=.type "tuple",data:=.seq #[es[i].key,es[i].val] } }:=by
   refine I.laid (λb ob q=>w9 _ q) (z9 _) ⟨by show 2<=sizeLine;decide,[es[i].key,es[i].val],.cons ?_ (.cons ?_ .nil),lH _ _⟩;·rw[ee,k1];rfl
   ·rw[ee];exact k2
  have Ib:Inv X pins σ (upd H s.heap.objs.size (.tup [.ref xs[i].2.1,xs[i].2.2])) { s with heap:=h7 }:=by
   refine Inv.turned (s:={ s with heap:=s.heap.push { cls:=.type "tuple",data:=.seq #[es[i].key,es[i].val] } }) Ia (λb ob n q=>?_) (by rw[aM (uo npt)];exact f0) f1 f3 f4 f5;refine(s7.2 b n).trans ?_;by_cases z:b=s.heap.objs.size;·subst z;have q':=v7 s.heap (o:={ cls:=.type "tuple",data:=.seq #[es[i].key,es[i].val] }) rfl;exact(g6.trans q'.symm).trans q
   ·refine k6 b ob n ?_;rcases Zd b s.heap.objs.size with hb|hb;·exact DW hb q
    ·have hlt:=w5 q;rw[c7]at hlt;exact absurd (Nat.le_antisymm (Nat.le_of_lt_succ hlt) hb) z
  exact⟨.ref s.heap.objs.size,_,Ib,rfl,⟨_,_,rfl,hp,xn hl,rfl⟩,⟨_,_,o7⟩,λb hb=>by
   obtain rfl:b=it:=by simpa using hb
   rw[aM (uo npt)];exact f0⟩
 done:=by
  intro X hP hw hK hc i pins s σ H E I hf st hg;obtain⟨x,y,hi⟩:=st;obtain⟨e,hl⟩:=hg;obtain⟨h1,_⟩:=nO I e;obtain⟨f0,f1,f2,f3,f4,f5⟩:=hf it (by simp);have ne:a≠it:=λz=>by rw[z,f0]at e;cases e
  exact AX (I.ok.hd hc) hi ne h1 hd (by omega) λh' k=>⟨rfl,I.turned k f0 f1 f3 f4 f5⟩
 self:=λA i s Q E ⟨x,y,q⟩ h=>PySem.W.kcp_self q h
def EE{o:Expr}{t:TE}{tp ap cp:Pos}(ho:PE X o t)(hbase:attributeBase o "items" X.env (eval o X.env)=eval o X.env:=by rfl)(hline:(ap.endLine==cp.line)=true:=by rfl):
  PI X (.Tuple elts kt tp) (.Call (.Attribute o "items" ap) [] [] cp) (λσ H R=>t σ H λx H1=>∃a ob xs,x=.ref a/\H1 a=some (DctO a ob xs)/\R (Itd a ob xs) H1):=λpins s σ H R I h=>by
 refine wpAny_Call_method0_late hbase hline (thn (ho pins s σ H _ I h) λv s1 ⟨x,H1,I1,r1,a,ob,xs,ex,e,hR⟩=>?_);subst ex;cases r1;obtain⟨h1,z1,z2,h2,us,r,es,ep,h3,h4,h5⟩:=nO I1 e;have hz:es.size=xs.length:=by rw[<- lE,h4,zy];exact(ig r).symm
 refine⟨"dict","dict.items",PySem.F.plainAttrs_dict,PySem.F.slot_dict_items,PySem.F.type_dict_items,⟨ob,h1,h2.1⟩,λb eb=>?_,Calls.callWith_builtin rfl (PySem.evalArgs_none (zk z2 h1 h2 ?_))⟩;·cases eb;exact⟨ob,h1,h2.2.1⟩
 have I2:Inv X pins σ H1 { s1 with heap:=s1.heap.push { cls:=.type "dict_items",data:=.fields #[.ref a] } }:=I1.kept λb q e=>w9 _ e;refine yN (v7 _ rfl) (w9 _ h1) h3 ?_;refine⟨_,[_],_,_,H1,rfl,I2.kept λb q e=>w9 _ e,zK a _ ob xs h3 hz,⟨_,_,v7 _ rfl⟩,λb hb=>?_,hR⟩;obtain rfl:=wP.1 hb;exact I2.fpOk (z9 _) (I2.hok.fresh (z9 _))
end L2
set_option maxRecDepth 100000
set_option maxHeartbeats 0
namespace L2
open PySem PySem.Spec PyProof.Rows
inductive D where
  |non|bl (b : Bool)|int (i : Int)|str (x : List Nat)|tup (xs : List D)|lst (fz : Bool) (xs : List D)|exc (C : Addr)
  |dct (ks : List Nat) (xs : List D)
def code(a b:Bool):Nat:=(if a then 1 else 0)+(if b then 2 else 0)
inductive KeysAt(K:PySem.W.Frag)(G:Hp):DX->List Nat->Prop
 |nil:KeysAt K G [] []
 |cons {q:Addr} {v:V} {a b:Bool} {xs:DX} {ks:List Nat} (h:SqT K G q [.bl a,.bl b]) (t:KeysAt K G xs ks):KeysAt K G (([a,b],q,v)::xs) (code a b::ks)
def jZ(a C:Addr):Heap->Prop:=λh=>∃ob,h.get? a=some ob/\ob.cls=.ref C
mutual
inductive Rep(K:PySem.W.Frag)(G:Hp):V->D->Prop
 |non:Rep K G .non .non
 |bl (b:Bool):Rep K G (.bl b) (.bl b)
 |int (i:Int):Rep K G (.int i) (.int i)
 |str (x:Str) (h:x.length<=sizeLine):Rep K G (.str x) (.str x.cps.toList)
 |tup {a:Addr} {vs:List V} {ds:List D} (h:SqT K G a vs) (r:Reps K G vs ds):Rep K G (.ref a) (.tup ds)
 |lst {a:Addr} {vs:List V} {ds:List D} (h:G a=some (.lst vs)) (r:Reps K G vs ds):Rep K G (.ref a) (.lst false ds)
 |fls {a:Addr} {vs:List V} {ds:List D} (h:SqL K G a vs) (r:Reps K G vs ds):Rep K G (.ref a) (.lst true ds)
 |exc {a C:Addr} (h:G a=some (.ext (jZ a C))):Rep K G (.ref a) (.exc C)
 |dct {a:Addr} {o:Obj} {xs:DX} {ks:List Nat} {ds:List D} (h:G a=some (DctO a o xs)) (k:KeysAt K G xs ks) (r:Reps K G (xs.map (·.2.2)) ds):Rep K G (.ref a) (.dct ks ds)
inductive Reps(K:PySem.W.Frag)(G:Hp):List V->List D->Prop
 |nil:Reps K G [] []
 |cons {v:V} {d:D} {vs:List V} {ds:List D} (r:Rep K G v d) (t:Reps K G vs ds):Reps K G (v::vs) (d::ds)
end
section
variable{K:PySem.W.Frag}{G' G1 H1 G2 H2:Hp}
def SqT.mono(e:Same G G')(h:SqT K G a xs):SqT K G' a xs:=by
 rcases h with (h|⟨o,h⟩)|h;·exact .inl (.inl (e _ _ h))
 ·exact .inl (.inr ⟨o,e _ _ h⟩)
 ·exact .inr h
def KeysAt.mono(e:Same G G'):∀{xs:DX}{ks:List Nat},KeysAt K G xs ks->KeysAt K G' xs ks
 |_,_,.nil=>.nil
 |_,_,.cons h t=>.cons (h.mono e) (t.mono e)
def SqL.mono(e:Same G G')(h:SqL K G a xs):SqL K G' a xs:=e.seq h
mutual
theorem Rep.mono(e:Same G G'):∀{v:V}{d:D},Rep K G v d->Rep K G' v d
 |_,_,.non=>.non
 |_,_,.bl b=>.bl b
 |_,_,.int i=>.int i
 |_,_,.str x h=>.str x h
 |_,_,.tup h r=>.tup (h.mono e) (Reps.mono e r)
 |_,_,.lst h r=>.lst (e _ _ h) (Reps.mono e r)
 |_,_,.fls h r=>.fls (h.mono e) (Reps.mono e r)
 |_,_,.exc h=>.exc (e _ _ h)
 |_,_,.dct h k r=>.dct (e _ _ h) (k.mono e) (Reps.mono e r)
theorem Reps.mono(e:Same G G'):∀{vs:List V}{ds:List D},Reps K G vs ds->Reps K G' vs ds
 |_,_,.nil=>.nil
 |_,_,.cons r t=>.cons (Rep.mono e r) (Reps.mono e t)
end
section inv
def Rep.int_inv{i:Int}(r:Rep K G v (.int i)):v=.int i:=by cases r;rfl
def Rep.bl_inv(r:Rep K G v (.bl b)):v=.bl b:=by cases r;rfl
def Rep.non_inv(r:Rep K G v .non):v=.non:=by cases r;rfl
def Rep.str_inv{x:List Nat}(r:Rep K G v (.str x)):∃y:Str,v=.str y/\y.cps.toList=x/\y.length<=sizeLine:=by
 generalize e:D.str x=d at r;cases r with
 |str y h=>cases e;exact⟨y,rfl,rfl,h⟩
 |_=>cases e
def Rep.tup_inv{ds:List D}(r:Rep K G v (.tup ds)):∃a vs,v=.ref a/\SqT K G a vs/\Reps K G vs ds:=by
 cases r with
 |tup h t=>exact⟨_,_,rfl,h,t⟩
def Rep.lst_inv{ds:List D}(r:Rep K G v (.lst false ds)):∃a vs,v=.ref a/\G a=some (.lst vs)/\Reps K G vs ds:=by
 cases r with
 |lst h t=>exact⟨_,_,rfl,h,t⟩
def Rep.seq_inv{f:Bool}{ds:List D}(r:Rep K G v (.lst f ds)):∃a vs,v=.ref a/\SqL K G a vs/\Reps K G vs ds:=by
 cases r with
 |lst h t=>exact⟨_,_,rfl,.of h,t⟩
 |fls h t=>exact⟨_,_,rfl,h,t⟩
def Rep.exc_inv(r:Rep K G v (.exc C)):∃a,v=.ref a/\G a=some (.ext (jZ a C)):=by
 cases r with
 |exc h=>exact⟨_,rfl,h⟩
def Rep.strL{x:List Nat}(e:y.cps.toList=x)(h:x.length<=sizeLine):Rep K G (.str y) (.str x):=by subst e;exact .str y (by simpa[Str.length]using h)
end inv
theorem Reps.length:∀{vs:List V}{ds:List D},Reps K G vs ds->vs.length=ds.length
 |_,_,.nil=>rfl
 |_,_,.cons _ t=>by simp[Reps.length t]
theorem Reps.get:∀{vs:List V}{ds:List D}{i:Nat}{d:D},Reps K G vs ds->ds[i]?=some d->∃v,vs[i]?=some v/\Rep K G v d
 |_,_,_,_,.nil,e=>by simp at e
 |_,_,0,_,.cons r _,e=>by simp at e;subst e;exact⟨_,rfl,r⟩
 |_,_,i+1,d,.cons _ t,e=>by obtain⟨v,h1,h2⟩:=Reps.get (i:=i) (d:=d) t (by simpa using e);exact⟨v,by simpa using h1,h2⟩
theorem Reps.append:∀{vs ws:List V}{ds es:List D},Reps K G vs ds->Reps K G ws es->Reps K G (vs++ws) (ds++es)
 |_,_,_,_,.nil,s=>s
 |_,_,_,_,.cons r t,s=>.cons r (Reps.append t s)
theorem Reps.take:∀{vs:List V}{ds:List D}(n:Nat),Reps K G vs ds->Reps K G (vs.take n) (ds.take n)
 |_,_,0,_=>by simpa using Reps.nil
 |_,_,_+1,.nil=>.nil
 |_,_,n+1,.cons r t=>.cons r (Reps.take n t)
theorem Reps.drop:∀{vs:List V}{ds:List D}(n:Nat),Reps K G vs ds->Reps K G (vs.drop n) (ds.drop n)
 |_,_,0,r=>r
 |_,_,_+1,.nil=>.nil
 |_,_,n+1,.cons _ t=>Reps.drop n t
theorem Reps.set{d:D}(r:Rep K G v d):∀{vs:List V}{ds:List D}(i:Nat),Reps K G vs ds->Reps K G (vs.set i v) (ds.set i d)
 |_,_,_,.nil=>.nil
 |_,_,0,.cons _ t=>.cons r t
 |_,_,i+1,.cons q t=>.cons q (Reps.set r i t)
theorem Reps.rep{ds:List D}(r:Reps K G vs ds):∀n:Nat,Reps K G (List.replicate n vs).flatten (List.replicate n ds).flatten
 | 0=>.nil
 |n+1=>by simp only[mE,j8];exact Reps.append r (Reps.rep r n)
structure Up(G H G' H':Hp):Prop where
 sub:Same G' H'
 gg:Same G G'
 hh:Same H H'
 fr:∀a o,G' a=some o->G a=some o\/H a=none
def Up.refl(s:Same G H):Up G H G H:=⟨s,.refl _,.refl _,λ_ _ h=>.inl h⟩
def Up.trans(a:Up G H G1 H1)(b:Up G1 H1 G2 H2):Up G H G2 H2:=⟨b.sub,a.gg.trans b.gg,a.hh.trans b.hh,λc o h=>by
 rcases b.fr c o h with h|h;·exact a.fr c o h
 ·exact .inr (a.hh.free h)⟩
def Same.both{p:Addr}{o:HO}(s:Same G H):Same (upd G p o) (upd H p o):=λa u h=>by
 unfold L2.upd at h⊢;split;·rename_i e;rw[if_pos e]at h;exact h
 ·rename_i e;rw[if_neg e]at h;exact s a u h
def Same.into{p:Addr}{o:HO}(h:H p=none):Same H (upd H p o):=λa u e=>by rw[aM (aF e h)];exact e
def Up.new{p:Addr}{o:HO}(s:Same G H)(hp:H p=none):Up G H (upd G p o) (upd H p o):=
 ⟨s.both,.into (s.free hp),.into hp,λa u h=>by
  by_cases e:a=p;·subst e;exact .inr hp
  ·rw[aM e]at h;exact .inl h⟩
end
inductive R(α:Type) where
 |ok (a:α)|ex (C:Addr)|no
noncomputable def R.bind{α β:Type}:R α->(α->R β)->R β
 |.ok a,f=>f a
 |.ex C,_=>.ex C
 |.no,_=>.no
instance:Monad R where
 pure:=.ok
 bind:=R.bind
section
variable{α β:Type}
@[simp] theorem R.ok_bind(a:α)(f:α->R β):(R.ok a>>=f)=f a:=rfl
@[simp] theorem R.ex_bind(C:Addr)(f:α->R β):((R.ex C:R α)>>=f)=.ex C:=rfl
noncomputable def R.post(m:R α)(P:α->Prop)(E:Addr->Prop):Prop:=match m with
 |.ok a=>P a
 |.ex C=>E C
 |.no=>False
def R.post.mono{m:R α}{P P':α->Prop}{E E':Addr->Prop}(h:m.post P E)(hp:∀a,P a->P' a)(he:∀C,E C->E' C):m.post P' E':=by
 cases m with
 |ok a=>exact hp a h
 |ex C=>exact he C h
 |no=>exact h
def ofO:Option α->R α
 |some a=>.ok a
 |none=>.no
@[simp] theorem cF(a:α):ofO (some a)=R.ok a:=rfl
theorem ofO.ok{o:Option α}{P:α->Prop}{E:Addr->Prop}(h:(ofO o).post P E):∃a,o=some a/\P a:=by
 cases o with
 |none=>exact h.elim
 |some a=>exact⟨a,rfl,h⟩
end
inductive Fd where
 |val (d:D)|own (ds:List D)
inductive Sl where
  |val (d : D)
  |own (ds : List D)
  |obj (m : Bool) (C p : Addr) (fs : List (Nat × Fd))
abbrev Ev:=List (Option Sl)
noncomputable def rdV(ρ:Ev)(i:Nat):R D:=match ρ[i]? with
 |some (some (.val d))=>.ok d
 |_=>.no
abbrev rvz(i:Nat):Ev->R D:=λρ=>rdV ρ i
abbrev ciz(n:Int):Ev->R D:=λ_=>R.ok (D.int n)
abbrev nlz:Ev->R (List D):=λ_=>R.ok []
abbrev csz(x:List Nat):Ev->R D:=λ_=>R.ok (D.str x)
noncomputable def fnames:List Str:=["states","taken_back","width","screen","last_notes","tasks","numbers_given"]
def Jv(k:Nat):Str:=fnames.getD k ""
abbrev mw:=Addr->Option (Nat×Nat)
noncomputable def FdAt(K:PySem.W.Frag)(H₀ G H:Hp)(ow:mw)(i:Nat)(m:Bool)(k:Nat):Fd->V->Prop
 |.val d,v=>Rep K G v d
 |.own ds,v=>∃l ws,v=.ref l/\H l=some (.lst ws)/\G l=none/\(m=true->H₀ l=none)/\Reps K G ws ds/\ow l=some (i,k+1)
inductive FdsAt(K:PySem.W.Frag)(H₀ G H:Hp)(ow:mw)(i:Nat)(m:Bool):List (Nat×Fd)->List (Str×V)->Prop
 |nil:FdsAt K H₀ G H ow i m [] []
 |cons {k:Nat} {fd:Fd} {v:V} {fs:List (Nat×Fd)} {vs:List (Str×V)} (h:k<fnames.length) (nk:fs.lookup k=none) (r:FdAt K H₀ G H ow i m k fd v) (t:FdsAt K H₀ G H ow i m fs vs):FdsAt K H₀ G H ow i m ((k,fd)::fs) ((Jv k,v)::vs)
noncomputable def InsAt(K:PySem.W.Frag)(H₀ G H:Hp)(ow:mw)(i:Nat)(m:Bool)(C p:Addr)(fs:List (Nat×Fd)):Prop:=
 ∃dx vs,H p=some (.ins C dx vs)/\H dx=some (.own p)/\G p=none/\G dx=none/\(m=true->H₀ p=none/\H₀ dx=none)/\ow p=some (i,0)/\ow dx=some (i,0)/\FdsAt K H₀ G H ow i m fs vs
noncomputable def DcoAt(K:PySem.W.Frag)(H₀ G H:Hp)(ow:mw)(i:Nat)(m:Bool)(p:Addr)(fs:List (Nat×Fd)):Prop:=
 ∃o xs ks ds,H p=some (DctO p o xs)/\G p=none/\(m=true->H₀ p=none)/\ow p=some (i,0)/\KeysAt K G xs ks/\Reps K G (xs.map (·.2.2)) ds/\fs=ks.zip (ds.map Fd.val)
abbrev DC:Addr:=0
noncomputable def ObjAt(K:PySem.W.Frag)(H₀ G H:Hp)(ow:mw)(i:Nat)(m:Bool)(C p:Addr)(fs:List (Nat×Fd)):Prop:=(C≠DC/\InsAt K H₀ G H ow i m C p fs)\/(C=DC/\DcoAt K H₀ G H ow i m p fs)
section
variable{K:PySem.W.Frag}{H₀:Hp}{ow:mw}{m:Bool}{p:Addr}{fs:List (Nat×Fd)}
def ObjAt.dco(h:ObjAt K H₀ G H ow i m DC p fs):DcoAt K H₀ G H ow i m p fs:=(h.resolve_left λz=>z.1 rfl).2
end
section
variable{K:PySem.W.Frag}{H₀ H₀' G':Hp}{ow ow':mw}
structure ObKeep(H₀ H₀' G H G' H':Hp)(ow ow':mw)(i:Nat):Prop where
 hh:∀a t o,ow a=some (i,t)->H a=some o->H' a=some o
 gg:Same G G'
 gn:∀a t o,ow a=some (i,t)->H a=some o->G a=none->G' a=none
 oo:∀a t o,ow a=some (i,t)->H a=some o->ow' a=some (i,t)
 h0:∀a o,H a=some o->G a=none->H₀ a=none->H₀' a=none
def FdAt.keep(k:ObKeep H₀ H₀' G H G' H' ow ow' i){m:Bool}{n:Nat}:∀{fd:Fd}{v:V},FdAt K H₀ G H ow i m n fd v->FdAt K H₀' G' H' ow' i m n fd v
 |.val d,v,r=>Rep.mono k.gg (show Rep K G v d from r)
 |.own ds,v,⟨l,ws,e,h1,h2,h3,h4,h5⟩=>⟨l,ws,e,k.hh l _ _ h5 h1,k.gn l _ _ h5 h1 h2,λz=>k.h0 l _ h1 h2 (h3 z),h4.mono k.gg,k.oo l _ _ h5 h1⟩
theorem FdsAt.keep(k:ObKeep H₀ H₀' G H G' H' ow ow' i){m:Bool}:∀{fs:List (Nat×Fd)}{vs:List (Str×V)},FdsAt K H₀ G H ow i m fs vs->FdsAt K H₀' G' H' ow' i m fs vs
 |_,_,.nil=>.nil
 |_,_,.cons h nk r t=>.cons h nk (FdAt.keep k r) (FdsAt.keep k t)
def InsAt.keep(k:ObKeep H₀ H₀' G H G' H' ow ow' i){m:Bool}{p:Addr}{fs:List (Nat×Fd)}(h:InsAt K H₀ G H ow i m C p fs):InsAt K H₀' G' H' ow' i m C p fs:=by obtain⟨dx,vs,h1,h2,h3,h4,h5,h6,h7,h8⟩:=h;exact⟨dx,vs,k.hh p _ _ h6 h1,k.hh dx _ _ h7 h2,k.gn p _ _ h6 h1 h3,k.gn dx _ _ h7 h2 h4,λz=>⟨k.h0 p _ h1 h3 (h5 z).1,k.h0 dx _ h2 h4 (h5 z).2⟩,k.oo p _ _ h6 h1,k.oo dx _ _ h7 h2,h8.keep k⟩
def DcoAt.keep(k:ObKeep H₀ H₀' G H G' H' ow ow' i){m:Bool}{p:Addr}{fs:List (Nat×Fd)}(h:DcoAt K H₀ G H ow i m p fs):DcoAt K H₀' G' H' ow' i m p fs:=
 let⟨o,xs,ks,ds,h1,h2,h3,h4,h5,h6,h7⟩:=h
 ⟨o,xs,ks,ds,k.hh p _ _ h4 h1,k.gn p _ _ h4 h1 h2,λz=>k.h0 p _ h1 h2 (h3 z),k.oo p _ _ h4 h1,h5.mono k.gg,h6.mono k.gg,h7⟩
def ObjAt.keep(k:ObKeep H₀ H₀' G H G' H' ow ow' i){m:Bool}{p:Addr}{fs:List (Nat×Fd)}(h:ObjAt K H₀ G H ow i m C p fs):ObjAt K H₀' G' H' ow' i m C p fs:=h.imp (λz=>⟨z.1,z.2.keep k⟩) λz=>⟨z.1,z.2.keep k⟩
def ObKeep.up(u:Up G H G' H'):ObKeep H₀ H₀ G H G' H' ow ow i:=by
 have gn:∀a o,H a=some o->G a=none->G' a=none:=λa o e n=>by
  cases q:G' a with
  |none=>rfl
  |some o'=>
   rcases u.fr a o' q with z|z;·rw[n]at z;cases z
   ·rw[e]at z;cases z
 exact⟨λa t o _ e=>u.hh a o e,u.gg,λa t o _ e n=>gn a o e n,λa t o e _=>e,λa o _ _ n=>n⟩
end
def ObjAt.rd{K:PySem.W.Frag}{H₀:Hp}{ow:mw}{m:Bool}{p:Addr}{fs:List (Nat×Fd)}(h:ObjAt K H₀ G H ow i m C p fs):ObjAt K (λ_=>none) G H ow i m C p fs:=
 h.keep ⟨λ_ _ _ _ e=>e,.refl _,λ_ _ _ _ _ n=>n,λ_ _ _ e _=>e,λ_ _ _ _ _=>rfl⟩
structure StE(K:PySem.W.Frag)(G H:Hp)(σ:St)(ρ:Ev):Prop where
 sub:Same G H
 len:σ.length=ρ.length
 val:∀(i:Nat) d,ρ[i]?=some (some (.val d))->∃v,σ[i]?=some (some v)/\Rep K G v d
 obs:∀(i:Nat) m C p fs,ρ[i]?=some (some (.obj m C p fs))->σ[i]?=some (some (.ref p))/\∃ow,ObjAt K (λ_=>none) G H ow i m C p fs
def StE.up{K:PySem.W.Frag}{G':Hp}{ρ:Ev}(s:StE K G H σ ρ)(u:Up G H G' H'):StE K G' H' σ ρ:=
 ⟨u.sub,s.len,λi d e=>let⟨v,h1,h2⟩:=s.val i d e;⟨v,h1,h2.mono u.gg⟩,λi m C p fs e=>let⟨h1,ow,h2⟩:=s.obs i m C p fs e;⟨h1,ow,h2.keep (.up u)⟩⟩
noncomputable def FX(P:Program)(w:World)(outer:List Env)(H:Hp)(s:Shared)(a C:Addr)(H':Hp)(s':Shared):Prop:=
 s'.os=s.os/\AllBare s'.gens/\Un (frs outer) [] H H' s.heap s'.heap/\HOk P w H' s'.heap/\H' a=none/\
 ∃(B:Heap)(a0:Value),Heap.FlyingW B outer a (.ref C) a0 s'.heap/\∀b o,b∉frs outer->((∃o0,s.heap.get? b=some o0)\/∃u,H' b=some u)->s'.heap.get? b=some o->B.get? b=some o
noncomputable def CXo(P:Program)(w:World):CXT:=λouter H s E e s'=>∃a C H',e=.ref a/\FX P w outer H s a C H' s'/\E (.ref C) none H'
noncomputable def Ol(X:Cx)(pins:List (Addr×Obj))(b:Addr):Prop:=
 (b∈X.ex\/X.s₀.heap.objs.size<=b)/\b≠X.env.locals/\(∀x c,X.env.cells.lookup x=some c->c≠b)/\∀p∈X.pn++pins,p.1≠b
noncomputable def Fb(X:Cx)(pins:List (Addr×Obj))(L:Addr)(H:Hp)(s:Shared)(a C:Addr)(H':Hp)(s':Shared):Prop:=
 s'.os=s.os/\AllBare s'.gens/\(∃ch,(∀b∈ch,Ol X pins b)/\Un (frs X.stack) ch H H' s.heap s'.heap)/\HOk X.prog X.w H' s'.heap/\H' a=none/\s.heap.get? a=none/\
 ∃(B:Heap)(a0:Value),Heap.HeldW B X.stack a (.ref C) a0 L s'.heap/\∀b o,b∉frs X.stack->((∃o0,s.heap.get? b=some o0)\/∃u,H' b=some u)->s'.heap.get? b=some o->B.get? b=some o
noncomputable def Oq(X:Cx)(σ:St)(G₁ H₁:Hp)(C:Addr)(e:Value)(s':Shared):Prop:=
 ∃pins s₁ a,e=.ref a/\Inv X pins σ H₁ s₁/\
  ((∃h' vs,Heap.MadeExcOf s₁.heap h' a (.ref C) vs/\s'={ s₁ with heap:=h' })\/(∃G' H',FX X.prog X.w X.stack H₁ s₁ a C H' s'/\Up G₁ H₁ G' H')\/∃G' H' L,X.env.frame=some L/\Fb X pins L H₁ s₁ a C H' s'/\Up G₁ H₁ G' H')
noncomputable def Fly(X:Cx)(σ:St)(G H:Hp)(C:Addr)(e:Value)(s':Shared):Prop:=∃G₁ H₁,Up G H G₁ H₁/\Oq X σ G₁ H₁ C e s'
def Fly.up{G1 H1:Hp}{e:Value}(u:Up G H G1 H1)(f:Fly X σ G1 H1 C e s'):Fly X σ G H C e s':=
 let⟨G2,H2,v,q⟩:=f;⟨G2,H2,u.trans v,q⟩
section
variable{α β:Type}
noncomputable def Fin(G H:Hp)(rep:Hp->β->α->Prop)(Q:β->Hp->Prop):α->Prop:=λd=>∀v G' H',Up G H G' H'->rep G' v d->Q v H'
noncomputable def Exx(X:Cx)(σ:St)(G H:Hp):Addr->Prop:=λC=>∀e s',Fly X σ G H C e s'->X.xe e s'
def Fin.up{G1 H1:Hp}{rep:Hp->β->α->Prop}{Q:β->Hp->Prop}{d:α}(u:Up G H G1 H1)(h:Fin G H rep Q d):Fin G1 H1 rep Q d:=λv G' H' u' r=>h v G' H' (u.trans u') r
def Exx.up{G1 H1:Hp}(u:Up G H G1 H1)(h:Exx X σ G H C):Exx X σ G1 H1 C:=λe s' f=>h e s' (f.up u)
def qS{G1 H1:Hp}{rep:Hp->β->α->Prop}{Q:β->Hp->Prop}{m:R α}(u:Up G H G1 H1)(h:m.post (Fin G H rep Q) (Exx X σ G H)):m.post (Fin G1 H1 rep Q) (Exx X σ G1 H1):=
 h.mono (λ_=>Fin.up u) λ_=>Exx.up u
noncomputable def tG(X:Cx)(rep:Hp->β->α->Prop)(g:Ev->R α):St->Hp->(β->Hp->Prop)->Prop:=λσ H Q=>∃G ρ,StE X.K G H σ ρ/\(g ρ).post (Fin G H rep Q) (Exx X σ G H)
def tG.intro{γ δ:Type}{ρ:Ev}{rep:Hp->β->α->Prop}{rep':Hp->δ->γ->Prop}{g:Ev->R α}{k:α->R γ}{Q:β->Hp->Prop}{Q':δ->Hp->Prop}(st:StE X.K G H σ ρ)(h:(g ρ>>=k).post (Fin G H rep' Q') (Exx X σ G H))(hk:∀a,∀v G1 H1,Up G H G1 H1->StE X.K G1 H1 σ ρ->rep G1 v a->(k a).post (Fin G1 H1 rep' Q') (Exx X σ G1 H1)->Q v H1):tG X rep g σ H Q:=by
 refine⟨G,ρ,st,?_⟩;cases e:g ρ with
 |ok a=>rw[e]at h;exact λv G' H' u r=>hk a v G' H' u (st.up u) r (qS u h)
 |ex C=>rw[e]at h;exact h
 |no=>rw[e]at h;exact h
def tG.last{ρ:Ev}{rep:Hp->β->α->Prop}{g:Ev->R α}{Q:β->Hp->Prop}(st:StE X.K G H σ ρ)(h:(g ρ).post (Fin G H rep Q) (Exx X σ G H)):tG X rep g σ H Q:=⟨G,ρ,st,h⟩
end
abbrev tF(X:Cx)(g:Ev->R D):TE:=tG X (Rep X.K) g
abbrev tTF(X:Cx)(g:Ev->R Bool):TT:=tG X (λ_ b c=>b=c) g
abbrev tAF(X:Cx)(g:Ev->R (List D)):TA:=tG X (Reps X.K) g
def PF(X:Cx)(e:Expr)(g:Ev->R D):Prop:=PE X e (tF X g)
def PB(X:Cx)(e:Expr)(g:Ev->R Bool):Prop:=PT X e (tTF X g)
def PBW(X:Cx)(e:Expr)(g:Ev->R Bool):Prop:=PW X e (tTF X g)
def PFA(X:Cx)(es:List Expr)(g:Ev->R (List D)):Prop:=PA X es (tAF X g)
end L2
variable{g F gr aj bT bE bd aL bo bX fS cr aE aG bh bx eO ie aS aO au aC:List L2.D->L2.R L2.D}{d:L2.D}{ds items rows:List L2.D}{ow:L2.mw}{ρ:L2.Ev}{gb ge:L2.Ev->L2.R L2.D}{gl gi:L2.Ev->L2.R (List L2.D)}{asg:L2.D->L2.Ev->L2.R L2.Ev}{gs:List (L2.Ev->L2.R L2.D)}{fs':List (Nat×L2.Fd)}{kv:List (Nat×L2.D)}
namespace L2
open PySem PySem.Spec PyProof.Rows
def rdV.ok{P:D->Prop}{E:Addr->Prop}(h:(rdV ρ i).post P E):∃d,ρ[i]?=some (some (.val d))/\P d:=by
 unfold rdV at h;split at h;·rename_i d e;exact⟨d,e,h⟩
 ·exact h.elim
section
variable{e a b c:Expr}{ga gc:Ev->R D}
def yr(i:Nat)(hN:X.N[i]?=some x:=by rfl)(hv:Vis X.env.scope x:=by first|exact Or.inl rfl|exact Or.inr (Or.inl rfl)|exact Or.inr (Or.inr rfl))(hd:(x==("__debug__":Str))=false:=by decide)(hcd:(x==("__classdict__":Str))=false:=by decide):PF X (.Name x pos) (λρ=>rdV ρ i):=by
 intro pins s σ H Q I h;obtain⟨G,ρ,st,h⟩:=h;refine jm hN hv hd hcd pins s σ H Q I ?_;obtain⟨d,e,q⟩:=rdV.ok h;obtain⟨v,e',r⟩:=st.val i d e;exact⟨v,e',q v G H (.refl st.sub) r⟩
def lh(h:PE X e (tC v))(hr:∀K G,Rep K G v d):PF X e (λ_=>.ok d):=by intro pins s σ H Q I q;obtain⟨G,ρ,st,q⟩:=q;exact h pins s σ H Q I (q v G H (.refl st.sub) (hr _ _))
def ai{i:Int}:PF X (.Constant (.int i) j pos) (λ_=>.ok (.int i)):=lh I8 λ_ _=>.int i
def gG{k:Bool}:PF X (.Constant (.bool k) j pos) (λ_=>.ok (.bl k)):=lh MM λ_ _=>.bl k
def mi:PF X (.Constant .none j pos) (λ_=>.ok .non):=lh Kb λ_ _=>.non
def aR{l:List Nat}(hl:x.cps.toList=l:=by rfl)(hz:l.length<=1000:=by decide):PF X (.Constant (.str x) j pos) (λ_=>.ok (.str l)):=
 lh Lh λ_ _=>.strL hl (wt hz (by decide))
def gw{i:Int}{t:Tok}(hg:Gl X x)(hm:X.mg x=some (.int i t))(hd:(x==("__debug__":Str))=false:=by decide):PF X (.Name x pos) (λ_=>.ok (.int i)):=
 lh (qW (v:=.int i) hg hm ⟨t,rfl⟩ hd) λ_ _=>.int i
noncomputable def ROk(K:PySem.W.Frag)(r:R2)(f:D->D->Option D):Prop:=∀(G H:Hp)(x y:V)(dx dy d:D)(Q:VK),Same G H->Rep K G x dx->Rep K G y dy->f dx dy=some d->Fin G H (Rep K) Q d->r x y H Q
noncomputable def g2(f:D->D->Option D)(ga gb:Ev->R D):Ev->R D:=λρ=>ga ρ>>=λx=>gb ρ>>=λy=>ofO (f x y)
def CZ{r:R2}{f:D->D->Option D}(hf:ROk X.K r f){Q:VK}(h:tF X (g2 f ga gb) σ H Q):tOp r (tF X ga) (tF X gb) σ H Q:=by obtain⟨G,ρ,st,h⟩:=h;refine tG.intro st h λx v G1 H1 u1 st1 r1 h1=>?_;refine tG.intro st1 h1 λy w G2 H2 u2 st2 r2 h2=>?_;obtain⟨d,e,q⟩:=ofO.ok h2;exact hf G2 H2 v w x y d Q st2.sub (r1.mono u2.gg) r2 e q
def tQ{op:Operator}{r:R2}{f:D->D->Option D}(ho:OpR X (binaryOp op) r)(hf:ROk X.K r f)(ha:PF X a ga)(hb:PF X b gb):PF X (.BinOp a op b pos) (g2 f ga gb):=
 λpins s σ H Q I h=>MC ho ha hb pins s σ H Q I (CZ hf h)
def FH{op:CmpOp}{r:R2}{f:D->D->Option D}(ho:OpR X (compareOp op) r)(hf:ROk X.K r f)(ha:PF X a ga)(hb:PF X b gb)(hm:behindInMarks op b=false):PF X (.Compare a [op] [b] pos) (g2 f ga gb):=
 λpins s σ H Q I h=>GG ho ha hb hm pins s σ H Q I (CZ hf h)
noncomputable def g3(f f':D->D->Option D)(ga gb gc:Ev->R D):Ev->R D:=λρ=>ga ρ>>=λx=>gb ρ>>=λy=>ofO (f x y)>>=λz=>match z with
 |.bl true=>gc ρ>>=λw=>ofO (f' y w)
 |.bl false=>.ok (.bl false)
 |_=>.no
def D2{op op':CmpOp}{r r':R2}{f f':D->D->Option D}(ho:OpR X (compareOp op) r)(ho':OpR X (compareOp op') r')(hf:ROk X.K r f)(hf':ROk X.K r' f')(ha:PF X a ga)(hb:PF X b gb)(hc:PF X c gc)(hm:lastMarks [op,op'] [b,c]=false:=by with_unfolding_all rfl):PF X (.Compare a [op,op'] [b,c] pos) (g3 f f' ga gb gc):=by
 intro pins s σ H Q I h;refine DE ho ho' ha hb hc hm pins s σ H Q I ?_;obtain⟨G,ρ,st,h⟩:=h;refine tG.intro st h λx v G1 H1 u1 st1 r1 h1=>?_;refine tG.intro st1 h1 λy w G2 H2 u2 st2 r2 h2=>?_;cases e:f x y with
 |none=>rw[e]at h2;exact h2.elim
 |some d=>
  rw[e]at h2;refine hf G2 H2 v w x y d _ st2.sub (r1.mono u2.gg) r2 e λz G3 H3 u3 r3=>?_;have h3:=qS u3 h2;have st3:=st2.up u3;cases r3 with
  |bl k=>
   refine⟨k,rfl,?_⟩;cases k with
   |false=>rw[if_neg rH];exact h3 _ G3 H3 (.refl st3.sub) (.bl false)
   |true=>refine tG.intro st3 (show(gc ρ>>=λw=>ofO (f' y w)).post _ _ from h3) λq vq G4 H4 u4 st4 r4 h4=>?_;obtain⟨d,e',q'⟩:=ofO.ok h4;exact hf' G4 H4 w vq y q d Q st4.sub ((r2.mono u3.gg).mono u4.gg) r4 e' q'
  |_=>exact h3.elim
end
section
noncomputable def bv:D->D->Option D
 |.int i,.int j=>some (.int (i+j))
 |.str x,.str y=>if x.length+y.length<=sizeLine then some (.str (x++y))else none
 |.lst false xs,.lst false ys=>if xs.length+ys.length<=sizeLine then some (.lst false (xs++ys))else none
 |.tup xs,.tup ys=>if xs.length+ys.length<=sizeLine then some (.tup (xs++ys))else none
 |_,_=>none
noncomputable def EV(K:PySem.W.Frag):R2:=λx y H Q=>∃a b xs ys,x=.ref a/\y=.ref b/\SqT K H a xs/\SqT K H b ys/\xs.length+ys.length<=sizeLine/\
 (xs=[]->Q (.ref b) H)/\(xs≠[]->ys=[]->Q (.ref a) H)/\(xs≠[]->ys≠[]->∀p,H p=none->Q (.ref p) (upd H p (.tup (xs++ys))))
def D7:OpR X (binaryOp .Add) (EV X.K):=by
 intro pins s σ H x y v u Q I rx ry h;obtain⟨a,b,xs,ys,rfl,rfl,ha,hb,hz,q0,q1,q2⟩:=h;by_cases hx:xs=[]
 ·cases rx;cases ry;obtain⟨its,r1,p1,_⟩:=I.tuple ha;obtain⟨its2,r2,p2,_⟩:=I.tuple hb;have hi:=r1.nil_iff.mpr hx;obtain⟨⟨cls,dd,data,sl⟩,ho,hc,n,hd⟩:=id p1;obtain⟨⟨cls2,dd2,data2,sl2⟩,ho2,hc2,n2,hd2⟩:=id p2;subst hc hd hc2 hd2;exact concat_meets ⟨_,ho,rfl⟩ ⟨_,ho2,rfl⟩ ZE seq_tuple_add PySem.F.slot_tuple_add PySem.F.entry_tuple_add (PySem.F.args_tuple_add_2 _ _)
   (tuple_addW0 a b its.toArray its2.toArray n n2 dd dd2 sl sl2 (by simp[hi])) ⟨ho,ho2,.ref b,H,I,rfl,q0 hx⟩
 ·exact HV pins s σ H _ _ v u Q I rx ry ⟨a,b,xs,ys,rfl,rfl,ha,hb,hx,hz,q1 hx,q2 hx⟩
noncomputable def Kk(K:PySem.W.Frag):R2:=λx y H Q=>(rI0 λi j=>.int (i+j)) x y H Q\/(∃i j,x=.str i/\y=.str j/\i.length+j.length<=sizeLine/\Q (.str (i++j)) H)\/OB x y H Q\/EV K x y H Q
def GJ:OpR X (binaryOp .Add) (Kk X.K):=op_add.or (op_add_str.or (op_cat.or D7))
def Str.app_list(x y:Str):(x++y).cps.toList=x.cps.toList++y.cps.toList:=by show(x.cps++y.cps).toList=_;simp
def Str.len_list(x:Str):x.cps.toList.length=x.length:=by simp[Str.length]
def IM(K:PySem.W.Frag):ROk K (Kk K) bv:=by
 intro G H x y dx dy d Q s rx ry e q;unfold bv at e;split at e;·cases e;exact .inl ⟨_,_,rx.int_inv,ry.int_inv,q _ G H (.refl s) (.int _)⟩
 ·split at e;·rename_i hz;cases e;obtain⟨i,rfl,ei,hi⟩:=rx.str_inv;obtain⟨j,rfl,ej,hj⟩:=ry.str_inv;subst ei ej;exact .inr (.inl ⟨i,j,rfl,rfl,hz,q _ G H (.refl s) (.strL (Str.app_list i j) (by rw[w6,Str.len_list,Str.len_list];exact hz))⟩)
  ·cases e
 ·split at e;·rename_i hz;cases e;obtain⟨a,vs,rfl,ha,ra⟩:=rx.lst_inv;obtain⟨b,ws,rfl,hb,rb⟩:=ry.lst_inv;refine .inr (.inr (.inl ⟨a,b,vs,ws,rfl,rfl,s _ _ ha,s _ _ hb,by rw[ra.length,rb.length];exact hz,λp hp=>q _ _ _ (.new s hp) (.lst aY ?_)⟩));exact(ra.append rb).mono (.into (s.free hp))
  ·cases e
 ·split at e
  ·rename_i hz;cases e;obtain⟨a,vs,rfl,ha,ra⟩:=rx.tup_inv;obtain⟨b,ws,rfl,hb,rb⟩:=ry.tup_inv;refine .inr (.inr (.inr ⟨a,b,vs,ws,rfl,rfl,ha.mono s,hb.mono s,by rw[ra.length,rb.length];exact hz,λz=>?_,λ_ z=>?_,λ_ _ p hp=>?_⟩));·subst z;cases ra;exact q _ G H (.refl s) (.tup hb rb)
   ·subst z;cases rb;rw[t8]at q;exact q _ G H (.refl s) (.tup ha ra)
   ·exact q _ _ _ (.new s hp) (.tup (.of aY) ((ra.append rb).mono (.into (s.free hp))))
  ·cases e
 ·cases e
def aH{a b:Expr}{ga:Ev->R D}(ha:PF X a ga)(hb:PF X b gb):PF X (.BinOp a .Add b pos) (g2 bv ga gb):=tQ GJ (IM _) ha hb
def tq:D->D->Option D
 |.int i,.int j=>some (.int (i - j))
 |_,_=>none
def li{a b:Expr}{ga:Ev->R D}(ha:PF X a ga)(hb:PF X b gb):PF X (.BinOp a .Sub b pos) (g2 tq ga gb):=tQ IL (by
 intro G H x y dx dy d Q s rx ry e q;unfold tq at e;split at e;·cases e;exact⟨_,_,rx.int_inv,ry.int_inv,q _ G H (.refl s) (.int _)⟩
 ·cases e) ha hb
noncomputable def DN:D->D->Option D
 |.int i,.int j=>if 0<j/\j<1073741824 then some (.int (i / j))else none
 |_,_=>none
def Gn{a b:Expr}{ga:Ev->R D}(ha:PF X a ga)(hb:PF X b gb):PF X (.BinOp a .FloorDiv b pos) (g2 DN ga gb):=tQ Ih (by
 intro G H x y dx dy d Q s rx ry e q;unfold DN at e;split at e
 ·split at e;·rename_i hc;cases e;exact⟨_,_,rx.int_inv,ry.int_inv,hc,q _ G H (.refl s) (.int _)⟩
  ·cases e
 ·cases e) ha hb
noncomputable def yF:D->D->Option D
 |.int i,.int j=>if 0<j then some (.int (i % j))else none
 |_,_=>none
def tE{a b:Expr}{ga:Ev->R D}(ha:PF X a ga)(hb:PF X b gb):PF X (.BinOp a .Mod b pos) (g2 yF ga gb):=tQ Lk (by
 intro G H x y dx dy d Q s rx ry e q;unfold yF at e;split at e
 ·split at e;·rename_i hc;cases e;exact⟨_,_,rx.int_inv,ry.int_inv,hc,q _ G H (.refl s) (.int _)⟩
  ·cases e
 ·cases e) ha hb
end
section
variable{a b c e:Expr}{ga gc:Ev->R D}
noncomputable def leD:D->D->Option D
 |.int i,.int j=>some (.bl (decide (i<=j)))
 |.str x,.str y=>some (.bl (!decide (y<x)))
 |_,_=>none
noncomputable def ltD:D->D->Option D
 |.int i,.int j=>some (.bl (decide (i<j)))
 |.str x,.str y=>some (.bl (decide (x<y)))
 |_,_=>none
noncomputable def gtD:D->D->Option D
 |.int i,.int j=>some (.bl (decide (j<i)))
 |_,_=>none
noncomputable def geD:D->D->Option D
 |.int i,.int j=>some (.bl (decide (j<=i)))
 |_,_=>none
def AW:OpR X (compareOp .LtE) (λx y H Q=>∃i j:Str,x=.str i/\y=.str j/\Q (.bl (!decide (j.cps.toList<i.cps.toList))) H):=by intro pins s σ H x y v u Q I rx ry h;obtain⟨i,j,rfl,rfl,q⟩:=h;obtain⟨t,rfl⟩:=rx;obtain⟨t',rfl⟩:=ry;exact PySem.P.le_str (zW I q rfl)
def yG(K:PySem.W.Frag):ROk K (λx y H Q=>(rI0 λi j=>.bl (decide (i<=j))) x y H Q\/∃i j:Str,x=.str i/\y=.str j/\Q (.bl (!decide (j.cps.toList<i.cps.toList))) H) leD:=by
 intro G H x y dx dy d Q s rx ry e q;unfold leD at e;split at e;·cases e;exact .inl ⟨_,_,rx.int_inv,ry.int_inv,q _ G H (.refl s) (.bl _)⟩
 ·cases e;obtain⟨i,rfl,ei,hi⟩:=rx.str_inv;obtain⟨j,rfl,ej,hj⟩:=ry.str_inv;subst ei ej;exact .inr ⟨i,j,rfl,rfl,q _ G H (.refl s) (.bl _)⟩
 ·cases e
def Mz(K:PySem.W.Frag):ROk K (λx y H Q=>(rI0 λi j=>.bl (decide (i<j))) x y H Q\/∃i j:Str,x=.str i/\y=.str j/\Q (.bl (decide (i.cps.toList<j.cps.toList))) H) ltD:=by
 intro G H x y dx dy d Q s rx ry e q;unfold ltD at e;split at e;·cases e;exact .inl ⟨_,_,rx.int_inv,ry.int_inv,q _ G H (.refl s) (.bl _)⟩
 ·cases e;obtain⟨i,rfl,ei,hi⟩:=rx.str_inv;obtain⟨j,rfl,ej,hj⟩:=ry.str_inv;subst ei ej;exact .inr ⟨i,j,rfl,rfl,q _ G H (.refl s) (.bl _)⟩
 ·cases e
def NT(K:PySem.W.Frag):ROk K (rI0 λi j=>.bl (decide (j<i))) gtD:=by
 intro G H x y dx dy d Q s rx ry e q;unfold gtD at e;split at e;·cases e;exact⟨_,_,rx.int_inv,ry.int_inv,q _ G H (.refl s) (.bl _)⟩
 ·cases e
def MU(K:PySem.W.Frag):ROk K (rI0 λi j=>.bl (decide (j<=i))) geD:=by
 intro G H x y dx dy d Q s rx ry e q;unfold geD at e;split at e;·cases e;exact⟨_,_,rx.int_inv,ry.int_inv,q _ G H (.refl s) (.bl _)⟩
 ·cases e
def qo:OpR X (compareOp .LtE) (λx y H Q=>(rI0 λi j=>.bl (decide (i<=j))) x y H Q\/∃i j:Str,x=.str i/\y=.str j/\Q (.bl (!decide (j.cps.toList<i.cps.toList))) H):=op_le.or AW
def Kv:OpR X (compareOp .Lt) (λx y H Q=>(rI0 λi j=>.bl (decide (i<j))) x y H Q\/∃i j:Str,x=.str i/\y=.str j/\Q (.bl (decide (i.cps.toList<j.cps.toList))) H):=op_lt.or Ci
def MB(ha:PF X a ga)(hb:PF X b gb):PF X (.Compare a [.LtE] [b] pos) (g2 leD ga gb):=FH qo (yG _) ha hb (kW _)
def rz(ha:PF X a ga)(hb:PF X b gb)(hc:PF X c gc)(hm:lastMarks [.LtE,.LtE] [b,c]=false:=by with_unfolding_all rfl):PF X (.Compare a [.LtE,.LtE] [b,c] pos) (g3 leD leD ga gb gc):=D2 qo qo (yG _) (yG _) ha hb hc hm
end
noncomputable def eqZ(f:D->D->Option Bool):List D->List D->Option (List Bool)
 |x::xs,y::ys=>(f x y).bind λb=>(eqZ f xs ys).map (b::·)
 |_,_=>some []
noncomputable def eqD:Nat->D->D->Option Bool
 | 0,_,_=>none
 |n+1,a,b=>match a,b with
  |.non,.non=>some true
  |.bl x,.bl y=>some (x==y)
  |.int i,.int j=>some (i==j)
  |.str x,.str y=>some (x==y)
  |.bl x,.int j=>some ((if x then 1 else 0)==j)
  |.int i,.bl y=>some (i==(if y then 1 else 0))
  |.lst _ xs,.lst _ ys=>if xs.length=ys.length then (eqZ (eqD n) xs ys).map λbs=>bs.all id else some false
  |.tup xs,.tup ys=>(eqZ (eqD n) xs ys).map λbs=>bs.all id && xs.length==ys.length
  |.exc _,_=>none
  |.dct _ _,_=>none
  |_,.exc _=>none
  |_,.dct _ _=>none
  |_,_=>some false
theorem eqZ.get{f:D->D->Option Bool}:∀{xs ys:List D}{bs:List Bool},eqZ f xs ys=some bs->bs.length=min xs.length ys.length/\∀(j:Nat)(x y:D),xs[j]?=some x->ys[j]?=some y->∃b,bs[j]?=some b/\f x y=some b
 | [],_,_,e=>by simp[eqZ]at e;subst e;exact⟨by simp,λj x y h=>by simp at h⟩
 |_::_,[],_,e=>by simp[eqZ]at e;subst e;exact⟨by simp,λj x y _ h=>by simp at h⟩
 |x::xs,y::ys,bs,e=>by
  unfold eqZ at e;cases e1:f x y with
  |none=>rw[e1]at e;cases e
  |some b=>
   rw[e1]at e;cases e2:eqZ f xs ys with
   |none=>rw[e2]at e;cases e
   |some cs=>
    rw[e2]at e;cases e;obtain⟨h1,h2⟩:=eqZ.get e2;refine⟨by simp[h1],λj=>?_⟩;cases j with
    |zero=>intro x' y' hx hy;simp at hx hy;subst hx hy;exact⟨b,rfl,e1⟩
    |succ j=>intro x' y' hx hy;exact h2 j x' y' (by simpa using hx) (by simpa using hy)
def pj{bs:List Bool}{n:Nat}(h:bs.length=n):(List.range n).all (λj=>bs.getD j true)=bs.all id:=by
 subst h;rw[ZL,xp,xp];constructor;·intro h b hb;obtain⟨i,hi,rfl⟩:=List.mem_iff_getElem.mp hb;have:=h i (by simpa using hi);simpa[zi,hi]using this
 ·intro h j hj;have hj':j<bs.length:=by simpa using hj
  have:=h bs[j] (jg hj');simpa[zi,hj']using this
def ff:(Value.type "list":Value)≠.type "tuple":=by intro h;exact absurd h (by decide)
section
open SeqAt
def iE(I:Inv X pins σ H s)(sub:Same G H):∀(n:Nat)(a b:D)(k:Bool)(x:V),eqD n a b=some k->Rep X.K G x a->Rep X.K G x b->k=true:=by
 intro n;induction n with
 |zero=>intro a b k x e;cases e
 |succ n ih=>
  have sq:∀(vs:List V)(xs ys:List D),Reps X.K G vs xs->Reps X.K G vs ys->∀bs,eqZ (eqD n) xs ys=some bs->bs.all id=true:=by
   intro vs;induction vs with
   |nil=>intro xs ys h1 h2 bs e;cases h1;cases h2;simp[eqZ]at e;subst e;rfl
   |cons v vs ihv=>
    intro xs ys h1 h2 bs e;cases h1 with
    |cons r1 t1=>
     cases h2 with
     |cons r2 t2=>
      unfold eqZ at e;rename_i d1 ds1 d2 ds2;cases e1:eqD n d1 d2 with
      |none=>rw[e1]at e;cases e
      |some b=>
       rw[e1]at e;cases e2:eqZ (eqD n) ds1 ds2 with
       |none=>rw[e2]at e;cases e
       |some cs=>rw[e2]at e;cases e;rw[o5,ih _ _ _ _ e1 r1 r2,ihv _ _ t1 t2 _ e2];rfl
  intro a b k x e ra rb;cases ra with
  |non=>cases rb;simp[eqD]at e;exact e
  |bl y=>cases rb;simp[eqD]at e;exact e
  |int i=>cases rb;simp[eqD]at e;exact e
  |str y h=>
   cases rb with
   |str z h'=>simp[eqD]at e;exact e
  |tup h r=>
   cases rb with
   |tup h' r'=>
    have q:=I.tuple_inj (h.mono sub) (h'.mono sub);subst q;simp only[eqD]at e;rename_i ds es;cases e2:eqZ (eqD n) ds es with
    |none=>rw[e2]at e;cases e
    |some cs=>rw[e2]at e;have this:(cs.all id && ds.length==es.length)=k:=wq e;rw[sq _ _ _ r r' _ e2,k8]at this;rw[<- this,<- r.length,<- r'.length];simp
   |lst h' r'=>obtain⟨its,_,⟨o,e1,c1,_⟩,_⟩:=I.tuple (h.mono sub);obtain⟨_,its',n',_,e2⟩:=I.hok _ _ (sub _ _ h');rw[e1]at e2;cases e2;exact absurd c1 ff
   |fls h' r'=>obtain⟨its,_,⟨o,e1,c1,_⟩,_⟩:=I.tuple (h.mono sub);obtain⟨its',_,⟨o',n',e2,c2,_⟩,_⟩:=I.list (h'.mono sub);rw[e1]at e2;cases e2;rw[c1]at c2;exact absurd c2.symm ff
   |exc h'=>simp[eqD]at e
   |dct _ _ _=>simp[eqD]at e
  |lst h r=>
   have hl:SqL X.K G _ _:=SqL.of h;cases rb with
   |tup h' r'=>obtain⟨its,_,⟨o,e1,c1,_⟩,_⟩:=I.tuple (h'.mono sub);obtain⟨_,its',n',_,e2⟩:=I.hok _ _ (sub _ _ h);rw[e1]at e2;cases e2;exact absurd c1 ff
   |lst h' r'=>
    rw[h]at h';cases h';simp only[eqD]at e;rw[if_pos (by rw[<- r.length,<- r'.length])]at e;rename_i ds es;cases e2:eqZ (eqD n) ds es with
    |none=>rw[e2]at e;cases e
    |some cs=>rw[e2]at e;have:=wq e;rw[<- this];exact sq _ _ _ r r' _ e2
   |fls h' r'=>
    have q:=I.list_inj (hl.mono sub) (h'.mono sub);subst q;simp only[eqD]at e;rw[if_pos (by rw[<- r.length,<- r'.length])]at e;rename_i ds es;cases e2:eqZ (eqD n) ds es with
    |none=>rw[e2]at e;cases e
    |some cs=>rw[e2]at e;have:=wq e;rw[<- this];exact sq _ _ _ r r' _ e2
   |exc h'=>simp[eqD]at e
   |dct _ _ _=>simp[eqD]at e
  |fls h r=>
   cases rb with
   |tup h' r'=>obtain⟨its,_,⟨o,e1,c1,_⟩,_⟩:=I.tuple (h'.mono sub);obtain⟨its',_,⟨o',n',e2,c2,_⟩,_⟩:=I.list (h.mono sub);rw[e1]at e2;cases e2;rw[c1]at c2;exact absurd c2.symm ff
   |lst h' r'=>
    have q:=I.list_inj (h.mono sub) ((SqL.of h':SqL X.K G _ _).mono sub);subst q;simp only[eqD]at e;rw[if_pos (by rw[<- r.length,<- r'.length])]at e;rename_i ds es;cases e2:eqZ (eqD n) ds es with
    |none=>rw[e2]at e;cases e
    |some cs=>rw[e2]at e;have:=wq e;rw[<- this];exact sq _ _ _ r r' _ e2
   |fls h' r'=>
    have q:=I.list_inj (h.mono sub) (h'.mono sub);subst q;simp only[eqD]at e;rw[if_pos (by rw[<- r.length,<- r'.length])]at e;rename_i ds es;cases e2:eqZ (eqD n) ds es with
    |none=>rw[e2]at e;cases e
    |some cs=>rw[e2]at e;have:=wq e;rw[<- this];exact sq _ _ _ r r' _ e2
   |exc h'=>simp[eqD]at e
   |dct _ _ _=>simp[eqD]at e
  |exc h=>simp[eqD]at e
  |dct _ _ _=>simp[eqD]at e
structure Eqs(A:Around)(s:Shared)(v u:Value)(k:Bool):Prop where
 eq:EqAt A s v u k
 rc:RcAt A s v u k
 ne:RcNeAt A s v u (!k)
def km{f:Bool}{x:V}(I:Inv X pins σ H s)(sub:Same G H)(r:Rep X.K G x (.lst f ds))(ru:RelV x u):∃a its vs,u=.ref a/\s.heap.IsList a (List.toArray its)/\Vals vs its/\Reps X.K G vs ds:=by obtain⟨a,vs,rfl,h,t⟩:=r.seq_inv;cases ru;obtain⟨its,rv,⟨o,n,e1,c1,_,d1⟩,_⟩:=I.list (h.mono sub);exact⟨a,its,vs,rfl,⟨o,e1,c1,n,d1⟩,rv,t⟩
def nQ{x:V}(I:Inv X pins σ H s)(sub:Same G H)(r:Rep X.K G x (.tup ds))(ru:RelV x u):∃a its vs,u=.ref a/\s.heap.IsTuple a (List.toArray its)/\Vals vs its/\Reps X.K G vs ds:=by obtain⟨a,vs,rfl,h,t⟩:=r.tup_inv;cases ru;obtain⟨its,rv,p,_⟩:=I.tuple (h.mono sub);exact⟨a,its,vs,rfl,p,rv,t⟩
def Cy(I:Inv X pins σ H s)(sub:Same G H):∀(n:Nat)(A:Around)(a b:D)(k:Bool)(x y:V)(v u:Value),A.units+n<cLine->eqD n a b=some k->Rep X.K G x a->Rep X.K G y b->RelV x v->RelV y u->Eqs A s v u k:=by
 intro n;induction n with
 |zero=>intro A a b k x y v u _ e;cases e
 |succ n ih=>
  have sq:∀(A:Around)(vs ws:List V)(xs ys:List D)(is js:List Value)(bs:List Bool),A.units+(n+1)<cLine->Reps X.K G vs xs->Reps X.K G ws ys->Vals vs is->Vals ws js->eqZ (eqD n) xs ys=some bs->
    bs.length=min is.length js.length/\∀j (h1:j<is.toArray.size) (h2:j<js.toArray.size),EqAt A.in1 s is.toArray[j] js.toArray[j] (bs.getD j true):=by
   intro A vs ws xs ys is js bs hA r1 r2 v1 v2 e;obtain⟨h1,h2⟩:=eqZ.get e;refine⟨by rw[h1,<- r1.length,<- r2.length,v1.length,v2.length],λj q1 q2=>?_⟩;rw[w8]at q1 q2;have p1:j<xs.length:=by rw[<- r1.length,v1.length];exact q1
   have p2:j<ys.length:=by rw[<- r2.length,v2.length];exact q2
   obtain⟨b,e1,e2⟩:=h2 j xs[j] ys[j] (by simp[p1]) (by simp[p2]);obtain⟨x',ex,rx⟩:=r1.get (i:=j) (d:=xs[j]) (by simp[p1]);obtain⟨y',ey,ry⟩:=r2.get (i:=j) (d:=ys[j]) (by simp[p2]);obtain⟨u1,eu1,ru1⟩:=v1.get ex;obtain⟨u2,eu2,ru2⟩:=v2.get ey;have g1:is.toArray[j]=u1:=by simpa[q1]using eu1
   have g2:js.toArray[j]=u2:=by simpa[q2]using eu2
   rw[zi,e1];rw[g1,g2];exact(ih A.in1 _ _ b x' y' u1 u2 (by show A.units+1+n<cLine;omega) e2 rx ry ru1 ru2).eq
  intro A a b k x y v u hA e ra rb rv ru;have hu:A.units<cLine:=by omega
  have same:∀c d:Addr,v=.ref c->u=.ref d->c=d->k=true:=λc d h1 h2 h3=>by
   subst h1 h2 h3;cases ra with
   |tup h r=>cases rv;cases rb with
    |tup h' r'=>cases ru;exact iE I sub (n+1) _ _ k _ e (.tup h r) (.tup h' r')
    |lst h' r'=>cases ru;exact iE I sub (n+1) _ _ k _ e (.tup h r) (.lst h' r')
    |fls h' r'=>cases ru;exact iE I sub (n+1) _ _ k _ e (.tup h r) (.fls h' r')
    |exc h'=>simp[eqD]at e
    |dct _ _ _=>simp[eqD]at e
    |str _ _=>obtain⟨t,z⟩:=ru;cases z
    |int _=>obtain⟨t,z⟩:=ru;cases z
    |non=>cases ru
    |bl _=>cases ru
   |lst h r=>cases rv;cases rb with
    |tup h' r'=>cases ru;exact iE I sub (n+1) _ _ k _ e (.lst h r) (.tup h' r')
    |lst h' r'=>cases ru;exact iE I sub (n+1) _ _ k _ e (.lst h r) (.lst h' r')
    |fls h' r'=>cases ru;exact iE I sub (n+1) _ _ k _ e (.lst h r) (.fls h' r')
    |exc h'=>simp[eqD]at e
    |dct _ _ _=>simp[eqD]at e
    |str _ _=>obtain⟨t,z⟩:=ru;cases z
    |int _=>obtain⟨t,z⟩:=ru;cases z
    |non=>cases ru
    |bl _=>cases ru
   |fls h r=>cases rv;cases rb with
    |tup h' r'=>cases ru;exact iE I sub (n+1) _ _ k _ e (.fls h r) (.tup h' r')
    |lst h' r'=>cases ru;exact iE I sub (n+1) _ _ k _ e (.fls h r) (.lst h' r')
    |fls h' r'=>cases ru;exact iE I sub (n+1) _ _ k _ e (.fls h r) (.fls h' r')
    |exc h'=>simp[eqD]at e
    |dct _ _ _=>simp[eqD]at e
    |str _ _=>obtain⟨t,z⟩:=ru;cases z
    |int _=>obtain⟨t,z⟩:=ru;cases z
    |non=>cases ru
    |bl _=>cases ru
   |exc h=>simp[eqD]at e
   |dct _ _ _=>simp[eqD]at e
   |str _ _=>obtain⟨t,z⟩:=rv;cases z
   |int _=>obtain⟨t,z⟩:=rv;cases z
   |non=>cases rv
   |bl _=>cases rv
  have refs:∀c d:Addr,v=.ref c->u=.ref d->RcAt A s v u k->EqAt A s v u k:=λc d h1 h2 h=>by
   subst h1 h2;by_cases h3:c=d;·have:=same c d rfl rfl h3;subst h3 this;exact EqAt.same _
   ·exact EqAt.of_refs h3 h
  cases a with
  |exc C=>simp[eqD]at e
  |dct _ _=>simp[eqD]at e
  |non=>
   obtain rfl:=ra.non_inv;cases rv;cases b with
   |exc C=>simp[eqD]at e
   |dct _ _=>simp[eqD]at e
   |non=>obtain rfl:=rb.non_inv;cases ru;simp[eqD]at e;subst e;exact⟨EqAt.same _,RcAt.none_none,RcNeAt.none_none⟩
   |bl z=>obtain rfl:=rb.bl_inv;cases ru;simp[eqD]at e;subst e;exact⟨EqAt.none_bool _,RcAt.none_bool _,RcNeAt.none_bool _⟩
   |int z=>obtain rfl:=rb.int_inv;obtain⟨t,rfl⟩:=ru;simp[eqD]at e;subst e;exact⟨EqAt.none_int _ _,RcAt.none_int _ _,RcNeAt.none_int _ _⟩
   |str z=>obtain⟨z,rfl,-,-⟩:=rb.str_inv;obtain⟨t,rfl⟩:=ru;simp[eqD]at e;subst e;exact⟨EqAt.none_str _ _,RcAt.none_str _ _,RcNeAt.none_str _ _⟩
   |tup ds=>obtain⟨c,its,vs,rfl,p,_,_⟩:=nQ I sub rb ru;simp[eqD]at e;subst e;exact⟨EqAt.none_tuple p hu,RcAt.none_tuple p hu,RcNeAt.none_tuple p hu⟩
   |lst f ds=>obtain⟨c,its,vs,rfl,p,_,_⟩:=km I sub rb ru;simp[eqD]at e;subst e;exact⟨EqAt.none_list p hu,RcAt.none_list p hu,RcNeAt.none_list p hu⟩
  |bl w=>
   obtain rfl:=ra.bl_inv;cases rv;cases b with
   |exc C=>simp[eqD]at e
   |dct _ _=>simp[eqD]at e
   |non=>obtain rfl:=rb.non_inv;cases ru;simp[eqD]at e;subst e;exact⟨EqAt.bool_none _,RcAt.bool_none _,RcNeAt.bool_none _⟩
   |bl z=>obtain rfl:=rb.bl_inv;cases ru;simp only[eqD]at e;cases e;exact⟨EqAt.bool_bool _ _,RcAt.bool_bool _ _,RcNeAt.bool_bool _ _⟩
   |int z=>obtain rfl:=rb.int_inv;obtain⟨t,rfl⟩:=ru;simp only[eqD]at e;cases e;exact⟨EqAt.bool_int _ _ _,RcAt.bool_int _ _ _,RcNeAt.bool_int _ _ _⟩
   |str z=>obtain⟨z,rfl,-,-⟩:=rb.str_inv;obtain⟨t,rfl⟩:=ru;simp[eqD]at e;subst e;exact⟨EqAt.bool_str _ _ _,RcAt.bool_str _ _ _,RcNeAt.bool_str _ _ _⟩
   |tup ds=>obtain⟨c,its,vs,rfl,p,_,_⟩:=nQ I sub rb ru;simp[eqD]at e;subst e;exact⟨EqAt.bool_tuple _ p hu,RcAt.bool_tuple _ p hu,RcNeAt.bool_tuple _ p hu⟩
   |lst f ds=>obtain⟨c,its,vs,rfl,p,_,_⟩:=km I sub rb ru;simp[eqD]at e;subst e;exact⟨EqAt.bool_list _ p hu,RcAt.bool_list _ p hu,RcNeAt.bool_list _ p hu⟩
  |int w=>
   obtain rfl:=ra.int_inv;obtain⟨t0,rfl⟩:=rv;cases b with
   |exc C=>simp[eqD]at e
   |dct _ _=>simp[eqD]at e
   |non=>obtain rfl:=rb.non_inv;cases ru;simp[eqD]at e;subst e;exact⟨EqAt.int_none _ _,RcAt.int_none _ _,RcNeAt.int_none _ _⟩
   |bl z=>obtain rfl:=rb.bl_inv;cases ru;simp only[eqD]at e;cases e;exact⟨EqAt.int_bool _ _ _,RcAt.int_bool _ _ _,RcNeAt.int_bool _ _ _⟩
   |int z=>obtain rfl:=rb.int_inv;obtain⟨t,rfl⟩:=ru;simp only[eqD]at e;cases e;exact⟨EqAt.int_int _ _ _ _,RcAt.int_int _ _ _ _,RcNeAt.int_int _ _ _ _⟩
   |str z=>obtain⟨z,rfl,-,-⟩:=rb.str_inv;obtain⟨t,rfl⟩:=ru;simp[eqD]at e;subst e;exact⟨EqAt.int_str _ _ _ _,RcAt.int_str _ _ _ _,RcNeAt.int_str _ _ _ _⟩
   |tup ds=>obtain⟨c,its,vs,rfl,p,_,_⟩:=nQ I sub rb ru;simp[eqD]at e;subst e;exact⟨EqAt.int_tuple _ _ p hu,RcAt.int_tuple _ _ p hu,RcNeAt.int_tuple _ _ p hu⟩
   |lst f ds=>obtain⟨c,its,vs,rfl,p,_,_⟩:=km I sub rb ru;simp[eqD]at e;subst e;exact⟨EqAt.int_list _ _ p hu,RcAt.int_list _ _ p hu,RcNeAt.int_list _ _ p hu⟩
  |str w=>
   obtain⟨w,rfl,ew,-⟩:=ra.str_inv;obtain⟨t0,rfl⟩:=rv;cases b with
   |exc C=>simp[eqD]at e
   |dct _ _=>simp[eqD]at e
   |non=>obtain rfl:=rb.non_inv;cases ru;simp[eqD]at e;subst e;exact⟨EqAt.str_none _ _,RcAt.str_none _ _,RcNeAt.str_none _ _⟩
   |bl z=>obtain rfl:=rb.bl_inv;cases ru;simp[eqD]at e;subst e;exact⟨EqAt.str_bool _ _ _,RcAt.str_bool _ _ _,RcNeAt.str_bool _ _ _⟩
   |int z=>obtain rfl:=rb.int_inv;obtain⟨t,rfl⟩:=ru;simp[eqD]at e;subst e;exact⟨EqAt.str_int _ _ _ _,RcAt.str_int _ _ _ _,RcNeAt.str_int _ _ _ _⟩
   |str z=>obtain⟨z,rfl,ez,-⟩:=rb.str_inv;obtain⟨t,rfl⟩:=ru;simp only[eqD]at e;subst ew ez;rw[str_beq]at e;cases e;exact⟨EqAt.str_str _ _ _ _,RcAt.str_str _ _ _ _,RcNeAt.str_str _ _ _ _⟩
   |tup ds=>obtain⟨c,its,vs,rfl,p,_,_⟩:=nQ I sub rb ru;simp[eqD]at e;subst e;exact⟨EqAt.str_tuple _ _ p hu,RcAt.str_tuple _ _ p hu,RcNeAt.str_tuple _ _ p hu⟩
   |lst f ds=>obtain⟨c,its,vs,rfl,p,_,_⟩:=km I sub rb ru;simp[eqD]at e;subst e;exact⟨EqAt.str_list _ _ p hu,RcAt.str_list _ _ p hu,RcNeAt.str_list _ _ p hu⟩
  |tup ds1=>
   obtain⟨c1,its1,vs1,rfl,p1,w1,q1⟩:=nQ I sub ra rv;cases b with
   |exc C=>simp[eqD]at e
   |dct _ _=>simp[eqD]at e
   |non=>obtain rfl:=rb.non_inv;cases ru;simp[eqD]at e;subst e;exact⟨EqAt.tuple_none p1 hu,RcAt.tuple_none p1 hu,RcNeAt.tuple_none p1 hu⟩
   |bl z=>obtain rfl:=rb.bl_inv;cases ru;simp[eqD]at e;subst e;exact⟨EqAt.tuple_bool _ p1 hu,RcAt.tuple_bool _ p1 hu,RcNeAt.tuple_bool _ p1 hu⟩
   |int z=>obtain rfl:=rb.int_inv;obtain⟨t,rfl⟩:=ru;simp[eqD]at e;subst e;exact⟨EqAt.tuple_int _ _ p1 hu,RcAt.tuple_int _ _ p1 hu,RcNeAt.tuple_int _ _ p1 hu⟩
   |str z=>obtain⟨z,rfl,-,-⟩:=rb.str_inv;obtain⟨t,rfl⟩:=ru;simp[eqD]at e;subst e;exact⟨EqAt.tuple_str _ _ p1 hu,RcAt.tuple_str _ _ p1 hu,RcNeAt.tuple_str _ _ p1 hu⟩
   |lst f ds=>obtain⟨c,its,vs,rfl,p,_,_⟩:=km I sub rb ru;simp[eqD]at e;subst e;exact⟨EqAt.tuple_list p1 p hu,RcAt.tuple_list p1 p hu,RcNeAt.tuple_list p1 p hu⟩
   |tup ds2=>
    obtain⟨c2,its2,vs2,rfl,p2,w2,q2⟩:=nQ I sub rb ru;simp only[eqD]at e;cases e2:eqZ (eqD n) ds1 ds2 with
    |none=>rw[e2]at e;cases e
    |some bs=>
     rw[e2]at e;have ek:=wq e;obtain⟨hl,he⟩:=sq A _ _ _ _ _ _ bs hA q1 q2 w1 w2 e2;have e3:((List.range (min its1.toArray.size its2.toArray.size)).all (λj=>bs.getD j true) && its1.toArray.size==its2.toArray.size)=k:=by rw[<- ek,w8,w8,pj hl,<- w1.length,<- w2.length,q1.length,q2.length]
     have hrc:RcAt A s (.ref c1) (.ref c2) k:=by rw[<- e3];exact RcAt.tuples p1 p2 hu he
     have hne:RcNeAt A s (.ref c1) (.ref c2) (!k):=by rw[<- e3];exact RcNeAt.tuples p1 p2 hu he
     exact⟨refs _ _ rfl rfl hrc,hrc,hne⟩
  |lst f1 ds1=>
   obtain⟨c1,its1,vs1,rfl,p1,w1,q1⟩:=km I sub ra rv;cases b with
   |exc C=>simp[eqD]at e
   |dct _ _=>simp[eqD]at e
   |non=>obtain rfl:=rb.non_inv;cases ru;simp[eqD]at e;subst e;exact⟨EqAt.list_none p1 hu,RcAt.list_none p1 hu,RcNeAt.list_none p1 hu⟩
   |bl z=>obtain rfl:=rb.bl_inv;cases ru;simp[eqD]at e;subst e;exact⟨EqAt.list_bool _ p1 hu,RcAt.list_bool _ p1 hu,RcNeAt.list_bool _ p1 hu⟩
   |int z=>obtain rfl:=rb.int_inv;obtain⟨t,rfl⟩:=ru;simp[eqD]at e;subst e;exact⟨EqAt.list_int _ _ p1 hu,RcAt.list_int _ _ p1 hu,RcNeAt.list_int _ _ p1 hu⟩
   |str z=>obtain⟨z,rfl,-,-⟩:=rb.str_inv;obtain⟨t,rfl⟩:=ru;simp[eqD]at e;subst e;exact⟨EqAt.list_str _ _ p1 hu,RcAt.list_str _ _ p1 hu,RcNeAt.list_str _ _ p1 hu⟩
   |tup ds=>obtain⟨c,its,vs,rfl,p,_,_⟩:=nQ I sub rb ru;simp[eqD]at e;subst e;exact⟨EqAt.list_tuple p1 p hu,RcAt.list_tuple p1 p hu,RcNeAt.list_tuple p1 p hu⟩
   |lst f2 ds2=>
    obtain⟨c2,its2,vs2,rfl,p2,w2,q2⟩:=km I sub rb ru;simp only[eqD]at e;by_cases hlen:ds1.length=ds2.length
    ·rw[if_pos hlen]at e;cases e2:eqZ (eqD n) ds1 ds2 with
     |none=>rw[e2]at e;cases e
     |some bs=>
      rw[e2]at e;have ek:=wq e;obtain⟨hl,he⟩:=sq A _ _ _ _ _ _ bs hA q1 q2 w1 w2 e2;have hz:its1.toArray.size=its2.toArray.size:=by rw[w8,w8,<- w1.length,<- w2.length,q1.length,q2.length];exact hlen
      have e3:(List.range its1.toArray.size).all (λj=>bs.getD j true)=k:=by rw[<- ek,pj];rw[hl,w8];simp only[w8]at hz;omega
      have hrc:RcAt A s (.ref c1) (.ref c2) k:=by rw[<- e3];exact RcAt.lists p1 p2 hz hu he
      have hne:RcNeAt A s (.ref c1) (.ref c2) (!k):=by rw[<- e3];exact RcNeAt.lists p1 p2 hz hu he
      exact⟨refs _ _ rfl rfl hrc,hrc,hne⟩
    ·rw[if_neg hlen]at e;cases e;have hz:(its1.toArray.size != its2.toArray.size)=true:=by rw[w8,w8,<- w1.length,<- w2.length,q1.length,q2.length];simpa using hlen
     have hrc:=RcAt.lists_lengths p1 p2 hz hu;exact⟨refs _ _ rfl rfl hrc,hrc,RcNeAt.lists_lengths p1 p2 hz hu⟩
end
section
variable{a b:Expr}{ga:Ev->R D}
def eqF(x y:D):Option D:=(eqD 40 x y).map .bl
def neF(x y:D):Option D:=(eqD 40 x y).map λk=>.bl (!k)
noncomputable def MJ(K:PySem.W.Frag)(neg:Bool):R2:=λx y H Q=>∃G dx dy k,Same G H/\Rep K G x dx/\Rep K G y dy/\eqD 40 dx dy=some k/\Q (.bl (if neg then !k else k)) H
def E3(hu:X.A.units+64<cLine):OpR X (compareOp .Eq) (MJ X.K false):=by intro pins s σ H x y v u Q I rx ry h;obtain⟨G,dx,dy,k,sub,r1,r2,e,q⟩:=h;exact(Cy I sub 40 X.A dx dy k x y v u (by omega) e r1 r2 rx ry).rc _ _ _ _ ⟨.bl k,H,I,rfl,q⟩
def IZ(hu:X.A.units+64<cLine):OpR X (compareOp .NotEq) (MJ X.K true):=by intro pins s σ H x y v u Q I rx ry h;obtain⟨G,dx,dy,k,sub,r1,r2,e,q⟩:=h;exact(Cy I sub 40 X.A dx dy k x y v u (by omega) e r1 r2 rx ry).ne _ _ _ _ ⟨.bl (!k),H,I,rfl,q⟩
def oh(hu:X.A.units+64<cLine)(ha:PF X a ga)(hb:PF X b gb):PF X (.Compare a [.Eq] [b] pos) (g2 eqF ga gb):=FH (E3 hu) (by
 intro G H x y dx dy d Q s rx ry e q;unfold eqF at e;cases e1:eqD 40 dx dy with
 |none=>rw[e1]at e;cases e
 |some k=>rw[e1]at e;cases e;exact⟨G,dx,dy,k,s,rx,ry,e1,q _ G H (.refl s) (.bl k)⟩) ha hb (kW _)
end
end L2
namespace L2
open PySem PySem.Spec PyProof.Rows
section
variable{a b c e:Expr}{eN:List Expr}{ga gc:Ev->R D}{gt gu:Ev->R Bool}
noncomputable def isD:D->D->Option Bool
 |.non,.non=>some true
 |_,.non=>some false
 |.bl x,.bl y=>some (x==y)
 |_,_=>none
def isF(x y:D):Option D:=(isD x y).map .bl
noncomputable def rIs(neg:Bool):R2:=λx y H Q=>(y=.non/\Q (.bl (if neg then !decide (x=.non)else decide (x=.non))) H)\/∃i j,x=.bl i/\y=.bl j/\Q (.bl (if neg then !(i==j)else (i==j))) H
def J9:OpR X (compareOp .Is) (rIs false):=op_isN.or (by intro pins s σ H x y v u Q I rx ry h;obtain⟨i,j,rfl,rfl,q⟩:=h;cases rx;cases ry;exact is_bool ⟨.bl _,H,I,rfl,q⟩)
def Oe(K:PySem.W.Frag)(neg:Bool):ROk K (rIs neg) (λx y=>(isD x y).map λk=>.bl (if neg then !k else k)):=by
 intro G H x y dx dy d Q s rx ry e q;dsimp only at e;cases e1:isD dx dy with
 |none=>rw[e1]at e;cases e
 |some k=>
  rw[e1]at e;have ed:=wq e;subst ed;unfold isD at e1;split at e1;·cases e1;exact .inl ⟨ry.non_inv,by rw[rx.non_inv];exact q _ G H (.refl s) (.bl _)⟩
  ·rename_i hx;cases e1;have hn:x≠.non:=λz=>by subst z;cases rx;exact hx rfl
   refine .inl ⟨ry.non_inv,?_⟩;rw[v6 hn];exact q _ G H (.refl s) (.bl _)
  ·cases e1;exact .inr ⟨_,_,rx.bl_inv,ry.bl_inv,q _ G H (.refl s) (.bl _)⟩
  ·cases e1
def asB:D->R Bool
 |.bl k=>.ok k
 |_=>.no
noncomputable def me(ga gb:Ev->R D):Ev->R D:=λρ=>ga ρ>>=λx=>asB x>>=λk=>if k=true then gb ρ else .ok (.bl false)
noncomputable def gOr(ga gb:Ev->R D):Ev->R D:=λρ=>ga ρ>>=λx=>asB x>>=λk=>if k=true then .ok (.bl true)else gb ρ
noncomputable def Jo(ga:Ev->R D):Ev->R D:=λρ=>ga ρ>>=λx=>asB x>>=λk=>.ok (.bl (!k))
def asB.ok{β:Type}{K:PySem.W.Frag}{k:Bool->R β}{P:β->Prop}{E:Addr->Prop}(r:Rep K G v d)(h:(asB d>>=k).post P E):∃c,v=.bl c/\d=.bl c/\(k c).post P E:=by
 cases r with
 |bl c=>exact⟨c,rfl,rfl,h⟩
 |_=>exact h.elim
def iS{op:BoolOp}(h:PF X a ga):PF X (.BoolOp op [a] pos) ga:=KY h
def fW(ha:PF X a ga)(hb:PF X (.BoolOp .And (b::eN) pos) gb):PF X (.BoolOp .And (a::b::eN) pos) (me ga gb):=by
 intro pins s σ H Q I h;refine KC ha hb pins s σ H Q I ?_;obtain⟨G,ρ,st,h⟩:=h;refine tG.intro st h λx v G1 H1 u1 st1 r1 h1=>?_;obtain⟨c,ec,ed,h2⟩:=asB.ok r1 h1;subst ec ed;refine⟨c,rfl,?_⟩;cases c with
 |true=>rw[if_pos rfl]at h2⊢;exact tG.last st1 h2
 |false=>rw[if_neg rH]at h2⊢;exact h2 _ G1 H1 (.refl st1.sub) (.bl false)
def KJ(ha:PF X a ga)(hb:PF X (.BoolOp .Or (b::eN) pos) gb):PF X (.BoolOp .Or (a::b::eN) pos) (gOr ga gb):=by
 intro pins s σ H Q I h;refine Ng ha hb pins s σ H Q I ?_;obtain⟨G,ρ,st,h⟩:=h;refine tG.intro st h λx v G1 H1 u1 st1 r1 h1=>?_;obtain⟨c,ec,ed,h2⟩:=asB.ok r1 h1;subst ec ed;refine⟨c,rfl,?_⟩;cases c with
 |true=>rw[if_pos rfl]at h2⊢;exact h2 _ G1 H1 (.refl st1.sub) (.bl true)
 |false=>rw[if_neg rH]at h2⊢;exact tG.last st1 h2
def Fo(ha:PF X a ga):PF X (.UnaryOp .Not a pos) (Jo ga):=by intro pins s σ H Q I h;refine Kx ha pins s σ H Q I ?_;obtain⟨G,ρ,st,h⟩:=h;refine tG.intro st h λx v G1 H1 u1 st1 r1 h1=>?_;obtain⟨c,ec,ed,h2⟩:=asB.ok r1 h1;subst ec ed;exact⟨c,rfl,h2 _ G1 H1 (.refl st1.sub) (.bl _)⟩
def CC:D->R D
 |.int i=>.ok (.int (-i))
 |_=>.no
def LF(ha:PF X a ga):PF X (.UnaryOp .USub a pos) (λρ=>ga ρ>>=CC):=by
 intro pins s σ H Q I h;refine Oa Kn ha pins s σ H Q I ?_;obtain⟨G,ρ,st,h⟩:=h;refine tG.intro st h λx v G1 H1 u1 st1 r1 h1=>?_;cases r1 with
 |int i=>exact⟨i,rfl,h1 _ G1 H1 (.refl st1.sub) (.int _)⟩
 |_=>exact h1.elim
noncomputable def iV:D->R Bool
 |.non=>.ok false
 |.bl k=>.ok k
 |.int i=>.ok (i != 0)
 |.str x=>.ok (!x.isEmpty)
 |.tup xs=>.ok (!xs.isEmpty)
 |.lst _ xs=>.ok (!xs.isEmpty)
 |.exc _=>.no
 |.dct _ _=>.no
def Reps.isEmpty{K:PySem.W.Frag}(r:Reps K G vs ds):vs.isEmpty=ds.isEmpty:=by cases r <;> rfl
def A3(h:PF X e ga)(he:∀whole,isTrue e X.env whole=(do let v <- whole;standAt e.pos;holding [v] (truthy v)):=by intro _;rfl):PB X e (λρ=>ga ρ>>=iV):=by
 intro pins s σ H Q I hq;refine DF h he pins s σ H Q I ?_;obtain⟨G,ρ,st,hq⟩:=hq;refine tG.intro st hq λx v G1 H1 u1 st1 r1 h1=>?_;have fin:∀k,iV x=.ok k->Q k H1:=λk ek=>by rw[ek]at h1;exact h1 k G1 H1 (.refl st1.sub) rfl
 cases r1 with
 |non=>exact⟨_,rfl,fin _ rfl⟩
 |bl k=>exact⟨_,rfl,fin _ rfl⟩
 |int i=>exact⟨_,rfl,fin _ rfl⟩
 |str y hy=>
  refine⟨_,⟨hy,rfl⟩,fin _ ?_⟩;show R.ok _=R.ok _;have:y.cps.toList.length=y.length:=Str.len_list y;cases h:y.cps.toList with
  |nil=>rw[h]at this;rw[<- this];rfl
  |cons c cs=>rw[h]at this;rw[<- this];simp;omega
 |tup h r=>exact⟨_,.inr (.inl ⟨_,h.mono st1.sub,rfl⟩),fin _ (by show R.ok _=R.ok _;rw[r.isEmpty])⟩
 |lst h r=>exact⟨_,.inl ⟨_,.of (st1.sub _ _ h),rfl⟩,fin _ (by show R.ok _=R.ok _;rw[r.isEmpty])⟩
 |fls h r=>exact⟨_,.inl ⟨_,h.mono st1.sub,rfl⟩,fin _ (by show R.ok _=R.ok _;rw[r.isEmpty])⟩
 |_=>exact h1.elim
def pJ{op:CmpOp}{r:R2}{f:D->D->Option D}(ho:OpR X (compareOp op) r)(hf:ROk X.K r f)(ha:PF X a ga)(hb:PF X b gb)(hm:behindInMarks op b=false):PB X (.Compare a [op] [b] pos) (λρ=>g2 f ga gb ρ>>=asB):=by
 intro pins s σ H Q I h;refine wY ho ha hb hm pins s σ H Q I ?_;obtain⟨G,ρ,st,h⟩:=h;refine CZ hf ?_;refine tG.intro st h λx v G1 H1 u1 st1 r1 h1=>?_;cases r1 with
 |bl k=>exact⟨k,rfl,h1 k G1 H1 (.refl st1.sub) rfl⟩
 |_=>exact h1.elim
def MW(ha:PF X a ga)(hb:PF X b gb):PB X (.Compare a [.Lt] [b] pos) (λρ=>g2 ltD ga gb ρ>>=asB):=pJ Kv (Mz _) ha hb (kW _)
def NQ(ha:PF X a ga)(hb:PF X b gb):PB X (.Compare a [.LtE] [b] pos) (λρ=>g2 leD ga gb ρ>>=asB):=pJ qo (yG _) ha hb (kW _)
def Og(ha:PF X a ga)(hb:PF X b gb):PB X (.Compare a [.Gt] [b] pos) (λρ=>g2 gtD ga gb ρ>>=asB):=pJ Nh (NT _) ha hb (kW _)
def NO(ha:PF X a ga)(hb:PF X b gb):PB X (.Compare a [.GtE] [b] pos) (λρ=>g2 geD ga gb ρ>>=asB):=pJ MN (MU _) ha hb (kW _)
def Fy(K:PySem.W.Frag)(neg:Bool):ROk K (MJ K neg) (λx y=>(eqD 40 x y).map λk=>.bl (if neg then !k else k)):=by
 intro G H x y dx dy d Q s rx ry e q;dsimp only at e;cases e1:eqD 40 dx dy with
 |none=>rw[e1]at e;cases e
 |some k=>rw[e1]at e;cases e;exact⟨G,dx,dy,k,s,rx,ry,e1,q _ G H (.refl s) (.bl _)⟩
def MO(hu:X.A.units+64<cLine)(ha:PF X a ga)(hb:PF X b gb):PB X (.Compare a [.Eq] [b] pos) (λρ=>g2 eqF ga gb ρ>>=asB):=pJ (E3 hu) (Fy _ false) ha hb (kW _)
def Ml(hu:X.A.units+64<cLine)(ha:PF X a ga)(hb:PF X b gb):PB X (.Compare a [.NotEq] [b] pos) (λρ=>g2 neF ga gb ρ>>=asB):=pJ (IZ hu) (Fy _ true) ha hb (kW _)
def N0(ha:PF X a ga)(hb:PF X b gb):PB X (.Compare a [.Is] [b] pos) (λρ=>g2 isF ga gb ρ>>=asB):=pJ J9 (Oe _ false) ha hb (kW _)
def Ec{op op':CmpOp}{r r':R2}{f f':D->D->Option D}(ho:OpR X (compareOp op) r)(ho':OpR X (compareOp op') r')(hf:ROk X.K r f)(hf':ROk X.K r' f')(ha:PF X a ga)(hb:PF X b gb)(hc:PF X c gc)(hm:lastMarks [op,op'] [b,c]=false:=by with_unfolding_all rfl):PB X (.Compare a [op,op'] [b,c] pos) (λρ=>g3 f f' ga gb gc ρ>>=asB):=by
 intro pins s σ H Q I h;refine D9 ho ho' ha hb hc hm pins s σ H Q I ?_;obtain⟨G,ρ,st,h⟩:=h;have h':(ga ρ>>=λx=>gb ρ>>=λy=>ofO (f x y)>>=λz=>(match z with|.bl true=>gc ρ>>=λw=>ofO (f' y w)|.bl false=>.ok (.bl false)|_=>.no)>>=asB).post (Fin G H (λ_ b c=>b=c) Q) (Exx X σ G H):=by
  have e:(g3 f f' ga gb gc ρ>>=asB)=(ga ρ>>=λx=>gb ρ>>=λy=>ofO (f x y)>>=λz=>(match z with|.bl true=>gc ρ>>=λw=>ofO (f' y w)|.bl false=>.ok (.bl false)|_=>.no)>>=asB):=by
   unfold g3;cases ga ρ with
   |ok x=>cases gb ρ with
    |ok y=>simp only[R.ok_bind];cases ofO (f x y) <;> rfl
    |_=>rfl
   |_=>rfl
  rw[<- e];exact h
 refine tG.intro st h' λx v G1 H1 u1 st1 r1 h1=>?_;refine tG.intro st1 h1 λy w G2 H2 u2 st2 r2 h2=>?_;cases e:f x y with
 |none=>rw[e]at h2;exact h2.elim
 |some d=>
  rw[e]at h2;refine hf G2 H2 v w x y d _ st2.sub (r1.mono u2.gg) r2 e λz G3 H3 u3 r3=>?_;have h3:=qS u3 h2;have st3:=st2.up u3;cases r3 with
  |bl k=>
   refine⟨k,rfl,?_⟩;cases k with
   |false=>rw[if_neg rH];exact⟨false,rfl,h3 _ G3 H3 (.refl st3.sub) rfl⟩
   |true=>
    have h3':(gc ρ>>=λw=>ofO (f' y w)>>=asB).post (Fin G3 H3 (λ_ b c=>b=c) Q) (Exx X σ G3 H3):=by
     have e:((gc ρ>>=λw=>ofO (f' y w))>>=asB)=(gc ρ>>=λw=>ofO (f' y w)>>=asB):=by cases gc ρ <;> rfl
     rw[<- e];exact h3
    refine tG.intro st3 h3' λq vq G4 H4 u4 st4 r4 h4=>?_;cases e':f' y q with
    |none=>rw[e']at h4;exact h4.elim
    |some d'=>
     rw[e']at h4;refine hf' G4 H4 w vq y q d' _ st4.sub ((r2.mono u3.gg).mono u4.gg) r4 e' λz' G5 H5 u5 r5=>?_;have h5:=qS u5 h4;cases r5 with
     |bl k'=>exact⟨k',rfl,h5 k' G5 H5 (.refl u5.sub) rfl⟩
     |_=>exact h5.elim
  |_=>exact h3.elim
def H9(ha:PF X a ga)(hb:PF X b gb)(hc:PF X c gc)(hm:lastMarks [.LtE,.LtE] [b,c]=false:=by with_unfolding_all rfl):PB X (.Compare a [.LtE,.LtE] [b,c] pos) (λρ=>g3 leD leD ga gb gc ρ>>=asB):=Ec qo qo (yG _) (yG _) ha hb hc hm
noncomputable def vG(t u:Ev->R Bool):Ev->R Bool:=λρ=>t ρ>>=λk=>if k=true then u ρ else .ok false
noncomputable def jY(t u:Ev->R Bool):Ev->R Bool:=λρ=>t ρ>>=λk=>if k=true then .ok true else u ρ
def rP(ha:PB X a gt):PBW X (.BoolOp .And [a] pos) gt:=Gz ha
def cP(ha:PB X a gt):PBW X (.BoolOp .Or [a] pos) gt:=Kc ha
def rM(ha:PB X a gt)(hb:PBW X (.BoolOp .And (b::eN) pos) gu):PBW X (.BoolOp .And (a::b::eN) pos) (vG gt gu):=by
 intro whole pins s σ H Q I h;refine Kl ha hb whole pins s σ H Q I ?_;obtain⟨G,ρ,st,h⟩:=h;refine tG.intro st h λx v G1 H1 u1 st1 r1 h1=>?_;subst r1;cases v with
 |true=>rw[if_pos rfl]at h1⊢;exact tG.last st1 h1
 |false=>rw[if_neg rH]at h1⊢;exact h1 _ G1 H1 (.refl st1.sub) rfl
def cZ(ha:PB X a gt)(hb:PBW X (.BoolOp .Or (b::eN) pos) gu):PBW X (.BoolOp .Or (a::b::eN) pos) (jY gt gu):=by
 intro whole pins s σ H Q I h;refine Ob ha hb whole pins s σ H Q I ?_;obtain⟨G,ρ,st,h⟩:=h;refine tG.intro st h λx v G1 H1 u1 st1 r1 h1=>?_;subst r1;cases v with
 |true=>rw[if_pos rfl]at h1⊢;exact h1 _ G1 H1 (.refl st1.sub) rfl
 |false=>rw[if_neg rH]at h1⊢;exact tG.last st1 h1
def Jz(ha:PB X a gt):PB X (.UnaryOp .Not a pos) (λρ=>gt ρ>>=λk=>.ok (!k)):=by intro pins s σ H Q I h;refine Ji ha pins s σ H Q I ?_;obtain⟨G,ρ,st,h⟩:=h;refine tG.intro st h λx v G1 H1 u1 st1 r1 h1=>?_;subst r1;exact h1 _ G1 H1 (.refl st1.sub) rfl
noncomputable def gIf(gt:Ev->R Bool)(ga gb:Ev->R D):Ev->R D:=λρ=>gt ρ>>=λk=>if k=true then ga ρ else gb ρ
def qI(hc:PB X c gt)(ha:PF X a ga)(hb:PF X b gb):PF X (.IfExp c a b pos) (gIf gt ga gb):=by
 intro pins s σ H Q I h;refine DL hc ha hb pins s σ H Q I ?_;obtain⟨G,ρ,st,h⟩:=h;refine tG.intro st h λx v G1 H1 u1 st1 r1 h1=>?_;subst r1;cases v with
 |true=>rw[if_pos rfl]at h1⊢;exact tG.last st1 h1
 |false=>rw[if_neg rH]at h1⊢;exact tG.last st1 h1
def ae:PFA X [] (λ_=>.ok []):=by intro pos pins s σ H Q I h;obtain⟨G,ρ,st,h⟩:=h;exact lx pos pins s σ H Q I (h [] G H (.refl st.sub) .nil)
def D4(ha:PF X e ga)(hr:PFA X es gl)(hs:starEach (e::es) X.env=(false,eval e X.env)::starEach es X.env:=by rfl):PFA X (e::es) (λρ=>ga ρ>>=λx=>gl ρ>>=λxs=>.ok (x::xs)):=by intro pos pins s σ H Q I h;refine eW ha hr hs pos pins s σ H Q I ?_;obtain⟨G,ρ,st,h⟩:=h;refine tG.intro st h λx v G1 H1 u1 st1 r1 h1=>?_;refine tG.intro st1 h1 λy w G2 H2 u2 st2 r2 h2=>?_;exact h2 _ G2 H2 (.refl st2.sub) (.cons (r1.mono u2.gg) r2)
noncomputable def mkT(ds:List D):R D:=if ds.length<=sizeLine then .ok (.tup ds)else .no
def J6(h:PFA X es gl):PF X (.Tuple es k pos) (λρ=>gl ρ>>=mkT):=by
 intro pins s σ H Q I hq;refine LD h pins s σ H Q I ?_;obtain⟨G,ρ,st,hq⟩:=hq;refine tG.intro st hq λds vs G1 H1 u1 st1 r1 h1=>?_;unfold mkT at h1;split at h1;·rename_i hz;exact⟨by rw[r1.length];exact hz,λp hp=>h1 _ _ _ (.new st1.sub hp) (.tup (.of aY) (r1.mono (.into (st1.sub.free hp))))⟩
 ·exact h1.elim
def Fv{c:Nat}:[c].length<=sizeLine:=by show 1<=sizeLine;decide
noncomputable def ixD:D->D->Option D
 |.lst _ xs,.int i=>atI xs i
 |.tup xs,.int i=>atI xs i
 |.str x,.int i=>(atI x i).map λc=>.str [c]
 |_,_=>none
def Reps.atI{K:PySem.W.Frag}{G:Hp}{vs:List V}{ds:List D}{i:Int}{d:D}(r:Reps K G vs ds)(h:atI ds i=some d):∃v,atI vs i=some v/\Rep K G v d:=by
 unfold L2.atI at h⊢;rw[r.length];cases e:ixN ds.length i with
 |none=>rw[e]at h;cases h
 |some j=>rw[e]at h;exact r.get h
def MR(K:PySem.W.Frag):ROk K (rIx K) ixD:=by
 intro G H x y dx dy d Q s rx ry e q;unfold ixD at e;split at e;·obtain⟨a,vs,rfl,h,r⟩:=rx.seq_inv;obtain⟨v,e1,r1⟩:=r.atI e;exact .inl ⟨a,vs,_,v,rfl,ry.int_inv,h.mono s,e1,q v G H (.refl s) r1⟩
 ·obtain⟨a,vs,rfl,h,r⟩:=rx.tup_inv;obtain⟨v,e1,r1⟩:=r.atI e;exact .inr (.inl ⟨a,vs,_,v,rfl,ry.int_inv,h.mono s,e1,q v G H (.refl s) r1⟩)
 ·rename_i z i;obtain⟨y',rfl,ey,hy⟩:=rx.str_inv;subst ey;cases e1:L2.atI y'.cps.toList i with
  |none=>rw[e1]at e;cases e
  |some c=>rw[e1]at e;cases e;exact .inr (.inr ⟨y',i,c,rfl,ry.int_inv,hy,e1,q _ G H (.refl s) (.strL (by simp) Fv)⟩)
 ·cases e
def aD(ha:PF X a ga)(hb:PF X b gb)(hs:wm b:=by exact λ_ _=>rfl):PF X (.Subscript a b pos) (g2 ixD ga gb):=
 λpins s σ H Q I h=>JL Ln ha hb hs pins s σ H Q I (CZ (MR _) h)
end
noncomputable def jJ{α:Type}(xs:List α)(lo hi:Option Int):List α:=(xs.drop (HT.sIx xs.length 0 lo)).take (HT.sIx xs.length xs.length hi - HT.sIx xs.length 0 lo)
def HD{α:Type}(xs:List α)(lo hi:Option Int):(jJ xs lo hi).length<=xs.length:=by unfold jJ;rw[wo,n6];omega
def Reps.cut{K:PySem.W.Frag}(r:Reps K G vs ds)(lo hi:Option Int):Reps K G (Im vs lo hi) (jJ ds lo hi):=by unfold Im jJ;rw[r.length];exact(r.drop _).take _
section
variable{a b c e:Expr}{eN:List Expr}{lo hi:Option Expr}{ga gc:Ev->R D}{go gp:Ev->R (Option Int)}{p2:Pos}
noncomputable def Jy(K:PySem.W.Frag):V->Option Int->Option Int->Hp->VK->Prop:=λx lo hi H Q=>∃a xs,x=.ref a/\SqT K H a xs/\
 (HT.sIx xs.length 0 lo=0/\HT.sIx xs.length xs.length hi=xs.length)/\Q (.ref a) H
def sl_tup_whole:SlR X (Jy X.K):=by
 intro pins s σ H x v vl vu lo hi sl Q I rx hs pl pu h;obtain⟨a,xs,rfl,hx,⟨hw1,hw2⟩,q⟩:=h;cases rx;obtain⟨its,r,ht,hz⟩:=I.tuple hx;have hlen:its.toArray.size=xs.length:=by rw[w8];exact r.length.symm
 refine⟨"tuple",_,PyProof.Rows.slot_tuple_getitem.lookup,ht.typeIs,?_⟩;obtain⟨os,hos,hcs,hds⟩:=id hs;have hTs:s.TypeIs (.ref sl) "slice":=⟨os,hos,hcs⟩
 unfold getItem
 try with_reducible refine qJ ?_
 refine z8 (wpAny_sequenceKey ht.typeIs (by decide) ?_);refine z8 (lT ht.typeIs Yd
  (n8 Yd ht.typeIs entry_tuple_getitem ?_ (args_tuple_getitem _ _)));show wpAny _ _ (Builtin.Tuple.tupleItemsOf (.ref a)>>=_) _ _ s;refine z8 (iT ht ?_);refine z8 (g0 hTs ?_);refine z8 (HT.sliceApplied_gen hs pl pu ?_);rw[hlen,hw1,hw2];dsimp only;rw[if_pos (by simp)];have fin:EP X pins σ Q (.ref a) s:=⟨.ref a,H,I,rfl,q⟩
 refine z8 (z8 (g0 ht.typeIs (zc ?_)));exact z8 (wpAny_rule (zc ⟨_,rfl,zc fin⟩))
theorem Ki{α:Type}(xs:List α)(a:Nat):∀k:Nat,((List.range k).map (a + ·)).filterMap (λi:Nat=>xs[i]?)=(xs.drop a).take k
 | 0=>by simp
 |k+1=>by
  rw[jp,vp,List.filterMap_append,Ki xs a k,List.take_add_one,jB]
  congr 1
def yv(n d:Nat)(v:Option Int):(match v with|none=>(d:Int)|some i=>max 0 (min (if i<0 then i+(n:Int)else i) (n:Int)))=((HT.sIx n d v:Nat):Int):=by
 cases v with
 |none=>rfl
 |some i=>show max 0 (min (if i<0 then i+(n:Int)else i) (n:Int))=(((if i<0 then (i+(n:Int)).toNat else min i.toNat n):Nat):Int);split <;> omega
def Gq(lo hi:Option Int)(n:Nat):Builtin.Str.strSliceIndices lo hi 1 n=(List.range (HT.sIx n n hi - HT.sIx n 0 lo)).map (HT.sIx n 0 lo + ·):=by
 have e:Builtin.Str.strSliceIndices lo hi 1 n=sliceRange ((HT.sIx n 0 lo:Nat):Int) ((HT.sIx n n hi:Nat):Int) 1:=by rw[<- yv n 0 lo,<- yv n n hi];rfl
 rw[e];generalize HT.sIx n 0 lo=a;generalize HT.sIx n n hi=b;unfold sliceRange;have hc:(if (1:Int) > 0 then (if (a:Int)<(b:Int)then ((b:Int) - (a:Int)+1 - 1) / 1 else 0)else (if (a:Int) > (b:Int)then ((a:Int) - (b:Int) - 1 - 1) / (-1)else 0)).toNat=b - a:=by
  split;·rw[Int.ediv_one];omega
  ·omega
 simp only[hc];apply k9;omega
def AZ(x:Str)(lo hi:Option Int):(Txt.slice x lo hi).cps.toList=jJ x.cps.toList lo hi:=by
 have hn:=Str.len_list x;unfold Txt.slice jJ;rw[hn,Gq];have hb:HT.sIx x.length x.length hi<=x.length:=HT.sIx_le _ _ (z9 _) hi;by_cases hc:((1:Int)==1 && ((List.range (HT.sIx x.length x.length hi - HT.sIx x.length 0 lo)).map (HT.sIx x.length 0 lo + ·)).length==x.length)=true
 ·rw[if_pos hc];have h2:HT.sIx x.length x.length hi - HT.sIx x.length 0 lo=x.length:=by simpa using hc
  have h3:HT.sIx x.length 0 lo=0\/x.length=0:=by omega
  rw[h2];rcases h3 with h3|h3;·rw[h3,c8,<- hn,cY]
  ·have:x.cps.toList=[]:=Ye (by rw[hn];exact h3);rw[this];simp
 ·rw[if_neg hc];have e:(λi:Nat=>x.cps[i]?)=(λi:Nat=>x.cps.toList[i]?):=by funext i;simp
  rw[List.toList_toArray,e,Ki]
noncomputable def OH:V->Option Int->Option Int->Hp->VK->Prop:=λx lo hi H Q=>∃y:Str,x=.str y/\y.length<=sizeLine/\Q (.str (Txt.slice y lo hi)) H
theorem sl_str:SlR X OH:=by
 intro pins s σ H x v vl vu lo hi sl Q I rx hs pl pu h;obtain⟨y,rfl,hz,q⟩:=h;obtain⟨t,rfl⟩:=rx;refine⟨"str",_,F.slot_str_getitem.lookup,typeIs_str _ _ _,?_⟩;cases pl with
 |none=>
  cases pu with
  |none=>exact Ze (l:=none) (u:=none) (st:=none) hs rfl (Zf ⟨wt (Zg y _ _) hz,λt' k=>⟨.str _,H,I.tok k,⟨t',rfl⟩,q⟩⟩)
  |int j uj=>exact Ze (l:=none) (u:=some (j,uj)) (st:=none) hs rfl (Zf ⟨wt (Zg y _ _) hz,λt' k=>⟨.str _,H,I.tok k,⟨t',rfl⟩,q⟩⟩)
 |int i ui=>
  cases pu with
  |none=>exact Ze (l:=some (i,ui)) (u:=none) (st:=none) hs rfl (Zf ⟨wt (Zg y _ _) hz,λt' k=>⟨.str _,H,I.tok k,⟨t',rfl⟩,q⟩⟩)
  |int j uj=>exact Ze (l:=some (i,ui)) (u:=some (j,uj)) (st:=none) hs rfl (Zf ⟨wt (Zg y _ _) hz,λt' k=>⟨.str _,H,I.tok k,⟨t',rfl⟩,q⟩⟩)
noncomputable def GI(lo hi:Option Int):D->Option D
 |.str x=>some (.str (jJ x lo hi))
 |.tup xs=>some (.tup (jJ xs lo hi))
 |.lst _ xs=>some (.lst false (jJ xs lo hi))
 |_=>none
noncomputable def rSl(K:PySem.W.Frag):V->Option Int->Option Int->Hp->VK->Prop:=λx lo hi H Q=>OH x lo hi H Q\/Jy K x lo hi H Q\/OD K x lo hi H Q\/Oz K x lo hi H Q
def Jx:SlR X (rSl X.K):=sl_str.or (sl_tup_whole.or (sl_tup.or Gm))
noncomputable def PFO(X:Cx)(o:Option Expr)(g:Ev->R (Option Int)):Prop:=PO X o (tG X (λ_ b c=>b=c) g)
def bF:PFO X none (λ_=>.ok none):=by intro pins s σ H Q I h;obtain⟨G,ρ,st,h⟩:=h;exact Gi pins s σ H Q I (h none G H (.refl st.sub) rfl)
def asI:D->R Int
 |.int i=>.ok i
 |_=>.no
def EG(h:PF X e ga):PFO X (some e) (λρ=>ga ρ>>=λx=>asI x>>=λi=>.ok (some i)):=by
 intro pins s σ H Q I hq;refine Hs h pins s σ H Q I ?_;obtain⟨G,ρ,st,hq⟩:=hq;refine tG.intro st hq λx v G1 H1 u1 st1 r1 h1=>?_;cases r1 with
 |int i=>exact⟨i,rfl,h1 (some i) G1 H1 (.refl st1.sub) rfl⟩
 |_=>exact h1.elim
noncomputable def gSl(ga:Ev->R D)(go gp:Ev->R (Option Int)):Ev->R D:=λρ=>ga ρ>>=λx=>go ρ>>=λl=>gp ρ>>=λu=>ofO (GI l u x)
def bG(ha:PF X a ga)(hl:PFO X lo go)(hu:PFO X hi gp):PF X (.Subscript a (.Slice lo hi none p2) pos) (gSl ga go gp):=by
 intro pins s σ H Q I h;refine Dj Jx ha hl hu pins s σ H Q I ?_;obtain⟨G,ρ,st,h⟩:=h;refine tG.intro st h λx v G1 H1 u1 st1 r1 h1=>?_;refine tG.intro st1 h1 λl l' G2 H2 u2 st2 r2 h2=>?_;subst r2;refine tG.intro st2 h2 λu u' G3 H3 u3 st3 r3 h3=>?_;subst r3;obtain⟨d,e,q⟩:=ofO.ok h3;have r:=(r1.mono u2.gg).mono u3.gg;unfold GI at e;split at e;·cases e;obtain⟨y,rfl,ey,hy⟩:=r.str_inv;subst ey;exact .inl ⟨y,rfl,hy,q _ G3 H3 (.refl st3.sub) (.strL (AZ y _ _) (wt (HD _ _ _) (by rw[Str.len_list];exact hy)))⟩
 ·rename_i xs0;cases e;obtain⟨a,vs,rfl,h,t⟩:=r.tup_inv;by_cases hw:HT.sIx vs.length 0 l'=0/\HT.sIx vs.length vs.length u'=vs.length
  ·refine .inr (.inl ⟨a,vs,rfl,h.mono st3.sub,hw,q _ G3 H3 (.refl st3.sub) ?_⟩);have e1:jJ xs0 l' u'=xs0:=by unfold jJ;rw[<- t.length,hw.1,hw.2,c8,b6,t.length,cY]
   rw[e1];exact .tup h t
  ·exact .inr (.inr (.inl ⟨a,vs,rfl,h.mono st3.sub,hw,λp hp=>q _ _ _ (.new st3.sub hp) (.tup (.of aY) ((t.cut _ _).mono (.into (st3.sub.free hp))))⟩))
 ·cases e;obtain⟨a,vs,rfl,h,t⟩:=r.seq_inv;exact .inr (.inr (.inr ⟨a,vs,rfl,h.mono st3.sub,λp hp=>q _ _ _ (.new st3.sub hp) (.lst aY ((t.cut _ _).mono (.into (st3.sub.free hp))))⟩))
 ·cases e
noncomputable def Iq(K:PySem.W.Frag)(r:List V->Hp->VK->Prop)(f:List D->Option D):Prop:=∀(G H:Hp)(xs:List V)(ds:List D)(d:D)(Q:VK),Same G H->Reps K G xs ds->f ds=some d->Fin G H (Rep K) Q d->r xs H Q
def mM{id:String}{r:List V->Hp->VK->Prop}{f:List D->Option D}(hc:lC X (.builtin id) r)(hf:Iq X.K r f)(hg:Gl X x)(hm:X.mg x=none)(hv:bootBuiltins x=some (.builtin id))(ha:PFA X (e::es) gl)(hn:x≠"__name__":=by decide)(hdb:(x==("__debug__":Str))=false:=by decide)(he:starEach (e::es) X.env=(false,eval e X.env)::starEach es X.env:=by rfl)(hpl:(backTo pos (starEach es X.env)).any (·.1)=false:=by rfl):PF X (.Call (.Name x p) (e::es) [] pos) (λρ=>gl ρ>>=λds=>ofO (f ds)):=by
 intro pins s σ H Q I h;refine sP hc hg hm hv ha hn hdb he hpl pins s σ H Q I ?_;obtain⟨G,ρ,st,h⟩:=h;refine tG.intro st h λds vs G1 H1 u1 st1 r1 h1=>?_;obtain⟨d,e,q⟩:=ofO.ok h1;exact hf G1 H1 vs ds d Q st1.sub r1 e q
def tN{T:String}{r:List V->Hp->VK->Prop}{f:List D->Option D}(hc:lC X (.type T) r)(hf:Iq X.K r f)(hg:Gl X x)(hm:X.mg x=none)(hv:bootBuiltins x=some (.type T))(ha:PFA X (e::es) gl)(hn:x≠"__name__":=by decide)(hdb:(x==("__debug__":Str))=false:=by decide)(he:starEach (e::es) X.env=(false,eval e X.env)::starEach es X.env:=by rfl)(hpl:(backTo pos (starEach es X.env)).any (·.1)=false:=by rfl):PF X (.Call (.Name x p) (e::es) [] pos) (λρ=>gl ρ>>=λds=>ofO (f ds)):=by
 intro pins s σ H Q I h;refine pI hc hg hm hv ha hn hdb he hpl pins s σ H Q I ?_;obtain⟨G,ρ,st,h⟩:=h;refine tG.intro st h λds vs G1 H1 u1 st1 r1 h1=>?_;obtain⟨d,e,q⟩:=ofO.ok h1;exact hf G1 H1 vs ds d Q st1.sub r1 e q
def Reps.one{K:PySem.W.Frag}(r:Reps K G vs [d]):∃v,vs=[v]/\Rep K G v d:=by
 cases r with
 |cons r t=>cases t;exact⟨_,rfl,r⟩
def Reps.two{K:PySem.W.Frag}{d':D}(r:Reps K G vs [d,d']):∃v w,vs=[v,w]/\Rep K G v d/\Rep K G w d':=by
 cases r with
 |cons r t=>obtain⟨w,rfl,r'⟩:=t.one;exact⟨_,w,rfl,r,r'⟩
noncomputable def de:List D->Option D
 | [.str x]=>some (.int x.length)
 | [.tup xs]=>some (.int xs.length)
 | [.lst _ xs]=>some (.int xs.length)
 |_=>none
def JR(hg:Gl X "len")(hm:X.mg "len"=none)(ha:PFA X [e] gl)(he:starEach [e] X.env=[(false,eval e X.env)]:=by rfl):PF X (.Call (.Name "len" p) [e] [] pos) (λρ=>gl ρ>>=λds=>ofO (de ds)):=
 mM CY (by
  intro G H xs ds d Q s r e q;unfold de at e;split at e;·cases e;obtain⟨v,rfl,r1⟩:=r.one;obtain⟨y,rfl,ey,hy⟩:=r1.str_inv;subst ey;exact⟨_,y.length,rfl,⟨hy,rfl⟩,by rw[<- Str.len_list];exact q _ G H (.refl s) (.int _)⟩
  ·cases e;obtain⟨v,rfl,r1⟩:=r.one;obtain⟨a,vs,rfl,h,t⟩:=r1.tup_inv;exact⟨_,vs.length,rfl,.inr ⟨vs,h.mono s,rfl⟩,by rw[t.length];exact q _ G H (.refl s) (.int _)⟩
  ·cases e;obtain⟨v,rfl,r1⟩:=r.one;obtain⟨a,vs,rfl,h,t⟩:=r1.seq_inv;exact⟨_,vs.length,rfl,.inl ⟨vs,h.mono s,rfl⟩,by rw[t.length];exact q _ G H (.refl s) (.int _)⟩
  ·cases e) hg hm PySem.boot_len ha (he:=by rw[he];rfl)
def Iw:List D->Option D
 | [.str [c]]=>some (.int (c:Nat))
 |_=>none
def K3(K:PySem.W.Frag):Iq K (λxs H Q=>∃x:Str,xs=[.str x]/\x.length=1/\Q (.int (x.cps.getD 0 0:Nat)) H) Iw:=by
 intro G H xs ds d Q s r e q;unfold Iw at e;split at e
 ·rename_i c;cases e;obtain⟨v,rfl,r1⟩:=r.one;obtain⟨y,rfl,ey,hy⟩:=r1.str_inv;refine⟨y,rfl,by rw[<- Str.len_list,ey];rfl,?_⟩;have h0:y.cps = #[c]:=by rw[<- Array.toArray_toList (xs:=y.cps),ey]
  rw[h0];exact q _ G H (.refl s) (.int _)
 ·cases e
noncomputable def nB:List D->Option D
 | [.lst _ xs]=>some (.tup xs)
 | [.tup xs]=>some (.tup xs)
 |_=>none
def EN(K:PySem.W.Frag):Iq K (λxs H Q=>∃p ys,xs=[.ref p]/\((SqL K H p ys/\∀l,H l=none->Q (.ref l) (upd H l (.tup ys)))\/(SqT K H p ys/\Q (.ref p) H))) nB:=by
 intro G H xs ds d Q s r e q;unfold nB at e;split at e;·cases e;obtain⟨v,rfl,r1⟩:=r.one;obtain⟨a,vs,rfl,h,t⟩:=r1.seq_inv;exact⟨a,vs,rfl,.inl ⟨h.mono s,λl hl=>q _ _ _ (.new s hl) (.tup (.of aY) (t.mono (.into (s.free hl))))⟩⟩
 ·cases e;obtain⟨v,rfl,r1⟩:=r.one;obtain⟨a,vs,rfl,h,t⟩:=r1.tup_inv;exact⟨a,vs,rfl,.inr ⟨h.mono s,q _ G H (.refl s) (.tup h t)⟩⟩
 ·cases e
end
noncomputable def ItOk(K:PySem.W.Frag)(G₁:Hp)(J:It)(items:List D):Prop:=∀(i:Nat)(G H:Hp),Same G₁ G->Same G H->
 (∀d,items[i]?=some d->J.go i H/\∀x H',J.yld i H x H'->∃G',Up G H G' H'/\Rep K G' x d)/\(items.length<=i->J.stop i H)
noncomputable def PIF(X:Cx)(tg iter:Expr)(g:Ev->R (List D)):Prop:=PI X tg iter (tG X (λG J items=>ItOk X.K G J items) g)
noncomputable def Its(x:Str):It:=⟨λi _=>i<x.cps.size,λi H v H'=>H'=H/\∃c,x.cps[i]?=some c/\v=.str ⟨#[c]⟩,λi _=>x.cps.size<=i⟩
section
variable{tg a e:Expr}{ga:Ev->R D}
def AC{l:Addr}{Rr:It->Hp->Prop}(I:Inv X pins σ H s)(h:SqL X.K H l xs)(q:Rr (Itl X.K l) H):
  wpAny (model X.prog X.w) X.A (pyIter (.ref l)) (PIE X pins σ tg Rr) X.xe s:=by
 obtain⟨its,rv,p,hz⟩:=I.list h;refine ZM p.isList ?_;refine⟨s.heap.objs.size,[s.heap.objs.size],_,_,H,rfl,I.kept λb o e=>w9 _ e,AE l _,⟨_,v7 _ rfl,rfl,rfl⟩,λb hb=>?_,q⟩;have e:b=s.heap.objs.size:=by simpa using hb
 subst e;exact I.fpOk (z9 _) (I.hok.fresh (z9 _))
def JB{l:Addr}{Rr:It->Hp->Prop}(I:Inv X pins σ H s)(h:SqT X.K H l xs)(q:Rr (Itt X.K l) H):
  wpAny (model X.prog X.w) X.A (pyIter (.ref l)) (PIE X pins σ tg Rr) X.xe s:=by
 obtain⟨its,rv,p,hz⟩:=I.tuple h;refine ZN (show s.heap.IsTuple l its.toArray from p) ?_;refine⟨s.heap.objs.size,[s.heap.objs.size],_,_,H,rfl,I.kept λb o e=>w9 _ e,zv l _,⟨_,v7 _ rfl,rfl,rfl⟩,λb hb=>?_,q⟩;have e:b=s.heap.objs.size:=by simpa using hb
 subst e;exact I.fpOk (z9 _) (I.hok.fresh (z9 _))
def yO{w:World}{K:PySem.W.Frag}{tg:Expr}(it:Addr)(x:Str)(t:Tok):Turn P w K tg (Its x) [it] it (λi h=>h.IsStrIter it "str_ascii_iterator" x t i) where
 mem:=by simp
 obj:=λi h st b hb=>by
  have e:b=it:=by simpa using hb
  subst e;obtain⟨o,e,c,d⟩:=st;exact⟨o,e,λv z=>by rw[d]at z;cases z⟩
 keep:=λi h h' st k=>let⟨o,ho,r⟩:=st;⟨o,k it (by simp) o ho,r⟩
 item:=by intro X hP hw hK hc i pins s σ H E I hf st hg;have hg':i<x.cps.size:=hg;obtain⟨f0,f1,f2,f3,f4,f5⟩:=hf it (by simp);refine wpAny_pyNext_ascii_item st (c:=x.cps[i]) (by simp[hg']) λh' st' sb=>?_;have I1:Inv X pins σ H { s with heap:=h',toks:=s.toks+1 }:=I.turned (λb o hb e=>(sb.2 b hb).trans e) f0 f1 f3 f4 f5;obtain⟨o,e,c,d⟩:=id st';exact⟨_,rfl,Bq e c d (by decide) ⟨.str ⟨#[x.cps[i]]⟩,H,I1,⟨_,rfl⟩,⟨rfl,_,by simp[hg'],rfl⟩,st',λb hb=>(hf b hb).1⟩⟩
 done:=by intro X hP hw hK hc i pins s σ H E I hf st hg;obtain⟨f0,f1,f2,f3,f4,f5⟩:=hf it (by simp);have hg':x.cps.size<=i:=hg;exact wpAny_pyNext_ascii_end (I.ok.hd hc) st (by simp;omega) λh' eb=>⟨rfl,I.turned (λb o hb e=>eb b o hb e) f0 f1 f3 f4 f5⟩
 self:=λ_ _ _ _ _ st h=>wpAny_pyIter_striter_ascii st h
def Ca{w:World}{K:PySem.W.Frag}{tg:Expr}(it:Addr)(x:Str)(t:Tok):Turn P w K tg (Its x) [it] it (λi h=>h.IsStrIter it "str_iterator" x t i) where
 mem:=by simp
 obj:=λi h st b hb=>by
  have e:b=it:=by simpa using hb
  subst e;obtain⟨o,e,c,d⟩:=st;exact⟨o,e,λv z=>by rw[d]at z;cases z⟩
 keep:=λi h h' st k=>let⟨o,ho,r⟩:=st;⟨o,k it (by simp) o ho,r⟩
 item:=by intro X hP hw hK hc i pins s σ H E I hf st hg;have hg':i<x.cps.size:=hg;obtain⟨f0,f1,f2,f3,f4,f5⟩:=hf it (by simp);refine wpAny_pyNext_wide_item st (c:=x.cps[i]) (by simp[hg']) λh' st' sb=>?_;have I1:Inv X pins σ H { s with heap:=h',toks:=s.toks+1 }:=I.turned (λb o hb e=>(sb.2 b hb).trans e) f0 f1 f3 f4 f5;obtain⟨o,e,c,d⟩:=id st';exact⟨_,rfl,Bq e c d (by decide) ⟨.str ⟨#[x.cps[i]]⟩,H,I1,⟨_,rfl⟩,⟨rfl,_,by simp[hg'],rfl⟩,st',λb hb=>(hf b hb).1⟩⟩
 done:=by intro X hP hw hK hc i pins s σ H E I hf st hg;obtain⟨f0,f1,f2,f3,f4,f5⟩:=hf it (by simp);have hg':x.cps.size<=i:=hg;exact wpAny_pyNext_wide_end (I.ok.hd hc) st (by simp;omega) λh' eb=>⟨rfl,I.turned (λb o hb e=>eb b o hb e) f0 f1 f3 f4 f5⟩
 self:=λ_ _ _ _ _ st h=>wpAny_pyIter_striter_wide st h
def Lp{t:Tok}{Rr:It->Hp->Prop}(I:Inv X pins σ H s)(q:Rr (Its x) H):
  wpAny (model X.prog X.w) X.A (pyIter (.str x t)) (PIE X pins σ tg Rr) X.xe s:=by
 have fp:∀(o:Obj),∀b∈[s.heap.objs.size],qe X pins H b:=λo b hb=>by
  have e:b=s.heap.objs.size:=by simpa using hb
  subst e;exact I.fpOk (z9 _) (I.hok.fresh (z9 _))
 cases ha:x.cps.all (· < 128);·refine wpAny_pyIter_wide ha ⟨s.heap.objs.size,[s.heap.objs.size],_,_,H,rfl,I.kept λb o e=>w9 _ e,Ca _ x t,⟨_,v7 _ rfl,rfl,rfl⟩,fp default,q⟩
 ·refine wpAny_pyIter_ascii ha ⟨s.heap.objs.size,[s.heap.objs.size],_,_,H,rfl,I.kept λb o e=>w9 _ e,yO _ x t,⟨_,v7 _ rfl,rfl,rfl⟩,fp default,q⟩
noncomputable def bz:D->R (List D)
 |.lst _ xs=>.ok xs
 |.tup xs=>.ok xs
 |.str x=>.ok (x.map λc=>.str [c])
 |_=>.no
def ItOk.list{K:PySem.W.Frag}{l:Addr}(h:SqL K G l vs)(r:Reps K G vs ds):ItOk K G (Itl K l) ds:=by intro i G1 H1 s1 s2;refine⟨λd e=>?_,λhl=>⟨vs,(h.mono s1).mono s2,by rw[r.length];exact hl⟩⟩;obtain⟨v,ev,rv⟩:=r.get e;refine⟨⟨vs,v,(h.mono s1).mono s2,ev⟩,λx H' y=>?_⟩;obtain⟨rfl,y⟩:=y;have:=y vs ((h.mono s1).mono s2);rw[ev]at this;cases this;exact⟨G1,.refl s2,rv.mono s1⟩
def ItOk.tup{K:PySem.W.Frag}{l:Addr}(h:SqT K G l vs)(r:Reps K G vs ds):ItOk K G (Itt K l) ds:=by intro i G1 H1 s1 s2;refine⟨λd e=>?_,λhl=>⟨vs,(h.mono s1).mono s2,by rw[r.length];exact hl⟩⟩;obtain⟨v,ev,rv⟩:=r.get e;refine⟨⟨vs,v,(h.mono s1).mono s2,ev⟩,λx H' y=>?_⟩;obtain⟨rfl,y⟩:=y;have:=y vs ((h.mono s1).mono s2);rw[ev]at this;cases this;exact⟨G1,.refl s2,rv.mono s1⟩
def ItOk.str{K:PySem.W.Frag}(x:Str):ItOk K G (Its x) (x.cps.toList.map λc=>.str [c]):=by
 intro i G1 H1 s1 s2;refine⟨λd e=>?_,λhl=>show x.cps.size<=i by simpa using hl⟩;rw[v8]at e;cases ec:x.cps.toList[i]? with
 |none=>rw[ec]at e;cases e
 |some c=>
  rw[ec]at e;cases e;have hi:i<x.cps.size:=by have:=(vc.mp ec).1;simpa using this
  refine⟨hi,λv H' y=>?_⟩;obtain⟨rfl,c',e',rfl⟩:=y;have:c'=c:=by
   have h2:x.cps.toList[i]?=x.cps[i]?:=by simp
   rw[h2,e']at ec;exact wq ec
  subst this;exact⟨G1,.refl s2,.strL rfl Fv⟩
def ItOk.range{K:PySem.W.Frag}(lo:Int)(n:Nat):ItOk K G (Itr lo n) ((List.range n).map λi=>.int (lo+(i:Nat))):=by
 intro i G1 H1 s1 s2;refine⟨λd e=>?_,λhl=>show n<=i by simpa using hl⟩;rw[v8]at e;by_cases hi:i<n;·rw[Yf hi]at e;cases e;refine⟨hi,λv H' y=>?_⟩;obtain⟨rfl,rfl⟩:=y;exact⟨G1,.refl s2,.int _⟩
 ·rw[p9 (by simpa using hi)]at e;cases e
def Ij(ha:PF X a ga):PIF X tg a (λρ=>ga ρ>>=bz):=by
 intro pins s σ H Rr I h;obtain⟨G,ρ,st,h⟩:=h;have t:tF X ga σ H (λx H1=>∃G1 d,Same G1 H1/\Rep X.K G1 x d/\(bz d).post (Fin G1 H1 (λG J items=>ItOk X.K G J items) Rr) (Exx X σ G1 H1)):=
  tG.intro st h λx v G1 H1 u1 st1 r1 h1=>⟨G1,x,st1.sub,r1,h1⟩
 refine thn (ha pins s σ H _ I t) λv s1 ⟨x,H1,I1,r1,G1,d,sub,rd,h1⟩=>?_;cases rd with
 |lst hh r=>cases r1;exact AC I1 (.of (sub _ _ hh)) (h1 _ G1 H1 (.refl sub) (.list (.of hh) r))
 |fls hh r=>cases r1;exact AC I1 (hh.mono sub) (h1 _ G1 H1 (.refl sub) (.list hh r))
 |tup hh r=>cases r1;exact JB I1 (hh.mono sub) (h1 _ G1 H1 (.refl sub) (.tup hh r))
 |str y hy=>obtain⟨t,rfl⟩:=r1;exact Lp I1 (h1 _ G1 H1 (.refl sub) (.str y))
 |_=>exact h1.elim
noncomputable def bC:List D->R (List D)
 | [.int j]=>if -(2 ^ 62)<=j/\j<2 ^ 62 then .ok ((List.range j.toNat).map λi=>.int (0+(i:Nat)))else .no
 |_=>.no
noncomputable def kq:List D->R (List D)
 | [.int i,.int j]=>if -(2 ^ 62)<=i/\i<2 ^ 62/\-(2 ^ 62)<=j/\j<2 ^ 62 then .ok ((List.range (j - i).toNat).map λk=>.int (i+(k:Nat)))else .no
 |_=>.no
def zz(hg:Gl X "range")(hm:X.mg "range"=none)(ha:PFA X [a] gl)(hs:starEach [a] X.env=[(false,eval a X.env)]:=by rfl):PIF X tg (.Call (.Name "range" p) [a] [] pos) (λρ=>gl ρ>>=bC):=by
 intro pins s σ H Rr I h;refine Bu hg hm ha hs pins s σ H Rr I ?_;obtain⟨G,ρ,st,h⟩:=h;refine tG.intro st h λds vs G1 H1 u1 st1 r1 h1=>?_;unfold bC at h1;split at h1
 ·split at h1;·rename_i hj;obtain⟨v,rfl,r⟩:=r1.one;obtain rfl:=r.int_inv;exact⟨_,rfl,hj.1,hj.2,h1 _ G1 H1 (.refl st1.sub) (.range 0 _)⟩
  ·exact h1.elim
 ·exact h1.elim
def zH{b:Expr}(hg:Gl X "range")(hm:X.mg "range"=none)(ha:PFA X [a,b] gl)(hs:starEach [a,b] X.env=[(false,eval a X.env),(false,eval b X.env)]:=by rfl)(hs2:starEach [b] X.env=[(false,eval b X.env)]:=by rfl):
  PIF X tg (.Call (.Name "range" p) [a,b] [] pos) (λρ=>gl ρ>>=kq):=by
 intro pins s σ H Rr I h;refine A8 hg hm ha hs hs2 pins s σ H Rr I ?_;obtain⟨G,ρ,st,h⟩:=h;refine tG.intro st h λds vs G1 H1 u1 st1 r1 h1=>?_;unfold kq at h1;split at h1
 ·split at h1;·rename_i hj;obtain⟨v,w,rfl,r,r'⟩:=r1.two;obtain rfl:=r.int_inv;obtain rfl:=r'.int_inv;exact⟨_,_,rfl,hj,h1 _ G1 H1 (.refl st1.sub) (.range _ _)⟩
  ·exact h1.elim
 ·exact h1.elim
end
noncomputable def ObSt(K:PySem.W.Frag)(H₀ G H:Hp)(σ:St)(ρ:Ev):Prop:=
 ∃ow:mw,(∀(i:Nat) ds l,ρ[i]?=some (some (.own ds))->σ[i]?=some (some (.ref l))->ow l=some (i,0))/\
  ∀(i:Nat) m C p fs,ρ[i]?=some (some (.obj m C p fs))->σ[i]?=some (some (.ref p))/\ObjAt K H₀ G H ow i m C p fs
def ObSt.rd{K:PySem.W.Frag}{H₀:Hp}(h:ObSt K H₀ G H σ ρ):∀(i:Nat) m C p fs,ρ[i]?=some (some (.obj m C p fs))->σ[i]?=some (some (.ref p))/\∃ow,ObjAt K (λ_=>none) G H ow i m C p fs:=λi m C p fs e=>by obtain⟨ow,_,o2⟩:=h;exact⟨(o2 i m C p fs e).1,ow,(o2 i m C p fs e).2.rd⟩
def NoOwn(ρ:Ev):Prop:=∀(j:Nat)(x:Sl),ρ[j]?=some (some x)->∃d,x=.val d
def NoOwn.own(h:NoOwn ρ)(j:Nat)(ds:List D):ρ[j]?≠some (some (.own ds)):=λe=>by obtain⟨d,z⟩:=h j _ e;cases z
def NoOwn.obj(h:NoOwn ρ)(j:Nat)(m:Bool)(C p:Addr)(fs:List (Nat×Fd)):ρ[j]?≠some (some (.obj m C p fs)):=λe=>by obtain⟨d,z⟩:=h j _ e;cases z
def NoOwn.ob{K:PySem.W.Frag}{H₀:Hp}(h:NoOwn ρ):ObSt K H₀ G H σ ρ:=
 ⟨λ_=>none,λi ds l e=>absurd e (h.own i ds),λi m C p fs e=>absurd e (h.obj i m C p fs)⟩
structure StR(K:PySem.W.Frag)(G₀ H₀ G H:Hp)(σ:St)(ρ:Ev):Prop where
 e:StE K G H σ ρ
 sub0:Same G₀ H₀
 up:Up G₀ H₀ G H
 own:∀(i:Nat) ds,ρ[i]?=some (some (.own ds))->∃l vs,σ[i]?=some (some (.ref l))/\H l=some (.lst vs)/\G l=none/\H₀ l=none/\Reps K G vs ds
 inj:∀(i j:Nat) ds es l,ρ[i]?=some (some (.own ds))->ρ[j]?=some (some (.own es))->σ[i]?=some (some (.ref l))->σ[j]?=some (some (.ref l))->i=j
 ob:ObSt K H₀ G H σ ρ
section
variable{K:PySem.W.Frag}{H₀ G':Hp}
def StR.ups(s:StR K G₀ H₀ G H σ ρ)(u:Up G H G' H'):StR K G₀ H₀ G' H' σ ρ:=⟨s.e.up u,s.sub0,s.up.trans u,(λi ds e=>by
 obtain⟨l,vs,h1,h2,h3,h4,h5⟩:=s.own i ds e;refine⟨l,vs,h1,u.hh _ _ h2,?_,h4,h5.mono u.gg⟩;cases q:G' l with
 |none=>rfl
 |some o=>
  rcases u.fr l o q with z|z;·rw[h3]at z;cases z
  ·rw[h2]at z;cases z),s.inj,by
 obtain⟨ow,o1,o2⟩:=s.ob;exact⟨ow,o1,λi m C p fs e=>⟨(o2 i m C p fs e).1,(o2 i m C p fs e).2.keep (.up u)⟩⟩⟩
def StR.set(s:StR K G₀ H₀ G H σ ρ)(r:Rep K G v d)(i:Nat):StR K G₀ H₀ G H (σ.set i (some v)) (ρ.set i (some (.val d))):=by
 have get:∀(j:Nat) x,(ρ.set i (some (.val d)))[j]?=some (some x)->(j=i/\x=.val d/\i<σ.length)\/(j≠i/\ρ[j]?=some (some x)/\(σ.set i (some v))[j]?=σ[j]?):=λj x h=>by
  by_cases e:i=j
  ·subst e;have hl:i<ρ.length:=by have:=(vc.mp h).1;simpa using this
   rw[vE hl]at h;exact .inl ⟨rfl,by injection (wq h)with q;exact q.symm,by rw[s.e.len];exact hl⟩
  ·rw[uA e]at h;exact .inr ⟨λz=>e z.symm,h,uA e⟩
 have ob:ObSt K H₀ G H (σ.set i (some v)) (ρ.set i (some (.val d))):=by
  obtain⟨ow,o1,o2⟩:=s.ob;refine⟨ow,λj ds l h1 h2=>?_,λj m C p fs h1=>?_⟩
  ·rcases get j _ h1 with⟨_,e,_⟩|⟨_,e,e'⟩;·cases e
   ·exact o1 j ds l e (e'▸h2)
  ·rcases get j _ h1 with⟨_,e,_⟩|⟨_,e,e'⟩;·cases e
   ·rw[e'];exact o2 j m C p fs e
 refine⟨⟨s.e.sub,by simp[s.e.len],λj d' h=>?_,ob.rd⟩,s.sub0,s.up,λj ds h=>?_,λj k ds es l h1 h2 h3 h4=>?_,ob⟩
 ·rcases get j _ h with⟨rfl,e,hl⟩|⟨_,e,e'⟩;·cases e;exact⟨v,vE hl,r⟩
  ·rw[e'];exact s.e.val j d' e
 ·rcases get j _ h with⟨_,e,_⟩|⟨_,e,e'⟩;·cases e
  ·rw[e'];exact s.own j ds e
 ·rcases get j _ h1 with⟨_,e,_⟩|⟨_,e,e'⟩;·cases e
  ·rcases get k _ h2 with⟨_,f,_⟩|⟨_,f,f'⟩;·cases f
   ·exact s.inj j k ds es l e f (e'▸h3) (f'▸h4)
end
noncomputable def PGF(X:Cx)(tg:Expr)(asg:D->Ev->R Ev):Prop:=PG X tg (λv σ H Q=>∃G₀ H₀ G ρ d ρ',StR X.K G₀ H₀ G H σ ρ/\Rep X.K G v d/\asg d ρ=.ok ρ'/\∀σ',StR X.K G₀ H₀ G H σ' ρ'->Q σ' H)
section
def jz(i:Nat):D->Ev->R Ev:=λd ρ=>.ok (ρ.set i (some (.val d)))
def dl(i:Nat)(hN:X.N.Nodup)(hi:X.N[i]?=some x:=by rfl)(hx:Loc X.env.scope x:=by first|exact Or.inl rfl|exact Or.inr rfl)(hf:X.fn x=true\/X.env.scope.names.lookup x=some .local:=by first|exact .inl rfl|exact .inr rfl):PGF X (.Name x pos) (jz i):=by
 intro pins s σ H v u Q I r h;obtain⟨G₀,H₀,G,ρ,d,ρ',st,rd,e,q⟩:=h;cases e;exact lU hN hi hx hf pins s σ H v u Q I r (q _ (st.set rd i))
end
noncomputable def zM(K:PySem.W.Frag)(G H:Hp)(Q:VK):List D->Prop:=λds=>∀l vs G' H',Up G H G' H'->H' l=none->Reps K G' vs ds->Q (.ref l) (upd H' l (.lst vs))
noncomputable def tL(X:Cx)(g:Ev->R (List D)):TE:=λσ H Q=>∃G ρ,StE X.K G H σ ρ/\(g ρ).post (zM X.K G H Q) (Exx X σ G H)
def PFL(X:Cx)(e:Expr)(g:Ev->R (List D)):Prop:=PE X e (tL X g)
def yc{e:Expr}{g:Ev->R (List D)}(h:PFL X e g):PF X e (λρ=>g ρ>>=λds=>.ok (.lst false ds)):=by
 intro pins s σ H Q I hq;refine h pins s σ H Q I ?_;obtain⟨G,ρ,st,hq⟩:=hq
 try dsimp only at hq
 refine⟨G,ρ,st,?_⟩;cases e:g ρ with
 |ok ds=>rw[e]at hq;intro l vs G' H' u hl r;exact hq _ _ _ (u.trans (.new u.sub hl)) (.lst aY (r.mono (.into (u.sub.free hl))))
 |ex C=>rw[e]at hq;exact hq
 |no=>rw[e]at hq;exact hq
def G9(h:PFA X es gl):PFL X (.List es pos) (λρ=>gl ρ>>=λds=>if ds.length<=sizeLine then .ok ds else .no):=by
 intro pins s σ H Q I hq;refine KH h pins s σ H Q I ?_;obtain⟨G,ρ,st,hq⟩:=hq
 try dsimp only at hq
 refine⟨G,ρ,st,?_⟩;cases e:gl ρ with
 |ok ds=>
  rw[e]at hq;intro vs G' H' u r;simp only[R.ok_bind]at hq;split at hq;·rename_i hz;exact⟨by rw[r.length];exact hz,λp hp=>hq p vs G' H' u hp r⟩
  ·exact hq.elim
 |ex C=>rw[e]at hq;exact hq
 |no=>rw[e]at hq;exact hq
noncomputable def zZ(env:Env):List (Str×NameKind)->List (Str×Addr)->List (Str×Addr)
 | [],cs=>cs
 | (n,k)::r,cs=>zZ env r (if (k==.free)=true then (match env.cells.lookup n with|some c=>(n,c)::cs|none=>cs)else cs)
theorem xx{env:Env}{F:Str×NameKind->List (Str×Addr)->Sem (ForInStep (List (Str×Addr)))}(hF:∀n k r,(k=NameKind.free->∃c,env.cells.lookup n=some c)->F (n,k) r=pure (ForInStep.yield (if (k==.free)=true then (match env.cells.lookup n with|some c=>(n,c)::r|none=>r)else r))):
  ∀(l:List (Str×NameKind))(cs:List (Str×Addr)),(∀x∈l,x.2=.free->∃c,env.cells.lookup x.1=some c)->forIn l cs F=pure (zZ env l cs)
 | [],cs,_=>rfl
 | (n,k)::l,cs,h=>by rw[List.forIn_cons,hF n k cs (h (n,k) zx),pure_bind];exact xx hF l _ λy hy=>h y (zF _ hy)
def lm{env:Env}(h:∀x∈scope.names,x.2=.free->∃c,env.cells.lookup x.1=some c):closureFor scope env=pure (zZ env scope.names []):=by
 simp only[closureFor];rw[xx (λn k r hk=>?_) scope.names [] h];·rfl
 ·by_cases hf:(k==NameKind.free)=true;·obtain⟨c,hc⟩:=hk (by simpa using hf);simp only[hf,vP,cellOf,hc,pure_bind]
  ·simp only[hf,ue];rfl
theorem yd{env:Env}:∀(l:List (Str×NameKind))(cs:List (Str×Addr)),(∀x c,cs.lookup x=some c->env.cells.lookup x=some c)->∀x c,(zZ env l cs).lookup x=some c->env.cells.lookup x=some c
 | [],cs,h,x,c,e=>h x c e
 | (n,k)::l,cs,h,x,c,e=>by
  refine yd l _ (λy d ed=>?_) x c e;split at ed
  ·split at ed
   ·rename_i c' hc';rw[vy]at ed;split at ed;·rename_i q;rw[g9 q];rw[<- wq ed];exact hc'
    ·exact h y d ed
   ·exact h y d ed
  ·exact h y d ed
theorem rA{env:Env}:∀(l:List (Str×NameKind))(cs:List (Str×Addr))(x:Str),((∃c,cs.lookup x=some c)\/((x,NameKind.free)∈l/\∃c,env.cells.lookup x=some c))->∃c,(zZ env l cs).lookup x=some c
 | [],cs,x,h=>by
  rcases h with h|⟨h,_⟩;·exact h
  ·cases h
 | (n,k)::l,cs,x,h=>by
  refine rA l _ x ?_;rcases h with⟨c,h⟩|⟨h,c,hc⟩
  ·left;split
   ·split
    ·rw[vy];split;·exact⟨_,rfl⟩
     ·exact⟨c,h⟩
    ·exact⟨c,h⟩
   ·exact⟨c,h⟩
  ·rcases zL.mp h with e|h;·cases e;left;rw[if_pos (by rfl),hc];exact⟨c,by simp[vy]⟩
   ·exact .inr ⟨h,c,hc⟩
noncomputable def cq(X:Cx)(N':List Str)(scope:Scope)(C:Addr)(s₂:Shared)(H₂:Hp)(fp:List Addr):Cx:=
 { X with N:=N',s₀:=s₂,H₀:=H₂,env:=compEnvC scope (zZ X.env scope.names []) C X.env,outer:=X.stack,stack:=X.stack,ex:=fp,fn:=λ_=>false,pn:=[],xe:=λ_ _=>False }
def jC{α:Type}:R α->R α
 |.ok a=>.ok a
 |_=>.no
noncomputable def fU(ix:List Nat)(ρ:Ev):Ev:=none::ix.map λ(i:Nat)=>match ρ[i]? with
 |some (some (.val d))=>some (.val d)
 |_=>none
noncomputable def iQ(n:Nat)(ix:List Nat)(ρ:Ev):Ev:=List.replicate n none++ix.map λ(i:Nat)=>match ρ[i]? with
 |some (some (.val d))=>some (.val d)
 |_=>none
noncomputable def hW(asg:D->Ev->R Ev)(gt:Ev->R Bool)(ge:Ev->R D):List D->Ev->R (List D)
 | [],_=>.ok []
 |d::ds,ρ=>jC (asg d ρ)>>=λρ1=>jC (gt ρ1)>>=λk=>if k=true then jC (ge ρ1)>>=λx=>hW asg gt ge ds ρ1>>=λxs=>.ok (x::xs)else hW asg gt ge ds ρ1
noncomputable def dI(gt:Ev->R Bool)(ge:Ev->R D):List D->Ev->R (List D):=hW (jz 0) gt ge
theorem lI{asg:D->Ev->R Ev}{gt:Ev->R Bool}{ge:Ev->R D}:∀(ds:List D)(ρ:Ev),(∃xs,hW asg gt ge ds ρ=.ok xs)\/hW asg gt ge ds ρ=.no
 | [],ρ=>.inl ⟨[],rfl⟩
 |d::ds,ρ=>by
  unfold hW;cases asg d ρ with
  |ok ρ1=>
   simp only[jC,R.ok_bind];cases gt ρ1 with
   |ok k=>
    cases k with
    |true=>
     cases ge ρ1 with
     |ok x=>
      rcases lI ds ρ1 with⟨xs,e⟩|e;·rw[e];exact .inl ⟨_,rfl⟩
      ·rw[e];exact .inr rfl
     |ex C=>exact .inr rfl
     |no=>exact .inr rfl
    |false=>simp only[nA,ue];exact lI ds _
   |ex C=>exact .inr rfl
   |no=>exact .inr rfl
  |ex C=>exact .inr rfl
  |no=>exact .inr rfl
noncomputable def dS(gi:Ev->R (List D))(ix:List Nat)(gt:Ev->R Bool)(ge:Ev->R D):Ev->R (List D):=λρ=>gi ρ>>=λitems=>dI gt ge items (fU ix ρ)>>=λds=>if ds.length<=sizeLine then .ok ds else .no
noncomputable def qd(n:Nat)(asg:D->Ev->R Ev)(gi:Ev->R (List D))(ix:List Nat)(gt:Ev->R Bool)(ge:Ev->R D):Ev->R (List D):=λρ=>gi ρ>>=λitems=>hW asg gt ge items (iQ n ix ρ)>>=λds=>if ds.length<=sizeLine then .ok ds else .no
noncomputable def PTs(X:Cx)(ifs:List Expr)(gt:Ev->R Bool):Prop:=∀(pins:List (Addr×Obj))(s:Shared)(σ:St)(H:Hp)(Q:Bool->Hp->Prop),Inv X pins σ H s->tTF X gt σ H Q->
 wpAny (model X.prog X.w) X.A (forIn ifs true λc r=>if r=true then do let ok <- isTrue c X.env (eval c X.env);pure (ForInStep.yield ok)else pure (ForInStep.yield r)) (TP X pins σ Q) X.xe s
def el:PTs X [] (λ_=>.ok true):=by intro pins s σ H Q I h;obtain⟨G,ρ,st,h⟩:=h;exact zc ⟨H,I,h true G H (.refl st.sub) rfl⟩
def oj{c:Expr}{gt:Ev->R Bool}(h:PB X c gt):PTs X [c] gt:=λpins s σ H Q I q=>wpAny_tests_one (h pins s σ H Q I q)
def Un.sameBut{fs ex:List Addr}{h1 h2:Heap}(u:Un fs ex H H' h h1)(k:∀b o,b≠C->h1.get? b=some o->h2.get? b=some o)(hC:h.objs.size<=C):Un fs ex H H' h h2:=by have ne:∀b o,h.get? b=some o->b≠C:=λb o e=>v9 (uf (w5 e) hC);exact⟨λb o e n hb hx=>k b o (ne b o e) (u.keep b o e n hb hx),λb o e n hb hx=>let⟨sl,q⟩:=u.slot b o e n hb hx;⟨sl,k b _ (ne b o e) q⟩,u.free,λb o e hx=>let⟨o',q⟩:=u.there b o e hx;⟨o',k b o' (ne b o e) q⟩,u.tups,u.frzs,u.tbls⟩
def HOk.sameBut{w:World}(x:HOk P w H h)(k:∀b o,b≠C->h.get? b=some o->h'.get? b=some o)(hC:H C=none):HOk P w H h':=λa o e=>by
 refine(x a o e).stay (λb u hb q=>k b u ?_ q) (λ_ z=>z) (λ_ _ z=>z);rcases hb with rfl|hb;·exact aF e hC
 ·exact aF hb hC
section
variable{elt:Expr}{ifs:List Expr}{px:Pos}{N':List Str}{gt:Ev->R Bool}
structure CompOk(X:Cx)(scope:Scope)(x:Str)(N':List Str)(ix:List Nat):Prop where
 kind:scope.kind=.function
 cell:∀y∈scope.names,y.2≠.cell
 names:∀y∈scope.names,y.2=.local->scope.names.lookup y.1=some .local
 loc:scope.names.lookup x=some .local
 fr:∀y∈scope.names,y.2=.free->X.env.kindOf y.1=some .cell
 nd:N'.Nodup
 hd:N'[0]?=some x
 tl:N'.tail=ix.map λ(i:Nat)=>X.N.getD i Str.empty
 lt:∀i∈ix,i<X.N.length
 fre:∀y∈N'.tail,scope.names.lookup y=some .free/\(y,NameKind.free)∈scope.names
structure CompOkT(X:Cx)(scope:Scope)(n:Nat)(N':List Str)(ix:List Nat):Prop where
 kind:scope.kind=.function
 cell:∀y∈scope.names,y.2≠.cell
 names:∀y∈scope.names,y.2=.local->scope.names.lookup y.1=some .local
 fr:∀y∈scope.names,y.2=.free->X.env.kindOf y.1=some .cell
 le:n<=N'.length
 tl:N'.drop n=ix.map λ(i:Nat)=>X.N.getD i Str.empty
 lt:∀i∈ix,i<X.N.length
 fre:∀y∈N'.drop n,scope.names.lookup y=some .free/\(y,NameKind.free)∈scope.names
def CompOk.t(ok:CompOk X scope x N' ix):CompOkT X scope 1 N' ix:=
 ⟨ok.kind,ok.cell,ok.names,ok.fr,(vc.mp ok.hd).1,List.drop_one▸ok.tl,ok.lt,List.drop_one▸ok.fre⟩
theorem mr{env:Env}(hk:env.scope.kind=.function):∀{names:List (Str×NameKind)}{x:Str},names.lookup x=some .free->env.kindOf x=some .cell->
  (names.map λ(n,k)=>if (k==NameKind.free && env.scope.kind==.function && env.kindOf n==some .cell)then (n,NameKind.cell)else (n,k)).lookup x=some .cell
 | [],_,h,_=>by simp at h
 | (n,k)::r,x,h,hc=>by
  have ih:=@mr env hk r x;show List.lookup x ((if (k==NameKind.free && env.scope.kind==.function && env.kindOf n==some .cell)=true then (n,NameKind.cell)else (n,k))::_)=_;cases hx:x==n with
  |true=>simp only[vy,hx]at h;cases h;have e:=g9 hx;subst e;rw[if_pos (by rw[hk,hc];rfl)];simp[vy]
  |false=>
   simp only[vy,hx]at h;by_cases hc':(k==NameKind.free && env.scope.kind==.function && env.kindOf n==some .cell)=true;·rw[if_pos hc'];simp only[vy,hx];exact ih h hc
   ·rw[if_neg hc'];simp only[vy,hx];exact ih h hc
def zQ{n:Nat}(h:(iQ n ix ρ)[j]?=some (some (.val d))):∃k i,j=k+n/\ix[k]?=some i/\ρ[i]?=some (some (.val d)):=by
 unfold iQ at h;by_cases hj:j<n;·rw[t9 (by simpa using hj),l9,if_pos hj]at h;cases h
 ·rw[rg (by simpa using mP.1 hj),rE,v8]at h;cases e:ix[j - n]? with
  |none=>rw[e]at h;cases h
  |some i=>
   rw[e]at h;refine⟨j - n,i,by omega,e,?_⟩;simp only[tU,nD]at h;split at h;·rename_i d' e';cases h;exact e'
   ·cases h
noncomputable def jX(n:Nat)(ix:List Nat)(σ:St):St:=List.replicate n none++ix.map λ(i:Nat)=>(σ[i]?).join
def pq{n:Nat}:NoOwn (iQ n ix ρ):=λj x h=>by
 unfold iQ at h;by_cases hj:j<n;·rw[t9 (by simpa using hj),l9,if_pos hj]at h;cases h
 ·rw[rg (by simpa using mP.1 hj),rE,v8]at h;cases e:ix[j - n]? with
  |none=>rw[e]at h;cases h
  |some i=>
   rw[e]at h;simp only[tU,nD]at h;split at h;·cases h;exact⟨_,rfl⟩
   ·cases h
def yw{K:PySem.W.Frag}(st:StE K G H σ ρ)(n:Nat)(ix:List Nat):StE K G H (jX n ix σ) (iQ n ix ρ):=by refine⟨st.sub,by simp[iQ,jX],λj d h=>?_,λj m C p fs h=>absurd h (NoOwn.obj pq j m C p fs)⟩;obtain⟨k,i,rfl,e1,e2⟩:=zQ h;obtain⟨v,h1,h2⟩:=st.val i d e2;refine⟨v,?_,h2⟩;unfold jX;rw[rg (by simp),rE,Nat.add_sub_cancel,v8,e1];simp[h1]
def Dw{h₁:Heap}{tk:Nat}{m:Str->Option Value}{n:Nat}(ok:CompOkT X scope n N' ix)(hcalm:X.calm=true)(I:Inv X pins σ H s)(hf:∀b∈fp,qe X pins H b)(hfl:∀b∈fp,b<s.heap.objs.size)(hC:s.heap.objs.size<=C)(hn:h₁.Ns C m)(old:∀b o,s.heap.get? b=some o->h₁.get? b=some o)(un:Un (frs X.stack) fp H H' s.heap h₁)(hok:HOk X.prog X.w H' h₁)(hfC:H' C=none)(hfc:∀c:Addr,c<s.heap.objs.size->H c=none->H' c=none):
  Inv (cq X N' scope C s H fp) [] (jX n ix σ) H' { s with heap:=h₁,toks:=tk }:=by
 have cl:∀y c,(zZ X.env scope.names []).lookup y=some c->X.env.cells.lookup y=some c:=yd scope.names [] (λy c h=>by simp at h);have nlt:N'.length=n+ix.length:=by have h1:=vC List.length ok.tl;rw[n6,zy]at h1;have:=ok.le;omega
 refine⟨⟨I.ok.mod,by show(relabel scope X.env).kind=_;exact ok.kind,I.ok.glob,I.ok.blt,hC,?_,?_,?_,I.ok.hd,I.ok.frames,.inl rfl,?_,I.bs,wt I.ok.bsz I.sz,?_,?_,I.stack,I.stkFree,I.ok.tabs.un I.base⟩,rfl,I.bare,un,?_,?_,hfC,?_,?_,hok,?_⟩;·intro y z c h1 h2;exact I.ok.inj y z c (cl y c h1) (cl z c h2)
 ·intro y hy;have h1:(y,NameKind.free)∈scope.names:=by
   have hy':=hy;have mem:∀k,(relabel scope X.env).names.lookup y=some k->(k=.cell\/k=.free)->(y,NameKind.free)∈scope.names:=λk e hk=>by
    have hm:=j7 e;obtain⟨⟨n,k'⟩,hm1,hm2⟩:=wU.mp hm;dsimp only at hm2;split at hm2
    ·rename_i hc;cases hm2;have:k'=.free:=by have:=(xf _ _▸(xf _ _▸hc).1).1;simpa using this
     rw[<- this];exact hm1
    ·cases hm2;rcases hk with rfl|rfl;·exact absurd rfl (ok.cell _ hm1)
     ·exact hm1
   rcases hy' with h|h;·exact mem _ h (.inl rfl)
   ·exact mem _ h (.inr rfl)
  have hc:=I.ok.has y (.inl (ok.fr _ h1 rfl));exact rA scope.names [] y (.inr ⟨h1,hc⟩)
 ·intro y c hfn;cases hfn
 ·intro b hb;obtain⟨f0,f1,f2,f3,f4,f5⟩:=hf b hb;exact⟨λz=>absurd (hfl b hb) (by rw[z];exact mP.mpr hC),λy c h=>f4 y c (cl y c h)⟩
 ·intro b o e hb;obtain⟨f0,f1,f2,f3,f4,f5⟩:=hf b hb;rcases f3 with f3|f3;·exact I.ok.noex b o e f3
  ·exact absurd (w5 (I.ok.bs b o e).1) (mP.mpr f3)
 ·intro b hb hb';obtain⟨f0,f1,f2,f3,f4,f5⟩:=hf b hb;rcases zL.mp (I.stkSub b hb')with e|e;·exact f1 e
  ·exact f2 e
 ·refine⟨m,hn,λi y v h1 h2 h3=>?_⟩;by_cases hi:i<n;·unfold jX at h2;rw[t9 (by simpa using hi),l9,if_pos hi]at h2;cases h2
  ·unfold jX at h2;rw[rg (by simpa using mP.1 hi),rE,v8]at h2;cases e:ix[i - n]? with
   |none=>rw[e]at h2;cases h2
   |some i0=>
    rw[e]at h2;have h2':σ[i0]?=some (some v):=by
     cases q:σ[i0]? with
     |none=>rw[tU,q]at h2;cases h2
     |some z=>rw[tU,q]at h2;have:=wq h2;rw[<- this];rfl
    have ht:(N'.drop n)[i - n]?=some y:=by rw[jB,Nat.add_sub_cancel' (mP.1 hi)];exact h1
    have hy:X.N[i0]?=some y:=by have ht2:=ht;rw[ok.tl,v8,e]at ht2;have hl:=ok.lt i0 (lO e);have q:=wq ht2;rw[xn hl];rw[<- q];show some X.N[i0]=some (X.N.getD i0 Str.empty);rw[zi,xn hl];rfl
    obtain⟨fr1,fr2⟩:=ok.fre y (lO ht);have kc:=ok.fr _ fr2 rfl;obtain⟨m0,hn0,hl⟩:=I.loc;obtain⟨u,ru,lk⟩:=hl i0 y v hy h2' (.inr (.inl kc));refine⟨u,ru,.inr ⟨.inl (mr I.ok.kind fr1 kc),?_⟩⟩;rcases lk with⟨z,_⟩|⟨_,c,hc,hcell⟩;·rw[kc]at z;cases z
    ·obtain⟨c',hc'⟩:=rA scope.names [] y (.inr ⟨fr2,c,hc⟩);have:=cl y c' hc';rw[hc]at this;cases this;exact⟨c,hc',hcell.keeps old⟩
 ·intro y c h;obtain⟨v,q⟩:=I.cell y c (cl y c h);exact⟨v,q.keeps old⟩
 ·intro y c h;obtain⟨v,q⟩:=I.cell y c (cl y c h);exact hfc c q.lt (I.freeC y c (cl y c h))
 ·intro p hp;exact absurd (show p∈([]:List (Addr×Obj)) from hp) (by simp)
 ·show(jX n ix σ).length=N'.length;rw[nlt];simp[jX]
def yM{prog:Program}{w:World}{A:Around}{R':Result->Shared->Prop}{elt target:Expr}{ifs:List Expr}{it acc:Value}{env:Env}(I:Nat->Shared->Prop)(turn:∀n s,I n s->wpAny (model prog w) A (pyNext it) (λr s₁=>match r with
 |none=>R' (.ok .next) s₁
 |some v=>wpAny (model prog w) A (letOwnedTupleGo target it v) (λ_ s₁'=>wpAny (model prog w) A (assign target env v) (λ_ s₂=>
 wpAny (model prog w) A (forIn ifs true λc r=>if r=true then do let ok <- isTrue c env (eval c env);pure (ForInStep.yield ok)else pure (ForInStep.yield r)) (λok s₃=>
 if ok=true then wpAny (model prog w) A (eval elt env) (λx s₄=>
 wpAny (model prog w) A (call (.builtin "list.append") [acc,x]) (λ_ s₅=>∃m,m<n/\I m s₅) (λ_ _=>False) s₄) (λ_ _=>False) s₃
 else ∃m,m<n/\I m s₃) (λ_ _=>False) s₂) (λ_ _=>False) s₁') (λ_ _=>False) s₁) (λ_ _=>False) s)(n:Nat)(h:I n s):
  codeAny (model prog w) A (.compLoop (.ListComp elt [⟨target,iter,ifs,0⟩] scope pos) 0 it acc env) R' s:=by
 refine codeAny_loop rfl I (λn s hI=>?_) n h;refine wpAny_noted ?_;refine z8 (iF (z8 (vV (turn n s hI) (λr s₁ h₁=>?_) λ_ _ z=>z.elim)));cases r with
 |none=>exact zc h₁
 |some v=>
  refine z8 (vV h₁ (λ_ s₁' h₁'=>?_) λ_ _ z=>z.elim);refine z8 (vV h₁' (λ_ s₂ h₂=>z8 (vV h₂ (λok s₃ h₃=>?_) λ_ _ z=>z.elim)) λ_ _ z=>z.elim);cases ok with
  |false=>exact zc ⟨rfl,h₃⟩
  |true=>exact z8 (z8 (vV h₃ (λx s₄ h₄=>z8 (vV h₄ (λ_ s₅ h₅=>zc (zc ⟨rfl,h₅⟩)) λ_ _ z=>z.elim)) λ_ _ z=>z.elim))
def xU:∀d ρ ρ',jz i d ρ=.ok ρ'->NoOwn ρ->NoOwn ρ':=by
 intro d ρ ρ' e h j x q;have e':=R.ok.inj e;rw[<- e',Zh]at q;split at q
 ·split at q;·cases q;exact⟨d,rfl⟩
  ·cases q
 ·exact h j x q
def pA{n:Nat}{tn:Nat->Heap->Prop}{J:It}{Q:VK}{RR:Value->Addr->Result->Shared->Prop}{E:Value->Shared->Prop}(ok:CompOkT X scope n N' ix)(hcalm:X.calm=true)(hg:∀C s₂ H₂ fp,PGF (cq X N' scope C s₂ H₂ fp) tgt asg)(hown:∀d ρ ρ',asg d ρ=.ok ρ'->(NoOwn ρ)->NoOwn ρ')(he:∀C s₂ H₂ fp,PF (cq X N' scope C s₂ H₂ fp) elt ge)(ht:∀C s₂ H₂ fp,PTs (cq X N' scope C s₂ H₂ fp) ifs gt)(I:Inv X pins σ H s)(T:Turn X.prog X.w X.K tgt J fp it tn)(st0:tn 0 s.heap)(hf:∀b∈fp,qe X pins H b)(st:StE X.K G H σ ρ)(hi:ItOk X.K G J items)(h:(hW asg gt ge items (iQ n ix ρ)>>=λds=>if ds.length<=sizeLine then R.ok ds else .no).post (zM X.K G H Q) (Exx X σ G H))(hR:∀(Dd C:Addr)(s':Shared)(m:Str->Option Value)(vs:List V)(G' H':Hp),Up G H G' H'->H' Dd=none->C≠Dd->(∀ds,Reps X.K G' vs ds->True)->Q (.ref Dd) (upd H' Dd (.lst vs))->s'.heap.Ns C m->s'.os=s.os->AllBare s'.gens->H' C=none->s.heap.objs.size<=C->
 Un (frs X.stack) fp H (upd H' Dd (.lst vs)) s.heap s'.heap->HOk X.prog X.w (upd H' Dd (.lst vs)) s'.heap->RR (.ref Dd) C (.ok .next) s'):
  wpAny (model X.prog X.w) X.A (newList []) (λacc s₃=>wpAny (model X.prog X.w) X.A (newFunctionEnv scope X.env.globals (zZ X.env scope.names []) [] X.env.qual none .none (some X.env)) (λcenv s₄=>codeAny (model X.prog X.w) X.A (.compStart (.ListComp elt [⟨tgt,iter,ifs,0⟩] scope pos) 0 (.ref it) acc { cenv with scope:=relabel scope X.env }) (RR acc cenv.locals) s₄) E s₃) E s:=by
 have hfl:∀b∈fp,b<s.heap.objs.size:=λb hb=>let⟨o,e,_⟩:=T.obj 0 s.heap st0 b hb;w5 e;refine oT (wpAny_newFunctionEnv ok.cell (by intro y hy;simp at hy) (λh₁ hns₁ hsb₁=>?_) ok.kind);dsimp only at hns₁ hsb₁⊢;generalize hH2:s.heap.push { cls:=.type "list",dict:=none,data:=.seq ([]:List Value).toArray }=Hq at hns₁ hsb₁⊢;have hC:Hq.objs.size=s.heap.objs.size+1:=by rw[<- hH2,c7]
 have hDC:s.heap.objs.size≠Hq.objs.size:=by rw[hC];exact v9 (ZO _)
 have hCle:s.heap.objs.size<=Hq.objs.size:=by rw[hC];exact la _
 have old:∀b o,s.heap.get? b=some o->h₁.get? b=some o:=λb o e=>
  hsb₁.extBut b o (by rw[hC];exact v9 (Nat.lt_succ_of_lt (w5 e))) (w9 _ (hH2▸w9 _ e));have hacc:=hsb₁.extBut _ _ hDC (w9 _ (hH2▸v7 _ rfl));have hD0:=I.fresh;have hC0:=I.hok.fresh hCle;have st0':=T.keep 0 _ _ st0 λb hb o e=>old b o e;have I0:∀tk,Inv (cq X N' scope Hq.objs.size s H fp) [] (jX n ix σ) (upd H s.heap.objs.size (.lst [])) { s with heap:=h₁,toks:=tk }:=λtk=>by
  refine Dw ok hcalm I hf hfl hCle hns₁ old (Un.laid old (z9 _) hD0) (I.hok.laid old (z9 _) ⟨wA _,[],0,.nil,hacc⟩) (by rw[aM hDC.symm];exact hC0) λc hc e=>?_;rw[aM (v9 hc)];exact e
 have loop:∀tk,codeAny (model X.prog X.w) X.A (.compLoop (.ListComp elt [⟨tgt,iter,ifs,0⟩] scope pos) 0 (.ref it) (.ref s.heap.objs.size) (compEnvC scope (zZ X.env scope.names []) Hq.objs.size X.env))
   (RR (.ref s.heap.objs.size) Hq.objs.size) { s with heap:=h₁,toks:=tk }:=λtk=>by
  have fpk:∀{pins':List (Addr×Obj)}{σ':St}{H':Hp}{s':Shared},Inv (cq X N' scope Hq.objs.size s H fp) pins' σ' H' s'->pins'=[]->(∀b∈fp,H' b=none)->∀b∈fp,qe (cq X N' scope Hq.objs.size s H fp) pins' H' b:=λI' e hn b hb=>⟨hn b hb,(I'.ok.exf b hb).1,I'.ok.exfs b hb,.inl hb,(I'.ok.exf b hb).2,by subst e;intro p hp;exact absurd (show p∈([]:List (Addr×Obj)) from hp) (by simp)⟩
  refine yM (λnn s'=>∃(i:Nat)(σ':St)(G' H':Hp)(ρ':Ev)(vs:List V)(ys:List D),nn=items.length - i/\i<=items.length/\Inv (cq X N' scope Hq.objs.size s H fp) [] σ' H' s'/\tn i s'.heap/\(∀b∈fp,H' b=none)/\
   H' s.heap.objs.size=some (.lst vs)/\G' s.heap.objs.size=none/\Up G H G' H'/\StE X.K G' H' σ' ρ'/\(NoOwn ρ')/\Reps X.K G' vs ys/\
   (hW asg gt ge (items.drop i) ρ'>>=λzs=>if (ys++zs).length<=sizeLine then R.ok (ys++zs)else .no).post (zM X.K G H Q) (Exx X σ G H)) ?_ items.length
   ⟨0,jX n ix σ,G,upd H s.heap.objs.size (.lst []),iQ n ix ρ,[],[],by simp,wA _,I0 tk,st0',λb hb=>by rw[aM (v9 (hfl b hb))];exact(hf b hb).1,aY,st.sub.free hD0,
    ⟨λa o e=>by rw[aM (aF e (st.sub.free hD0))];exact st.sub a o e,.refl _,.into hD0,λ_ _ e=>.inl e⟩,
    ⟨λa o e=>by rw[aM (aF e (st.sub.free hD0))];exact st.sub a o e,(yw st n ix).len,(yw st n ix).val,λj m C p fs h=>absurd h (NoOwn.obj pq j m C p fs)⟩,pq,.nil,by simpa using h⟩;rintro nn s' ⟨i,σ',G',H',ρ',vs,ys,rfl,hil,I',tn',fr',hD',gD',up',st',no',rp',h'⟩;have hIt:=hi i G' H' up'.gg st'.sub;by_cases hlt:i<items.length
  ·have hd:=b7 hlt;rw[hd]at h';obtain⟨go,yl⟩:=hIt.1 items[i] (by simp[hlt]);refine vV (T.item (cq X N' scope Hq.objs.size s H fp) rfl rfl rfl hcalm i [] s' σ' H' (λ_ _=>False) I' (fpk I' rfl fr') tn' go) (λr s1 ⟨u,hr,h1⟩=>?_) λ_ _ z=>z;subst hr;refine vV h1 (λ_ s2 ⟨x2,H2,I2,r2,y2,tn2,fr2⟩=>?_) λ_ _ z=>z;obtain⟨G2,up2,rep2⟩:=yl x2 H2 y2;have I2p:=I2.pinned (fpk I2 rfl fr2) (T.obj _ _ tn2);have st2:=st'.up up2;have sr2:StR X.K G2 H2 G2 H2 σ' ρ':=⟨st2,up2.sub,.refl up2.sub,λj ds e=>absurd e (no'.own j ds),λj k ds es l e=>absurd e (no'.own j ds),no'.ob⟩
   have ea:∃ρ1,asg items[i] ρ'=.ok ρ1:=by
    unfold hW at h';cases q:asg items[i] ρ' with
    |ok k=>exact⟨k,rfl⟩
    |_=>rw[q]at h';exact h'.elim
   obtain⟨ρ1,ea⟩:=ea;unfold hW at h';rw[ea]at h';simp only[jC,R.ok_bind]at h';refine vV (hg Hq.objs.size s H fp _ s2 σ' H2 x2 u (λσ3 H3=>H3=H2/\StR X.K G2 H2 G2 H2 σ3 ρ1) I2p r2
    ⟨G2,H2,G2,ρ',items[i],_,sr2,rep2,ea,λσ3 q=>⟨rfl,q⟩⟩) (λ_ s3 ⟨σ3,H3,I3,e3,sr3⟩=>?_) λ_ _ z=>z;subst e3;have no3:=hown _ _ _ ea no';have hD2:=up2.hh _ _ hD';have gD2:G2 s.heap.objs.size=none:=by
    cases q:G2 s.heap.objs.size with
    |none=>rfl
    |some o=>
     rcases up2.fr _ _ q with z|z;·rw[gD']at z;cases z
     ·rw[hD']at z;cases z
   have ek:∃k,gt ρ1=.ok k:=by
    cases q:gt ρ1 with
    |ok k=>exact⟨k,rfl⟩
    |_=>rw[q]at h';exact h'.elim
   obtain⟨k,ek⟩:=ek;rw[ek]at h';simp only[jC,R.ok_bind]at h';refine vV (ht Hq.objs.size s H fp _ s3 σ3 H3 (λb H4=>b=k/\∃G4,Up G2 H3 G4 H4) I3 ⟨G2,_,sr3.e,by rw[ek];exact λb G4 H4 u4 e4=>⟨e4,G4,u4⟩⟩) (λb s4 ⟨H4,I4,eb,G4,up4⟩=>?_) λ_ _ z=>z;subst eb;have next:∀{H7:Hp}{s7:Shared}{G7:Hp}{vs7:List V}{ys7:List D},Inv (cq X N' scope Hq.objs.size s H fp) ([]++td fp s2.heap) σ3 H7 s7->H7 s.heap.objs.size=some (.lst vs7)->G7 s.heap.objs.size=none->Up G H G7 H7->StE X.K G7 H7 σ3 ρ1->Reps X.K G7 vs7 ys7->
     (hW asg gt ge (items.drop (i+1)) ρ1>>=λzs=>if (ys7++zs).length<=sizeLine then R.ok (ys7++zs)else .no).post (zM X.K G H Q) (Exx X σ G H)->
     ∃m,m<items.length - i/\∃(i:Nat)(σ':St)(G' H':Hp)(ρ':Ev)(vs:List V)(ys:List D),m=items.length - i/\i<=items.length/\Inv (cq X N' scope Hq.objs.size s H fp) [] σ' H' s7/\tn i s7.heap/\(∀b∈fp,H' b=none)/\
      H' s.heap.objs.size=some (.lst vs)/\G' s.heap.objs.size=none/\Up G H G' H'/\StE X.K G' H' σ' ρ'/\(NoOwn ρ')/\Reps X.K G' vs ys/\
      (hW asg gt ge (items.drop i) ρ'>>=λzs=>if (ys++zs).length<=sizeLine then R.ok (ys++zs)else .no).post (zM X.K G H Q) (Exx X σ G H):=λ{H7 s7 G7 vs7 ys7} I7 hD7 gD7 up7 st7 rp7 h7=>by
    have pin:∀b∈fp,∀o,s2.heap.get? b=some o->s7.heap.get? b=some o/\H7 b=none:=λb hb o e=>by have:=I7.pin (b,o) (n0 _ (n0 _ (lJ hb e)));exact⟨this.1,this.2.1⟩
    refine⟨items.length - (i+1),by omega,i+1,σ3,G7,H7,_,vs7,ys7,rfl,hlt,I7.unpinned,T.keep _ _ _ tn2 λb hb o e=>(pin b hb o e).1,λb hb=>?_,hD7,gD7,up7,st7,no3,rp7,h7⟩;obtain⟨o,e,_⟩:=T.obj _ _ tn2 b hb;exact(pin b hb o e).2
   have hD4:=up4.hh _ _ hD2;have gD4:G4 s.heap.objs.size=none:=by
    cases q:G4 s.heap.objs.size with
    |none=>rfl
    |some o=>
     rcases up4.fr _ _ q with z|z;·rw[gD2]at z;cases z
     ·rw[hD2]at z;cases z
   cases b with
   |false=>exact next I4 hD4 gD4 ((up'.trans up2).trans up4) (sr3.e.up up4) ((rp'.mono up2.gg).mono up4.gg) h'
   |true=>
    simp only[vP]at h'⊢;have ex:∃y,ge ρ1=.ok y:=by
     cases q:ge ρ1 with
     |ok y=>exact⟨y,rfl⟩
     |_=>rw[q]at h';exact h'.elim
    obtain⟨y,ey⟩:=ex;rw[ey]at h';refine vV (he Hq.objs.size s H fp _ s4 σ3 H4 (λv H5=>∃G5,Up G4 H4 G5 H5/\Rep X.K G5 v y) I4 ⟨G4,_,sr3.e.up up4,by rw[ey];exact λv G5 H5 u5 r5=>⟨G5,u5,r5⟩⟩) (λu5 s5 ⟨v5,H5,I5,r5,G5,up5,rep5⟩=>?_) λ_ _ z=>z;have hD5:=up5.hh _ _ hD4;have gD5:G5 s.heap.objs.size=none:=by
     cases q:G5 s.heap.objs.size with
     |none=>rfl
     |some o=>
      rcases up5.fr _ _ q with z|z;·rw[gD4]at z;cases z
      ·rw[hD4]at z;cases z
    have ups:=((up'.trans up2).trans up4).trans up5;rcases lI (items.drop (i+1)) ρ1 with⟨zs,ez⟩|ez
    ·rw[ez]at h';simp only[R.ok_bind]at h';have hz:(ys++y::zs).length<=sizeLine:=by
      by_cases hz:(ys++y::zs).length<=sizeLine;·exact hz
      ·rw[if_neg hz]at h';exact h'.elim
     have hvl:vs.length<sizeLine:=by rw[rp'.length];rw[w6,vz]at hz;omega
     refine vV (uD (X:=cq X N' scope Hq.objs.size s H fp) _ s5 σ3 H5 (.ref s.heap.objs.size) [v5] (.ref s.heap.objs.size) [u5] (λ_ H6=>H6=upd H5 s.heap.objs.size (.lst (vs++[v5]))) I5 rfl (.cons r5 .nil)
      ⟨_,vs,v5,rfl,rfl,hD5,hvl,rfl⟩) (λ_ s6 ⟨_,H6,I6,_,e6⟩=>?_) λ_ _ z=>z;subst e6;have sub6:Same G5 (upd H5 s.heap.objs.size (.lst (vs++[v5]))):=λa o e=>by rw[aM (aF e gD5)];exact up5.sub a o e
     refine next I6 aY gD5 ⟨sub6,ups.gg,λa o e=>?_,ups.fr⟩ ?_ ((((rp'.mono up2.gg).mono up4.gg).mono up5.gg).append (.cons rep5 .nil)) ?_
     ·rw[aM (aF e hD0)];exact ups.hh a o e
     ·exact⟨sub6,((sr3.e.up up4).up up5).len,((sr3.e.up up4).up up5).val,λj m C p fs h=>absurd h (no3.obj j m C p fs)⟩
     ·rw[ez];simp only[R.ok_bind,tV,List.singleton_append];exact h'
    ·rw[ez]at h';exact h'.elim
  ·have hie:i=items.length:=by omega
   subst hie;rw[Zi]at h';unfold hW at h';simp only[R.ok_bind,t8]at h';refine vV (T.done (cq X N' scope Hq.objs.size s H fp) rfl rfl rfl hcalm items.length [] s' σ' H' (λ_ _=>False) I' (fpk I' rfl fr') tn' (hIt.2 (z9 _))) (λr s1 ⟨hr,I1⟩=>?_) λ_ _ z=>z;subst hr;have hz:ys.length<=sizeLine:=by
    by_cases hz:ys.length<=sizeLine;·exact hz
    ·rw[if_neg hz]at h';exact h'.elim
   rw[if_pos hz]at h';have eH:upd (λa=>if a=s.heap.objs.size then none else H' a) s.heap.objs.size (.lst vs)=H':=by
    funext a
    unfold upd;by_cases e:a=s.heap.objs.size;·subst e;rw[if_pos rfl];exact hD'.symm
    ·rw[if_neg e];show(if a=s.heap.objs.size then none else H' a)=_;rw[if_neg e]
   have hn:(λa=>if a=s.heap.objs.size then none else H' a) s.heap.objs.size=none:=by simp
   have upn:Up G H G' (λa=>if a=s.heap.objs.size then none else H' a):=by
    refine⟨λa o e=>?_,up'.gg,λa o e=>?_,up'.fr⟩;·have:a≠s.heap.objs.size:=aF e gD';simp only[this,ue];exact up'.sub a o e
    ·have:a≠s.heap.objs.size:=aF e hD0;simp only[this,ue];exact up'.hh a o e
   obtain⟨m1,hm1,_⟩:=I1.loc;refine hR s.heap.objs.size Hq.objs.size s1 m1 vs G' _ upn hn hDC.symm (λ_ _=>trivial) (h' _ vs G' _ upn hn rp') hm1 I1.os I1.bare ?_ hCle (by rw[eH];exact I1.base) (by rw[eH];exact I1.hok);have:=I1.free;rw[if_neg hDC.symm];exact this
 exact codeAny_compStart_list (loop _) (T.self X.A 0 _ _ _ st0' (loop _))
def zf{tn:Nat->Heap->Prop}{J:It}{Q:VK}{RR:Value->Addr->Result->Shared->Prop}{E:Value->Shared->Prop}(ok:CompOk X scope x N' ix)(hcalm:X.calm=true)(he:∀C s₂ H₂ fp,PF (cq X N' scope C s₂ H₂ fp) elt ge)(ht:∀C s₂ H₂ fp,PTs (cq X N' scope C s₂ H₂ fp) ifs gt)(I:Inv X pins σ H s)(T:Turn X.prog X.w X.K (.Name x px) J fp it tn)(st0:tn 0 s.heap)(hf:∀b∈fp,qe X pins H b)(st:StE X.K G H σ ρ)(hi:ItOk X.K G J items)(h:(dI gt ge items (fU ix ρ)>>=λds=>if ds.length<=sizeLine then R.ok ds else .no).post (zM X.K G H Q) (Exx X σ G H))(hR:∀(Dd C:Addr)(s':Shared)(m:Str->Option Value)(vs:List V)(G' H':Hp),Up G H G' H'->H' Dd=none->C≠Dd->(∀ds,Reps X.K G' vs ds->True)->Q (.ref Dd) (upd H' Dd (.lst vs))->s'.heap.Ns C m->s'.os=s.os->AllBare s'.gens->H' C=none->s.heap.objs.size<=C->
 Un (frs X.stack) fp H (upd H' Dd (.lst vs)) s.heap s'.heap->HOk X.prog X.w (upd H' Dd (.lst vs)) s'.heap->RR (.ref Dd) C (.ok .next) s'):
  wpAny (model X.prog X.w) X.A (newList []) (λacc s₃=>wpAny (model X.prog X.w) X.A (newFunctionEnv scope X.env.globals (zZ X.env scope.names []) [] X.env.qual none .none (some X.env)) (λcenv s₄=>codeAny (model X.prog X.w) X.A (.compStart (.ListComp elt [⟨.Name x px,iter,ifs,0⟩] scope pos) 0 (.ref it) acc { cenv with scope:=relabel scope X.env }) (RR acc cenv.locals) s₄) E s₃) E s:=
 pA ok.t hcalm (λC s₂ H₂ fp=>dl 0 ok.nd ok.hd (.inl (Zj ok.loc)) (.inr (Zj ok.loc))) xU he ht I T st0 hf st hi h hR
def ck(ok:CompOk X scope x N' ix)(hcalm:X.calm=true)(hi:PIF X (.Name x px) iter gi)(he:∀C s₂ H₂ fp,PF (cq X N' scope C s₂ H₂ fp) elt ge)(ht:∀C s₂ H₂ fp,PTs (cq X N' scope C s₂ H₂ fp) ifs gt)(hs:∀x,foldedSetIterable iter X.env x=pure x:=by intro _;rfl):PFL X (.ListComp elt [⟨.Name x px,iter,ifs,0⟩] scope pos) (dS gi ix gt ge):=by
 intro pins s σ H Q I h;obtain⟨G,ρ,st,h⟩:=h;refine wpAny_comprehension_free rfl hs (lm λy hy hy2=>I.ok.has y.1 (.inl (ok.fr y hy hy2))) ok.kind ok.names ?_;have t:tG X (λG J items=>ItOk X.K G J items) gi σ H (λJ H1=>∃G1 items,Up G H G1 H1/\StE X.K G1 H1 σ ρ/\ItOk X.K G1 J items/\(dI gt ge items (fU ix ρ)>>=λds=>if ds.length<=sizeLine then R.ok ds else .no).post (zM X.K G H Q) (Exx X σ G H)):=by
  refine⟨G,ρ,st,?_⟩;unfold dS at h;cases e:gi ρ with
  |ok items=>rw[e]at h;exact λJ G1 H1 u r=>⟨G1,items,u,st.up u,r,h⟩
  |ex C=>rw[e]at h;exact h
  |no=>rw[e]at h;exact h
 refine thn (hi pins s σ H _ I t) λv s1 h1=>thn h1 λitv s2 h2=>?_;obtain⟨it,fp,tn,J,H2,e,I2,T,st2,f2,G2,items,u2,sE2,iok,h2⟩:=h2;subst e;have h2':=
  h2.mono (λds q l vs G' H' u hl r=>q l vs G' H' (u2.trans u) hl r) λC q=>q.up u2;refine zf ok hcalm he ht I2 T st2 f2 sE2 iok h2' ?_;intro Dd C s' m vs G' H' up hd hCD _ q hm hos hb hC hCl un hok;refine⟨m,hm,λh' hs'=>?_⟩;have I3:=I2.call' (s':={ s' with heap:=h' }) hos (un.sameBut (λb o hbc e=>hs'.extBut b o hbc e) hCl) (hok.sameBut (λb o hbc e=>hs'.extBut b o hbc e) (by rw[aM hCD];exact hC)) hb λb hb'=>by
  obtain⟨f0,f1,f2',f3,f4,f5⟩:=f2 b hb';exact⟨f3,f1,f4,f5⟩
 exact⟨.ref Dd,_,I3,rfl,q⟩
end
inductive O where
 |nx (ρ:Ev)|rt (d:D)|re (d:D) (ρ:Ev)|bk (ρ:Ev)|ct (ρ:Ev)|ex (C:Addr) (ρ:Ev)|no
noncomputable def FlyS(X:Cx)(G₀ H₀:Hp)(ρ:Ev)(C:Addr)(e:Value)(s':Shared):Prop:=∃σ H₁ pins s₁ a,e=.ref a/\Inv X pins σ H₁ s₁/\
 ((∃G₁ h' vs,StR X.K G₀ H₀ G₁ H₁ σ ρ/\Heap.MadeExcOf s₁.heap h' a (.ref C) vs/\s'={ s₁ with heap:=h' })\/(∃G' H',FX X.prog X.w X.stack H₁ s₁ a C H' s'/\StR X.K G₀ H₀ G' H' σ ρ)\/
  ∃G' H' L,X.env.frame=some L/\Fb X pins L H₁ s₁ a C H' s'/\StR X.K G₀ H₀ G' H' σ ρ)
def FlyS.of{H₀ G₁ H₁:Hp}{e:Value}(sr:StR X.K G₀ H₀ G₁ H₁ σ ρ)(f:Oq X σ G₁ H₁ C e s'):FlyS X G₀ H₀ ρ C e s':=by
 obtain⟨pins,s₁,a,e,I,way⟩:=f;refine⟨σ,H₁,pins,s₁,a,e,I,?_⟩;rcases way with⟨h',vs,m,z⟩|⟨G',H',fl,u⟩|⟨G',H',L,hL,fl,u⟩;·exact .inl ⟨G₁,h',vs,sr,m,z⟩
 ·exact .inr (.inl ⟨G',H',fl,sr.ups u⟩)
 ·exact .inr (.inr ⟨G',H',L,hL,fl,sr.ups u⟩)
def FlyS.map{A B A' B':Hp}{ρ':Ev}{e:Value}(f:FlyS X A B ρ C e s')(h:∀σ G H,StR X.K A B G H σ ρ->StR X.K A' B' G H σ ρ'):FlyS X A' B' ρ' C e s':=by
 obtain⟨σ,H₁,pins,s₁,a,e,I,way⟩:=f;refine⟨σ,H₁,pins,s₁,a,e,I,?_⟩;rcases way with⟨G₁,h',vs,sr,m,z⟩|⟨G',H',fl,sr⟩|⟨G',H',L,hL,fl,sr⟩;·exact .inl ⟨G₁,h',vs,h _ _ _ sr,m,z⟩
 ·exact .inr (.inl ⟨G',H',fl,h _ _ _ sr⟩)
 ·exact .inr (.inr ⟨G',H',L,hL,fl,h _ _ _ sr⟩)
noncomputable def pT(X:Cx)(G₀ H₀:Hp)(D:Ends)(o:O):Prop:=match o with
 |.nx ρ=>∀σ G H,StR X.K G₀ H₀ G H σ ρ->D.nx σ H
 |.rt d=>∀v G H,Up G₀ H₀ G H->Rep X.K G v d->D.rt v H
 |.re d ρ=>∀v σ G H,StR X.K G₀ H₀ G H σ ρ->Rep X.K G v d->D.rt v H
 |.bk ρ=>∀σ G H,StR X.K G₀ H₀ G H σ ρ->D.bk σ H
 |.ct ρ=>∀σ G H,StR X.K G₀ H₀ G H σ ρ->D.ct σ H
 |.ex C ρ=>∀e s',FlyS X G₀ H₀ ρ C e s'->X.xe e s'
 |.no=>False
noncomputable def tS(X:Cx)(G₀ H₀:Hp)(g:Ev->O):TS:=λD σ H=>∃G ρ,StR X.K G₀ H₀ G H σ ρ/\pT X G₀ H₀ D (g ρ)
def PSF(X:Cx)(st:Stmt)(g:Ev->O):Prop:=∀G₀ H₀,PS X st (tS X G₀ H₀ g)
noncomputable def mL(X:Cx)(st:List Stmt)(g:Ev->O):Prop:=∀G₀ H₀,PSs X st (tS X G₀ H₀ g)
noncomputable def R.out{α:Type}(m:R α)(ρ:Ev)(k:α->O):O:=match m with
 |.ok a=>k a
 |.ex C=>.ex C ρ
 |.no=>.no
def O.seq(o:O)(k:Ev->O):O:=match o with
 |.nx ρ=>k ρ
 |o=>o
section
variable{eN body a b:List Stmt}{e c tg:Expr}{g g1 g2:Ev->O}{ga:Ev->R D}{gt:Ev->R Bool}
def Exx.of{H₀:Hp}{D:Ends}(sr:StR X.K G₀ H₀ G H σ ρ)(h:pT X G₀ H₀ D (.ex C ρ)):Exx X σ G H C:=λe s' ⟨G1,H1,u,f⟩=>h e s' (.of (sr.ups u) f)
def Cg:mL X [] (λρ=>.nx ρ):=λG₀ H₀ pins s σ H D I h=>by obtain⟨G,ρ,sr,h⟩:=h;exact Hf pins s σ H D I (h σ G H sr)
def yZ(h1:PSF X st g1)(h2:mL X eN g2):mL X (st::eN) (λρ=>(g1 ρ).seq g2):=λG₀ H₀ pins s σ H D I h=>by
 refine sy (h1 G₀ H₀) (h2 G₀ H₀) pins s σ H D I ?_;obtain⟨G,ρ,sr,h⟩:=h
 try dsimp only at h
 refine⟨G,ρ,sr,?_⟩;cases q:g1 ρ with
 |nx ρ'=>rw[q]at h;exact λσ' G' H' sr'=>⟨G',ρ',sr',h⟩
 |rt d=>rw[q]at h;exact h
 |re d ρ'=>rw[q]at h;exact h
 |bk ρ'=>rw[q]at h;exact h
 |ct ρ'=>rw[q]at h;exact h
 |ex C ρ'=>rw[q]at h;exact h
 |no=>rw[q]at h;exact h
def EC(he:PF X e ga):PSF X (.Return (some e) pos) (λρ=>(ga ρ).out ρ .rt):=λG₀ H₀ pins s σ H D I h=>by
 refine EZ he pins s σ H D I ?_;obtain⟨G,ρ,sr,h⟩:=h
 try dsimp only at h
 refine⟨G,ρ,sr.e,?_⟩;cases q:ga ρ with
 |ok d=>rw[q]at h;exact λv G' H' u r=>h v G' H' (sr.up.trans u) r
 |ex C=>rw[q]at h;exact Exx.of sr h
 |no=>rw[q]at h;exact h
def AD(he:PF X e ga)(hs:swapsWith e none pos.line X.env=pure false:=by rfl):PSF X (.Expr e pos) (λρ=>(ga ρ).out ρ λ_=>.nx ρ):=λG₀ H₀ pins s σ H D I h=>by
 refine nM he hs pins s σ H D I ?_;obtain⟨G,ρ,sr,h⟩:=h
 try dsimp only at h
 refine⟨G,ρ,sr.e,?_⟩;cases q:ga ρ with
 |ok d=>rw[q]at h;exact λv G' H' u r=>h σ G' H' (sr.ups u)
 |ex C=>rw[q]at h;exact Exx.of sr h
 |no=>rw[q]at h;exact h
def HH(hc:PB X c gt)(ha:mL X a g1)(hb:mL X b g2):PSF X (.If c a b pos) (λρ=>(gt ρ).out ρ λk=>if k=true then g1 ρ else g2 ρ):=λG₀ H₀ pins s σ H D I h=>by
 refine N5 hc (ha G₀ H₀) (hb G₀ H₀) pins s σ H D I ?_;obtain⟨G,ρ,sr,h⟩:=h
 try dsimp only at h
 refine⟨G,ρ,sr.e,?_⟩;cases q:gt ρ with
 |ok k=>
  rw[q]at h;intro b' G' H' u r;subst r;cases b' with
  |true=>rw[if_pos rfl];exact⟨G',ρ,sr.ups u,by simpa[R.out]using h⟩
  |false=>rw[if_neg rH];exact⟨G',ρ,sr.ups u,by simpa[R.out]using h⟩
 |ex C=>rw[q]at h;exact Exx.of sr h
 |no=>rw[q]at h;exact h
def xS(he:PF X e ga)(hg:PGF X tg asg)(hs:swapsWithSole [tg] e pos.line X.env=pure false:=by rfl)(hw:swappedStores [tg] e X.env=pure none:=by rfl)(hn:∀d ρ C,asg d ρ≠.ex C:=by intro _ _ _ z;cases z)(h1:(assignEach [tg] X.env).map (·.2)=[assign tg X.env]:=by rfl):PSF X (.Assign [tg] e pos) (λρ=>(ga ρ).out ρ λd=>(asg d ρ).out ρ .nx):=λG₀ H₀ pins s σ H D I h=>by
 refine oy he hg hs hw h1 pins s σ H D I ?_;obtain⟨G,ρ,sr,h⟩:=h
 try dsimp only at h
 refine⟨G,ρ,sr.e,?_⟩;cases q:ga ρ with
 |ok d=>
  rw[q]at h;simp only[R.out]at h;intro v G' H' u r;cases q2:asg d ρ with
  |ok ρ'=>rw[q2]at h;exact⟨G₀,H₀,G',ρ,d,ρ',sr.ups u,r,q2,λσ' sr'=>h σ' G' H' sr'⟩
  |ex C=>exact absurd q2 (hn d ρ C)
  |no=>rw[q2]at h;exact h.elim
 |ex C=>rw[q]at h;exact Exx.of sr h
 |no=>rw[q]at h;exact h
def Ea(i:Nat)(hN:X.N.Nodup)(he:PF X e ga)(hi:X.N[i]?=some x:=by rfl)(hx:Loc X.env.scope x:=by first|exact Or.inl rfl|exact Or.inr rfl)(hs:swapsWithSole [.Name x p] e pos.line X.env=pure false:=by rfl)(hw:swappedStores [.Name x p] e X.env=pure none:=by rfl)(hf:X.fn x=true\/X.env.scope.names.lookup x=some .local:=by first|exact .inl rfl|exact .inr rfl):
  PSF X (.Assign [.Name x p] e pos) (λρ=>(ga ρ).out ρ λd=>.nx (ρ.set i (some (.val d)))):=xS he (dl i hN hi hx hf) hs hw
def StR.setOwn{K:PySem.W.Frag}{H₀:Hp}(s:StR K G₀ H₀ G H σ ρ){l:Addr}(hl:H l=none)(r:Reps K G vs ds)(i:Nat):
  StR K G₀ H₀ G (upd H l (.lst vs)) (σ.set i (some (.ref l))) (ρ.set i (some (.own ds))):=by
 have gl:=s.e.sub.free hl;have sub:Same G (upd H l (.lst vs)):=λa o e=>by rw[aM (aF e gl)];exact s.e.sub a o e
 have get:∀(j:Nat) x,(ρ.set i (some (.own ds)))[j]?=some (some x)->(j=i/\x=.own ds/\i<σ.length)\/(j≠i/\ρ[j]?=some (some x)/\(σ.set i (some (.ref l)))[j]?=σ[j]?):=λj x h=>by
  by_cases e:i=j
  ·subst e;have hl:i<ρ.length:=by have:=(vc.mp h).1;simpa using this
   rw[vE hl]at h;exact .inl ⟨rfl,by injection (wq h)with q;exact q.symm,by rw[s.e.len];exact hl⟩
  ·rw[uA e]at h;exact .inr ⟨λz=>e z.symm,h,uA e⟩
 have ob:ObSt K H₀ G (upd H l (.lst vs)) (σ.set i (some (.ref l))) (ρ.set i (some (.own ds))):=by
  obtain⟨ow,o1,o2⟩:=s.ob;have nl:∀{a:Addr}{o:HO},H a=some o->a≠l:=λe z=>by rw[z,hl]at e;cases e
  refine⟨λa=>if a=l then some (i,0)else ow a,λj es l' h1 h2=>?_,λj m C p fs h1=>?_⟩
  ·rcases get j _ h1 with⟨rfl,e,hj⟩|⟨_,e,e'⟩;·rw[vE hj]at h2;cases h2;exact if_pos rfl
   ·rw[e']at h2;obtain⟨l2,vs2,q1,q2,_⟩:=s.own j es e;rw[h2]at q1;cases q1;exact(if_neg (nl q2)).trans (o1 j es l' e h2)
  ·rcases get j _ h1 with⟨_,e,_⟩|⟨_,e,e'⟩;·cases e
   ·rw[e'];refine⟨(o2 j m C p fs e).1,(o2 j m C p fs e).2.keep ⟨λa t o _ q=>?_,.refl _,λa t o _ _ n=>n,λa t o q1 q2=>?_,λa o _ _ n=>n⟩⟩;·rw[aM (nl q)];exact q
    ·exact(if_neg (nl q2)).trans q1
 refine⟨⟨sub,by simp[s.e.len],λj d' h=>?_,ob.rd⟩,s.sub0,⟨sub,s.up.gg,λa o e=>?_,s.up.fr⟩,λj es h=>?_,λj k es fs l' h1 h2 h3 h4=>?_,ob⟩
 ·rcases get j _ h with⟨_,e,_⟩|⟨_,e,e'⟩;·cases e
  ·rw[e'];exact s.e.val j d' e
 ·rw[aM (aF (s.up.hh a o e) hl)];exact s.up.hh a o e
 ·rcases get j _ h with⟨rfl,e,hj⟩|⟨_,e,e'⟩;·cases e;exact⟨l,vs,vE hj,aY,gl,s.up.hh.free hl,r⟩
  ·obtain⟨l',vs',h1,h2,h3,h4,h5⟩:=s.own j es e;exact⟨l',vs',by rw[e'];exact h1,by rw[aM (aF h2 hl)];exact h2,h3,h4,h5⟩
 ·rcases get j _ h1 with⟨rfl,e,hj⟩|⟨nj,e,e'⟩
  ·rcases get k _ h2 with⟨rfl,f,_⟩|⟨nk,f,f'⟩;·rfl
   ·obtain⟨l2,vs2,q1,q2,_⟩:=s.own k fs f;rw[vE hj]at h3;rw[f',q1]at h4;cases h3;cases h4;rw[hl]at q2;cases q2
  ·rcases get k _ h2 with⟨rfl,f,hk⟩|⟨nk,f,f'⟩;·obtain⟨l2,vs2,q1,q2,_⟩:=s.own j es e;rw[vE hk]at h4;rw[e',q1]at h3;cases h3;cases h4;rw[hl]at q2;cases q2
   ·exact s.inj j k es fs l' e f (e'▸h3) (f'▸h4)
def Da(i:Nat)(hN:X.N.Nodup)(he:PFL X e gl)(hi:X.N[i]?=some x:=by rfl)(hx:Loc X.env.scope x:=by first|exact Or.inl rfl|exact Or.inr rfl)(hs:swapsWithSole [.Name x p] e pos.line X.env=pure false:=by rfl)(hw:swappedStores [.Name x p] e X.env=pure none:=by rfl)(hf:X.fn x=true\/X.env.scope.names.lookup x=some .local:=by first|exact .inl rfl|exact .inr rfl):
  PSF X (.Assign [.Name x p] e pos) (λρ=>(gl ρ).out ρ λds=>.nx (ρ.set i (some (.own ds)))):=λG₀ H₀ pins s σ H D I h=>by
 refine oy he (lU hN hi hx hf) hs hw rfl pins s σ H D I ?_;obtain⟨G,ρ,sr,h⟩:=h
 try dsimp only at h
 refine⟨G,ρ,sr.e,?_⟩;cases q:gl ρ with
 |ok ds=>rw[q]at h;exact λl vs G' H' u hl r=>h _ G' _ ((sr.ups u).setOwn hl r i)
 |ex C=>rw[q]at h;exact Exx.of sr h
 |no=>rw[q]at h;exact h
def StR.mut{K:PySem.W.Frag}{H₀:Hp}(s:StR K G₀ H₀ G H σ ρ){l:Addr}{es:List D}(e:ρ[i]?=some (some (.own ds)))(hs:σ[i]?=some (some (.ref l)))(r:Reps K G vs es):
  StR K G₀ H₀ G (upd H l (.lst vs)) σ (ρ.set i (some (.own es))):=by
 obtain⟨l0,vs0,h1,h2,h3,h4,h5⟩:=s.own i ds e;rw[hs]at h1;cases h1;have sub:Same G (upd H l (.lst vs)):=λa o e=>by rw[aM (aF e h3)];exact s.e.sub a o e
 have hl:=(vc.mp e).1;have get:∀(j:Nat) x,(ρ.set i (some (.own es)))[j]?=some (some x)->(j=i/\x=.own es)\/(j≠i/\ρ[j]?=some (some x)):=λj x h=>by
  by_cases e:i=j;·subst e;rw[vE hl]at h;exact .inl ⟨rfl,by injection (wq h)with q;exact q.symm⟩
  ·rw[uA e]at h;exact .inr ⟨λz=>e z.symm,h⟩
 have ob:ObSt K H₀ G (upd H l (.lst vs)) σ (ρ.set i (some (.own es))):=by
  obtain⟨ow,o1,o2⟩:=s.ob;have ol:=o1 i ds l e hs;refine⟨ow,λj fs l' q1 q2=>?_,λj m C p fs q1=>?_⟩
  ·rcases get j _ q1 with⟨rfl,_⟩|⟨nj,f1⟩;·exact o1 j ds l' e q2
   ·exact o1 j fs l' f1 q2
  ·rcases get j _ q1 with⟨_,e'⟩|⟨nj,f1⟩;·cases e'
   ·have ne:∀a t,ow a=some (j,t)->a≠l:=λa t q z=>by rw[z,ol]at q;cases q;exact nj rfl
    refine⟨(o2 j m C p fs f1).1,(o2 j m C p fs f1).2.keep ⟨λa t o q1 q=>?_,.refl _,λa t o _ _ n=>n,λa t o q1 _=>q1,λa o _ _ n=>n⟩⟩;·rw[aM (ne a t q1)];exact q
 refine⟨⟨sub,by simp[s.e.len],λj d' h=>?_,ob.rd⟩,s.sub0,⟨sub,s.up.gg,λa o e=>?_,s.up.fr⟩,λj fs h=>?_,λj k fs gs l' q1 q2 q3 q4=>?_,ob⟩
 ·rcases get j _ h with⟨_,e⟩|⟨_,e⟩;·cases e
  ·exact s.e.val j d' e
 ·rw[aM (aF e h4)];exact s.up.hh a o e
 ·rcases get j _ h with⟨rfl,e'⟩|⟨nj,e'⟩;·cases e';exact⟨l,vs,hs,aY,h3,h4,r⟩
  ·obtain⟨l',vs',p1,p2,p3,p4,p5⟩:=s.own j fs e';have:l'≠l:=λz=>by subst z;exact nj (s.inj j i fs ds l' e' e p1 hs)
   exact⟨l',vs',p1,by rw[aM this];exact p2,p3,p4,p5⟩
 ·rcases get j _ q1 with⟨rfl,_⟩|⟨nj,f1⟩
  ·rcases get k _ q2 with⟨rfl,_⟩|⟨nk,f2⟩;·rfl
   ·exact s.inj j k ds gs l' e f2 q3 q4
  ·rcases get k _ q2 with⟨rfl,_⟩|⟨nk,f2⟩;·exact s.inj j k fs ds l' f1 e q3 q4
   ·exact s.inj j k fs gs l' f1 f2 q3 q4
noncomputable def frz(i:Nat)(ρ:Ev):Ev:=match ρ[i]? with
 |some (some (.own ds))=>ρ.set i (some (.val (.lst false ds)))
 |_=>ρ
def StR.frzTo{K:PySem.W.Frag}{H₀:Hp}(s:StR K G₀ H₀ G H σ ρ)(i:Nat):∃G',StR K G₀ H₀ G' H σ (L2.frz i ρ)/\(G'=G\/∃l vs,G l=none/\G'=upd G l (.lst vs)):=by
 unfold L2.frz;split
 ·rename_i ds e;obtain⟨l,vs,h1,h2,h3,h4,h5⟩:=s.own i ds e;have hl:=(vc.mp e).1;have into:Same G (upd G l (.lst vs)):=.into h3;have sub:Same (upd G l (.lst vs)) H:=λa o q=>by
   by_cases ea:a=l;·subst ea;rw[aY]at q;rw[<- q];exact h2
   ·rw[aM ea]at q;exact s.e.sub a o q
  have get:∀(j:Nat) x,(ρ.set i (some (.val (.lst false ds))))[j]?=some (some x)->(j=i/\x=.val (.lst false ds))\/(j≠i/\ρ[j]?=some (some x)):=λj x h=>by
   by_cases e:i=j;·subst e;rw[vE hl]at h;exact .inl ⟨rfl,by injection (wq h)with q;exact q.symm⟩
   ·rw[uA e]at h;exact .inr ⟨λz=>e z.symm,h⟩
  have ob:ObSt K H₀ (upd G l (.lst vs)) H σ (ρ.set i (some (.val (.lst false ds)))):=by
   obtain⟨ow,o1,o2⟩:=s.ob;have ol:=o1 i ds l e h1;refine⟨ow,λj fs l' q1 q2=>?_,λj m C p fs q1=>?_⟩
   ·rcases get j _ q1 with⟨_,e'⟩|⟨nj,f1⟩;·cases e'
    ·exact o1 j fs l' f1 q2
   ·rcases get j _ q1 with⟨_,e'⟩|⟨nj,f1⟩;·cases e'
    ·have ne:∀a t,ow a=some (j,t)->a≠l:=λa t q z=>by rw[z,ol]at q;cases q;exact nj rfl
     refine⟨(o2 j m C p fs f1).1,(o2 j m C p fs f1).2.keep ⟨λa t o _ q=>q,into,λa t o q1 _ n=>?_,λa t o q1 _=>q1,λa o _ _ n=>n⟩⟩;·rw[aM (ne a t q1)];exact n
  refine⟨upd G l (.lst vs),⟨⟨sub,by simp[s.e.len],λj d' h=>?_,ob.rd⟩,s.sub0,⟨sub,s.up.gg.trans into,s.up.hh,λa o q=>?_⟩,λj fs h=>?_,λj k fs gs l' q1 q2 q3 q4=>?_,ob⟩,.inr ⟨l,vs,h3,rfl⟩⟩
  ·rcases get j _ h with⟨rfl,e'⟩|⟨_,e'⟩;·cases e';exact⟨.ref l,h1,.lst aY (h5.mono into)⟩
   ·obtain⟨v,p1,p2⟩:=s.e.val j d' e';exact⟨v,p1,p2.mono into⟩
  ·by_cases ea:a=l;·subst ea;exact .inr h4
   ·rw[aM ea]at q;exact s.up.fr a o q
  ·rcases get j _ h with⟨_,e'⟩|⟨nj,e'⟩;·cases e'
   ·obtain⟨l',vs',p1,p2,p3,p4,p5⟩:=s.own j fs e';have:l'≠l:=λz=>by subst z;exact nj (s.inj j i fs ds l' e' e p1 h1)
    exact⟨l',vs',p1,p2,by rw[aM this];exact p3,p4,p5.mono into⟩
  ·rcases get j _ q1 with⟨_,e'⟩|⟨nj,f1⟩;·cases e'
   ·rcases get k _ q2 with⟨_,e'⟩|⟨nk,f2⟩;·cases e'
    ·exact s.inj j k fs gs l' f1 f2 q3 q4
 ·exact⟨G,s,.inl rfl⟩
def StR.frz{K:PySem.W.Frag}{H₀:Hp}(s:StR K G₀ H₀ G H σ ρ)(i:Nat):∃G',StR K G₀ H₀ G' H σ (L2.frz i ρ):=
 let⟨G',h,_⟩:=s.frzTo i;⟨G',h⟩
def AQ{sts:List Stmt}(i:Nat)(h:mL X sts g):mL X sts (λρ=>g (frz i ρ)):=λG₀ H₀ pins s σ H D I q=>by obtain⟨G,ρ,sr,q⟩:=q;obtain⟨G',sr'⟩:=sr.frz i;exact h G₀ H₀ pins s σ H D I ⟨G',_,sr',q⟩
noncomputable def ownAt(ρ:Ev)(i:Nat):R (List D):=match ρ[i]? with
 |some (some (.own ds))=>.ok ds
 |_=>.no
def ownAt.ok{k:List D->O}{D:Ends}{H₀:Hp}(h:pT X G₀ H₀ D ((ownAt ρ i).out ρ k)):∃ds,ρ[i]?=some (some (.own ds))/\pT X G₀ H₀ D (k ds):=by
 unfold ownAt at h;split at h;·rename_i ds e;exact⟨ds,e,h⟩
 ·exact h.elim
def wB(i:Nat){ap cp:Pos}(he:PF X e ga)(hi:X.N[i]?=some x:=by rfl)(hv:Vis X.env.scope x:=by first|exact Or.inl rfl|exact Or.inr (Or.inl rfl))(hd:(x==("__debug__":Str))=false:=by decide)(hcd:(x==("__classdict__":Str))=false:=by decide)(hs1:starEach [e] X.env=(false,eval e X.env)::starEach [] X.env:=by rfl)(hbase:attributeBase (.Name x p) "append" X.env (eval (.Name x p) X.env)=eval (.Name x p) X.env:=by rfl)(hfew:((backTo cp (starEach [e] X.env)).all (λx=>!x.1) && (backToKw cp (keywordEach [] X.env)).all (λx=>x.1.isSome)
 && decide ([e].length+([]:List Keyword).length+(if ([]:List Keyword).isEmpty then 0 else 1)<30))=true:=by rfl)(hline:(ap.endLine==cp.line)=true:=by rfl)(hs:swapsWith (.Call (.Attribute (.Name x p) "append" ap) [e] [] cp) none pos.line X.env=pure false:=by rfl):
  PSF X (.Expr (.Call (.Attribute (.Name x p) "append" ap) [e] [] cp) pos) (λρ=>(ownAt ρ i).out ρ λds=>(ga ρ).out ρ λd=>if ds.length<sizeLine then .nx (ρ.set i (some (.own (ds++[d]))))else .no):=λG₀ H₀ pins s σ H D I h=>by
 refine nM (Dg b8 PySem.F.slot_list_append PySem.F.type_list_append uD (jm hi hv hd hcd) (eW he lx hs1) hbase hfew hline hs1 rfl) hs pins s σ H D I ?_;obtain⟨G,ρ,sr,h⟩:=h;obtain⟨ds,e1,h⟩:=ownAt.ok h;obtain⟨l,vs,h1,h2,h3,h4,h5⟩:=sr.own i ds e1;refine⟨.ref l,h1,.inl ⟨rfl,vs,.of h2⟩,G,ρ,sr.e,?_⟩;cases q:ga ρ with
 |ok d=>
  rw[q]at h;simp only[R.out]at h;intro v G' H' u r;by_cases hz:ds.length<sizeLine;·rw[if_pos hz]at h;refine⟨l,vs,v,rfl,rfl,u.hh _ _ h2,by rw[h5.length];exact hz,h _ G' _ ?_⟩;exact(sr.ups u).mut e1 h1 ((h5.mono u.gg).append (.cons r .nil))
  ·rw[if_neg hz]at h;exact h.elim
 |ex C=>rw[q]at h;exact Exx.of sr h
 |no=>rw[q]at h;exact h
def asL:D->R (List D)
 |.lst false xs=>.ok xs
 |_=>.no
def wN(i:Nat){ap cp:Pos}(he:PF X e ga)(hi:X.N[i]?=some x:=by rfl)(hv:Vis X.env.scope x:=by first|exact Or.inl rfl|exact Or.inr (Or.inl rfl))(hd:(x==("__debug__":Str))=false:=by decide)(hcd:(x==("__classdict__":Str))=false:=by decide)(hs1:starEach [e] X.env=(false,eval e X.env)::starEach [] X.env:=by rfl)(hbase:attributeBase (.Name x p) "extend" X.env (eval (.Name x p) X.env)=eval (.Name x p) X.env:=by rfl)(hfew:((backTo cp (starEach [e] X.env)).all (λx=>!x.1) && (backToKw cp (keywordEach [] X.env)).all (λx=>x.1.isSome)
 && decide ([e].length+([]:List Keyword).length+(if ([]:List Keyword).isEmpty then 0 else 1)<30))=true:=by rfl)(hline:(ap.endLine==cp.line)=true:=by rfl)(hs:swapsWith (.Call (.Attribute (.Name x p) "extend" ap) [e] [] cp) none pos.line X.env=pure false:=by rfl):
  PSF X (.Expr (.Call (.Attribute (.Name x p) "extend" ap) [e] [] cp) pos) (λρ=>(ownAt ρ i).out ρ λds=>(ga ρ).out ρ λd=>(asL d).out ρ λes=>if ds.length+es.length<=sizeLine then .nx (ρ.set i (some (.own (ds++es))))else .no):=λG₀ H₀ pins s σ H D I h=>by
 refine nM (Dg b8 PySem.F.slot_list_extend PySem.F.type_list_extend BA (jm hi hv hd hcd) (eW he lx hs1) hbase hfew hline hs1 rfl) hs pins s σ H D I ?_;obtain⟨G,ρ,sr,h⟩:=h;obtain⟨ds,e1,h⟩:=ownAt.ok h;obtain⟨l,vs,h1,h2,h3,h4,h5⟩:=sr.own i ds e1;refine⟨.ref l,h1,.inl ⟨rfl,vs,.of h2⟩,G,ρ,sr.e,?_⟩;cases q:ga ρ with
 |ok d=>
  rw[q]at h;intro v G' H' u r;cases r with
  |lst hb t=>
   rename_i b ws es;have h:pT X G₀ H₀ D (if ds.length+es.length<=sizeLine then .nx (ρ.set i (some (.own (ds++es))))else .no):=h;by_cases hz:ds.length+es.length<=sizeLine;·rw[if_pos hz]at h;refine⟨l,b,vs,ws,rfl,rfl,u.hh _ _ h2,u.sub _ _ hb,by rw[h5.length,t.length];exact hz,h _ G' _ ?_⟩;exact(sr.ups u).mut e1 h1 ((h5.mono u.gg).append t)
   ·rw[if_neg hz]at h;exact h.elim
  |_=>exact h.elim
 |ex C=>rw[q]at h;exact Exx.of sr h
 |no=>rw[q]at h;exact h
noncomputable def cO(asg:D->Ev->R Ev)(g:Ev->O):List D->Ev->O
 | [],ρ=>.nx ρ
 |d::ds,ρ=>(asg d ρ).out ρ λρ1=>match g ρ1 with
  |.nx ρ2=>cO asg g ds ρ2
  |.ct ρ2=>cO asg g ds ρ2
  |.bk ρ2=>.nx ρ2
  |.rt d=>.rt d
  |.re d ρ2=>.re d ρ2
  |.ex C ρ2=>.ex C ρ2
  |.no=>.no
noncomputable def mix(H₀ G₁:Hp):Hp:=λa=>match G₁ a with
 |some o=>some o
 |none=>H₀ a
def rG{H₀ G₁:Hp}{a:Addr}(h:mix H₀ G₁ a=none):G₁ a=none/\H₀ a=none:=by
 unfold mix at h;cases q:G₁ a with
 |none=>rw[q]at h;exact⟨rfl,h⟩
 |some o=>rw[q]at h;cases h
section
variable{K:PySem.W.Frag}{H₀ G₁ H₁:Hp}
def StR.to(s:StR K G₀ H₀ G₁ H₁ σ ρ):StR K G₁ (mix H₀ G₁) G₁ H₁ σ ρ:=by
 refine⟨s.e,λa o e=>?_,⟨s.e.sub,.refl _,λa o e=>?_,λ_ _ e=>.inl e⟩,λi ds e=>?_,s.inj,?_⟩;·unfold mix;rw[e]
 ·unfold mix at e;cases q:G₁ a with
  |none=>rw[q]at e;exact s.up.hh a o e
  |some o'=>rw[q]at e;cases e;exact s.e.sub a o q
 ·obtain⟨l,vs,h1,h2,h3,h4,h5⟩:=s.own i ds e;exact⟨l,vs,h1,h2,h3,by unfold mix;rw[h3];exact h4,h5⟩
 ·obtain⟨ow,o1,o2⟩:=s.ob;exact⟨ow,o1,λi m C p fs e=>⟨(o2 i m C p fs e).1,(o2 i m C p fs e).2.keep ⟨λa t o _ q=>q,.refl _,λa t o _ _ n=>n,λa t o q1 _=>q1,λa o _ g n=>by unfold mix;rw[g];exact n⟩⟩⟩
def Up.back(u:Up G₀ H₀ G₁ H₁)(v:Up G₁ (mix H₀ G₁) G H):Up G₀ H₀ G H:=by
 refine⟨v.sub,u.gg.trans v.gg,λa o e=>?_,λa o e=>?_⟩
 ·cases q:G₁ a with
  |none=>exact v.hh a o (by unfold mix;rw[q];exact e)
  |some o'=>have h1:=u.sub a o' q;have h2:=u.hh a o e;rw[h1]at h2;cases h2;exact v.hh a o (by unfold mix;rw[q])
 ·rcases v.fr a o e with h|h;·exact u.fr a o h
  ·exact .inr (rG h).2
def StR.back(s0:Same G₀ H₀)(u:Up G₀ H₀ G₁ H₁)(s:StR K G₁ (mix H₀ G₁) G H σ ρ):StR K G₀ H₀ G H σ ρ:=
 ⟨s.e,s0,u.back s.up,λi ds e=>let⟨l,vs,h1,h2,h3,h4,h5⟩:=s.own i ds e;⟨l,vs,h1,h2,h3,(rG h4).2,h5⟩,s.inj,by
 obtain⟨ow,o1,o2⟩:=s.ob;exact⟨ow,o1,λi m C p fs e=>⟨(o2 i m C p fs e).1,(o2 i m C p fs e).2.keep ⟨λa t o _ q=>q,.refl _,λa t o _ _ n=>n,λa t o q1 _=>q1,λa o _ _ n=>(rG n).2⟩⟩⟩⟩
end
def DT(hp:PassesOwn (model X.prog X.w) X.A X.env X.xe)(hcalm:X.calm=true)(hi:PIF X tg iter gi)(hg:PGF X tg asg)(hb:mL X body g)(hs:∀x,foldedSetIterable iter X.env x=pure x:=by intro _;rfl)(hn:∀d ρ C,asg d ρ≠.ex C:=by intro _ _ _ z;cases z):PSF X (.For tg iter body [] pos) (λρ=>(gi ρ).out ρ λitems=>cO asg g items ρ):=λG₀ H₀ pins s σ H D I h=>by
 obtain⟨G,ρ,sr,h⟩:=h
 try dsimp only at h
 cases q:gi ρ with
 |ok items=>
  rw[q]at h;simp only[R.out]at h;have key:∀(J:It)(G1 H1:Hp),Up G H G1 H1->ItOk X.K G1 J items->∃W:Nat->Nat->St->Hp->Prop,(∃m,W 0 m σ H1)/\∀i m σ H,W i m σ H->
    (J.stop i H/\D.nx σ H)\/(J.go i H/\∃N:St->Hp->Prop,(∀σ' H',N σ' H'->∃m',m'<m/\W (i+1) m' σ' H')/\∀x H',J.yld i H x H'->(λv σ H Q=>∃G₀ H₀ G ρ d ρ',StR X.K G₀ H₀ G H σ ρ/\Rep X.K G v d/\asg d ρ=.ok ρ'/\∀σ',StR X.K G₀ H₀ G H σ' ρ'->Q σ' H) x σ H' λσ2 H2=>(λD σ H=>∃G₀ H₀,tS X G₀ H₀ g D σ H) { D with nx:=N,ct:=N,bk:=D.nx } σ2 H2):=by
   intro J G1 H1 u1 iok;have sr1:=sr.ups u1;refine⟨λi m σ' H'=>m=items.length - i/\i<=items.length/\∃G' ρ',StR X.K G1 (mix H₀ G1) G' H' σ' ρ'/\pT X G₀ H₀ D (cO asg g (items.drop i) ρ'),⟨items.length,by simp,wA _,G1,ρ,sr1.to,by simpa using h⟩,?_⟩;rintro i m σ' H' ⟨rfl,hil,G',ρ',sr',h'⟩;have hIt:=iok i G' H' sr'.up.gg sr'.e.sub;by_cases hlt:i<items.length
   ·have hd:=b7 hlt;rw[hd]at h';obtain⟨go,yl⟩:=hIt.1 items[i] (by simp[hlt]);refine .inr ⟨go,λσ2 H2=>i+1<=items.length/\∃G2 ρ2,StR X.K G1 (mix H₀ G1) G2 H2 σ2 ρ2/\pT X G₀ H₀ D (cO asg g (items.drop (i+1)) ρ2),λσ2 H2 q2=>⟨items.length - (i+1),by omega,rfl,q2⟩,λx H2 y=>?_⟩;obtain⟨G2,up2,rep2⟩:=yl x H2 y;unfold cO at h';cases q2:asg items[i] ρ' with
    |ok ρ1=>
     rw[q2]at h';simp only[R.out]at h';refine⟨G1,mix H₀ G1,G2,ρ',items[i],ρ1,sr'.ups up2,rep2,q2,λσ3 sr3=>⟨G1,mix H₀ G1,G2,ρ1,sr3,?_⟩⟩;cases q3:g ρ1 with
     |nx ρ2=>rw[q3]at h';exact λσ4 G4 H4 sr4=>⟨hlt,G4,ρ2,sr4,h'⟩
     |ct ρ2=>rw[q3]at h';exact λσ4 G4 H4 sr4=>⟨hlt,G4,ρ2,sr4,h'⟩
     |bk ρ2=>rw[q3]at h';exact λσ4 G4 H4 sr4=>h' σ4 G4 H4 (sr4.back sr.sub0 sr1.up)
     |rt d=>rw[q3]at h';exact λv G4 H4 u4 r4=>h' v G4 H4 (sr1.up.back u4) r4
     |re d ρ2=>rw[q3]at h';exact λv σ4 G4 H4 sr4 r4=>h' v σ4 G4 H4 (sr4.back sr.sub0 sr1.up) r4
     |ex C ρ2=>rw[q3]at h';exact λe s' f4=>h' e s' (f4.map λσ4 G4 H4 sr4=>sr4.back sr.sub0 sr1.up)
     |no=>rw[q3]at h';exact h'
    |ex C=>exact absurd q2 (hn _ _ C)
    |no=>rw[q2]at h';exact h'.elim
   ·have hie:i=items.length:=by omega
    subst hie;rw[Zi]at h';exact .inl ⟨hIt.2 (z9 _),h' σ' G' H' (sr'.back sr.sub0 sr1.up)⟩
  have hb':PSs X body (λD σ H=>∃G₀ H₀,tS X G₀ H₀ g D σ H):=λpins s σ H D I ⟨G₀,H₀,q⟩=>hb G₀ H₀ pins s σ H D I q;refine E9 hp hcalm hi hg hb' hs pins s σ H D I ⟨G,ρ,sr.e,?_⟩;rw[q];exact λJ G1 H1 u1 iok=>key J G1 H1 u1 iok
 |ex C=>rw[q]at h;have hb':PSs X body (λD σ H=>∃G₀ H₀,tS X G₀ H₀ g D σ H):=λpins s σ H D I ⟨G₀,H₀,q⟩=>hb G₀ H₀ pins s σ H D I q;refine E9 hp hcalm hi hg hb' hs pins s σ H D I ⟨G,ρ,sr.e,?_⟩;rw[q];exact Exx.of sr h
 |no=>rw[q]at h;exact h.elim
end
noncomputable def spF(K:PySem.W.Frag)(f:List D->R D):Sp:=λvs H Q E=>∃G ds,Same G H/\Reps K G vs ds/\(f ds).post (Fin G H (Rep K) Q) (λC=>∀G' H',Up G H G' H'->E (.ref C) none H')
noncomputable abbrev FnF(P:Program)(w:World)(K:PySem.W.Frag)(mg:Str->Option Value)(base:Heap)(k:Nat)(f:Addr)(fd:FuncData)(ps:List Str)(g:List D->R D):Prop:=FnOk P w K mg base (CXo P w) k f fd ps (λvs H Q E=>vs.length=ps.length/\spF K g vs H Q E)
section
variable{e:Expr}
def Ho(F:FnF X.prog X.w X.K X.mg X.base k f fd ps g)(hr:Room k X.A)(hg:Gl X x)(hm:X.mg x=some (.ref f))(hk:PySem.W.keepIn X.K (.ref f)=true)(hb:Binds X.K fd ps [])(ha:PFA X (e::es) gl)(hdb:(x==("__debug__":Str))=false:=by decide)(he:starEach (e::es) X.env=(false,eval e X.env)::starEach es X.env:=by rfl)(hpl:(backTo pos (starEach es X.env)).any (·.1)=false:=by rfl):
  PF X (.Call (.Name x p) (e::es) [] pos) (λρ=>gl ρ>>=λds=>if ds.length=ps.length then g ds else .no):=by
 intro pins s σ H Q I h;obtain⟨G,ρ,st,h⟩:=h;have t:tAF X gl σ H (λvs H1=>∃G1 ds,Up G H G1 H1/\Same G1 H1/\Reps X.K G1 vs ds/\ds.length=ps.length/\(g ds).post (Fin G1 H1 (Rep X.K) Q) (Exx X σ G1 H1)):=by
  refine tG.intro st h λds vs G1 H1 u1 st1 r1 h1=>?_;by_cases hl:ds.length=ps.length;·rw[if_pos hl]at h1;exact⟨G1,ds,u1,st1.sub,r1,hl,h1⟩
  ·rw[if_neg hl]at h1;exact h1.elim
 refine iO (oJ I hg hm ?_ hdb);refine PySem.W.callWith_K I.ok.mod.kin hk (thn (ha pos pins s σ H _ I t) λus s1 q=>⟨?_,?_⟩) he hpl;·obtain⟨vs,H1,I1,r,_⟩:=q;exact I1.kIn
 obtain⟨vs,H1,I1,r,G1,ds,u1,sub1,rp,hl,h1⟩:=q;have hvl:vs.length=ps.length:=by rw[rp.length];exact hl
 have hul:(us++[]).length=ps.length:=by rw[t8,<- r.length];exact hvl
 have hbb:=hb s1 us I1.kIn hul;rw[t8]at hbb;refine b9 (d8 (F.run X.A X.stack s1 H1 ⟨us,[]⟩ us vs Q (λc _ H'=>∃C G',c=.ref C/\Up G1 H1 G' H'/\Exx X σ G1 H1 C) hr I1.env0 hbb r ⟨hvl,G1,ds,sub1,rp,h1.mono (λ_ q=>q) λC q G' H' u=>⟨C,G',rfl,u,q⟩⟩) λr' s' hq=>?_);cases r' with
 |error e'=>obtain⟨a,C,H',rfl,fl,C',G',ec,u,q⟩:=hq;cases ec;exact q _ _ ⟨G1,H1,.refl sub1,pins,s1,a,rfl,I1,.inr (.inl ⟨G',H',fl,u⟩)⟩
 |ok fl=>
  cases fl with
  |ret u=>exact I1.after hq
  |_=>exact False.elim hq
end
def ObjOk.there{w:World}{o:HO}(x:ObjOk P w H h a o):∃ob,h.get? a=some ob:=by
 cases o with
 |lst xs=>obtain⟨_,_,_,_,e⟩:=x;exact⟨_,e⟩
 |tup xs=>obtain⟨_,_,_,o,e,_⟩:=x;exact⟨_,e⟩
 |dK kvs=>obtain⟨_,_,_,_,o,_,_,e,_⟩:=x;exact⟨_,e⟩
 |dT kvs=>obtain⟨_,_,_,_,o,_,_,e,_⟩:=x;exact⟨_,e⟩
 |set S n=>obtain⟨o,_,_,_,e,_⟩:=x;exact⟨_,e⟩
 |ins C dx fs=>obtain⟨_,_,_,e,_⟩:=x;exact⟨_,e⟩
 |own y=>obtain⟨_,e⟩:=x;exact⟨_,e⟩
 |xd fs=>obtain⟨_,⟨_,_,_,e,_⟩,_⟩:=x;exact⟨_,e⟩
 |rng lo hi=>obtain⟨_,_,_,e⟩:=x;exact⟨_,e⟩
 |frz ob u=>obtain⟨e,_⟩:=x;exact⟨_,e⟩
 |tbl ps=>obtain⟨_,e,_⟩:=x;exact⟨_,e⟩
 |met f y=>exact⟨_,show h.get? a=some _ from x⟩
 |ext φ=>obtain⟨_,⟨_,e⟩,_⟩:=x;exact⟨_,e⟩
def xz{env:Env}{outer:List Env}{L:Addr}(h:env.frame=some L):frs (env::outer)=L::frs outer:=by unfold frs;rw[Y8,h]
section
variable{w:World}{h1 h2 hm:Heap}{l l':List Addr}{B:Heap}
def HOk.flight(x:HOk P w H' h1)(hb:B.StaysIn h2)(hk:∀b o,b∉l->((∃o0,hm.get? b=some o0)\/∃u,H' b=some u)->h1.get? b=some o->B.get? b=some o)(hl:∀b∈l,H' b=none):HOk P w H' h2:=λa o e=>by
 refine(x a o e).stay (λb u hbb q=>hb b u (hk b u (λz=>?_) (.inr ?_) q)) (λ_ z=>z) (λ_ _ z=>z)
 ·rcases hbb with rfl|hbb;·rw[hl _ z]at e;cases e
  ·rw[hl _ z]at hbb;cases hbb
 ·rcases hbb with rfl|hbb;·exact⟨_,e⟩
  ·exact⟨_,hbb⟩
def Un.flight{ex:List Addr}(u:Un l' ex H H' h h1)(hb:B.StaysIn h2)(sm:h1.UpToSlots h2)(hk:∀b o,b∉l->((∃o0,hm.get? b=some o0)\/∃u,H' b=some u)->h1.get? b=some o->B.get? b=some o)(lt:∀b o,h.get? b=some o->∃o0,hm.get? b=some o0)(hl:∀b∈l,b∈l'\/h.objs.size<=b)(hd:∀b∈l,∀o,h1.get? b=some o->∀vs,o.data≠.fields vs):Un l' ex H H' h h2:=by
 refine⟨λb o e nn hb' hx=>?_,λb o e nn hb' hx=>?_,u.free,λb o e hx=>?_,u.tups,u.frzs,u.tbls⟩
 ·have q:=u.keep b o e nn hb' hx;refine hb b o (hk b o (λz=>?_) (.inl (lt b o e)) q);rcases hl b z with z|z;·exact hb' z
  ·exact absurd (w5 e) (mP.mpr z)
 ·obtain⟨sl,q⟩:=u.slot b o e nn hb' hx;by_cases z:b∈l;·obtain⟨sl',q'⟩:=sm b _ q (hd b z _ q);exact⟨sl',q'⟩
  ·exact⟨sl,hb b _ (hk b _ z (.inl (lt b o e)) q)⟩
 ·obtain⟨o',q⟩:=u.there b o e hx;by_cases z:b∈l;·obtain⟨sl',q'⟩:=sm b _ q (hd b z _ q);exact⟨_,q'⟩
  ·exact⟨o',hb b _ (hk b _ z (.inl (lt b o e)) q)⟩
end
def FunFrames.data{base:Heap}:∀{l:List Env},h.FunFrames base l->∀b∈frs l,∃o,h.get? b=some o/\(∀vs,o.data≠.fields vs)/\base.get? b=none:=λ{l} hf b hb=>by obtain⟨h1,o,h2,h3⟩:=hf.mem hb;exact⟨o,h2,h3,h1⟩
noncomputable def gCx(P:Program)(w:World)(K:PySem.W.Frag)(mg:Str->Option Value)(base:Heap)(N:List Str)(env:Env)(fn:Str->Bool)(A:Around)(outer:List Env)(s:Shared)(H:Hp)(E:XK):Cx where
 prog:=P
 w:=w
 K:=K
 mg:=mg
 base:=base
 A:=A.deeper env
 N:=N
 s₀:=s
 H₀:=H
 env:=env
 outer:=outer
 stack:=env::outer
 ex:=[]
 calm:=true
 fn:=fn
 pn:=[]
 xe:=λe s'=>wpAny (model P w) (A.deeper env) (leaving env e) (λ_ s''=>CXo P w outer H s E e s'') (λe' s''=>CXo P w outer H s E e' s'') s'
def FQ{w:World}{K:PySem.W.Frag}{mg:Str->Option Value}{base:Heap}{N:List Str}{env:Env}{fn:Str->Bool}{A:Around}{outer:List Env}{E:XK}{e:Value}(hloc:env.locals=s.heap.objs.size)(hf:env.frame=some s.heap.objs.size)(fl:FlyS (gCx P w K mg base N env fn A outer s H E) G H ρ C e s')(hE:∀G' H',Up G H G' H'->E (.ref C) none H'):(gCx P w K mg base N env fn A outer s H E).xe e s':=by
 obtain⟨σ,H₁,pins,s₁,a,rfl,I,way⟩:=fl;have hfr:=I.ok.frames;have hst:frs (env::outer)=s.heap.objs.size::frs outer:=xz hf;have old:∀b o,s.heap.get? b=some o->∃o0,s₁.heap.get? b=some o0:=λb o e=>I.base.there b o e (by show b∉([]:List Addr);simp);have fin:∀{H':Hp}{G':Hp}{s':Shared}{h'' B:Heap}{a0:Value},Inv (gCx P w K mg base N env fn A outer s H E) pins σ H' s'->StR K G H G' H' σ ρ->H' a=none->Heap.FlyingW B outer a (.ref C) a0 h''->s'.heap.UpToSlots h''->
   (∀b o,b∉s.heap.objs.size::frs outer->((∃o0,s₁.heap.get? b=some o0)\/∃u,H' b=some u)->s'.heap.get? b=some o->B.get? b=some o)->CXo P w outer H s E (.ref a) { s' with heap:=h'' }:=by
  intro H' G' s' h'' B a0 J up ha fl sm hk;have J0:H' s.heap.objs.size=none:=by have q:H' env.locals=none:=J.free;rw[hloc]at q;exact q
  have fr0:∀b∈frs outer,H' b=none:=λb hb=>J.stkFree b (by show b∈frs (env::outer);rw[hst];exact zF _ hb);have frA:∀b∈s.heap.objs.size::frs outer,H' b=none:=λb hb=>by
   rcases zL.mp hb with rfl|hb;·exact J0
   ·exact fr0 b hb
  have dat:∀b∈s.heap.objs.size::frs outer,∀o,s'.heap.get? b=some o->∀vs,o.data≠.fields vs:=λb hb o e=>by obtain⟨o',e',d',_⟩:=FunFrames.data J.stack b (by show b∈frs (env::outer);rw[hst];exact hb);rw[e]at e';cases e';exact d'
  have hok:=J.hok.flight fl.1 hk frA;have un:=Un.flight J.base fl.1 sm hk old (λb hb=>(zL.mp hb).elim (λz=>.inr (by rw[z];exact z9 _)) .inl) dat;refine⟨a,C,H',rfl,⟨J.os,J.bare,un,hok,ha,B,a0,fl,λb o hb ho e=>?_⟩,hE G' H' up.up⟩;have nb:b∉s.heap.objs.size::frs outer:=λz=>by
   rcases zL.mp z with z|z
   ·rcases ho with⟨o0,ho⟩|⟨u,ho⟩;·rw[z]at ho;exact l6 _ (w5 ho)
    ·rw[z,J0]at ho;cases ho
   ·exact hb z
  have ho':=ho.imp (λ⟨o0,z⟩=>old b o0 z) id;have ex:∃o',s'.heap.get? b=some o':=by
   rcases ho with⟨o0,ho⟩|⟨u,ho⟩;·exact J.base.there b o0 ho (by show b∉([]:List Addr);simp)
   ·exact(J.hok b u ho).there
  obtain⟨o',e'⟩:=ex;have q:=hk b o' nb ho' e';have q2:=fl.1 b o' q;have e2:=e;rw[q2]at e2;cases e2;exact q
 rcases way with⟨G₁,h',vs,sr,made,rfl⟩|⟨G',H',⟨os,bare,un,hok,ha,B,a0,fl,hk⟩,up⟩|⟨G',H',L',hL,⟨os,bare,⟨ch,hch,un⟩,hok,ha,_,B,a0,fl,hk⟩,up⟩
 ·have J:Inv (gCx P w K mg base N env fn A outer s H E) pins σ H₁ { s₁ with heap:=h' }:=I.kept made.keeps;have hin:∀en∈(env::outer),∀b,en.frame=some b->b∈s.heap.objs.size::frs outer:=λen he b hb=>by rw[<- hst];exact l7.mpr ⟨en,he,hb⟩
  refine wpAny_leaves_madeW hfr hf (λb o q=>ZP _ q) (PySem.W.funFrames_hide I.stack hin) made λh'' t fl' _ _ sm=>?_;have ha:H₁ a=none:=by
   cases q:H₁ a with
   |none=>rfl
   |some u=>obtain⟨ob,e⟩:=(I.hok a u q).there;rw[made.new]at e;cases e
  refine fin J sr ha fl' sm λb o hb ho e=>?_;have e1:s₁.heap.get? b=some o:=by
   rcases ho with⟨o0,ho⟩|⟨u,ho⟩;·have q:=made.keeps b o0 ho;have e':=e;rw[q]at e';cases e';exact ho
   ·obtain⟨ob,ho⟩:=(I.hok b u ho).there;have q:=made.keeps b ob ho;have e':=e;rw[q]at e';cases e';exact ho
  exact PySem.W.hideAll_get _ e1 hb
 ·have J:=I.call' os un hok bare (λb z=>absurd z (by simp));exact wpAny_leaves_onW hfr hf fl λh'' fl' sm=>fin J up ha fl' sm λb o hb ho e=>hk b o (by show b∉frs (env::outer);rw[hst];exact hb) ho e
 ·have J:=I.call' os un hok bare hch;have eL:=wq (hf.symm.trans hL);rw[<- eL]at fl;refine z8 (wpAny_noteFrame_againW hf fl.2.2.2 (wpAny_landsW fl λh'' fl' sm=>?_));obtain⟨k1,k2,⟨_,_,k3⟩,k4⟩:=fl';exact fin J up ha ⟨k1,k2,k3,k4⟩ sm λb o hb ho e=>hk b o (by show b∉frs (env::outer);rw[hst];exact hb) ho e
def si{w:World}{K:PySem.W.Frag}{mg:Str->Option Value}{base:Heap}{N:List Str}{cd:Value}{A:Around}{outer:List Env}{E:XK}{e:Value}(fl:FlyS (gJ (CXo P w) P w K mg base N qual scope f cd A outer s H E) G H ρ C e s')(hE:∀G' H',Up G H G' H'->E (.ref C) none H'):(gJ (CXo P w) P w K mg base N qual scope f cd A outer s H E).xe e s':=
 FQ rfl rfl fl hE
noncomputable def ao(n:Nat)(ds:List D):Ev:=ds.map (λd=>some (.val d))++List.replicate (n - ds.length) none
noncomputable def ar(o:O):R D:=match o with
 |.rt d=>.ok d
 |.re d _=>.ok d
 |.nx _=>.ok .non
 |.ex C _=>.ex C
 |_=>.no
def yA{K:PySem.W.Frag}{N:List Str}(sub:Same G H)(r:Reps K G vs ds):StR K G H G H (start N vs) (ao N.length ds):=by
 have hl:=r.length;have get:∀(i:Nat) x,(ao N.length ds)[i]?=some (some x)->∃d,ds[i]?=some d/\x=.val d:=λi x e=>by
  unfold ao at e;by_cases hi:i<ds.length
  ·rw[t9 (by simpa using hi),v8]at e;cases q:ds[i]? with
   |none=>rw[q]at e;cases e
   |some d=>rw[q]at e;cases e;exact⟨d,rfl,rfl⟩
  ·rw[rg (by simpa using hi),l9]at e;split at e <;> cases e
 have no:NoOwn (ao N.length ds):=λi x e=>by obtain⟨d',_,q⟩:=get i _ e;exact⟨d',q⟩
 refine⟨⟨sub,by simp[start,ao,hl],λi d e=>?_,λi m C p fs e=>absurd e (no.obj i m C p fs)⟩,sub,.refl sub,λi es e=>?_,λi j es fs l e=>?_,no.ob⟩;·obtain⟨d',e',q⟩:=get i _ e;cases q;obtain⟨v,ev,rv⟩:=r.get e';refine⟨v,?_,rv⟩;unfold start;rw[t9 (by have:=(vc.mp ev).1;simpa using this),v8,ev];rfl
 ·obtain⟨d',_,q⟩:=get i _ e;cases q
 ·obtain⟨d',_,q⟩:=get i _ e;cases q
def Fun.okF{w:World}{K:PySem.W.Frag}{mg:Str->Option Value}{base:Heap}{N:List Str}(F:Fun K x qual st f fd)(S:FnScope N ps (am st)){g:Ev->O}(hbody:∀(cdv:Value)(A:Around)(outer:List Env)(s:Shared)(H:Hp)(E:XK),Room k (A.deeper (envOfC qual (am st) s.heap.objs.size f cdv))->mL (gJ (CXo P w) P w K mg base N qual (am st) f cdv A outer s H E) (db st) g):
  FnF P w K mg base (k+1) f fd ps (λds=>ar (g (ao N.length ds))):=by
 obtain⟨oc,od,kV,doc,pm,an,cdv,ct,osl,rfl,lk,hcd⟩:=F.ex;refine DV lk hcd S (λvs H Q E h=>h.1) λA outer s H vs Q E hr hsp=>?_;obtain⟨hl,G,ds,sub,r,h⟩:=hsp;refine⟨_,hbody cdv A outer s H E hr G H,G,ao N.length ds,yA sub r,?_⟩;dsimp only at h;cases q:g (ao N.length ds)with
 |nx ρ=>rw[q]at h;exact λσ G' H' sr=>h .non G' H' sr.up .non
 |rt d=>rw[q]at h;exact λv G' H' u rv=>h v G' H' u rv
 |re d ρ=>rw[q]at h;exact λv σ G' H' sr rv=>h v G' H' sr.up rv
 |bk ρ=>rw[q]at h;exact h.elim
 |ct ρ=>rw[q]at h;exact h.elim
 |ex C ρ=>rw[q]at h;exact λe s' fl=>si fl h
 |no=>rw[q]at h;exact h.elim
theorem pP:fillsNumberSlot (.type "tuple") "mul"=pure false:=
 PySem.fillsNumberSlot_seq F.slot_tuple_mul.lookup (by decide +kernel) F.slot_tuple_rmul.lookup (by decide +kernel)
def Hl:seqRepeat? (.type "tuple")=pure (some (.builtin "tuple.__mul__")):=by rfl
open Builtin in
def uH(a:Int)(t:Tok)(l:Addr)(items:Array Value)(n:Nat)(dd:Option Addr)(sl:Array (Option Value)):
  Meets (Builtin.«int.__rmul__» ⟨[.int a t,.ref l],[]⟩) (λ_ Rr s=>s.heap.get? l=some { cls:=.type "tuple",dict:=dd,data:=.seq items n,slots:=sl }/\Rr (.ok (.ret Value.notImplemented)) s):=
 .of_wp λprog w A Rr s h=>by obtain⟨hp,g,d,tk,os⟩:=s;obtain⟨hl,h⟩:=h;wp_walk;exact⟨_,rfl,h⟩
section
open Builtin AutoSeq1
variable(l:Addr)(items:Array Value)(n:Nat)(dd:Option Addr)(sl:Array (Option Value))(x:Int)(u:Tok)(h1:(decide (x < -(2 ^ 63)) || decide (x ≥ 2 ^ 63))=false)
include h1
def D5(hc:(items.isEmpty || x==1)=true):
  Meets (Builtin.«tuple.__mul__» ⟨[.ref l,.int x u],[]⟩) (λ_ Rr s=>s.heap.get? l=some { cls:=.type "tuple",dict:=dd,data:=.seq items n,slots:=sl }/\Rr (.ok (.ret (.ref l))) s):=
 .of_wp λprog w A Rr s h=>by
  obtain⟨hp,g,d,tk,os⟩:=s;obtain⟨hl,h⟩:=h;have f1:=idx_int
  wp_walk
  refine ZQ (by rw[h1];rfl) ?_;refine z8 (iT (show IsTup hp l items from⟨_,hl,rfl,n,rfl⟩) ?_);dsimp only;rw[if_pos hc];unfold Tuple.tupleIsExact;refine z8 (z8 (g0 ⟨_,hl,rfl⟩ (zc ?_)));rw[if_pos (by decide)];exact z8 (wpAny_rule (zc ⟨_,rfl,h⟩))
def DI(hc : ¬ (items.isEmpty || x==1)=true)(h2:(decide (x<=0) || items.isEmpty)=true):
  Meets (Builtin.«tuple.__mul__» ⟨[.ref l,.int x u],[]⟩) (λ_ Rr s=>s.heap.get? l=some { cls:=.type "tuple",dict:=dd,data:=.seq items n,slots:=sl }/\Rr (.ok (.ret (.ref s.heap.objs.size))) { s with heap:=s.heap.push { cls:=.type "tuple",data:=.seq #[] } }):=
 .of_wp λprog w A Rr s h=>by
  obtain⟨hp,g,d,tk,os⟩:=s;obtain⟨hl,h⟩:=h;have f1:=idx_int
  wp_walk
  refine ZQ (by rw[h1];rfl) ?_;refine z8 (iT (show IsTup hp l items from⟨_,hl,rfl,n,rfl⟩) ?_);dsimp only;rw[if_neg hc,if_pos h2];exact z8 (m:=Builtin.Tuple.tupleExact _) (oT (zc ⟨_,rfl,h⟩) (wA _))
def D6(hc : ¬ (items.isEmpty || x==1)=true)(h2 : ¬ (decide (x<=0) || items.isEmpty)=true)(hz:items.size * x.toNat<=sizeLine):
  Meets (Builtin.«tuple.__mul__» ⟨[.ref l,.int x u],[]⟩) (λ_ Rr s=>s.heap.get? l=some { cls:=.type "tuple",dict:=dd,data:=.seq items n,slots:=sl }/\
   Rr (.ok (.ret (.ref s.heap.objs.size))) { s with heap:=s.heap.push { cls:=.type "tuple",data:=.seq (List.foldl (λx1 x2=>x1++x2) #[] (List.replicate x.toNat items)) } }):=
 .of_wp λprog w A Rr s h=>by
  obtain⟨hp,g,d,tk,os⟩:=s;obtain⟨hl,h⟩:=h;have f1:=idx_int;have hx:0<x:=by
   cases q:decide (x<=0)with
   |true=>rw[q]at h2;exact absurd rfl h2
   |false=>exact Int.not_le.mp (of_decide_eq_false q)
  have ez:(items.size:Int) * x=((items.size * x.toNat:Nat):Int):=by rw[ZR,mY (Int.le_of_lt hx)]
  have hlim:(sizeLine:Nat)<=(2 ^ 63 - 1) / 8:=by decide
  have h3 : ¬ ((items.size:Int) * x > (2 ^ 63 - 1) / 8):=by
   rw[ez];have:((sizeLine:Nat):Int)<=(2 ^ 63 - 1) / 8:=by decide
   omega
  have h4 : ¬ (Tuple.tupleTooMany ((items.size:Int) * x)=true):=by unfold Tuple.tupleTooMany;rw[ez];intro q;have:=bY q;omega
  have hfz:(List.foldl (λx1 x2=>x1++x2) #[] (List.replicate x.toNat items)).size<=sizeLine:=by have e:=kZ items.toList x.toNat [];simp only[p8,Array.toArray_toList]at e;rw[e,w8,rN,lE,Z8];exact hz
  wp_walk
  refine ZQ (by rw[h1];rfl) ?_;refine z8 (iT (show IsTup hp l items from⟨_,hl,rfl,n,rfl⟩) ?_);dsimp only;rw[if_neg hc,if_neg h2,if_neg h3,if_neg h4];exact z8 (m:=Builtin.Tuple.tupleExact _) (oT (zc ⟨_,rfl,h⟩) hfz)
end
section
noncomputable def JE(K:PySem.W.Frag):R2:=λx y H Q=>∃l k xs,x=.ref l/\y=.int k/\SqT K H l xs/\-(2 ^ 63)<=k/\k<2 ^ 63/\xs.length * k.toNat<=sizeLine/\
 (xs=[]\/k=1->Q (.ref l) H)/\(xs≠[]->k≠1->∀p,H p=none->Q (.ref p) (upd H p (.tup (List.replicate k.toNat xs).flatten)))
theorem op_repT:OpR X (binaryOp .Mult) (JE X.K):=by
 intro pins s σ H x y v u Q I rx ry h;obtain⟨l,k,xs,rfl,rfl,hH,h1,h2,hz,q0,q1⟩:=h;cases rx;obtain⟨t,rfl⟩:=ry;obtain⟨its,r,p,hzz⟩:=I.tuple hH;obtain⟨⟨cls,dd,data,sl⟩,ho,hc,n,hd⟩:=id p;subst hc hd;have hlen:=r.length.symm;have hin:(decide (k < -(2 ^ 63)) || decide (k ≥ 2 ^ 63))=false:=by rw[v6 (by omega),v6 (by omega)];rfl
 have emp:its.toArray.isEmpty=decide (xs=[]):=by
  cases its with
  |nil=>cases r;rfl
  |cons a b=>cases r;rfl
 refine wpAny_binaryOp_repeat_ref (by decide) ⟨_,ho,rfl⟩ (λs'=>lW s' k t) pP F.fills_int_mul Z7 Hl F.slot_int_index.lookup
  (pR Z7 (lW s k t) F.entry_int_rmul (F.args_int_rmul_2 _ _) (uH k t l its.toArray n dd sl) ⟨ho,rfl,⟨_,ho,rfl⟩,?_⟩);by_cases hc:(its.toArray.isEmpty || k==1)=true;·refine pR ZS ⟨_,ho,rfl⟩ ZT (ZU _ _) (D5 l its.toArray n dd sl k t hin hc) ⟨ho,.ref l,H,I,rfl,q0 ?_⟩;rw[emp]at hc;simpa using hc
 ·have hne:xs≠[]/\k≠1:=by rw[emp]at hc;simpa using hc
  have fin:∀its',its'=(List.replicate k.toNat its).flatten->EP X pins σ Q (.ref s.heap.objs.size) { s with heap:=s.heap.push { cls:=.type "tuple",data:=.seq its'.toArray } }:=λits' e=>by subst e;refine⟨.ref s.heap.objs.size,_,I.laid (λb ob q=>w9 _ q) (z9 _) ?_,rfl,q1 hne.1 hne.2 _ I.fresh⟩;exact⟨by rw[rN,Z8];exact hz,_,r.rep k.toNat,lH _ _⟩
  by_cases h0:(decide (k<=0) || its.toArray.isEmpty)=true
  ·refine pR ZS ⟨_,ho,rfl⟩ ZT (ZU _ _) (DI l its.toArray n dd sl k t hin hc h0) ⟨ho,?_⟩;refine fin [] ?_;have:k<=0:=by rw[emp,v6 hne.1,eQ]at h0;exact bY h0
   rw[Int.toNat_of_nonpos this];rfl
  ·refine pR ZS ⟨_,ho,rfl⟩ ZT (ZU _ _) (D6 l its.toArray n dd sl k t hin hc h0 (by rw[w8,hlen];exact hz)) ⟨ho,?_⟩;have e:=kZ its k.toNat [];rw[e];exact fin _ rfl
def H8(x:Str)(n:Int):(Txt.mul x n).cps.toList=(List.replicate n.toNat x.cps.toList).flatten:=by
 unfold Txt.mul;by_cases h1:n<1;·rw[if_pos h1,Int.toNat_of_nonpos (by omega)];rfl
 ·rw[if_neg h1];by_cases h2:(n==1 || x.length==0)=true
  ·rw[if_pos h2];rcases Bool.or_eq_true_iff.mp h2 with h|h
   ·have:n=1:=by simpa using h
    subst this;simp
   ·have:x.cps.toList=[]:=Ye (by rw[Str.len_list];simpa using h);rw[this];simp
  ·rw[if_neg h2];have:∀(m:Nat)(acc:Array Nat),((List.replicate m x.cps).foldl (·++·) acc).toList=acc.toList++(List.replicate m x.cps.toList).flatten:=by
    intro m;induction m with
    |zero=>intro acc;simp
    |succ m ih=>intro acc;rw[mE,p7,ih,mE,j8];simp
   simpa using this n.toNat #[]
def op_mul_str:OpR X (binaryOp .Mult) (λx y H Q=>∃(i:Str)(k:Int),x=.str i/\y=.int k/\-(2 ^ 63)<=k/\k<2 ^ 63/\i.length * k.toNat<=sizeLine/\Q (.str (Txt.mul i k)) H):=by
 intro pins s σ H x y v u Q I rx ry h;obtain⟨i,k,rfl,rfl,h1,h2,hz,q⟩:=h;obtain⟨t,rfl⟩:=rx;obtain⟨t',rfl⟩:=ry;refine SB.mul ⟨by rw[v6 (by omega),v6 (by omega)];rfl,λh3 h4=>?_,λh3 h4=>?_⟩ λt'' n=>⟨.str _,H,I.tok _,⟨_,rfl⟩,q⟩
 ·have hk:0<k:=by omega
  intro h5;have h7:(((i.length * k.toNat:Nat)):Int)=(i.length:Int) * k:=by rw[ZR,mY (by omega)]
  have h8:((2 ^ 63 - 1) / k+1) * k<=(i.length:Int) * k:=Int.mul_le_mul_of_nonneg_right (by omega) (by omega);have h9:2 ^ 63 - 1<((2 ^ 63 - 1) / k+1) * k:=Int.lt_ediv_add_one_mul_self _ hk;have h10:((sizeLine:Nat):Int)<2 ^ 63 - 1:=by decide
  omega
 ·exact v6 (by omega)
noncomputable def fq:D->D->Option D
 |.int i,.int j=>if (-(2 ^ 64)<i/\i<2 ^ 64)\/(-(2 ^ 64)<j/\j<2 ^ 64)then some (.int (i * j))else none
 |.str x,.int k=>if -(2 ^ 63)<=k/\k<2 ^ 63/\x.length * k.toNat<=sizeLine then some (.str (List.replicate k.toNat x).flatten)else none
 |.tup xs,.int k=>if -(2 ^ 63)<=k/\k<2 ^ 63/\xs.length * k.toNat<=sizeLine then some (.tup (List.replicate k.toNat xs).flatten)else none
 |.lst false xs,.int k=>if -(2 ^ 63)<=k/\k<2 ^ 63/\xs.length * k.toNat<=sizeLine then some (.lst false (List.replicate k.toNat xs).flatten)else none
 |_,_=>none
noncomputable def KU(K:PySem.W.Frag):R2:=λx y H Q=>rI CMul (λi j=>.int (i * j)) x y H Q\/(∃(i:Str)(k:Int),x=.str i/\y=.int k/\-(2 ^ 63)<=k/\k<2 ^ 63/\i.length * k.toNat<=sizeLine/\Q (.str (Txt.mul i k)) H)\/JE K x y H Q\/OK x y H Q
def FS:OpR X (binaryOp .Mult) (KU X.K):=op_mul.or (op_mul_str.or (op_repT.or Ld))
def JV(K:PySem.W.Frag):ROk K (KU K) fq:=by
 intro G H x y dx dy d Q s rx ry e q;unfold fq at e;split at e
 ·split at e;·rename_i hc;cases e;exact .inl ⟨_,_,rx.int_inv,ry.int_inv,hc,q _ G H (.refl s) (.int _)⟩
  ·cases e
 ·split at e;·rename_i hc;cases e;obtain⟨i,rfl,ei,hi⟩:=rx.str_inv;subst ei;exact .inr (.inl ⟨i,_,rfl,ry.int_inv,hc.1,hc.2.1,hc.2.2,q _ G H (.refl s) (.strL (H8 i _) (by rw[rN,Str.len_list,Z8];exact hc.2.2))⟩)
  ·cases e
 ·split at e
  ·rename_i k hc;cases e;obtain⟨a,vs,rfl,ha,ra⟩:=rx.tup_inv;refine .inr (.inr (.inl ⟨a,_,vs,rfl,ry.int_inv,ha.mono s,hc.1,hc.2.1,by rw[ra.length];exact hc.2.2,λz=>?_,λ_ _ p hp=>q _ _ _ (.new s hp) (.tup (.of aY) ((ra.rep _).mono (.into (s.free hp))))⟩));rcases z with z|z
   ·subst z;cases ra;have e:(List.replicate k.toNat ([]:List D)).flatten=[]:=by simp
    rw[e]at q;exact q _ G H (.refl s) (.tup ha .nil)
   ·subst z;have e:∀l:List D,(List.replicate (1:Int).toNat l).flatten=l:=λl=>by show(List.replicate 1 l).flatten=l;simp
    rw[e]at q;exact q _ G H (.refl s) (.tup ha ra)
  ·cases e
 ·split at e;·rename_i hc;cases e;obtain⟨a,vs,rfl,ha,ra⟩:=rx.lst_inv;exact .inr (.inr (.inr ⟨a,_,vs,rfl,ry.int_inv,s _ _ ha,hc.1,hc.2.1,by rw[ra.length];exact hc.2.2,λp hp=>q _ _ _ (.new s hp) (.lst aY ((ra.rep _).mono (.into (s.free hp))))⟩))
  ·cases e
 ·cases e
def dP{a b:Expr}{ga:Ev->R D}(ha:PF X a ga)(hb:PF X b gb):PF X (.BinOp a .Mult b pos) (g2 fq ga gb):=tQ FS (JV _) ha hb
end
end L2
namespace L2
open PySem PySem.W PySem.Spec PySem.Calls PyProof.Rows
structure ExcCls(K:Frag)(C:Addr):Prop where
 ga:findIn K (.ref C) "__getattribute__"=some (some (.builtin "BaseException.__getattribute__"))
 gt:findIn K (.ref C) "__getattr__"=some none
 cl:findIn K (.ref C) "__class__"=some (some (.builtin "object.__class__"))
 sp:specialIn K (.builtin "object.__class__") "__get__"=some (some (.builtin "getset_descriptor.__get__"))
 tk:takesIn K (.builtin "object.__class__")=some true
 mo:mroIn K C (.type "object")=some true
 be:subIn K (.ref C) (.type "BaseException")=some true
 some:(clsIn K C).isSome=true
section
variable{prog:Program}{w:World}{A:Around}{K:Frag}
section
open Builtin Builtin.ObjectAttr Builtin.Getset_descriptor
def GN{tp:Value}{Rr:Result->Shared->Prop}(X:K.In s.heap)(L0:Looks (model prog w) s.heap (typeOf (.ref a)) (.ref C))(hm:mroIn K C (.type "object")=some true)(h:Rr (.ok (.ret (.ref C))) s):
  codeAny (model prog w) A (.call (.builtin "getset_descriptor.__get__") ⟨[.builtin "object.__class__",.ref a,tp],[]⟩) Rr s:=by
 have L1:=looks_mroIn (M:=model prog w) X hm;refine codeAny_call_builtin KF.slot_gs.plain KF.entry_gs
  (KF.slot_gs.check _ _ _ _ _ _ _ _ KF.type_class (KF.args_gs _ _ _) ?_);refine z8 (zc ?_);unfold descrGetter descrCheckInstance descrNameAndClass isInstance;simp only[KF.owner_class]
 repeat lk
 refine⟨Code.quiet_builtin _ (by decide +kernel),
  Zk KF.entry_class ?_⟩
 repeat lk
 exact h
end
theorem AA{Q:Option Value->Shared->Prop}(X:K.In s.heap)(T:ExcCls K C)(L0:Looks (model prog w) s.heap (typeOf (.ref a)) (.ref C))(h:Q (some (.ref C)) { s with toks:=s.toks+1 }):wpAny (model prog w) A (getAttr? (.ref a) "__class__") Q E s:=by
 obtain⟨hh,g,d,t,os⟩:=s;have L1:=looks_findIn (M:=model prog w) X T.ga;have L2:=looks_findIn (M:=model prog w) X T.gt;have L3:Looks (model prog w) hh (Builtin.ObjectAttr.find (.ref a) (.ref C) "__class__") (.bind (.builtin "getset_descriptor.__get__") (.builtin "object.__class__")):=by have M1:=looks_findIn (M:=model prog w) X T.cl;have M2:Looks (model prog w) hh (Builtin.ObjectAttr.getOf (some (.builtin "object.__class__"))) (some (.builtin "getset_descriptor.__get__")):=looks_specialIn X T.sp;have M3:=looks_takesIn (M:=model prog w) X T.tk;refine M1.andThen (M2.andThen ?_);exact(show Looks (model prog w) hh (Builtin.ObjectAttr.dataDescriptor? (some (.builtin "object.__class__")) (some (.builtin "getset_descriptor.__get__"))) (some (.builtin "getset_descriptor.__get__",.builtin "object.__class__")) from M3.andThen .now).andThen (Looks.tag .now)
 refine z8 (wpAny_mkText (z8 (dz (qJ (z8 (L0.at (z8 (L1.at ?_))))))));refine z8 (L2.at ?_);refine z8 (dz (qJ ?_));have LB:Looks (model prog w) hh (isInstance (.ref a) (.type "BaseException")) true:=L0.andThen (looks_subIn X T.be);have ha:=F.args_bexc_ga (.ref a) (.str "__class__" t);refine b9 (codeAny_call_builtin F.attr_ValueError.ga.plain F.entry_bexc_ga ?_);refine z8 (LB.at ?_);refine Zl ha ?_;refine z8 (zc ?_);refine z8 (zc ?_);refine z8 (L0.at ?_);refine z8 (L3.at ?_);exact z8 (qJ (b9 (GN X L0 T.mo (zc (handed_on rfl (zc h))))))
def Dn(T:ExcCls K C):KitX K (.ref a) (.ref C) (λh=>∃ob,h.get? a=some ob/\ob.cls=.ref C) where
 ty:=λM h _ p=>by obtain⟨o,h1,h2⟩:=p;exact h2▸(Looks.ld h1).andThen .now
 it:=λM h X _=>by
  have z:=T.some;unfold clsIn at z;split at z;·rename_i c' d' cd' sl' ho;intro A' Q' E' s' k q;exact z8 (wpAny_loadPart (k _ _ (X _ _ ho)) (zc q))
  ·cases z
 ne:=λh tp dd its n sl X htp=>by
  refine Bool.eq_false_iff.mpr λq=>?_;have e:=Value.ref.inj (o8.mp q);subst e;have z:=T.some;unfold clsIn at z;split at z;·rename_i c' d' cd' sl' ho;cases (X _ _ ho).symm.trans htp
  ·cases z
 ca:=λ{prog w A E Q s} X p k=>by obtain⟨o,h1,h2⟩:=p;exact AA X T (h2▸(Looks.ld h1).andThen .now) k
end
section
variable{A:Around}{Q:Value->Shared->Prop}
noncomputable def tyN:D->Option String
 |.non=>some "NoneType"
 |.bl _=>some "bool"
 |.int _=>some "int"
 |.str _=>some "str"
 |.tup _=>some "tuple"
 |.lst _ _=>some "list"
 |.exc _=>none
 |.dct _ _=>none
def K0{x:V}{c:Value}{T:String}(I:Inv X pins σ H s)(sub:Same G H)(r:Rep X.K G x d)(ru:RelV x u)(ht:tyN d=some T)(e:kitOne X.K (.type T) c=some b)(h:∀tk,Q (.bool b) { s with toks:=tk }):
  wpAny (model X.prog X.w) A (call (.builtin "isinstance") [u,c]) Q E s:=by
 cases r with
 |non=>cases ht;cases ru;exact kia_one kitx_none I.kIn True.intro e (λz=>nomatch z) h
 |bl y=>cases ht;cases ru;exact kia_one kitx_bool I.kIn True.intro e (λz=>nomatch z) h
 |int i=>cases ht;obtain⟨t,rfl⟩:=ru;exact kia_one kitx_int I.kIn True.intro e (λz=>nomatch z) h
 |str y hy=>cases ht;obtain⟨t,rfl⟩:=ru;exact kia_one kitx_str I.kIn True.intro e (λz=>nomatch z) h
 |tup hh t=>cases ht;cases ru;obtain⟨its,rv,⟨o,h1,h2,_⟩,_⟩:=I.tuple (hh.mono sub);exact kia_one kitx_tuple I.kIn ⟨o,h1,h2⟩ e (λz=>nomatch z) h
 |lst hh t=>cases ht;cases ru;obtain⟨its,rv,⟨o,n,h1,h2,_⟩,_⟩:=I.list ((SqL.of hh:SqL X.K G _ _).mono sub);exact kia_one kitx_list I.kIn ⟨o,h1,h2⟩ e (λz=>nomatch z) h
 |fls hh t=>cases ht;cases ru;obtain⟨its,rv,⟨o,n,h1,h2,_⟩,_⟩:=I.list (hh.mono sub);exact kia_one kitx_list I.kIn ⟨o,h1,h2⟩ e (λz=>nomatch z) h
 |exc hh=>cases ht
 |dct _ _ _=>cases ht
def DY{x:V}{c:Value}(I:Inv X pins σ H s)(sub:Same G H)(r:Rep X.K G x (.exc C))(ru:RelV x u)(T:ExcCls X.K C)(e:kitOne X.K (.ref C) c=some b)(h:∀tk,Q (.bool b) { s with toks:=tk }):
  wpAny (model X.prog X.w) A (call (.builtin "isinstance") [u,c]) Q E s:=by
 obtain⟨a,rfl,hh⟩:=r.exc_inv;cases ru;obtain⟨h1,_,_⟩:=(show ObjOk X.prog X.w H s.heap a (.ext (jZ a C)) from I.hok a _ (sub _ _ hh))
 exact kia_one (Dn T) I.kIn h1 e (λz=>nomatch z) h
end
section
variable{e:Expr}{ga:Ev->R D}{p2:Pos}
noncomputable def gj(f:String->Bool)(d:D):R D:=match tyN d with
 |some t=>.ok (.bl (f t))
 |none=>.no
def oY{T:String}(f:String->Bool)(hf:∀K:Frag,∀t∈["NoneType","bool","int","str","tuple","list"],kitOne K (.type t) (.type T)=some (f t))(hg:Gl X "isinstance")(hm:X.mg "isinstance"=none)(hg2:Gl X y)(hm2:X.mg y=none)(hv:bootBuiltins y=some (.type T))(ha:PF X e ga)(hs1:starEach [e,.Name y p2] X.env=(false,eval e X.env)::starEach [.Name y p2] X.env:=by rfl)(hn:y≠"__name__":=by decide)(hdb:(y==("__debug__":Str))=false:=by decide):
  PF X (.Call (.Name "isinstance" p) [e,.Name y p2] [] pos) (λρ=>ga ρ>>=gj f):=by
 intro pins s σ H Q I h;have hc:lC X (.builtin "isinstance") (λxs H Q=>∃x G d,xs=[x,.ty T]/\Same G H/\Rep X.K G x d/\∃t,tyN d=some t/\Q (.bl (f t)) H):=by
  intro pins s σ H xs us Q I r ⟨x,G,d,ex,sub,rd,t,et,q⟩;subst ex;obtain⟨u,u2,rfl,r1,r2⟩:=r.two;cases r2;refine K0 I sub rd r1 et (hf X.K t ?_) λtk=>⟨.bl (f t),H,I.tok tk,rfl,q⟩
  cases d <;> cases et <;> simp
 refine sP hc hg hm PyProof.Rows.Boot.«isinstance» (eW ha (eW (AJ (v:=.ty T) hg2 hm2 hv rfl hn hdb) lx) hs1) (by decide) (by decide) hs1 rfl pins s σ H Q I ?_;obtain⟨G,ρ,st,h⟩:=h;refine tG.intro st h λx v G1 H1 u1 st1 r1 h1=>?_;refine⟨v,G1,x,rfl,st1.sub,r1,?_⟩;unfold gj at h1;cases et:tyN x with
 |none=>rw[et]at h1;exact h1.elim
 |some t=>rw[et]at h1;exact⟨t,rfl,h1 _ G1 H1 (.refl st1.sub) (.bl _)⟩
noncomputable def uw(f:Addr->Option Bool)(d:D):R D:=match d with
 |.exc C=>ofO ((f C).map .bl)
 |_=>.no
def Cj{v2:V}{u2:Value}(f:Addr->Option Bool)(hf:∀C b,f C=some b->ExcCls X.K C/\kitOne X.K (.ref C) u2=some b)(hg:Gl X "isinstance")(hm:X.mg "isinstance"=none)(hy:PE X (.Name y p2) (tC v2))(hr:RelV v2 u2)(hr2:∀u,RelV v2 u->u=u2)(ha:PF X e ga)(hs1:starEach [e,.Name y p2] X.env=(false,eval e X.env)::starEach [.Name y p2] X.env:=by rfl):
  PF X (.Call (.Name "isinstance" p) [e,.Name y p2] [] pos) (λρ=>ga ρ>>=uw f):=by
 intro pins s σ H Q I h;have hc:lC X (.builtin "isinstance") (λxs H Q=>∃x G C b,xs=[x,v2]/\Same G H/\Rep X.K G x (.exc C)/\f C=some b/\Q (.bl b) H):=by intro pins s σ H xs us Q I r ⟨x,G,C,b,ex,sub,rd,ef,q⟩;subst ex;obtain⟨u,w,rfl,r1,r2⟩:=r.two;obtain rfl:=hr2 w r2;exact DY I sub rd r1 (hf C b ef).1 (hf C b ef).2 λtk=>⟨.bl b,H,I.tok tk,rfl,q⟩
 refine sP hc hg hm PyProof.Rows.Boot.«isinstance» (eW ha (eW hy lx) hs1) (by decide) (by decide) hs1 rfl pins s σ H Q I ?_;obtain⟨G,ρ,st,h⟩:=h;refine tG.intro st h λx v G1 H1 u1 st1 r1 h1=>?_;cases x with
 |exc C=>
  cases ef:f C with
  |none=>simp only[uw,ef]at h1;exact h1.elim
  |some b=>simp only[uw,ef]at h1;exact⟨v,G1,C,b,rfl,st1.sub,r1,ef,h1 _ G1 H1 (.refl st1.sub) (.bl b)⟩
 |_=>exact h1.elim
end
end L2
namespace L2
open PySem PySem.Spec PyProof.Rows
noncomputable def yi:List D->Option (List Bool)
 | []=>some []
 |.bl b::ds=>(yi ds).map (b::·)
 |_=>none
theorem Reps.bls{K:PySem.W.Frag}:∀{vs:List V}{ds:List D}{bs:List Bool},Reps K G vs ds->yi ds=some bs->vs=bs.map .bl
 |_,_,bs,.nil,e=>by cases e;rfl
 |_,_,bs,.cons r t,e=>by
  cases r with
  |bl b=>
   rename_i ds;unfold yi at e;cases q:yi ds with
   |none=>rw[q]at e;cases e
   |some cs=>rw[q]at e;cases e;rw[Reps.bls t q];rfl
  |_=>simp[yi]at e
theorem Vals.bls:∀{bs:List Bool}{us:List Value},Vals (bs.map V.bl) us->us=bs.map Value.bool
 | [],_,.nil=>rfl
 |b::bs,_,.cons r t=>by rw[Vals.bls t,show _=Value.bool b from r];rfl
section
variable{e o:Expr}{ga:Ev->R D}
noncomputable def Qd(K:PySem.W.Frag)(f:List Bool->Bool):List V->Hp->VK->Prop:=λxs H Q=>∃p bs,xs=[.ref p]/\SqL K H p (bs.map V.bl)/\Q (.bl (f bs)) H
def B3(A:Around)(prog:Program)(w:World)(bs:List Bool):TruthOf prog w A (λi v=>(bs.map Value.bool).toArray[i]?=some v) (λi=>bs.getD i true):=by
 intro i v s Q E hP hQ;rw[List.getElem?_toArray,v8]at hP;cases q:bs[i]? with
 |none=>rw[q]at hP;cases hP
 |some b=>
  rw[q]at hP;cases hP;have e:bs.getD i true=b:=by rw[zi,q];rfl
  have hQ:Q (bs.getD i true) s:=hQ;rw[e]at hQ;exact oR hQ
def BJ(hc:X.calm=true):lC X (.builtin "all") (Qd X.K λbs=>bs.all id):=by
 intro pins s σ H xs us Q I r ⟨p,bs,ex,hs,q⟩;subst ex;obtain⟨u,rfl,r1⟩:=r.one;cases r1;obtain⟨its,rv,pl,hz⟩:=I.list hs;obtain rfl:=rv.bls;have hh:X.A.in1.handled=none:=I.ok.hd hc;have hlt:p<s.heap.objs.size:=by obtain⟨o,n,e,_⟩:=id pl;exact w5 e
 refine call_all_walk (ZM pl.isList ?_);refine⟨s.heap.objs.size,[s.heap.objs.size,p],[s.heap.objs.size],_,_,_,λi=>bs.getD i true,rfl,Walks.list hh s.heap.objs.size p (v9 hlt) (bs.map Value.bool).toArray,⟨⟨_,v7 _ rfl,rfl,rfl⟩,?_⟩,B3 _ _ _ bs,λh' tk hk=>?_⟩;·obtain⟨o,n,e,c,_,d⟩:=id pl;exact⟨o,w9 _ e,c,n,d⟩
 ·have e:(List.range (bs.map Value.bool).toArray.size).all (λi=>bs.getD i true)=bs.all id:=by rw[w8,zy];exact pj rfl
  rw[e];refine⟨.bl _,H,I.kept λb o eb=>hk b o (λz=>?_) (w9 _ eb),rfl,q⟩;have:b=s.heap.objs.size:=by simpa using z
  exact l6 _ (this▸w5 eb)
noncomputable def CB:List D->Option D
 | [.lst _ ds]=>(yi ds).map λbs=>.bl (bs.all id)
 |_=>none
def J8(hc:X.calm=true)(hg:Gl X "all")(hm:X.mg "all"=none)(ha:PFA X [e] gl)(he:starEach [e] X.env=[(false,eval e X.env)]:=by rfl):PF X (.Call (.Name "all" p) [e] [] pos) (λρ=>gl ρ>>=λds=>ofO (CB ds)):=
 mM (BJ hc) (by
  intro G H xs ds d Q s r e q;unfold CB at e;split at e
  ·rename_i f ds;obtain⟨v,rfl,r1⟩:=r.one;obtain⟨a,vs,rfl,h,t⟩:=r1.seq_inv;cases eb:yi ds with
   |none=>rw[eb]at e;cases e
   |some bs=>rw[eb]at e;cases e;obtain rfl:=t.bls eb;exact⟨a,bs,rfl,h.mono s,q _ G H (.refl s) (.bl _)⟩
  ·cases e) hg hm PyProof.Rows.Boot.«all» ha (he:=by rw[he];rfl)
noncomputable def KG(K:PySem.W.Frag)(T:String)(r:V->List V->Hp->VK->Prop)(f:D->List D->Option D):Prop:=∀(G H:Hp)(x:V)(xs:List V)(dx:D)(ds:List D)(d:D)(Q:VK),Same G H->Rep K G x dx->Reps K G xs ds->f dx ds=some d->Fin G H (Rep K) Q d->r x xs H Q
noncomputable def kY(T:String):D->Bool
 |.str _=>T=="str"
 |.lst _ _=>T=="list"
 |_=>false
def sG{T id:String}{name:Str}{ap cp:Pos}{r:V->List V->Hp->VK->Prop}{f:D->List D->Option D}(pa:PlainAttrs T)(slot:PySem.Slot T name id)(hty:typeOf (.builtin id)=pure (.type "method_descriptor"))(hm:MtR X id r)(hf:KG X.K T r f)(ho:PF X o ga)(ha:PFA X (e::es) gl)(hbase:attributeBase o name X.env (eval o X.env)=eval o X.env:=by rfl)(hfew:((backTo cp (starEach (e::es) X.env)).all (λx=>!x.1) && (backToKw cp (keywordEach [] X.env)).all (λx=>x.1.isSome)
 && decide ((e::es).length+([]:List Keyword).length+(if ([]:List Keyword).isEmpty then 0 else 1)<30))=true:=by rfl)(hline:(ap.endLine==cp.line)=true:=by rfl)(hs:starEach (e::es) X.env=(false,eval e X.env)::starEach es X.env:=by rfl)(hplain:(backTo cp (starEach es X.env)).any (·.1)=false:=by rfl):
  PF X (.Call (.Attribute o name ap) (e::es) [] cp) (λρ=>ga ρ>>=λx=>if kY T x=true then gl ρ>>=λds=>ofO (f x ds)else .no):=by
 intro pins s σ H Q I h;refine Dg pa slot hty hm ho ha hbase hfew hline hs hplain pins s σ H Q I ?_;obtain⟨G,ρ,st,h⟩:=h;refine tG.intro st h λx v G1 H1 u1 st1 r1 h1=>?_;by_cases hk:kY T x=true
 ·rw[if_pos hk]at h1;have ty:tyV X.K T v H1:=by
   cases r1 with
   |str y hy=>exact show T="str" by simpa[kY]using hk
   |lst hh t=>exact .inl ⟨by simpa[kY]using hk,_,.of (st1.sub _ _ hh)⟩
   |fls hh t=>exact .inl ⟨by simpa[kY]using hk,_,hh.mono st1.sub⟩
   |_=>cases hk
  refine⟨ty,tG.intro st1 h1 λds vs G2 H2 u2 st2 r2 h2=>?_⟩;obtain⟨d,e',q⟩:=ofO.ok h2;exact hf G2 H2 v vs x ds d Q st2.sub (r1.mono u2.gg) r2 e' q
 ·rw[if_neg hk]at h1;exact h1.elim
noncomputable def bu(x y:List Nat):List Nat:=(Txt.rstripChars ⟨x.toArray⟩ ⟨y.toArray⟩).cps.toList
noncomputable def eP:D->List D->Option D
 |.str x,[.str y]=>some (.str (bu x y))
 |_,_=>none
def Str.of_list{x:List Nat}(e:y.cps.toList=x):(⟨x.toArray⟩:Str)=y:=by subst e;simp
noncomputable def Ae:V->List V->Hp->VK->Prop:=λx vs H Q=>∃y z:Str,x=.str y/\vs=[.str z]/\y.length<=sizeLine/\Q (.str (Txt.rstripChars y z)) H
def Be:MtR X "str.rstrip" Ae:=by intro pins s σ H x xs v us Q I rx rv ⟨y,z,ex,exs,hz,q⟩;subst ex exs;obtain⟨t,rfl⟩:=rx;obtain⟨u,rfl,r1⟩:=rv.one;obtain⟨t',rfl⟩:=r1;exact SCL.rstripChars (λt'' k _=>⟨.str _,H,I.tok _,⟨_,rfl⟩,q⟩) hz
def A9(K:PySem.W.Frag):KG K "str" Ae eP:=by
 intro G H x xs dx ds d Q s rx rs e q;unfold eP at e;split at e
 ·cases e;obtain⟨v,rfl,r1⟩:=rs.one;obtain⟨i,rfl,ei,hi⟩:=rx.str_inv;obtain⟨j,rfl,ej,hj⟩:=r1.str_inv;refine⟨i,j,rfl,rfl,hi,q _ G H (.refl s) (.strL ?_ ?_)⟩;·unfold bu;rw[Str.of_list ei,Str.of_list ej]
  ·unfold bu;rw[Str.of_list ei,Str.of_list ej,Str.len_list];exact Nat.le_trans (len_rstripChars i j) hi
 ·cases e
def BW{ap cp:Pos}(ho:PF X o ga)(ha:PFA X [e] gl)(hbase:attributeBase o "rstrip" X.env (eval o X.env)=eval o X.env:=by rfl)(hfew:((backTo cp (starEach [e] X.env)).all (λx=>!x.1) && (backToKw cp (keywordEach [] X.env)).all (λx=>x.1.isSome)
 && decide ([e].length+([]:List Keyword).length+(if ([]:List Keyword).isEmpty then 0 else 1)<30))=true:=by rfl)(hline:(ap.endLine==cp.line)=true:=by rfl)(hs:starEach [e] X.env=(false,eval e X.env)::starEach [] X.env:=by rfl):
  PF X (.Call (.Attribute o "rstrip" ap) [e] [] cp) (λρ=>ga ρ>>=λx=>if kY "str" x=true then gl ρ>>=λds=>ofO (eP x ds)else .no):=
 sG PySem.F.plainAttrs_str PySem.F.slot_str_rstrip PySem.F.type_str_rstrip Be (A9 _) ho ha hbase hfew hline hs rfl
def E7{A:Around}{bs:List Bool}(k:Bool):∀y,y∈(bs.map Value.bool).toArray->SeqAt.EqAt A s y (.bool k) (y==.bool k):=λy hy=>by
 obtain⟨b,_,rfl⟩:=wU.mp (List.mem_toArray.mp hy);have:=SeqAt.EqAt.bool_bool (A:=A) (s:=s) b k;have e:(Value.bool b==Value.bool k)=(b==k):=by cases b <;> cases k <;> rfl
 rw[e];exact this
noncomputable def E5(K:PySem.W.Frag):V->List V->Hp->VK->Prop:=λx vs H Q=>∃(l:Addr)(bs:List Bool)(k:Bool),x=.ref l/\vs=[.bl k]/\SqL K H l (bs.map V.bl)/\Q (.int (bs.count k:Nat)) H
def zS(bs:List Bool)(k:Bool):(bs.map Value.bool).countP (·==.bool k)=bs.count k:=by
 rw[List.countP_map]
 congr 1
 funext b
 cases b <;> cases k <;> rfl
theorem CP:MtR X "list.count" (E5 X.K):=by intro pins s σ H x xs v us Q I rx rv ⟨l,bs,k,ex,exs,hs,q⟩;subst ex exs;cases rx;obtain⟨u,rfl,r1⟩:=rv.one;cases r1;obtain⟨its,rv',⟨⟨cls,dd,data,sl⟩,n,eo,c,_,d⟩,hz⟩:=I.list hs;obtain rfl:=rv'.bls;subst c d;refine pR F.slot_list_count ⟨_,eo,rfl⟩ F.entry_list_count (F.args_list_count_2 _ _) (SeqAt.list_countAt l (bs.map Value.bool).toArray n dd sl (.bool k) (·==.bool k)) ⟨eo,E7 k,?_⟩;rw[List.toList_toArray,zS];exact⟨.int _,H,I.tok _,⟨_,rfl⟩,q⟩
noncomputable def tD:D->List D->Option D
 |.lst _ ds,[.bl k]=>(yi ds).map λbs=>.int (bs.count k:Nat)
 |_,_=>none
def Dv(K:PySem.W.Frag):KG K "list" (E5 K) tD:=by
 intro G H x xs dx ds d Q s rx rs e q;unfold tD at e;split at e
 ·rename_i f ds k;obtain⟨v,rfl,r1⟩:=rs.one;obtain rfl:=r1.bl_inv;obtain⟨a,vs,rfl,h,t⟩:=rx.seq_inv;cases eb:yi ds with
  |none=>rw[eb]at e;cases e
  |some bs=>rw[eb]at e;cases e;obtain rfl:=t.bls eb;exact⟨a,bs,k,rfl,rfl,h.mono s,q _ G H (.refl s) (.int _)⟩
 ·cases e
noncomputable def E0(K:PySem.W.Frag):V->List V->Hp->VK->Prop:=λx vs H Q=>∃(l:Addr)(bs:List Bool)(k:Bool),x=.ref l/\vs=[.bl k]/\SqL K H l (bs.map V.bl)/\k∈bs/\Q (.int (bs.idxOf k:Nat)) H
theorem ql(k:Bool):∀(bs:List Bool)(m:Nat),m<bs.idxOf k->bs[m]?≠some k
 | [],m,h=>by simp
 |b::bs,m,h=>by
  rw[List.idxOf_cons]at h;cases hb:(b==k)with
  |true=>rw[hb]at h;exact absurd h (Nat.not_lt_zero _)
  |false=>
   rw[hb]at h;cases m with
   |zero=>intro e;have e1:=wq e;rw[e1,pc]at hb;cases hb
   |succ m=>rw[ZV];exact ql k bs m (Nat.lt_of_succ_lt_succ h)
theorem CV:MtR X "list.index" (E0 X.K):=by
 intro pins s σ H x xs v us Q I rx rv ⟨l,bs,k,ex,exs,hs,hk,q⟩;subst ex exs;cases rx;obtain⟨u,rfl,r1⟩:=rv.one;cases r1;obtain⟨its,rv',⟨⟨cls,dd,data,sl⟩,n,eo,c,_,d⟩,hz⟩:=I.list hs;obtain rfl:=rv'.bls;subst c d;have hlt:=List.idxOf_lt_length_iff.mpr hk;have hsz:bs.length<=sizeLine:=by simpa using hz
 have h63:=qy;have tob:∀a b:Bool,(Value.bool a==Value.bool b)=(a==b):=λa b=>by cases a <;> cases b <;> rfl
 refine pR F.slot_list_index ⟨_,eo,rfl⟩ F.entry_list_index (F.args_list_index_2 _ _) (SeqAt.list_indexAt l (bs.map Value.bool).toArray n dd sl (.bool k) (·==.bool k) (bs.idxOf k) (by simpa using hlt) (by omega) ?_ ?_) ⟨eo,E7 k,?_⟩;·simp only[List.getElem_toArray,List.getElem_map,tob];exact o8.mpr (List.getElem_idxOf hlt)
 ·intro m hm hlt';simp only[List.getElem_toArray,List.getElem_map,tob];have hm':m<bs.length:=by simpa using hm
  cases hq:(bs[m]==k)with
  |false=>rfl
  |true=>exact absurd (by rw[xn hm',o8.mp hq]) (ql k bs m hlt')
 ·exact⟨.int _,H,I.tok _,⟨_,rfl⟩,q⟩
noncomputable def tM:D->List D->Option D
 |.lst _ ds,[.bl k]=>(yi ds).bind λbs=>if k∈bs then some (.int (bs.idxOf k:Nat))else none
 |_,_=>none
def DD(K:PySem.W.Frag):KG K "list" (E0 K) tM:=by
 intro G H x xs dx ds d Q s rx rs e q;unfold tM at e;split at e
 ·rename_i f ds k;obtain⟨v,rfl,r1⟩:=rs.one;obtain rfl:=r1.bl_inv;obtain⟨a,vs,rfl,h,t⟩:=rx.seq_inv;cases eb:yi ds with
  |none=>rw[eb]at e;cases e
  |some bs=>
   rw[eb,Zm]at e;split at e;·rename_i hk;cases e;obtain rfl:=t.bls eb;exact⟨a,bs,k,rfl,rfl,h.mono s,hk,q _ G H (.refl s) (.int _)⟩
   ·cases e
 ·cases e
def DR{ap cp:Pos}(ho:PF X o ga)(ha:PFA X [e] gl)(hbase:attributeBase o "count" X.env (eval o X.env)=eval o X.env:=by rfl)(hfew:((backTo cp (starEach [e] X.env)).all (λx=>!x.1) && (backToKw cp (keywordEach [] X.env)).all (λx=>x.1.isSome)
 && decide ([e].length+([]:List Keyword).length+(if ([]:List Keyword).isEmpty then 0 else 1)<30))=true:=by rfl)(hline:(ap.endLine==cp.line)=true:=by rfl)(hs:starEach [e] X.env=(false,eval e X.env)::starEach [] X.env:=by rfl):
  PF X (.Call (.Attribute o "count" ap) [e] [] cp) (λρ=>ga ρ>>=λx=>if kY "list" x=true then gl ρ>>=λds=>ofO (tD x ds)else .no):=
 sG b8 PySem.F.slot_list_count PySem.F.type_list_count CP (Dv _) ho ha hbase hfew hline hs rfl
def C7{ap cp:Pos}(ho:PF X o ga)(ha:PFA X [e] gl)(hbase:attributeBase o "index" X.env (eval o X.env)=eval o X.env:=by rfl)(hfew:((backTo cp (starEach [e] X.env)).all (λx=>!x.1) && (backToKw cp (keywordEach [] X.env)).all (λx=>x.1.isSome)
 && decide ([e].length+([]:List Keyword).length+(if ([]:List Keyword).isEmpty then 0 else 1)<30))=true:=by rfl)(hline:(ap.endLine==cp.line)=true:=by rfl)(hs:starEach [e] X.env=(false,eval e X.env)::starEach [] X.env:=by rfl):
  PF X (.Call (.Attribute o "index" ap) [e] [] cp) (λρ=>ga ρ>>=λx=>if kY "list" x=true then gl ρ>>=λds=>ofO (tM x ds)else .no):=
 sG b8 PySem.F.slot_list_index PySem.F.type_list_index CV (DD _) ho ha hbase hfew hline hs rfl
end
noncomputable def rm:List Nat->List D->Ev->R Ev
 | [],[],ρ=>.ok ρ
 |i::is,d::ds,ρ=>rm is ds (ρ.set i (some (.val d)))
 |_,_,_=>.no
theorem qB:∀(is:List Nat)(ds:List D)(ρ:Ev)(C:Addr),rm is ds ρ≠.ex C
 | [],[],_,_=>by intro z;cases z
 | [],_::_,_,_=>by intro z;cases z
 |_::_,[],_,_=>by intro z;cases z
 |i::is,d::ds,ρ,C=>qB is ds _ C
section
variable{e:Expr}{ga:Ev->R D}
noncomputable def KM(X:Cx)(es:List Expr)(is:List Nat):Prop:=PGs X es (λvs σ H Q=>∃G₀ H₀ G ρ ds ρ',StR X.K G₀ H₀ G H σ ρ/\Reps X.K G vs ds/\rm is ds ρ=.ok ρ'/\∀σ',StR X.K G₀ H₀ G H σ' ρ'->Q σ' H)
def jL:KM X [] []:=by
 intro pins s σ H vs us Q I r h;obtain⟨G₀,H₀,G,ρ,ds,ρ',sr,rd,e,q⟩:=h;refine GP pins s σ H vs us Q I r ?_;cases rd with
 |nil=>cases e;exact⟨rfl,q σ sr⟩
 |cons _ _=>cases e
def cu(i:Nat)(hN:X.N.Nodup)(h2:KM X es is)(hi:X.N[i]?=some x:=by rfl)(hx:Loc X.env.scope x:=by first|exact Or.inl rfl|exact Or.inr rfl)(hs:(assignEach (.Name x p::es) X.env).map (·.2)=assign (.Name x p) X.env::(assignEach es X.env).map (·.2):=by rfl)(hf:X.fn x=true\/X.env.scope.names.lookup x=some .local:=by first|exact .inl rfl|exact .inr rfl):
  KM X (.Name x p::es) (i::is):=by
 intro pins s σ H vs us Q I r h;obtain⟨G₀,H₀,G,ρ,ds,ρ',sr,rd,e,q⟩:=h;refine C4 (lU hN hi hx hf) h2 hs pins s σ H vs us Q I r ?_;cases rd with
 |nil=>cases e
 |cons r1 t1=>exact⟨_,_,rfl,G₀,H₀,G,_,_,ρ',sr.set r1 i,t1,e,q⟩
noncomputable def vt(is:List Nat)(d:D)(ρ:Ev):R Ev:=match d with
 |.tup ds=>rm is ds ρ
 |_=>.no
theorem ug:∀(is:List Nat)(ds:List D)(ρ ρ':Ev),rm is ds ρ=.ok ρ'->ds.length=is.length
 | [],[],_,_,_=>rfl
 | [],_::_,_,_,e=>by cases e
 |_::_,[],_,_,e=>by cases e
 |i::is,d::ds,ρ,ρ',e=>by simp[ug is ds _ ρ' e]
def nu(hc:X.calm=true)(h:KM X es is)(hn:(assignEach es X.env).length=is.length:=by rfl)(hst:(assignEach es X.env).findIdx? (·.1)=none:=by rfl):PGF X (.Tuple es k pos) (vt is):=by
 intro pins s σ H v u Q I r q;obtain⟨G₀,H₀,G,ρ,d,ρ',sr,rd,e,q⟩:=q;refine IR hc h hn hst pins s σ H v u Q I r ?_;cases rd with
 |tup hh t=>rename_i ds;exact⟨_,_,rfl,hh.mono sr.e.sub,by rw[t.length];exact ug is ds ρ ρ' e,G₀,H₀,G,ρ,ds,ρ',sr,t,e,q⟩
 |_=>cases e
def iY(is:List Nat):∀(d:D)(ρ:Ev)(C:Addr),vt is d ρ≠.ex C:=λd ρ C=>by
 cases d with
 |tup ds=>exact qB is ds ρ C
 |_=>intro z;cases z
def Dl(i j:Nat){a b:Expr}{px pt pt2:Pos}{k2:Nat}(hc:X.calm=true)(hN:X.N.Nodup)(ha:PFA X [a,b] gl)(hij:i≠j)(hi:X.N[i]?=some x:=by rfl)(hj:X.N[j]?=some y:=by rfl)(hx:X.env.scope.names.lookup x=some .local:=by rfl)(hy:X.env.scope.names.lookup y=some .local:=by rfl)(hw:swappedStores [.Tuple [.Name x px,.Name y py] kt pt] (.Tuple [a,b] k2 pt2) X.env=pure (some [x,y]):=by rfl)(hs:swapsWithSole [.Tuple [.Name x px,.Name y py] kt pt] (.Tuple [a,b] k2 pt2) pos.line X.env=pure false:=by rfl):
  PSF X (.Assign [.Tuple [.Name x px,.Name y py] kt pt] (.Tuple [a,b] k2 pt2) pos) (λρ=>(gl ρ).out ρ λds=>(rm [i,j] ds ρ).out ρ .nx):=λG₀ H₀ pins s σ H D I h=>by
 refine Lu hc hN hi hj hij hx hy ha hw hs pins s σ H D I ?_;obtain⟨G,ρ,sr,h⟩:=h;dsimp only at h;refine⟨G,ρ,sr.e,?_⟩;cases q:gl ρ with
 |ok ds=>
  rw[q]at h;intro vs G' H' u r;cases r with
  |nil=>exact h.elim
  |cons r1 t1=>
   cases t1 with
   |nil=>exact h.elim
   |cons r2 t2=>
    cases t2 with
    |nil=>exact⟨_,_,rfl,h _ G' H' (((sr.ups u).set r1 i).set r2 j)⟩
    |cons _ _=>exact h.elim
 |ex C=>rw[q]at h;exact Exx.of sr h
 |no=>rw[q]at h;exact h
def yQ{np cp:Pos}{bm:List Value}{B newId initId:String}(Oc:OwnCls x C bm newId X.mg X.base)(FB:ExcBaseFacts B newId initId bm)(hh:X.A.handled=none)(hg:Gl X x)(ha:PFA X [e] gl)(hdb:(x==("__debug__":Str))=false:=by decide)(hs:starEach [e] X.env=(false,eval e X.env)::starEach [] X.env:=by rfl)(hz:∀ρ ds,gl ρ=.ok ds->ds.length<=1:=by intro _ _ z;first|(cases z;decide)|skip):
  PSF X (.Raise (some (.Call (.Name x np) [e] [] cp)) none pos) (λρ=>(gl ρ).out ρ λ_=>.ex C ρ):=λG₀ H₀ pins s σ H D I h=>by
 obtain⟨G,ρ,sr,h⟩:=h;dsimp only at h;obtain⟨tl,N,nm,qn,bs,hdct,sn,sub,ab,col,dd,k0,k1,k2,k3,k5,mN,hC,hN,hni,T⟩:=Oc.obj;refine wpAny_Raise_call_subT (nm:=nm) (q:=qn) (N:=N) (bs:=bs) (hdct:=hdct) (sn:=sn) (sub:=sub) (ab:=ab) (col:=col) (dd:=dd) (k0:=k0) (k1:=k1) (k2:=k2) (k3:=k3) (k5:=k5)
  FB (T.hasType FB.hasBase) hh (by rw[hs];rfl) hni (oJ I hg Oc.bound ⟨rfl,?_⟩ hdb);have t:tAF X gl σ H (λvs H1=>vs.length<=sizeLine/\∃G1,Up G H G1 H1/\pT X G₀ H₀ D (.ex C ρ)):=by
  refine⟨G,ρ,sr.e,?_⟩;cases q:gl ρ with
  |ok ds=>rw[q]at h;intro vs G1 H1 u r;exact⟨by rw[r.length];exact wt (hz ρ ds q) (by decide),G1,u,h⟩
  |ex C'=>rw[q]at h;exact Exx.of sr h
  |no=>rw[q]at h;exact h
 have hA:=ha cp pins s σ H _ I t;rw[hs]at hA⊢;refine Calls.evalArgs_plain (vV hA (λvs s₂ q=>?_) λ_ _ y=>y);obtain⟨vs',H1,I1,r,hz,G1,u,h⟩:=q;exact⟨rfl,by show vs.length<=sizeLine;rw[<- r.length];exact hz,I1.bk _ _ hC,hN.keeps I1.bk,T.keeps I1.bk,λh' a made=>h _ _ (.of (sr.ups u) ⟨pins,s₂,a,rfl,I1,.inl ⟨h',vs,made,rfl⟩⟩)⟩
end
section
def Inv.unset{m:Str->Option Value}{u:Option Value}(I:Inv X pins σ H s)(hN:X.N.Nodup)(hi:X.N[i]?=some x)(hm:∀(j:Nat)(y:Str)(v:V),X.N[j]?=some y->σ[j]?=some (some v)->Vis X.env.scope y->∃u,RelV v u/\Ow X.env s.heap m y u)(hn:h'.Ns X.env.locals (λy=>if y=x then u else m y))(sb:Heap.SameBut X.env.locals s.heap h'):
  Inv X pins (σ.set i none) H { s with heap:=h' }:=by
 have kp:∀b o,b≠X.env.locals->s.heap.get? b=some o->h'.get? b=some o:=λb o hb e=>(sb.2 b hb).trans e;refine⟨I.ok,I.os,I.bare,I.base.sameBut kp I.ok.above,⟨_,hn,λj y v h1 h2 h3=>?_⟩,λy c e=>?_,I.free,I.freeC,λp hp=>?_,I.hok.sameBut kp I.free,by simp[I.len]⟩
 ·have hj:i≠j:=λz=>by subst z;rw[Zh]at h2;simp only[vP]at h2;split at h2 <;> cases h2
  rw[uA hj]at h2;have hy:y≠x:=λz=>hj (qL hN hi (z▸h1));obtain⟨w,rw',lk⟩:=hm j y v h1 h2 h3;refine⟨w,rw',?_⟩;rcases lk with⟨k,e⟩|⟨k,c,hc,cell⟩;·exact .inl ⟨k,by show(if y=x then u else m y)=some w;rw[if_neg hy];exact e⟩
  ·exact .inr ⟨k,c,hc,cell.sameBut sb (I.cne y c hc)⟩
 ·obtain⟨v,q⟩:=I.cell y c e;exact⟨v,q.sameBut sb (I.cne y c e)⟩
 ·obtain⟨p1,p2,p3,p4,p5⟩:=I.pin p hp;exact⟨kp _ _ p3 p1,p2,p3,p4,p5⟩
def Inv.cx{A':Around}{calm':Bool}{pn' pins':List (Addr×Obj)}{xe':Value->Shared->Prop}(I:Inv X pins σ H s)(hp:∀p∈pn'++pins',p∈X.pn++pins)(hA:A'.frames=X.A.frames)(hd:calm'=true->A'.handled=none):
  Inv { X with A:=A',calm:=calm',pn:=pn',xe:=xe' } pins' σ H s:=
 ⟨⟨I.ok.mod,I.ok.kind,I.ok.glob,I.ok.blt,I.ok.above,I.ok.inj,I.ok.has,I.ok.cab,hd,hA.trans I.ok.frames,I.ok.stk,I.ok.exf,I.ok.bs,I.ok.bsz,I.ok.noex,I.ok.exfs,I.ok.funs,I.ok.frf,I.ok.tabs⟩,
  I.os,I.bare,I.base,I.loc,I.cell,I.free,I.freeC,λp q=>I.pin p (hp p q),I.hok,I.len⟩
end
noncomputable def Ak(gb gs:Ev->O)(f:Addr->Option Bool)(i:Nat):Ev->O:=λρ=>match gb ρ with
 |.ex C ρ'=>(match f C with
  |some true=>(match gs (ρ'.set i (some (.val (.exc C))))with
   |.nx ρ''=>.nx (ρ''.set i none)
   |.rt d=>.rt d
   |_=>.no)
  |_=>.no)
 |o=>o
section
variable{body suite:List Stmt}{b₀:Stmt}{gb gs:Ev->O}{hp tp:Pos}{tn nm:Str}{Ct:Addr}
noncomputable abbrev qb(X:Cx)(pn:List (Addr×Obj))(xe:Value->Shared->Prop):Cx:={ X with A:=X.A,calm:=X.calm,pn:=pn,xe:=xe }
noncomputable abbrev ny(X:Cx)(a:Addr)(xe:Value->Shared->Prop):Cx:={ X with A:=X.A.mark (some (.ref a)),calm:=false,pn:=X.pn,xe:=xe }
def Ex(pr:St->Prop)(i:Nat)(f:Addr->Option Bool)(hN:X.N.Nodup)(hcalm:X.calm=true)(hst:X.stack=X.env::X.outer)(hfr:X.env.frame=some X.env.locals)(hkd:X.env.scope.kind=.function)(G₀ H₀:Hp)(hb:∀pn xe,PSs (qb X pn xe) body λD σ H=>pr σ/\tS (qb X pn xe) G₀ H₀ gb D σ H)(hh:∀a xe,mL (ny X a xe) (b₀::suite) gs)(hf:∀C,f C=some true->PySem.W.exmOne X.K (.ref C) (.ref Ct)=some true)(hg:Gl X tn)(hm:X.mg tn=some (.ref Ct))(hi:X.N[i]?=some nm)(hx:X.env.scope.names.lookup nm=some .local)(hdb:(tn==("__debug__":Str))=false:=by decide):
  PS X (.Try body [.ExceptHandler (some (.Name tn tp)) (some nm) (b₀::suite) hp] [] [] pos) λD σ H=>pr σ/\tS X G₀ H₀ (Ak gb gs f i) D σ H:=λpins s σ H D I h=>by
 obtain⟨hpr,G,ρ,sr,h⟩:=h;refine wpAny_Try_except ?_;have fs:frs X.stack=X.env.locals::frs X.outer:=by rw[hst];exact xz hfr
 have I1:∀xe,Inv (qb X (X.pn++pins) xe) [] σ H s:=λxe=>I.cx (λp q=>by simpa using q) rfl I.ok.hd;have back:∀{xe:Value->Shared->Prop}{pins':List (Addr×Obj)}{σ':St}{H':Hp}{s':Shared},Inv (qb X (X.pn++pins) xe) pins' σ' H' s'->Inv X pins σ' H' s':=λJ=>(J.cx (λp q=>my _ q) rfl J.ok.hd:Inv { (qb X (X.pn++pins) _)with A:=X.A,calm:=X.calm,pn:=X.pn,xe:=X.xe } pins _ _ _)
 refine vV (hb (X.pn++pins) (λe s₁=>wpAny (model X.prog X.w) X.A (noteFrame e X.env) (λ_ s₂=>wpAny (model X.prog X.w) X.A (setFlight e none) (λ_ s₃=>wpAny (model X.prog X.w) X.A (handleBy e X.env [.ExceptHandler (some (.Name tn tp)) (some nm) (b₀::suite) hp]) (SP X pins D) X.xe s₃) X.xe s₂) X.xe s₁) [] s σ H D (I1 _) ⟨hpr,G,ρ,sr,?_⟩) (λfl s₁ q=>?_) λe s₁ q=>q
 case refine_2=>
  cases fl with
  |next=>obtain⟨σ',H',J,q⟩:=q;exact ZC ⟨σ',H',back J,q⟩
  |brk=>obtain⟨σ',H',J,q⟩:=q;exact⟨σ',H',back J,q⟩
  |cont=>obtain⟨σ',H',J,q⟩:=q;exact⟨σ',H',back J,q⟩
  |ret u=>obtain⟨v,σ',H',J,r,q⟩:=q;exact⟨v,σ',H',back J,r,q⟩
 unfold Ak at h;cases q:gb ρ with
 |nx ρ'=>rw[q]at h;exact h
 |rt d=>rw[q]at h;exact h
 |re d ρ'=>rw[q]at h;exact h
 |bk ρ'=>rw[q]at h;exact h
 |ct ρ'=>rw[q]at h;exact h
 |no=>rw[q]at h;exact h.elim
 |ex C ρ'=>
  rw[q]at h;dsimp only at h;cases qf:f C with
  |none=>rw[qf]at h;exact h.elim
  |some b=>
   cases b with
   |false=>rw[qf]at h;exact h.elim
   |true=>
    rw[qf]at h;dsimp only at h;have way8:(∃ρ'',gs (ρ'.set i (some (.val (.exc C))))=.nx ρ'')\/∃d,gs (ρ'.set i (some (.val (.exc C))))=.rt d:=by cases qs:gs (ρ'.set i (some (.val (.exc C)))) <;> rw[qs]at h <;> first|exact .inl ⟨_,rfl⟩|exact .inr ⟨_,rfl⟩|exact h.elim
    ·intro e s' fl;obtain⟨σ',H₁,pins₁,s₁,a,rfl,J0,way⟩:=fl;have J₁:=back J0;have cont:∀{ch:List Addr}{H' G':Hp}{s':Shared}{B:Heap}{a0:Value}{h₄:Heap},(∀b∈ch,Ol X pins b)->s'.os=s₁.os->AllBare s'.gens->Un (frs X.stack) ch H₁ H' s₁.heap s'.heap->HOk X.prog X.w H' s'.heap->H' a=none->s₁.heap.get? a=none->StR X.K G₀ H₀ G' H' σ' ρ'->
       (∀b o,b∉frs X.stack->((∃o0,s₁.heap.get? b=some o0)\/∃u,H' b=some u)->s'.heap.get? b=some o->B.get? b=some o)->Heap.HeldW B (X.env::X.outer) a (.ref C) a0 X.env.locals h₄->s'.heap.UpToSlots h₄->
       wpAny (model X.prog X.w) X.A (setFlight (.ref a) none) (λ_ s₃=>wpAny (model X.prog X.w) X.A (handleBy (.ref a) X.env [.ExceptHandler (some (.Name tn tp)) (some nm) (b₀::suite) hp]) (SP X pins D) X.xe s₃) X.xe { s' with heap:=h₄ }:=by
      intro ch H' G' s' B a0 h₄ hch os bare un hok ha hnew up hk held sm;have J':=J₁.call' os un hok bare hch;have dat:∀b∈frs X.stack,∀o,s'.heap.get? b=some o->∀vs,o.data≠.fields vs:=λb hb o e=>by obtain⟨o',e',d',_⟩:=FunFrames.data J'.stack b hb;rw[e]at e';cases e';exact d'
      have at_:∀{h5:Heap},B.StaysIn h5->s'.heap.UpToSlots h5->Un (frs X.stack) ch H₁ H' s₁.heap h5/\HOk X.prog X.w H' h5:=λ{h5} hb5 sm5=>⟨un.flight hb5 sm5 hk (λb o e=>⟨o,e⟩) (λb hb=>.inl hb) dat,hok.flight hb5 hk J'.stkFree⟩
      refine wpAny_landsW held λh₅ fl₅ sm₅=>?_;obtain⟨un₅,hok₅⟩:=at_ fl₅.1 (sm.trans sm₅);have J₅:Inv X pins σ' H' { s' with heap:=h₅ }:=J₁.call' os un₅ hok₅ bare hch;have S₅:Inv (ny X a λ_ _=>False) pins σ' H' { s' with heap:=h₅ }:=J₅.cx (λp q=>q) rfl (λz=>by cases z);obtain⟨ob,hob,hobc⟩:=fl₅.there;refine wpAny_handleBy_cons (codeAny_handlers_test (oJ S₅ hg hm ?_ hdb)) (by intro z;cases z);refine(PySem.W.exm_one S₅.kIn (hobc▸(PySem.W.Looks.ld hob).andThen .now) (hf C qf)).here ?_;refine codeAny_handlers_suite_as ?_;refine lands_againW fl₅ λh₆ fl₆ sm₆=>?_;obtain⟨un₆,hok₆⟩:=at_ fl₆.1 ((sm.trans sm₅).trans sm₆);obtain⟨ob6,hob6,hobc6⟩:=fl₆.there;have hokA:HOk X.prog X.w (upd H' a (.ext (jZ a C))) h₆:=λb o e=>by
       by_cases eb:b=a;·subst eb;rw[aY]at e;cases e;exact⟨⟨ob6,hob6,hobc6⟩,⟨ob6,hob6⟩,λh1 h2 ⟨ob,e1,e2⟩ k=>⟨ob,k _ e1,e2⟩⟩
       ·rw[aM eb]at e;refine(hok₆ b o e).stay (λ_ _ _ z=>z) (λc z=>?_) (λc xs z=>?_) (λc ob u z=>?_)
        case refine_3=>rw[aM (aF z ha)];exact z
        ·rw[aM (aF z ha)];exact z
        ·rw[aM (aF z ha)];exact z
      have unA:Un (frs X.stack) ch H₁ (upd H' a (.ext (jZ a C))) s₁.heap h₆:=by
       refine⟨un₆.keep,un₆.slot,λb o e n x=>?_,un₆.there,λb xs z=>?_,λb o u z=>?_,λb ps z=>?_⟩;·rw[aM (λz=>by rw[z,hnew]at e;cases e)];exact un₆.free b o e n x
       ·have:=un₆.tups b xs z;rw[aM (aF this ha)];exact this
       ·have:=un₆.frzs b o u z;rw[aM (aF this ha)];exact this
       ·obtain⟨more,this⟩:=un₆.tbls b ps z;exact⟨more,by rw[aM (aF this ha)];exact this⟩
      have J₆:Inv X pins σ' (upd H' a (.ext (jZ a C))) { s' with heap:=h₆ }:=J₁.call' os unA hokA bare hch;have upA:Up G' H' (upd G' a (.ext (jZ a C))) (upd H' a (.ext (jZ a C))):=.new up.e.sub ha;have S₆:Inv (ny X a λ_ _=>False) pins σ' (upd H' a (.ext (jZ a C))) { s' with heap:=h₆ }:=J₆.cx (λp q=>q) rfl (λz=>by cases z);refine mK (X:=ny X a λ_ _=>False) S₆ hN hi (.inl hx) (v:=.ref a) rfl (λs₇ S₇=>?_) (.inr hx);have sr7:=(up.ups upA).set (.exc aY:Rep X.K (upd G' a (.ext (jZ a C))) (.ref a) (.exc C)) i;refine vV (hh a (λ_ _=>False) G₀ H₀ pins s₇ _ _ { nx:=λσ₈ H₈=>∃ρ'' G₈,gs (ρ'.set i (some (.val (.exc C))))=.nx ρ''/\StR X.K G₀ H₀ G₈ H₈ σ₈ ρ'',rt:=λv H₈=>∃d G₈,gs (ρ'.set i (some (.val (.exc C))))=.rt d/\Up G₀ H₀ G₈ H₈/\Rep X.K G₈ v d } S₇ ⟨_,_,sr7,by
       rcases way8 with⟨ρ'',qs⟩|⟨d,qs⟩;·rw[qs];exact λσ₈ G₈ H₈ sr8=>⟨ρ'',G₈,rfl,sr8⟩
       ·rw[qs];exact λv G₈ H₈ u8 rp8=>⟨d,G₈,rfl,u8,rp8⟩⟩) (λfl s₈ q8=>?_) λ_ _ z=>z.elim;cases fl with
      |next=>
       obtain⟨σ₈,H₈,S₈,ρ'',G₈,qs,sr8⟩:=q8;rw[qs]at h;have J₈:=(S₈.cx (λp q=>q) rfl I.ok.hd:Inv { (ny X a λ_ _=>False)with A:=X.A,calm:=X.calm,pn:=X.pn,xe:=X.xe } pins _ _ _)
       refine z8 (Z4 (lg J₈ hN hi (.inl hx) (v:=.non) rfl (λs₉ J₉ _=>?_) (.inr hx)));obtain⟨m9,hn9,hl9⟩:=id J₉.loc;have hlt:i<σ₈.length:=by rw[J₈.len];exact(vc.mp hi).1
       obtain⟨u9,r9,lk9⟩:=hl9 i nm .non hi (by rw[vE hlt]) (.inl hx);have hv9:m9 nm=some u9:=by
        rcases lk9 with⟨_,e⟩|⟨k,_⟩;·exact e
        ·have k':X.env.scope.names.lookup nm=some .cell\/X.env.scope.names.lookup nm=some .free:=k;rw[hx]at k';rcases k' with k'|k' <;> cases k'
       refine wpAny_onRaise (wpAny_unbindName_local hx hn9 hv9 (by rw[hkd];rfl) λh10 u10 hn10 sb10=>?_);have J10:=J₉.unset hN hi hl9 hn10 sb10;refine⟨_,_,J10,?_⟩;have e10:(σ₈.set i (some V.non)).set i none=σ₈.set i none:=by rw[kj]
       rw[e10];refine h _ G₈ _ ?_;have get:∀(j:Nat) x,(ρ''.set i none)[j]?=some (some x)->j≠i/\ρ''[j]?=some (some x)/\(σ₈.set i none)[j]?=σ₈[j]?:=λj x e=>by
        by_cases ej:i=j;·subst ej;rw[Zh]at e;simp only[vP]at e;split at e <;> cases e
        ·rw[uA ej]at e;exact⟨λz=>ej z.symm,e,uA ej⟩
       have ob:ObSt X.K H₀ G₈ H₈ (σ₈.set i none) (ρ''.set i none):=by
        obtain⟨ow,o1,o2⟩:=sr8.ob;refine⟨ow,λj ds l e1 e2=>?_,λj m C p fs e1=>?_⟩;·obtain⟨_,f1,f2⟩:=get j _ e1;exact o1 j ds l f1 (f2▸e2)
        ·obtain⟨_,f1,f2⟩:=get j _ e1;rw[f2];exact o2 j m C p fs f1
       refine⟨⟨sr8.e.sub,by simp[sr8.e.len],λj d e=>?_,ob.rd⟩,sr8.sub0,sr8.up,λj ds e=>?_,λj k ds es l e1 e2 e3 e4=>?_,ob⟩;·obtain⟨_,e1,e2⟩:=get j _ e;rw[e2];exact sr8.e.val j d e1
       ·obtain⟨_,e1,e2⟩:=get j _ e;rw[e2];exact sr8.own j ds e1
       ·obtain⟨_,f1,f2⟩:=get j _ e1;obtain⟨_,f3,f4⟩:=get k _ e2;exact sr8.inj j k ds es l f1 f3 (f2▸e3) (f4▸e4)
      |brk=>obtain⟨_,_,_,z⟩:=q8;exact z.elim
      |cont=>obtain⟨_,_,_,z⟩:=q8;exact z.elim
      |ret u=>
       obtain⟨v,σ₈,H₈,S₈,r8,d,G₈,qs,u8,rp8⟩:=q8;rw[qs]at h;have J₈:=(S₈.cx (λp q=>q) rfl I.ok.hd:Inv { (ny X a λ_ _=>False)with A:=X.A,calm:=X.calm,pn:=X.pn,xe:=X.xe } pins _ _ _)
       refine z8 (Z4 (lg J₈ hN hi (.inl hx) (v:=.non) rfl (λs₉ J₉ _=>?_) (.inr hx)));obtain⟨m9,hn9,hl9⟩:=id J₉.loc;have hlt:i<σ₈.length:=by rw[J₈.len];exact(vc.mp hi).1
       obtain⟨u9,r9,lk9⟩:=hl9 i nm .non hi (by rw[vE hlt]) (.inl hx);have hv9:m9 nm=some u9:=by
        rcases lk9 with⟨_,e⟩|⟨k,_⟩;·exact e
        ·have k':X.env.scope.names.lookup nm=some .cell\/X.env.scope.names.lookup nm=some .free:=k;rw[hx]at k';rcases k' with k'|k' <;> cases k'
       refine wpAny_onRaise (wpAny_unbindName_local hx hn9 hv9 (by rw[hkd];rfl) λh10 u10 hn10 sb10=>?_);have J10:=J₉.unset hN hi hl9 hn10 sb10;exact⟨v,_,_,J10,r8,h v G₈ _ u8 rp8⟩
     have hfrm:X.A.frames=some (X.env::X.outer):=by rw[<- hst];exact I.ok.frames
     rcases way with⟨G₁,h',vs,sr',made,rfl⟩|⟨G',H',⟨os,bare,un,hok,ha,B,a0,fl,hk⟩,up⟩|⟨G',H',L',hL,⟨os,bare,⟨ch,hch,un⟩,hok,ha,hna,B,a0,fl,hk⟩,up⟩
     ·have hin:∀env∈X.stack,∀b,env.frame=some b->b∈frs X.stack:=λenv he b hb=>l7.mpr ⟨env,he,hb⟩;have ha:H₁ a=none:=by
       cases q:H₁ a with
       |none=>rfl
       |some u=>obtain⟨ob,e⟩:=(J₁.hok a u q).there;rw[made.new]at e;cases e
      obtain⟨t,he,htn,ht⟩:=made.there;have hkb:(PySem.W.hideAll s₁.heap (frs X.stack)).StaysIn h':=λb o q=>made.keeps b o (ZP _ q);have hen:(PySem.W.hideAll s₁.heap (frs X.stack)).get? a=none:=by
       cases q:(PySem.W.hideAll s₁.heap (frs X.stack)).get? a with
       |none=>rfl
       |some o=>have:=ZP _ q;rw[made.new]at this;cases this
      have hff:h'.FunFrames (PySem.W.hideAll s₁.heap (frs X.stack)) (X.env::X.outer):=by rw[<- hst];exact(PySem.W.funFrames_hide J₁.stack hin).of_keeps λb o hb _=>⟨o,made.keeps b o hb,rfl⟩
      unfold noteFrame;simp only[hfr];refine z8 (qO (show({ s₁ with heap:=h' }:Shared).heap.get? a=some _ from he) rfl (x:=.none) rfl ?_);refine wpAny_entryW hfrm hff hfr he hkb hen rfl (by show 1<6;decide) rfl λh₄ noted=>?_;obtain⟨n1,n2,n3,n4⟩:=noted;refine cont (ch:=[]) (λb z=>absurd z (by simp)) rfl J₁.bare (Un.kept made.keeps) (J₁.hok.kept made.keeps) ha made.new sr' (λb o hb ho e=>?_) ⟨n1,hen,n2,n3⟩ n4;have e1:s₁.heap.get? b=some o:=by
       rcases ho with⟨o0,ho⟩|⟨u,ho⟩;·have q:=made.keeps b o0 ho;have e':=e;rw[q]at e';cases e';exact ho
       ·obtain⟨ob,ho⟩:=(J₁.hok b u ho).there;have q:=made.keeps b ob ho;have e':=e;rw[q]at e';cases e';exact ho
      exact PySem.W.hideAll_get _ e1 hb
     ·have hna:s₁.heap.get? a=none:=by
       cases q:s₁.heap.get? a with
       |none=>rfl
       |some o0=>
        obtain⟨o',e'⟩:=un.there a o0 q (by simp);have hna:a∉frs X.stack:=λz=>by obtain⟨o1,e1,d1,_⟩:=FunFrames.data fl.2.2.1 a z;obtain⟨oe,vs,_,_,_,e2,_,d2,_⟩:=fl.2.2.2;rw[e1]at e2;cases e2;exact d1 vs d2
        have:=hk a o' hna (.inl ⟨o0,q⟩) e';rw[fl.2.1]at this;cases this
      rw[hst]at fl;exact wpAny_looks_onW hfrm hfr fl λh₄ held sm=>cont (λb z=>absurd z (by simp)) os bare un hok ha hna up hk held sm
     ·have hch':∀b∈ch,Ol X pins b:=λb hb=>let⟨c1,c2,c3,c4⟩:=hch b hb;⟨c1,c2,c3,λp hp=>c4 p (my _ hp)⟩;have eL:=wq (hfr.symm.trans hL);rw[hst,<- eL]at fl;exact wpAny_noteFrame_againW hfr fl.2.2.2 (cont hch' os bare un hok ha hna up hk fl λb o hb _=>⟨o.slots,hb⟩)
def Dy(i:Nat)(f:Addr->Option Bool)(hN:X.N.Nodup)(hcalm:X.calm=true)(hst:X.stack=X.env::X.outer)(hfr:X.env.frame=some X.env.locals)(hkd:X.env.scope.kind=.function)(hb:∀pn xe,mL (qb X pn xe) body gb)(hh:∀a xe,mL (ny X a xe) (b₀::suite) gs)(hf:∀C,f C=some true->PySem.W.exmOne X.K (.ref C) (.ref Ct)=some true)(hg:Gl X tn)(hm:X.mg tn=some (.ref Ct))(hi:X.N[i]?=some nm)(hx:X.env.scope.names.lookup nm=some .local)(hdb:(tn==("__debug__":Str))=false:=by decide):
  PSF X (.Try body [.ExceptHandler (some (.Name tn tp)) (some nm) (b₀::suite) hp] [] [] pos) (Ak gb gs f i):=λG₀ H₀ pins s σ H D I h=>
 Ex (λ_=>True) i f hN hcalm hst hfr hkd G₀ H₀ (λpn xe pins s σ H D I h=>hb pn xe G₀ H₀ pins s σ H D I h.2) hh hf hg hm hi hx hdb pins s σ H D I ⟨True.intro,h⟩
end
structure Callee(P:Program)(w:World)(K:PySem.W.Frag)(mg:Str->Option Value)(base:Heap)(x:Str)(k n:Nat)(g:List D->R D):Prop where
 ex:∃f fd ps,FnF P w K mg base k f fd ps g/\mg x=some (.ref f)/\PySem.W.keepIn K (.ref f)=true/\Binds K fd ps []/\ps.length=n
def C2{n:Nat}{e:Expr}(c:Callee X.prog X.w X.K X.mg X.base x k n g)(hr:Room k X.A)(ha:PFA X (e::es) gl)(hg:Gl X x:=by rfl)(hdb:(x==("__debug__":Str))=false:=by decide)(he:starEach (e::es) X.env=(false,eval e X.env)::starEach es X.env:=by rfl)(hpl:(backTo pos (starEach es X.env)).any (·.1)=false:=by rfl):
  PF X (.Call (.Name x p) (e::es) [] pos) (λρ=>gl ρ>>=λds=>if ds.length=n then g ds else .no):=by
 obtain⟨f,fd,ps,F,hm,hk,hb,rfl⟩:=c.ex;exact Ho F hr hg hm hk hb ha hdb he hpl
def FnF.to{w:World}{K:PySem.W.Frag}{mg:Str->Option Value}{base:Heap}{g':List D->R D}(F:FnF P w K mg base k f fd ps g)(h:∀ds,ds.length=ps.length->g' ds=.no\/g ds=g' ds):FnF P w K mg base k f fd ps g':=by
 refine F.imp λvs H Q E ⟨hl,G,ds,sub,r,q⟩=>⟨hl,G,ds,sub,r,?_⟩
 rcases h ds (by rw[<- r.length];exact hl)with z|z;·rw[z]at q;exact q.elim
 ·rw[z];exact q
def Fun.callee{w:World}{K:PySem.W.Frag}{mg:Str->Option Value}{base:Heap}(F:Fun K x x st f fd)(hm:mg x=some (.ref f))(ok:FnF P w K mg base k f fd ps g)(h:∀(kV doc pm:Value)(an:Option Addr)(cdv ct:Value)(us:List Value),us.length=ps.length->bindArgs (PySem.W.fnOf x x (kr st) (db st) (am st) .none kV doc pm an cdv ct) ⟨us,[]⟩=pure (ps.zip us)):Callee P w K mg base x k ps.length g:=
 ⟨f,fd,ps,ok,hm,F.kp,F.binds h,rfl⟩
def iX{T:String}{f:String->Bool}(h:∀K:PySem.W.Frag,PySem.W.kitOne K (.type "NoneType") (.type T)=some (f "NoneType")/\PySem.W.kitOne K (.type "bool") (.type T)=some (f "bool")/\PySem.W.kitOne K (.type "int") (.type T)=some (f "int")/\
 PySem.W.kitOne K (.type "str") (.type T)=some (f "str")/\PySem.W.kitOne K (.type "tuple") (.type T)=some (f "tuple")/\PySem.W.kitOne K (.type "list") (.type T)=some (f "list")):
  ∀K:PySem.W.Frag,∀t∈["NoneType","bool","int","str","tuple","list"],PySem.W.kitOne K (.type t) (.type T)=some (f t):=λK t ht=>by
 obtain⟨h1,h2,h3,h4,h5,h6⟩:=h K;simp only[zL,kG,j0]at ht;rcases ht with rfl|rfl|rfl|rfl|rfl|rfl <;> assumption
def isInt(t:String):Bool:=t=="int" || t=="bool"
section
variable{e:Expr}{ga:Ev->R D}{p2:Pos}
def C5(hm:X.mg "isinstance"=none)(ha:PF X e ga)(hm2:X.mg "int"=none)(hg2:Gl X "int":=by rfl)(hg:Gl X "isinstance":=by rfl)(hs1:starEach [e,.Name "int" p2] X.env=(false,eval e X.env)::starEach [.Name "int" p2] X.env:=by rfl):PF X (.Call (.Name "isinstance" p) [e,.Name "int" p2] [] pos) (λρ=>ga ρ>>=gj isInt):=
 oY isInt (iX λK=>⟨rfl,rfl,rfl,rfl,rfl,rfl⟩) hg hm hg2 hm2 PyProof.Rows.Boot.«int» ha hs1
def Ar(hm:X.mg "isinstance"=none)(ha:PF X e ga)(hm2:X.mg "bool"=none)(hg2:Gl X "bool":=by rfl)(hg:Gl X "isinstance":=by rfl)(hs1:starEach [e,.Name "bool" p2] X.env=(false,eval e X.env)::starEach [.Name "bool" p2] X.env:=by rfl):PF X (.Call (.Name "isinstance" p) [e,.Name "bool" p2] [] pos) (λρ=>ga ρ>>=gj (·=="bool")):=
 oY (·=="bool") (iX λK=>⟨rfl,rfl,rfl,rfl,rfl,rfl⟩) hg hm hg2 hm2 PyProof.Rows.Boot.«bool» ha hs1
def EB(hm:X.mg "isinstance"=none)(ha:PF X e ga)(hm2:X.mg "str"=none)(hg2:Gl X "str":=by rfl)(hg:Gl X "isinstance":=by rfl)(hs1:starEach [e,.Name "str" p2] X.env=(false,eval e X.env)::starEach [.Name "str" p2] X.env:=by rfl):PF X (.Call (.Name "isinstance" p) [e,.Name "str" p2] [] pos) (λρ=>ga ρ>>=gj (·=="str")):=
 oY (·=="str") (iX λK=>⟨rfl,rfl,rfl,rfl,rfl,rfl⟩) hg hm hg2 hm2 PyProof.Rows.Boot.«str» ha hs1
def zg(hm:X.mg "isinstance"=none)(ha:PF X e ga)(hm2:X.mg "tuple"=none)(hg2:Gl X "tuple":=by rfl)(hg:Gl X "isinstance":=by rfl)(hs1:starEach [e,.Name "tuple" p2] X.env=(false,eval e X.env)::starEach [.Name "tuple" p2] X.env:=by rfl):PF X (.Call (.Name "isinstance" p) [e,.Name "tuple" p2] [] pos) (λρ=>ga ρ>>=gj (·=="tuple")):=
 oY (·=="tuple") (iX λK=>⟨rfl,rfl,rfl,rfl,rfl,rfl⟩) hg hm hg2 hm2 PyProof.Rows.Boot.«tuple» ha hs1
def Cc(hm:X.mg "isinstance"=none)(ha:PF X e ga)(hm2:X.mg "list"=none)(hg2:Gl X "list":=by rfl)(hg:Gl X "isinstance":=by rfl)(hs1:starEach [e,.Name "list" p2] X.env=(false,eval e X.env)::starEach [.Name "list" p2] X.env:=by rfl):PF X (.Call (.Name "isinstance" p) [e,.Name "list" p2] [] pos) (λρ=>ga ρ>>=gj (·=="list")):=
 oY (·=="list") (iX λK=>⟨rfl,rfl,rfl,rfl,rfl,rfl⟩) hg hm hg2 hm2 PyProof.Rows.Boot.«list» ha hs1
end
def bS(ga:Ev->R D):Ev->O:=λρ=>(ga ρ).out ρ .rt
def ax(g1 g2:Ev->O):Ev->O:=λρ=>(g1 ρ).seq g2
noncomputable def oIf(gt:Ev->R Bool)(g1 g2:Ev->O):Ev->O:=λρ=>(gt ρ).out ρ λk=>if k=true then g1 ρ else g2 ρ
def oNx:Ev->O:=λρ=>.nx ρ
noncomputable def cN(i:Nat)(ga:Ev->R D):Ev->O:=λρ=>(ga ρ).out ρ λd=>.nx (ρ.set i (some (.val d)))
noncomputable def yh(i:Nat)(gl:Ev->R (List D)):Ev->O:=λρ=>(gl ρ).out ρ λds=>.nx (ρ.set i (some (.own ds)))
def oX(ga:Ev->R D):Ev->O:=λρ=>(ga ρ).out ρ λ_=>.nx ρ
noncomputable def pN(asg:D->Ev->R Ev)(gi:Ev->R (List D))(g:Ev->O):Ev->O:=λρ=>(gi ρ).out ρ λitems=>cO asg g items ρ
noncomputable def ml(C:Addr)(gl:Ev->R (List D)):Ev->O:=λρ=>(gl ρ).out ρ λ_=>.ex C ρ
noncomputable def Ix(asg:D->Ev->R Ev)(ga:Ev->R D):Ev->O:=λρ=>(ga ρ).out ρ λd=>(asg d ρ).out ρ .nx
def zC(i:Nat)(g:Ev->O):Ev->O:=λρ=>g (frz i ρ)
def av{α β:Type}(f:α->R β)(ga:Ev->R α):Ev->R β:=λρ=>ga ρ>>=f
noncomputable def gOf(f:List D->Option D)(gl:Ev->R (List D)):Ev->R D:=λρ=>gl ρ>>=λds=>ofO (f ds)
noncomputable def ac(ga:Ev->R D)(gl:Ev->R (List D)):Ev->R (List D):=λρ=>ga ρ>>=λx=>gl ρ>>=λxs=>.ok (x::xs)
noncomputable def aA(n:Nat)(g:List D->R D)(gl:Ev->R (List D)):Ev->R D:=λρ=>gl ρ>>=λds=>if ds.length=n then g ds else .no
noncomputable def bf(gl:Ev->R (List D)):Ev->R D:=λρ=>gl ρ>>=λds=>.ok (.lst false ds)
noncomputable def jU(gl:Ev->R (List D)):Ev->R (List D):=λρ=>gl ρ>>=λds=>if ds.length<=sizeLine then .ok ds else .no
noncomputable def gB2(f:D->D->Option D)(ga gb:Ev->R D):Ev->R Bool:=λρ=>g2 f ga gb ρ>>=asB
noncomputable def gB3(f f':D->D->Option D)(ga gb gc:Ev->R D):Ev->R Bool:=λρ=>g3 f f' ga gb gc ρ>>=asB
def gBn(gt:Ev->R Bool):Ev->R Bool:=λρ=>gt ρ>>=λk=>.ok (!k)
noncomputable def fm(ga:Ev->R D):Ev->R (Option Int):=λρ=>ga ρ>>=λx=>asI x>>=λi=>.ok (some i)
noncomputable def jO(T:String)(f:D->List D->Option D)(ga:Ev->R D)(gl:Ev->R (List D)):Ev->R D:=λρ=>ga ρ>>=λx=>if kY T x=true then gl ρ>>=λds=>ofO (f x ds)else .no
def Callee.mono{w:World}{K:PySem.W.Frag}{mg:Str->Option Value}{base:Heap}{n:Nat}(c:Callee P w K mg base x k n g)(k':Nat)(h:k<=k':=by decide):Callee P w K mg base x k' n g:=by obtain⟨f,fd,ps,F,hm,hk,hb,e⟩:=c.ex;exact⟨f,fd,ps,{ F with run:=λA outer s H args us vs Q E hr=>F.run A outer s H args us vs Q E (hr.mono h) },hm,hk,hb,e⟩
section
variable{eN body sa sb:List Stmt}{e a b c o tg:Expr}{g gs1 gs2:Ev->O}{ga gc:Ev->R D}{gt:Ev->R Bool}{p2:Pos}
def ah(h1:PSF X st gs1)(h2:mL X eN gs2):mL X (st::eN) (ax gs1 gs2):=yZ h1 h2
def ay:mL X [] oNx:=Cg
def aV(he:PF X e ga):PSF X (.Return (some e) pos) (bS ga):=EC he
def fA(hc:PB X c gt)(ha:mL X sa gs1)(hb:mL X sb gs2):PSF X (.If c sa sb pos) (oIf gt gs1 gs2):=HH hc ha hb
def GT(i:Nat)(hN:X.N.Nodup)(he:PF X e ga)(hi:X.N[i]?=some x:=by rfl)(hx:Loc X.env.scope x:=by first|exact Or.inl rfl|exact Or.inr rfl)(hs:swapsWithSole [.Name x p] e pos.line X.env=pure false:=by rfl)(hw:swappedStores [.Name x p] e X.env=pure none:=by rfl)(hf:X.fn x=true\/X.env.scope.names.lookup x=some .local:=by first|exact .inl rfl|exact .inr rfl):
  PSF X (.Assign [.Name x p] e pos) (cN i ga):=Ea i hN he hi hx hs hw hf
def wM(i:Nat)(hN:X.N.Nodup)(he:PFL X e gl)(hi:X.N[i]?=some x:=by rfl)(hx:Loc X.env.scope x:=by first|exact Or.inl rfl|exact Or.inr rfl)(hs:swapsWithSole [.Name x p] e pos.line X.env=pure false:=by rfl)(hw:swappedStores [.Name x p] e X.env=pure none:=by rfl)(hf:X.fn x=true\/X.env.scope.names.lookup x=some .local:=by first|exact .inl rfl|exact .inr rfl):
  PSF X (.Assign [.Name x p] e pos) (yh i gl):=Da i hN he hi hx hs hw hf
def kU(he:PF X e ga)(hs:swapsWith e none pos.line X.env=pure false:=by rfl):PSF X (.Expr e pos) (oX ga):=AD he hs
def lV(hp:PassesOwn (model X.prog X.w) X.A X.env X.xe)(hcalm:X.calm=true)(hi:PIF X tg iter gi)(hg:PGF X tg asg)(hb:mL X body g)(hs:∀x,foldedSetIterable iter X.env x=pure x:=by intro _;rfl)(hn:∀d ρ C,asg d ρ≠.ex C:=by intro _ _ _ z;cases z):PSF X (.For tg iter body [] pos) (pN asg gi g):=DT hp hcalm hi hg hb hs hn
def cD(hg:Gl X "len")(hm:X.mg "len"=none)(ha:PFA X [e] gl)(he:starEach [e] X.env=[(false,eval e X.env)]:=by rfl):PF X (.Call (.Name "len" p) [e] [] pos) (gOf de gl):=JR hg hm ha he
def Hy(hc:X.calm=true)(hg:Gl X "all")(hm:X.mg "all"=none)(ha:PFA X [e] gl)(he:starEach [e] X.env=[(false,eval e X.env)]:=by rfl):PF X (.Call (.Name "all" p) [e] [] pos) (gOf CB gl):=J8 hc hg hm ha he
def aa(ha:PF X e ga)(hr:PFA X es gl)(hs:starEach (e::es) X.env=(false,eval e X.env)::starEach es X.env:=by rfl):PFA X (e::es) (ac ga gl):=D4 ha hr hs
def az{n:Nat}{f:List D->R D}(c:Callee X.prog X.w X.K X.mg X.base x k n f)(hr:Room k X.A)(ha:PFA X (e::es) gl)(hg:Gl X x:=by rfl)(hdb:(x==("__debug__":Str))=false:=by decide)(he:starEach (e::es) X.env=(false,eval e X.env)::starEach es X.env:=by rfl)(hpl:(backTo pos (starEach es X.env)).any (·.1)=false:=by rfl):
  PF X (.Call (.Name x p) (e::es) [] pos) (aA n f gl):=C2 c hr ha hg hdb he hpl
def fb{gens:List Comprehension}{sc:Scope}(h:PFL X (.ListComp e gens sc pos) gl):PF X (.ListComp e gens sc pos) (bf gl):=yc h
def dN(h:PFL X (.List es pos) gl):PF X (.List es pos) (bf gl):=yc h
def eY(h:PFA X es gl):PFL X (.List es pos) (jU gl):=G9 h
def cS(h:PFA X es gl):PF X (.Tuple es k pos) (av mkT gl):=J6 h
def GU(ha:PF X a ga):PF X (.UnaryOp .USub a pos) (av CC ga):=LF ha
def wf(hm:X.mg "isinstance"=none)(ha:PF X e ga)(hm2:X.mg "int"=none)(hg2:Gl X "int":=by rfl)(hg:Gl X "isinstance":=by rfl)(hs1:starEach [e,.Name "int" p2] X.env=(false,eval e X.env)::starEach [.Name "int" p2] X.env:=by rfl):PF X (.Call (.Name "isinstance" p) [e,.Name "int" p2] [] pos) (av (gj isInt) ga):=C5 hm ha hm2 hg2 hg hs1
def xB(hm:X.mg "isinstance"=none)(ha:PF X e ga)(hm2:X.mg "bool"=none)(hg2:Gl X "bool":=by rfl)(hg:Gl X "isinstance":=by rfl)(hs1:starEach [e,.Name "bool" p2] X.env=(false,eval e X.env)::starEach [.Name "bool" p2] X.env:=by rfl):PF X (.Call (.Name "isinstance" p) [e,.Name "bool" p2] [] pos) (av (gj (·=="bool")) ga):=Ar hm ha hm2 hg2 hg hs1
def vM(hm:X.mg "isinstance"=none)(ha:PF X e ga)(hm2:X.mg "str"=none)(hg2:Gl X "str":=by rfl)(hg:Gl X "isinstance":=by rfl)(hs1:starEach [e,.Name "str" p2] X.env=(false,eval e X.env)::starEach [.Name "str" p2] X.env:=by rfl):PF X (.Call (.Name "isinstance" p) [e,.Name "str" p2] [] pos) (av (gj (·=="str")) ga):=EB hm ha hm2 hg2 hg hs1
def dR(hm:X.mg "isinstance"=none)(ha:PF X e ga)(hm2:X.mg "tuple"=none)(hg2:Gl X "tuple":=by rfl)(hg:Gl X "isinstance":=by rfl)(hs1:starEach [e,.Name "tuple" p2] X.env=(false,eval e X.env)::starEach [.Name "tuple" p2] X.env:=by rfl):PF X (.Call (.Name "isinstance" p) [e,.Name "tuple" p2] [] pos) (av (gj (·=="tuple")) ga):=zg hm ha hm2 hg2 hg hs1
def dg(h:PF X e ga):PFO X (some e) (fm ga):=EG h
def BN(ha:PF X a ga)(hb:PF X b gb):PB X (.Compare a [.Lt] [b] pos) (gB2 ltD ga gb):=MW ha hb
def Jc(ha:PF X a ga)(hb:PF X b gb):PB X (.Compare a [.LtE] [b] pos) (gB2 leD ga gb):=NQ ha hb
def pS(ha:PF X a ga)(hb:PF X b gb):PB X (.Compare a [.Gt] [b] pos) (gB2 gtD ga gb):=Og ha hb
def lL(hu:X.A.units+64<cLine)(ha:PF X a ga)(hb:PF X b gb):PB X (.Compare a [.Eq] [b] pos) (gB2 eqF ga gb):=MO hu ha hb
def fO(hu:X.A.units+64<cLine)(ha:PF X a ga)(hb:PF X b gb):PB X (.Compare a [.NotEq] [b] pos) (gB2 neF ga gb):=Ml hu ha hb
def IH(ha:PF X a ga)(hb:PF X b gb):PB X (.Compare a [.Is] [b] pos) (gB2 isF ga gb):=N0 ha hb
def wR(ha:PF X a ga)(hb:PF X b gb)(hc:PF X c gc)(hm:lastMarks [.LtE,.LtE] [b,c]=false:=by with_unfolding_all rfl):PB X (.Compare a [.LtE,.LtE] [b,c] pos) (gB3 leD leD ga gb gc):=H9 ha hb hc hm
def di(ha:PB X a gt):PB X (.UnaryOp .Not a pos) (gBn gt):=Jz ha
def da(h:PF X (.Call a es [] pos) ga):PB X (.Call a es [] pos) (av iV ga):=A3 h
def gO{op:BoolOp}(h:PBW X (.BoolOp op es pos) gt):PB X (.BoolOp op es pos) gt:=λpins s σ H Q I q=>h _ pins s σ H Q I q
def sH{ap cp:Pos}(ho:PF X o ga)(ha:PFA X [e] gl)(hbase:attributeBase o "rstrip" X.env (eval o X.env)=eval o X.env:=by rfl)(hfew:((backTo cp (starEach [e] X.env)).all (λx=>!x.1) && (backToKw cp (keywordEach [] X.env)).all (λx=>x.1.isSome)
 && decide ([e].length+([]:List Keyword).length+(if ([]:List Keyword).isEmpty then 0 else 1)<30))=true:=by rfl)(hline:(ap.endLine==cp.line)=true:=by rfl)(hs:starEach [e] X.env=(false,eval e X.env)::starEach [] X.env:=by rfl):
  PF X (.Call (.Attribute o "rstrip" ap) [e] [] cp) (jO "str" eP ga gl):=BW ho ha hbase hfew hline hs
def dY(ha:PF X a ga):PIF X tg a (av bz ga):=Ij ha
def gh(hg:Gl X "range")(hm:X.mg "range"=none)(ha:PFA X [a] gl)(hs:starEach [a] X.env=[(false,eval a X.env)]:=by rfl):PIF X tg (.Call (.Name "range" p) [a] [] pos) (av bC gl):=zz hg hm ha hs
end
@[simp] theorem R.ok_out{α:Type}(a:α)(ρ:Ev)(k:α->O):(R.ok a).out ρ k=k a:=rfl
@[simp] theorem R.ex_out{α:Type}(C:Addr)(ρ:Ev)(k:α->O):(R.ex C:R α).out ρ k=.ex C ρ:=rfl
@[simp] theorem mZ{α:Type}(a:α):jC (R.ok a)=R.ok a:=rfl
theorem ja{gt:Ev->R Bool}{ge:Ev->R D}(p:D->Bool)(h:D->D)(tl:Ev):∀(ds:List D)(a:Option Sl),(∀d∈ds,gt (some (.val d)::tl)=.ok (p d)/\(p d=true->ge (some (.val d)::tl)=.ok (h d)))->dI gt ge ds (a::tl)=.ok ((ds.filter p).map h)
 | [],a,_=>rfl
 |d::ds,a,H=>by
  have ih:=ja p h tl ds (some (.val d)) λx m=>H x (zF _ m);obtain⟨e1,e2⟩:=H d (zx ..);show(jC (gt (some (.val d)::tl))>>=λk=>if k=true then jC (ge (some (.val d)::tl))>>=λx=>dI gt ge ds (some (.val d)::tl)>>=λxs=>.ok (x::xs)else dI gt ge ds (some (.val d)::tl))=_;rw[e1,mZ,R.ok_bind,ih];cases q:p d with
  |true=>rw[if_pos rfl,e2 q,mZ,R.ok_bind,R.ok_bind,dj q];rfl
  |false=>rw[if_neg rH,dq (by rw[q];exact rH)]
def jl{gt:Ev->R Bool}(h:D->D)(tl:Ev)(ds:List D)(a:Option Sl)(H:∀d∈ds,gt (some (.val d)::tl)=.ok true/\ge (some (.val d)::tl)=.ok (h d)):dI gt ge ds (a::tl)=.ok (ds.map h):=by rw[ja (λ_=>true) h tl ds a λd m=>⟨(H d m).1,λ_=>(H d m).2⟩,List.filter_eq_self.2 λ_ _=>rfl]
theorem xW(f:D->Bool):∀ds:List D,yi (ds.map λd=>.bl (f d))=some (ds.map f)
 | []=>rfl
 |d::ds=>by
  have ih:=xW f ds;unfold yi
  first|(rw[ih];rfl)|(simp only[ih];rfl)|simp[ih]
def sJ(f:D->Bool)(k:Bool)(ds:List D):CB [.lst k (ds.map λd=>.bl (f d))]=some (.bl (ds.all f)):=by show(yi (ds.map λd=>.bl (f d))).map _=_;rw[xW];show some (D.bl ((ds.map f).all id))=_;rw[List.all_map];rfl
def BH(a b:Nat):(!decide (([b]:List Nat)<[a]))=decide (a<=b):=by
 have:(([b]:List Nat)<[a]) ↔ b<a:=by
  constructor
  ·intro h;cases h with
   |rel h=>exact h
   |cons h=>cases h
  ·intro h;exact .rel h
 by_cases h:a<=b
 ·have h2 : ¬ ([b]:List Nat)<[a]:=λq=>by have:=this.1 q;omega
  simp[h,h2]
 ·have h2:=this.2 (by omega);simp[h,h2]
def cM{N':List Str}(hk:scope.kind=.function:=by rfl)(h1:(∀y∈scope.names,y.2≠.cell)/\(∀y∈scope.names,y.2=.local->scope.names.lookup y.1=some .local)/\scope.names.lookup x=some .local/\(∀y∈scope.names,y.2=.free->y.1∈N'.tail)/\N'.Nodup/\N'[0]?=some x/\
 ∀y∈N'.tail,scope.names.lookup y=some .free/\(y,NameKind.free)∈scope.names:=by decide +kernel)(h2:N'.tail.map X.env.kindOf=N'.tail.map λ_=>some NameKind.cell:=by rfl)(h3:N'.tail=ix.map (λ(i:Nat)=>X.N.getD i Str.empty):=by rfl)(h4:ix.all (λi=>decide (i<X.N.length))=true:=by rfl):CompOk X scope x N' ix:=by
 obtain⟨a,b,c,d,e,f,g⟩:=h1;refine⟨hk,a,b,c,λy hy h=>?_,e,f,h3,λi hi=>?_,g⟩;·exact List.map_inj_left.1 h2 _ (d y hy h)
 ·exact bY (xp.1 h4 i hi)
def rd0(d:D)(ρ:Ev):rdV (some (.val d)::ρ) 0=.ok d:=rfl
def rd1(a0:Option Sl)(d:D)(ρ:Ev):rdV (a0::some (.val d)::ρ) 1=.ok d:=rfl
def rd2(a0 a1:Option Sl)(d:D)(ρ:Ev):rdV (a0::a1::some (.val d)::ρ) 2=.ok d:=rfl
def rd3(a0 a1 a2:Option Sl)(d:D)(ρ:Ev):rdV (a0::a1::a2::some (.val d)::ρ) 3=.ok d:=rfl
def rd4(a0 a1 a2 a3:Option Sl)(d:D)(ρ:Ev):rdV (a0::a1::a2::a3::some (.val d)::ρ) 4=.ok d:=rfl
def rd5(a0 a1 a2 a3 a4:Option Sl)(d:D)(ρ:Ev):rdV (a0::a1::a2::a3::a4::some (.val d)::ρ) 5=.ok d:=rfl
def rd6(a0 a1 a2 a3 a4 a5:Option Sl)(d:D)(ρ:Ev):rdV (a0::a1::a2::a3::a4::a5::some (.val d)::ρ) 6=.ok d:=rfl
section
variable{f:List D->R D}{ga gc gd:Ev->R D}
def Ac:aA 1 f (ac ga λ_=>.ok []) ρ=ga ρ>>=λx=>f [x]:=by unfold aA ac;cases ga ρ <;> rfl
def Cd:aA 2 f (ac ga (ac gb λ_=>.ok [])) ρ=ga ρ>>=λx=>gb ρ>>=λy=>f [x,y]:=by
 unfold aA ac;cases ga ρ <;> try rfl
 cases gb ρ <;> rfl
def ud:aA 3 f (ac ga (ac gb (ac gc λ_=>.ok []))) ρ=ga ρ>>=λx=>gb ρ>>=λy=>gc ρ>>=λz=>f [x,y,z]:=by
 unfold aA ac;cases ga ρ <;> try rfl
 cases gb ρ <;> try rfl
 cases gc ρ <;> rfl
end
def At(N:List Str)(i:Nat)(x:Str):Prop:=N[i]?=some x
def at0{l:List Str}:At (x::l) 0 x:=rfl
def at1{l:List Str}:At (y0::x::l) 1 x:=rfl
def at2{l:List Str}:At (y0::y1::x::l) 2 x:=rfl
def at3{l:List Str}:At (y0::y1::y2::x::l) 3 x:=rfl
def at4{l:List Str}:At (y0::y1::y2::y3::x::l) 4 x:=rfl
def at5{l:List Str}:At (y0::y1::y2::y3::y4::x::l) 5 x:=rfl
def at6{l:List Str}:At (y0::y1::y2::y3::y4::y5::x::l) 6 x:=rfl
def at7{l:List Str}:At (y0::y1::y2::y3::y4::y5::y6::x::l) 7 x:=rfl
def at8{l:List Str}{y7:Str}:At (y0::y1::y2::y3::y4::y5::y6::y7::x::l) 8 x:=rfl
def at9{l:List Str}{y7 y8:Str}:At (y0::y1::y2::y3::y4::y5::y6::y7::y8::x::l) 9 x:=rfl
def LY{l:List Str}{y7 y8 y9:Str}:At (y0::y1::y2::y3::y4::y5::y6::y7::y8::y9::x::l) 10 x:=rfl
def Ox{l:List Str}{y7 y8 y9 y10:Str}:At (y0::y1::y2::y3::y4::y5::y6::y7::y8::y9::y10::x::l) 11 x:=rfl
section
variable{N:List Str}
def af{w:World}{K:PySem.W.Frag}{mg:Str->Option Value}{base:Heap}{A:Around}{outer:List Env}{E:XK}(h:At N i x)(hv:Vis (gJ CX P w K mg base N qual scope f cdv A outer s H E).env.scope x:=by first|exact Or.inl rfl|exact Or.inr (Or.inl rfl)|exact Or.inr (Or.inr rfl))(hd:(x==("__debug__":Str))=false:=by decide)(hcd:(x==("__classdict__":Str))=false:=by decide):PF (gJ CX P w K mg base N qual scope f cdv A outer s H E) (.Name x pos) (λρ=>rdV ρ i):=yr i h hv hd hcd
def aZ{s₂:Shared}{H₂:Hp}(h:At N i x)(hv:Vis (cq X N scope C s₂ H₂ fp).env.scope x:=by first|exact Or.inl rfl|exact Or.inr (Or.inl rfl)|exact Or.inr (Or.inr rfl))(hd:(x==("__debug__":Str))=false:=by decide)(hcd:(x==("__classdict__":Str))=false:=by decide):PF (cq X N scope C s₂ H₂ fp) (.Name x pos) (λρ=>rdV ρ i):=yr i h hv hd hcd
def bw{w:World}{K:PySem.W.Frag}{mg:Str->Option Value}{base:Heap}{A:Around}{outer:List Env}{E:XK}{e:Expr}{ga:Ev->R D}(h:At N i x)(hN:N.Nodup)(he:PF (gJ CX P w K mg base N qual scope f cdv A outer s H E) e ga)(hx:Loc (gJ CX P w K mg base N qual scope f cdv A outer s H E).env.scope x:=by first|exact Or.inl rfl|exact Or.inr rfl)(hs:swapsWithSole [.Name x p] e pos.line (gJ CX P w K mg base N qual scope f cdv A outer s H E).env=pure false:=by rfl)(hw:swappedStores [.Name x p] e (gJ CX P w K mg base N qual scope f cdv A outer s H E).env=pure none:=by rfl)(hf:(gJ CX P w K mg base N qual scope f cdv A outer s H E).fn x=true\/(gJ CX P w K mg base N qual scope f cdv A outer s H E).env.scope.names.lookup x=some .local:=by first|exact .inl rfl|exact .inr rfl):
  PSF (gJ CX P w K mg base N qual scope f cdv A outer s H E) (.Assign [.Name x p] e pos) (cN i ga):=GT i hN he h hx hs hw hf
end
def FL{e:Expr}{ga:Ev->R D}{pt:Pos}(he:PF X e ga)(hc:X.calm=true)(h:KM X es is)(hn:(assignEach es X.env).length=is.length:=by rfl)(hst:(assignEach es X.env).findIdx? (·.1)=none:=by rfl)(hs:swapsWithSole [.Tuple es k pt] e pos.line X.env=pure false:=by rfl)(hw:swappedStores [.Tuple es k pt] e X.env=pure none:=by rfl)(h1:(assignEach [.Tuple es k pt] X.env).map (·.2)=[assign (.Tuple es k pt) X.env]:=by rfl):
  PSF X (.Assign [.Tuple es k pt] e pos) (Ix (vt is) ga):=xS he (nu hc h hn hst) hs hw (iY is) h1
def Gy{ga:Ev->R D}(h:ac ga (λ_=>.ok []) ρ=.ok ds):ds.length<=1:=by
 unfold ac at h;cases e:ga ρ with
 |ok x=>rw[e]at h;cases h;exact z9 _
 |ex C=>rw[e]at h;cases h
 |no=>rw[e]at h;cases h
structure Ref(x:Str)(C:Addr)(mg:Str->Option Value)(base:Heap):Prop where
 ex:∃bm B newId initId,OwnCls x C bm newId mg base/\ExcBaseFacts B newId initId bm
def lY{e:Expr}{ga:Ev->R D}{np cp:Pos}(r:Ref x C X.mg X.base)(hh:X.A.handled=none)(ha:PF X e ga)(hg:Gl X x:=by rfl)(hdb:(x==("__debug__":Str))=false:=by decide)(hs:starEach [e] X.env=(false,eval e X.env)::starEach [] X.env:=by rfl):
  PSF X (.Raise (some (.Call (.Name x np) [e] [] cp)) none pos) (ml C (ac ga λ_=>.ok [])):=by
 obtain⟨bm,B,newId,initId,Oc,FB⟩:=r.ex;exact yQ Oc FB hh hg (aa ha ae hs) hdb hs (λρ ds h=>Gy h)
def Un.but{fs:List Addr}(hs:Heap.SameBut C h h'):Un fs [C] H H h h':=by have ne:∀b,b∉[C]->b≠C:=λb hb z=>hb (by rw[z];exact wP.2 rfl);exact⟨λb o e _ _ hx=>(hs.2 b (ne b hx)).trans e,λb o e _ _ hx=>⟨o.slots,(hs.2 b (ne b hx)).trans e⟩,λ_ _ _ n _=>n,λb o e hx=>⟨o,(hs.2 b (ne b hx)).trans e⟩,λ_ _ e=>e,λ_ _ _ e=>e,λ_ ps e=>⟨#[],by rw[Array.append_empty];exact e⟩⟩
section
variable{elt:Expr}{ifs:List Expr}{px:Pos}{N':List Str}{gt:Ev->R Bool}
def AI{n:Nat}(i:Nat){spos:Pos}(hN:X.N.Nodup)(ok:CompOkT X scope n N' ix)(hcalm:X.calm=true)(hg:∀C s₂ H₂ fp,PGF (cq X N' scope C s₂ H₂ fp) tgt asg)(hown:∀d ρ ρ',asg d ρ=.ok ρ'->(NoOwn ρ)->NoOwn ρ')(hi:PIF X tgt iter gi)(he:∀C s₂ H₂ fp,PF (cq X N' scope C s₂ H₂ fp) elt ge)(ht:∀C s₂ H₂ fp,PTs (cq X N' scope C s₂ H₂ fp) ifs gt)(hni:X.N[i]?=some y:=by rfl)(hy:X.env.scope.names.lookup y=some .local:=by rfl)(hs:∀x,foldedSetIterable iter X.env x=pure x:=by intro _;rfl)(hsw:swapsWith (.ListComp elt [⟨tgt,iter,ifs,0⟩] scope pos) (some (.Name y py)) spos.line X.env=pure true:=by rfl){D:Ends}(I:Inv X pins σ H s)(sE:StE X.K G H σ ρ)(hq:(qd n asg gi ix gt ge ρ).post (zM X.K G H λv H1=>D.nx (σ.set i (some v)) H1) (Exx X σ G H)):
  wpAny (model X.prog X.w) X.A (exec (.Assign [.Name y py] (.ListComp elt [⟨tgt,iter,ifs,0⟩] scope pos) spos) X.env) (SP X pins D) X.xe s:=by
 rw[exec_Assign_Name_used _ _ _ _ hsw];refine z8 (iF (z8 ?_));refine z8 (vV (wpAny_comprehension_free rfl hs (lm λz hz hz2=>I.ok.has z.1 (.inl (ok.fr z hz hz2))) ok.kind ok.names ?_) (λ_ s' hq=>zc (zc hq)) λ_ _ e=>e);have t:tG X (λG J items=>ItOk X.K G J items) gi σ H (λJ H1=>∃G1 items,Up G H G1 H1/\StE X.K G1 H1 σ ρ/\ItOk X.K G1 J items/\(hW asg gt ge items (iQ n ix ρ)>>=λds=>if ds.length<=sizeLine then R.ok ds else .no).post (zM X.K G H λv H1=>D.nx (σ.set i (some v)) H1) (Exx X σ G H)):=by
  refine⟨G,ρ,sE,?_⟩;unfold qd at hq;cases e:gi ρ with
  |ok items=>rw[e]at hq;exact λJ G1 H1 u r=>⟨G1,items,u,sE.up u,r,hq⟩
  |ex C=>rw[e]at hq;exact hq
  |no=>rw[e]at hq;exact hq
 refine thn (hi pins s σ H _ I t) λv s1 h1=>thn h1 λitv s2 h2=>?_;obtain⟨it,fp,tn,J,H2,e,I2,T,st2,f2,G2,items,u2,sE2,iok,h2⟩:=h2;subst e;have h2':(hW asg gt ge items (iQ n ix ρ)>>=λds=>if ds.length<=sizeLine then R.ok ds else .no).post (zM X.K G2 H2 λv H1=>D.nx (σ.set i (some v)) H1) (Exx X σ G2 H2):=
  h2.mono (λds q l vs G' H' u hl r=>q l vs G' H' (u2.trans u) hl r) λC q=>q.up u2;refine pA ok hcalm hg hown he ht I2 T st2 f2 sE2 iok h2' ?_;intro Dd C s' m vs G' H' up hd hCD _ q hm hos hb hC hCl un hok;have I3:=I2.call' hos un hok hb λb hb'=>by
  obtain⟨f0,f1,f2',f3,f4,f5⟩:=f2 b hb';exact⟨f3,f1,f4,f5⟩
 have lc:=v9 (uf I2.lt hCl);have cc:∀z c,X.env.cells.lookup z=some c->c≠C:=λz c e=>by obtain⟨v,q⟩:=I2.cell z c e;exact v9 (uf q.lt hCl)
 refine wpAny_assign_Name (lg I3 hN hni (.inl hy) (v:=.ref Dd) rfl (λs'' I4 ⟨a,hsb,ha⟩=>?_) (.inr hy));have na:C≠a:=by
  rcases ha with rfl|ha;·exact lc.symm
  ·exact(cc _ _ ha).symm
 refine⟨m,hm.sameBut hsb na,λh' hs'=>?_⟩;have I5:=I4.call' (s':={ s'' with heap:=h' }) rfl (Un.but hs') (I4.hok.sameBut (λb o hbc e=>(hs'.2 b hbc).trans e) (by rw[aM hCD];exact hC)) I4.bare λb hb'=>by rw[wP.1 hb'];exact⟨.inr (wt I2.sz hCl),lc.symm,cc,λp hp z=>l6 _ (uf (z▸w5 (I2.pin p hp).1) hCl)⟩
 exact⟨_,_,I5,q⟩
def DG{n:Nat}(i:Nat){spos:Pos}(hN:X.N.Nodup)(ok:CompOkT X scope n N' ix)(hcalm:X.calm=true)(hg:∀C s₂ H₂ fp,PGF (cq X N' scope C s₂ H₂ fp) tgt asg)(hown:∀d ρ ρ',asg d ρ=.ok ρ'->(NoOwn ρ)->NoOwn ρ')(hi:PIF X tgt iter gi)(he:∀C s₂ H₂ fp,PF (cq X N' scope C s₂ H₂ fp) elt ge)(ht:∀C s₂ H₂ fp,PTs (cq X N' scope C s₂ H₂ fp) ifs gt)(hni:X.N[i]?=some y:=by rfl)(hy:X.env.scope.names.lookup y=some .local:=by rfl)(hs:∀x,foldedSetIterable iter X.env x=pure x:=by intro _;rfl)(hsw:swapsWith (.ListComp elt [⟨tgt,iter,ifs,0⟩] scope pos) (some (.Name y py)) spos.line X.env=pure true:=by rfl):
  PSF X (.Assign [.Name y py] (.ListComp elt [⟨tgt,iter,ifs,0⟩] scope pos) spos) (yh i (qd n asg gi ix gt ge)):=λG₀ H₀ pins s σ H D I h=>by
 obtain⟨G,ρ,sr,h⟩:=h;have h:pT X G₀ H₀ D ((qd n asg gi ix gt ge ρ).out ρ λds=>.nx (ρ.set i (some (.own ds)))):=h;refine AI i hN ok hcalm hg hown hi he ht hni hy hs hsw I sr.e ?_;cases q:qd n asg gi ix gt ge ρ with
 |ok ds=>rw[q]at h;exact λl vs G' H' u hl r=>h _ G' _ ((sr.ups u).setOwn hl r i)
 |ex C=>rw[q]at h;exact Exx.of sr h
 |no=>rw[q]at h;exact h
def Br(i:Nat){spos:Pos}(hN:X.N.Nodup)(ok:CompOk X scope x N' ix)(hcalm:X.calm=true)(hi:PIF X (.Name x px) iter gi)(he:∀C s₂ H₂ fp,PF (cq X N' scope C s₂ H₂ fp) elt ge)(ht:∀C s₂ H₂ fp,PTs (cq X N' scope C s₂ H₂ fp) ifs gt)(hni:X.N[i]?=some y:=by rfl)(hy:X.env.scope.names.lookup y=some .local:=by rfl)(hs:∀x,foldedSetIterable iter X.env x=pure x:=by intro _;rfl)(hsw:swapsWith (.ListComp elt [⟨.Name x px,iter,ifs,0⟩] scope pos) (some (.Name y py)) spos.line X.env=pure true:=by rfl):
  PSF X (.Assign [.Name y py] (.ListComp elt [⟨.Name x px,iter,ifs,0⟩] scope pos) spos) (yh i (dS gi ix gt ge)):=
 DG i hN ok.t hcalm (λC s₂ H₂ fp=>dl 0 ok.nd ok.hd (.inl (Zj ok.loc)) (.inr (Zj ok.loc))) xU hi he ht hni hy hs hsw
end
def Fun.noF{w:World}{K:PySem.W.Frag}{mg:Str->Option Value}{base:Heap}{N:List Str}(F:Fun K x qual st f fd)(S:FnScope N ps (am st)):FnF P w K mg base (k+1) f fd ps (λ_=>.no):=by obtain⟨oc,od,kV,doc,pm,an,cdv,ct,osl,rfl,lk,hcd⟩:=F.ex;refine DV lk hcd S (λvs H Q E h=>h.1) λA outer s H vs Q E hr hsp=>?_;obtain⟨hl,G,ds,sub,r,h⟩:=hsp;exact h.elim
noncomputable def Iy(i:Nat)(ga:Ev->R D):Ev->O:=λρ=>(ownAt ρ i).out ρ λds=>(ga ρ).out ρ λd=>(asL d).out ρ λes=>if ds.length+es.length<=sizeLine then .nx (ρ.set i (some (.own (ds++es))))else .no
noncomputable def Fk(i:Nat)(ga:Ev->R D):Ev->O:=λρ=>(ownAt ρ i).out ρ λds=>(ga ρ).out ρ λd=>if ds.length<sizeLine then .nx (ρ.set i (some (.own (ds++[d]))))else .no
noncomputable def Md(i j:Nat)(gl:Ev->R (List D)):Ev->O:=λρ=>(gl ρ).out ρ λds=>(rm [i,j] ds ρ).out ρ .nx
section
variable{eN body:List Stmt}{e c o:Expr}{g:Ev->O}{ga:Ev->R D}{p2:Pos}
def mV(i:Nat){ap cp:Pos}(he:PF X e ga)(hi:X.N[i]?=some x:=by rfl)(hv:Vis X.env.scope x:=by first|exact Or.inl rfl|exact Or.inr (Or.inl rfl))(hd:(x==("__debug__":Str))=false:=by decide)(hcd:(x==("__classdict__":Str))=false:=by decide)(hs1:starEach [e] X.env=(false,eval e X.env)::starEach [] X.env:=by rfl)(hbase:attributeBase (.Name x p) "extend" X.env (eval (.Name x p) X.env)=eval (.Name x p) X.env:=by rfl)(hfew:((backTo cp (starEach [e] X.env)).all (λx=>!x.1) && (backToKw cp (keywordEach [] X.env)).all (λx=>x.1.isSome)
 && decide ([e].length+([]:List Keyword).length+(if ([]:List Keyword).isEmpty then 0 else 1)<30))=true:=by rfl)(hline:(ap.endLine==cp.line)=true:=by rfl)(hs:swapsWith (.Call (.Attribute (.Name x p) "extend" ap) [e] [] cp) none pos.line X.env=pure false:=by rfl):
  PSF X (.Expr (.Call (.Attribute (.Name x p) "extend" ap) [e] [] cp) pos) (Iy i ga):=wN i he hi hv hd hcd hs1 hbase hfew hline hs
def sM(i:Nat){ap cp:Pos}(he:PF X e ga)(hi:X.N[i]?=some x:=by rfl)(hv:Vis X.env.scope x:=by first|exact Or.inl rfl|exact Or.inr (Or.inl rfl))(hd:(x==("__debug__":Str))=false:=by decide)(hcd:(x==("__classdict__":Str))=false:=by decide)(hs1:starEach [e] X.env=(false,eval e X.env)::starEach [] X.env:=by rfl)(hbase:attributeBase (.Name x p) "append" X.env (eval (.Name x p) X.env)=eval (.Name x p) X.env:=by rfl)(hfew:((backTo cp (starEach [e] X.env)).all (λx=>!x.1) && (backToKw cp (keywordEach [] X.env)).all (λx=>x.1.isSome)
 && decide ([e].length+([]:List Keyword).length+(if ([]:List Keyword).isEmpty then 0 else 1)<30))=true:=by rfl)(hline:(ap.endLine==cp.line)=true:=by rfl)(hs:swapsWith (.Call (.Attribute (.Name x p) "append" ap) [e] [] cp) none pos.line X.env=pure false:=by rfl):
  PSF X (.Expr (.Call (.Attribute (.Name x p) "append" ap) [e] [] cp) pos) (Fk i ga):=wB i he hi hv hd hcd hs1 hbase hfew hline hs
def NA(i j:Nat){a b:Expr}{px pt pt2:Pos}{k2:Nat}(hc:X.calm=true)(hN:X.N.Nodup)(ha:PFA X [a,b] gl)(hij:i≠j:=by decide)(hi:X.N[i]?=some x:=by rfl)(hj:X.N[j]?=some y:=by rfl)(hx:X.env.scope.names.lookup x=some .local:=by rfl)(hy:X.env.scope.names.lookup y=some .local:=by rfl)(hw:swappedStores [.Tuple [.Name x px,.Name y py] kt pt] (.Tuple [a,b] k2 pt2) X.env=pure (some [x,y]):=by rfl)(hs:swapsWithSole [.Tuple [.Name x px,.Name y py] kt pt] (.Tuple [a,b] k2 pt2) pos.line X.env=pure false:=by rfl):
  PSF X (.Assign [.Tuple [.Name x px,.Name y py] kt pt] (.Tuple [a,b] k2 pt2) pos) (Md i j gl):=Dl i j hc hN ha hij hi hj hx hy hw hs
def HL(h:PF X (.Name x pos) ga):PB X (.Name x pos) (av iV ga):=A3 h
def qT{sts:List Stmt}(i:Nat)(h:mL X sts g):mL X sts (zC i g):=AQ i h
def FR{ap cp:Pos}(ho:PF X o ga)(ha:PFA X [e] gl)(hbase:attributeBase o "count" X.env (eval o X.env)=eval o X.env:=by rfl)(hfew:((backTo cp (starEach [e] X.env)).all (λx=>!x.1) && (backToKw cp (keywordEach [] X.env)).all (λx=>x.1.isSome)
 && decide ([e].length+([]:List Keyword).length+(if ([]:List Keyword).isEmpty then 0 else 1)<30))=true:=by rfl)(hline:(ap.endLine==cp.line)=true:=by rfl)(hs:starEach [e] X.env=(false,eval e X.env)::starEach [] X.env:=by rfl):
  PF X (.Call (.Attribute o "count" ap) [e] [] cp) (jO "list" tD ga gl):=DR ho ha hbase hfew hline hs
def Il{ap cp:Pos}(ho:PF X o ga)(ha:PFA X [e] gl)(hbase:attributeBase o "index" X.env (eval o X.env)=eval o X.env:=by rfl)(hfew:((backTo cp (starEach [e] X.env)).all (λx=>!x.1) && (backToKw cp (keywordEach [] X.env)).all (λx=>x.1.isSome)
 && decide ([e].length+([]:List Keyword).length+(if ([]:List Keyword).isEmpty then 0 else 1)<30))=true:=by rfl)(hline:(ap.endLine==cp.line)=true:=by rfl)(hs:starEach [e] X.env=(false,eval e X.env)::starEach [] X.env:=by rfl):
  PF X (.Call (.Attribute o "index" ap) [e] [] cp) (jO "list" tM ga gl):=C7 ho ha hbase hfew hline hs
end
structure Errs(K:PySem.W.Frag)(mg:Str->Option Value)(rs:List Addr)(ts:List (Str×Addr)):Prop where
 na:∀t∈ts,mg t.1=some (.ref t.2)
 ec:∀r∈rs,ExcCls K r
 kit:∀r∈rs,∀t∈ts,PySem.W.kitOne K (.ref r) (.ref t.2)=some (r==t.2)
 ve:∀r∈rs,PySem.W.kitOne K (.ref r) (.type "ValueError")=some true
 le:∃L,mg "LineError"=some (.ref L)/\∀r∈rs,PySem.W.exmOne K (.ref r) (.ref L)=some true
noncomputable def zO(rs:List Addr)(T C:Addr):Option Bool:=if C∈rs then some (C==T)else none
noncomputable def CI(rs:List Addr)(C:Addr):Option Bool:=if C∈rs then some true else none
section
variable{e:Expr}{ga:Ev->R D}{p2:Pos}
def kL{T:Addr}(Er:Errs X.K X.mg rs ts)(hy:(y,T)∈ts)(hm:X.mg "isinstance"=none)(ha:PF X e ga)(hg:Gl X "isinstance":=by rfl)(hg2:Gl X y:=by rfl)(hd:(y==("__debug__":Str))=false:=by decide)(hs1:starEach [e,.Name y p2] X.env=(false,eval e X.env)::starEach [.Name y p2] X.env:=by rfl):PF X (.Call (.Name "isinstance" p) [e,.Name y p2] [] pos) (av (uw (zO rs T)) ga):=by
 refine Cj (v2:=.ref T) (zO rs T) (λC b h=>?_) hg hm (qW hg2 (Er.na _ hy) rfl hd) rfl (λu h=>h) ha hs1;unfold zO at h;split at h;·rename_i hC;cases h;exact⟨Er.ec _ hC,Er.kit _ hC _ hy⟩
 ·cases h
end
section
variable{e:Expr}{ga:Ev->R D}{p2:Pos}
def IP(Er:Errs X.K X.mg rs ts)(hm:X.mg "isinstance"=none)(hm2:X.mg "ValueError"=none)(ha:PF X e ga)(hg:Gl X "isinstance":=by rfl)(hg2:Gl X "ValueError":=by rfl)(hs1:starEach [e,.Name "ValueError" p2] X.env=(false,eval e X.env)::starEach [.Name "ValueError" p2] X.env:=by rfl):PF X (.Call (.Name "isinstance" p) [e,.Name "ValueError" p2] [] pos) (av (uw (CI rs)) ga):=by
 refine Cj (v2:=.ty "ValueError") (CI rs) (λC b h=>?_) hg hm (AJ hg2 hm2 rfl rfl) rfl (λu h=>h) ha hs1;unfold CI at h;split at h;·rename_i hC;cases h;exact⟨Er.ec _ hC,Er.ve _ hC⟩
 ·cases h
end
section
variable{w:World}{K:PySem.W.Frag}{mg:Str->Option Value}{base:Heap}{N:List Str}{A:Around}{outer:List Env}{E:XK}{pn:List (Addr×Obj)}{xe:Value->Shared->Prop}{e:Expr}{ga:Ev->R D}
def tB(h:At N i x)(hv:Vis (gJ CX P w K mg base N qual scope f cdv A outer s H E).env.scope x:=by first|exact Or.inl rfl|exact Or.inr (Or.inl rfl)|exact Or.inr (Or.inr rfl))(hd:(x==("__debug__":Str))=false:=by decide)(hcd:(x==("__classdict__":Str))=false:=by decide):PF (qb (gJ CX P w K mg base N qual scope f cdv A outer s H E) pn xe) (.Name x pos) (λρ=>rdV ρ i):=yr i h hv hd hcd
def Ko(h:At N i x)(hv:Vis (gJ CX P w K mg base N qual scope f cdv A outer s H E).env.scope x:=by first|exact Or.inl rfl|exact Or.inr (Or.inl rfl)|exact Or.inr (Or.inr rfl))(hd:(x==("__debug__":Str))=false:=by decide)(hcd:(x==("__classdict__":Str))=false:=by decide):PF (ny (gJ CX P w K mg base N qual scope f cdv A outer s H E) a xe) (.Name x pos) (λρ=>rdV ρ i):=yr i h hv hd hcd
def KB(h:At N i x)(hN:N.Nodup)(he:PF (qb (gJ CX P w K mg base N qual scope f cdv A outer s H E) pn xe) e ga)(hx:Loc (gJ CX P w K mg base N qual scope f cdv A outer s H E).env.scope x:=by first|exact Or.inl rfl|exact Or.inr rfl)(hs:swapsWithSole [.Name x p] e pos.line (gJ CX P w K mg base N qual scope f cdv A outer s H E).env=pure false:=by rfl)(hw:swappedStores [.Name x p] e (gJ CX P w K mg base N qual scope f cdv A outer s H E).env=pure none:=by rfl)(hf:(gJ CX P w K mg base N qual scope f cdv A outer s H E).fn x=true\/(gJ CX P w K mg base N qual scope f cdv A outer s H E).env.scope.names.lookup x=some .local:=by first|exact .inl rfl|exact .inr rfl):
  PSF (qb (gJ CX P w K mg base N qual scope f cdv A outer s H E) pn xe) (.Assign [.Name x p] e pos) (cN i ga):=GT i hN he h hx hs hw hf
def Jl(h:At N i x)(hN:N.Nodup)(he:PF (ny (gJ CX P w K mg base N qual scope f cdv A outer s H E) a xe) e ga)(hx:Loc (gJ CX P w K mg base N qual scope f cdv A outer s H E).env.scope x:=by first|exact Or.inl rfl|exact Or.inr rfl)(hs:swapsWithSole [.Name x p] e pos.line (gJ CX P w K mg base N qual scope f cdv A outer s H E).env=pure false:=by rfl)(hw:swappedStores [.Name x p] e (gJ CX P w K mg base N qual scope f cdv A outer s H E).env=pure none:=by rfl)(hf:(gJ CX P w K mg base N qual scope f cdv A outer s H E).fn x=true\/(gJ CX P w K mg base N qual scope f cdv A outer s H E).env.scope.names.lookup x=some .local:=by first|exact .inl rfl|exact .inr rfl):
  PSF (ny (gJ CX P w K mg base N qual scope f cdv A outer s H E) a xe) (.Assign [.Name x p] e pos) (cN i ga):=GT i hN he h hx hs hw hf
end
section
variable{body suite:List Stmt}{b₀:Stmt}{gb gs:Ev->O}{hp tp:Pos}{nm:Str}
def N3(i:Nat)(Er:Errs X.K X.mg rs ts)(hN:X.N.Nodup)(hcalm:X.calm=true)(hst:X.stack=X.env::X.outer)(hfr:X.env.frame=some X.env.locals)(hkd:X.env.scope.kind=.function)(hb:∀pn xe,mL (qb X pn xe) body gb)(hh:∀a xe,mL (ny X a xe) (b₀::suite) gs)(hg:Gl X "LineError":=by rfl)(hi:X.N[i]?=some nm:=by rfl)(hx:X.env.scope.names.lookup nm=some .local:=by rfl):
  PSF X (.Try body [.ExceptHandler (some (.Name "LineError" tp)) (some nm) (b₀::suite) hp] [] [] pos) (Ak gb gs (CI rs) i):=by
 obtain⟨L,hL,hk⟩:=Er.le;refine Dy i (CI rs) hN hcalm hst hfr hkd hb hh (λC h=>?_) hg hL hi hx;unfold CI at h;split at h;·rename_i hC;exact hk C hC
 ·cases h
end
noncomputable def fl:Nat->D->Bool
 | 0,_=>false
 |n+1,.tup xs=>xs.all (fl n)
 |_+1,.lst _ _=>false
 |_+1,.exc _=>false
 |_+1,.dct _ _=>false
 |_+1,_=>true
theorem BB{K:PySem.W.Frag}{G G2:Hp}{n:Nat}(ih:∀v d,fl n d=true->Rep K G v d->Rep K G2 v d):∀{vs:List V}{ds:List D},ds.all (fl n)=true->Reps K G vs ds->Reps K G2 vs ds
 |_,_,_,.nil=>.nil
 |_,_,h,.cons r t=>by rw[o5,xf]at h;exact .cons (ih _ _ h.1 r) (BB ih h.2 t)
theorem An{K:PySem.W.Frag}{G G2:Hp}(h:∀a o,G a=some o->(∀vs,o≠HO.lst vs)->G2 a=some o):∀(n:Nat)(v:V)(d:D),fl n d=true->Rep K G v d->Rep K G2 v d
 | 0,_,_,hf,_=>by simp[fl]at hf
 |n+1,v,d,hf,r=>by
  cases r with
  |non=>exact .non
  |bl b=>exact .bl b
  |int i=>exact .int i
  |str x hx=>exact .str x hx
  |tup hs t=>
   refine .tup ?_ (BB (λv d=>An h n v d) hf t);rcases hs with (q|⟨o,q⟩)|q;·exact .inl (.inl (h _ _ q λvs z=>by cases z))
   ·exact .inl (.inr ⟨o,h _ _ q λvs z=>by cases z⟩)
   ·exact .inr q
  |lst hs t=>simp[fl]at hf
  |fls hs t=>simp[fl]at hf
  |exc hs=>simp[fl]at hf
  |dct _ _ _=>simp[fl]at hf
def StR.peek{K:PySem.W.Frag}{H₀:Hp}(s:StR K G₀ H₀ G H σ ρ)(i:Nat):∃G1,StE K G1 H σ (L2.frz i ρ)/\
  ∀G' H',Up G1 H G' H'->∃G2,Up G H G2 H'/\∀a o,G' a=some o->(∀vs,o≠HO.lst vs)->G2 a=some o:=by
 obtain⟨G1,sr,e|⟨l,vs,hl,e⟩⟩:=s.frzTo i;·subst e;exact⟨G1,sr.e,λG' H' u=>⟨G',u,λa o q _=>q⟩⟩
 ·subst e;refine⟨_,sr.e,λG' H' u=>⟨λa=>if a=l then none else G' a,⟨λa o q=>?_,λa o q=>?_,u.hh,λa o q=>?_⟩,λa o q hq=>?_⟩⟩
  ·split at q;·cases q
   ·exact u.sub a o q
  ·have ne:a≠l:=λz=>by subst z;rw[hl]at q;cases q
   rw[if_neg ne];exact u.gg a o (by rw[aM ne];exact q)
  ·split at q;·cases q
   ·rename_i ne;rcases u.fr a o q with z|z;·rw[aM ne]at z;exact .inl z
    ·exact .inr z
  ·have ne:a≠l:=λz=>by subst z;have:=u.gg a _ aY;rw[q]at this;cases this;exact hq vs rfl
   show(if a=l then none else G' a)=some o;rw[if_neg ne];exact q
section
variable{eN body a b:List Stmt}{e c tg:Expr}{g g1 g2:Ev->O}{ga:Ev->R D}{gt:Ev->R Bool}
noncomputable def OM(i:Nat)(gt:Ev->R Bool)(g1 g2:Ev->O):Ev->O:=λρ=>(jC (gt (frz i ρ))).out ρ λk=>if k=true then g1 ρ else g2 ρ
noncomputable def wQ(j i:Nat)(ga:Ev->R D):Ev->O:=λρ=>(jC (ga (frz j ρ))).out ρ λd=>if fl 10 d=true then .nx (ρ.set i (some (.val d)))else .no
def E8(j i:Nat)(hN:X.N.Nodup)(he:PF X e ga)(hi:X.N[i]?=some x:=by rfl)(hx:Loc X.env.scope x:=by first|exact Or.inl rfl|exact Or.inr rfl)(hs:swapsWithSole [.Name x p] e pos.line X.env=pure false:=by rfl)(hw:swappedStores [.Name x p] e X.env=pure none:=by rfl)(hf:X.fn x=true\/X.env.scope.names.lookup x=some .local:=by first|exact .inl rfl|exact .inr rfl):
  PSF X (.Assign [.Name x p] e pos) (wQ j i ga):=λG₀ H₀ pins s σ H D I h=>by
 refine oy he (lU hN hi hx hf) hs hw rfl pins s σ H D I ?_;obtain⟨G,ρ,sr,h⟩:=h;have h:pT X G₀ H₀ D ((jC (ga (frz j ρ))).out ρ λd=>if fl 10 d=true then .nx (ρ.set i (some (.val d)))else .no):=h;obtain⟨G1,st1,pk⟩:=sr.peek j;refine⟨G1,_,st1,?_⟩;cases q:ga (frz j ρ)with
 |ok d=>
  rw[q]at h;intro v G' H' u r;obtain⟨G2,u2,tr⟩:=pk G' H' u;have h:pT X G₀ H₀ D (if fl 10 d=true then .nx (ρ.set i (some (.val d)))else .no):=h;by_cases hfl:fl 10 d=true;·rw[if_pos hfl]at h;exact h _ G2 _ ((sr.ups u2).set (An tr 10 v d hfl r) i)
  ·rw[if_neg hfl]at h;exact h.elim
 |_=>rw[q]at h;exact h.elim
noncomputable def MZ(j i:Nat)(ga:Ev->R D):Ev->O:=λρ=>(ownAt ρ i).out ρ λds=>(jC (ga (frz j ρ))).out ρ λd=>if ds.length<sizeLine/\fl 10 d=true then .nx (ρ.set i (some (.own (ds++[d]))))else .no
noncomputable def CM(i:Nat)(gk ga:Ev->R D):Ev->O:=λρ=>(ownAt ρ i).out ρ λds=>(jC (ga (frz i ρ))).out ρ λd=>(jC (gk (frz i ρ)>>=asI)).out ρ λk=>match ixN ds.length k with
 |some n=>if fl 10 d=true then .nx (ρ.set i (some (.own (ds.set n d))))else .no
 |none=>.no
def Lr(i:Nat){tp:Pos}{ix:Expr}{gk:Ev->R D}(he:PF X e ga)(hk:PF X ix gk)(hi:X.N[i]?=some x:=by rfl)(hv:Vis X.env.scope x:=by first|exact Or.inl rfl|exact Or.inr (Or.inl rfl))(hd:(x==("__debug__":Str))=false:=by decide)(hcd:(x==("__classdict__":Str))=false:=by decide)(hs:swapsWithSole [.Subscript (.Name x p) ix tp] e pos.line X.env=pure false:=by rfl)(hw:swappedStores [.Subscript (.Name x p) ix tp] e X.env=pure none:=by rfl)(h1':(assignEach [.Subscript (.Name x p) ix tp] X.env).map (·.2)=[assign (.Subscript (.Name x p) ix tp) X.env]:=by rfl)(ha:∀v,assign (.Subscript (.Name x p) ix tp) X.env v=(do
 let ov <- holding [v] (eval (.Name x p) X.env);let iv <- holding [v,ov] (eval ix X.env)
 standAt tp
 holding [v,ov,iv] (setItem ov iv v)
 release [v,ov,iv] []):=by intro _;rfl):
  PSF X (.Assign [.Subscript (.Name x p) ix tp] e pos) (CM i gk ga):=λG₀ H₀ pins s σ H D I h=>by
 refine oy he (FM (jm hi hv hd hcd) hk DP ha) hs hw h1' pins s σ H D I ?_;obtain⟨G,ρ,sr,h⟩:=h;obtain⟨ds,e1,h⟩:=ownAt.ok h;obtain⟨l,vs,h1,h2,h3,h4,h5⟩:=sr.own i ds e1;obtain⟨G1,st1,pk⟩:=sr.peek i;refine⟨G1,_,st1,?_⟩;cases q:ga (frz i ρ)with
 |ok d=>
  rw[q]at h;intro v G' H' u r;refine⟨.ref l,h1,G',_,st1.up u,?_⟩;cases q2:gk (frz i ρ)with
  |ok kd=>
   rw[q2]at h;intro kv G'' H'' u' rk;cases rk with
   |int k=>
    have h:pT X G₀ H₀ D (match ixN ds.length k with
     |some n=>if fl 10 d=true then .nx (ρ.set i (some (.own (ds.set n d))))else .no
     |none=>.no):=h;obtain⟨G2,u2,tr⟩:=pk G'' H'' (u.trans u');cases q3:ixN ds.length k with
    |none=>rw[q3]at h;exact h.elim
    |some n=>
     rw[q3]at h;have h:pT X G₀ H₀ D (if fl 10 d=true then .nx (ρ.set i (some (.own (ds.set n d))))else .no):=h;by_cases hz:fl 10 d=true;·rw[if_pos hz]at h;refine⟨l,vs,k,n,rfl,rfl,(u.trans u').hh _ _ h2,by rw[h5.length];exact q3,h _ G2 _ ?_⟩;exact(sr.ups u2).mut e1 h1 (.set (An tr 10 v d hz (r.mono u'.gg)) n (h5.mono u2.gg))
     ·rw[if_neg hz]at h;exact h.elim
   |_=>exact h.elim
  |_=>rw[q2]at h;exact h.elim
 |_=>rw[q]at h;exact h.elim
def Pa:D->R (List D)
 |.lst _ xs=>.ok xs
 |.tup xs=>.ok xs
 |_=>.no
def Hg:List D->R (List D)
 | [d]=>Pa d
 |_=>.no
def HX(gl:Ev->R (List D)):Ev->R (List D):=λρ=>gl ρ>>=Hg
def zB(hg:Gl X "list")(hm:X.mg "list"=none)(ha:PFA X [e] gl)(he:starEach [e] X.env=(false,eval e X.env)::starEach [] X.env:=by rfl):PFL X (.Call (.Name "list" p) [e] [] pos) (HX gl):=by
 intro pins s σ H Q I hq;refine pI uc hg hm PyProof.Rows.Boot.«list» ha (by decide) (by decide) he rfl pins s σ H Q I ?_;obtain⟨G,ρ,st,hq⟩:=hq;have hq:(gl ρ>>=Hg).post (zM X.K G H Q) (Exx X σ G H):=hq;refine⟨G,ρ,st,?_⟩;cases q:gl ρ with
 |ok ds=>
  rw[q]at hq;intro vs G' H' u r;have hq:(Hg ds).post (zM X.K G H Q) (Exx X σ G H):=hq;unfold Hg at hq;split at hq
  ·obtain⟨v,rfl,rv⟩:=r.one;cases rv with
   |lst hs t=>exact⟨_,_,rfl,.inl (.of (u.sub _ _ hs)),λl hl=>hq l _ G' H' u hl t⟩
   |fls hs t=>exact⟨_,_,rfl,.inl (hs.mono u.sub),λl hl=>hq l _ G' H' u hl t⟩
   |tup hs t=>exact⟨_,_,rfl,.inr (hs.mono u.sub),λl hl=>hq l _ G' H' u hl t⟩
   |_=>exact hq.elim
  ·exact hq.elim
 |ex C=>rw[q]at hq;exact hq
 |no=>rw[q]at hq;exact hq
def Cv{a b:Expr}(hg:Gl X "range")(hm:X.mg "range"=none)(ha:PFA X [a,b] gl)(hs:starEach [a,b] X.env=[(false,eval a X.env),(false,eval b X.env)]:=by rfl)(hs2:starEach [b] X.env=[(false,eval b X.env)]:=by rfl):PIF X tg (.Call (.Name "range" p) [a,b] [] pos) (av kq gl):=zH hg hm ha hs hs2
end
end L2
namespace L2
open PySem PySem.Spec PyProof.Rows PySem.W
noncomputable def ox:List D->Option (List Int)
 | []=>some []
 |.int i::ds=>(ox ds).map (i::·)
 |_=>none
theorem Reps.nums{K:PySem.W.Frag}:∀{vs:List V}{ds:List D}{ns:List Int},Reps K G vs ds->ox ds=some ns->vs=ns.map V.int
 |_,_,_,.nil,h=>by cases h;rfl
 |_,_,ns,.cons (d:=d) r t,h=>by
  cases d <;> first|(cases h;done)|skip
  rename_i x;rename_i ds';cases q:ox ds' with
  |none=>simp[ox,q]at h
  |some zs=>simp[ox,q]at h;subst h;rw[Reps.nums t q,r.int_inv];rfl
section
def xA{e:Expr}{ga:Ev->R D}{p2:Pos}(hm:X.mg "isinstance"=none)(ha:PF X e ga)(hm2:X.mg "list"=none)(hg2:Gl X "list":=by rfl)(hg:Gl X "isinstance":=by rfl)(hs1:starEach [e,.Name "list" p2] X.env=(false,eval e X.env)::starEach [.Name "list" p2] X.env:=by rfl):PF X (.Call (.Name "isinstance" p) [e,.Name "list" p2] [] pos) (av (gj (·=="list")) ga):=Cc hm ha hm2 hg2 hg hs1
end
end L2
namespace L2
open PySem PySem.Spec PyProof.Rows
open Sem (wp)
open AutoSeq1 (wpAny_loadPart')
def JS:isSubtype (.type "enumerate") (.type "enumerate")=pure true:=PySem.sub_enumerate
def F6(l:Addr)(its:Array Value)(n:Nat)(dct:Option Addr)(sl:Array (Option Value)):
  Meets (Builtin.«enumerate.__new__» ⟨[.type "enumerate",.ref l],[]⟩) (λ_ Rr s=>s.heap.get? l=some { cls:=.type "tuple",dict:=dct,data:=.seq its n,slots:=sl }/\
   Rr (.ok (.ret (.ref (s.heap.push { cls:=.type "tuple_iterator",data:=.fields #[.ref l,.int 0 0] }).objs.size)))
    { s with heap:=(s.heap.push { cls:=.type "tuple_iterator",data:=.fields #[.ref l,.int 0 0] }).push { cls:=.type "enumerate",data:=.fields #[.none,.bool false,.ref s.heap.objs.size,rawInt 0,.none,.none] } }):=
 .of_wp λprog w A Rr s h=>by
  obtain⟨hp,g,d,tk,os⟩:=s;obtain⟨hl,h⟩:=h;have hsub:=JS;have hT:Heap.IsTuple (Shared.heap ⟨hp,g,d,tk,os⟩) l its:=⟨_,hl,rfl,n,rfl⟩
  wp_walk using ZW hl
  refine wpAny_stack_any λst=>zc ?_;split;·rename_i c _ _ _ _ _;cases (c==Value.type "enumerate") <;> (wp_walk using ZW hl,ZN hT;exact⟨_,rfl,h⟩)
  ·wp_walk using ZW hl,ZN hT
   exact⟨_,rfl,h⟩
section
variable{prog:Program}{w:World}{A:Around}
def G0{itT:String}{l:Addr}{c:Int}{Q:Value->Shared->Prop}(h:∀h',IsEnum h' (s.heap.objs.size+1) s.heap.objs.size c .none->h'.get? s.heap.objs.size=some { cls:=.type itT,data:=.fields #[.ref l,.int 0 0] }->h'.objs.size=s.heap.objs.size+2->
 (∀b o,s.heap.get? b=some o->h'.get? b=some o)->Q (.ref (s.heap.objs.size+1)) { s with heap:=h' }):
  wants (λobj s₁=>s₁.TypeIs obj "enumerate"/\Q obj s₁) E (.ok (.ret (.ref (s.heap.push { cls:=.type itT,data:=.fields #[.ref l,.int 0 0] }).objs.size)))
   { s with heap:=(s.heap.push { cls:=.type itT,data:=.fields #[.ref l,.int 0 0] }).push { cls:=.type "enumerate",data:=.fields #[.none,.bool false,.ref s.heap.objs.size,rawInt c,.none,.none] } }:=by
 have hz:(s.heap.push { cls:=.type itT,data:=.fields #[.ref l,.int 0 0] }).objs.size=s.heap.objs.size+1:=c7 ..;have he:IsEnum ((s.heap.push { cls:=.type itT,data:=.fields #[.ref l,.int 0 0] }).push { cls:=.type "enumerate",data:=.fields #[.none,.bool false,.ref s.heap.objs.size,rawInt c,.none,.none] }) (s.heap.objs.size+1) s.heap.objs.size c .none:=by have q:=v7 (s.heap.push { cls:=.type itT,data:=.fields #[.ref l,.int 0 0] }) (o:={ cls:=.type "enumerate",data:=.fields #[.none,.bool false,.ref s.heap.objs.size,rawInt c,.none,.none] }) rfl;rw[hz]at q;exact q
 rw[hz];exact⟨⟨_,he,rfl⟩,h _ he (w9 _ (v7 _ rfl)) (by rw[c7,hz]) λb o x=>w9 _ (w9 _ x)⟩
theorem C6{l:Addr}{its:Array Value}{n:Nat}{dct:Option Addr}{sl:Array (Option Value)}{Q:Value->Shared->Prop}(hl:s.heap.get? l=some { cls:=.type "tuple",dict:=dct,data:=.seq its n,slots:=sl })(h:∀h',IsEnum h' (s.heap.objs.size+1) s.heap.objs.size 0 .none->h'.get? s.heap.objs.size=some { cls:=.type "tuple_iterator",data:=.fields #[.ref l,.int 0 0] }->h'.objs.size=s.heap.objs.size+2->
 (∀b o,s.heap.get? b=some o->h'.get? b=some o)->Q (.ref (s.heap.objs.size+1)) { s with heap:=h' }):
  wpAny (model prog w) A (call (.type "enumerate") [.ref l]) Q E s:=
 callType_new F.called_enumerate (by decide) (F.typeCall_enumerate_1 _) (F.newCall_enumerate_1 _) (λobj=>F.args_object_init_2 obj _) F.entry_enumerate_new (F6 l its n dct sl) ⟨hl,G0 h⟩
def HQ{t:Addr}{its:Array Value}{x:Value}{Q:Value->Shared->Prop}(hit:s.heap.IsTupleIter it t i)(ht:s.heap.IsTuple t its)(hx:its[i]?=some x)(hQ:∀h',h'.IsTupleIter it t (i+1)->Heap.SameBut it s.heap h'->Q x { s with heap:=h' }):wpAny (model prog w) A (Builtin.SmallTypes.nextOf (.ref it)) Q E s:=by
 obtain⟨ob,h1,h2,h3⟩:=id hit;obtain⟨ot,k1,_,m,k2⟩:=ht;refine z8 (lT hit.typeIs Zn (n8 Zn hit.typeIs Yg ?_ (Yh _)));refine z8 (m:=field (.ref it) 0) (qO h1 h3 rfl ?_);refine z8 (qO h1 h3 rfl (z8 (j2 k1 k2 ?_)));simp only[vN,hx];refine z8 (wpAny_setField h1 h3 (by simp) (zc ⟨x,rfl,zc (hQ _ ⟨_,ZF _ h1 (Obj.isFreed_of_fields (Obj.data_mapFields h3 _)),(Obj.cls_mapFields ..).trans h2,?_⟩ (aT ..))⟩));rw[Obj.data_mapFields h3];simp[rawInt]
def EX{t:Addr}{its:Array Value}{Q:Value->Shared->Prop}(hh:A.handled=none)(hit:s.heap.IsTupleIter it t i)(ht:s.heap.IsTuple t its)(hx:its[i]?=none)(hE:∀h' e,Heap.ExtBut it s.heap h'->(∃o,h'.get? e=some o/\o.cls=.type "StopIteration")->E (.ref e) { s with heap:=h' }):wpAny (model prog w) A (Builtin.SmallTypes.nextOf (.ref it)) Q E s:=by
 obtain⟨ob,h1,h2,h3⟩:=id hit;obtain⟨ot,k1,_,m,k2⟩:=ht;refine z8 (lT hit.typeIs Zn (n8 Zn hit.typeIs Yg ?_ (Yh _)));refine z8 (m:=field (.ref it) 0) (qO h1 h3 rfl ?_);refine z8 (qO h1 h3 rfl (z8 (j2 k1 k2 ?_)));simp only[vN,hx];refine z8 (wpAny_rule (z8 (wpAny_setField h1 h3 (by simp) (z8 ?_))));refine z8 (oT (z8 (Zl (by first|rfl|(simp only[firstArgMember];rfl)) (oT ?_ (by size_fits)))) (by size_fits));refine z8 (wpAny_handled ?_)
 first|rw[show A.in1.handled=none from hh]|rw[hh]
 exact z8 (zc (wpAny_throw (hE _ _ (((aT ..).extBut.push _).push _) ⟨_,v7 _ rfl,rfl⟩)))
end
def Ks{prog:Program}{w:World}{A:Around}(hh:A.handled=none)(it l:Addr)(hne:l≠it)(its:Array Value)(c:Nat):
  Draws prog w A it [it,l] (c+its.size) (λi v=>∃k,i=c+k/\its[k]?=some v) (λi h=>∃k,i=c+k/\h.IsTupleIter it l k/\h.IsTuple l its) where
 live:=λ_ _ ⟨_,_,st,_⟩=>let⟨o,ho,_⟩:=st;⟨o,ho⟩
 frame:=λ_ _ _ ⟨k,e,st,t⟩ hk=>⟨k,e,st.at λo e=>hk it (by simp) o e,let⟨o,ho,r⟩:=t;⟨o,hk l (by simp) o ho,r⟩⟩
 item:=λi s Q E hi ⟨k,e,st,t⟩ hQ=>by
  have hk:k<its.size:=by omega
  refine HQ st t (x:=its[k]) (by simp[hk]) λh' st' sb=>hQ _ h' s.toks ⟨k,e,by simp[hk]⟩ ⟨k+1,by omega,st',?_⟩ sb;obtain⟨o,ho,r⟩:=t;exact⟨o,(sb.2 l hne).trans ho,r⟩
 done:=λs Q E ⟨k,e,st,t⟩ hE=>EX hh st t (ZK (by omega)) hE
def Lz{prog:Program}{w:World}{A:Around}(hh:A.handled=none)(it l:Addr)(hne:l≠it)(its:Array Value)(c:Nat):
  Draws prog w A it [it,l] (c+its.size) (λi v=>∃k,i=c+k/\its[k]?=some v) (λi h=>∃k,i=c+k/\h.IsListIter it l k/\h.IsList l its) where
 live:=λ_ _ ⟨_,_,st,_⟩=>let⟨o,ho,_⟩:=st;⟨o,ho⟩
 frame:=λ_ _ _ ⟨k,e,st,t⟩ hk=>⟨k,e,st.at λo e=>hk it (by simp) o e,t.at λo e=>hk l (by simp) o e⟩
 item:=λi s Q E hi ⟨k,e,st,t⟩ hQ=>by
  have hk:k<its.size:=by omega
  exact wpAny_nextOf_list_item st t (x:=its[k]) (by simp[hk]) λh' st' sb=>hQ _ h' s.toks ⟨k,e,by simp[hk]⟩ ⟨k+1,by omega,st',t.extBut sb.extBut hne⟩ sb
 done:=λs Q E ⟨k,e,st,t⟩ hE=>wpAny_nextOf_list_end hh st t (ZK (by omega)) hE
def Inv.turned2{σ:List (Option V)}{t':Nat}{e:Addr}(I:Inv X pins σ H s)(k:∀b o,b≠it->b≠e->s.heap.get? b=some o->h'.get? b=some o)(f1:qe X pins H it)(f2:qe X pins H e):
  Inv X pins σ H { s with heap:=h',toks:=t' }:=by
 obtain⟨a0,a1,a2,a3,a4,a5⟩:=f1;obtain⟨b0,b1,b2,b3,b4,b5⟩:=f2;have n1:∀b u,H b=some u->b≠it:=λb u q z=>by rw[z,a0]at q;cases q
 have n2:∀b u,H b=some u->b≠e:=λb u q z=>by rw[z,b0]at q;cases q
 have kk:∀b o,b∉[it,e]->s.heap.get? b=some o->h'.get? b=some o:=λb o hb q=>k b o (λz=>hb (by simp[z])) (λz=>hb (by simp[z])) q;refine I.step (λb hb=>?_) (λb o _ _ hc q _=>kk b o hc q) (λb o _ _ hc q _=>⟨o.slots,kk b o hc q⟩) (λ_ _ _ _ n=>n) (λb o hc q=>⟨o,kk b o hc q⟩) (λ_ _ q=>q) (λ_ _ _ q=>q) (λb ps q=>⟨#[],by rw[q];simp⟩) (λm hm=>?_) (λb u q=>?_) I.bare
 ·simp only[zL,kG,j0]at hb;rcases hb with rfl|rfl;·exact⟨a3,a1,a4,a5⟩
  ·exact⟨b3,b1,b4,b5⟩
 ·obtain⟨o,es,ep,ho,r⟩:=hm;exact⟨o,es,ep,k _ o (uo a1) (uo b1) ho,r⟩
 ·refine(I.hok b u q).stay (λc v hc q'=>k c v ?_ ?_ q') (λ_ q'=>q') λ_ _ q'=>q'
  ·rcases hc with z|z;·rw[z];exact n1 b u q
   ·exact n1 c _ z
  ·rcases hc with z|z;·rw[z];exact n2 b u q
   ·exact n2 c _ z
noncomputable def Ite(sq:Hp->List V->Prop)(c:Nat):It:=⟨λi H=>∃xs x,sq H xs/\xs[i]?=some x,
 λi H v H'=>∃p x,v=.ref p/\H p=none/\H'=upd H p (.tup [.int ((c+i:Nat):Int),x])/\∀xs,sq H xs->xs[i]?=some x,λi H=>∃xs,sq H xs/\xs.length<=i⟩
section
variable{w:World}{K:PySem.W.Frag}{tp:Pos}
structure Inner(P:Program)(w:World)(K:PySem.W.Frag)(sq:Hp->List V->Prop)(a it:Addr)(iter:Nat->Heap->Prop):Prop where
 obj:∀i h,iter i h->∃o,h.get? it=some o/\∀v,o.data≠.cell v
 at_:∀i h h',iter i h->(∀o,h.get? it=some o->h'.get? it=some o)->iter i h'
 inj:∀(X:Cx),X.K=K->∀(pins:List (Addr×Obj))(σ:St)(H:Hp)(s:Shared) xs ys,Inv X pins σ H s->sq H xs->sq H ys->xs=ys
 dr:∀(X:Cx),X.prog=P->X.w=w->X.K=K->X.calm=true->∀(pins:List (Addr×Obj))(σ:St)(H:Hp)(s:Shared)(xs:List V)(c:Nat),Inv X pins σ H s->sq H xs->(∀i,iter i s.heap->a≠it)->
  ∃its:List Value,Vals xs its/\xs.length<=sizeLine/\∃(Pd:Nat->Value->Prop)(St:Nat->Heap->Prop),Draws P w X.A.in1 it [it,a] (c+its.length) Pd St/\(∀k v,Pd (c+k) v->its[k]?=some v)/\
   (∀k h,iter k h->(∀o,s.heap.get? a=some o->h.get? a=some o)->a≠it->St (c+k) h)/\∀k h,St (c+k) h->iter k h
 fin:∀(X:Cx),X.prog=P->X.w=w->X.K=K->X.calm=true->∀(pins:List (Addr×Obj))(σ:St)(H:Hp)(s:Shared)(xs:List V)(i:Nat)(Q:Value->Shared->Prop)(E:Value->Shared->Prop),Inv X pins σ H s->sq H xs->xs.length<=i->iter i s.heap->
  (∀h' x,Heap.ExtBut it s.heap h'->(∃o,h'.get? x=some o/\o.cls=.type "StopIteration")->E (.ref x) { s with heap:=h' })->wpAny (model P w) X.A.in1 (Builtin.SmallTypes.nextOf (.ref it)) Q E s
def zR{b:Addr}{ob o:Obj}(hb:b<h.objs.size)(q:(h.push ob).get? b=some o):h.get? b=some o:=by unfold Heap.get? Heap.push at *;simpa[Array.getElem?_push,v9 hb]using q
theorem II{prog:Program}{A:Around}{e:Addr}{c:Int}{old:Value}{Q:Option Value->Shared->Prop}(he:IsEnum s.heap e it c old)(hn:∀(Q':Value->Shared->Prop)(E':Value->Shared->Prop),(∀h' x,Heap.ExtBut it s.heap h'->(∃o,h'.get? x=some o/\o.cls=.type "StopIteration")->E' (.ref x) { s with heap:=h' })->wpAny (model prog w) A.in1 (Builtin.SmallTypes.nextOf (.ref it)) Q' E' s)(hQ:∀h',Heap.ExtBut it s.heap h'->Q none { s with heap:=h' }):wpAny (model prog w) A (pyNext (.ref e)) Q E s:=by
 have ht:s.TypeIs (.ref e) "enumerate":=⟨_,he,rfl⟩
 refine z8 (dz (lT ht F.slot_enumerate_next (n8 F.slot_enumerate_next ht F.entry_enumerate_next ?_ (F.args_enumerate_next_1 _))));refine z8 (m:=field (.ref e) 2) (qO he rfl rfl (z8 (hn _ _ λh' x hb hx=>?_)));obtain⟨o,ho,hc⟩:=hx;exact z8 (wpAny_isInstance ⟨o,ho,hc⟩ isSubtype_stop (zc (hQ _ hb)))
def Bd{e:Addr}{iter:Nat->Heap->Prop}(N:Inner P w K sq a it iter)(c:Nat)(hei:e≠it)(hea:e≠a)(hai:a≠it):
  Turn P w K (.Tuple elts kt tp) (Ite sq c) [e,it] e (λi h=>(∃old,IsEnum h e it ((c+i:Nat):Int) old)/\iter i h) where
 mem:=by simp
 obj:=λi h st b hb=>by
  simp only[zL,kG,j0]at hb;rcases hb with rfl|rfl
  ·obtain⟨old,q⟩:=st.1;exact⟨_,q,λv z=>by cases z⟩
  ·exact N.obj i h st.2
 keep:=λi h h' st k=>⟨st.1.imp λold q=>k e (by simp) _ q,N.at_ i h h' st.2 λo q=>k it (by simp) o q⟩
 item:=by
  intro X hP hw hK hc i pins s σ H E I hf st hg;obtain⟨xs,x,hq,hx⟩:=hg;obtain⟨⟨old,he⟩,hi⟩:=st;obtain⟨its,rv,hz,Pd,St,Dr,p1,p2,p3⟩:=N.dr X hP hw hK hc pins σ H s xs c I hq λ_ _=>hai;obtain⟨u,hu,ru⟩:=rv.get hx;have hil:=(vc.mp hu).1;have fe:=hf e (by simp);have fi:=hf it (by simp);refine wpAny_pyNext_enum_itemD Dr he (p2 i _ hi (λ_ q=>q) hai) (by omega) hei (by simp only[zL,kG,j0,not_or];exact⟨hei,hea⟩) λy h1 tk hy ho hs1 ht hsz hk=>?_;have ey:y=u:=by have q:=p1 i y hy;rw[hu]at q;exact(wq q).symm
  subst ey;refine⟨_,rfl,wpAny_letOwnedTupleGo_enum ho λh2 he2 sb=>?_⟩;have helt:=w5 he;have hpe:=mC helt;obtain⟨oi,hoi,_⟩:=N.obj i _ hi;have hpi:=mC (w5 hoi);have hp:=I.hok.fresh (z9 _);have Ia:Inv X pins σ (upd H s.heap.objs.size (.tup [.int ((c+i:Nat):Int),x])) { s with heap:=s.heap.push { cls:=.type "tuple",data:=.seq #[.int ((c+i:Nat):Int) tk,y] } }:=by refine I.laid (λb o q=>w9 _ q) (z9 _) ?_;exact⟨by show 2<=sizeLine;decide,[.int ((c+i:Nat):Int) tk,y],.cons ⟨tk,rfl⟩ (.cons ru .nil),lH _ _⟩
  have fe':qe X pins (upd H s.heap.objs.size (.tup [.int ((c+i:Nat):Int),x])) e:=⟨by rw[aM (uo hpe)];exact fe.1,fe.2⟩
  have fi':qe X pins (upd H s.heap.objs.size (.tup [.int ((c+i:Nat):Int),x])) it:=⟨by rw[aM (uo hpi)];exact fi.1,fi.2⟩
  have ht2:=(sb.2 _ hpe).trans ht;have Ib:Inv X pins σ (upd H s.heap.objs.size (.tup [.int ((c+i:Nat):Int),x])) { s with heap:=h2,toks:=tk+1 }:=by
   refine Ia.turned2 (λb o n1 n2 q=>?_) fi' fe';by_cases z:b=s.heap.objs.size;·subst z;have q':=v7 s.heap (o:={ cls:=.type "tuple",data:=.seq #[.int ((c+i:Nat):Int) tk,y] }) rfl;rw[q']at q;rw[ht2];exact q
   ·have q2:s.heap.get? b=some o:=by
     rcases Zd b s.heap.objs.size with hb|hb;·exact zR hb q
     ·have hlt:=w5 q;rw[c7]at hlt;exact absurd (Nat.le_antisymm (Nat.le_of_lt_succ hlt) hb) z
    exact(sb.2 b n2).trans (hk b o n2 n1 q2)
  refine⟨.ref s.heap.objs.size,_,Ib,rfl,⟨_,x,rfl,hp,rfl,λys hy'=>by rw[N.inj X hK pins σ H s ys xs I hy' hq];exact hx⟩,⟨⟨y,by have q:=he2;rw[show((c+(i+1):Nat):Int)=((c+i:Nat):Int)+1 by omega];exact q⟩,?_⟩,λb hb=>?_⟩;·refine N.at_ (i+1) h1 h2 (p3 (i+1) h1 hs1) λo q=>(sb.2 it (uo hei)).trans q
  ·simp only[zL,kG,j0]at hb;rcases hb with rfl|rfl;·exact fe'.1
   ·exact fi'.1
 done:=by intro X hP hw hK hc i pins s σ H E I hf st hg;obtain⟨xs,hq,hx⟩:=hg;obtain⟨⟨old,he⟩,hi⟩:=st;have fi:=hf it (by simp);have fin:=N.fin X hP hw hK hc pins σ H s xs i;exact II he (λQ' E' hE=>fin Q' E' I hq hx hi hE) λh' hb=>⟨rfl,I.turned (λb o n q=>hb b o n q) fi.1 fi.2.1 fi.2.2.2.1 fi.2.2.2.2.1 fi.2.2.2.2.2⟩
 self:=λA i s Q E st h=>by obtain⟨⟨old,he⟩,_⟩:=st;exact Zo he h
def Bm(a it:Addr):Inner P w K (λH xs=>SqT K H a xs) a it (λi h=>h.IsTupleIter it a i) where
 obj:=λi h st=>let⟨o,q,c,d⟩:=st;⟨o,q,λv z=>by rw[d]at z;cases z⟩
 at_:=λi h h' st k=>st.at k
 inj:=λX hK pins σ H s xs ys I h1 h2=>by subst hK;exact I.tuple_inj h1 h2
 dr:=λX hP hw hK hc pins σ H s xs c I hq hne=>by
  subst hP hw hK;obtain⟨its,rv,p,hz⟩:=I.tuple hq;have hh:X.A.in1.handled=none:=I.ok.hd hc;by_cases hai:a=it;·exact⟨its,rv,hz,λ_ _=>False,λ_ _=>False,⟨λ_ _ z=>z.elim,λ_ _ _ z _=>z,λ_ _ _ _ _ z _=>z.elim,λ_ _ _ z _=>z.elim⟩,λ_ _ z=>z.elim,λ_ _ _ _ z=>absurd hai z,λ_ _ z=>z.elim⟩
  ·have Dq:=Ks (prog:=X.prog) (w:=X.w) hh it a hai its.toArray c;refine⟨its,rv,hz,λi v=>∃k,i=c+k/\its.toArray[k]?=some v,λi h=>∃k,i=c+k/\h.IsTupleIter it a k/\h.IsTuple a its.toArray,Dq,λk v q=>?_,λk h st kp _=>⟨k,rfl,st,?_⟩,λk h q=>?_⟩
   ·obtain⟨k',e,q⟩:=q;have:k=k':=by omega
    subst this;simpa using q
   ·obtain⟨o,ho,r⟩:=p;exact⟨o,kp o ho,r⟩
   ·obtain⟨k',e,st,_⟩:=q;have:k=k':=by omega
    subst this;exact st
 fin:=λX hP hw hK hc pins σ H s xs i Q E I hq hx st hE=>by subst hP hw hK;obtain⟨its,rv,p,hz⟩:=I.tuple hq;have hl:=rv.length;exact EX (I.ok.hd hc) st (show s.heap.IsTuple a its.toArray from p) (by simp;omega) hE
def tT(a it:Addr):Inner P w K (λH xs=>SqL K H a xs) a it (λi h=>h.IsListIter it a i) where
 obj:=λi h st=>let⟨o,q,c,d⟩:=st;⟨o,q,λv z=>by rw[d]at z;cases z⟩
 at_:=λi h h' st k=>st.at k
 inj:=λX hK pins σ H s xs ys I h1 h2=>by subst hK;exact I.list_inj h1 h2
 dr:=λX hP hw hK hc pins σ H s xs c I hq hne=>by
  subst hP hw hK;obtain⟨its,rv,p,hz⟩:=I.list hq;have hh:X.A.in1.handled=none:=I.ok.hd hc;by_cases hai:a=it;·exact⟨its,rv,hz,λ_ _=>False,λ_ _=>False,⟨λ_ _ z=>z.elim,λ_ _ _ z _=>z,λ_ _ _ _ _ z _=>z.elim,λ_ _ _ z _=>z.elim⟩,λ_ _ z=>z.elim,λ_ _ _ _ z=>absurd hai z,λ_ _ z=>z.elim⟩
  ·have Dq:=Lz (prog:=X.prog) (w:=X.w) hh it a hai its.toArray c;refine⟨its,rv,hz,λi v=>∃k,i=c+k/\its.toArray[k]?=some v,λi h=>∃k,i=c+k/\h.IsListIter it a k/\h.IsList a its.toArray,Dq,λk v q=>?_,λk h st kp _=>⟨k,rfl,st,?_⟩,λk h q=>?_⟩
   ·obtain⟨k',e,q⟩:=q;have:k=k':=by omega
    subst this;simpa using q
   ·obtain⟨o,ho,r⟩:=p.isList;exact⟨o,kp o ho,r⟩
   ·obtain⟨k',e,st,_⟩:=q;have:k=k':=by omega
    subst this;exact st
 fin:=λX hP hw hK hc pins σ H s xs i Q E I hq hx st hE=>by subst hP hw hK;obtain⟨its,rv,p,hz⟩:=I.list hq;have hl:=rv.length;exact wpAny_nextOf_list_end (I.ok.hd hc) st p.isList (by simp;omega) hE
end
end L2
namespace L2
open PySem PySem.Spec PyProof.Rows
noncomputable def bL(c:Nat)(xs:List D):List D:=(List.range xs.length).map λi=>.tup [.int ((c+i:Nat):Int),xs.getD i .non]
def uY{c:Nat}{xs:List D}(h:(bL c xs)[i]?=some d):∃x,xs[i]?=some x/\d=.tup [.int ((c+i:Nat):Int),x]:=by
 unfold bL at h;rw[v8]at h;by_cases hi:i<xs.length
 ·rw[Yf hi]at h;refine⟨xs[i],xn hi,?_⟩;have e:xs.getD i .non=xs[i]:=by rw[zi,xn hi];rfl
  rw[<- e];exact(wq h).symm
 ·rw[p9 (by simp;omega)]at h;cases h
def oB(c:Nat)(xs:List D):(bL c xs).length=xs.length:=by simp[bL]
def ItOk.enum{K:PySem.W.Frag}{c:Nat}(hs:∀G1 H1,Same G G1->Same G1 H1->sq H1 vs)(r:Reps K G vs ds):ItOk K G (Ite sq c) (bL c ds):=by intro i G1 H1 s1 s2;refine⟨λd e=>?_,λhl=>⟨vs,hs G1 H1 s1 s2,by rw[oB]at hl;rw[r.length];exact hl⟩⟩;obtain⟨dx,ex,rfl⟩:=uY e;obtain⟨v,ev,rv⟩:=r.get ex;refine⟨⟨vs,v,hs G1 H1 s1 s2,ev⟩,λx H' y=>?_⟩;obtain⟨p,x',rfl,hp,rfl,y⟩:=y;have z:=y vs (hs G1 H1 s1 s2);rw[ev]at z;cases z;refine⟨upd G1 p (.tup [.int ((c+i:Nat):Int),v]),.new s2 hp,.tup (.of aY) (.cons (.int _) (.cons ((rv.mono s1).mono (.into (s2.free hp))) .nil))⟩
section
variable{tp:Pos}{Rr:It->Hp->Prop}
def rD{l:Addr}{iter:Nat->Heap->Prop}{c:Nat}(I:Inv X pins σ H s)(N:Inner X.prog X.w X.K sq l (s.heap.objs.size) iter)(hl:l<s.heap.objs.size)(he:IsEnum h' (s.heap.objs.size+1) s.heap.objs.size (c:Int) .none)(hi:iter 0 h')(hk:∀b o,s.heap.get? b=some o->h'.get? b=some o)(q:Rr (Ite sq c) H):PIE X pins σ (.Tuple elts kt tp) Rr (.ref (s.heap.objs.size+1)) { s with heap:=h' }:=by
 have hlt:s.heap.objs.size<=s.heap.objs.size+1:=la _;refine⟨_,_,_,_,H,rfl,I.kept hk,Bd N c (mC (ZO _)) (mC (Nat.lt_succ_of_lt hl)) (v9 hl),⟨⟨_,he⟩,hi⟩,λb hb=>?_,q⟩;simp only[zL,kG,j0]at hb;rcases hb with rfl|rfl;·exact I.fpOk hlt (I.hok.fresh hlt)
 ·exact I.fpOk (z9 _) (I.hok.fresh (z9 _))
def SqT.lt'(I:Inv X pins σ H s)(h:SqT X.K H a xs):a<s.heap.objs.size:=by obtain⟨its,rv,⟨o,q,_⟩,_⟩:=I.tuple h;exact w5 q
def SqL.lt'(I:Inv X pins σ H s)(h:SqL X.K H a xs):a<s.heap.objs.size:=by obtain⟨its,rv,p,_⟩:=I.list h;obtain⟨o,q,_⟩:=p.isList;exact w5 q
end
noncomputable def rl:D->R (List D)
 |.lst _ xs=>.ok (bL 0 xs)
 |.tup xs=>.ok (bL 0 xs)
 |_=>.no
noncomputable def Fe:D->D->R (List D)
 |.tup xs,.int c=>if 0<=c/\c<1073741824 then .ok (bL c.toNat xs)else .no
 |_,_=>.no
section
variable{a b:Expr}{ga:Ev->R D}{tp kp:Pos}
def vU(hg:Gl X "enumerate")(hm:X.mg "enumerate"=none)(ha:PF X a ga)(hs:starEach [a] X.env=(false,eval a X.env)::starEach [] X.env:=by rfl):
  PIF X (.Tuple elts kt tp) (.Call (.Name "enumerate" p) [a] [] pos) (av rl ga):=by
 intro pins s σ H Rr I h;obtain⟨G,ρ,st,h⟩:=h;have ta:Ej (tF X ga) Nq σ H (λvs H1=>∃v,vs=[v]/\∃G1 d,Up G H G1 H1/\Rep X.K G1 v d/\Same G1 H1/\(rl d).post (Fin G1 H1 (λG J items=>ItOk X.K G J items) Rr) (Exx X σ G1 H1)):=
  tG.intro st h λd v G1 H1 u1 st1 r1 h1=>⟨v,rfl,G1,d,u1,r1,st1.sub,h1⟩
 refine Call_ (oS I hg hm PyProof.Rows.Boot.«enumerate» (PyProof.Rows.callWith_type1 (thn ((eW ha lx hs) pos pins s σ H _ I ta) λus s1 ⟨vs,H1,I1,r1,q1⟩=>?_) hs rfl));obtain⟨v,hv,G1,d,u1,rd,sub,h1⟩:∃v,vs=[v]/\∃G1 d,Up G H G1 H1/\Rep X.K G1 v d/\Same G1 H1/\(rl d).post (Fin G1 H1 (λG J items=>ItOk X.K G J items) Rr) (Exx X σ G1 H1):=q1;subst hv;obtain⟨u,rfl,rv⟩:=r1.one;cases rd with
 |lst hq t=>cases rv;have hq':SqL X.K G1 _ _:=.of hq;obtain⟨its,rvs,p,hz⟩:=I1.list (hq'.mono sub);exact call_enumerate_list p.isList λh' he hi hsz hk=>Zo he (rD I1 (tT _ _) (SqL.lt' I1 (hq'.mono sub)) he hi hk (h1 _ G1 H1 (.refl sub) (ItOk.enum (λG2 H2 s1 s2=>(hq'.mono s1).mono s2) t)))
 |fls hq t=>cases rv;obtain⟨its,rvs,p,hz⟩:=I1.list (hq.mono sub);exact call_enumerate_list p.isList λh' he hi hsz hk=>Zo he (rD I1 (tT _ _) (SqL.lt' I1 (hq.mono sub)) he hi hk (h1 _ G1 H1 (.refl sub) (ItOk.enum (λG2 H2 s1 s2=>(hq.mono s1).mono s2) t)))
 |tup hq t=>cases rv;obtain⟨its,rvs,⟨⟨cls,dd,data,sl⟩,ho,hc,n,hd⟩,hz⟩:=I1.tuple (hq.mono sub);subst hc hd;exact C6 ho λh' he hi hsz hk=>Zo he (rD I1 (Bm _ _) (SqT.lt' I1 (hq.mono sub)) he ⟨_,hi,rfl,rfl⟩ hk (h1 _ G1 H1 (.refl sub) (ItOk.enum (λG2 H2 s1 s2=>(hq.mono s1).mono s2) t)))
 |_=>exact h1.elim
noncomputable def Ka(ga gb:Ev->R D):Ev->R (List D):=λρ=>ga ρ>>=λx=>gb ρ>>=λc=>Fe x c
end
noncomputable def zN:List D->Option D
 | [.lst _ ds]=>match ox ds with
  |some ns=>some (.int ns.sum)
  |none=>none
 | [.tup ds]=>match ox ds with
  |some ns=>some (.int ns.sum)
  |none=>none
 |_=>none
theorem Vals.ints:∀{ns:List Int}{its:List Value},Vals (ns.map V.int) its->IntsAre its ns
 | [],_,.nil=>.nil
 |n::ns,_,.cons r t=>by obtain⟨tk,rfl⟩:=r;exact .cons n tk (Vals.ints t)
section
def uM{ns:List Int}(rv:Vals (ns.map V.int) its):∃xs:Array (Int×Tok),its.toArray=intItems xs/\preSum (numAt xs) xs.size=ns.sum:=by
 have hi:=Vals.ints rv;obtain⟨xs,hx⟩:=hi.allInts.items;have e1:ns=xs.toList.map (·.1):=by rw[<- nums_intItems,<- hx];exact(show numsOf its.toArray.toList=ns from hi.numsOf).symm
 exact⟨xs,hx,by rw[preSum_eq,j3 (by simp),e1]⟩
def A0(hc:X.calm=true):lC X (.builtin "sum") (λxs H Q=>∃p,∃ns:List Int,xs=[.ref p]/\(SqL X.K H p (ns.map V.int)\/SqT X.K H p (ns.map V.int))/\Q (.int ns.sum) H):=by
 intro pins s σ H xs us Q I r ⟨p,ns,ex,hs,q⟩;subst ex;obtain⟨u,rfl,r1⟩:=r.one;cases r1;rcases hs with hs|hs
 ·obtain⟨its,rv,pl,hz⟩:=I.list hs;obtain⟨xs,hx,e2⟩:=uM rv;refine sum_intListG (I.ok.hd hc) (hx▸pl.isList) λh' tk t' hk=>?_;rw[e2];exact⟨.int _,H,I.kept hk,⟨_,rfl⟩,q⟩
 ·obtain⟨its,rv,pl,hz⟩:=I.tuple hs;obtain⟨xs,hx,e2⟩:=uM rv;have ht:=pl;refine PySem.W.ktm_sumG (I.ok.hd hc) (hx▸ht) λh' tk t' hk=>?_;rw[e2];exact⟨.int _,H,I.kept hk,⟨_,rfl⟩,q⟩
def Gw(K:PySem.W.Frag):Iq K (λxs H Q=>∃p,∃ns:List Int,xs=[.ref p]/\(SqL K H p (ns.map V.int)\/SqT K H p (ns.map V.int))/\Q (.int ns.sum) H) zN:=by
 intro G H xs ds d Q s r e q;unfold zN at e;split at e
 ·split at e;·rename_i ns hn;cases e;obtain⟨v,rfl,r1⟩:=r.one;obtain⟨a,vs,rfl,hs,rr⟩:=r1.seq_inv;obtain rfl:=rr.nums hn;exact⟨a,ns,rfl,.inl (hs.mono s),q _ G H (.refl s) (.int _)⟩
  ·cases e
 ·split at e;·rename_i ns hn;cases e;obtain⟨v,rfl,r1⟩:=r.one;obtain⟨a,vs,rfl,hs,rr⟩:=r1.tup_inv;obtain rfl:=rr.nums hn;exact⟨a,ns,rfl,.inr (hs.mono s),q _ G H (.refl s) (.int _)⟩
  ·cases e
 ·cases e
def GY{e:Expr}(hc:X.calm=true)(hg:Gl X "sum")(hm:X.mg "sum"=none)(ha:PFA X [e] gl)(he:starEach [e] X.env=(false,eval e X.env)::starEach [] X.env:=by rfl):
  PF X (.Call (.Name "sum" p) [e] [] pos) (gOf zN gl):=mM (A0 hc) (Gw _) hg hm PyProof.Rows.Boot.«sum» ha (by decide) (by decide) he rfl
end
noncomputable def Nv(i j:Nat)(ga:Ev->R D)(gl:Ev->R (List D)):Ev->O:=λρ=>(ga ρ).out ρ λd=>(gl ρ).out ρ λds=>.nx ((ρ.set i (some (.val d))).set j (some (.own ds)))
def Inv.turnedL{σ:List (Option V)}{t':Nat}(I:Inv X pins σ H s)(k:∀b o,b∉ch->s.heap.get? b=some o->h'.get? b=some o)(f:∀b∈ch,qe X pins H b):
  Inv X pins σ H { s with heap:=h',toks:=t' }:=by
 have n1:∀b u,H b=some u->b∉ch:=λb u q z=>by rw[(f b z).1]at q;cases q
 refine I.step (g':=s.gens) (d':=s.drawn) (ch:=ch) (λb hb=>?_) (λb o _ _ hc q _=>k b o hc q) (λb o _ _ hc q _=>⟨o.slots,k b o hc q⟩) (λ_ _ _ _ n=>n) (λb o hc q=>⟨o,k b o hc q⟩) (λ_ _ q=>q) (λ_ _ _ q=>q) (λb ps q=>⟨#[],by rw[q];simp⟩) (λm hm=>?_) (λb u q=>?_) I.bare;·obtain⟨a0,a1,a2,a3,a4,a5⟩:=f b hb;exact⟨a3,a1,a4,a5⟩
 ·obtain⟨o,es,ep,ho,r⟩:=hm;exact⟨o,es,ep,k _ o (λz=>(f _ z).2.1 rfl) ho,r⟩
 ·refine(I.hok b u q).stay (λc v hc q'=>k c v ?_ q') (λ_ q'=>q') λ_ _ q'=>q';rcases hc with z|z;·rw[z];exact n1 b u q
  ·exact n1 c _ z
noncomputable def Mc:D->D->R D
 |.str x,.int k=>if k = -1 then .ok (.str x.reverse)else .no
 |.lst _ xs,.int k=>if k = -1 then .ok (.lst false xs.reverse)else .no
 |_,_=>.no
def Qm(ga gs:Ev->R D):Ev->R D:=λρ=>ga ρ>>=λx=>gs ρ>>=λk=>Mc x k
section
variable{a st:Expr}{ga gs:Ev->R D}{p2:Pos}
noncomputable def xC:List D->Option D
 | [.bl b]=>some (.int (if b=true then 1 else 0))
 |_=>none
def yV:lC X (.type "int") (λxs H Q=>∃b:Bool,xs=[.bl b]/\Q (.int (if b=true then 1 else 0)) H):=by intro pins s σ H xs us Q I r ⟨b,ex,q⟩;subst ex;obtain⟨u,rfl,r1⟩:=r.one;cases r1;exact call_int_bool ⟨.int _,H,I.tok _,⟨_,rfl⟩,q⟩
def CO(K:PySem.W.Frag):Iq K (λxs H Q=>∃b:Bool,xs=[.bl b]/\Q (.int (if b=true then 1 else 0)) H) xC:=by
 intro G H xs ds d Q s r e q;unfold xC at e;split at e;·cases e;obtain⟨v,rfl,r1⟩:=r.one;cases r1;exact⟨_,rfl,q _ G H (.refl s) (.int _)⟩
 ·cases e
def Gk{e:Expr}(hg:Gl X "int")(hm:X.mg "int"=none)(ha:PFA X [e] gl)(he:starEach [e] X.env=(false,eval e X.env)::starEach [] X.env:=by rfl):
  PF X (.Call (.Name "int" p) [e] [] pos) (gOf xC gl):=tN yV (CO _) hg hm PyProof.Rows.Boot.«int» ha (by decide) (by decide) he rfl
end
noncomputable def xy(gt:Ev->R Bool)(g:Ev->O):Nat->Ev->O
 | 0,_=>.no
 |n+1,ρ=>(gt ρ).out ρ λk=>if k=true then (match g ρ with
  |.nx ρ2=>xy gt g n ρ2
  |.ct ρ2=>xy gt g n ρ2
  |.bk ρ2=>.nx ρ2
  |.rt d=>.rt d
  |.re d ρ2=>.re d ρ2
  |.ex C ρ2=>.ex C ρ2
  |.no=>.no)else .nx ρ
def LR(n:Nat)(gt:Ev->R Bool)(g:Ev->O):Ev->O:=λρ=>xy gt g n ρ
noncomputable def Bj(gs:List (Ev->R D))(ρ:Ev):D->R D
 |.int i=>if 0<=i then (match gs[i.toNat]? with
  |some g=>g ρ
  |none=>.no)else .no
 |_=>.no
def N8(gs:List (Ev->R D))(gi:Ev->R D):Ev->R D:=λρ=>gi ρ>>=Bj gs ρ
def Ly{gi:Ev->R D}:N8 gs gi ρ=gi ρ>>=Bj gs ρ:=rfl
def Ja{g:Ev->R D}:Bj (g::gs) ρ (.int 0)=g ρ:=rfl
def LG{f g:Ev->R D}:Bj (f::g::gs) ρ (.int 1)=g ρ:=rfl
section
variable{a b:Expr}{ga:Ev->R D}
structure KTup(K:PySem.W.Frag)(c:Addr)(ls:List (List Nat)):Prop where
 ex:∃(o:Obj)(its:Array Value)(n:Nat)(vs:List V),K.lookup c=some o/\o.cls=.type "tuple"/\o.data=.seq its n/\its.size<=sizeLine/\Vals vs its.toList/\∀G,Reps K G vs (ls.map .str)
end
def PY(n:Nat):List Nat:=(Nat.toDigits 10 n).map Char.toNat
section
variable{a b c e e1 e2 e3 e4 e5:Expr}{ga gc g1 g2' g3' g4 g5:Ev->R D}
noncomputable def Pz:D->R D
 |.int i=>if 0<=i/\i<10000000000 then .ok (.str (PY i.toNat))else .no
 |.str x=>.ok (.str x)
 |_=>.no
noncomputable def ww:List (Ev->R D)->List Nat->Ev->R D
 | [],out=>λ_=>.ok (.str out)
 |g::gs,out=>λρ=>g ρ>>=λd=>match d with
  |.str x=>if (out++x).length<=sizeLine then ww gs (out++x) ρ else .no
  |_=>.no
def Np(gs:List (Ev->R D)):Ev->R D:=ww gs []
end
noncomputable def MD(j i:Nat)(gl:Ev->R (List D)):Ev->O:=λρ=>(jC (gl (frz j ρ))).out ρ λds=>if ds.all (fl 10)=true then .nx (ρ.set i (some (.own ds)))else .no
section
variable{prog:Program}{w:World}{A:Around}
structure Z3(z TI TO i1 i2 i3 l1 l2 l3:Addr):Prop where
 nd:[z,TI,TO,i1,i2,i3].Nodup
 ap:∀l∈[l1,l2,l3],l∉[z,TO,i1,i2,i3]
end
noncomputable def xX(asg:D->Ev->R Ev)(gt:Ev->R Bool)(ge:Ev->R D):List D->Ev->R (List D)
 | [],_=>.ok []
 |d::ds,ρ=>jC (asg d ρ)>>=λρ1=>jC (gt ρ1)>>=λk=>if k=true then ge ρ1>>=λx=>xX asg gt ge ds ρ1>>=λxs=>.ok (x::xs)else xX asg gt ge ds ρ1
noncomputable def K6(gi:Ev->R (List D))(ix:List Nat)(gt:Ev->R Bool)(ge:Ev->R D):Ev->R (List D):=λρ=>gi ρ>>=λitems=>if items.length<=sizeLine then xX (jz 0) gt ge items (fU ix ρ)else .no
section
variable{a b c e ix:Expr}{ga gi:Ev->R D}{p1 p2 p3 pl sp:Pos}
noncomputable def JK(c:Nat):List Nat->Option (List Nat×List Nat)
 | []=>none
 |d::r=>if d=c then some ([],r)else (JK c r).map λp=>(d::p.1,p.2)
noncomputable def Hw(c:Nat)(x:List Nat):List Nat×List Nat×List Nat:=match JK c x with
 |some (p,q)=>(p,[c],q)
 |none=>(x,[],[])
noncomputable def NJ:D->List D->Option D
 |.str x,[.str [c]]=>if x.length<=10000 then some (.tup [.str (Hw c x).1,.str (Hw c x).2.1,.str (Hw c x).2.2])else none
 |_,_=>none
def IW{f g h:Ev->R D}:Bj (f::g::h::gs) ρ (.int 2)=h ρ:=rfl
end
structure ClOk(N:List Str)(scope:Scope)(cl:List (Str×Addr))(σ:St)(H:Hp)(h:Heap):Prop where
 kind:scope.kind=.function
 nocell:∀y∈scope.names,y.2≠.cell
 inj:∀y z c,cl.lookup y=some c->cl.lookup z=some c->y=z
 has:∀y,scope.names.lookup y=some .free->∃c,cl.lookup y=some c
 cell:∀y c,cl.lookup y=some c->H c=none/\∃v,h.IsCell c v
 val:∀(i:Nat) y v,N[i]?=some y->σ[i]?=some (some v)->∃u c,RelV v u/\scope.names.lookup y=some .free/\cl.lookup y=some c/\h.IsCell c (some u)
 len:σ.length=N.length
section
variable{params:Arguments}{body:Expr}{c P:Addr}{ps:Array Value}{Q:Value->Shared->Prop}
structure Lam(X:Cx)(pins:List (Addr×Obj))(σ:St)(H:Hp)(s:Shared)(params:Arguments)(body:Expr)(scope:Scope)(f:Addr)(cd ctv pm:Value)(H1:Hp)(s1:Shared):Prop where
 inv:Inv X pins σ H1 s1
 hh:Same H H1
 new:∀a,H a=none->H1 a=none\/s.heap.objs.size<=a
 free:H1 f=none
 fn:s1.heap.get? f=some { cls:=.type "function",data:=.func (PySem.W.kla_fn "<lambda>" (X.env.qual++"<lambda>") params body scope (zZ X.env scope.names []) pm cd ctv) }
 codeH:∃c o vs t u,cd=.ref c/\H1 c=some (.frz o u)/\o.data=.fields vs/\vs[1]?=some (.str (X.env.qual++"<lambda>") t)
end
structure FnFH(P:Program)(w:World)(K:PySem.W.Frag)(mg:Str->Option Value)(base:Heap)(k:Nat)(f:Addr)(fd:FuncData)(ps:List Str)(g:List D->R D):Prop where
 run:∀(A:Around)(x:Addr)(outer:List Env)(s:Shared)(H:Hp)(args:Args)(us:List Value)(vs:List V)(Q:VK)(E:XK),Room k A->Env0 P w K mg base A outer s H->BindsTo s fd args (ps.zip us)->Vals vs us->(vs.length=ps.length/\spF K g vs H Q E)->
  codeAny (model P w) (A.mark (some (.ref x))) (.call (.ref f) args) (CR (CXo P w) outer P w H s Q E) s
structure CalleeH(P:Program)(w:World)(K:PySem.W.Frag)(mg:Str->Option Value)(base:Heap)(x:Str)(k n:Nat)(g:List D->R D):Prop where
 ex:∃f fd ps,FnFH P w K mg base k f fd ps g/\mg x=some (.ref f)/\PySem.W.keepIn K (.ref f)=true/\Binds K fd ps []/\ps.length=n
noncomputable def LA(P:Program)(w:World)(K:PySem.W.Frag)(mg:Str->Option Value)(base:Heap)(k:Nat)(s1:Shared)(G1 H1:Hp)(f:Addr)(m:R D):Prop:=
 ∀(Y:Cx)(pins:List (Addr×Obj))(σY:St)(G2 H2:Hp)(s2:Shared)(fs:List Addr)(Q:VK),Y.prog=P->Y.w=w->Y.K=K->Y.mg=mg->Y.base=base->Inv Y pins σY H2 s2->Room k Y.A->Un fs [] H1 H2 s1.heap s2.heap->Up G1 H1 G2 H2->
  m.post (Fin G2 H2 (Rep Y.K) Q) (Exx Y σY G2 H2)->(∃o fd,s2.heap.get? f=some o/\o.data=.func fd)/\wpAny (model Y.prog Y.w) Y.A (call (.ref f) []) (EP Y pins σY Q) Y.xe s2
structure Told(P:Program)(w:World)(K:PySem.W.Frag)(mg:Str->Option Value)(base:Heap)(x:Str)(k j:Nat)(g:R D->R D):Prop where
 ex:∃ft,mg x=some (.ref ft)/\PySem.W.keepIn K (.ref ft)=true/\∀(A:Around)(outer:List Env)(s1:Shared)(G1 H1:Hp)(f:Addr)(m:R D)(Q:VK)(E:XK),Room k A->Env0 P w K mg base A outer s1 H1->Same G1 H1->LA P w K mg base j s1 G1 H1 f m->
  (g m).post (Fin G1 H1 (Rep K) Q) (λC=>∀G' H',Up G1 H1 G' H'->E (.ref C) none H')->codeAny (model P w) A (.call (.ref ft) ⟨[.ref f],[]⟩) (CR (CXo P w) outer P w H1 s1 Q E) s1
structure LamAt(X:Cx):Prop where
 ex:∃c P q,X.env.code=.ref c/\(∀h,X.K.In h->PySem.W.CodeHd h c P)/\LU X.base P q/\q=X.env.qual++"<lambda>"/\X.base.BuiltinsAt X.mg P/\mainGlobals≠P
structure LamOk(X:Cx)(scope:Scope)(N':List Str)(ix:List Nat):Prop where
 kind:scope.kind=.function
 co:scope.isCoroutine=false
 gen:scope.isGenerator=false
 cell:∀y∈scope.names,y.2≠.cell
 fr:∀y∈scope.names,y.2=.free->X.env.kindOf y.1=some .cell
 tl:N'=ix.map λ(i:Nat)=>X.N.getD i Str.empty
 lt:∀i∈ix,i<X.N.length
 fre:∀y∈N',scope.names.lookup y=some .free/\(y,NameKind.free)∈scope.names
structure LamDef(K:PySem.W.Frag)(mg:Str->Option Value)(fd:FuncData)(Pt:Addr):Prop where
 ex:∃c,fd.code=.ref c/\∀h,K.In h->PySem.W.CodeHd h c Pt
 ne:mainGlobals≠Pt
structure LamB(K:PySem.W.Frag)(mg:Str->Option Value)(base:Heap)(qual:Str)(fd:FuncData)(Pt:Addr):Prop where
 ld:LamDef K mg fd Pt
 tb:LU base Pt (qual++".<locals>."++"<lambda>")
 bm:base.BuiltinsAt mg Pt
def hid(H:Hp)(ow:mw):Hp:=λa=>if (ow a).isSome=true then none else H a
def CW{o:HO}(h:hid H ow a=some o):H a=some o/\ow a=none:=by
 unfold hid at h;split at h;·cases h
 ·rename_i q;exact⟨h,by cases e:ow a with|none=>rfl|some t=>rw[e]at q;exact absurd rfl q⟩
def mS{t:Nat×Nat}(h:ow a=some t):hid H ow a=none:=by unfold hid;rw[h];exact if_pos rfl
def kO(h:ow a=none):hid H ow a=H a:=by unfold hid;rw[h];exact if_neg (by simp)
def Hm(H:Hp)(ow:mw):Same (hid H ow) H:=λa o e=>(CW e).1
noncomputable def wX(i j:Nat)(ow:mw):mw:=λa=>match ow a with
 |some (i',t)=>if i'=i then some (j,t)else none
 |none=>none
def qX{t:Nat}(h:ow a=some (i,t)):wX i j ow a=some (j,t):=by unfold wX;rw[h];exact if_pos rfl
def Dt{t:Nat×Nat}(h:wX i j ow a=some t):ow a=some (i,t.2)/\t.1=j:=by
 unfold wX at h;split at h
 ·rename_i i' t' e;split at h;·rename_i z;subst z;cases h;exact⟨e,rfl⟩
  ·cases h
 ·cases h
section
variable{K:PySem.W.Frag}{H₀:Hp}{m:Bool}{p:Addr}{fs:List (Nat×Fd)}
def FdAt.hid{m':Bool}:∀{fd:Fd}{v:V},FdAt K H₀ G H ow i m k fd v->FdAt K (L2.hid H ow) G H ow i m' k fd v
 |.val d,v,r=>r
 |.own ds,v,⟨l,ws,e,h1,h2,h3,h4,h5⟩=>⟨l,ws,e,h1,h2,λ_=>mS h5,h4,h5⟩
theorem FdsAt.hid{m':Bool}:∀{fs:List (Nat×Fd)}{vs:List (Str×V)},FdsAt K H₀ G H ow i m fs vs->FdsAt K (L2.hid H ow) G H ow i m' fs vs
 |_,_,.nil=>.nil
 |_,_,.cons h nk r t=>.cons h nk (FdAt.hid r) (FdsAt.hid t)
def InsAt.hid(h:InsAt K H₀ G H ow i m C p fs)(m':Bool):InsAt K (L2.hid H ow) G H ow i m' C p fs:=by obtain⟨dx,vs,h1,h2,h3,h4,h5,h6,h7,h8⟩:=h;exact⟨dx,vs,h1,h2,h3,h4,λ_=>⟨mS h6,mS h7⟩,h6,h7,h8.hid⟩
def DcoAt.hid(h:DcoAt K H₀ G H ow i m p fs)(m':Bool):DcoAt K (L2.hid H ow) G H ow i m' p fs:=
 let⟨o,xs,ks,ds,h1,h2,h3,h4,h5,h6,h7⟩:=h
 ⟨o,xs,ks,ds,h1,h2,λ_=>mS h4,h4,h5,h6,h7⟩
def ObjAt.hid(h:ObjAt K H₀ G H ow i m C p fs)(m':Bool):ObjAt K (L2.hid H ow) G H ow i m' C p fs:=h.imp (λz=>⟨z.1,z.2.hid m'⟩) λz=>⟨z.1,z.2.hid m'⟩
def FdAt.ro{H₀':Hp}:∀{fd:Fd}{v:V},FdAt K H₀ G H ow i m k fd v->FdAt K H₀' G H ow i false k fd v
 |.val d,v,r=>r
 |.own ds,v,⟨l,ws,e,h1,h2,h3,h4,h5⟩=>⟨l,ws,e,h1,h2,λz=>absurd z (by decide),h4,h5⟩
theorem FdsAt.ro{H₀':Hp}:∀{fs:List (Nat×Fd)}{vs:List (Str×V)},FdsAt K H₀ G H ow i m fs vs->FdsAt K H₀' G H ow i false fs vs
 |_,_,.nil=>.nil
 |_,_,.cons h nk r t=>.cons h nk (FdAt.ro r) (FdsAt.ro t)
def InsAt.ro(h:InsAt K H₀ G H ow i m C p fs)(H₀':Hp):InsAt K H₀' G H ow i false C p fs:=by obtain⟨dx,vs,h1,h2,h3,h4,h5,h6,h7,h8⟩:=h;exact⟨dx,vs,h1,h2,h3,h4,λz=>absurd z (by decide),h6,h7,h8.ro⟩
def DcoAt.ro(h:DcoAt K H₀ G H ow i m p fs)(H₀':Hp):DcoAt K H₀' G H ow i false p fs:=
 let⟨o,xs,ks,ds,h1,h2,h3,h4,h5,h6,h7⟩:=h
 ⟨o,xs,ks,ds,h1,h2,λz=>(nomatch z),h4,h5,h6,h7⟩
def ObjAt.ro(h:ObjAt K H₀ G H ow i m C p fs)(H₀':Hp):ObjAt K H₀' G H ow i false C p fs:=h.imp (λz=>⟨z.1,z.2.ro H₀'⟩) λz=>⟨z.1,z.2.ro H₀'⟩
end
noncomputable def gR(m:Bool)(C p:Addr)(fs:List (Nat×Fd))(n:Nat)(ds:List D):Ev:=some (.obj m C p fs)::(ds.map (λd=>some (.val d))++List.replicate (n - (ds.length+1)) none)
def tK{K:PySem.W.Frag}{H₀:Hp}{m:Bool}{p:Addr}{fs:List (Nat×Fd)}{N:List Str}{us:List V}(sub0:Same G H₀)(up:Up G H₀ G H)(r:Reps K G us ds)(ob:ObjAt K H₀ G H ow 0 m C p fs):
  StR K G H₀ G H (start N (.ref p::us)) (gR m C p fs N.length ds):=by
 have hl:=r.length;have get:∀(i:Nat) x,(gR m C p fs N.length ds)[i]?=some (some x)->(i=0/\x=.obj m C p fs)\/∃k d,i=k+1/\ds[k]?=some d/\x=.val d:=λi x e=>by
  cases i with
  |zero=>left;cases e;exact⟨rfl,rfl⟩
  |succ k=>
   right;unfold gR at e;rw[ZV]at e;by_cases hi:k<ds.length
   ·rw[t9 (by simpa using hi),v8]at e;cases q:ds[k]? with
    |none=>rw[q]at e;cases e
    |some d=>rw[q]at e;cases e;exact⟨k,d,rfl,q,rfl⟩
   ·rw[rg (by simpa using hi),l9]at e;split at e <;> cases e
 have obs:ObSt K H₀ G H (start N (.ref p::us)) (gR m C p fs N.length ds):=by
  refine⟨ow,λi es l e=>?_,λi m' C' p' fs' e=>?_⟩;·rcases get i _ e with⟨_,z⟩|⟨k,d,_,_,z⟩ <;> cases z
  ·rcases get i _ e with⟨rfl,z⟩|⟨k,d,_,_,z⟩;·cases z;exact⟨rfl,ob⟩
   ·cases z
 refine⟨⟨up.sub,?_,λi d e=>?_,obs.rd⟩,sub0,up,λi es e=>?_,λi j es fs l e=>?_,obs⟩;·simp[start,gR,hl]
 ·rcases get i _ e with⟨_,z⟩|⟨k,d',rfl,e',z⟩;·cases z
  ·cases z;obtain⟨v,ev,rv⟩:=r.get e';refine⟨v,?_,rv⟩;unfold start;rw[xk,List.cons_append,ZV,t9 (by have:=(vc.mp ev).1;simpa using this),v8,ev];rfl
 ·rcases get i _ e with⟨_,z⟩|⟨k,d,_,_,z⟩ <;> cases z
 ·rcases get i _ e with⟨_,z⟩|⟨k,d,_,_,z⟩ <;> cases z
inductive RM where
 |ok (d:D) (fs:List (Nat×Fd))|rd (d:D)|ex (C:Addr)|no
abbrev MF:=List (Nat×Fd)->List D->RM
noncomputable def sX(C:Addr)(g:Ev->O)(n:Nat)(F:MF):Prop:=∀p fs ds,match F fs ds with
 |.ok d fs'=>∃ρ',ρ'[0]?=some (some (.obj true C p fs'))/\(g (gR true C p fs n ds)=.re d ρ'\/(g (gR true C p fs n ds)=.nx ρ'/\d=.non))
 |.rd d=>g (gR false C p fs n ds)=.rt d
 |.ex E=>∃ρ',g (gR false C p fs n ds)=.ex E ρ'
 |.no=>True
noncomputable def spM(K:PySem.W.Frag)(C:Addr)(F:MF):Sp:=λvs H Q E=>∃G p us ds fs ow,vs=.ref p::us/\Reps K G us ds/\Same G H/\(∀a t,ow a=some t->G a=none)/\ObjAt K (λ_=>none) G H ow 0 true C p fs/\match F fs ds with
 |.ok d fs'=>∀v G' H' ow',Up G (hid H ow) G' H'->ObjAt K (hid H ow) G' H' ow' 0 true C p fs'->Rep K G' v d->Q v H'
 |.rd d=>∀v G' H',Up G H G' H'->Rep K G' v d->Q v H'
 |.ex C'=>∀G' H',Up G H G' H'->E (.ref C') none H'
 |.no=>False
noncomputable abbrev FnM(P:Program)(w:World)(K:PySem.W.Frag)(mg:Str->Option Value)(base:Heap)(k:Nat)(f:Addr)(fd:FuncData)(ps:List Str)(C:Addr)(F:MF):Prop:=FnOk P w K mg base (CXo P w) k f fd ps (λvs H Q E=>vs.length=ps.length/\spM K C F vs H Q E)
def Lj(sub:Same G H)(hg:∀a t,ow a=some t->G a=none):Same G (hid H ow)/\Up G (hid H ow) G H:=by
 have s:Same G (hid H ow):=λa o e=>by
  cases q:ow a with
  |none=>rw[kO q];exact sub a o e
  |some t=>rw[hg a t q]at e;cases e
 exact⟨s,sub,.refl _,Hm H ow,λ_ _ e=>.inl e⟩
def Fun.okM{w:World}{K:PySem.W.Frag}{mg:Str->Option Value}{base:Heap}{N:List Str}{F:MF}(Fn:Fun K x qual st f fd)(S:FnScope N ps (am st)){g:Ev->O}(ok:sX C g N.length F)(hbody:∀(cdv:Value)(A:Around)(outer:List Env)(s:Shared)(H:Hp)(E:XK),Room k (A.deeper (envOfC qual (am st) s.heap.objs.size f cdv))->mL (gJ (CXo P w) P w K mg base N qual (am st) f cdv A outer s H E) (db st) g):
  FnM P w K mg base (k+1) f fd ps C F:=by
 obtain⟨oc,od,kV,doc,pm,an,cdv,ct,osl,rfl,lk,hcd⟩:=Fn.ex;refine DV lk hcd S (λvs H Q E h=>h.1) λA outer s H vs Q E hr hsp=>?_;obtain⟨hl,G,p,us,ds,fs,ow,rfl,r,sub,og,ob,h⟩:=hsp;have o:=ok p fs ds;have rdo:StR K G H G H (start N (.ref p::us)) (gR false C p fs N.length ds):=tK sub (.refl sub) r (ob.ro H);cases q:F fs ds with
 |no=>rw[q]at h;exact h.elim
 |rd d=>rw[q]at h o;refine⟨_,hbody cdv A outer s H E hr G H,G,_,rdo,?_⟩;rw[o];exact λv G' H' u rv=>h v G' H' u rv
 |ex C'=>rw[q]at h o;obtain⟨ρ',o⟩:=o;refine⟨_,hbody cdv A outer s H E hr G H,G,_,rdo,?_⟩;rw[o];exact λe s' fl=>si fl h
 |ok d fs'=>
  rw[q]at h o;obtain⟨ρ',e0,o⟩:=o;obtain⟨s0,u0⟩:=Lj sub og;refine⟨_,hbody cdv A outer s H E hr G (hid H ow),G,gR true C p fs N.length ds,tK s0 u0 r (ob.hid true),?_⟩;have fin:∀σ G' H',StR K G (hid H ow) G' H' σ ρ'->∃ow',ObjAt K (hid H ow) G' H' ow' 0 true C p fs':=λσ G' H' sr=>by obtain⟨ow',_,o2⟩:=sr.ob;exact⟨ow',(o2 0 true C p fs' e0).2⟩
  rcases o with o|⟨o,rfl⟩;·rw[o];intro v σ G' H' sr rv;obtain⟨ow',z⟩:=fin σ G' H' sr;exact h v G' H' ow' sr.up z rv
  ·rw[o];intro σ G' H' sr;obtain⟨ow',z⟩:=fin σ G' H' sr;exact h .non G' H' ow' sr.up z .non
noncomputable def pL(i:Nat)(m:Bool)(H₀ G H:Hp)(ow:mw):mw:=λa=>open Classical in if (∃o,H a=some o)/\G a=none/\(m=true->H₀ a=none)then wX i 0 ow a else none
section
variable{K:PySem.W.Frag}{H₀:Hp}{m:Bool}{p:Addr}{fs:List (Nat×Fd)}
def sf{t:Nat}{o:HO}(h:ow a=some (i,t))(e:H a=some o)(g:G a=none)(z:m=true->H₀ a=none):pL i m H₀ G H ow a=some (0,t):=by unfold pL;rw[if_pos ⟨⟨o,e⟩,g,z⟩];exact qX h
def ph{t:Nat×Nat}(h:pL i m H₀ G H ow a=some t):ow a=some (i,t.2)/\(∃o,H a=some o)/\G a=none/\(m=true->H₀ a=none):=by
 unfold pL at h;split at h;·rename_i q;exact⟨(Dt h).1,q⟩
 ·cases h
def FdAt.cut:∀{fd:Fd}{v:V},FdAt K H₀ G H ow i m k fd v->FdAt K (λ_=>none) G H (pL i m H₀ G H ow) 0 true k fd v
 |.val d,v,r=>r
 |.own ds,v,⟨l,ws,e,h1,h2,h3,h4,h5⟩=>⟨l,ws,e,h1,h2,λ_=>rfl,h4,sf h5 h1 h2 h3⟩
theorem FdsAt.cut:∀{fs:List (Nat×Fd)}{vs:List (Str×V)},FdsAt K H₀ G H ow i m fs vs->FdsAt K (λ_=>none) G H (pL i m H₀ G H ow) 0 true fs vs
 |_,_,.nil=>.nil
 |_,_,.cons h nk r t=>.cons h nk (FdAt.cut r) (FdsAt.cut t)
def InsAt.cut(h:InsAt K H₀ G H ow i m C p fs):InsAt K (λ_=>none) G H (pL i m H₀ G H ow) 0 true C p fs:=by obtain⟨dx,vs,h1,h2,h3,h4,h5,h6,h7,h8⟩:=h;exact⟨dx,vs,h1,h2,h3,h4,λ_=>⟨rfl,rfl⟩,sf h6 h1 h3 λz=>(h5 z).1,sf h7 h2 h4 λz=>(h5 z).2,h8.cut⟩
def DcoAt.cut(h:DcoAt K H₀ G H ow i m p fs):DcoAt K (λ_=>none) G H (pL i m H₀ G H ow) 0 true p fs:=
 let⟨o,xs,ks,ds,h1,h2,h3,h4,h5,h6,h7⟩:=h
 ⟨o,xs,ks,ds,h1,h2,λ_=>rfl,sf h4 h1 h2 h3,h5,h6,h7⟩
def ObjAt.cut(h:ObjAt K H₀ G H ow i m C p fs):ObjAt K (λ_=>none) G H (pL i m H₀ G H ow) 0 true C p fs:=h.imp (λz=>⟨z.1,z.2.cut⟩) λz=>⟨z.1,z.2.cut⟩
end
section
variable{K:PySem.W.Frag}{H₀ H₀':Hp}{ow2:mw}{p:Addr}
def FdAt.newtag(h:∀a t,ow a=some (0,t)->H₀ a=none->ow2 a=some (i,t))(z:∀a,H₀ a=none->H₀' a=none):∀{fd:Fd}{v:V},FdAt K H₀ G H ow 0 true k fd v->FdAt K H₀' G H ow2 i true k fd v
 |.val d,v,r=>r
 |.own ds,v,⟨l,ws,e,h1,h2,h3,h4,h5⟩=>⟨l,ws,e,h1,h2,λ_=>z l (h3 rfl),h4,h l _ h5 (h3 rfl)⟩
theorem FdsAt.newtag(h:∀a t,ow a=some (0,t)->H₀ a=none->ow2 a=some (i,t))(z:∀a,H₀ a=none->H₀' a=none):∀{fs:List (Nat×Fd)}{vs:List (Str×V)},FdsAt K H₀ G H ow 0 true fs vs->FdsAt K H₀' G H ow2 i true fs vs
 |_,_,.nil=>.nil
 |_,_,.cons k nk r t=>.cons k nk (FdAt.newtag h z r) (FdsAt.newtag h z t)
def InsAt.newtag{fs:List (Nat×Fd)}(h:∀a t,ow a=some (0,t)->H₀ a=none->ow2 a=some (i,t))(z:∀a,H₀ a=none->H₀' a=none)(o:InsAt K H₀ G H ow 0 true C p fs):InsAt K H₀' G H ow2 i true C p fs:=by obtain⟨dx,vs,h1,h2,h3,h4,h5,h6,h7,h8⟩:=o;exact⟨dx,vs,h1,h2,h3,h4,λ_=>⟨z p (h5 rfl).1,z dx (h5 rfl).2⟩,h p _ h6 (h5 rfl).1,h dx _ h7 (h5 rfl).2,h8.newtag h z⟩
def DcoAt.newtag{fs:List (Nat×Fd)}(h:∀a t,ow a=some (0,t)->H₀ a=none->ow2 a=some (i,t))(z:∀a,H₀ a=none->H₀' a=none)(o:DcoAt K H₀ G H ow 0 true p fs):DcoAt K H₀' G H ow2 i true p fs:=
 let⟨o,xs,ks,ds,h1,h2,h3,h4,h5,h6,h7⟩:=o
 ⟨o,xs,ks,ds,h1,h2,λ_=>z p (h3 rfl),h p 0 h4 (h3 rfl),h5,h6,h7⟩
def ObjAt.newtag{fs:List (Nat×Fd)}(h:∀a t,ow a=some (0,t)->H₀ a=none->ow2 a=some (i,t))(z:∀a,H₀ a=none->H₀' a=none)(o:ObjAt K H₀ G H ow 0 true C p fs):ObjAt K H₀' G H ow2 i true C p fs:=o.imp (λy=>⟨y.1,y.2.newtag h z⟩) λy=>⟨y.1,y.2.newtag h z⟩
end
def StR.meth{K:PySem.W.Frag}{H₀ G':Hp}{p:Addr}{fs:List (Nat×Fd)}{ow':mw}(s:StR K G₀ H₀ G H σ ρ)(e:ρ[i]?=some (some (.obj true C p fs)))(o1:∀(j:Nat) ds l,ρ[j]?=some (some (.own ds))->σ[j]?=some (some (.ref l))->ow l=some (j,0))(o2:∀(j:Nat) m C p fs,ρ[j]?=some (some (.obj m C p fs))->σ[j]?=some (some (.ref p))/\ObjAt K H₀ G H ow j m C p fs)(u:Up G (hid H (pL i true H₀ G H ow)) G' H')(ob:ObjAt K (hid H (pL i true H₀ G H ow)) G' H' ow' 0 true C p fs'):StR K G₀ H₀ G' H' σ (ρ.set i (some (.obj true C p fs'))):=by
 have hl:i<ρ.length:=(vc.mp e).1;have get:∀(j:Nat) x,(ρ.set i (some (.obj true C p fs')))[j]?=some (some x)->(j=i/\x=.obj true C p fs')\/(j≠i/\ρ[j]?=some (some x)):=λj x h=>by
  by_cases z:i=j;·subst z;rw[vE hl]at h;exact .inl ⟨rfl,by injection (wq h)with q;exact q.symm⟩
  ·rw[uA z]at h;exact .inr ⟨λq=>z q.symm,h⟩
 have keep:∀a o,H a=some o->pL i true H₀ G H ow a=none->H' a=some o:=λa o q n=>u.hh a o (by rw[kO n];exact q);have out0:∀a,H₀ a≠none->pL i true H₀ G H ow a=none:=λa q=>by
  cases z:pL i true H₀ G H ow a with
  |none=>rfl
  |some t=>exact absurd ((ph z).2.2.2 rfl) q
 have outT:∀a j t,j≠i->ow a=some (j,t)->pL i true H₀ G H ow a=none:=λa j t nj q=>by
  cases z:pL i true H₀ G H ow a with
  |none=>rfl
  |some t'=>have:=(ph z).1;rw[q]at this;cases this;exact absurd rfl nj
 have gn:∀a o,H a=some o->G a=none->pL i true H₀ G H ow a=none->G' a=none:=λa o q g n=>by
  cases z:G' a with
  |none=>rfl
  |some o'=>
   rcases u.fr a o' z with z|z;·rw[g]at z;cases z
   ·rw[kO n,q]at z;cases z
 have up:Up G₀ H₀ G' H':=by
  refine⟨u.sub,s.up.gg.trans u.gg,λa o q=>keep a o (s.up.hh a o q) (out0 a (by rw[q];simp)),λa o q=>?_⟩;rcases u.fr a o q with z|z;·exact s.up.fr a o z
  ·by_cases n:pL i true H₀ G H ow a=none;·rw[kO n]at z;exact .inr (s.up.hh.free z)
   ·cases y:pL i true H₀ G H ow a with
    |none=>exact absurd y n
    |some t=>exact .inr ((ph y).2.2.2 rfl)
 have ob':ObSt K H₀ G' H' σ (ρ.set i (some (.obj true C p fs'))):=by
  refine⟨λa=>open Classical in if hid H (pL i true H₀ G H ow) a=none then wX 0 i ow' a else ow a,λj ds l h1 h2=>?_,λj m' C' p' fs'' h1=>?_⟩
  ·rcases get j _ h1 with⟨_,z⟩|⟨nj,f1⟩;·cases z
   ·have ol:=o1 j ds l f1 h2;obtain⟨l2,vs,q1,q2,_⟩:=s.own j ds f1;rw[h2]at q1;cases q1;have n:=outT l j 0 nj ol;refine(if_neg ?_).trans ol;rw[kO n,q2];simp
  ·rcases get j _ h1 with⟨rfl,z⟩|⟨nj,f1⟩
   ·cases z;refine⟨(o2 j true C p fs e).1,?_⟩;refine ob.newtag (λa t q n=>(if_pos n).trans (qX q)) λa n=>?_;by_cases y:pL j true H₀ G H ow a=none;·rw[kO y]at n;exact s.up.hh.free n
    ·cases y':pL j true H₀ G H ow a with
     |none=>exact absurd y' y
     |some t=>exact(ph y').2.2.2 rfl
   ·refine⟨(o2 j m' C' p' fs'' f1).1,(o2 j m' C' p' fs'' f1).2.keep ⟨λa t o q1 q=>keep a o q (outT a j t nj q1),u.gg,λa t o q1 q n=>gn a o q n (outT a j t nj q1),λa t o q1 q=>?_,λa o _ _ n=>n⟩⟩;refine(if_neg ?_).trans q1;rw[kO (outT a j t nj q1),q];simp
 refine⟨⟨u.sub,by simp[s.e.len],λj d h=>?_,ob'.rd⟩,s.sub0,up,λj ds h=>?_,λj k ds es l q1 q2 q3 q4=>?_,ob'⟩
 ·rcases get j _ h with⟨_,z⟩|⟨_,f1⟩;·cases z
  ·obtain⟨v,p1,p2⟩:=s.e.val j d f1;exact⟨v,p1,p2.mono u.gg⟩
 ·rcases get j _ h with⟨_,z⟩|⟨nj,f1⟩;·cases z
  ·obtain⟨l,vs,p1,p2,p3,p4,p5⟩:=s.own j ds f1;have n:=outT l j 0 nj (o1 j ds l f1 p1);exact⟨l,vs,p1,keep l _ p2 n,gn l _ p2 p3 n,p4,p5.mono u.gg⟩
 ·rcases get j _ q1 with⟨_,z⟩|⟨nj,f1⟩;·cases z
  ·rcases get k _ q2 with⟨_,z⟩|⟨nk,f2⟩;·cases z
   ·exact s.inj j k ds es l f1 f2 q3 q4
end L2
variable{I_offer_with_order:L2.MF}
namespace L2
open PySem PySem.Spec PyProof.Rows
noncomputable def vj(k:Nat)(fd:Fd):List (Nat×Fd)->List (Nat×Fd)
 | []=>[(k,fd)]
 | (j,x)::r=>if j=k then (j,fd)::r else (j,x)::vj k fd r
def StR.objTo{K:PySem.W.Frag}{H₀:Hp}{p:Addr}{fs:List (Nat×Fd)}{ow2:mw}(s:StR K G₀ H₀ G H σ ρ)(e:ρ[i]?=some (some (.obj true C p fs)))(o1:∀(j:Nat) ds l,ρ[j]?=some (some (.own ds))->σ[j]?=some (some (.ref l))->ow l=some (j,0))(o2:∀(j:Nat) m C p fs,ρ[j]?=some (some (.obj m C p fs))->σ[j]?=some (some (.ref p))/\ObjAt K H₀ G H ow j m C p fs)(hh:∀a o,H a=some o->(∀t,ow a≠some (i,t))->H' a=some o)(h0:Same H₀ H')(sub:Same G H')(oo:∀a j t o,j≠i->ow a=some (j,t)->H a=some o->ow2 a=some (j,t))(ob:ObjAt K H₀ G H' ow2 i true C p fs'):StR K G₀ H₀ G H' σ (ρ.set i (some (.obj true C p fs'))):=by
 have hl:=(vc.mp e).1;have get:∀(j:Nat) x,(ρ.set i (some (.obj true C p fs')))[j]?=some (some x)->(j=i/\x=.obj true C p fs')\/(j≠i/\ρ[j]?=some (some x)):=λj x h=>by
  by_cases z:i=j;·subst z;rw[vE hl]at h;exact .inl ⟨rfl,by injection (wq h)with q;exact q.symm⟩
  ·rw[uA z]at h;exact .inr ⟨λq=>z q.symm,h⟩
 have ob':ObSt K H₀ G H' σ (ρ.set i (some (.obj true C p fs'))):=by
  refine⟨ow2,λj ds l h1 h2=>?_,λj m' C' p' fs'' h1=>?_⟩
  ·rcases get j _ h1 with⟨_,z⟩|⟨nj,f1⟩;·cases z
   ·obtain⟨l2,vs,q1,q2,_⟩:=s.own j ds f1;rw[h2]at q1;cases q1;exact oo l j 0 _ nj (o1 j ds l f1 h2) q2
  ·rcases get j _ h1 with⟨rfl,z⟩|⟨nj,f1⟩;·cases z;exact⟨(o2 j true C p fs e).1,ob⟩
   ·exact⟨(o2 j m' C' p' fs'' f1).1,(o2 j m' C' p' fs'' f1).2.keep ⟨λa t o q1 q=>hh a o q (λt' z=>by rw[q1]at z;cases z;exact nj rfl),.refl _,λa t o _ _ n=>n,λa t o q1 q=>oo a j t o nj q1 q,λa o _ _ n=>n⟩⟩
 refine⟨⟨sub,by simp[s.e.len],λj d h=>?_,ob'.rd⟩,s.sub0,⟨sub,s.up.gg,h0,s.up.fr⟩,λj ds h=>?_,λj k ds es l q1 q2 q3 q4=>?_,ob'⟩
 ·rcases get j _ h with⟨_,z⟩|⟨_,f1⟩;·cases z
  ·exact s.e.val j d f1
 ·rcases get j _ h with⟨_,z⟩|⟨nj,f1⟩;·cases z
  ·obtain⟨l,vs,p1,p2,p3,p4,p5⟩:=s.own j ds f1;exact⟨l,vs,p1,hh l _ p2 (λt z=>by rw[o1 j ds l f1 p1]at z;cases z;exact nj rfl),p3,p4,p5⟩
 ·rcases get j _ q1 with⟨_,z⟩|⟨nj,f1⟩;·cases z
  ·rcases get k _ q2 with⟨_,z⟩|⟨nk,f2⟩;·cases z
   ·exact s.inj j k ds es l f1 f2 q3 q4
noncomputable def E6(C:Addr)(ρ:Ev)(i:Nat):R (List (Nat×Fd)):=match ρ[i]? with
 |some (some (.obj _ C' _ fs))=>if C'=C then .ok fs else .no
 |_=>.no
noncomputable def yE(C:Addr)(ρ:Ev)(i:Nat):R (Addr×List (Nat×Fd)):=match ρ[i]? with
 |some (some (.obj true C' p fs))=>if C'=C then .ok (p,fs)else .no
 |_=>.no
noncomputable def GE(fs:List (Nat×Fd))(k:Nat):R (List D):=match fs.lookup k with
 |some (.own ds)=>.ok ds
 |_=>.no
noncomputable def Kd(C:Addr)(i k:Nat)(gb:Ev->R D):Ev->R D:=λρ=>E6 C ρ i>>=λfs=>GE fs k>>=λds=>gb ρ>>=λd=>ofO (ixD (.lst false ds) d)
noncomputable def GH(C:Addr)(i k:Nat):Ev->R D:=λρ=>E6 C ρ i>>=λfs=>GE fs k>>=λds=>.ok (.int ds.length)
noncomputable def Nt(C:Addr)(i k:Nat)(ga:Ev->R D):Ev->O:=λρ=>(yE C ρ i).out ρ λo=>(GE o.2 k).out ρ λds=>(ga ρ).out ρ λd=>if ds.length<sizeLine then .nx (ρ.set i (some (.obj true C o.1 (vj k (.own (ds++[d])) o.2))))else .no
noncomputable def ME(C:Addr)(i k:Nat)(gl:Ev->R (List D)):Ev->O:=λρ=>(yE C ρ i).out ρ λo=>(gl ρ).out ρ λds=>if o.2.length<900 then .nx (ρ.set i (some (.obj true C o.1 (vj k (.own ds) o.2))))else .no
def NN(ga:Ev->R D):Ev->O:=λρ=>(ga ρ).out ρ λd=>.re d ρ
structure CF(K:PySem.W.Frag)(C:Addr)(ks:List Nat):Prop where
 cl:Cls K C
 ne:C≠DC
 na:∀k∈ks,k<fnames.length/\J5 K C (Jv k)
def HA{H₀:Hp}{D:Ends}{k:Addr×List (Nat×Fd)->O}(h:pT X G₀ H₀ D ((yE C ρ i).out ρ k)):∃p fs,ρ[i]?=some (some (.obj true C p fs))/\pT X G₀ H₀ D (k (p,fs)):=by
 unfold yE at h;split at h
 ·rename_i C' p fs e;by_cases z:C'=C;·subst z;rw[if_pos rfl]at h;exact⟨p,fs,e,h⟩
  ·rw[if_neg z]at h;exact h.elim
 ·exact h.elim
structure MCallee(P:Program)(w:World)(K:PySem.W.Frag)(mg:Str->Option Value)(base:Heap)(C:Addr)(mn:Str)(k n:Nat)(F:MF):Prop where
 ex:∃f fd ps,FnM P w K mg base k f fd ps C F/\Meth K C mn f/\Binds K fd ps []/\ps.length=n+1
section
variable{n:Nat}{p:Addr}{F:MF}{fs:List (Nat×Fd)}{Q:VK}
def DJ(M:FnM X.prog X.w X.K X.mg X.base k f fd ps C F)(hr:Room k X.A)(hb:Binds X.K fd ps [])(hl:ps.length=n+1)(I:Inv X pins σ H s)(r:Vals vs us)(rp:Reps X.K G vs ds)(hn:ds.length=n)(sub:Same G H)(og:∀a t,ow a=some t->G a=none)(ob:ObjAt X.K (λ_=>none) G H ow 0 true C p fs)(h:match F fs ds with
 |.ok d fs'=>∀v G' H' ow',Up G (hid H ow) G' H'->ObjAt X.K (hid H ow) G' H' ow' 0 true C p fs'->Rep X.K G' v d->Q v H'
 |.rd d=>∀v G' H',Up G H G' H'->Rep X.K G' v d->Q v H'
 |.ex C'=>Exx X σ G H C'
 |.no=>False):wpAny (model X.prog X.w) X.A (call (.ref f) (.ref p::us)) (EP X pins σ Q) X.xe s:=by
 have hvl:(V.ref p::vs).length=ps.length:=by rw[hl,vz,rp.length,hn]
 have hul:(Value.ref p::us++[]).length=ps.length:=by rw[t8,vz,<- r.length,<- vz];exact hvl
 have hbb:=hb s (.ref p::us) I.kIn hul;rw[t8]at hbb;refine b9 (d8 (M.run X.A X.stack s H ⟨.ref p::us,[]⟩ (.ref p::us) (.ref p::vs) Q (λc _ H'=>∃C G',c=.ref C/\Up G H G' H'/\Exx X σ G H C) hr I.env0 hbb (.cons rfl r) ⟨hvl,G,p,vs,ds,fs,ow,rfl,rp,sub,og,ob,?_⟩) λr' s' hq=>?_)
 ·cases q:F fs ds with
  |ok d fs'=>rw[q]at h;exact h
  |rd d=>rw[q]at h;exact h
  |ex C'=>rw[q]at h;exact λG' H' u=>⟨C',G',rfl,u,h⟩
  |no=>rw[q]at h;exact h.elim
 ·cases r' with
  |error e'=>obtain⟨a,C,H',rfl,fl,C',G',ec,u,q⟩:=hq;cases ec;exact q _ _ ⟨G,H,.refl sub,pins,s,a,rfl,I,.inr (.inl ⟨G',H',fl,u⟩)⟩
  |ok fl=>
   cases fl with
   |ret u=>exact I.after hq
   |_=>exact False.elim hq
end
def RM.read:RM->R D
 |.rd d=>.ok d
 |.ex C=>.ex C
 |_=>.no
noncomputable def Lq(C:Addr)(i n:Nat)(F:MF)(gl:Ev->R (List D)):Ev->R D:=λρ=>E6 C ρ i>>=λfs=>gl ρ>>=λds=>if ds.length=n then (F fs ds).read else .no
noncomputable def Gf(C:Addr)(i:Nat)(F:MF):Ev->R D:=λρ=>E6 C ρ i>>=λfs=>(F fs []).read
noncomputable def RM.out(r:RM)(C p:Addr)(i:Nat)(ρ:Ev):O:=match r with
 |.ok _ fs'=>.nx (ρ.set i (some (.obj true C p fs')))
 |.rd _=>.nx ρ
 |.ex E=>.ex E ρ
 |.no=>.no
noncomputable def N7(C:Addr)(i n:Nat)(F:MF)(gl:Ev->R (List D)):Ev->O:=λρ=>(yE C ρ i).out ρ λo=>(gl ρ).out ρ λds=>if ds.length=n then (F o.2 ds).out C o.1 i ρ else .no
noncomputable def Jq(C:Addr)(i:Nat)(F:MF):Ev->O:=λρ=>(yE C ρ i).out ρ λo=>(F o.2 []).out C o.1 i ρ
structure MkC(P:Program)(w:World)(K:PySem.W.Frag)(mg:Str->Option Value)(base:Heap)(C:Addr)(cn:Str)(k n:Nat)(F:MF):Prop where
 ex:∃f fd ps,FnM P w K mg base k f fd ps C F/\Mk K C f/\mg cn=some (.ref C)/\Binds K fd ps []/\ps.length=n+1
 ne:C≠DC
def StR.setObj{K:PySem.W.Frag}{H₀ G':Hp}{x:Addr}{fs:List (Nat×Fd)}{ow':mw}(s:StR K G₀ H₀ G H σ ρ)(u:Up G H G' H')(ob:ObjAt K H G' H' ow' 0 true C x fs)(i:Nat):StR K G₀ H₀ G' H' (σ.set i (some (.ref x))) (ρ.set i (some (.obj true C x fs))):=by
 have get:∀(j:Nat) y,(ρ.set i (some (.obj true C x fs)))[j]?=some (some y)->(j=i/\y=.obj true C x fs/\i<σ.length)\/(j≠i/\ρ[j]?=some (some y)/\(σ.set i (some (.ref x)))[j]?=σ[j]?):=λj y h=>by
  by_cases e:i=j
  ·subst e;have hl:i<ρ.length:=by have:=(vc.mp h).1;simpa using this
   rw[vE hl]at h;exact .inl ⟨rfl,by injection (wq h)with q;exact q.symm,by rw[s.e.len];exact hl⟩
  ·rw[uA e]at h;exact .inr ⟨λz=>e z.symm,h,uA e⟩
 have s1:=s.ups u;have ob':ObSt K H₀ G' H' (σ.set i (some (.ref x))) (ρ.set i (some (.obj true C x fs))):=by
  obtain⟨ow,o1,o2⟩:=s.ob;refine⟨λa=>open Classical in if H a=none then wX 0 i ow' a else ow a,λj ds l h1 h2=>?_,λj m' C' p' fs' h1=>?_⟩
  ·rcases get j _ h1 with⟨_,z,_⟩|⟨nj,f1,f2⟩;·cases z
   ·rw[f2]at h2;obtain⟨l2,vs,q1,q2,_⟩:=s.own j ds f1;rw[h2]at q1;cases q1;exact(if_neg (by rw[q2];simp)).trans (o1 j ds l f1 h2)
  ·rcases get j _ h1 with⟨rfl,z,hj⟩|⟨nj,f1,f2⟩;·cases z;exact⟨vE hj,ob.newtag (λa t q n=>(if_pos n).trans (qX q)) λa n=>s.up.hh.free n⟩
   ·rw[f2];have ku:ObKeep H₀ H₀ G H G' H' ow ow j:=.up u;exact⟨(o2 j m' C' p' fs' f1).1,(o2 j m' C' p' fs' f1).2.keep ⟨ku.hh,ku.gg,ku.gn,λa t o q1 q2=>(if_neg (by rw[q2];simp)).trans q1,ku.h0⟩⟩
 refine⟨⟨s1.e.sub,by simp[s1.e.len],λj d h=>?_,ob'.rd⟩,s1.sub0,s1.up,λj ds h=>?_,λj k ds es l q1 q2 q3 q4=>?_,ob'⟩
 ·rcases get j _ h with⟨_,z,_⟩|⟨_,f1,f2⟩;·cases z
  ·rw[f2];exact s1.e.val j d f1
 ·rcases get j _ h with⟨_,z,_⟩|⟨nj,f1,f2⟩;·cases z
  ·rw[f2];exact s1.own j ds f1
 ·rcases get j _ q1 with⟨_,z,_⟩|⟨nj,f1,f2⟩;·cases z
  ·rcases get k _ q2 with⟨_,z,_⟩|⟨nk,f3,f4⟩;·cases z
   ·exact s1.inj j k ds es l f1 f3 (f2▸q3) (f4▸q4)
noncomputable def Ip{α:Type}(X:Cx)(sts:List Stmt)(g:α->Ev->O):Prop:=∀G₀ H₀,PSs X sts (λD σ H=>∃G ρ,StR X.K G₀ H₀ G H σ ρ/\∀q,pT X G₀ H₀ D (g q ρ))
section
variable{eN:List Stmt}{g1:Ev->O}{gs:Ev->O}{α:Type}{g2:α->Ev->O}{e:Expr}{gl':Ev->R (List D)}{cn:Str}{n:Nat}{F:MF}
def HM(g:Ev->O):Unit->Ev->O:=λ_=>g
def Bx(h:mL X eN gs):Ip X eN (HM gs):=λG₀ H₀ pins s σ H D I ⟨G,ρ,sr,q⟩=>h G₀ H₀ pins s σ H D I ⟨G,ρ,sr,q ()⟩
end
def Fun.okA{w:World}{K:PySem.W.Frag}{mg:Str->Option Value}{base:Heap}{N:List Str}{α:Type}(F:Fun K x qual st f fd)(S:FnScope N ps (am st)){g:α->Ev->O}(hg:∀ds,ds.length=ps.length->gr ds=.no\/∀q,ar (g q (ao N.length ds))=gr ds)(hbody:∀(cdv:Value)(A:Around)(outer:List Env)(s:Shared)(H:Hp)(E:XK),Room k (A.deeper (envOfC qual (am st) s.heap.objs.size f cdv))->Ip (gJ (CXo P w) P w K mg base N qual (am st) f cdv A outer s H E) (db st) g):
  FnF P w K mg base (k+1) f fd ps gr:=by
 obtain⟨oc,od,kV,doc,pm,an,cdv,ct,osl,rfl,lk,hcd⟩:=F.ex;refine DV lk hcd S (λvs H Q E h=>h.1) λA outer s H vs Q E hr hsp=>?_;obtain⟨hl,G,ds,sub,r,h⟩:=hsp;refine⟨_,hbody cdv A outer s H E hr G H,G,ao N.length ds,yA sub r,λq0=>?_⟩;rcases hg ds (by rw[<- r.length];exact hl)with z|z;·rw[z]at h;exact h.elim
 ·rw[<- z q0]at h;cases q:g q0 (ao N.length ds)with
  |nx ρ=>rw[q]at h;exact λσ G' H' sr=>h .non G' H' sr.up .non
  |rt d=>rw[q]at h;exact λv G' H' u rv=>h v G' H' u rv
  |re d ρ=>rw[q]at h;exact λv σ G' H' sr rv=>h v G' H' sr.up rv
  |bk ρ=>rw[q]at h;exact h.elim
  |ct ρ=>rw[q]at h;exact h.elim
  |ex C ρ=>rw[q]at h;exact λe s' fl=>si fl h
  |no=>rw[q]at h;exact h.elim
noncomputable def ET(X:Cx)(G₀ H₀:Hp)(σ:St)(Q:VK)(o:O):Prop:=match o with
 |.re d ρ=>∀v G H,StR X.K G₀ H₀ G H σ ρ->Rep X.K G v d->Q v H
 |.ex C ρ=>∀e s',FlyS X G₀ H₀ ρ C e s'->X.xe e s'
 |_=>False
noncomputable def tX(X:Cx)(G₀ H₀:Hp)(g:Ev->O):TE:=λσ H Q=>∃G ρ,StR X.K G₀ H₀ G H σ ρ/\ET X G₀ H₀ σ Q (g ρ)
def PFX(X:Cx)(e:Expr)(g:Ev->O):Prop:=∀G₀ H₀,PE X e (tX X G₀ H₀ g)
noncomputable def O.thenX(o:O)(k:D->Ev->O):O:=match o with
 |.re d ρ=>k d ρ
 |.ex C ρ=>.ex C ρ
 |_=>.no
section
variable{e a b c:Expr}{eN:List Expr}{g g1 g2:Ev->O}{ga:Ev->R D}{gt:Ev->R Bool}{s1 s2:List Stmt}{h1 h2:Ev->O}
def Exx.fly{H₀:Hp}(sr:StR X.K G₀ H₀ G H σ ρ)(h:∀e s',FlyS X G₀ H₀ ρ C e s'->X.xe e s'):Exx X σ G H C:=λe s' ⟨G1,H1,u,f⟩=>h e s' (.of (sr.ups u) f)
def tX.read{α β:Type}{rep:Hp->β->α->Prop}{H₀:Hp}{m:Ev->R α}{Q:β->Hp->Prop}(sr:StR X.K G₀ H₀ G H σ ρ)(hk:∀a,m ρ=.ok a->∀v G1 H1,Up G H G1 H1->StR X.K G₀ H₀ G1 H1 σ ρ->rep G1 v a->Q v H1)(he:∀C,m ρ=.ex C->∀e s',FlyS X G₀ H₀ ρ C e s'->X.xe e s')(hn:m ρ≠.no):tG X rep m σ H Q:=by
 refine⟨G,ρ,sr.e,?_⟩;cases q:m ρ with
 |ok a=>exact λv G' H' u r=>hk a q v G' H' u (sr.ups u) r
 |ex C=>exact Exx.fly sr (he C q)
 |no=>exact absurd q hn
end
noncomputable def LV(C:Addr)(ρ:Ev)(i:Nat):R (Bool×Addr×List (Nat×Fd)):=match ρ[i]? with
 |some (some (.obj m C' p fs))=>if C'=C then .ok (m,p,fs)else .no
 |_=>.no
noncomputable def RM.outX(r:RM)(m:Bool)(C p:Addr)(i:Nat)(ρ:Ev):O:=match r with
 |.ok d fs'=>if m=true then .re d (ρ.set i (some (.obj true C p fs')))else .no
 |.rd d=>.re d ρ
 |.ex E=>.ex E ρ
 |.no=>.no
noncomputable def kS(C:Addr)(i n:Nat)(F:MF)(gl:Ev->R (List D)):Ev->O:=λρ=>(LV C ρ i).out ρ λo=>(gl ρ).out ρ λds=>if ds.length=n then (F o.2.2 ds).outX o.1 C o.2.1 i ρ else .no
def HJ{H₀:Hp}{Q:VK}{k:Bool×Addr×List (Nat×Fd)->O}(h:ET X G₀ H₀ σ Q ((LV C ρ i).out ρ k)):∃m p fs,ρ[i]?=some (some (.obj m C p fs))/\ET X G₀ H₀ σ Q (k (m,p,fs)):=by
 unfold LV at h;split at h
 ·rename_i m C' p fs e;by_cases z:C'=C;·subst z;rw[if_pos rfl]at h;exact⟨m,p,fs,e,h⟩
  ·rw[if_neg z]at h;exact h.elim
 ·exact h.elim
section
variable{e:Expr}{mn:Str}{n:Nat}{F:MF}{p1 ap ep:Pos}
def Kf{H₀:Hp}{Q:VK}{Q':List V->Hp->Prop}{r:List D->O}(sr:StR X.K G₀ H₀ G H σ ρ)(h:ET X G₀ H₀ σ Q ((gl ρ).out ρ λds=>if ds.length=n then r ds else .no))(hk:∀vs G1 H1 ds,StR X.K G₀ H₀ G1 H1 σ ρ->Reps X.K G1 vs ds->ds.length=n->ET X G₀ H₀ σ Q (r ds)->Q' vs H1):tAF X gl σ H Q':=by
 refine tX.read sr (λds e vs G1 H1 u s1 rr=>?_) (λC e=>?_) λe=>?_
 ·rw[e]at h;have h:ET X G₀ H₀ σ Q (if ds.length=n then r ds else .no):=h;by_cases hz:ds.length=n;·rw[if_pos hz]at h;exact hk vs G1 H1 ds s1 rr hz h
  ·rw[if_neg hz]at h;exact h.elim
 ·rw[e]at h;exact h
 ·rw[e]at h;exact h
def za{H₀:Hp}{p:Addr}{fs:List (Nat×Fd)}{Q:VK}{mm:Bool}(M:FnM X.prog X.w X.K X.mg X.base k f fd ps C F)(hr:Room k X.A)(hb:Binds X.K fd ps [])(hl:ps.length=n+1)(I:Inv X pins σ H s)(r:Vals vs us)(rp:Reps X.K G vs ds)(hz:ds.length=n)(sr:StR X.K G₀ H₀ G H σ ρ)(e1:ρ[i]?=some (some (.obj mm C p fs)))(h:ET X G₀ H₀ σ Q ((F fs ds).outX mm C p i ρ)):wpAny (model X.prog X.w) X.A (call (.ref f) (.ref p::us)) (EP X pins σ Q) X.xe s:=by
 obtain⟨ow1,o1,o2⟩:=sr.ob;obtain⟨_,ob1⟩:=o2 i mm C p fs e1;refine DJ M hr hb hl I r rp hz sr.e.sub (λa t q=>(ph q).2.2.1) ob1.cut ?_;cases q:F fs ds with
 |ok d fs'=>
  rw[q]at h;cases mm with
  |false=>exact h.elim
  |true=>exact λv G' H' ow' u ob rv=>h v G' H' (sr.meth e1 o1 o2 u ob) rv
 |rd d=>rw[q]at h;exact λv G' H' u rv=>h v G' H' (sr.ups u) rv
 |ex C'=>rw[q]at h;exact Exx.fly sr h
 |no=>rw[q]at h;exact h.elim
end
structure CalleeM(P:Program)(w:World)(K:PySem.W.Frag)(mg:Str->Option Value)(base:Heap)(C:Addr)(x:Str)(k n:Nat)(F:MF):Prop where
 ex:∃f fd ps,FnM P w K mg base k f fd ps C F/\mg x=some (.ref f)/\PySem.W.keepIn K (.ref f)=true/\Binds K fd ps []/\ps.length=n+1
def CalleeM.mono{w:World}{K:PySem.W.Frag}{mg:Str->Option Value}{base:Heap}{n:Nat}{F:MF}(c:CalleeM P w K mg base C x k n F)(k':Nat)(h:k<=k':=by decide):CalleeM P w K mg base C x k' n F:=by obtain⟨f,fd,ps,M,hm,hk,hb,e⟩:=c.ex;exact⟨f,fd,ps,{ M with run:=λA outer s H args us vs Q E hr=>M.run A outer s H args us vs Q E (hr.mono h) },hm,hk,hb,e⟩
section
variable{n:Nat}{F:MF}{p1:Pos}
def qD(i:Nat)(c:CalleeM X.prog X.w X.K X.mg X.base C x k n F)(hr:Room k X.A)(ha:PFA X es gl)(hi:X.N[i]?=some y:=by rfl)(hv:Vis X.env.scope y:=by first|exact Or.inl rfl|exact Or.inr (Or.inl rfl)|exact Or.inr (Or.inr rfl))(hd:(y==("__debug__":Str))=false:=by decide)(hcd:(y==("__classdict__":Str))=false:=by decide)(hg:Gl X x:=by rfl)(hdb:(x==("__debug__":Str))=false:=by decide)(hst:starEach (.Name y py::es) X.env=(false,eval (.Name y py) X.env)::starEach es X.env:=by rfl)(hpl:(backTo pos (starEach es X.env)).any (·.1)=false:=by rfl):
  PFX X (.Call (.Name x p1) (.Name y py::es) [] pos) (kS C i n F gl):=λG₀ H₀ pins s σ H Q I h=>by
 obtain⟨f,fd,ps,M,hm,hk,hb,hl⟩:=c.ex;obtain⟨G,ρ,sr,h⟩:=h;obtain⟨mm,p,fs,e1,h⟩:=HJ h;obtain⟨h1,_⟩:=sr.e.obs i mm C p fs e1;have v:PE X (.Name y py) (L5 i):=jm hi hv hd hcd;refine iO (oJ I hg hm ?_ hdb);have t:Ej (L5 i) (tAF X gl) σ H (λvs H1=>∃ws G1 ds,vs=.ref p::ws/\StR X.K G₀ H₀ G1 H1 σ ρ/\Reps X.K G1 ws ds/\ds.length=n/\ET X G₀ H₀ σ Q ((F fs ds).outX mm C p i ρ)):=
  ⟨_,h1,Kf sr h λvs G1 H1 ds s1 r hz h=>⟨vs,G1,ds,rfl,s1,r,hz,h⟩⟩
 refine PySem.W.callWith_K I.ok.mod.kin hk (thn (eW v ha hst pos pins s σ H _ I t) λus s2 q=>⟨?_,?_⟩) hst hpl;·obtain⟨vs,H1,I1,r,_⟩:=q;exact I1.kIn
 obtain⟨vs,H1,I1,r,ws,G1,ds,rfl,s2,rp,hz,h2⟩:=q;cases r with
 |cons ru r=>obtain rfl:=ru;exact za M hr hb hl I1 r rp hz s2 e1 h2
end
noncomputable def K9(P:Program)(w:World)(K:PySem.W.Frag)(mg:Str->Option Value)(base:Heap)(k:Nat)(s1:Shared)(G1 H1:Hp)(f:Addr)(Q:VK):Prop:=
 ∀(Y:Cx)(pins:List (Addr×Obj))(σY:St)(G2 H2:Hp)(s2:Shared)(fs:List Addr),Y.prog=P->Y.w=w->Y.K=K->Y.mg=mg->Y.base=base->Inv Y pins σY H2 s2->Room k Y.A->Un fs [] H1 H2 s1.heap s2.heap->Up G1 H1 G2 H2->
  (∃o fd,s2.heap.get? f=some o/\o.data=.func fd)/\wpAny (model Y.prog Y.w) Y.A (call (.ref f) []) (EP Y pins σY Q) Y.xe s2
structure ToldOk(P:Program)(w:World)(K:PySem.W.Frag)(mg:Str->Option Value)(base:Heap)(x:Str)(k j:Nat):Prop where
 ex:∃ft,mg x=some (.ref ft)/\PySem.W.keepIn K (.ref ft)=true/\∀(A:Around)(outer:List Env)(s1:Shared)(G1 H1:Hp)(f:Addr)(Q:VK)(E:XK),Room k A->Env0 P w K mg base A outer s1 H1->Same G1 H1->K9 P w K mg base j s1 G1 H1 f Q->
  codeAny (model P w) A (.call (.ref ft) ⟨[.ref f],[]⟩) (CR (CXo P w) outer P w H1 s1 Q E) s1
def gz(g:Ev->O):Ev->O:=λρ=>(g ρ).thenX λ_ ρ'=>.nx ρ'
def qC{e:Expr}{g:Ev->O}(h:PFX X e g)(hs:swapsWith e none pos.line X.env=pure false:=by rfl):PSF X (.Expr e pos) (gz g):=λG₀ H₀ pins s σ H D I ⟨G,ρ,sr,q⟩=>by
 refine nM (h G₀ H₀) hs pins s σ H D I ⟨G,ρ,sr,?_⟩;unfold gz at q;cases e:g ρ with
 |re d ρ'=>rw[e]at q;exact λv G' H' s' r=>q σ G' H' s'
 |ex C ρ'=>rw[e]at q;exact q
 |_=>rw[e]at q;exact q.elim
end L2
namespace L2
open PySem PySem.Spec PyProof.Rows
open PySem.AutoSeq1 (wpAny_loadPart')
open PySem.MeetsSeq PySem.MeetsSeq2 PySem.MeetsSeq3
inductive NumPairs:List (Value×Value)->List Int->List Int->Prop
 |nil:NumPairs [] [] []
 |cons {zs:List (Value×Value)} {xs ys:List Int} (i:Int) (t:Addr) (j:Int) (u:Addr) (r:NumPairs zs xs ys):NumPairs ((.int i t,.int j u)::zs) (i::xs) (j::ys)
end L2
namespace L2
open PySem PySem.Spec PyProof.Rows
section
variable{elt:Expr}{ifs:List Expr}{px:Pos}{gt:Ev->R Bool}
structure CompOkC(X:Cx)(scope:Scope)(x:Str):Prop where
 kind:scope.kind=.function
 names:∀y∈scope.names,y.2=.local->scope.names.lookup y.1=some .local
 nofree:∀y∈scope.names,y.2≠.free
 cells:∀L,cellsFrom L scope.names []=[(x,L)]
 lk:scope.names.lookup x=some .cell
 only:∀y,scope.names.lookup y=some .cell->y=x
end
abbrev TF:=List (Nat×Fd)->Option (List (Nat×Fd))
noncomputable def spT(K:PySem.W.Frag)(C:Addr)(F:TF):Sp:=λvs H Q E=>∃G p fs ow,vs=[.ref p]/\Same G H/\(∀a t,ow a=some t->G a=none)/\ObjAt K (λ_=>none) G H ow 0 true C p fs/\
 ∃fs',F fs=some fs'/\∀x G' H' ow',Up G H G' H'->ObjAt K H G' H' ow' 0 true C x fs'->Q (.ref x) H'
noncomputable abbrev FnT(P:Program)(w:World)(K:PySem.W.Frag)(mg:Str->Option Value)(base:Heap)(k:Nat)(f:Addr)(fd:FuncData)(ps:List Str)(C:Addr)(F:TF):Prop:=FnOk P w K mg base (CXo P w) k f fd ps (λvs H Q E=>vs.length=ps.length/\spT K C F vs H Q E)
structure TCallee(P:Program)(w:World)(K:PySem.W.Frag)(mg:Str->Option Value)(base:Heap)(C:Addr)(mn:Str)(k:Nat)(F:TF):Prop where
 ex:∃f fd ps,FnT P w K mg base k f fd ps C F/\Meth K C mn f/\Binds K fd ps []/\ps.length=1
def vk:D->Option Nat
 |.tup [.bl a,.bl b]=>some (code a b)
 |_=>none
noncomputable def fvs:List (Nat×Fd)->Option (List (Nat×D))
 | []=>some []
 | (k,.val d)::r=>(fvs r).map ((k,d)::·)
 | (_,.own _)::_=>none
noncomputable def vf(ρ:Ev)(i:Nat):R (List (Nat×D)):=match ρ[i]? with
 |some (some (.val (.dct ks ds)))=>.ok (ks.zip ds)
 |some (some (.obj _ C _ fs))=>if C=DC then ofO (fvs fs)else .no
 |_=>.no
def Ax(e:vf ρ i=.ex C):False:=by
 unfold vf at e;split at e;·cases e
 ·split at e;·revert e;unfold ofO;split <;> exact λz=>nomatch z
  ·cases e
 ·cases e
theorem vY:∀(ks:List Nat)(ds:List D),fvs (ks.zip (ds.map Fd.val))=some (ks.zip ds)
 | [],_=>rfl
 |_::_,[]=>rfl
 |k::ks,d::ds=>by simp only[xk,jP,fvs,vY ks ds,tU]
def xI:∀a b c d:Bool,code a b=code c d->a=c/\b=d:=by decide
section
variable{K:PySem.W.Frag}
theorem KeysAt.inH(s:Same G H):∀{xs:DX}{ks:List Nat},KeysAt K G xs ks->jx K H xs
 |_,_,.nil,x,hx=>nomatch hx
 |_,_,.cons h t,x,hx=>by
  rcases zL.1 hx with rfl|hx;·exact h.mono s
  ·exact KeysAt.inH s t x hx
theorem KeysAt.twos:∀{xs:DX}{ks:List Nat},KeysAt K G xs ks->M9 xs
 |_,_,.nil,x,hx=>nomatch hx
 |_,_,.cons h t,x,hx=>by
  rcases zL.1 hx with rfl|hx;·exact⟨_,_,rfl⟩
  ·exact KeysAt.twos t x hx
def KeysAt.length:∀{xs:DX}{ks:List Nat},KeysAt K G xs ks->xs.length=ks.length
 |_,_,.nil=>rfl
 |_,_,.cons _ t=>by simp[t.length]
def KeysAt.look{a:Bool}:∀{xs:DX}{ks:List Nat}{ds:List D},KeysAt K G xs ks->Reps K G (xs.map (·.2.2)) ds->
  ((ks.zip ds).lookup (code a b)=none/\pM xs [a,b]=none)\/∃d v,(ks.zip ds).lookup (code a b)=some d/\pM xs [a,b]=some v/\Rep K G v d
 |_,_,_,.nil,.nil=>.inl ⟨rfl,rfl⟩
 |_,_,_,.cons (a:=c) (b:=e) h t,.cons r q=>by
  by_cases z:[c,e]=[a,b]
  ·cases z;exact .inr ⟨_,_,by simp[vy],by simp[pM,ZH],r⟩
  ·have z':(code a b==code c e)=false:=r6.2 λy=>z (by obtain⟨rfl,rfl⟩:=xI _ _ _ _ y;rfl);rcases t.look q with⟨e1,e2⟩|⟨d,v,e1,e2,e3⟩;·exact .inl ⟨by simp only[jP,vy,z'];exact e1,by unfold pM at e2⊢;simp only[List.find?_cons,z,decide_false];exact e2⟩
   ·exact .inr ⟨d,v,by simp only[jP,vy,z'];exact e1,by unfold pM at e2⊢;simp only[List.find?_cons,z,decide_false];exact e2,e3⟩
def mJ{n:Nat}(e:vk d=some n)(r:Rep K G v d):∃q a b,v=.ref q/\n=code a b/\SqT K G q [.bl a,.bl b]:=by
 unfold vk at e;split at e
 ·rename_i a b;cases e;obtain⟨q,vs,rfl,hq,rs⟩:=r.tup_inv;cases rs with
  |cons r1 t=>
   cases t with
   |cons r2 t=>cases t;obtain rfl:=r1.bl_inv;obtain rfl:=r2.bl_inv;exact⟨q,a,b,rfl,rfl,hq⟩
 ·cases e
def StE.dct{σ:St}{ρ:Ev}{i:Nat}{kv:List (Nat×D)}(st:StE K G H σ ρ)(e:vf ρ i=.ok kv):
  ∃a o xs ks ds,σ[i]?=some (some (.ref a))/\H a=some (DctO a o xs)/\KeysAt K G xs ks/\Reps K G (xs.map (·.2.2)) ds/\kv=ks.zip ds:=by
 unfold vf at e;split at e
 ·rename_i ks ds q;cases e;obtain⟨v,h1,r⟩:=st.val i _ q;cases r with
  |dct h k r=>exact⟨_,_,_,ks,ds,h1,st.sub _ _ h,k,r,rfl⟩
 ·rename_i m C p fs q;split at e;·rename_i z;obtain⟨h1,ow,ob⟩:=st.obs i m C p fs q;rw[z]at ob;obtain⟨o,xs,ks,ds,g1,g2,g3,g4,g5,g6,g7⟩:=ob.dco;rw[g7,vY]at e;cases e;exact⟨p,o,xs,ks,ds,h1,g1,g5,g6,rfl⟩
  ·cases e
 ·cases e
end
section
variable{e:Expr}{ga:Ev->R D}
noncomputable def On(K:PySem.W.Frag)(neg:Bool):R2:=λx y H Q=>∃q k a o xs,x=.ref q/\y=.ref a/\H a=some (DctO a o xs)/\jx K H xs/\SqT K H q (k.map V.bl)/\Q (.bl (if neg then !(pM xs k).isSome else (pM xs k).isSome)) H
def Ku(hu:X.A.units+64<cLine):OpR X (compareOp .In) (On X.K false):=by intro pins s σ H x y v u Q I rx ry ⟨q,k,a,o,xs,ex,ey,h1,h2,h3,h4⟩;subst ex ey;cases rx;cases ry;exact Lg (by omega) I h1 h2 h3 λs' I'=>⟨.bl _,H,I',rfl,h4⟩
def Ic(hu:X.A.units+64<cLine):OpR X (compareOp .NotIn) (On X.K true):=by intro pins s σ H x y v u Q I rx ry ⟨q,k,a,o,xs,ex,ey,h1,h2,h3,h4⟩;subst ex ey;cases rx;cases ry;exact A1 (by omega) I h1 h2 h3 λs' I'=>⟨.bl _,H,I',rfl,h4⟩
noncomputable def sR(neg:Bool)(i:Nat)(ge:Ev->R D):Ev->R Bool:=λρ=>ge ρ>>=λd=>ofO (vk d)>>=λn=>vf ρ i>>=λkv=>.ok (if neg then !(kv.lookup n).isSome else (kv.lookup n).isSome)
def yn{Q:Bool->Hp->Prop}(h:tTF X (sR neg i ge) σ H Q):HZ (tOp (On X.K neg) (tF X ge) (L5 i)) σ H Q:=by
 obtain⟨G,ρ,st,h⟩:=h;refine tG.intro st h λd v G1 H1 u1 st1 r1 h1=>?_;obtain⟨n,e1,h1⟩:∃n,vk d=some n/\(vf ρ i>>=λkv=>R.ok (if neg then !(kv.lookup n).isSome else (kv.lookup n).isSome)).post (Fin G1 H1 (λ_ b c=>b=c) Q) (Exx X σ G1 H1):=by
  cases q:vk d with
  |none=>rw[q]at h1;exact h1.elim
  |some n=>rw[q]at h1;exact⟨n,rfl,h1⟩
 cases q0:vf ρ i with
 |ok kv=>
  rw[q0]at h1;obtain⟨q,a,b,rfl,rfl,hq⟩:=mJ e1 r1;obtain⟨c,o,xs,ks,ds,g1,g2,g3,g4,rfl⟩:=st1.dct q0;refine⟨.ref c,g1,q,[a,b],c,o,xs,rfl,rfl,g2,g3.inH st1.sub,hq.mono st1.sub,_,rfl,?_⟩;have e2:(pM xs [a,b]).isSome=((ks.zip ds).lookup (code a b)).isSome:=by rcases g3.look g4 with⟨y1,y2⟩|⟨d,v,y1,y2,_⟩ <;> rw[y1,y2] <;> rfl
  rw[e2];exact h1 _ G1 H1 (.refl st1.sub) rfl
 |ex C=>exact(Ax q0).elim
 |no=>rw[q0]at h1;exact h1.elim
def CN(i:Nat)(hu:X.A.units+64<cLine)(he:PF X e ge)(hi:X.N[i]?=some x:=by rfl)(hv:Vis X.env.scope x:=by first|exact Or.inl rfl|exact Or.inr (Or.inl rfl)|exact Or.inr (Or.inr rfl))(hd:(x==("__debug__":Str))=false:=by decide)(hcd:(x==("__classdict__":Str))=false:=by decide)(hm:behindInMarks .In (.Name x p)=false:=by rfl):PB X (.Compare e [.In] [.Name x p] pos) (sR false i ge):=λpins s σ H Q I h=>
 wY (Ku hu) he (jm hi hv hd hcd) hm pins s σ H Q I (yn h)
def La(i:Nat)(hu:X.A.units+64<cLine)(he:PF X e ge)(hi:X.N[i]?=some x:=by rfl)(hv:Vis X.env.scope x:=by first|exact Or.inl rfl|exact Or.inr (Or.inl rfl)|exact Or.inr (Or.inr rfl))(hd:(x==("__debug__":Str))=false:=by decide)(hcd:(x==("__classdict__":Str))=false:=by decide)(hm:behindInMarks .NotIn (.Name x p)=false:=by rfl):PB X (.Compare e [.NotIn] [.Name x p] pos) (sR true i ge):=λpins s σ H Q I h=>
 wY (Ic hu) he (jm hi hv hd hcd) hm pins s σ H Q I (yn h)
noncomputable def Mg(K:PySem.W.Frag):R2:=λx y H Q=>∃a o xs q k v,x=.ref a/\y=.ref q/\H a=some (DctO a o xs)/\jx K H xs/\SqT K H q (k.map V.bl)/\pM xs k=some v/\Q v H
def JU(hu:X.A.units+64<cLine):IxR X (Mg X.K):=by intro value slice pins s σ H x y v u Q I rx ry ⟨a,o,xs,q,k,w,ex,ey,h1,h2,h3,h4,h5⟩ hs;subst ex ey;cases rx;cases ry;obtain⟨g1,_,_,g2,_⟩:=nO I h1;exact tail_any ⟨o,g1,g2.1⟩ PySem.F.slot_dict_getitem.lookup (Hn (by omega) I h1 h2 h3 h4 λw' s' I' r=>⟨w,H,I',r,h5⟩) hs
noncomputable def ju(i:Nat)(ge:Ev->R D):Ev->R D:=λρ=>vf ρ i>>=λkv=>ge ρ>>=λd=>ofO ((vk d).bind λn=>kv.lookup n)
def tZ(i:Nat)(hu:X.A.units+64<cLine)(he:PF X e ge)(hi:X.N[i]?=some x:=by rfl)(hv:Vis X.env.scope x:=by first|exact Or.inl rfl|exact Or.inr (Or.inl rfl)|exact Or.inr (Or.inr rfl))(hd:(x==("__debug__":Str))=false:=by decide)(hcd:(x==("__classdict__":Str))=false:=by decide)(hs:wm e:=by intro _ _;rfl):PF X (.Subscript (.Name x p) e pos) (ju i ge):=λpins s σ H Q I h=>by
 refine JL (JU hu) (jm hi hv hd hcd) he hs pins s σ H Q I ?_;obtain⟨G,ρ,st,h⟩:=h;have h:(vf ρ i>>=λkv=>ge ρ>>=λd=>ofO ((vk d).bind λn=>kv.lookup n)).post (Fin G H (Rep X.K) Q) (Exx X σ G H):=h;cases q:vf ρ i with
 |ok kv=>
  rw[q]at h;obtain⟨c,o,xs,ks,ds,g1,g2,g3,g4,rfl⟩:=st.dct q;refine⟨.ref c,g1,tG.intro st h λd v G1 H1 u1 st1 r1 h1=>?_⟩;obtain⟨w,e2,h1⟩:=ofO.ok h1;cases e1:vk d with
  |none=>rw[e1]at e2;cases e2
  |some n=>
   rw[e1]at e2;have e2:(ks.zip ds).lookup n=some w:=e2;obtain⟨q,a,b,rfl,rfl,hq⟩:=mJ e1 r1;rcases g3.look g4 with⟨y1,_⟩|⟨d',v',y1,y2,y3⟩;·rw[y1]at e2;cases e2
   ·rw[y1]at e2;cases e2;exact⟨c,o,xs,q,[a,b],v',rfl,rfl,u1.hh _ _ g2,λz hz=>(g3.inH st.sub z hz).mono u1.hh,hq.mono st1.sub,y2,h1 v' G1 H1 (.refl st1.sub) (y3.mono u1.gg)⟩
 |ex C=>exact(Ax q).elim
 |no=>rw[q]at h;exact h.elim
end
section
variable{K:PySem.W.Frag}{a:Bool}
def KeysAt.same:∀{xs:DX}{ks:List Nat},KeysAt K G xs ks->[a,b]∉xs.map (·.1)->xs.map (λx=>if x.1=[a,b]then (x.1,x.2.1,v)else x)=xs
 |_,_,.nil,_=>rfl
 |_,_,.cons h t,n=>by rw[xk,zL,not_or]at n;rw[xk,if_neg (λz=>n.1 z.symm),t.same n.2]
theorem Bp{n:Nat}{fd:Fd}:∀{fs:List (Nat×Fd)},fs.lookup n=none->vj n fd fs=fs++[(n,fd)]
 | [],_=>rfl
 | (k,f)::fs,h=>by
  have ne:(n==k)=false:=by
   cases z:n==k with
   |false=>rfl
   |true=>simp only[vy,z]at h;cases h
  simp only[vy,ne]at h;unfold vj;rw[if_neg (λz=>by rw[z]at ne;simp at ne),Bp h];rfl
def KeysAt.snoc:∀{xs:DX}{ks:List Nat},KeysAt K G xs ks->SqT K G q [.bl a,.bl b]->KeysAt K G (xs++[([a,b],q,v)]) (ks++[code a b])
 |_,_,.nil,h=>.cons h .nil
 |_,_,.cons h t,z=>.cons h (t.snoc z)
theorem oQ{n:Nat}:∀{ks:List Nat}{ds:List D},(ks.zip ds).lookup n=none->(ks.zip (ds.map Fd.val)).lookup n=none
 | [],_,_=>rfl
 |_::_,[],_=>rfl
 |k::ks,d::ds,h=>by
  rw[jP,vy]at h;rw[xk,jP,vy];cases z:n==k with
  |true=>rw[z]at h;cases h
  |false=>rw[z]at h;exact oQ h
def KeysAt.over:∀{xs:DX}{ks:List Nat}{ds:List D},KeysAt K G xs ks->Reps K G (xs.map (·.2.2)) ds->(xs.map (·.1)).Nodup->(pM xs [a,b]).isSome=true->Rep K G v d->
  KeysAt K G (xs.map λx=>if x.1=[a,b]then (x.1,x.2.1,v)else x) ks/\∃ds',Reps K G ((xs.map λx=>if x.1=[a,b]then (x.1,x.2.1,v)else x).map (·.2.2)) ds'/\vj (code a b) (.val d) (ks.zip (ds.map Fd.val))=ks.zip (ds'.map Fd.val)
 |_,_,_,.nil,.nil,_,h,_=>by cases h
 |_,_,_,.cons (a:=c) (b:=e) (xs:=ys) h t,.cons (ds:=ds) r1 r2,n,hv,r=>by
  rw[xk,l8]at n;by_cases z:[c,e]=[a,b]
  ·cases z;rw[xk,if_pos rfl,t.same n.1];exact⟨.cons h t,d::ds,.cons r r2,by simp[vj]⟩
  ·have z':code c e≠code a b:=λy=>z (by obtain⟨rfl,rfl⟩:=xI _ _ _ _ y;rfl);have hv':(pM ys [a,b]).isSome=true:=by unfold pM at hv⊢;simpa only[List.find?_cons,z,decide_false]using hv
   obtain⟨k1,ds',k2,k3⟩:=t.over r2 n.2 hv' r;rw[xk,if_neg z];refine⟨.cons h k1,_::ds',.cons r1 k2,?_⟩;simp only[xk,jP,vj,if_neg z',k3]
def KeysAt.put{xs:DX}(k:KeysAt K G xs ks)(rs:Reps K G (xs.map (·.2.2)) ds)(n:(xs.map (·.1)).Nodup)(hq:SqT K G q [.bl a,.bl b])(r:Rep K G v d):
  ∃ks' ds',KeysAt K G (ED xs [a,b] q v) ks'/\Reps K G ((ED xs [a,b] q v).map (·.2.2)) ds'/\vj (code a b) (.val d) (ks.zip (ds.map Fd.val))=ks'.zip (ds'.map Fd.val):=by
 unfold ED;by_cases z:(pM xs [a,b]).isSome=true;·rw[if_pos z];obtain⟨k1,ds',k2,k3⟩:=k.over rs n z r;exact⟨ks,ds',k1,k2,k3⟩
 ·rw[if_neg z];refine⟨ks++[code a b],ds++[d],k.snoc hq,?_,?_⟩;·rw[vp];exact rs.append (.cons r .nil)
  ·rcases k.look rs with⟨y1,_⟩|⟨_,_,_,y2,_⟩
   ·have ln:ks.length=(ds.map Fd.val).length:=by rw[zy,<- rs.length,zy,k.length]
    rw[Bp (oQ y1),vp,List.zip_append ln];rfl
   ·rw[y2]at z;exact absurd rfl z
end
theorem DRel.keys:∀{xs:DX}{us:DU},DRel xs us->xs.map (·.1)=us.map (·.1)
 |_,_,.nil=>rfl
 |_,_,.cons h t=>by rw[xk,xk,h.1,DRel.keys t]
noncomputable def NB(K:PySem.W.Frag):LX:=λx y v H Q=>∃a o xs q k,x=.ref a/\y=.ref q/\H a=some (DctO a o xs)/\jx K H xs/\SqT K H q (k.map V.bl)/\xs.length<sizeLine/\((xs.map (·.1)).Nodup->∀o',Q (upd H a (DctO a o' (ED xs k q v))))
section
variable{e ix:Expr}{ga gk:Ev->R D}{tp:Pos}
def GK(hu:X.A.units+64<cLine):M4 X (NB X.K):=by intro pins s σ H o i v ov iv u Q I ro ri rv ⟨a,ob,xs,q,k,eo,ei,h1,h2,h3,h4,h5⟩;subst eo ei;cases ro;cases ri;obtain⟨_,_,_,_,us,r,_,_,_,_,n⟩:=nO I h1;rw[<- DRel.keys r]at n;exact Ga (by omega) I h1 h2 h3 h4 rv λo' s' I'=>⟨_,I',h5 n o'⟩
noncomputable def EI(i:Nat)(gk ga:Ev->R D):Ev->O:=λρ=>(yE DC ρ i).out ρ λo=>(jC (ga ρ)).out ρ λd=>(jC (gk ρ)).out ρ λk=>match vk k with
 |some n=>if o.2.length<900 then .nx (ρ.set i (some (.obj true DC o.1 (vj n (.val d) o.2))))else .no
 |none=>.no
def LL(i:Nat)(hu:X.A.units+64<cLine)(he:PF X e ga)(hk:PF X ix gk)(hi:X.N[i]?=some x:=by rfl)(hv:Vis X.env.scope x:=by first|exact Or.inl rfl|exact Or.inr (Or.inl rfl))(hd:(x==("__debug__":Str))=false:=by decide)(hcd:(x==("__classdict__":Str))=false:=by decide)(hs:swapsWithSole [.Subscript (.Name x p) ix tp] e pos.line X.env=pure false:=by rfl)(hw:swappedStores [.Subscript (.Name x p) ix tp] e X.env=pure none:=by rfl)(h1':(assignEach [.Subscript (.Name x p) ix tp] X.env).map (·.2)=[assign (.Subscript (.Name x p) ix tp) X.env]:=by rfl)(ha:∀v,assign (.Subscript (.Name x p) ix tp) X.env v=(do
 let ov <- holding [v] (eval (.Name x p) X.env);let iv <- holding [v,ov] (eval ix X.env)
 standAt tp
 holding [v,ov,iv] (setItem ov iv v)
 release [v,ov,iv] []):=by intro _;rfl):
  PSF X (.Assign [.Subscript (.Name x p) ix tp] e pos) (EI i gk ga):=λG₀ H₀ pins s σ H D I ⟨G,ρ,sr,h⟩=>by
 refine oy he (FM (jm hi hv hd hcd) hk (GK hu) ha) hs hw h1' pins s σ H D I ⟨G,ρ,sr.e,?_⟩;obtain⟨pp,fs,e1,h⟩:=HA h;obtain⟨hσ,_⟩:=sr.e.obs i true DC pp fs e1;cases q1:ga ρ with
 |ok d=>
  rw[q1]at h;intro v G1 H1 u1 r1;refine⟨.ref pp,hσ,G1,ρ,(sr.ups u1).e,?_⟩;cases q2:gk ρ with
  |ok k=>
   rw[q2]at h;intro kv G2 H2 u2 r2;have sr2:=(sr.ups u1).ups u2;obtain⟨ow,o1,o2⟩:=sr2.ob;obtain⟨ob,xs,ks,ds,g1,g2,g3,g4,g5,g6,g7⟩:=(o2 i true DC pp fs e1).2.dco;have h:pT X G₀ H₀ D (match vk k with
    |some n=>if fs.length<900 then .nx (ρ.set i (some (.obj true DC pp (vj n (.val d) fs))))else .no
    |none=>.no):=h;cases q3:vk k with
   |none=>rw[q3]at h;exact h.elim
   |some n=>
    rw[q3]at h;have h:pT X G₀ H₀ D (if fs.length<900 then .nx (ρ.set i (some (.obj true DC pp (vj n (.val d) fs))))else .no):=h;by_cases hz:fs.length<900
    ·rw[if_pos hz]at h;obtain⟨q,a,b,rfl,rfl,hq⟩:=mJ q3 r2;have xl:xs.length=fs.length:=by have l1:=g5.length;have l2:=g6.length;rw[zy]at l2;rw[g7,List.length_zip,zy];omega
     have lb:900<sizeLine:=by decide
     refine⟨pp,ob,xs,q,[a,b],rfl,rfl,g1,g5.inH sr2.e.sub,hq.mono sr2.e.sub,by omega,λnd o'=>h σ G2 _ ?_⟩;obtain⟨ks',ds',k1,k2,k3⟩:=g5.put g6 nd hq (r1.mono u2.gg);have np:∀c o,H₀ c=some o->c≠pp:=λc o z=>aF z (g3 rfl);refine sr2.objTo e1 o1 o2 (λc o z nt=>?_) (λc o z=>?_) (λc o z=>?_) (λ_ _ _ _ _ z _=>z) (.inr ⟨rfl,o',_,ks',ds',aY,g2,g3,g4,k1,k2,by rw[g7];exact k3⟩);·rw[aM (λy=>nt 0 (by rw[y];exact g4))];exact z
     ·rw[aM (np c o z)];exact sr2.up.hh c o z
     ·rw[aM (aF z g2)];exact sr2.e.sub c o z
    ·rw[if_neg hz]at h;exact h.elim
  |_=>rw[q2]at h;exact h.elim
 |_=>rw[q1]at h;exact h.elim
end
section
variable{eN:List Stmt}{α:Type}{g2:α->Ev->O}{e:Expr}{ga:Ev->R D}{pos':Pos}
def Aj{K:PySem.W.Frag}{p:Addr}{o:Obj}{xs:DX}(s:Same G H)(hp:H p=none)(k:KeysAt K G xs ks)(r:Reps K G (xs.map (·.2.2)) ds):
  Up G H G (upd H p (DctO p o xs))/\ObjAt K H G (upd H p (DctO p o xs)) (λa=>if a=p then some (0,0)else none) 0 true DC p (ks.zip (ds.map Fd.val)):=
 ⟨⟨λa u q=>by rw[aM (aF q (s.free hp))];exact s a u q,.refl _,.into hp,λ_ _ q=>.inl q⟩,.inr ⟨rfl,o,xs,ks,ds,aY,s.free hp,λ_=>hp,if_pos rfl,k,r,rfl⟩⟩
noncomputable def FJ(i:Nat)(g2:α->Ev->O):Addr×α->Ev->O:=λq ρ=>g2 q.2 (ρ.set i (some (.obj true DC q.1 [])))
def Hz(i:Nat)(hN:X.N.Nodup)(h2:Ip X eN g2)(hi:X.N[i]?=some y:=by rfl)(hx:Loc X.env.scope y:=by first|exact Or.inl rfl|exact Or.inr rfl)(hw:swappedStores [.Name y py] (.Dict [] [] pos) X.env=pure none:=by rfl)(hf:X.fn y=true\/X.env.scope.names.lookup y=some .local:=by first|exact .inl rfl|exact .inr rfl)(hs:swapsWithSole [.Name y py] (.Dict [] [] pos) pos'.line X.env=pure false:=by rfl):Ip X (.Assign [.Name y py] (.Dict [] [] pos) pos'::eN) (FJ i g2):=λG₀ H₀ pins s σ H D I ⟨G,ρ,sr,h⟩=>by
 refine sy (oy Gu (lU hN hi hx hf) hs hw rfl) (h2 G₀ H₀) pins s σ H D I λq o hq=>?_;obtain⟨u,ob⟩:=Aj sr.e.sub hq (.nil:KeysAt X.K G [] []) (.nil:Reps X.K G [] []);exact⟨G,_,sr.setObj u ob i,λq2=>h (q,q2)⟩
noncomputable def CA(i:Nat)(ga:Ev->R D)(g2:α->Ev->O):Addr×α->Ev->O:=λq ρ=>(jC (ga ρ)).out ρ λd=>match d with
 |.dct (k::ks) ds=>g2 q.2 (ρ.set i (some (.obj true DC q.1 ((k::ks).zip (ds.map Fd.val)))))
 |_=>.no
def Et[Inhabited α](i:Nat)(hN:X.N.Nodup)(hg:Gl X "dict")(hm:X.mg "dict"=none)(he:PF X e ga)(h2:Ip X eN g2)(hi:X.N[i]?=some y:=by rfl)(hx:Loc X.env.scope y:=by first|exact Or.inl rfl|exact Or.inr rfl)(hse:starEach [e] X.env=(false,eval e X.env)::starEach [] X.env:=by rfl)(hw:swappedStores [.Name y py] (.Call (.Name "dict" p) [e] [] pos) X.env=pure none:=by rfl)(hf:X.fn y=true\/X.env.scope.names.lookup y=some .local:=by first|exact .inl rfl|exact .inr rfl)(hs:swapsWithSole [.Name y py] (.Call (.Name "dict" p) [e] [] pos) pos'.line X.env=pure false:=by rfl):Ip X (.Assign [.Name y py] (.Call (.Name "dict" p) [e] [] pos) pos'::eN) (CA i ga g2):=λG₀ H₀ pins s σ H D I ⟨G,ρ,sr,h⟩=>by
 refine sy (oy (pI uE hg hm PyProof.Rows.Boot.«dict» (eW he lx hse) (by decide) (by decide) hse rfl) (lU hN hi hx hf) hs hw rfl) (h2 G₀ H₀) pins s σ H D I ⟨G,ρ,sr.e,?_⟩;have h:∀q:Addr×α,pT X G₀ H₀ D ((jC (ga ρ)).out ρ λd=>match d with
  |.dct (k::ks) ds=>g2 q.2 (ρ.set i (some (.obj true DC q.1 ((k::ks).zip (ds.map Fd.val)))))
  |_=>.no):=h;cases q1:ga ρ with
 |ok d=>
  rw[q1]at h;intro v G1 H1 u1 r1;cases r1 with
  | @dct c o xs ks ds hc hk hr=>
   have sr1:=sr.ups u1;cases ks with
   |nil=>exact(h (0,default)).elim
   |cons k ks=>refine⟨c,o,xs,rfl,u1.sub _ _ hc,hk.inH u1.sub,hk.twos,λz=>by have:=hk.length;rw[z]at this;simp at this,λq o' hq=>?_⟩;obtain⟨u,ob⟩:=Aj u1.sub hq hk hr;exact⟨G1,_,sr1.setObj u ob i,λq2=>h (q,q2)⟩
  |_=>exact(h (0,default)).elim
 |_=>rw[q1]at h;exact(h (0,default)).elim
noncomputable def uZ(i:Nat):Ev->O:=λρ=>match ρ[i]? with
 |some (some (.obj true C _ fs))=>if C=DC then (match fvs fs with
  |some kv=>.rt (.dct (kv.map (·.1)) (kv.map (·.2)))
  |none=>.no)else .no
 |_=>.no
def FF(i:Nat)(hi:X.N[i]?=some x:=by rfl)(hv:Vis X.env.scope x:=by first|exact Or.inl rfl|exact Or.inr (Or.inl rfl)|exact Or.inr (Or.inr rfl))(hd:(x==("__debug__":Str))=false:=by decide)(hcd:(x==("__classdict__":Str))=false:=by decide):PSF X (.Return (some (.Name x p)) pos) (uZ i):=λG₀ H₀ pins s σ H D I ⟨G,ρ,sr,h⟩=>by
 unfold uZ at h;split at h
 ·rename_i C q fs e1;split at h
  ·rename_i z;subst z;obtain⟨ow,_,o2⟩:=sr.ob;obtain⟨hσ,ob⟩:=o2 i true DC q fs e1;obtain⟨o,xs,ks,ds,g1,g2,g3,g4,g5,g6,g7⟩:=ob.dco;rw[g7,vY]at h;have l1:=g5.length;have l2:=g6.length;rw[zy]at l2;have e2:(ks.zip ds).map (·.1)=ks:=List.map_fst_zip (by omega);have e3:(ks.zip ds).map (·.2)=ds:=ZX (by omega);have h:pT X G₀ H₀ D (.rt (.dct ((ks.zip ds).map (·.1)) ((ks.zip ds).map (·.2)))):=h;rw[e2,e3]at h;have into:Same G (upd G q (DctO q o xs)):=.into g2;refine EZ (jm hi hv hd hcd) pins s σ H D I ⟨_,hσ,h (.ref q) (upd G q (DctO q o xs)) H ⟨λa u y=>?_,sr.up.gg.trans into,sr.up.hh,λa u y=>?_⟩ (.dct aY (g5.mono into) (g6.mono into))⟩
   ·by_cases ea:a=q;·subst ea;rw[aY]at y;rw[<- y];exact g1
    ·rw[aM ea]at y;exact sr.e.sub a u y
   ·by_cases ea:a=q;·subst ea;exact .inr (g3 rfl)
    ·rw[aM ea]at y;exact sr.up.fr a u y
  ·exact h.elim
 ·exact h.elim
def d1F:D->D->Option D:=λk v=>(vk k).map λn=>.dct [n] [v]
noncomputable def gD1(gk gv:Ev->R D):Ev->R D:=λρ=>gk ρ>>=λk=>gv ρ>>=λv=>ofO (d1F k v)
def N2{k v:Expr}{gk gv:Ev->R D}(hu:X.A.units+64<cLine)(hk:PF X k gk)(hv:PF X v gv):PF X (.Dict [some k] [v] pos) (gD1 gk gv):=λpins s σ H Q I ⟨G,ρ,st,h⟩=>by
 refine HB (by omega) hk hv pins s σ H Q I λq o hq=>?_;have u0:Up G H G (upd H q (DctO q o [])):=⟨λa u y=>by rw[aM (aF y (st.sub.free hq))];exact st.sub a u y,.refl _,.into hq,λ_ _ y=>.inl y⟩
 have h:(gk ρ>>=λk=>gv ρ>>=λv=>ofO (d1F k v)).post (Fin G H (Rep X.K) Q) (Exx X σ G H):=h;have st0:=st.up u0;refine⟨G,ρ,st0,?_⟩;cases q1:gk ρ with
 |ok kd=>
  rw[q1]at h;intro kv G1 H1 u1 r1;refine⟨G1,ρ,st0.up u1,?_⟩;cases q2:gv ρ with
  |ok vd=>
   rw[q2]at h;intro vv G2 H2 u2 r2;obtain⟨w,e1,h⟩:=ofO.ok (show(ofO (d1F kd vd)).post (Fin G H (Rep X.K) Q) (Exx X σ G H) from h);unfold d1F at e1;cases e2:vk kd with
   |none=>rw[e2]at e1;cases e1
   |some n=>
    rw[e2]at e1;cases e1;obtain⟨c,a,b,rfl,rfl,hc⟩:=mJ e2 r1;have u:=u1.trans u2;have gq:G2 q=none:=by
     cases z:G2 q with
     |none=>rfl
     |some o'=>
      rcases u.fr q o' z with y|y;·rw[st.sub.free hq]at y;cases y
      ·rw[aY]at y;cases y
    refine⟨u.hh _ _ aY,c,[a,b],rfl,(hc.mono u2.gg).mono u2.sub,λo'=>h (.ref q) (upd G2 q (DctO q o' [([a,b],c,vv)])) _ ⟨u2.sub.both,u.gg.trans (.into gq),λx o'' y=>?_,λx o'' y=>?_⟩ (.dct aY (.cons ((hc.mono u2.gg).mono (.into gq)) .nil) (.cons (r2.mono (.into gq)) .nil))⟩;·have nx:=aF y hq;rw[aM nx];exact u.hh x o'' (by rw[aM nx];exact y)
    ·by_cases ex:x=q;·subst ex;exact .inr hq
     ·rw[aM ex]at y;rcases u.fr x o'' y with z|z;·exact .inl z
      ·rw[aM ex]at z;exact .inr z
  |ex C=>rw[q2]at h;exact Exx.up (u0.trans u1) h
  |no=>rw[q2]at h;exact h.elim
 |ex C=>rw[q1]at h;exact Exx.up u0 h
 |no=>rw[q1]at h;exact h.elim
def Fq(n:Nat):D:=.tup [.bl (n % 2==1),.bl (n / 2==1)]
noncomputable def As:D->R (List D)
 |.dct ks ds=>.ok ((ks.zip ds).map λz=>.tup [Fq z.1,z.2])
 |_=>.no
def sS:∀a b:Bool,Fq (code a b)=.tup [.bl a,.bl b]:=by intro a b;cases a <;> cases b <;> rfl
theorem KeysAt.item{K:PySem.W.Frag}:∀{xs:DX}{ks:List Nat}{ds:List D}{i:Nat}{y:List Bool×Addr×V},KeysAt K G xs ks->Reps K G (xs.map (·.2.2)) ds->xs[i]?=some y->∃n d,(ks.zip ds)[i]?=some (n,d)/\Rep K G (.ref y.2.1) (Fq n)/\Rep K G y.2.2 d
 |_,_,_,_,_,.nil,_,e=>by simp at e
 |_,_,_,0,_,.cons (a:=a) (b:=b) h t,.cons r1 r2,e=>by simp at e;subst e;exact⟨_,_,rfl,by rw[sS];exact .tup h (.cons (.bl a) (.cons (.bl b) .nil)),r1⟩
 |_,_,_,i+1,_,.cons h t,.cons r1 r2,e=>by obtain⟨n,d,h1,h2⟩:=KeysAt.item t r2 (by simpa using e);exact⟨n,d,by simpa using h1,h2⟩
def ItOk.dct{K:PySem.W.Frag}{o:Obj}{xs:DX}(h:G a=some (DctO a o xs))(k:KeysAt K G xs ks)(r:Reps K G (xs.map (·.2.2)) ds):ItOk K G (Itd a o xs) ((ks.zip ds).map λz=>.tup [Fq z.1,z.2]):=by
 intro i G1 H1 s1 s2;have l1:=k.length;have l2:=r.length;rw[zy]at l2;have lz:((ks.zip ds).map λz=>D.tup [Fq z.1,z.2]).length=xs.length:=by rw[zy,List.length_zip];omega
 have hH:=s2 _ _ (s1 _ _ h);refine⟨λd e=>?_,λhl=>⟨hH,by rw[lz]at hl;exact hl⟩⟩;have hi:i<xs.length:=by rw[<- lz];exact(vc.1 e).1
 refine⟨⟨hH,hi⟩,λx H' ⟨p,y,ex,hp,hy,eH⟩=>?_⟩;subst ex eH;obtain⟨n,d',e1,e2,e3⟩:=k.item r hy;rw[v8,e1]at e;cases e;have gp:=s2.free hp;exact⟨upd G1 p (.tup [.ref y.2.1,y.2.2]),.new s2 hp,.tup (.of aY) (.cons ((e2.mono s1).mono (.into gp)) (.cons ((e3.mono s1).mono (.into gp)) .nil))⟩
def B2{tp ap:Pos}(he:PF X e ga)(hbase:attributeBase e "items" X.env (eval e X.env)=eval e X.env:=by rfl)(hline:(ap.endLine==pos.line)=true:=by rfl):
  PIF X (.Tuple elts kt tp) (.Call (.Attribute e "items" ap) [] [] pos) (λρ=>ga ρ>>=As):=λpins s σ H Rr I ⟨G,ρ,st,h⟩=>by
 refine EE he hbase hline pins s σ H Rr I (tG.intro st h λd v G1 H1 u1 st1 r1 h1=>?_);cases r1 with
 |dct hh k r=>exact⟨_,_,_,rfl,st1.sub _ _ hh,h1 _ G1 H1 (.refl st1.sub) (.dct hh k r)⟩
 |_=>exact h1.elim
end
noncomputable def xq(key:D->R D):D->Int->List D->R D
 |b,_,[]=>.ok b
 |b,kb,x::xs=>match key x with
  |.ok (.int kx)=>if kx<kb then xq key x kx xs else xq key b kb xs
  |_=>.no
noncomputable def rq(key:D->R D):List D->R D
 |x::xs=>(match key x with
  |.ok (.int kx)=>xq key x kx xs
  |_=>.no)
 | []=>.no
section
variable{n:Int}
def xF(F:FnF X.prog X.w X.K X.mg X.base k f fd ps g)(hr:Room k X.A.in1)(hh:X.A.handled=none)(hb:Binds X.K fd ps [])(hl:ps.length=1)(I:Inv X pins σ H s)(ru:RelV v u)(sub:Same G H)(rd:Rep X.K G v d)(e:g [d]=.ok (.int n)):
  wpAny (model X.prog X.w) X.A.in1 (call (.ref f) [u]) (λy s4=>∃H4 t,y=.int n t/\Inv X pins σ H4 s4/\Same H H4/\Un (frs X.stack) [] H H4 s.heap s4.heap) E s:=by
 have J:Inv { X with A:=X.A.in1 } pins σ H s:=I.cx (λp q=>q) rfl (λ_=>hh);have hbb:=hb s [u] J.kIn (by rw[hl];rfl);refine b9 (d8 (F.run X.A.in1 X.stack s H ⟨[u],[]⟩ [u] [v] (λw H4=>w=.int n/\Same H H4) (λ_ _ _=>False) hr J.env0 hbb (.cons ru .nil) ⟨by rw[hl];rfl,G,[d],sub,.cons rd .nil,?_⟩) λr s' hq=>?_);·rw[e];exact λw G' H' up rw'=>⟨rw'.int_inv,up.hh⟩
 ·cases r with
  |error z=>obtain⟨_,_,_,_,_,z⟩:=hq;exact z.elim
  |ok fl=>
   cases fl with
   |ret y=>obtain⟨w,H4,os4,bare4,un4,hok4,rk4,rfl,sm⟩:=hq;obtain⟨t,rfl⟩:=rk4;exact⟨H4,t,rfl,I.call' os4 un4 hok4 bare4 (λb z=>absurd z (by simp)),sm,un4⟩
   |_=>exact False.elim hq
end
section
variable{H0:Hp}{Ii S l:Addr}{dd:D}{Rr:Result->Shared->Prop}
def KT{prog:Program}{w:World}{A:Around}{i j:Int}{t u:Tok}{Q:Value->Shared->Prop}(h:Q (.bool (decide (i<j))) s):wpAny (model prog w) A (richCompare .Lt (.int i t) (.int j u)) Q E s:=
 richCompare_gives (lW s _ t) (lW s _ u) PySem.F.slot_int_lt PySem.F.entry_int_lt (PySem.F.args_int_lt_2 _ _) (gives_int_lt _ _ t u) (λx=>nomatch x) h
def BT(F:FnF X.prog X.w X.K X.mg X.base k f fd ps g)(hr:Room k X.A.in1)(hh:X.A.handled=none)(hb:Binds X.K fd ps [])(hl1:ps.length=1)(hG:Same G H0)(hq:SqL X.K G l vs)(hlI:l≠Ii)(hSI:S≠Ii)(fpI:∀H',H' Ii=none->qe X pins H' Ii)(fpS:∀H',H' S=none->qe X pins H' S)(nfI:Ii∉frs X.stack)(nfS:S∉frs X.stack)(hR:∀v u H' s',Inv X pins σ H' s'->Same H0 H'->RelV v u->Rep X.K G v dd->Rr (.ok (.ret u)) s'):
  ∀(eN:List D)(vrest:List V)(p:Nat)(b:D)(vb:V)(kb:Int)(s:Shared)(H:Hp)(ub:Value)(t:Tok)(c:Nat),p<=vs.length->vs.drop p=vrest->Reps X.K G vrest eN->xq (λd=>g [d]) b kb eN=.ok dd->
   Inv X pins σ H s->Same H0 H->s.heap.get? S=some (seqObj "list" #[ub,.int kb t] c)->s.heap.IsListIter Ii l p->H Ii=none->H S=none->RelV vb ub->Rep X.K G vb b->
   codeAny (model X.prog X.w) X.A (.builtin "min.loop" ⟨[.ref Ii,.ref f,.ref S],[]⟩) Rr s:=by
 intro eN;induction eN with
 |nil=>
  intro vrest p b vb kb s H ub t c hpl hd hrs hm I hs gS hit nI nS rb rpb;cases hm;cases hrs;obtain⟨its,rvs,pl,hz⟩:=I.list ((hq.mono hG).mono hs);have W:=Walks.list (prog:=X.prog) (w:=X.w) (A:=X.A.in1) hh Ii l hlI its.toArray;obtain rfl:p=its.toArray.size:=by have h1:=rvs.length;have h2:=List.drop_eq_nil_iff.1 hd;simp;omega
  refine Zk ZY ?_;refine z8 (j2 gS rfl (z8 (jR (W.done _ _ _ ⟨hit,pl.isList⟩ λh6 tk6 hk6=>?_))));have I6:Inv X pins σ H { s with heap:=h6,toks:=tk6 }:=Inv.turnedL I (λb ob hb e=>hk6 b ob hb e) (λb hb=>by rw[wP.1 hb];exact fpI H nI);have s7:=aT h6 S (Obj.mapSeq λ_=>(#[]:Array Value));refine z8 (Zp (hk6 S _ (by simpa using hSI) gS) rfl (z8 (c6 (zc ?_))));exact hR vb ub H _ (Inv.turnedL (ch:=[S]) I6 (λb ob hb e=>(s7.2 b (by simpa using hb)).trans e) (λb hb=>by rw[wP.1 hb];exact fpS H nS)) hs rb rpb
 |cons d eN ih=>
  intro vrest p b vb kb s H ub t c hpl hd hrs hm I hs gS hit nI nS rb rpb;cases hrs with
  |cons rd rrest=>
  rename_i v vrest;obtain⟨its,rvs,pl,hz⟩:=I.list ((hq.mono hG).mono hs);have W:=Walks.list (prog:=X.prog) (w:=X.w) (A:=X.A.in1) hh Ii l hlI its.toArray;have hvp:vs[p]?=some v:=by simpa[List.head?_drop]using vC List.head? hd
  have hdr:vs.drop (p+1)=vrest:=by simpa[List.tail_drop]using vC List.tail hd
  have hpl':=(vc.1 hvp).1;obtain⟨u,hu,ru⟩:=rvs.get hvp;obtain⟨kx,eg⟩:∃kx,g [d]=.ok (.int kx):=by
   unfold xq at hm;split at hm;·rename_i kx e;exact⟨kx,e⟩
   ·cases hm
  simp only[xq,eg]at hm;refine Zk ZY ?_;refine z8 (j2 gS rfl (z8 (jR (W.item p _ _ _ (by simpa using (vc.1 hu).1) ⟨hit,pl.isList⟩ λv' h3 tk3 hP hst3 hk3=>?_))));obtain rfl:v'=u:=by
   have:its[p]?=some v':=by simpa using hP
   rw[hu]at this;cases this;rfl
  obtain⟨oI,hoI,hoc,hod⟩:=id hst3.1;have I3:Inv X pins σ H { s with heap:=h3,toks:=tk3 }:=Inv.turnedL I (λb ob hb e=>hk3 b ob hb e) (λb hb=>by rw[wP.1 hb];exact fpI H nI);have gS3:=hk3 _ _ (by simpa using hSI) gS;refine z8 (jR (qJ (vV (xF (E:=λ_ _=>False) F hr hh hb hl1 I3 ru (hG.trans hs) rd eg) (λy s4 ⟨H4,tx,ey,I4,sm4,un4⟩=>?_) λ_ _ z=>z.elim)));subst ey;have gS4:=un4.keep _ _ gS3 nS nfS (by simp);have gI4:=un4.keep _ _ hoI nI nfI (by simp);have nI4:=un4.free _ _ hoI nI (by simp);have nS4:=un4.free _ _ gS3 nS (by simp);refine z8 (jR (qJ (z8 (KT (z8 (qJ (oR (z8 (c6 (zc ?_))))))))));by_cases hlt:kx<kb
  ·rw[if_pos hlt]at hm;rw[qQ hlt];have s1:=aT s4.heap S (Obj.mapSeq λ_=>#[v',.int kx tx]);obtain⟨c2,hc2⟩:∃c2,(s4.heap.update S (Obj.mapSeq λ_=>#[v',.int kx tx])).get? S=some (seqObj "list" #[v',.int kx tx] c2):=⟨_,get?_update_seq gS4 λ_=>#[v',.int kx tx]⟩
   refine z8 (Zp gS4 rfl (z8 (c6 ?_)));exact zc ⟨Zq Zr _,ih vrest (p+1) d v kx _ H4 v' tx c2 hpl' hdr rrest hm (Inv.turnedL (ch:=[S]) I4 (λb ob hb e=>(s1.2 b (by simpa using hb)).trans e) (λb hb=>by rw[wP.1 hb];exact fpS H4 nS4)) (hs.trans sm4) hc2 ⟨oI,(s1.2 Ii hSI.symm).trans gI4,hoc,hod⟩ nI4 nS4 ru rd⟩
  ·rw[if_neg hlt]at hm;rw[v6 hlt];refine z8 (c6 ?_);exact zc ⟨Zq Zr _,ih vrest (p+1) b vb kb s4 H4 ub t c hpl' hdr rrest hm I4 (hs.trans sm4) gS4 ⟨oI,gI4,hoc,hod⟩ nI4 nS4 rb rpb⟩
def B4{v0:V}{vr:List V}{d0:D}{kb:Int}{Q:VK}(F:FnF X.prog X.w X.K X.mg X.base k f fd ps g)(hr:Room k X.A.in1)(hh:X.A.handled=none)(hb:Binds X.K fd ps [])(hl1:ps.length=1)(I:Inv X pins σ H s)(hG:Same G H)(hq:SqL X.K G l (v0::vr))(r0:Rep X.K G v0 d0)(rr:Reps X.K G vr ds)(eg:g [d0]=.ok (.int kb))(em:xq (λd=>g [d]) d0 kb ds=.ok dd)(hQ:∀v H',Same H H'->Rep X.K G v dd->Q v H'):
  wpAny (model X.prog X.w) X.A (call (.builtin "min") [.ref l] [(Str.ofString "key",.ref f)]) (EP X pins σ Q) X.xe s:=by
 obtain⟨its,rvs,pl,hz⟩:=I.list (hq.mono hG);have hl:=pl.isList;obtain⟨ol,hol,_⟩:=id hl;have ll:=w5 hol;refine kmk_tree PySem.F.kind_min PySem.F.plain_min PySem.F.entry_min (kmk_min_key _ _) ?_;refine z8 (Zl rfl (z8 (zc (z8 (ZM hl (z8 (wpAny_newList ?_ (wA _))))))));generalize hI:s.heap.objs.size=Ii at *;have hS:(s.heap.push { cls:=.type "list_iterator",data:=.fields #[.ref l,.int 0 0] }).objs.size=Ii+1:=by rw[<- hI];exact size_push' ..
 rw[hS];have hlI:=v9 ll;have hSI:Ii+1≠Ii:=mC (ZO _);refine zc ⟨Zq Zr _,?_⟩;generalize hh2:(s.heap.push { cls:=.type "list_iterator",data:=.fields #[.ref l,.int 0 0] }).push (seqObj "list" #[] 0)=h2;have k2:∀b ob,s.heap.get? b=some ob->h2.get? b=some ob:=λb ob e=>by rw[<- hh2];exact w9 _ (w9 _ e)
 have gI:h2.get? Ii=some { cls:=.type "list_iterator",data:=.fields #[.ref l,.int 0 0] }:=by rw[<- hh2,<- hI];exact w9 _ (v7 _ rfl)
 have gS:h2.get? (Ii+1)=some (seqObj "list" #[] 0):=by rw[<- hh2,<- hS];exact v7 _ rfl
 have fpI:∀H',H' Ii=none->qe X pins H' Ii:=λH' n=>I.fpOk (by rw[hI];exact z9 _) n;have fpS:∀H',H' (Ii+1)=none->qe X pins H' (Ii+1):=λH' n=>I.fpOk (by rw[hI];exact la _) n;have nI:=I.hok.fresh (by rw[hI];exact z9 _);have nS:=I.hok.fresh (by rw[hI];exact la _);have noF:∀b,s.heap.objs.size<=b->b∉frs X.stack:=λb hb z=>by
  rcases zL.1 (I.stkSub b z)with rfl|z;·exact absurd I.lt (mP.2 hb)
  ·exact I.nofs hb z
 have nfI:=noF _ (by rw[hI];exact z9 _);have nfS:=noF _ (by rw[hI];exact la _);have W:=Walks.list (prog:=X.prog) (w:=X.w) (A:=X.A.in1) hh Ii l hlI its.toArray;obtain⟨u0,hu0,ru⟩:=rvs.get (i:=0) rfl;refine Zk ZY ?_;refine z8 (j2 gS rfl (z8 (jR (W.item 0 _ _ _ (by simpa using (vc.1 hu0).1) ⟨⟨_,gI,rfl,rfl⟩,hl.at λo e=>k2 _ _ e⟩ λv h3 tk3 hP hst3 hk3=>?_))));obtain rfl:v=u0:=by
  have:its[0]?=some v:=by simpa using hP
  rw[hu0]at this;cases this;rfl
 obtain⟨oI,hoI,hoc,hod⟩:=id hst3.1;have I3:Inv X pins σ H { s with heap:=h3,toks:=tk3 }:=Inv.turnedL (s:={ s with heap:=h2,toks:=s.toks }) (I.kept k2) (λb ob hb e=>hk3 b ob hb e) (λb hb=>by rw[wP.1 hb];exact fpI H nI);have gS3:=hk3 _ _ (by simp) gS;refine z8 (jR (qJ (vV (xF (E:=λ_ _=>False) F hr hh hb hl1 I3 ru hG r0 eg) (λy s4 ⟨H4,tx,ey,I4,sm4,un4⟩=>?_) λ_ _ z=>z.elim)));subst ey;have gS4:=un4.keep _ _ gS3 nS nfS (by simp);have gI4:=un4.keep _ _ hoI nI nfI (by simp);have nI4:=un4.free _ _ hoI nI (by simp);have nS4:=un4.free _ _ gS3 nS (by simp);have s5:=aT s4.heap (Ii+1) (Obj.mapSeq λ_=>#[v,.int kb tx]);obtain⟨c5,hc5⟩:∃c5,(s4.heap.update (Ii+1) (Obj.mapSeq λ_=>#[v,.int kb tx])).get? (Ii+1)=some (seqObj "list" #[v,.int kb tx] c5):=⟨_,get?_update_seq gS4 λ_=>#[v,.int kb tx]⟩
 refine z8 (Zp gS4 rfl ?_);refine zc ⟨Zq Zr _,?_⟩;exact BT F hr hh hb hl1 hG hq hlI hSI fpI fpS nfI nfS (λv u H' s' I' sm' rv' rp'=>⟨v,H',I',rv',hQ v H' sm' rp'⟩) ds vr 1 d0 v0 kb _ H4 v tx c5 (by simp) rfl rr em (Inv.turnedL (ch:=[Ii+1]) I4 (λb ob hb e=>(s5.2 b (by simpa using hb)).trans e) (λb hb=>by rw[wP.1 hb];exact fpS H4 nS4)) sm4 hc5 ⟨oI,(s5.2 Ii (uo hSI)).trans gI4,hoc,hod⟩ nI4 nS4 ru r0
end
theorem we{key:D->R D}:∀{xs:List D}{b:D}{kb:Int},(∃d,xq key b kb xs=.ok d)\/xq key b kb xs=.no
 | [],b,kb=>.inl ⟨_,rfl⟩
 |x::xs,b,kb=>by
  unfold xq;split
  ·split;·exact we
   ·exact we
  ·exact .inr rfl
def Bz{key:D->R D}{x:D}{xs:List D}:(∃kb d,key x=.ok (.int kb)/\xq key x kb xs=.ok d/\rq key (x::xs)=.ok d)\/rq key (x::xs)=.no:=by
 have e0:rq key (x::xs)=(match key x with
  |.ok (.int kx)=>xq key x kx xs
  |_=>.no):=rfl;rw[e0];cases e:key x with
 |ok d=>
  cases d with
  |int kb=>
   rcases we with⟨d,h⟩|h;·exact .inl ⟨kb,d,rfl,h,h⟩
   ·exact .inr h
  |_=>exact .inr rfl
 |_=>exact .inr rfl
noncomputable def wJ(ga:Ev->R D)(g:List D->R D):Ev->R D:=λρ=>ga ρ>>=λd=>match d with
 |.lst _ xs=>rq (λd=>g [d]) xs
 |_=>.no
def Fu{a:Expr}{ga:Ev->R D}{fn:Str}{fp kp:Pos}(hc:X.calm=true)(hg:Gl X "min")(hm:X.mg "min"=none)(c:Callee X.prog X.w X.K X.mg X.base fn k 1 g)(hr:Room k X.A.in1)(ha:PF X a ga)(hgf:Gl X fn:=by rfl)(hdb:(fn==("__debug__":Str))=false:=by decide)(hs:starEach [a] X.env=(false,eval a X.env)::starEach [] X.env:=by rfl)(hall:(backToKw pos (keywordEach [⟨some "key",.Name fn fp,kp⟩] X.env)).all (·.1.isSome)=true:=by rfl)(hks:(backToKw pos (keywordEach [⟨some "key",.Name fn fp,kp⟩] X.env)).filterMap (·.1)=[("key":Str)]:=by rfl)(hpl:((backTo pos (starEach [a] X.env)).any (·.1) || (backToKw pos (keywordEach [⟨some "key",.Name fn fp,kp⟩] X.env)).any (·.1.isNone))=false:=by rfl):
  PF X (.Call (.Name "min" p) [a] [⟨some "key",.Name fn fp,kp⟩] pos) (wJ ga g):=λpins s σ H Q I ⟨G,ρ,st,h⟩=>by
 obtain⟨f,fd,ps,F,hmf,hkp,hb,hl1⟩:=c.ex;have ta:Ej (tF X ga) Nq σ H (λvs H1=>∃v,vs=[v]/\∃G1 d,Up G H G1 H1/\Rep X.K G1 v d/\(match d with|.lst _ xs=>rq (λd=>g [d]) xs|_=>.no:R D).post (Fin G1 H1 (Rep X.K) Q) (Exx X σ G1 H1)):=
  tG.intro st h λd v G1 H1 u1 st1 r1 h1=>⟨v,rfl,G1,d,u1,r1,h1⟩
 refine iO (oS I hg hm PyProof.Rows.Boot.«min» ?_ (by decide) (by decide));refine PySem.W.callWith_of (P:=λ_=>True) hpl (λh _=>by first|exact⟨_,.inl rfl,ZZ rfl⟩|exact⟨_,.inr (.inl rfl),ZZ rfl⟩|exact⟨_,.inr (.inr rfl),ZZ rfl⟩) (evalArgs_kw2 hall (thn ((eW ha lx hs) pos pins s σ H _ I ta) λus s1 ⟨vs,H1,I1,r1,q1⟩=>?_) hs);obtain⟨v,hv,G1,d,u1,rd,h1⟩:∃v,vs=[v]/\∃G1 d,Up G H G1 H1/\Rep X.K G1 v d/\(match d with|.lst _ xs=>rq (λd=>g [d]) xs|_=>.no:R D).post (Fin G1 H1 (Rep X.K) Q) (Exx X σ G1 H1):=q1;subst hv;obtain⟨u,rfl,rv⟩:=r1.one;refine wpAny_evalAll_cons (z8 (thn (qW (v:=.ref f) hgf hmf rfl hdb pins s1 σ H1 (λw H2=>w=.ref f/\H2=H1) I1 ⟨rfl,rfl⟩) λfv s2 ⟨w,H2,I2,rw2,ew,eh⟩=>z8 (iF (zc (wpAny_evalAll_nil ⟨trivial,?_⟩)))));subst ew eh;cases rw2;have fin:∀{l:Addr}{v0:V}{vr:List V}{x0:D}{ds:List D},u=.ref l->SqL X.K G1 l (v0::vr)->Rep X.K G1 v0 x0->Reps X.K G1 vr ds->(rq (λd=>g [d]) (x0::ds)).post (Fin G1 H2 (Rep X.K) Q) (Exx X σ G1 H2)->
   wpAny (model X.prog X.w) X.A (call (.builtin "min") [u] [(Str.ofString "key",.ref f)]) (EP X pins σ Q) X.xe s2:=by
  intro l v0 vr x0 ds eu hq r0 rr h0;subst eu;rcases Bz with⟨kb,dd,eg,em,e1⟩|e1
  ·rw[e1]at h0;exact B4 F hr (I2.ok.hd hc) hb hl1 I2 u1.sub hq r0 rr eg em λv H' sm rp=>h0 v G1 H' ⟨u1.sub.trans sm,.refl _,sm,λa o h=>.inl h⟩ rp
  ·rw[e1]at h0;exact h0.elim
 cases rd with
 |lst hq t=>
  cases rv;cases t with
  |nil=>exact h1.elim
  |cons r0 t=>exact fin rfl (.of hq) r0 t h1
 |fls hq t=>
  cases rv;cases t with
  |nil=>exact h1.elim
  |cons r0 t=>exact fin rfl hq r0 t h1
 |_=>exact h1.elim
def mI(K:PySem.W.Frag)(c:Addr)(d:D):Prop:=∀G,Rep K G (.ref c) d
def bn{c:Addr}(hg:Gl X x)(hm:X.mg x=some (.ref c))(hk:mI X.K c d)(hd:(x==("__debug__":Str))=false:=by decide):PF X (.Name x pos) (λ_=>.ok d):=λpins s σ H Q I ⟨G,ρ,st,q⟩=>qW (v:=.ref c) hg hm rfl hd pins s σ H Q I (q _ G H (.refl st.sub) (hk G))
def Dm{K:PySem.W.Frag}{c:Addr}{o:Obj}{its:Array Value}{n:Nat}(h1:K.lookup c=some o)(h2:o.cls=.type "tuple")(h3:o.data=.seq its n)(h4:its.size<=sizeLine)(h5:Vals vs its.toList)(h6:∀G,Reps K G vs ds):mI K c (.tup ds):=λG=>.tup (.inr ⟨o,its,n,h1,h2,h3,h4,h5⟩) (h6 G)
def LK{a b:Expr}{ga:Ev->R D}(h:PF X (.Subscript a b pos) ga):PB X (.Subscript a b pos) (av iV ga):=A3 h
def Ge(l:Addr)(items:Array Value)(n:Nat)(b:Addr)(items2:Array Value)(hs1:items.size+items2.size<=sizeLine):
  Meets (Builtin.«list.extend» { pos:=[.ref l,.ref b] }) λ_ R s=>s.heap.get? l=some { cls:=.type "list",data:=.seq items n }/\IsTup s.heap b items2/\R (.ok (.ret .none)) { s with heap:=s.heap.update l (Obj.mapSeq λx=>x++items2) }:=by
 intro prog w A R s ⟨hl,⟨o,e2,hc,n2,hd⟩,h⟩;refine z8 (Zl rfl ?_);refine z8 (g0 ⟨o,e2,hc⟩ ?_);rw[if_pos (by rw[Bool.or_eq_true];exact .inr (by decide))];refine z8 (z8 (j2 e2 hd (zc ?_)));refine z8 (z8 (j2 hl rfl (zc ?_)));rw[qK hs1,d7,if_neg (by decide)];refine z8 (Zp (_hz':=?_) hl rfl ?_);·exact zc h
 ·rw[Array.size_append];omega
noncomputable def Nj(K:PySem.W.Frag):V->List V->Hp->VK->Prop:=λx vs H Q=>∃l b xs zs,x=.ref l/\vs=[.ref b]/\H l=some (.lst xs)/\SqT K H b zs/\xs.length+zs.length<=sizeLine/\Q .non (upd H l (.lst (xs++zs)))
theorem F8:MtM X "list.extend" (Nj X.K):=by
 intro pins s σ H x vs v us Q I rx rv h;obtain⟨l,b,xs,zs,rfl,rfl,hH,hB,hz,q⟩:=h;cases rx;obtain⟨u,rfl,ru⟩:=rv.one;cases ru;obtain⟨z,its,n,r,hl,e⟩:=I.lstM hH;obtain⟨its2,r2,it2,z2⟩:=I.tuple hB;have hl2:=r2.length;have hsz:its.toArray.size+its2.toArray.size<=sizeLine:=by rw[w8,w8];omega
 refine pR F.slot_list_extend ⟨_,e,rfl⟩ F.entry_list_extend (F.args_list_extend_2 _ _) (Ge l its.toArray n b its2.toArray hsz) ⟨e,it2,?_⟩;refine⟨.non,_,I.lset hH e (by simp) (r.append r2) ?_,rfl,q⟩;rw[w6];omega
def asT:D->R (List D)
 |.tup xs=>.ok xs
 |_=>.no
noncomputable def Hh(i:Nat)(ga:Ev->R D):Ev->O:=λρ=>(ownAt ρ i).out ρ λds=>(ga ρ).out ρ λd=>(asT d).out ρ λes=>if ds.length+es.length<=sizeLine then .nx (ρ.set i (some (.own (ds++es))))else .no
def Kj{e:Expr}{ga:Ev->R D}(i:Nat){ap cp:Pos}(he:PF X e ga)(hi:X.N[i]?=some x:=by rfl)(hv:Vis X.env.scope x:=by first|exact Or.inl rfl|exact Or.inr (Or.inl rfl))(hd:(x==("__debug__":Str))=false:=by decide)(hcd:(x==("__classdict__":Str))=false:=by decide)(hs1:starEach [e] X.env=(false,eval e X.env)::starEach [] X.env:=by rfl)(hbase:attributeBase (.Name x p) "extend" X.env (eval (.Name x p) X.env)=eval (.Name x p) X.env:=by rfl)(hfew:((backTo cp (starEach [e] X.env)).all (λx=>!x.1) && (backToKw cp (keywordEach [] X.env)).all (λx=>x.1.isSome)
 && decide ([e].length+([]:List Keyword).length+(if ([]:List Keyword).isEmpty then 0 else 1)<30))=true:=by rfl)(hline:(ap.endLine==cp.line)=true:=by rfl)(hs:swapsWith (.Call (.Attribute (.Name x p) "extend" ap) [e] [] cp) none pos.line X.env=pure false:=by rfl):
  PSF X (.Expr (.Call (.Attribute (.Name x p) "extend" ap) [e] [] cp) pos) (Hh i ga):=λG₀ H₀ pins s σ H D I h=>by
 refine nM (Dg b8 PySem.F.slot_list_extend PySem.F.type_list_extend F8 (jm hi hv hd hcd) (eW he lx hs1) hbase hfew hline hs1 rfl) hs pins s σ H D I ?_;obtain⟨G,ρ,sr,h⟩:=h;obtain⟨ds,e1,h⟩:=ownAt.ok h;obtain⟨l,vs,h1,h2,h3,h4,h5⟩:=sr.own i ds e1;refine⟨.ref l,h1,.inl ⟨rfl,vs,.of h2⟩,G,ρ,sr.e,?_⟩;cases q:ga ρ with
 |ok d=>
  rw[q]at h;intro v G' H' u r;cases r with
  |tup hb t=>
   rename_i b ws es;have h:pT X G₀ H₀ D (if ds.length+es.length<=sizeLine then .nx (ρ.set i (some (.own (ds++es))))else .no):=h;by_cases hz:ds.length+es.length<=sizeLine;·rw[if_pos hz]at h;refine⟨l,b,vs,ws,rfl,rfl,u.hh _ _ h2,hb.mono u.sub,by rw[h5.length,t.length];exact hz,h _ G' _ ?_⟩;exact(sr.ups u).mut e1 h1 ((h5.mono u.gg).append t)
   ·rw[if_neg hz]at h;exact h.elim
  |_=>exact h.elim
 |ex C=>rw[q]at h;exact Exx.of sr h
 |no=>rw[q]at h;exact h
section
variable{g g1 g2':Ev->O}{gt gu:Ev->R Bool}{ga gc:Ev->R D}{go gp:Ev->R (Option Int)}{n:Nat}{f f':D->D->Option D}
def ng:ax g1 g2' ρ=(g1 ρ).seq g2':=rfl
def O5:oIf gt g1 g2' ρ=(gt ρ).out ρ λk=>if k=true then g1 ρ else g2' ρ:=rfl
def zw:cN i ga ρ=(ga ρ).out ρ λd=>.nx (ρ.set i (some (.val d))):=rfl
def NS:bS ga ρ=(ga ρ).out ρ .rt:=rfl
def Pj:oNx ρ=.nx ρ:=rfl
def KA:yh i gl ρ=(gl ρ).out ρ λds=>.nx (ρ.set i (some (.own ds))):=rfl
def J7:oX ga ρ=(ga ρ).out ρ λ_=>.nx ρ:=rfl
def JN:pN asg gl g ρ=(gl ρ).out ρ λitems=>cO asg g items ρ:=rfl
def Gg:ml C gl ρ=(gl ρ).out ρ λ_=>.ex C ρ:=rfl
def Nd:Ix asg ga ρ=(ga ρ).out ρ λd=>(asg d ρ).out ρ .nx:=rfl
def NZ:zC i g ρ=g (frz i ρ):=rfl
def BV{α β:Type}{h:α->R β}{gx:Ev->R α}:av h gx ρ=gx ρ>>=h:=rfl
def MV{h:List D->Option D}:gOf h gl ρ=gl ρ>>=λds=>ofO (h ds):=rfl
def ka:ac ga gl ρ=ga ρ>>=λx=>gl ρ>>=λxs=>.ok (x::xs):=rfl
def wy:bf gl ρ=gl ρ>>=λds=>.ok (.lst false ds):=rfl
def NV:jU gl ρ=gl ρ>>=λds=>if ds.length<=sizeLine then .ok ds else .no:=rfl
def Px:gB2 f ga gb ρ=g2 f ga gb ρ>>=asB:=rfl
def OX:gB3 f f' ga gb gc ρ=g3 f f' ga gb gc ρ>>=asB:=rfl
def Qj:gBn gt ρ=gt ρ>>=λk=>.ok (!k):=rfl
def KS:fm ga ρ=ga ρ>>=λx=>asI x>>=λi=>.ok (some i):=rfl
def IG{T:String}{h:D->List D->Option D}:jO T h ga gl ρ=ga ρ>>=λx=>if kY T x=true then gl ρ>>=λds=>ofO (h x ds)else .no:=rfl
def LW:g2 f ga gb ρ=ga ρ>>=λx=>gb ρ>>=λy=>ofO (f x y):=rfl
def Nw:me ga gb ρ=ga ρ>>=λx=>asB x>>=λk=>if k=true then gb ρ else .ok (.bl false):=rfl
def OQ:gOr ga gb ρ=ga ρ>>=λx=>asB x>>=λk=>if k=true then .ok (.bl true)else gb ρ:=rfl
def MQ:Jo ga ρ=ga ρ>>=λx=>asB x>>=λk=>.ok (.bl (!k)):=rfl
def JC:vG gt gu ρ=gt ρ>>=λk=>if k=true then gu ρ else .ok false:=rfl
def M5:jY gt gu ρ=gt ρ>>=λk=>if k=true then .ok true else gu ρ:=rfl
def Oh:gIf gt ga gb ρ=gt ρ>>=λk=>if k=true then ga ρ else gb ρ:=rfl
def PJ:gSl ga go gp ρ=ga ρ>>=λx=>go ρ>>=λl=>gp ρ>>=λu=>ofO (GI l u x):=rfl
def FD:dS gl ix gt ga ρ=gl ρ>>=λitems=>dI gt ga items (fU ix ρ)>>=λds=>if ds.length<=sizeLine then .ok ds else .no:=rfl
def AY{h:List D->R D}:aA 1 h (ac ga λ_=>.ok []) ρ=ga ρ>>=λx=>h [x]:=Ac
def F7{h:List D->R D}:aA 2 h (ac ga (ac gb λ_=>.ok [])) ρ=ga ρ>>=λx=>gb ρ>>=λy=>h [x,y]:=Cd
def FY{h:List D->R D}:aA 3 h (ac ga (ac gb (ac gc λ_=>.ok []))) ρ=ga ρ>>=λx=>gb ρ>>=λy=>gc ρ>>=λz=>h [x,y,z]:=ud
def Gs{h:List D->R D}{gd:Ev->R D}:aA 4 h (ac ga (ac gb (ac gc (ac gd λ_=>.ok [])))) ρ=ga ρ>>=λx=>gb ρ>>=λy=>gc ρ>>=λz=>gd ρ>>=λu=>h [x,y,z,u]:=by
 unfold aA;simp only[ka];cases ga ρ <;> try rfl
 cases gb ρ <;> try rfl
 cases gc ρ <;> try rfl
 cases gd ρ <;> rfl
end
def Mq(i:Nat)(ga:Ev->R D)(ρ:Ev):Iy i ga ρ=(ownAt ρ i).out ρ λds=>(ga ρ).out ρ λd=>(asL d).out ρ λes=>if ds.length+es.length<=sizeLine then .nx (ρ.set i (some (.own (ds++es))))else .no:=rfl
def Om(i:Nat)(ga:Ev->R D)(ρ:Ev):Fk i ga ρ=(ownAt ρ i).out ρ λds=>(ga ρ).out ρ λd=>if ds.length<sizeLine then .nx (ρ.set i (some (.own (ds++[d]))))else .no:=rfl
def MA(i j:Nat)(gl:Ev->R (List D))(ρ:Ev):Md i j gl ρ=(gl ρ).out ρ λds=>(rm [i,j] ds ρ).out ρ .nx:=rfl
def OT(ds:List D)(ρ:Ev):ownAt (some (.own ds)::ρ) 0=.ok ds:=rfl
def Pn(a0:Option Sl)(ds:List D)(ρ:Ev):ownAt (a0::some (.own ds)::ρ) 1=.ok ds:=rfl
def Pe(a0 a1:Option Sl)(ds:List D)(ρ:Ev):ownAt (a0::a1::some (.own ds)::ρ) 2=.ok ds:=rfl
def asl(ds:List D):asL (.lst false ds)=.ok ds:=rfl
def Pf(a0:Option Sl)(ds:List D)(ρ:Ev):frz 1 (a0::some (.own ds)::ρ)=a0::some (.val (.lst false ds))::ρ:=rfl
noncomputable def g3k(f':D->D->Option D)(r:R D)(y:D):D->R D
 |.bl true=>r>>=λw=>ofO (f' y w)
 |.bl false=>.ok (.bl false)
 |_=>.no
def Pg(f f':D->D->Option D)(ga gb gc:Ev->R D)(ρ:Ev):g3 f f' ga gb gc ρ=ga ρ>>=λx=>gb ρ>>=λy=>ofO (f x y)>>=g3k f' (gc ρ) y:=rfl
def Nm(f':D->D->Option D)(r:R D)(y:D)(b:Bool):g3k f' r y (.bl b)=if b=true then (r>>=λw=>ofO (f' y w))else .ok (.bl false):=by cases b <;> rfl
def sv2(i j:Nat)(x y:D)(ρ:Ev):rm [i,j] [x,y] ρ=.ok ((ρ.set i (some (.val x))).set j (some (.val y))):=rfl
def PZ(a0 a1 a2 a3:Option Sl)(ds:List D)(ρ:Ev):frz 4 (a0::a1::a2::a3::some (.own ds)::ρ)=a0::a1::a2::a3::some (.val (.lst false ds))::ρ:=rfl
def Db(ρ:Ev)(k:Ev->O):(O.nx ρ).seq k=k ρ:=rfl
def MG(d:D)(k:Ev->O):(O.rt d).seq k=.rt d:=rfl
def Pv(C:Addr)(ρ:Ev)(k:Ev->O):(O.ex C ρ).seq k=.ex C ρ:=rfl
def PQ(k:Ev->O):(O.no).seq k=.no:=rfl
def OI(d:D):ar (.rt d)=.ok d:=rfl
def Qg(ρ:Ev):ar (.nx ρ)=.ok .non:=rfl
def O9(C:Addr)(ρ:Ev):ar (.ex C ρ)=.ex C:=rfl
def Py(k:Bool):asB (.bl k)=.ok k:=rfl
def jQ(i:Int):asI (.int i)=.ok i:=rfl
def Pm(k:Bool):iV (.bl k)=.ok k:=rfl
def rd7(a0 a1 a2 a3 a4 a5 a6:Option Sl)(d:D)(ρ:Ev):rdV (a0::a1::a2::a3::a4::a5::a6::some (.val d)::ρ) 7=.ok d:=rfl
def rd8(a0 a1 a2 a3 a4 a5 a6 a7:Option Sl)(d:D)(ρ:Ev):rdV (a0::a1::a2::a3::a4::a5::a6::a7::some (.val d)::ρ) 8=.ok d:=rfl
def rd9(a0 a1 a2 a3 a4 a5 a6 a7 a8:Option Sl)(d:D)(ρ:Ev):rdV (a0::a1::a2::a3::a4::a5::a6::a7::a8::some (.val d)::ρ) 9=.ok d:=rfl
def Pu(a0 a1 a2 a3 a4 a5 a6 a7 a8 a9:Option Sl)(d:D)(ρ:Ev):rdV (a0::a1::a2::a3::a4::a5::a6::a7::a8::a9::some (.val d)::ρ) 10=.ok d:=rfl
def O7(a0 a1 a2 a3 a4 a5 a6 a7 a8 a9 a10:Option Sl)(d:D)(ρ:Ev):rdV (a0::a1::a2::a3::a4::a5::a6::a7::a8::a9::a10::some (.val d)::ρ) 11=.ok d:=rfl
def P9(a0 a1 a2 a3 a4 a5 a6 a7 a8 a9 a10 a11:Option Sl)(d:D)(ρ:Ev):rdV (a0::a1::a2::a3::a4::a5::a6::a7::a8::a9::a10::a11::some (.val d)::ρ) 12=.ok d:=rfl
section
variable(i j:Int)
def Ms:bv (.int i) (.int j)=some (.int (i+j)):=by simp only[bv]
def NR:tq (.int i) (.int j)=some (.int (i - j)):=by simp only[tq]
def PN:leD (.int i) (.int j)=some (.bl (decide (i<=j))):=by simp only[leD]
def Qf:ltD (.int i) (.int j)=some (.bl (decide (i<j))):=by simp only[ltD]
def Ph:gtD (.int i) (.int j)=some (.bl (decide (j<i))):=by simp only[gtD]
def PP:geD (.int i) (.int j)=some (.bl (decide (j<=i))):=by simp only[geD]
def Po:eqF (.int i) (.int j)=some (.bl (i==j)):=by simp only[eqF,eqD,tU]
def OC:neF (.int i) (.int j)=some (.bl (!(i==j))):=by simp only[neF,eqD,tU]
end
def FC{i j:Int}(h : -(2 ^ 64)<i/\i<2 ^ 64):fq (.int i) (.int j)=some (.int (i * j)):=by simp only[fq];rw[if_pos (Or.inl h)]
def su{x y:List Nat}(h:x.length+y.length<=sizeLine):bv (.str x) (.str y)=some (.str (x++y)):=by simp only[bv];rw[if_pos h]
def xi{x y:List D}(h:x.length+y.length<=sizeLine):bv (.tup x) (.tup y)=some (.tup (x++y)):=by simp only[bv];rw[if_pos h]
def Op(x y:List Nat):eqF (.str x) (.str y)=some (.bl (x==y)):=by simp only[eqF,eqD,tU]
def Qo(x y:List Nat):neF (.str x) (.str y)=some (.bl (!(x==y))):=by simp only[neF,eqD,tU]
def yB{α:Type}(n:Nat)(x:α):(List.replicate n [x]).flatten=List.replicate n x:=by
 induction n with
 |zero=>rfl
 |succ n ih=>rw[mE,j8,ih];rfl
def aW:(1000:Nat)<=sizeLine:=by decide
def FT{c n:Nat}(h:n<=1000):fq (.str [c]) (.int (n:Int))=some (.str (List.replicate n c)):=by have:=aW;simp only[fq];rw[if_pos (by refine⟨by omega,by omega,?_⟩;simp;omega),vN,yB]
def Nb{c:D}{n:Nat}(h:n<=1000):fq (.lst false [c]) (.int (n:Int))=some (.lst false (List.replicate n c)):=by have:=aW;simp only[fq];rw[if_pos (by refine⟨by omega,by omega,?_⟩;simp;omega),vN,yB]
def CH{xs:List D}(h:xs[k]?=some d):ixD (.tup xs) (.int (k:Int))=some d:=by simp only[ixD];exact vJ h
def L9{xs:List D}(h:xs[k]?=some d):ixD (.lst fz xs) (.int (k:Int))=some d:=by simp only[ixD];exact vJ h
def L4{x:List Nat}{c:Nat}(h:x[k]?=some c):ixD (.str x) (.int (k:Int))=some (.str [c]):=by simp only[ixD];rw[vJ h];rfl
def qa{α:Type}(xs:List α)(k:Nat):jJ xs none (some (k:Int))=xs.take k:=by
 unfold jJ;rw[HT.sIx_none,HT.sIx_nat,c8,b6];by_cases h:k<=xs.length;·rw[Zs h]
 ·rw[Zt (by omega),cY,j3 (by omega)]
def kA{α:Type}(xs:List α)(k:Nat):jJ xs (some (k:Int)) none=xs.drop k:=by
 unfold jJ;rw[HT.sIx_none,HT.sIx_nat];by_cases h:k<=xs.length;·rw[Zs h,j3 (by simp)]
 ·rw[Zt (by omega),Zi,List.take_nil,Y0 (by omega)]
def Mr(lo hi:Option Int)(x:List Nat):GI lo hi (.str x)=some (.str (jJ x lo hi)):=rfl
def Nu(lo hi:Option Int)(x:List D):GI lo hi (.tup x)=some (.tup (jJ x lo hi)):=rfl
def Na(fz:Bool)(x:List D):de [.lst fz x]=some (.int x.length):=rfl
def JF(x:List D):de [.tup x]=some (.int x.length):=rfl
def NP(x:List Nat):de [.str x]=some (.int x.length):=rfl
def m_t(h:ds.length<=1000):mkT ds=.ok (.tup ds):=if_pos (wt h aW)
def lr{n:Nat}(h:n<=1000):bC [.int (n:Int)]=.ok ((List.range n).map λ(i:Nat)=>D.int (i:Int)):=by
 have e:bC [.int (n:Int)]=if -(2 ^ 62)<=(n:Int)/\(n:Int)<2 ^ 62 then .ok ((List.range (n:Int).toNat).map λi=>D.int (0+(i:Nat)))else .no:=by simp only[bC]
 rw[e,if_pos (by constructor <;> omega),vN];simp only[Int.zero_add]
def Qk{α:Type}(a v:α)(l:List α):(a::l).set 0 v=v::l:=rfl
def qZ(asg:D->Ev->R Ev)(g:Ev->O)(ρ:Ev):cO asg g [] ρ=.nx ρ:=rfl
def eU{g:Ev->O}{ρ1 ρ2:Ev}(h1:asg d ρ=.ok ρ1)(h2:g ρ1=.nx ρ2):cO asg g (d::ds) ρ=cO asg g ds ρ2:=by
 rw[cO,h1];show(match g ρ1 with
  |.nx ρ2=>cO asg g ds ρ2
  |.ct ρ2=>cO asg g ds ρ2
  |.bk ρ2=>O.nx ρ2
  |.rt d=>O.rt d
  |.re d ρ2=>.re d ρ2
  |.ex C ρ2=>O.ex C ρ2
  |.no=>O.no)=_;rw[h2]
def Mw{e:Expr}(hg:Gl X "ord")(hm:X.mg "ord"=none)(ha:PFA X [e] gl)(he:starEach [e] X.env=(false,eval e X.env)::starEach [] X.env:=by rfl):PF X (.Call (.Name "ord" p) [e] [] pos) (gOf Iw gl):=mM Du (K3 _) hg hm rfl ha (he:=he)
def uO{e:Expr}(hg:Gl X "tuple")(hm:X.mg "tuple"=none)(ha:PFA X [e] gl)(he:starEach [e] X.env=(false,eval e X.env)::starEach [] X.env:=by rfl):
  PF X (.Call (.Name "tuple" p) [e] [] pos) (gOf nB gl):=tN ss (EN _) hg hm PyProof.Rows.Boot.«tuple» ha (by decide) (by decide) he rfl
def N9{a b:Expr}{ga:Ev->R D}(ha:PF X a ga)(hb:PF X b gb):PB X (.Compare a [.GtE] [b] pos) (gB2 geD ga gb):=NO ha hb
noncomputable def ke:D->List D->Option D
 |.str x,[.int i]=>if -1000<=i/\i<=1000 then some (.str (x++List.replicate (i.toNat - x.length) 32))else none
 |_,_=>none
noncomputable def Fz:V->List V->Hp->VK->Prop:=λx vs H Q=>∃(y:Str)(i:Int),x=.str y/\vs=[.int i]/\-1000<=i/\i<=1000/\Q (.str (Txt.ljust y i)) H
def DZ:MtR X "str.ljust" Fz:=by intro pins s σ H x xs v us Q I rx rv ⟨y,i,ex,exs,h1,h2,q⟩;subst ex exs;obtain⟨t,rfl⟩:=rx;obtain⟨u,rfl,r1⟩:=rv.one;obtain⟨t',rfl⟩:=r1;exact SC.ljust (padOk_of (by omega) (by omega)) (λt'' k=>⟨.str _,H,I.tok _,⟨_,rfl⟩,q⟩)
def uv(y:Str)(i:Int):(Txt.ljust y i).cps.toList=y.cps.toList++List.replicate (i.toNat - y.cps.toList.length) 32:=by
 unfold Txt.ljust;have hl:y.length=y.cps.toList.length:=by simp[Str.length]
 split
 ·have:i.toNat - y.cps.toList.length=0:=by omega
  rw[this];simp
 ·simp[Builtin.Str.padded,Str.length]
def Ew(K:PySem.W.Frag):KG K "str" Fz ke:=by
 intro G H x xs dx ds d Q s rx rs e q;unfold ke at e;split at e
 ·split at e
  ·rename_i hi;cases e;obtain⟨v,rfl,r1⟩:=rs.one;obtain⟨y,rfl,ey,hy⟩:=rx.str_inv;obtain rfl:=r1.int_inv;refine⟨y,_,rfl,rfl,hi.1,hi.2,q _ G H (.refl s) (.strL (by rw[uv,ey]) ?_)⟩;have h1:y.length=y.cps.toList.length:=by simp[Str.length]
   have:=aW;rw[h1,ey]at hy;simp;omega
  ·cases e
 ·cases e
def BC{o e:Expr}{ga:Ev->R D}{ap cp:Pos}(ho:PF X o ga)(ha:PFA X [e] gl)(hbase:attributeBase o "ljust" X.env (eval o X.env)=eval o X.env:=by rfl)(hfew:((backTo cp (starEach [e] X.env)).all (λx=>!x.1) && (backToKw cp (keywordEach [] X.env)).all (λx=>x.1.isSome)
 && decide ([e].length+([]:List Keyword).length+(if ([]:List Keyword).isEmpty then 0 else 1)<30))=true:=by rfl)(hline:(ap.endLine==cp.line)=true:=by rfl)(hs:starEach [e] X.env=(false,eval e X.env)::starEach [] X.env:=by rfl):
  PF X (.Call (.Attribute o "ljust" ap) [e] [] cp) (jO "str" ke ga gl):=sG PySem.F.plainAttrs_str PySem.F.slot_str_ljust PySem.F.type_str_ljust DZ (Ew _) ho ha hbase hfew hline hs rfl
def OE{l:List Str}{y7 y8 y9 y10 y11:Str}:At (y0::y1::y2::y3::y4::y5::y6::y7::y8::y9::y10::y11::x::l) 12 x:=rfl
def Mf{l:List Str}{y7 y8 y9 y10 y11 y12:Str}:At (y0::y1::y2::y3::y4::y5::y6::y7::y8::y9::y10::y11::y12::x::l) 13 x:=rfl
def L6{l:List Str}{y7 y8 y9 y10 y11 y12 y13:Str}:At (y0::y1::y2::y3::y4::y5::y6::y7::y8::y9::y10::y11::y12::y13::x::l) 14 x:=rfl
def Qc(a0 a1 a2 a3 a4 a5 a6 a7 a8 a9 a10 a11 a12:Option Sl)(d:D)(ρ:Ev):rdV (a0::a1::a2::a3::a4::a5::a6::a7::a8::a9::a10::a11::a12::some (.val d)::ρ) 13=.ok d:=rfl
def Pw(a0 a1 a2 a3 a4 a5 a6 a7 a8 a9 a10 a11 a12 a13:Option Sl)(d:D)(ρ:Ev):rdV (a0::a1::a2::a3::a4::a5::a6::a7::a8::a9::a10::a11::a12::a13::some (.val d)::ρ) 14=.ok d:=rfl
def M8(i:Nat)(gt:Ev->R Bool)(g1 g2:Ev->O)(ρ:Ev):OM i gt g1 g2 ρ=(jC (gt (frz i ρ))).out ρ λk=>if k=true then g1 ρ else g2 ρ:=rfl
def Li(j i:Nat)(ga:Ev->R D)(ρ:Ev):wQ j i ga ρ=(jC (ga (frz j ρ))).out ρ λd=>if fl 10 d=true then .nx (ρ.set i (some (.val d)))else .no:=rfl
def K4(j i:Nat)(ga:Ev->R D)(ρ:Ev):MZ j i ga ρ=(ownAt ρ i).out ρ λds=>(jC (ga (frz j ρ))).out ρ λd=>if ds.length<sizeLine/\fl 10 d=true then .nx (ρ.set i (some (.own (ds++[d]))))else .no:=rfl
noncomputable def KW(i:Nat)(ρ:Ev)(ds:List D)(d:D):Option Nat->O
 |some n=>if fl 10 d=true then .nx (ρ.set i (some (.own (ds.set n d))))else .no
 |none=>.no
def JW(i:Nat)(gk ga:Ev->R D)(ρ:Ev):CM i gk ga ρ=(ownAt ρ i).out ρ λds=>(jC (ga (frz i ρ))).out ρ λd=>(jC (gk (frz i ρ)>>=asI)).out ρ λk=>KW i ρ ds d (ixN ds.length k):=rfl
def yW(i:Nat)(ρ:Ev)(ds:List D)(d:D)(n:Nat):KW i ρ ds d (some n)=if fl 10 d=true then .nx (ρ.set i (some (.own (ds.set n d))))else .no:=rfl
def JX(gl:Ev->R (List D))(ρ:Ev):HX gl ρ=gl ρ>>=Hg:=rfl
def Nn(xs:List D):Hg [.tup xs]=.ok xs:=rfl
def Gh(ga gb:Ev->R D)(ρ:Ev):Ka ga gb ρ=ga ρ>>=λx=>gb ρ>>=λc=>Fe x c:=rfl
def Hx(n:Nat)(asg:D->Ev->R Ev)(gl:Ev->R (List D))(ix:List Nat)(gt:Ev->R Bool)(ga:Ev->R D)(ρ:Ev):qd n asg gl ix gt ga ρ=gl ρ>>=λitems=>hW asg gt ga items (iQ n ix ρ)>>=λds=>if ds.length<=sizeLine then .ok ds else .no:=rfl
def JI(i j:Nat)(ga:Ev->R D)(gl:Ev->R (List D))(ρ:Ev):Nv i j ga gl ρ=(ga ρ).out ρ λd=>(gl ρ).out ρ λds=>.nx ((ρ.set i (some (.val d))).set j (some (.own ds))):=rfl
def NC(f:Bool)(lo hi:Option Int)(x:List D):GI lo hi (.lst f x)=some (.lst false (jJ x lo hi)):=rfl
def Mo(ga gs:Ev->R D)(ρ:Ev):Qm ga gs ρ=ga ρ>>=λx=>gs ρ>>=λk=>Mc x k:=rfl
def Nx(x:List Nat):Mc (.str x) (.int (-1))=.ok (.str x.reverse):=rfl
def NG(f:Bool)(x:List D):Mc (.lst f x) (.int (-1))=.ok (.lst false x.reverse):=rfl
def Mt(f:Bool)(xs:List D):Hg [.lst f xs]=.ok xs:=rfl
def ND(i:Nat):O->O
 |.nx ρ=>.nx (ρ.set i none)
 |.rt d=>.rt d
 |_=>.no
noncomputable def I9(gs:Ev->O)(f:Addr->Option Bool)(i:Nat):O->O
 |.ex C ρ=>(match f C with
  |some true=>ND i (gs (ρ.set i (some (.val (.exc C)))))
  |_=>.no)
 |o=>o
def Ni(gb gs:Ev->O)(f:Addr->Option Bool)(i:Nat)(ρ:Ev):Ak gb gs f i ρ=I9 gs f i (gb ρ):=by unfold Ak I9;cases gb ρ <;> rfl
def HP(gs:Ev->O)(f:Addr->Option Bool)(i:Nat)(ρ:Ev):I9 gs f i (.nx ρ)=.nx ρ:=rfl
def Gj{gs:Ev->O}{f:Addr->Option Bool}(h:f C=some true):I9 gs f i (.ex C ρ)=ND i (gs (ρ.set i (some (.val (.exc C))))):=by simp only[I9,h]
def Hr(i:Nat)(ρ:Ev):ND i (.nx ρ)=.nx (ρ.set i none):=rfl
noncomputable def Kg(gs:List (Ev->R D))(out:List Nat)(ρ:Ev):D->R D
 |.str x=>if (out++x).length<=sizeLine then ww gs (out++x) ρ else .no
 |_=>.no
def JH(gs:List (Ev->R D))(ρ:Ev):Np gs ρ=ww gs [] ρ:=rfl
def GQ(out:List Nat)(ρ:Ev):ww [] out ρ=.ok (.str out):=rfl
def GF(g:Ev->R D)(gs:List (Ev->R D))(out:List Nat)(ρ:Ev):ww (g::gs) out ρ=g ρ>>=Kg gs out ρ:=rfl
def Gp(gs:List (Ev->R D))(out:List Nat)(ρ:Ev)(x:List Nat):Kg gs out ρ (.str x)=if (out++x).length<=sizeLine then ww gs (out++x) ρ else .no:=rfl
def Ny(x:List Nat):Pz (.str x)=.ok (.str x):=rfl
def Km(j i:Nat)(gl:Ev->R (List D))(ρ:Ev):MD j i gl ρ=(jC (gl (frz j ρ))).out ρ λds=>if ds.all (fl 10)=true then .nx (ρ.set i (some (.own ds)))else .no:=rfl
def NK(n:Nat)(gt:Ev->R Bool)(g:Ev->O)(ρ:Ev):LR n gt g ρ=xy gt g n ρ:=rfl
def HS(gi:Ev->R (List D))(ix:List Nat)(gt:Ev->R Bool)(ge:Ev->R D)(ρ:Ev):K6 gi ix gt ge ρ=gi ρ>>=λitems=>if items.length<=sizeLine then xX (jz 0) gt ge items (fU ix ρ)else .no:=rfl
def Ht(C:Addr)(i k:Nat)(gb:Ev->R D)(ρ:Ev):Kd C i k gb ρ=(E6 C ρ i>>=λfs=>GE fs k>>=λds=>gb ρ>>=λd=>ofO (ixD (.lst false ds) d)):=rfl
def Ey(C:Addr)(i k:Nat)(ρ:Ev):GH C i k ρ=(E6 C ρ i>>=λfs=>GE fs k>>=λds=>.ok (.int ds.length)):=rfl
def Jj(C:Addr)(i k:Nat)(ga:Ev->R D)(ρ:Ev):Nt C i k ga ρ=(yE C ρ i).out ρ λo=>(GE o.2 k).out ρ λds=>(ga ρ).out ρ λd=>if ds.length<sizeLine then .nx (ρ.set i (some (.obj true C o.1 (vj k (.own (ds++[d])) o.2))))else .no:=rfl
def Lb(C:Addr)(i k:Nat)(gl:Ev->R (List D))(ρ:Ev):ME C i k gl ρ=(yE C ρ i).out ρ λo=>(gl ρ).out ρ λds=>if o.2.length<900 then .nx (ρ.set i (some (.obj true C o.1 (vj k (.own ds) o.2))))else .no:=rfl
def JT(ga:Ev->R D)(ρ:Ev):NN ga ρ=(ga ρ).out ρ λd=>.re d ρ:=rfl
def Hc(C:Addr)(i n:Nat)(F:MF)(gl:Ev->R (List D))(ρ:Ev):Lq C i n F gl ρ=(E6 C ρ i>>=λfs=>gl ρ>>=λds=>if ds.length=n then (F fs ds).read else .no):=rfl
def EM(C:Addr)(i:Nat)(F:MF)(ρ:Ev):Gf C i F ρ=(E6 C ρ i>>=λfs=>(F fs []).read):=rfl
def HG(C:Addr)(i n:Nat)(F:MF)(gl:Ev->R (List D))(ρ:Ev):N7 C i n F gl ρ=(yE C ρ i).out ρ λo=>(gl ρ).out ρ λds=>if ds.length=n then (F o.2 ds).out C o.1 i ρ else .no:=rfl
def FP(C:Addr)(i:Nat)(F:MF)(ρ:Ev):Jq C i F ρ=(yE C ρ i).out ρ λo=>(F o.2 []).out C o.1 i ρ:=rfl
def OY(d:D)(ρ:Ev)(k:Ev->O):(O.re d ρ).seq k=.re d ρ:=rfl
def MK(d:D):RM.read (.rd d)=.ok d:=rfl
def MI(C:Addr):RM.read (.ex C)=.ex C:=rfl
def KK(d:D)(fs:List (Nat×Fd))(C p:Addr)(i:Nat)(ρ:Ev):RM.out (.ok d fs) C p i ρ=.nx (ρ.set i (some (.obj true C p fs))):=rfl
def Jw(d:D)(C p:Addr)(i:Nat)(ρ:Ev):RM.out (.rd d) C p i ρ=.nx ρ:=rfl
def Lw(E C p:Addr)(i:Nat)(ρ:Ev):RM.out (.ex E) C p i ρ=.ex E ρ:=rfl
end L2
section
open L2
set_option compiler.extract_closed false in
local macro_rules | `(tactic| walk_at "run")=>`(tactic| simp -implicitDefEqProofs only[rvz,ciz,nlz,csz,Ly,Ja,LG,IW,HS,↓AY,↓F7,↓FY,↓Gs,ng,O5,zw,NS,Pj,KA,J7,JN,Gg,Nd,NZ,BV,MV,ka,wy,NV,Px,OX,Qj,KS,IG,LW,Nw,OQ,MQ,JC,M5,Oh,PJ,FD,Mq,Om,K4,M8,Li,JW,mZ,JX,Gh,Hx,JI,NC,Mo,Nx,NG,yW,Nn,Mt,Qc,Pw,and_self,MA,OT,Pn,Pe,asl,Pf,PZ,Pg,Nm,sv2,Db,MG,Pv,PQ,OI,Qg,O9,Py,jQ,Pm,rd0,rd1,rd2,rd3,rd4,rd5,rd6,rd7,rd8,rd9,Pu,O7,P9,R.ok_bind,R.ok_out,R.ex_bind,R.ex_out,cF,Ms,NR,PN,Qf,Ph,PP,Po,OC,Op,Qo,Na,JF,NP,Mr,Nu,Qk,List.set_cons_succ,pw,vz,List.cons_append,p8,Nat.reduceAdd,Nat.reduceBEq,j4,Bool.not_false,nA,ue,vP,Km,NK,Ni,HP,Gj,Hr,JH,GQ,GF,Gp,Ny,Int.reduceLT,Int.reduceLE,Int.reduceBEq,d9,dh,Ht,Ey,Jj,Lb,JT,Hc,EM,HG,FP,OY,MK,MI,KK,Jw,Lw, *])
namespace Q
open L2
open PySem (sizeLine Addr)
def Os:D->Bool
 |.int _=>true
 |_=>false
noncomputable def CQ:List D->R D
 | [.exc _]=>.no
 | [.dct _ _]=>.no
 | [d]=>.ok (.bl (Os d))
 |_=>.no
noncomputable def ji:Ev->O:=(ax (bS (me (av (gj isInt) (rvz 0)) (Jo (av (gj (·=="bool")) (rvz 0))))) oNx)
def vX:∀ds:List D,ds.length=1->CQ ds=.no\/ar (ji  (ao 1 ds))=CQ ds:=by
 intro ds hl
 match ds,hl with
 | [d],_=>cases d <;> first|exact Or.inr rfl|exact Or.inl rfl
noncomputable def inB(d:D)(lo hi:Int):Bool:=match d with
 |.int i=>decide (lo<=i) && decide (i<=hi)
 |_=>false
noncomputable def yY:List D->R D
 | [.exc _,_,_]=>.no
 | [.dct _ _,_,_]=>.no
 | [d,.int lo,.int hi]=>.ok (.bl (inB d lo hi))
 |_=>.no
noncomputable def iz(gP:List D->R D):Ev->O:=(ax (bS (me (aA 1 gP (ac (rvz 0) nlz)) (g3 leD leD (rvz 1) (rvz 0) (rvz 2)))) oNx)
def tH:∀ds:List D,ds.length=3->yY ds=.no\/ar (iz CQ (ao 3 ds))=yY ds:=by
 intro ds hl
 match ds,hl with
 | [d,l,h],_=>
  cases d <;> first|exact Or.inl rfl|skip
  all_goals (cases l <;> first|exact Or.inl rfl|skip)
  all_goals (cases h <;> first|exact Or.inl rfl|skip)
  all_goals first|exact Or.inr rfl|skip
  rename_i i lo hi hl;refine Or.inr ?_;show ar (ax _ oNx [some (.val (.int i)),some (.val (.int lo)),some (.val (.int hi))])=R.ok (D.bl (inB (.int i) lo hi));by_cases h1:lo<=i <;> simp[ax,bS,me,aA,ac,g3,rdV,CQ,Os,asB,leD,inB,ar,O.seq,h1]
noncomputable def plain(x:List Nat):Bool:=x.all λc=>decide (32<=c) && decide (c<=126)
def PX:D->Bool
 |.str x=>plain x
 |_=>false
noncomputable def ir:List D->R D
 | [.exc _]=>.no
 | [.dct _ _]=>.no
 | [.str x]=>if x.length<=sizeLine then .ok (.bl (plain x))else .no
 | [d]=>.ok (.bl false)
 |_=>.no
noncomputable def jj:Ev->O:=(ax (bS (me (av (gj (·=="str")) (rvz 0)) (gOf CB (ac (bf (dS (av bz (rvz 0)) [] (λ_=>R.ok true) (g3 leD leD (csz [32]) (rvz 0) (csz [126])))) nlz)))) oNx)
def wD:∀ds:List D,ds.length=1->ir ds=.no\/ar (jj  (ao 1 ds))=ir ds:=by
 intro ds hl
 match ds,hl with
 | [d],_=>
  cases d <;> first|exact Or.inl rfl|exact Or.inr rfl|skip
  rename_i x hl;by_cases hx:x.length<=sizeLine
  ·refine Or.inr ?_;have e:dI (λ_=>R.ok true) (g3 leD leD (λ_=>.ok (.str [32])) (rvz 0) (λ_=>.ok (.str [126]))) (x.map λc=>D.str [c]) [none]=.ok ((x.map λc=>D.str [c]).map λd=>.bl (match d with|.str [c]=>decide (32<=c) && decide (c<=126)|_=>false)):=by
    refine jl _ [] _ none λd m=>⟨rfl,?_⟩
    obtain⟨c,_,rfl⟩:=wU.1 m;show(ofO (some (D.bl (!decide (([c]:List Nat)<[32]))))>>=λz=>match z with
     |.bl true=>ofO (some (D.bl (!decide (([126]:List Nat)<[c]))))
     |.bl false=>R.ok (D.bl false)
     |_=>R.no:R D)=_;rw[BH,BH,cF,R.ok_bind];cases h1:decide (32<=c) <;> simp[h1]
   have e2:ir [.str x]=.ok (.bl (plain x)):=if_pos hx;rw[e2];show ar (ax _ oNx [some (.val (.str x))])=_;simp only[ax,bS,me,av,gOf,ac,bf,dS,rd0,fU,bz,R.ok_bind,n9];simp only[e];simp only[zy,hx,vP,R.ok_bind,sJ,List.all_map];rfl
  ·exact Or.inl (if_neg hx)
noncomputable def Ir:D->Bool
 |.exc _=>false
 |.dct _ _=>false
 |.str x=>decide (x.length<=sizeLine)
 |_=>true
noncomputable def pV(d:D)(wd:Int):Bool:=match d with
 |.str x=>plain x && ((x.length:Int)==wd)
 |_=>false
noncomputable def vi(d:D)(wd:Int):Bool:=match d with
 |.tup xs=>decide (1<=xs.length) && decide (xs.length<=12) && xs.all λr=>pV r wd
 |_=>false
noncomputable def Bt:List D->R D
 | [.exc _,_]=>.no
 | [.dct _ _,_]=>.no
 | [.tup xs,.int wd]=>if xs.all Ir=true then .ok (.bl (vi (.tup xs) wd))else .no
 | [d,.int wd]=>.ok (.bl false)
 |_=>.no
def qv(h:Ir d=true):ir [d]=.ok (.bl (PX d)):=by
 cases d <;> first|rfl|(cases h;done)|skip
 exact if_pos (bY h)
noncomputable def er(bE:List D->R D):Ev->O:=(ax (oIf (jY (gBn (av iV (av (gj (·=="tuple")) (rvz 0)))) (gBn (gB3 leD leD (ciz 1) (gOf de (ac (rvz 0) nlz)) (ciz 12)))) (ax (bS (λ_=>R.ok (D.bl false))) oNx) oNx) (ax (bS (gOf CB (ac (bf (dS (av bz (rvz 0)) [1] (λ_=>R.ok true) (me (aA 1 bE (ac (rvz 0) nlz)) (g2 eqF (gOf de (ac (rvz 0) nlz)) (rvz 1))))) nlz))) oNx))
def mB:∀ds:List D,ds.length=2->Bt ds=.no\/ar (er ir (ao 2 ds))=Bt ds:=by
 intro ds hl
 match ds,hl with
 | [d,l],_=>
  cases d <;> first|exact Or.inl rfl|skip
  all_goals (cases l <;> first|exact Or.inl rfl|exact Or.inr rfl|skip)
  rename_i xs wd hl;by_cases hf:xs.all Ir=true
  ·refine Or.inr ?_;have e2:Bt [.tup xs,.int wd]=.ok (.bl (vi (.tup xs) wd)):=if_pos hf;rw[e2];have e:dI (λ_=>R.ok true) (me (aA 1 ir (ac (rvz 0) λx=>R.ok [])) (g2 eqF (gOf de (ac (rvz 0) λx=>R.ok [])) λρ=>rdV ρ 1)) xs [none,some (.val (.int wd))]=.ok (xs.map λd=>.bl (pV d wd)):=by
    refine jl _ [some (.val (.int wd))] xs none λd m=>⟨rfl,?_⟩
    have hd:=xp.1 hf d m;simp only[me,aA,ac,rd0,R.ok_bind,qv hd];cases d <;> first|rfl|skip
    rename_i x;show(if plain x=true then R.ok (D.bl ((x.length:Int)==wd))else R.ok (.bl false))=R.ok (.bl (plain x && ((x.length:Int)==wd)));cases plain x <;> rfl
   show ar (ax _ _ [some (.val (.tup xs)),some (.val (.int wd))])=_;have i2:fU [1] [some (.val (.tup xs)),some (.val (.int wd))]=[none,some (.val (.int wd))]:=rfl;have t1:gj (λx=>x=="tuple") (.tup xs)=.ok (.bl true):=rfl;have t2:iV (.bl true)=.ok true:=rfl;have t3:de [.tup xs]=some (.int xs.length):=rfl;simp only[ax,oIf,jY,gBn,av,gB3,g3,bS,gOf,ac,rd0,R.ok_bind,t1,t2,t3,leD];by_cases h1:1<=xs.length
   ·have h1':(1:Int)<=(xs.length:Int):=by omega
    by_cases h2:xs.length<=12
    ·have h2':(xs.length:Int)<=12:=by omega
     have h3:xs.length<=sizeLine:=wt h2 (by decide);simp[h1,h1',h2,h2',asB,oNx,ar,vi];simp only[ax,bS,gOf,ac,bf,dS,av,rd0,R.ok_bind,bz,i2,e,zy,h3,vP,sJ,cF,R.ok_out,O.seq]
    ·have h2' : ¬ (xs.length:Int)<=12:=by omega
     simp[h1',h2,h2',asB,O.seq,ar,vi]
   ·have h1' : ¬ (1:Int)<=(xs.length:Int):=by omega
    simp[h1,h1',asB,O.seq,ar,vi]
  ·exact Or.inl (if_neg hf)
noncomputable def pU(d:D)(wd m:Int):Bool:=match d with
 |.tup [a,b]=>inB a 0 (m - 1) && inB b 0 wd
 |_=>false
def zd:D->Bool
 |.exc _=>false
 |.dct _ _=>false
 |_=>true
noncomputable def qx:List D->R D
 | [.exc _,_,_]=>.no
 | [.dct _ _,_,_]=>.no
 | [.tup xs,.int wd,.int m]=>if xs.all zd=true then .ok (.bl (pU (.tup xs) wd m))else .no
 | [d,.int wd,.int m]=>.ok (.bl false)
 |_=>.no
def fu{lo hi:Int}(h:zd d=true):yY [d,.int lo,.int hi]=.ok (.bl (inB d lo hi)):=by cases d <;> first|rfl|(cases h;done)
noncomputable def jn(bd:List D->R D):Ev->O:=(ax (oIf (jY (gBn (av iV (av (gj (·=="tuple")) (rvz 0)))) (gB2 neF (gOf de (ac (rvz 0) nlz)) (ciz 2))) (ax (bS (λ_=>R.ok (D.bl false))) oNx) oNx) (ax (bS (me (aA 3 bd (ac (g2 ixD (rvz 0) (ciz 0)) (ac (ciz 0) (ac (g2 tq (rvz 2) (ciz 1)) nlz)))) (aA 3 bd (ac (g2 ixD (rvz 0) (ciz 1)) (ac (ciz 0) (ac (rvz 1) nlz)))))) oNx))
def wK:∀ds:List D,ds.length=3->qx ds=.no\/ar (jn yY (ao 3 ds))=qx ds:=by
 intro ds hl
 match ds,hl with
 | [d,l,h],_=>
  cases d <;> first|exact Or.inl rfl|skip
  all_goals (cases l <;> first|exact Or.inl rfl|skip)
  all_goals (cases h <;> first|exact Or.inl rfl|exact Or.inr rfl|skip)
  rename_i xs wd m hl;by_cases hf:xs.all zd=true
  ·refine Or.inr ?_;have e2:qx [.tup xs,.int wd,.int m]=.ok (.bl (pU (.tup xs) wd m)):=if_pos hf;rw[e2]
   match xs,hf with
   | [],_=>rfl
   | [_],_=>rfl
   | [a,b],hf=>have ha:=xp.1 hf a (by simp);have hb:=xp.1 hf b (by simp);show ar ((me (λ_=>yY [a,.int 0,.int (m - 1)]) (λ_=>yY [b,.int 0,.int wd]) []).out _ .rt |>.seq oNx)=_;rw[me,fu ha,fu hb];show ar ((if inB a 0 (m - 1)=true then R.ok (D.bl (inB b 0 wd))else R.ok (D.bl false)).out _ .rt |>.seq oNx)=R.ok (D.bl (inB a 0 (m - 1) && inB b 0 wd));cases inB a 0 (m - 1) <;> rfl
   |a::b::c::l,_=>rfl
  ·exact Or.inl (if_neg hf)
noncomputable def jN:D->Bool
 |.exc _=>false
 |.dct _ _=>false
 |.tup [w,r,p]=>zd w && (match r with|.exc _=>false|.dct _ _=>false|.tup xs=>xs.all Ir|_=>true) && (match p with|.exc _=>false|.dct _ _=>false|.tup xs=>xs.all zd|_=>true)
 |_=>true
noncomputable def screen:D->Bool
 |.tup [a,r,p]=>match a with
  |.int wd=>inB (.int wd) 1 40 && vi r wd && (match r with|.tup rows=>pU p wd rows.length|_=>false)
  |_=>false
 |_=>false
noncomputable def fL:List D->R D
 | [d]=>if jN d=true then .ok (.bl (screen d))else .no
 |_=>.no
noncomputable def iP(bd cU ia:List D->R D):Ev->O:=(ax (oIf (jY (gBn (av iV (av (gj (·=="tuple")) (rvz 0)))) (gB2 neF (gOf de (ac (rvz 0) nlz)) (ciz 3))) (ax (bS (λ_=>R.ok (D.bl false))) oNx) oNx) (ax (cN 1 (g2 ixD (rvz 0) (ciz 0))) (ax (oIf (jY (gBn (av iV (aA 3 bd (ac (rvz 1) (ac (ciz 1) (ac (ciz 40) nlz)))))) (gBn (av iV (aA 2 cU (ac (g2 ixD (rvz 0) (ciz 1)) (ac (rvz 1) nlz)))))) (ax (bS (λ_=>R.ok (D.bl false))) oNx) oNx) (ax (bS (aA 3 ia (ac (g2 ixD (rvz 0) (ciz 2)) (ac (rvz 1) (ac (gOf de (ac (g2 ixD (rvz 0) (ciz 1)) nlz)) nlz))))) oNx))))
def ur:∀ds:List D,ds.length=1->fL ds=.no\/ar (iP yY Bt qx (ao 2 ds))=fL ds:=by
 intro ds hl
 match ds,hl with
 | [d],_=>
  cases d <;> first|exact Or.inl rfl|exact Or.inr rfl|skip
  rename_i xs hl
  match xs with
  | []=>exact Or.inr rfl
  | [_]=>exact Or.inr rfl
  | [_,_]=>exact Or.inr rfl
  |a::b::c::e::l=>refine Or.inr ?_;rfl
  | [a,r,p]=>
   by_cases hf:jN (.tup [a,r,p])=true
   ·refine Or.inr ?_;have e2:fL [.tup [a,r,p]]=.ok (.bl (screen (.tup [a,r,p]))):=if_pos hf;rw[e2];simp only[jN,xf]at hf;obtain⟨⟨ha,hr⟩,hp⟩:=hf;show ar (ax _ _ [some (.val (.tup [a,r,p])),none])=_;have t1:gj (λx=>x=="tuple") (.tup [a,r,p])=.ok (.bl true):=rfl;have t2:∀k,iV (.bl k)=.ok k:=λ_=>rfl;have t3:de [.tup [a,r,p]]=some (.int 3):=rfl;have t4:neF (.int 3) (.int 3)=some (.bl false):=rfl;have x0:ixD (.tup [a,r,p]) (.int 0)=some a:=rfl;have x1:ixD (.tup [a,r,p]) (.int 1)=some r:=rfl;have s1:([some (.val (.tup [a,r,p])),none]:Ev).set 1 (some (.val a))=[some (.val (.tup [a,r,p])),some (.val a)]:=rfl;simp only[ax,oIf,cN,jY,gBn,av,gB2,g2,gOf,ac,rd0,rd1,R.ok_bind,R.ok_out,t1,t2,t3,t4,x0,x1,s1,Cd,ud,cF,asB,oNx,O.seq,j4,nA,ue,fu ha];cases hi:inB a 1 40 with
    |false=>
     have:screen (.tup [a,r,p])=false:=by
      cases a <;> first|rfl|skip
      simp only[screen,hi,Z5]
     rw[this];rfl
    |true=>
     cases a <;> first|(cases hi;done)|skip
     rename_i i;have e3:Bt [r,.int i]=.ok (.bl (vi r i)):=by cases r <;> first|rfl|(cases hr;done)|exact if_pos hr
     cases hq:vi r i with
     |false=>
      have:screen (.tup [.int i,r,p])=false:=by simp only[screen,hq,d7,Z5]
      rw[e3,hq,this];rfl
     |true=>
      cases r <;> first|(cases hq;done)|skip
      rename_i rows;have e4:qx [p,.int i,.int rows.length]=.ok (.bl (pU p i rows.length)):=by cases p <;> first|rfl|(cases hp;done)|exact if_pos hp
      have e5:screen (.tup [.int i,.tup rows,p])=pU p i rows.length:=by simp only[screen,hi,hq,k8]
      rw[e3,hq,e5];show ar ((qx [p,.int i,.int rows.length]).out _ .rt |>.seq _)=_;rw[e4];rfl
   ·exact Or.inl (if_neg hf)
noncomputable def oN:List D->Option (List Int)
 | []=>some []
 |.int i::ds=>(oN ds).map (i::·)
 |_=>none
theorem rT:∀{ds:List D}{ns:List Int},oN ds=some ns->ds=ns.map .int
 | [],ns,h=>by cases h;rfl
 |d::ds,ns,h=>by
  cases d <;> first|(cases h;done)|skip
  cases q:oN ds with
  |none=>simp[oN,q]at h
  |some ms=>simp[oN,q]at h;subst h;rw[rT q];rfl
theorem oZ:∀ns:List Int,oN (ns.map .int)=some ns
 | []=>rfl
 |i::ns=>by simp[oN,oZ ns]
noncomputable def cell(ns:List Int)(k:Nat):Int:=if k<ns.length then ns.getD k 0 else if ns.length=0 then 0 else ns.getD (k % ns.length) 0 * 31+k
def yq{ns:List Int}(h:k<ns.length):atI (ns.map D.int) (k:Int)=some (.int (ns.getD k 0)):=by
 have e:ixN (ns.map D.int).length (k:Int)=some k:=by
  simp[ixN]
  try omega
 rw[atI,e];simp[h]
def tfr{n:Nat}:∀ds:List D,ds.length=n->F ds=.no\/F ds=F ds:=λ_ _=>.inr rfl
noncomputable def eM:Ev->O:=(ax (oIf (gB2 ltD (rvz 1) (gOf de (ac (rvz 0) nlz))) (ax (bS (g2 ixD (rvz 0) (rvz 1))) oNx) oNx) (ax (oIf (gB2 eqF (rvz 0) (bf (jU nlz))) (ax (bS (ciz 0)) oNx) oNx) (ax (bS (g2 bv (g2 fq (g2 ixD (rvz 0) (g2 yF (rvz 1) (gOf de (ac (rvz 0) nlz)))) (ciz 31)) (rvz 1))) oNx)))
def Df:List D->R D:=λds=>ar (eM (ao 2 ds))
def Cz{ns:List Int}{n:Nat}:Df [.lst fz (ns.map .int),.int n]=.ok (.int (cell ns n)):=by
 show ar (eM [some (.val (.lst fz (ns.map .int))),some (.val (.int n))])=_;unfold eM;have t3:de [.lst fz (ns.map .int)]=some (.int ns.length):=by simp[de]
 by_cases h1:n<ns.length
 ·have h1':(n:Int)<(ns.length:Int):=by omega
  have x1:ixD (.lst fz (ns.map .int)) (.int n)=some (.int (ns.getD n 0)):=yq h1;simp only[ax,oIf,gB2,g2,bS,gOf,ac,rd0,rd1,R.ok_bind,R.ok_out,t3,x1,cF,ltD,asB,h1',d9,vP,O.seq,ar,cell,h1]
 ·have h1' : ¬ (n:Int)<(ns.length:Int):=by omega
  cases ns with
  |nil=>rfl
  |cons a as=>
   have t4:eqF (.lst fz ((a::as).map .int)) (.lst false [])=some (.bl false):=rfl;have h2:n % (a::as).length<(a::as).length:=Nat.mod_lt _ (by simp);have x1:ixD (.lst fz ((a::as).map .int)) (.int ((n % (a::as).length:Nat):Int))=some (.int ((a::as).getD (n % (a::as).length) 0)):=yq h2;have m1:yF (.int n) (.int (a::as).length)=some (.int ((n % (a::as).length:Nat):Int)):=by
    have:(0:Int)<((a::as).length:Int):=by simp
    simp only[yF,this,vP];rw[Int.natCast_emod]
   have m2:∀z:Int,fq (.int z) (.int 31)=some (.int (z * 31)):=λz=>if_pos (Or.inr (by decide));have z1:(0:Nat)<=sizeLine:=wA _;have z2 : ¬ (a::as).length=0:=by simp
   simp only[ax,oIf,gB2,g2,bS,gOf,ac,bf,jU,rd0,rd1,R.ok_bind,R.ok_out,t3,t4,x1,m1,m2,cF,ltD,bv,asB,h1',dh,nA,ue,O.seq,oNx,ar,cell,h1,pw,z1,vP,z2]
noncomputable def drawn(ns:List Int)(k:Nat):Int:=(cell ns k+6151 * ((k:Int)+1)) * 40692 % 2147483399
noncomputable def bP(ns:List Int)(k:Nat)(m:Int):Int:=(drawn ns k * drawn ns k+drawn ns k / 31) % 2147483629 % m
def br(ns:List Int)(k:Nat){m:Int}(h:0<m):0<=bP ns k m/\bP ns k m<m:=⟨Int.emod_nonneg _ (by omega),Int.emod_lt_of_pos _ h⟩
noncomputable def eK(fC:List D->R D):Ev->O:=(ax (cN 3 (g2 yF (g2 fq (g2 bv (aA 2 fC (ac (rvz 0) (ac (rvz 1) nlz))) (g2 fq (ciz 6151) (g2 bv (rvz 1) (ciz 1)))) (ciz 40692)) (ciz 2147483399))) (ax (bS (g2 yF (g2 yF (g2 bv (g2 fq (rvz 3) (rvz 3)) (g2 DN (rvz 3) (ciz 31))) (ciz 2147483629)) (rvz 2))) oNx))
def cb:List D->R D:=λds=>ar (eK Df (ao 4 ds))
def bV{ns:List Int}{n:Nat}{m:Int}(hm:0<m):cb [.lst fz (ns.map .int),.int n,.int m]=.ok (.int (bP ns n m)):=by
 show ar (eK Df [some (.val (.lst fz (ns.map .int))),some (.val (.int n)),some (.val (.int m)),none])=_;unfold eK;have m1:∀z:Int,fq (.int 6151) (.int z)=some (.int (6151 * z)):=λz=>by show(if ((-(2 ^ 64):Int)<6151/\(6151:Int)<2 ^ 64)\/((-(2 ^ 64):Int)<z/\z<2 ^ 64)then some (D.int (6151 * z))else none)=_;exact if_pos (Or.inl (by decide))
 have m2:∀z:Int,fq (.int z) (.int 40692)=some (.int (z * 40692)):=λz=>if_pos (Or.inr (by decide));have m3:∀z:Int,yF (.int z) (.int 2147483399)=some (.int (z % 2147483399)):=λz=>by show(if (0:Int)<2147483399 then some (D.int (z % 2147483399))else none)=_;exact if_pos (by decide)
 have m4:∀z:Int,yF (.int z) (.int 2147483629)=some (.int (z % 2147483629)):=λz=>by show(if (0:Int)<2147483629 then some (D.int (z % 2147483629))else none)=_;exact if_pos (by decide)
 have m5:∀z:Int,yF (.int z) (.int m)=some (.int (z % m)):=λz=>if_pos hm;have m6:∀z:Int,DN (.int z) (.int 31)=some (.int (z / 31)):=λz=>by show(if (0:Int)<31/\(31:Int)<1073741824 then some (D.int (z / 31))else none)=_;exact if_pos (by decide)
 have m7:∀i j:Int,bv (.int i) (.int j)=some (.int (i+j)):=λ_ _=>rfl;have hd:0<=drawn ns n/\drawn ns n<2147483399:=⟨Int.emod_nonneg _ (by decide),Int.emod_lt_of_pos _ (by decide)⟩
 have m8:fq (.int (drawn ns n)) (.int (drawn ns n))=some (.int (drawn ns n * drawn ns n)):=if_pos (Or.inl (by omega));have s1:∀v,([some (.val (.lst fz (ns.map .int))),some (.val (.int n)),some (.val (.int m)),none]:Ev).set 3 v=[some (.val (.lst fz (ns.map .int))),some (.val (.int n)),some (.val (.int m)),v]:=λ_=>rfl;have q1:(cell ns n+6151 * ((n:Int)+1)) * 40692 % 2147483399=drawn ns n:=rfl;simp only[ax,cN,bS,g2,Cd,rd0,rd1,rd2,rd3,R.ok_bind,R.ok_out,Cz,m1,m2,m3,m4,m5,m6,m7,cF,O.seq,s1,q1,m8,ar,bP]
def HK:D->Bool
 |.str [c]=>!(decide (32<=c) && decide (c<=126))
 |_=>false
theorem uV:∀x:List Nat,((x.map λc=>D.str [c]).filter HK).isEmpty=plain x
 | []=>rfl
 |c::x=>by
  have ih:=uV x;rw[xk,plain,o5];cases h:(decide (32<=c) && decide (c<=126))with
  |true=>rw[dq (by simp only[HK,h];decide),ih,k8];rfl
  |false=>rw[dj (by simp only[HK,h];rfl)];rfl
def Kz(ys:List D):eqF (.lst false ys) (.lst false [])=some (.bl ys.isEmpty):=by cases ys <;> rfl
theorem BE(f:D->Bool):∀xs:List D,(xs.filter λd=>!f d).isEmpty=xs.all f
 | []=>rfl
 |x::xs=>by
  have ih:=BE f xs;rw[o5];cases h:f x with
  |true=>rw[dq (by simp[h]),ih,k8]
  |false=>rw[dj (by simp[h])];rfl
def Je(ys:List D):neF (.lst false ys) (.lst false [])=some (.bl (!ys.isEmpty)):=by cases ys <;> rfl
noncomputable def kX(C:Addr):List D->R D
 | [d]=>if jN d=true then (if screen d=true then .ok .non else .ex C)else .no
 |_=>.no
noncomputable def eV(fN:List D->R D)(aq:Addr):Ev->O:=(ax (oIf (gBn (av iV (aA 1 fN (ac (rvz 0) nlz)))) (ax (ml aq (ac (csz [116,104,105,115,32,105,115,32,110,111,32,115,99,114,101,101,110]) nlz)) oNx) oNx) oNx)
def pb:∀ds:List D,ds.length=1->kX C ds=.no\/ar (eV fL C (ao 1 ds))=kX C ds:=by
 intro ds hl
 match ds,hl with
 | [d],_=>
  by_cases hf:jN d=true;·refine Or.inr ?_;have e1:fL [d]=.ok (.bl (screen d)):=if_pos hf;have e2:kX C [d]=if screen d=true then .ok .non else .ex C:=if_pos hf;rw[e2];show ar (ax _ _ [some (.val d)])=_;simp only[ax,oIf,gBn,av,Ac,rd0,R.ok_bind,e1];cases screen d <;> rfl
  ·exact Or.inl (if_neg hf)
def Gb{α:Type}(n:Nat)(x:α):(List.replicate n [x]).flatten=List.replicate n x:=by
 induction n with
 |zero=>rfl
 |succ n ih=>rw[mE,j8,ih];rfl
noncomputable def sgn(ns:List Int)(k:Nat):Nat:=([32,32,97,98,35]:List Nat).getD (bP ns k 5).toNat 0
def Ll(ns:List Int)(k:Nat):ixD (.str [32,32,97,98,35]) (.int (bP ns k 5))=some (.str [sgn ns k]):=by
 have h:=br ns k (m:=5) (by decide);unfold sgn;generalize bP ns k 5=v at h;have:v=0\/v=1\/v=2\/v=3\/v=4:=by omega
 rcases this with rfl|rfl|rfl|rfl|rfl <;> rfl
def AV(ns:List Int)(k:Nat):32<=sgn ns k/\sgn ns k<=126:=by
 have h:=br ns k (m:=5) (by decide);unfold sgn;generalize bP ns k 5=v at h;have:v=0\/v=1\/v=2\/v=3\/v=4:=by omega
 rcases this with rfl|rfl|rfl|rfl|rfl <;> decide
noncomputable def Dc:Ev->O:=ax (cN 3 (g2 bv (rvz 3) (g2 ixD (λx=>R.ok (D.str [32,32,97,98,35])) (aA 3 cb (ac (rvz 0) (ac (g2 bv (g2 bv (rvz 1) λx=>R.ok (D.int 1)) λρ=>rdV ρ 4) (ac (λx=>R.ok (D.int 5)) λx=>R.ok []))))))) oNx
theorem xM(ns:List Int)(fz:Bool)(a:Nat)(W:Option Sl):∀(ks:List Nat)(x:List Nat)(kk:Option Sl),x.length+ks.length<=sizeLine->
  ∃kk',cO (jz 4) Dc (ks.map λi=>D.int (0+(i:Nat))) [some (.val (.lst fz (ns.map .int))),some (.val (.int a)),W,some (.val (.str x)),kk,none]=.nx [some (.val (.lst fz (ns.map .int))),some (.val (.int a)),W,some (.val (.str (x++ks.map λk=>sgn ns (a+1+k)))),kk',none]
 | [],x,kk,_=>⟨kk,by simp[cO]⟩
 |k::ks,x,kk,h=>by
  have h':(x++[sgn ns (a+1+k)]).length+ks.length<=sizeLine:=by simp at h⊢;omega
  obtain⟨kk',ih⟩:=xM ns fz a W ks (x++[sgn ns (a+1+k)]) (some (.val (.int (0+(k:Nat))))) h';refine⟨kk',?_⟩;have hx:x.length+1<=sizeLine:=by simp at h;omega
  have c1:((a:Int)+1+(0+(k:Int)))=((a+1+k:Nat):Int):=by omega
  have p5:∀n:Nat,cb [.lst fz (ns.map .int),.int n,.int 5]=.ok (.int (bP ns n 5)):=λn=>bV (by decide);have m7:∀i j:Int,bv (.int i) (.int j)=some (.int (i+j)):=λ_ _=>rfl;have m8:bv (.str x) (.str [sgn ns (a+1+k)])=some (.str (x++[sgn ns (a+1+k)])):=if_pos hx;have hB:Dc [some (.val (.lst fz (ns.map .int))),some (.val (.int a)),W,some (.val (.str x)),some (.val (.int (0+(k:Nat)))),none]=.nx [some (.val (.lst fz (ns.map .int))),some (.val (.int a)),W,some (.val (.str (x++[sgn ns (a+1+k)]))),some (.val (.int (0+(k:Nat)))),none]:=by simp only[Dc,ax,cN,g2,ud,rd0,rd1,rd3,rd4,R.ok_bind,m7,c1,p5,Ll,m8,cF];rfl
  show(match Dc [some (.val (.lst fz (ns.map .int))),some (.val (.int a)),W,some (.val (.str x)),some (.val (.int (0+(k:Nat)))),none]with
   |.nx ρ2=>cO (jz 4) Dc _ ρ2
   |.ct ρ2=>cO (jz 4) Dc _ ρ2
   |.bk ρ2=>O.nx ρ2
   |.rt d=>O.rt d
   |.re d ρ2=>.re d ρ2
   |.ex C ρ2=>O.ex C ρ2
   |.no=>O.no)=_;rw[hB];simp only[xk];rw[ih,tV];rfl
def Ds{α:Type}(xs:List α)(l:Nat)(h:l<=xs.length):jJ xs none (some (l:Int))=xs.take l:=by
 have h1:HT.sIx xs.length 0 none=0:=rfl;have h2:HT.sIx xs.length xs.length (some (l:Int))=l:=by
  simp only[HT.sIx]
  first|omega|(split <;> omega)
 unfold jJ;rw[h1,h2];simp
noncomputable def ze(ns:List Int)(a wd:Nat):List Nat:=
 if bP ns (a+20) 2=0 then (List.range wd).map λk=>sgn ns (a+1+k)else ((List.range wd).map λk=>sgn ns (a+1+k)).take (bP ns a (wd+1)).toNat++List.replicate (wd - (bP ns a (wd+1)).toNat) 32
def pG(ns:List Int)(a wd:Nat):(ze ns a wd).length=wd:=by
 unfold ze;split;·simp
 ·simp;omega
def qp(ns:List Int)(a wd:Nat):plain (ze ns a wd)=true:=by
 have hm:∀c∈(List.range wd).map (λk=>sgn ns (a+1+k)),32<=c/\c<=126:=by intro c hc;obtain⟨k,_,rfl⟩:=wU.1 hc;exact AV ns _
 unfold plain;rw[xp];intro c hc;have:32<=c/\c<=126:=by
  unfold ze at hc;split at hc;·exact hm c hc
  ·rcases uF.1 hc with q|q;·exact hm c (l4 q)
   ·have:=(Zu.1 q).2;omega
 simp[this.1,this.2]
def BL{wd:Nat}(h:wd<=100):bC [.int (wd:Int)]=.ok ((List.range wd).map λi=>D.int (0+(i:Nat))):=by
 have e:bC [.int (wd:Int)]=if -(2 ^ 62)<=(wd:Int)/\(wd:Int)<2 ^ 62 then .ok ((List.range (wd:Int).toNat).map λi=>D.int (0+(i:Nat)))else .no:=by simp only[bC]
 rw[e,if_pos (by constructor <;> omega),vN]
def NL{ns:List Int}{a:Nat}:cb [.lst fz (ns.map .int),.int ((a+20:Nat):Int),.int 2]=.ok (.int (bP ns (a+20) 2)):=bV (by decide)
noncomputable def Oi(pk:List D->R D):Ev->O:=ax (cN 5 (aA 3 pk (ac (rvz 0) (ac (rvz 1) (ac (g2 bv (rvz 2) λx=>R.ok (D.int 1)) λx=>R.ok [])))))
 (ax (bS (gIf (gB2 eqF (aA 3 pk (ac (rvz 0) (ac (g2 bv (rvz 1) λx=>R.ok (D.int 20)) (ac (λx=>R.ok (D.int 2)) λx=>R.ok [])))) λx=>R.ok (D.int 0)) (rvz 3)
  (g2 bv (gSl (rvz 3) (λx=>R.ok none) (fm λρ=>rdV ρ 5)) (g2 fq (λx=>R.ok (D.str [32])) (g2 tq (rvz 2) λρ=>rdV ρ 5))))) oNx)
def B7{n:Nat}(h:n<=100):fq (.str [32]) (.int (n:Int))=some (.str (List.replicate n 32)):=by
 have hz:(100:Nat)<=sizeLine:=by decide
 have e:[32]=[32]:=rfl;rw[e,<- Gb n 32];simp only[fq];rw[if_pos (by refine⟨by omega,by omega,?_⟩;simp;omega),vN]
def FU(pk:List D->R D)(S:D)(a wd l:Nat)(z:Int)(x:List Nat)(kk:Option Sl)(h1:pk [S,.int a,.int ((wd:Int)+1)]=.ok (.int (l:Int)))(h2:pk [S,.int ((a:Int)+20),.int 2]=.ok (.int z))(hx:x.length=wd)(hw:wd<=100)(hl:l<=wd):
  Oi pk [some (.val S),some (.val (.int a)),some (.val (.int wd)),some (.val (.str x)),kk,none]=.rt (.str (if z=0 then x else x.take l++List.replicate (wd - l) 32)):=by
 have c1:(wd:Int) - (l:Int)=((wd - l:Nat):Int):=by omega
 have m1:fq (.str [32]) (.int ((wd - l:Nat):Int))=some (.str (List.replicate (wd - l) 32)):=B7 (by omega);have m2:bv (.str (x.take l)) (.str (List.replicate (wd - l) 32))=some (.str (x.take l++List.replicate (wd - l) 32)):=su (by have:=aW;simp;omega);have m3:=qa x l;unfold Oi
 walk_at "run"
 by_cases hz:z=0;·simp only[hz,vP,pc,R.ok_out,MG]
 ·have:(z==0)=false:=by simp[hz]
  simp only[hz,this,ue,nA,R.ok_out,MG]
noncomputable def zG(aj:List D->R D):Ev->O:=(ax (cN 3 (g2 bv (rvz 3) (g2 ixD (csz [32,32,97,98,35]) (aA 3 aj (ac (rvz 0) (ac (g2 bv (g2 bv (rvz 1) (ciz 1)) (rvz 4)) (ac (ciz 5) nlz))))))) oNx)
noncomputable def kM(aj:List D->R D):Ev->O:=(ax (cN 3 (csz [])) (ax (pN (jz 4) (av bC (ac (rvz 2) nlz)) (zG aj)) (ax (cN 5 (aA 3 aj (ac (rvz 0) (ac (rvz 1) (ac (g2 bv (rvz 2) (ciz 1)) nlz))))) (ax (bS (gIf (gB2 eqF (aA 3 aj (ac (rvz 0) (ac (g2 bv (rvz 1) (ciz 20)) (ac (ciz 2) nlz)))) (ciz 0)) (rvz 3) (g2 bv (gSl (rvz 3) (λ_=>R.ok none) (fm (rvz 5))) (g2 fq (csz [32]) (g2 tq (rvz 2) (rvz 5)))))) oNx))))
def Fx:List D->R D:=λds=>ar (kM cb (ao 6 ds))
def xZ{ns:List Int}{a wd:Nat}(hw3:wd<=100):Fx [.lst fz (ns.map .int),.int (a:Int),.int (wd:Int)]=.ok (.str (ze ns a wd)):=by
 show ar (ax (cN 3 (csz [])) (ax (pN (jz 4) (av bC (ac (rvz 2) λ_=>R.ok [])) Dc) (Oi cb)) [some (.val (.lst fz (ns.map .int))),some (.val (.int a)),some (.val (.int wd)),none,none,none])=_;obtain⟨kk',hL⟩:=xM ns fz a (some (.val (.int wd))) (List.range wd) [] none (by have:=aW;simp;omega);have s2:pN (jz 4) (av bC (ac (rvz 2) λ_=>R.ok [])) Dc [some (.val (.lst fz (ns.map .int))),some (.val (.int a)),some (.val (.int wd)),some (.val (.str [])),none,none]=.nx [some (.val (.lst fz (ns.map .int))),some (.val (.int a)),some (.val (.int wd)),some (.val (.str ([]++(List.range wd).map λk=>sgn ns (a+1+k)))),kk',none]:=by rw[JN,BV,ka,show ∀i ρ,rvz i ρ=rdV ρ i from λ_ _=>rfl,rd2,R.ok_bind,R.ok_bind,R.ok_bind,BL hw3,R.ok_out];exact hL
 have hp:=br ns a (m:=(wd:Int)+1) (by omega);have s3:=FU cb (.lst fz (ns.map .int)) a wd (bP ns a ((wd:Int)+1)).toNat (bP ns (a+20) 2) ([]++(List.range wd).map λk=>sgn ns (a+1+k)) kk'
  (by rw[mY hp.1];exact bV (by omega)) (by exact NL) (by simp) hw3 (by omega);rw[ng,zw,R.ok_out,Db,ng];show ar ((pN (jz 4) _ Dc [some (.val (.lst fz (ns.map .int))),some (.val (.int a)),some (.val (.int wd)),some (.val (.str [])),none,none]).seq _)=_;rw[s2,Db,s3,OI];unfold ze;rw[p8]
noncomputable def zT(ns:List Int)(a wd m:Nat):List D:=(List.range m).map λk=>.str (ze ns (a+30 * k) wd)
noncomputable def Ov(ns:List Int)(a wd m:Nat):D:=.tup [.int wd,.tup (zT ns a wd m),.tup [.int (bP ns (a+400) m),.int (bP ns (a+401) (wd+1))]]
noncomputable def gC(bT aj:List D->R D):Ev->O:=(ax (cN 4 (gOf nB (ac (bf (dS (av bC (ac (rvz 3) nlz)) [0,1,2] (λ_=>R.ok true) (aA 3 bT (ac (rvz 1) (ac (g2 bv (rvz 2) (g2 fq (ciz 30) (rvz 0))) (ac (rvz 3) nlz)))))) nlz))) (ax (bS (av mkT (ac (rvz 2) (ac (rvz 4) (ac (av mkT (ac (aA 3 aj (ac (rvz 0) (ac (g2 bv (rvz 1) (ciz 400)) (ac (rvz 3) nlz)))) (ac (aA 3 aj (ac (rvz 0) (ac (g2 bv (rvz 1) (ciz 401)) (ac (g2 bv (rvz 2) (ciz 1)) nlz)))) nlz))) nlz))))) oNx))
def Ez:List D->R D:=λds=>ar (gC Fx cb (ao 5 ds))
def A6{ns:List Int}{a wd m:Nat}(hw3:wd<=100)(hm:0<m)(hm3:m<=100):Ez [.lst fz (ns.map .int),.int (a:Int),.int (wd:Int),.int (m:Int)]=.ok (Ov ns a wd m):=by
 have e:dI (λ_=>R.ok true) (aA 3 Fx (ac (rvz 1) (ac (g2 bv (rvz 2) (g2 fq (ciz 30) λρ=>rdV ρ 0)) (ac (rvz 3) λ_=>R.ok []))))
   ((List.range m).map λ(i:Nat)=>D.int (i:Int)) [none,some (.val (.lst fz (ns.map .int))),some (.val (.int a)),some (.val (.int wd))]=.ok (((List.range m).map λ(i:Nat)=>D.int (i:Int)).map λd=>match d with|.int k=>.str (ze ns (a+30 * k.toNat) wd)|d=>d):=by
  refine jl _ _ _ none λd hd=>⟨rfl,?_⟩
  obtain⟨k,_,rfl⟩:=wU.1 hd;have m1:fq (.int 30) (.int (k:Int))=some (.int ((30 * k:Nat):Int)):=by rw[FC (by decide)];congr 2
  have m2:(a:Int)+((30 * k:Nat):Int)=((a+30 * k:Nat):Int):=by omega
  have m3:=xZ (fz:=fz) (ns:=ns) (a:=a+30 * k) hw3
  walk_at "run"
  simp only[vN]
 show ar (ax _ _ [some (.val (.lst fz (ns.map .int))),some (.val (.int a)),some (.val (.int wd)),some (.val (.int m)),none])=_;have i1:fU [0,1,2] [some (.val (.lst fz (ns.map .int))),some (.val (.int a)),some (.val (.int wd)),some (.val (.int m)),none]=[none,some (.val (.lst fz (ns.map .int))),some (.val (.int a)),some (.val (.int wd))]:=rfl;have r1:bC [.int (m:Int)]=.ok ((List.range m).map λ(i:Nat)=>D.int (i:Int)):=lr (by omega);have z1:(((List.range m).map λ(i:Nat)=>D.int (i:Int)).map λd=>match d with|.int k=>.str (ze ns (a+30 * k.toNat) wd)|d=>d)=zT ns a wd m:=by rw[o9];unfold zT;refine List.map_congr_left λk _=>?_;simp
 have z2:(zT ns a wd m).length<=sizeLine:=by have:=aW;unfold zT;simp;omega
 have p1:cb [.lst fz (ns.map .int),.int ((a:Int)+400),.int (m:Int)]=.ok (.int (bP ns (a+400) m)):=by have:=bV (fz:=fz) (ns:=ns) (n:=a+400) (m:=m) (by omega);exact this
 have p2:cb [.lst fz (ns.map .int),.int ((a:Int)+401),.int ((wd:Int)+1)]=.ok (.int (bP ns (a+401) (wd+1))):=by have:=bV (fz:=fz) (ns:=ns) (n:=a+401) (m:=(wd:Int)+1) (by omega);exact this
 have k1:∀x:List D,nB [.lst false x]=some (.tup x):=λ_=>rfl
 walk_at "run"
 rfl
noncomputable def cl:Nat->D->Bool
 | 0,_=>false
 |_+1,.exc _=>false
 |_+1,.dct _ _=>false
 |n+1,.tup xs=>xs.all (cl n)
 |n+1,.lst _ xs=>xs.all (cl n)
 |_+1,_=>true
theorem rS{f:D->D->Option Bool}:∀xs:List D,(∀x∈xs,f x x=some true)->eqZ f xs xs=some (xs.map λ_=>true)
 | [],_=>rfl
 |x::xs,h=>by rw[eqZ,h x (zx ..),rS xs λy hy=>h y (zF _ hy)];rfl
theorem rh{α:Type}:∀xs:List α,(xs.map λ_=>true).all id=true
 | []=>rfl
 |_::xs=>by rw[xk,o5,rh xs];rfl
theorem mQ:∀(n m:Nat)(d:D),n<=m->cl n d=true->eqD m d d=some true
 | 0,_,_,_,h=>by simp[cl]at h
 |n+1,0,_,h,_=>by omega
 |n+1,m+1,d,hm,h=>by
  cases d <;> first|(simp[cl]at h;done)|(simp[eqD];done)|skip
  ·rename_i xs;simp only[cl,xp]at h;have:=rS xs λx hx=>mQ n m x (by omega) (h x hx);simp only[eqD,this,tU,rh,pc,Zv]
  ·rename_i fz xs;simp only[cl,xp]at h;have:=rS xs λx hx=>mQ n m x (by omega) (h x hx);simp only[eqD,vP,this,tU,rh]
def sI(h:cl 10 d=true):neF d d=some (.bl false):=by unfold neF;rw[mQ 10 40 d (by omega) h];rfl
def D0(h:cl 10 d=true):eqF d d=some (.bl true):=by unfold eqF;rw[mQ 10 40 d (by omega) h];rfl
noncomputable def dL(au:List D->R D):Ev->O:=(ax (Iy 1 (bf (dS (av bz (aA 1 au (ac (g2 ixD (rvz 0) (rvz 2)) nlz))) [2] (λ_=>R.ok true) (g2 bv (av mkT (ac (rvz 1) nlz)) (rvz 0))))) oNx)
noncomputable def gF(au:List D->R D):Ev->O:=(ax (yh 1 (jU (ac (av mkT nlz) nlz))) (ax (oIf (av iV (av (gj (·=="tuple")) (rvz 0))) (ax (pN (jz 2) (av bC (ac (gOf de (ac (rvz 0) nlz)) nlz)) (dL au)) oNx) oNx) (zC 1 (ax (bS (rvz 1)) oNx))))
noncomputable def kP(aC:List D->R D):Ev->O:=(ax (oIf (gB2 eqF (rvz 1) (av mkT nlz)) (ax (bS (rvz 2)) oNx) oNx) (ax (cN 3 (g2 ixD (rvz 1) (ciz 0))) (ax (bS (g2 bv (g2 bv (gSl (rvz 0) (λ_=>R.ok none) (fm (rvz 3))) (av mkT (ac (aA 3 aC (ac (g2 ixD (rvz 0) (rvz 3)) (ac (gSl (rvz 1) (fm (ciz 1)) (λ_=>R.ok none)) (ac (rvz 2) nlz)))) nlz))) (gSl (rvz 0) (fm (g2 bv (rvz 3) (ciz 1))) (λ_=>R.ok none)))) oNx)))
def dE(au aj aC:List D->R D):Ev->O:=(cN 3 (aA 1 au (ac (rvz 2) nlz)))
noncomputable def du(au aj aC:List D->R D):Ev->O:=(cN 4 (g2 ixD (rvz 3) (aA 3 aj (ac (rvz 0) (ac (rvz 1) (ac (gOf de (ac (rvz 3) nlz)) nlz))))))
def dF(au aj aC:List D->R D):Ev->O:=(cN 5 (rvz 2))
noncomputable def cG(au aj aC:List D->R D):Ev->O:=(ax (cN 5 (g2 ixD (rvz 5) (rvz 6))) oNx)
noncomputable def dn(au aj aC:List D->R D):Ev->O:=(pN (jz 6) (av bz (rvz 4)) (cG au aj aC))
noncomputable def dm(au aj aC:List D->R D):Ev->O:=(cN 7 (bf (jU (ac (ciz 0) (ac (ciz 1) (ac (ciz 2) (ac (ciz 11) (ac (ciz 12) (ac (ciz 40) (ac (ciz 41) (ac (av CC (ciz 1)) (ac (λ_=>R.ok (D.bl true)) (ac (λ_=>R.ok D.non) (ac (csz [97]) (ac (csz []) (ac (av mkT (ac (csz [103,111]) (ac (ciz 0) (ac (ciz 0) nlz)))) (ac (av mkT (ac (ciz 0) (ac (ciz 0) nlz))) (ac (bf (jU (ac (ciz 0) nlz))) (ac (av mkT (ac (rvz 5) nlz)) (ac (av mkT (ac (rvz 5) (ac (rvz 5) nlz))) nlz))))))))))))))))))))
noncomputable def dt(au aj aC:List D->R D):Ev->O:=(cN 8 (aA 3 aj (ac (rvz 0) (ac (g2 bv (rvz 1) (ciz 1)) (ac (ciz 23) nlz)))))
noncomputable def fG(au aj aC:List D->R D):Ev->O:=(oIf (gB2 ltD (rvz 8) (ciz 17)) (ax (bS (aA 3 aC (ac (rvz 2) (ac (rvz 4) (ac (g2 ixD (rvz 7) (rvz 8)) nlz))))) oNx) oNx)
noncomputable def fH(au aj aC:List D->R D):Ev->O:=(oIf (vG (av iV (av (gj (·=="tuple")) (rvz 5))) (gB2 neF (rvz 5) (av mkT nlz))) (ax (cN 6 (aA 3 aj (ac (rvz 0) (ac (g2 bv (rvz 1) (ciz 2)) (ac (gOf de (ac (rvz 5) nlz)) nlz))))) (ax (bS (aA 3 aC (ac (rvz 2) (ac (rvz 4) (ac (gIf (gB2 ltD (rvz 8) (ciz 20)) (g2 bv (gSl (rvz 5) (λ_=>R.ok none) (fm (rvz 6))) (gSl (rvz 5) (fm (g2 bv (rvz 6) (ciz 1))) (λ_=>R.ok none))) (g2 bv (gSl (rvz 5) (λ_=>R.ok none) (fm (g2 bv (rvz 6) (ciz 1)))) (gSl (rvz 5) (fm (rvz 6)) (λ_=>R.ok none)))) nlz))))) oNx)) oNx)
noncomputable def fc(au aj aC:List D->R D):Ev->O:=(oIf (av iV (av (gj (·=="str")) (rvz 5))) (ax (cN 9 (aA 3 aj (ac (rvz 0) (ac (g2 bv (rvz 1) (ciz 2)) (ac (g2 bv (gOf de (ac (rvz 5) nlz)) (ciz 1)) nlz))))) (ax (cN 10 (g2 ixD (bf (jU (ac (csz [10]) (ac (csz []) (ac (csz [97]) (ac (csz [9]) nlz)))))) (gIf (gB2 gtD (rvz 8) (ciz 19)) (g2 tq (rvz 8) (ciz 19)) (ciz 0)))) (ax (bS (aA 3 aC (ac (rvz 2) (ac (rvz 4) (ac (g2 bv (g2 bv (gSl (rvz 5) (λ_=>R.ok none) (fm (rvz 9))) (rvz 10)) (gSl (rvz 5) (fm (g2 bv (rvz 9) (ciz 1))) (λ_=>R.ok none))) nlz))))) oNx))) oNx)
noncomputable def eZ(au aj aC:List D->R D):Ev->O:=(bS (aA 3 aC (ac (rvz 2) (ac (rvz 4) (ac (gIf (av iV (av (gj isInt) (rvz 5))) (g2 bv (rvz 5) (ciz 1)) (ciz 7)) nlz)))))
noncomputable def cj(au aj aC:List D->R D):Ev->O:=(ax (dE au aj aC) (ax (du au aj aC) (ax (dF au aj aC) (ax (dn au aj aC) (ax (dm au aj aC) (ax (dt au aj aC) (ax (fG au aj aC) (ax (fH au aj aC) (ax (fc au aj aC) (ax (eZ au aj aC) oNx))))))))))
noncomputable def iy:Ev->O:=(ax (bS (me (av (gj isInt) (rvz 0)) (me (Jo (av (gj (·=="bool")) (rvz 0))) (g3 leD leD (rvz 1) (rvz 0) (rvz 2))))) oNx)
noncomputable def eT:Ev->O:=(ax (bS (me (av (gj (·=="str")) (rvz 0)) (g2 eqF (bf (dS (av bz (rvz 0)) [] (gBn (gB3 leD leD (ciz 32) (gOf Iw (ac (rvz 0) nlz)) (ciz 126))) (rvz 0))) (bf (jU nlz))))) oNx)
noncomputable def eD(cW cR:List D->R D):Ev->O:=(ax (oIf (jY (gBn (av iV (av (gj (·=="tuple")) (rvz 0)))) (jY (gB2 neF (gOf de (ac (rvz 0) nlz)) (ciz 3)) (gBn (av iV (aA 3 cW (ac (g2 ixD (rvz 0) (ciz 0)) (ac (ciz 1) (ac (ciz 40) nlz)))))))) (ax (bS (λ_=>R.ok (D.bl false))) oNx) oNx) (ax (Ix (vt [1,2,3]) (rvz 0)) (ax (oIf (jY (gBn (av iV (av (gj (·=="tuple")) (rvz 2)))) (gBn (gB3 leD leD (ciz 1) (gOf de (ac (rvz 2) nlz)) (ciz 12)))) (ax (bS (λ_=>R.ok (D.bl false))) oNx) oNx) (ax (oIf (gB2 neF (bf (dS (av bz (rvz 2)) [1] (jY (gBn (av iV (aA 1 cR (ac (rvz 0) nlz)))) (gB2 neF (gOf de (ac (rvz 0) nlz)) (rvz 1))) (rvz 0))) (bf (jU nlz))) (ax (bS (λ_=>R.ok (D.bl false))) oNx) oNx) (ax (oIf (jY (gBn (av iV (av (gj (·=="tuple")) (rvz 3)))) (gB2 neF (gOf de (ac (rvz 3) nlz)) (ciz 2))) (ax (bS (λ_=>R.ok (D.bl false))) oNx) oNx) (ax (bS (me (aA 3 cW (ac (g2 ixD (rvz 3) (ciz 0)) (ac (ciz 0) (ac (g2 tq (gOf de (ac (rvz 2) nlz)) (ciz 1)) nlz)))) (aA 3 cW (ac (g2 ixD (rvz 3) (ciz 1)) (ac (ciz 0) (ac (rvz 1) nlz)))))) oNx))))))
def sZ:∀ds:List D,ds.length=3->yY ds=.no\/ar (iy (ao 3 ds))=yY ds:=by
 intro ds hl
 match ds,hl with
 | [d,l,h],_=>
  cases d <;> first|exact Or.inl rfl|skip
  all_goals (cases l <;> first|exact Or.inl rfl|skip)
  all_goals (cases h <;> first|exact Or.inl rfl|skip)
  all_goals first|exact Or.inr rfl|skip
  rename_i i lo hi hl;refine Or.inr ?_;show ar (ax _ oNx [some (.val (.int i)),some (.val (.int lo)),some (.val (.int hi))])=R.ok (D.bl (inB (.int i) lo hi));by_cases h1:lo<=i <;> simp[ax,bS,me,Jo,av,g3,rd0,rd1,rd2,gj,tyN,L2.isInt,asB,leD,inB,ar,O.seq,h1]
def nc:∀ds:List D,ds.length=1->ir ds=.no\/ar (eT (ao 1 ds))=ir ds:=by
 intro ds hl
 match ds,hl with
 | [d],_=>
  cases d <;> first|exact Or.inl rfl|exact Or.inr rfl|skip
  rename_i x hl;by_cases hx:x.length<=sizeLine
  ·refine Or.inr ?_;have e:dI (gBn (gB3 leD leD (λ_=>R.ok (.int 32)) (gOf Iw (ac (rvz 0) λ_=>.ok [])) (λ_=>R.ok (.int 126)))) (rvz 0) (x.map λc=>D.str [c]) [none]=.ok (((x.map λc=>D.str [c]).filter HK).map id):=by
    refine ja HK id [] _ none λd m=>?_;obtain⟨c,_,rfl⟩:=wU.1 m;have o1:Iw [.str [c]]=some (.int (c:Nat)):=rfl;simp only[gBn,gB3,g3,gOf,ac,rd0,R.ok_bind,o1,cF,leD,HK];by_cases h1:32<=c
    ·have h1':(32:Int)<=(c:Int):=by omega
     by_cases h2:c<=126
     ·have h2':(c:Int)<=126:=by omega
      simp[h1,h1',h2,h2',asB]
     ·have h2' : ¬ (c:Int)<=126:=by omega
      simp[h1,h1',h2,h2',asB]
    ·have h1' : ¬ (32:Int)<=(c:Int):=by omega
     simp[h1,h1',asB]
   have e2:ir [.str x]=.ok (.bl (plain x)):=if_pos hx;rw[e2];have hz:((x.map λc=>D.str [c]).filter HK).length<=sizeLine:=wt (Zw _ _) (by rw[zy];exact hx);show ar (ax _ oNx [some (.val (.str x))])=_;simp only[ax,bS,me,av,g2,bf,jU,dS,rd0,gj,tyN,asB,fU,bz,R.ok_bind,n9,pc,vP,e,List.map_id,hz,pw,wA,Kz,uV,cF,R.ok_out,O.seq,ar]
  ·exact Or.inl (if_neg hx)
def mF : ∀ds : List D, ds.length = 1 -> fL ds = .no \/ ar (eD yY ir (ao 4 ds)) = fL ds := by
  intro ds hl
  match ds, hl with
  | [d], _ =>
    cases d <;> first|exact Or.inl rfl|exact Or.inr rfl|skip
    rename_i xs hl
    match xs with
    | [] => exact Or.inr rfl
    | [_] => exact Or.inr rfl
    | [_, _] => exact Or.inr rfl
    |a :: b :: c :: e :: l =>refine Or.inr ?_;rfl
    | [a, r, p] =>
      by_cases hf : jN (.tup [a, r, p]) = true
      · refine Or.inr ?_;have e2 : fL [.tup [a, r, p]] = .ok (.bl (screen (.tup [a, r, p]))) := if_pos hf;rw[e2];simp only[jN, xf]at hf;obtain⟨⟨ha, hr⟩, hp⟩ := hf;show ar (ax _ _ [some (.val (.tup [a, r, p])), none, none, none]) = _;have t1 : ∀q, gj (λx => x == "tuple") (.tup q) = .ok (.bl true) := λ_ => rfl;have t2 : ∀k, iV (.bl k) = .ok k := λ_ => rfl;have t3 : de [.tup [a, r, p]] = some (.int 3) := rfl;have t4 : neF (.int 3) (.int 3) = some (.bl false) := rfl;have x0 : ixD (.tup [a, r, p]) (.int 0) = some a := rfl;have s1 : vt [1, 2, 3] (.tup [a, r, p]) [some (.val (.tup [a, r, p])), none, none, none] = .ok [some (.val (.tup [a, r, p])), some (.val a), some (.val r), some (.val p)] := rfl;simp only[oIf, bS, jY, gBn, av, gB2, g2, gOf, ac, rd0, R.ok_bind, R.ok_out, t1, t2, t3, t4, x0, ud, cF, asB, oNx, O.seq, ax, j4, nA, ue, fu ha];cases hi : inB a 1 40 with
        |false =>
          have : screen (.tup [a, r, p]) = false := by
            cases a <;> first|rfl|skip
            simp only[screen, hi, Z5]
          rw[this]; rfl
        |true =>
          cases a <;> first | (cases hi; done)|skip
          rename_i i;simp only[j4, nA, ue, Ix, rd0, R.ok_out, s1];cases r <;> first | (cases hr; done)|skip
          all_goals first
            | (have : ∀q, (∀rows, q≠D.tup rows) -> screen (.tup [.int i, q, p]) = false := by intro q hq;cases q <;> first|exact absurd rfl (hq _) | (simp only[screen, vi, d7])
               rw[this _ (by intro rows z; cases z)]; rfl)
            |skip
          rename_i rows;have hr' := hr;have t5 : de [.tup rows] = some (.int rows.length) := rfl;have e : dI (jY (gBn (av iV (aA 1 ir (ac (rvz 0) λx => R.ok [])))) (gB2 neF (gOf de (ac (rvz 0) λx => R.ok [])) λρ => rdV ρ 1)) (rvz 0) rows [none, some (.val (.int i))] = .ok ((rows.filter λd => !pV d i).map id) := by
            refine ja (λd => !pV d i) id [some (.val (.int i))] rows none λd m => ⟨?_, λ_ => rfl⟩
            have hd := xp.1 hr' d m;simp only[jY, gBn, av, gB2, g2, gOf, ac, Ac, rd0, rd1, R.ok_bind, qv hd, t2];cases d <;> first|rfl|skip
            rename_i x;show(if (!plain x) = true then R.ok true else R.ok (!((x.length : Int) == i))) = R.ok (!(plain x && ((x.length : Int) == i)));cases plain x <;> rfl
          have i2 : fU [1] [some (.val (.tup [.int i, .tup rows, p])), some (.val (.int i)), some (.val (.tup rows)), some (.val p)] = [none, some (.val (.int i))] := rfl;simp only[rd1, rd2, rd3, R.ok_bind, t1, t2, t5, gB3, g3, gOf, ac, cF, leD, j4, nA, ue];by_cases h1 : 1 <= rows.length
          · have h1' : (1 : Int) <= (rows.length : Int) := by omega
            by_cases h2 : rows.length <= 12
            · have h2' : (rows.length : Int) <= 12 := by omega
              have h3 : (rows.filter λd => !pV d i).length <= sizeLine := wt (Zw _ _) (wt h2 (by decide));simp only[h1', h2', d9, asB, R.ok_bind, R.ok_out, j4, nA, ue, bf, dS, jU, av, rd2, bz, i2, e, List.map_id, h3, vP, pw, wA, Je, BE, cF];have sc : screen (.tup [.int i, .tup rows, p]) = ((rows.all λd => pV d i) && pU p i rows.length) := by simp[screen, hi, vi, h1, h2]
              rw[sc];cases hq : (rows.all λd => pV d i)with
              |false => rfl
              |true =>
                cases p <;> first | (cases hp; done)|rfl|skip
                rename_i q;have hq' := hp
                match q, hq' with
                | [], _ => rfl
                | [_], _ => rfl
                |u :: v :: c :: l, _ =>rfl
                | [u, v], hq' =>have hu := xp.1 hq' u (by simp);have hv := xp.1 hq' v (by simp);have t6 : de [.tup [u, v]] = some (.int 2) := rfl;have t7 : neF (.int 2) (.int 2) = some (.bl false) := rfl;have y0 : ixD (.tup [u, v]) (.int 0) = some u := rfl;have y1 : ixD (.tup [u, v]) (.int 1) = some v := rfl;simp only[t1, t2, t6, t7, R.ok_bind, cF, asB, j4, nA, ue, R.ok_out, me, ud, g2, gOf, ac, rd1, rd2, rd3, y0, y1, t5, tq, fu hu, fu hv, pU];cases inB u 0 ((rows.length : Int) - 1) <;> rfl
            · have h2' : ¬ (rows.length : Int) <= 12 := by omega
              have sc : screen (.tup [.int i, .tup rows, p]) = false := by simp[screen, vi, h2]
              rw[sc];simp only[h1', h2', d9, dh, asB, R.ok_bind, R.ok_out, Bool.not_false, vP, ar]
          · have h1' : ¬ (1 : Int) <= (rows.length : Int) := by omega
            have sc : screen (.tup [.int i, .tup rows, p]) = false := by simp[screen, vi, h1]
            rw[sc];simp only[h1', dh, asB, R.ok_bind, R.ok_out, Bool.not_false, vP, ar]
      · exact Or.inl (if_neg hf)
def fK(p:List Nat):D:=.tup (p.map λ(k:Nat)=>.int (k:Int))
noncomputable def df:Nat->D->List (List Nat)
 | 0,_=>[]
 |n+1,.tup xs=>[]::(List.range xs.length).flatMap λk=>(df n (xs.getD k .non)).map (k::·)
 |_+1,_=>[[]]
noncomputable def okd:Nat->D->Bool
 | 0,_=>false
 |_+1,.exc _=>false
 |_+1,.dct _ _=>false
 |n+1,.tup xs=>xs.all (okd n) && decide ((df (n+1) (.tup xs)).length<=1000) && decide (xs.length<=1000)
 |_+1,_=>true
noncomputable def cz(n:Nat):List D->R D
 | [d]=>if okd n d=true/\n<=500 then .ok (.lst false ((df n d).map fK))else .no
 |_=>.no
theorem lR:∀(n:Nat)(d:D)(p:List Nat),p∈df n d->p.length<n
 | 0,_,p,h=>by simp[df]at h
 |n+1,d,p,h=>by
  cases d with
  |tup xs=>
   simp only[df,zL,Z0,wU]at h;rcases h with rfl|⟨k,_,q,hq,rfl⟩;·simp
   ·have:=lR n _ q hq;simp;omega
  |_=>simp[df]at h;subst h;simp
def FV(n k:Nat)(hn:n<=500)(ps:List (List Nat))(h:∀p∈ps,p.length<=n):dI (λ_=>R.ok true) (g2 bv (av mkT (ac (rvz 1) λ_=>R.ok [])) λρ=>rdV ρ 0) (ps.map fK) [none,some (.val (.int (k:Int)))]=.ok ((ps.map (k::·)).map fK):=by
 have z:(ps.map (k::·)).map fK=(ps.map fK).map λd=>match d with|.tup qs=>.tup (.int k::qs)|d=>d:=by rw[o9,o9];refine k9 λp _=>?_;simp[fK]
 rw[z];refine jl _ _ _ none λd hd=>⟨rfl,?_⟩
 obtain⟨p,hp,rfl⟩:=wU.1 hd;have hl:=h p hp;have k1:mkT [.int (k:Int)]=.ok (.tup [.int (k:Int)]):=m_t (by simp);have k2:bv (.tup [.int (k:Int)]) (fK p)=some (.tup (.int k::p.map λ(k:Nat)=>.int (k:Int))):=by unfold fK;rw[xi (by have:=aW;simp;omega)];rfl
 walk_at "run"
 rfl
theorem BZ(n:Nat)(hn:n<=500)(xs:List D)(hx:xs.all (okd n)=true):∀(ks:List Nat)(acc:List D)(kk:Option Sl),(∀k∈ks,k<xs.length)->acc.length+(ks.flatMap λk=>(df n (xs.getD k .non)).map (k::·)).length<=1000->
  ∃kk',cO (jz 2) (dL (cz n)) (ks.map λ(i:Nat)=>D.int (i:Int)) [some (.val (.tup xs)),some (.own acc),kk]=.nx [some (.val (.tup xs)),some (.own (acc++(ks.flatMap λk=>(df n (xs.getD k .non)).map (k::·)).map fK)),kk']
 | [],acc,kk,_,_=>⟨kk,by simp[cO]⟩
 |k::ks,acc,kk,hk,hz=>by
  obtain⟨kk',ih⟩:=BZ n hn xs hx ks (acc++((df n (xs.getD k .non)).map (k::·)).map fK) (some (.val (.int (k:Int)))) (λj hj=>hk j (zF _ hj)) (by simp at hz⊢;omega);refine⟨kk',?_⟩;have hlt:=hk k (zx ..);have g1:xs[k]?=some (xs.getD k .non):=by rw[xn hlt];simp[List.getD,hlt]
  have o1:=xp.1 hx _ (lO g1);have x1:=CH g1;have p1:cz n [xs.getD k .non]=.ok (.lst false ((df n (xs.getD k .non)).map fK)):=if_pos ⟨o1,hn⟩;have c1:=FV n k hn (df n (xs.getD k .non)) λp hp=>io (lR n _ p hp);have i1:∀d:D,bz (.lst false ((df n (xs.getD k .non)).map fK))=.ok ((df n (xs.getD k .non)).map fK):=λ_=>rfl;have i2:fU [2] [some (.val (.tup xs)),some (.own acc),some (.val (.int (k:Int)))]=[none,some (.val (.int (k:Int)))]:=rfl;have z1:(((df n (xs.getD k .non)).map (k::·)).map fK).length<=sizeLine:=by have:=aW;simp at hz⊢;omega
  have z2:acc.length+(((df n (xs.getD k .non)).map (k::·)).map fK).length<=sizeLine:=by have:=aW;simp at hz⊢;omega
  have hB:dL (cz n) [some (.val (.tup xs)),some (.own acc),some (.val (.int (k:Int)))]=.nx [some (.val (.tup xs)),some (.own (acc++((df n (xs.getD k .non)).map (k::·)).map fK)),some (.val (.int (k:Int)))]:=by
   unfold dL;have i1':=i1 .non
   walk_at "run"
  rw[xk,eU rfl hB,ih,ul,vp,tV]
def rJ(n:Nat):∀ds:List D,ds.length=1->cz (n+1) ds=.no\/ar (gF (cz n) (ao 3 ds))=cz (n+1) ds:=by
 intro ds hl
 match ds,hl with
 | [d],_=>
  by_cases hk:okd (n+1) d=true/\n+1<=500
  ·refine Or.inr ?_;have e2:cz (n+1) [d]=.ok (.lst false ((df (n+1) d).map fK)):=if_pos hk;rw[e2];show ar (ax _ (ax (oIf _ (ax (pN (jz 2) _ (dL (cz n))) oNx) oNx) (zC 1 _)) [some (.val d),none,none])=_;have k1:mkT []=.ok (.tup []):=m_t (by simp);have z0:0+1<=sizeLine:=by decide
   cases d with
   |exc C=>exact absurd hk.1 (by simp[okd])
   |dct _ _=>exact absurd hk.1 (by simp[okd])
   |tup xs=>
    have h1:=hk.1;simp only[okd,xf,wa]at h1;have h2:1+((List.range xs.length).flatMap λk=>(df n (xs.getD k .non)).map (k::·)).length<=1000:=by have:=h1.1.2;simp only[df,vz]at this;omega
    have hxl:=h1.2;obtain⟨kk',hL⟩:=BZ n (by omega) xs h1.1.1 (List.range xs.length) [.tup []] none (λk hk=>pO.1 hk) (by simpa using h2);have r1:=lr hxl;have y1:gj (λx=>x=="tuple") (.tup xs)=.ok (.bl true):=rfl
    walk_at "run"
    simp[df,fK]
   |_=>rfl
  ·exact Or.inl (if_neg hk)
noncomputable def vh:List Nat->D->D->Option D
 | [],_,v=>some v
 |k::ks,.tup xs,v=>match xs[k]? with
  |some x=>if xs.length<=1000 then (vh ks x v).map λy=>.tup (xs.take k++[y]++xs.drop (k+1))else none
  |none=>none
 |_,_,_=>none
noncomputable def qF:List D->Option (List Nat)
 | []=>some []
 |.int i::ds=>if 0<=i then (qF ds).map (i.toNat::·)else none
 |_::_=>none
theorem xQ:∀{ds:List D}{ks:List Nat},qF ds=some ks->ds=ks.map λ(k:Nat)=>D.int (k:Int)
 | [],ks,h=>by simp[qF]at h;subst h;rfl
 |d::ds,ks,h=>by
  cases d <;> first|(cases h;done)|skip
  rename_i i;simp only[qF]at h;by_cases hi:0<=i
  ·rw[if_pos hi]at h;cases q:qF ds with
   |none=>rw[q]at h;cases h
   |some ms=>rw[q]at h;cases h;rw[xQ q,xk,mY hi]
  ·rw[if_neg hi]at h;cases h
theorem uN:∀ks:List Nat,qF (ks.map λ(k:Nat)=>D.int (k:Int))=some ks
 | []=>rfl
 |k::ks=>by simp[qF,uN ks]
noncomputable def nh(n:Nat):List D->R D
 | [d,.tup p,v]=>match qF p with
  |some ks=>if ks.length<n/\n<=500 then ofO (vh ks d v)else .no
  |none=>.no
 |_=>.no
def sj{n:Nat}{v:D}(h:ks.length<n/\n<=500):nh n [d,.tup (ks.map λ(k:Nat)=>D.int (k:Int)),v]=ofO (vh ks d v):=by simp only[nh,uN];rw[if_pos h]
def yC(n:Nat):∀ds:List D,ds.length=3->nh (n+1) ds=.no\/ar (kP (nh n) (ao 4 ds))=nh (n+1) ds:=by
 intro ds hl
 match ds,hl with
 | [d,pd,v],_=>
  cases pd <;> first|exact Or.inl rfl|skip
  rename_i p hl;cases hi:qF p with
  |none=>refine Or.inl ?_;simp only[nh,hi]
  |some ks=>
   have e:=xQ hi;subst e;by_cases hk:ks.length<n+1/\n+1<=500
   ·rw[sj hk];have k0:mkT []=.ok (.tup []):=m_t (by simp);cases ks with
    |nil=>refine Or.inr ?_;rfl
    |cons j js=>
     cases hp:vh (j::js) d v with
     |none=>exact Or.inl rfl
     |some r=>
      refine Or.inr ?_;cases d <;> first|(cases hp;done)|skip
      rename_i hl2 xs;unfold vh at hp;cases hx:xs[j]? with
      |none=>rw[hx]at hp;cases hp
      |some x=>
       rw[hx]at hp;dsimp only at hp;by_cases hz:xs.length<=1000
       ·rw[if_pos hz]at hp;cases hy:vh js x v with
        |none=>rw[hy]at hp;cases hp
        |some y=>
         rw[hy]at hp;cases hp;have hj:=(vc.mp hx).1;show ar (ax _ _ [some (.val (.tup xs)),some (.val (.tup (.int (j:Int)::js.map λ(k:Nat)=>D.int (k:Int)))),some (.val v),none])=_;have q1:eqF (.tup (.int (j:Int)::js.map λ(k:Nat)=>D.int (k:Int))) (.tup [])=some (.bl false):=by simp[eqF,eqD,eqZ]
         have q2:ixD (.tup (.int (j:Int)::js.map λ(k:Nat)=>D.int (k:Int))) (.int 0)=some (.int (j:Int)):=CH rfl;have q3:=CH hx;have q4:jJ (.int (j:Int)::js.map λ(k:Nat)=>D.int (k:Int)) (some 1) none=js.map λ(k:Nat)=>D.int (k:Int):=kA _ 1;have q5:=qa xs j;have q6:jJ xs (some ((j:Int)+1)) none=xs.drop (j+1):=kA xs (j+1);have q7:nh n [x,.tup (js.map λ(k:Nat)=>D.int (k:Int)),v]=.ok y:=by rw[sj (by simp at hk;omega),hy];rfl
         have k1:mkT [y]=.ok (.tup [y]):=m_t (by simp);have q8:bv (.tup (xs.take j)) (.tup [y])=some (.tup (xs.take j++[y])):=xi (by have:=aW;simp;omega);have q9:bv (.tup (xs.take j++[y])) (.tup (xs.drop (j+1)))=some (.tup (xs.take j++[y]++xs.drop (j+1))):=xi (by have:=aW;simp;omega)
         walk_at "run"
       ·rw[if_neg hz]at hp;cases hp
   ·refine Or.inl ?_;simp only[nh,hi];rw[if_neg hk]
def Cf:∀ds:List D,ds.length=1->cz 0 ds=.no:=by
 intro ds hl
 match ds,hl with
 | [d],_=>rfl
def J1:∀ds:List D,ds.length=3->nh 0 ds=.no:=by
 intro ds hl
 match ds,hl with
 | [d,p,v],_=>
  cases p <;> first|rfl|skip
  simp only[nh];split <;> simp
noncomputable def pt:Nat->D->Bool
 | 0,_=>false
 |_+1,.int _=>true
 |_+1,.str x=>decide (x.length<=900)
 |n+1,.tup xs=>xs.all (pt n) && decide (xs.length<=900)
 |_+1,_=>false
noncomputable def gN:Nat->D->Bool
 | 0,_=>true
 |_+1,.exc _=>false
 |_+1,.dct _ _=>false
 |_+1,.str x=>decide (x.length<=1000)
 |n+1,.tup xs=>xs.all (gN n)
 |n+1,.lst _ xs=>xs.all (gN n)
 |_+1,_=>true
theorem nV:∀(n:Nat)(d:D),gN (n+1) d=true->gN n d=true
 | 0,_,_=>rfl
 |n+1,d,h=>by
  cases d <;> first|(simp[gN]at h;done)|rfl|skip
  ·exact h
  ·simp only[gN,xp]at h⊢;exact λx hx=>nV n x (h x hx)
  ·simp only[gN,xp]at h⊢;exact λx hx=>nV n x (h x hx)
theorem wl:∀(n m:Nat)(d:D),pt n d=true->gN m d=true
 | 0,_,_,h=>by simp[pt]at h
 |n+1,0,_,_=>rfl
 |n+1,m+1,d,h=>by
  cases d <;> first|(simp[pt]at h;done)|rfl|skip
  ·simp only[pt,wa]at h;simp only[gN,wa];omega
  ·simp only[pt,xf,xp]at h;simp only[gN,xp];exact λx hx=>wl n m x (h.1 x hx)
def zY(h:gN 4 d=true):jN d=true:=by
 cases d <;> first|(simp[gN]at h;done)|rfl|skip
 rename_i xs
 match xs,h with
 | [],_=>rfl
 | [_],_=>rfl
 | [_,_],_=>rfl
 |_::_::_::_::_,_=>rfl
 | [a,r,p],h=>
  simp only[gN,o5,Zx,Zv,xf]at h;obtain⟨ha,hr,hp⟩:=h;have l1:=aW;have na:zd a=true:=by cases a <;> first|(simp[gN]at ha;done)|rfl
  simp only[jN,xf];refine⟨⟨na,?_⟩,?_⟩
  ·cases r <;> first|(simp[gN]at hr;done)|rfl|skip
   simp only[gN,xp]at hr;rw[xp];intro x hx;have:=hr x hx;cases x <;> first|(simp[gN]at this;done)|rfl|skip
   simp only[gN,wa]at this;simp only[Ir,wa];omega
  ·cases p <;> first|(simp[gN]at hp;done)|rfl|skip
   simp only[gN,xp]at hp;rw[xp];intro x hx;have:=hp x hx;cases x <;> first|(simp[gN]at this;done)|rfl
theorem xv(n:Nat):∀(ks:List Nat)(d v r:D),vh ks d v=some r->gN n d=true->gN n v=true->gN n r=true
 | [],d,v,r,h,_,hv=>by simp only[vh,nD]at h;subst h;exact hv
 |k::ks,d,v,r,h,hd,hv=>by
  cases n with
  |zero=>rfl
  |succ n=>
   cases d <;> first|(simp[vh]at h;done)|skip
   rename_i xs;unfold vh at h;cases hx:xs[k]? with
   |none=>rw[hx]at h;cases h
   |some x=>
    rw[hx]at h;dsimp only at h;split at h
    ·cases hy:vh ks x v with
     |none=>rw[hy]at h;cases h
     |some y=>
      rw[hy]at h;cases h;simp only[gN,xp]at hd⊢;have gy:=xv n ks x v y hy (hd x (lO hx)) (nV n v hv);intro z hz;simp only[uF,wP]at hz;rcases hz with (hz|rfl)|hz;·exact hd z (l4 hz)
      ·exact gy
      ·exact hd z (Z1 hz)
    ·cases h
noncomputable def Cu:List Nat->D->Option D
 | [],d=>some d
 |k::ks,.tup xs=>(xs[k]?).bind (Cu ks)
 |_::_,_=>none
theorem rQ:∀(n:Nat)(d:D)(ks:List Nat),pt n d=true->ks∈df n d->(∃x,Cu ks d=some x/\∃m,pt m x=true)/\∀v,∃r,vh ks d v=some r
 | 0,_,_,h,_=>by simp[pt]at h
 |n+1,d,ks,h,hk=>by
  cases ks with
  |nil=>exact⟨⟨d,rfl,n+1,h⟩,λv=>⟨v,rfl⟩⟩
  |cons k ks=>
   cases d <;> first|(simp[df]at hk;done)|skip
   rename_i xs;simp only[df,zL,Z0,wU,pO,reduceCtorEq,false_or]at hk;obtain⟨j,hj,q,hq,e⟩:=hk;cases e;simp only[pt,xf,xp,wa]at h;have g1:xs[k]?=some (xs.getD k .non):=by rw[xn hj];simp[List.getD,hj]
   obtain⟨⟨x,hx,m,hm⟩,hp⟩:=rQ n _ ks (h.1 _ (lO g1)) hq;refine⟨⟨x,?_,m,hm⟩,λv=>?_⟩;·simp only[Cu,g1,Zm];exact hx
   ·obtain⟨r,hr⟩:=hp v;refine⟨.tup (xs.take k++[r]++xs.drop (k+1)),?_⟩;simp only[vh,g1];rw[if_pos (by omega),hr];rfl
noncomputable def lB(h:D):List D:=[.int 0,.int 1,.int 2,.int 11,.int 12,.int 40,.int 41,.int (-1),.bl true,.non,.str [97],.str [],.tup [.str [103,111],.int 0,.int 0],.tup [.int 0,.int 0],.lst false [.int 0],.tup [h],.tup [h,h]]
def signL:List D:=[.str [10],.str [],.str [97],.str [9]]
noncomputable def AH(w:Int):List Nat:=match signL.getD (if 19<w then (w - 19).toNat else 0) .non with
 |.str x=>x
 |_=>[]
noncomputable def qk(ns:List Int)(a:Nat)(h:D):D:=
 if bP ns (a+1) 23<17 then (lB h).getD (bP ns (a+1) 23).toNat .non
 else match h with
  |.tup xs=>if xs.length=0 then .int 7 else if bP ns (a+1) 23<20 then .tup (xs.take (bP ns (a+2) xs.length).toNat++xs.drop ((bP ns (a+2) xs.length).toNat+1))else .tup (xs.take ((bP ns (a+2) xs.length).toNat+1)++xs.drop (bP ns (a+2) xs.length).toNat)
  |.str x=>.str (x.take (bP ns (a+2) (x.length+1)).toNat++AH (bP ns (a+1) 23)++x.drop ((bP ns (a+2) (x.length+1)).toNat+1))
  |.int i=>.int (i+1)
  |_=>.int 7
noncomputable def fh(ns:List Int)(a:Nat)(T:D):List Nat:=(df 4 T).getD (bP ns a (df 4 T).length).toNat []
noncomputable def gH:List D->R D
 | [.lst _ ds,.int a,T]=>match oN ds with
  |some ns=>if 0<=a/\pt 4 T=true/\okd 4 T=true then ofO (vh (fh ns a.toNat T) T (qk ns a.toNat ((Cu (fh ns a.toNat T) T).getD .non)))else .no
  |none=>.no
 |_=>.no
def xY(n:Nat)(d:D):0<(df (n+1) d).length:=by cases d <;> simp[df]
def qN(ns:List Int)(a:Nat)(T:D):fh ns a T∈df 4 T:=by
 have h0:0<(df 4 T).length:=xY 3 T;have h:=br ns a (m:=((df 4 T).length:Int)) (by omega);unfold fh;have hl:(bP ns a (df 4 T).length).toNat<(df 4 T).length:=by omega
 rw[zi,xn hl];exact jg hl
def qq(v:Int):(AH v).length<=1:=by
 unfold AH;generalize (if 19<v then (v - 19).toNat else 0)=k;rcases Zd k 4 with hk|hk
 ·have:k=0\/k=1\/k=2\/k=3:=by omega
  rcases this with rfl|rfl|rfl|rfl <;> decide
 ·have:signL.getD k .non=.non:=by rw[zi,p9 (by show 4<=k;exact hk)];rfl
  rw[this];decide
theorem ua(s0 s1 s2 s3 s4 s7 s8 s9 s10:Option Sl):∀(ks:List Nat)(d x:D)(kk:Option Sl),Cu ks d=some x->
  ∃kk',cO (jz 6) (cG (cz 4) cb (nh 4)) (ks.map λ(i:Nat)=>D.int (i:Int)) [s0,s1,s2,s3,s4,some (.val d),kk,s7,s8,s9,s10]=.nx [s0,s1,s2,s3,s4,some (.val x),kk',s7,s8,s9,s10]
 | [],d,x,kk,h=>by simp only[Cu,nD]at h;subst h;exact⟨kk,rfl⟩
 |k::ks,d,x,kk,h=>by
  cases d <;> first|(simp[Cu]at h;done)|skip
  rename_i xs;cases hx:xs[k]? with
  |none=>simp[Cu,hx]at h
  |some y=>
   simp only[Cu,hx,Zm]at h;obtain⟨kk',ih⟩:=ua s0 s1 s2 s3 s4 s7 s8 s9 s10 ks y x (some (.val (.int (k:Int)))) h;refine⟨kk',?_⟩;have q3:=CH hx;have hB:(cG (cz 4) cb (nh 4)) [s0,s1,s2,s3,s4,some (.val (.tup xs)),some (.val (.int (k:Int))),s7,s8,s9,s10]=.nx [s0,s1,s2,s3,s4,some (.val y),some (.val (.int (k:Int))),s7,s8,s9,s10]:=by
    unfold cG
    walk_at "run"
   rw[xk,eU rfl hB];exact ih
def ky:∀ds:List D,ds.length=3->gH ds=.no\/ar (cj (cz 4) cb (nh 4) (ao 11 ds))=gH ds:=by
 intro ds hl;unfold cj
 match ds,hl with
 | [l,ad,T],_=>
  cases l <;> first|exact Or.inl rfl|skip
  cases ad <;> first|exact Or.inl rfl|skip
  rename_i fz ds a hl;cases hi:oN ds with
  |none=>refine Or.inl ?_;simp only[gH,hi]
  |some ns=>
   have e:=rT hi;subst e;by_cases hk:0<=a/\pt 4 T=true/\okd 4 T=true
   ·refine Or.inr ?_;have e2:gH [.lst fz (ns.map .int),.int a,T]=ofO (vh (fh ns a.toNat T) T (qk ns a.toNat ((Cu (fh ns a.toNat T) T).getD .non))):=by simp only[gH,hi];rw[if_pos hk]
    rw[e2];obtain⟨ha,hp,ho⟩:=hk;obtain⟨a,rfl⟩:=Y1 ha;rw[vN];show ar (ax _ _ [some (.val (.lst fz (ns.map .int))),some (.val (.int a)),some (.val T),none,none,none,none,none,none,none,none])=_;obtain⟨⟨x,hx,m,hm⟩,hput⟩:=rQ 4 T _ hp (qN ns a T);obtain⟨r,hr⟩:=hput (qk ns a x);rw[hx,Y2,hr];have kl:=lR 4 T _ (qN ns a T);have P1:cz 4 [T]=.ok (.lst false ((df 4 T).map fK)):=if_pos ⟨ho,by decide⟩;have h0:0<(df 4 T).length:=xY 3 T;have h1:=br ns a (m:=((df 4 T).length:Int)) (by omega);have P2:cb [.lst fz (ns.map .int),.int (a:Int),.int (((df 4 T).map fK).length:Int)]=.ok (.int (bP ns a (df 4 T).length)):=by rw[zy];exact bV (by omega)
    have P3:ixD (.lst false ((df 4 T).map fK)) (.int (bP ns a (df 4 T).length))=some (fK (fh ns a T)):=by
     have hlt:(bP ns a (df 4 T).length).toNat<(df 4 T).length:=by omega
     rw[<- mY h1.1];refine L9 ?_;rw[v8,xn hlt];unfold fh;rw[zi,xn hlt];rfl
    have P4:bz (fK (fh ns a T))=.ok ((fh ns a T).map λ(k:Nat)=>.int (k:Int)):=rfl;obtain⟨kk',hL⟩:=ua (some (.val (.lst fz (ns.map .int)))) (some (.val (.int a))) (some (.val T)) (some (.val (.lst false ((df 4 T).map fK)))) (some (.val (fK (fh ns a T)))) none none none none (fh ns a T) T x none hx
    skip
    have P5:cb [.lst fz (ns.map .int),.int ((a:Int)+1),.int 23]=.ok (.int (bP ns (a+1) 23)):=bV (by decide);have P6:nh 4 [T,fK (fh ns a T),qk ns a x]=.ok r:=by unfold fK;rw[sj ⟨kl,by decide⟩,hr];rfl
    have k0:mkT []=.ok (.tup []):=m_t (by simp);have k1:∀x,mkT [x]=.ok (.tup [x]):=λ_=>m_t (by simp);have k2:∀x y,mkT [x,y]=.ok (.tup [x,y]):=λ_ _=>m_t (by simp);have k3:∀x y z,mkT [x,y,z]=.ok (.tup [x,y,z]):=λ_ _ _=>m_t (by simp);have z17:17<=sizeLine:=by decide
    have z1:1<=sizeLine:=by decide
    have z4:4<=sizeLine:=by decide
    have n1:CC (.int 1)=.ok (.int (-1)):=rfl;have hw0:=br ns (a+1) (m:=23) (by decide);have R0:dE (cz 4) cb (nh 4) [some (.val (.lst fz (ns.map .int))),some (.val (.int a)),some (.val T),none,none,none,none,none,none,none,none]=.nx [some (.val (.lst fz (ns.map .int))),some (.val (.int a)),some (.val T),some (.val (.lst false ((df 4 T).map fK))),none,none,none,none,none,none,none]:=by
     unfold dE
     walk_at "run"
    have R1:du (cz 4) cb (nh 4) [some (.val (.lst fz (ns.map .int))),some (.val (.int a)),some (.val T),some (.val (.lst false ((df 4 T).map fK))),none,none,none,none,none,none,none]=.nx [some (.val (.lst fz (ns.map .int))),some (.val (.int a)),some (.val T),some (.val (.lst false ((df 4 T).map fK))),some (.val (fK (fh ns a T))),none,none,none,none,none,none]:=by
     unfold du
     walk_at "run"
    have R2:dF (cz 4) cb (nh 4) [some (.val (.lst fz (ns.map .int))),some (.val (.int a)),some (.val T),some (.val (.lst false ((df 4 T).map fK))),some (.val (fK (fh ns a T))),none,none,none,none,none,none]=.nx [some (.val (.lst fz (ns.map .int))),some (.val (.int a)),some (.val T),some (.val (.lst false ((df 4 T).map fK))),some (.val (fK (fh ns a T))),some (.val T),none,none,none,none,none]:=by
     unfold dF
     walk_at "run"
    have R3:dn (cz 4) cb (nh 4) [some (.val (.lst fz (ns.map .int))),some (.val (.int a)),some (.val T),some (.val (.lst false ((df 4 T).map fK))),some (.val (fK (fh ns a T))),some (.val T),none,none,none,none,none]=.nx [some (.val (.lst fz (ns.map .int))),some (.val (.int a)),some (.val T),some (.val (.lst false ((df 4 T).map fK))),some (.val (fK (fh ns a T))),some (.val x),kk',none,none,none,none]:=by
     unfold dn
     walk_at "run"
    have R4:dm (cz 4) cb (nh 4) [some (.val (.lst fz (ns.map .int))),some (.val (.int a)),some (.val T),some (.val (.lst false ((df 4 T).map fK))),some (.val (fK (fh ns a T))),some (.val x),kk',none,none,none,none]=.nx [some (.val (.lst fz (ns.map .int))),some (.val (.int a)),some (.val T),some (.val (.lst false ((df 4 T).map fK))),some (.val (fK (fh ns a T))),some (.val x),kk',some (.val (.lst false (lB x))),none,none,none]:=by
     unfold dm lB
     walk_at "run"
    have R5:dt (cz 4) cb (nh 4) [some (.val (.lst fz (ns.map .int))),some (.val (.int a)),some (.val T),some (.val (.lst false ((df 4 T).map fK))),some (.val (fK (fh ns a T))),some (.val x),kk',some (.val (.lst false (lB x))),none,none,none]=.nx [some (.val (.lst fz (ns.map .int))),some (.val (.int a)),some (.val T),some (.val (.lst false ((df 4 T).map fK))),some (.val (fK (fh ns a T))),some (.val x),kk',some (.val (.lst false (lB x))),some (.val (.int (bP ns (a+1) 23))),none,none]:=by
     unfold dt
     walk_at "run"
    rw[ng,R0,Db,ng,R1,Db,ng,R2,Db,ng,R3,Db,ng,R4,Db,ng,R5,Db];unfold fG fH fc eZ;by_cases hw:bP ns (a+1) 23<17
    ·have d1:decide (bP ns (a+1) 23<17)=true:=by simp[hw]
     have q1:ixD (.lst false (lB x)) (.int (bP ns (a+1) 23))=some (qk ns a x):=by
      have e:qk ns a x=(lB x).getD (bP ns (a+1) 23).toNat .non:=if_pos hw;rw[e,<- mY hw0.1];refine L9 ?_;have hlt:(bP ns (a+1) 23).toNat<(lB x).length:=by show _<17;omega
      rw[vN,zi,xn hlt];rfl
     clear hw hw0 hm
     walk_at "run"
    ·have d1:decide (bP ns (a+1) 23<17)=false:=by simp[hw]
     have y1:∀f xs,gj f (.tup xs)=.ok (.bl (f "tuple")):=λ_ _=>rfl;have y2:∀f xs,gj f (.str xs)=.ok (.bl (f "str")):=λ_ _=>rfl;have y3:∀f xs,gj f (.int xs)=.ok (.bl (f "int")):=λ_ _=>rfl;have u1:("tuple"=="tuple")=true:=rfl;have u2:("tuple"=="str")=false:=rfl;have u3:("str"=="str")=true:=rfl;have u4:("str"=="tuple")=false:=rfl;have u5:("int"=="tuple")=false:=rfl;have u6:("int"=="str")=false:=rfl;have u7:L2.isInt "int"=true:=rfl;have u8:L2.isInt "tuple"=false:=rfl;cases x <;> first|(cases m <;> cases hm;done)|skip
     ·rename_i i;have e:qk ns a (.int i)=.int (i+1):=by simp only[qk,hw,ue]
      rw[e]at P6;clear hw hw0 hm e
      walk_at "run"
     ·rename_i s;have hs:s.length<=900:=by cases m <;> simp[pt]at hm;exact hm
      have hj:=br ns (a+2) (m:=(s.length:Int)+1) (by omega);have P7:cb [.lst fz (ns.map .int),.int ((a:Int)+2),.int ((s.length:Int)+1)]=.ok (.int (bP ns (a+2) ((s.length:Int)+1))):=bV (by omega);have e:qk ns a (.str s)=.str (s.take (bP ns (a+2) (s.length+1)).toNat++AH (bP ns (a+1) 23)++s.drop ((bP ns (a+2) (s.length+1)).toNat+1)):=by simp only[qk,hw,ue]
      rw[e]at P6;obtain⟨j,hjj⟩:∃j:Nat,bP ns (a+2) ((s.length:Int)+1)=(j:Int):=⟨_,(mY hj.1).symm⟩
      rw[hjj]at P7;rw[hjj,vN]at P6;have hsg:=qq (bP ns (a+1) 23);have c1:=qa s j;have c2:jJ s (some ((j:Int)+1)) none=s.drop (j+1):=kA s (j+1);have a1:bv (.str (s.take j)) (.str (AH (bP ns (a+1) 23)))=some (.str (s.take j++AH (bP ns (a+1) 23))):=su (by have:=aW;simp;omega);have a2:bv (.str (s.take j++AH (bP ns (a+1) 23))) (.str (s.drop (j+1)))=some (.str (s.take j++AH (bP ns (a+1) 23)++s.drop (j+1))):=su (by have:=aW;simp;omega);by_cases h19:19<bP ns (a+1) 23
      ·have d2:decide (19<bP ns (a+1) 23)=true:=by simp[h19]
       have q2:ixD (.lst false signL) (.int (bP ns (a+1) 23 - 19))=some (.str (AH (bP ns (a+1) 23))):=by
        generalize bP ns (a+1) 23=v at hw0 h19;have:v=20\/v=21\/v=22:=by omega
        rcases this with rfl|rfl|rfl <;> rfl
       unfold signL at q2;clear hw hw0 hm e hj hjj hs h19 hsg
       walk_at "run"
      ·have d2:decide (19<bP ns (a+1) 23)=false:=by simp[h19]
       have q2:ixD (.lst false signL) (.int 0)=some (.str (AH (bP ns (a+1) 23))):=by unfold AH;rw[if_neg h19];rfl
       unfold signL at q2;clear hw hw0 hm e hj hjj hs h19 hsg
       walk_at "run"
     ·rename_i xs;have hs:xs.length<=900:=by cases m <;> simp[pt]at hm;exact hm.2
      cases xs with
      |nil=>
       have e:qk ns a (.tup [])=.int 7:=by simp only[qk,hw,ue,pw,vP]
       rw[e]at P6;have v1:neF (.tup []) (.tup [])=some (.bl false):=rfl;clear hw hw0 hm e hs
       walk_at "run"
      |cons y ys=>
       generalize hxs:y::ys=xs at hs hm P6;have hl0:0<xs.length:=by rw[<- hxs];simp
       have v1:neF (.tup xs) (.tup [])=some (.bl true):=by rw[<- hxs];simp[neF,eqD,eqZ]
       have hj:=br ns (a+2) (m:=(xs.length:Int)) (by omega);have P7:cb [.lst fz (ns.map .int),.int ((a:Int)+2),.int (xs.length:Int)]=.ok (.int (bP ns (a+2) (xs.length:Int))):=bV (by omega);obtain⟨j,hjj⟩:∃j:Nat,bP ns (a+2) (xs.length:Int)=(j:Int):=⟨_,(mY hj.1).symm⟩
       rw[hjj]at P7;have ne : ¬ xs.length=0:=by omega
       have c1:=qa xs j;have c2:jJ xs (some ((j:Int)+1)) none=xs.drop (j+1):=kA xs (j+1);have c3:jJ xs none (some ((j:Int)+1))=xs.take (j+1):=qa xs (j+1);have c4:=kA xs j;by_cases h20:bP ns (a+1) 23<20
       ·have d2:decide (bP ns (a+1) 23<20)=true:=by simp[h20]
        have e:qk ns a (.tup xs)=.tup (xs.take j++xs.drop (j+1)):=by simp only[qk,hw,ue,ne,h20,vP,hjj,vN]
        rw[e]at P6;have a1:bv (.tup (xs.take j)) (.tup (xs.drop (j+1)))=some (.tup (xs.take j++xs.drop (j+1))):=xi (by have:=aW;simp;omega);clear hw hw0 hm e hj hjj hs h20 hl0 ne hxs
        walk_at "run"
       ·have d2:decide (bP ns (a+1) 23<20)=false:=by simp[h20]
        have e:qk ns a (.tup xs)=.tup (xs.take (j+1)++xs.drop j):=by simp only[qk,hw,ue,ne,h20,hjj,vN]
        rw[e]at P6;have a1:bv (.tup (xs.take (j+1))) (.tup (xs.drop j))=some (.tup (xs.take (j+1)++xs.drop j)):=xi (by have:=aW;simp;omega);clear hw hw0 hm e hj hjj hs h20 hl0 ne hxs
        walk_at "run"
   ·refine Or.inl ?_;simp only[gH,hi];rw[if_neg hk]
def yD(h:D)(hp:∀m,gN m h=true)(k:Nat):gN 4 ((lB h).getD k .non)=true:=by
 have h3:=hp 3;have hall:∀x∈lB h,gN 4 x=true:=by
  have e:(lB h).all (gN 4)=true:=by
   have e0:(lB h).all (gN 4)=(gN 3 h && (gN 3 h && gN 3 h)):=by cases hh:gN 3 h <;> simp[lB,gN,hh] <;> decide
   rw[e0,h3];rfl
  exact xp.1 e
 rcases Zd k (lB h).length with hk|hk;·rw[zi,xn hk];exact hall _ (jg hk)
 ·rw[zi,p9 hk];rfl
def Ad(ns:List Int)(a:Nat)(h:D){m:Nat}(hp:pt m h=true):gN 4 (qk ns a h)=true:=by
 have hg:∀j,gN j h=true:=λj=>wl m j h hp;unfold qk;split;·exact yD h hg _
 ·cases h <;> first|rfl|skip
  ·rename_i x;have h1:x.length<=900:=by cases m <;> simp[pt]at hp;exact hp
   have h2:=qq (bP ns (a+1) 23);simp only[gN,wa,w6,wo,n6];omega
  ·rename_i xs;have h1:∀x∈xs,gN 3 x=true:=by have:=hg 4;simp only[gN,xp]at this;exact this
   dsimp only;split;·rfl
   ·split
    all_goals
     simp only[gN,xp,uF];intro x hx;rcases hx with hx|hx;·exact h1 x (l4 hx)
     ·exact h1 x (Z1 hx)
def BO(n:Nat)(rows:List D)(h:∀d∈rows,∃x,d=D.str x):(df (n+2) (.tup rows)).length=1+rows.length:=by
 have key:∀ks:List Nat,(∀k∈ks,k<rows.length)->(ks.flatMap λk=>(df (n+1) (rows.getD k .non)).map (k::·)).length=ks.length:=by
  intro ks;induction ks with
  |nil=>intro _;rfl
  |cons k ks ih=>
   intro hk;have hlt:=hk k (zx ..);have g1:rows[k]?=some (rows.getD k .non):=by rw[xn hlt];simp[List.getD,hlt]
   obtain⟨x,hx⟩:=h _ (lO g1);rw[ul,w6,ih λj hj=>hk j (zF _ hj),hx];simp[df];omega
 simp only[df,vz];rw[key _ λk hk=>pO.1 hk,Y3];omega
def JJ{wd a b:Int}(hn:rows.length<=12)(hr:∀d∈rows,∃x,d=D.str x/\x.length<=40):pt 4 (.tup [.int wd,.tup rows,.tup [.int a,.int b]])=true:=by
 have h3:rows.all (pt 2)=true:=by rw[xp];intro d hd;obtain⟨x,rfl,hx⟩:=hr d hd;simp only[pt,wa];omega
 simp only[pt,o5,Zx,Zv,h3,k8,wa,xf,vz,pw];omega
def Hj{wd a b:Int}(hn:rows.length<=12)(hr:∀d∈rows,∃x,d=D.str x/\x.length<=40):okd 4 (.tup [.int wd,.tup rows,.tup [.int a,.int b]])=true:=by
 have hs:∀d∈rows,∃x,d=D.str x:=λd hd=>let⟨x,e,_⟩:=hr d hd;⟨x,e⟩;have h3:rows.all (okd 2)=true:=by rw[xp];intro d hd;obtain⟨x,rfl⟩:=hs d hd;rfl
 have p1:=BO 1 rows hs;have p2:(df 4 (.tup [.int wd,.tup rows,.tup [.int a,.int b]])).length=6+rows.length:=by have e:df 4 (.tup [.int wd,.tup rows,.tup [.int a,.int b]])=[]::((df 3 (.int wd)).map (0::·)++((df 3 (.tup rows)).map (1::·)++((df 3 (.tup [.int a,.int b])).map (2::·)++[]))):=rfl;rw[e];simp only[vz,w6,zy,p1,pw];have e1:(df 3 (.int wd)).length=1:=rfl;have e2:(df 3 (.tup [.int a,.int b])).length=3:=rfl;rw[e1,e2];omega
 have a1:okd 3 (.tup rows)=true:=by simp only[okd,h3,k8,p1,xf,wa];omega
 have a2:okd 3 (.tup [.int a,.int b])=true:=rfl;have a3:okd 3 (.int wd)=true:=rfl;have e:okd 4 (.tup [.int wd,.tup rows,.tup [.int a,.int b]])=([.int wd,.tup rows,.tup [.int a,.int b]].all (okd 3) && decide ((df 4 (.tup [.int wd,.tup rows,.tup [.int a,.int b]])).length<=1000) && decide (3<=1000)):=rfl;rw[e,o5,o5,o5,a1,a2,a3,p2,Zx];simp;omega
def Bl{wd a b:Int}(ns:List Int)(fz:Bool)(k:Nat)(hn:rows.length<=12)(hr:∀d∈rows,∃x,d=D.str x/\x.length<=40):∃d,gH [.lst fz (ns.map .int),.int (k:Int),.tup [.int wd,.tup rows,.tup [.int a,.int b]]]=.ok d/\gN 4 d=true:=by
 have h1:=JJ (wd:=wd) (a:=a) (b:=b) hn hr;have h2:=Hj (wd:=wd) (a:=a) (b:=b) hn hr;generalize D.tup [.int wd,.tup rows,.tup [.int a,.int b]]=T at h1 h2;obtain⟨⟨x,hx,m,hm⟩,hp⟩:=rQ 4 T _ h1 (qN ns k T);obtain⟨r,hr⟩:=hp (qk ns k x);refine⟨r,?_,xv 4 _ _ _ r hr (wl 4 4 _ h1) (Ad ns k x hm)⟩;have e:gH [.lst fz (ns.map .int),.int (k:Int),T]=ofO (vh (fh ns k T) T (qk ns k ((Cu (fh ns k T) T).getD .non))):=by simp only[gH,oZ,vN];rw[if_pos ⟨by omega,h1,h2⟩]
 rw[e,hx,Y2,hr];rfl
noncomputable def lG(bE:List D->R D):Ev->O:=(ax (bS (me (g2 eqF (gOf de (ac (rvz 0) nlz)) (ciz 2)) (me (g2 eqF (g2 ixD (rvz 0) (ciz 0)) (csz [115,97,121])) (me (aA 1 bE (ac (g2 ixD (rvz 0) (ciz 1)) nlz)) (g3 leD leD (ciz 1) (gOf de (ac (g2 ixD (rvz 0) (ciz 1)) nlz)) (ciz 40)))))) oNx)
noncomputable def nJ(bd:List D->R D):Ev->O:=(ax (oIf (jY (gB2 neF (gOf de (ac (rvz 0) nlz)) (ciz 3)) (gB2 neF (g2 ixD (rvz 0) (ciz 0)) (csz [103,111]))) (ax (bS (λ_=>R.ok (D.bl false))) oNx) oNx) (ax (bS (me (aA 3 bd (ac (g2 ixD (rvz 0) (ciz 1)) (ac (ciz 0) (ac (g2 tq (ciz 12) (ciz 1)) nlz)))) (aA 3 bd (ac (g2 ixD (rvz 0) (ciz 2)) (ac (ciz 0) (ac (ciz 40) nlz)))))) oNx))
noncomputable def jv(lD nK:List D->R D):Ev->O:=(ax (oIf (gBn (av iV (av (gj (·=="tuple")) (rvz 0)))) (ax (bS (λ_=>R.ok (D.bl false))) oNx) oNx) (ax (bS (gOr (aA 1 lD (ac (rvz 0) nlz)) (gOr (aA 1 nK (ac (rvz 0) nlz)) (g2 eqF (rvz 0) (av mkT (ac (csz [119,105,112,101]) nlz)))))) oNx))
noncomputable def fE(gQ:List D->R D)(aB:Addr):Ev->O:=(ax (oIf (gBn (av iV (aA 1 gQ (ac (rvz 0) nlz)))) (ax (ml aB (ac (csz [116,104,105,115,32,105,115,32,110,111,32,111,114,100,101,114]) nlz)) oNx) oNx) oNx)
noncomputable def cV:Ev->O:=(ax (cN 3 (g2 ixD (g2 ixD (rvz 0) (ciz 2)) (ciz 0))) (ax (cN 4 (g2 bv (g2 bv (gSl (g2 ixD (rvz 0) (ciz 1)) (λ_=>R.ok none) (fm (rvz 3))) (av mkT (ac (rvz 1) nlz))) (gSl (g2 ixD (rvz 0) (ciz 1)) (fm (g2 bv (rvz 3) (ciz 1))) (λ_=>R.ok none)))) (ax (bS (av mkT (ac (g2 ixD (rvz 0) (ciz 0)) (ac (rvz 4) (ac (av mkT (ac (rvz 3) (ac (rvz 2) nlz))) nlz))))) oNx)))
noncomputable def iG(aO:List D->R D)(aI:Addr):Ev->O:=(ax (cN 2 (g2 ixD (g2 ixD (rvz 0) (ciz 1)) (g2 ixD (g2 ixD (rvz 0) (ciz 2)) (ciz 0)))) (ax (cN 3 (g2 ixD (g2 ixD (rvz 0) (ciz 2)) (ciz 1))) (ax (cN 4 (g2 bv (rvz 3) (gOf de (ac (rvz 1) nlz)))) (ax (oIf (gB2 gtD (rvz 4) (g2 ixD (rvz 0) (ciz 0))) (ax (ml aI (ac (csz [116,104,101,32,116,101,120,116,32,105,115,32,119,105,100,101,114,32,116,104,97,110,32,119,104,97,116,32,105,115,32,108,101,102,116,32,111,102,32,116,104,101,32,114,111,119]) nlz)) oNx) oNx) (ax (bS (aA 3 aO (ac (rvz 0) (ac (g2 bv (g2 bv (gSl (rvz 2) (λ_=>R.ok none) (fm (rvz 3))) (rvz 1)) (gSl (rvz 2) (fm (rvz 4)) (λ_=>R.ok none))) (ac (rvz 4) nlz))))) oNx)))))
noncomputable def jo(aI:Addr):Ev->O:=(ax (oIf (jY (gB2 geD (rvz 1) (gOf de (ac (g2 ixD (rvz 0) (ciz 1)) nlz))) (gB2 gtD (rvz 2) (g2 ixD (rvz 0) (ciz 0)))) (ax (ml aI (ac (csz [116,104,101,32,115,99,114,101,101,110,32,100,111,101,115,32,110,111,116,32,104,97,118,101,32,116,104,105,115,32,112,108,97,99,101]) nlz)) oNx) oNx) (ax (bS (av mkT (ac (g2 ixD (rvz 0) (ciz 0)) (ac (g2 ixD (rvz 0) (ciz 1)) (ac (av mkT (ac (rvz 1) (ac (rvz 2) nlz))) nlz))))) oNx))
noncomputable def gK(aO:List D->R D):Ev->O:=(ax (cN 1 (g2 ixD (g2 ixD (rvz 0) (ciz 1)) (g2 ixD (g2 ixD (rvz 0) (ciz 2)) (ciz 0)))) (ax (cN 2 (g2 ixD (g2 ixD (rvz 0) (ciz 2)) (ciz 1))) (ax (bS (aA 3 aO (ac (rvz 0) (ac (jO "str" ke (gSl (rvz 1) (λ_=>R.ok none) (fm (rvz 2))) (ac (g2 ixD (rvz 0) (ciz 0)) nlz)) (ac (rvz 2) nlz))))) oNx)))
noncomputable def fI(fR gW eG:List D->R D):Ev->O:=(ax (oIf (gB2 eqF (g2 ixD (rvz 1) (ciz 0)) (csz [115,97,121])) (ax (bS (aA 2 fR (ac (rvz 0) (ac (g2 ixD (rvz 1) (ciz 1)) nlz)))) oNx) oNx) (ax (oIf (gB2 eqF (g2 ixD (rvz 1) (ciz 0)) (csz [103,111])) (ax (bS (aA 3 gW (ac (rvz 0) (ac (g2 ixD (rvz 1) (ciz 1)) (ac (g2 ixD (rvz 1) (ciz 2)) nlz))))) oNx) oNx) (ax (bS (aA 1 eG (ac (rvz 0) nlz))) oNx)))
noncomputable def scr(wd:Nat)(rows:List (List Nat))(r c:Nat):D:=.tup [.int (wd:Int),.tup (rows.map .str),.tup [.int (r:Int),.int (c:Int)]]
structure SOk(wd:Nat)(rows:List (List Nat))(r c:Nat):Prop where
 w:wd<=100
 c:c<=wd
 r:r<rows.length
 m:rows.length<=100
 l:∀x∈rows,x.length=wd
def Di(rows:List (List Nat))(r:Nat)(x:List Nat)(h:r<rows.length):(rows.map D.str).take r++[D.str x]++(rows.map D.str).drop (r+1)=(rows.set r x).map D.str:=by rw[List.set_eq_take_append_cons_drop,if_pos h];simp[List.map_take,List.map_drop]
noncomputable def fF(cB:List D->R D)(aB:Addr):Ev->O:=(ax (oX (aA 1 cB (ac (rvz 1) nlz))) oNx)
noncomputable def eX(cB:List D->R D)(aB:Addr):Ev->O:=(ax (oIf (gBn (av iV (av (gj (·=="list")) (rvz 0)))) (ax (ml aB (ac (csz [116,104,105,115,32,105,115,32,110,111,32,108,105,115,116,32,111,102,32,111,114,100,101,114,115]) nlz)) oNx) oNx) (ax (pN (jz 1) (av bz (rvz 0)) (fF cB aB)) oNx))
noncomputable def kC(aL aG cC:List D->R D):Ev->O:=(ax (cN 2 (aA 2 cC (ac (rvz 2) (ac (rvz 3) nlz)))) oNx)
noncomputable def iW(aL aG cC:List D->R D):Ev->O:=(ax (oX (aA 1 aL (ac (rvz 0) nlz))) (ax (oX (aA 1 aG (ac (rvz 1) nlz))) (ax (cN 2 (rvz 0)) (ax (pN (jz 3) (av bz (rvz 1)) (kC aL aG cC)) (ax (bS (rvz 2)) oNx)))))
noncomputable def gM:Ev->O:=(ax (oIf (gB2 eqF (g2 ixD (rvz 0) (ciz 0)) (csz [115,97,121])) (ax (bS (gOf de (ac (g2 ixD (rvz 0) (ciz 1)) nlz))) oNx) oNx) (ax (oIf (gB2 eqF (g2 ixD (rvz 0) (ciz 0)) (csz [103,111])) (ax (bS (ciz 2)) oNx) oNx) (ax (bS (ciz 1)) oNx)))
noncomputable def qP(aG bX:List D->R D):Ev->O:=(ax (oX (aA 1 aG (ac (rvz 0) nlz))) (ax (bS (gOf zN (ac (bf (dS (av bz (rvz 0)) [] (λ_=>R.ok true) (aA 1 bX (ac (rvz 0) nlz)))) nlz))) oNx))
noncomputable def dU:Ev->O:=(ax (oIf (gB2 neF (g2 ixD (rvz 0) (ciz 0)) (g2 ixD (rvz 1) (ciz 0))) (ax (bS (λ_=>R.ok D.non)) oNx) oNx) (ax (oIf (gB2 neF (g2 ixD (rvz 0) (ciz 0)) (csz [115,97,121])) (ax (bS (rvz 1)) oNx) oNx) (ax (cN 2 (g2 bv (g2 ixD (rvz 0) (ciz 1)) (g2 ixD (rvz 1) (ciz 1)))) (ax (bS (gIf (gB2 leD (gOf de (ac (rvz 2) nlz)) (ciz 40)) (av mkT (ac (csz [115,97,121]) (ac (rvz 2) nlz))) (λ_=>R.ok D.non))) oNx))))
noncomputable def gm(aG bI:List D->R D):Ev->O:=(ax (wQ 1 3 (gIf (gB2 gtD (gOf de (ac (rvz 1) nlz)) (ciz 0)) (aA 2 bI (ac (g2 ixD (rvz 1) (av CC (ciz 1))) (ac (rvz 2) nlz))) (λ_=>R.ok D.non))) (ax (oIf (gB2 isF (rvz 3) (λ_=>R.ok D.non)) (ax (Fk 1 (rvz 2)) oNx) (ax (CM 1 (av CC (ciz 1)) (rvz 3)) oNx)) oNx))
noncomputable def iM(aG bI:List D->R D):Ev->O:=(ax (oX (aA 1 aG (ac (rvz 0) nlz))) (ax (yh 1 (jU nlz)) (ax (pN (jz 2) (av bz (rvz 0)) (gm aG bI)) (zC 1 (ax (bS (rvz 1)) oNx)))))
noncomputable def kz:Ev->O:=(ax (cN 1 (g2 bv (rvz 1) (gIf (gB2 eqF (g2 ixD (rvz 2) (ciz 0)) (csz [115,97,121])) (gOf de (ac (g2 ixD (rvz 2) (ciz 1)) nlz)) (g2 bv (ciz 1) (gOf xC (ac (g2 eqF (g2 ixD (rvz 2) (ciz 0)) (csz [103,111])) nlz)))))) oNx)
noncomputable def jh:Ev->O:=(ax (cN 1 (ciz 0)) (ax (pN (jz 2) (av bz (rvz 0)) kz) (ax (bS (rvz 1)) oNx)))
inductive Od where
 |say (x:List Nat)
 |go (r c:Nat)
 |wipe
noncomputable def oD:Od->D
 |.say x=>.tup [.str [115,97,121],.str x]
 |.go r c=>.tup [.str [103,111],.int (r:Int),.int (c:Int)]
 |.wipe=>.tup [.str [119,105,112,101]]
noncomputable def okO:Od->Bool
 |.say x=>plain x && (decide (1<=x.length) && decide (x.length<=40))
 |.go r c=>decide (r<=11) && decide (c<=40)
 |.wipe=>true
def bD:Od->Nat
 |.say x=>x.length
 |.go _ _=>2
 |.wipe=>1
noncomputable def gA:Od->Od->Option Od
 |.say x,.say y=>if x.length+y.length<=40 then some (.say (x++y))else none
 |.go _ _,.go r c=>some (.go r c)
 |.wipe,.wipe=>some .wipe
 |_,_=>none
def sQ:Od->Nat
 |.say x=>x.length
 |_=>0
def jD:Option Od->D
 |some o=>oD o
 |none=>.non
noncomputable def fM(acc:List Od)(o:Od):List Od:=match acc.getLast? with
 |none=>[o]
 |some l=>match gA l o with
  |some j=>acc.dropLast++[j]
  |none=>acc++[o]
def Am(o:Od):fM [] o=[o]:=rfl
def jH{acc:List Od}{l o j:Od}(h:gA l o=some j):fM (acc++[l]) o=acc++[j]:=by simp[fM,h]
def lu{acc:List Od}{l o:Od}(h:gA l o=none):fM (acc++[l]) o=acc++[l]++[o]:=by simp[fM,h]
def shO(os:List Od):List Od:=os.foldl fM []
def CL(l:List Od):l=[]\/∃l' b,l=l'++[b]:=by
 rcases List.eq_nil_or_concat l with h|⟨l',b,h⟩;·exact .inl h
 ·exact .inr ⟨l',b,by rw[h,List.concat_eq_append]⟩
def NW(o:Od):fl 10 (oD o)=true:=by cases o <;> rfl
def Ju(os:List Od):Nat:=(os.map sQ).sum
def Eu{l o j:Od}(h:gA l o=some j):sQ j=sQ l+sQ o/\bD j<=bD l+bD o:=by
 cases l <;> cases o <;> simp[gA]at h;·obtain⟨_,rfl⟩:=h;simp[sQ,bD]
 ·subst h;simp[sQ,bD]
 ·subst h;simp[sQ,bD]
def yu(acc:List Od)(o:Od):Ju (fM acc o)=Ju acc+sQ o/\(fM acc o).length<=acc.length+1/\((fM acc o).map bD).sum<=(acc.map bD).sum+bD o:=by
 rcases CL acc with rfl|⟨a,l,rfl⟩;·rw[Am];simp[Ju]
 ·cases hj:gA l o with
  |none=>rw[lu hj];simp[Ju,sw];omega
  |some j=>obtain⟨h1,h2⟩:=Eu hj;rw[jH hj];simp[Ju,sw];omega
def Gv{p:Addr}{fs:List (Nat×Fd)}(h:ρ[i]?=some (some (.obj true C p fs))):yE C ρ i=.ok (p,fs):=by unfold yE;rw[h];exact if_pos rfl
def Ou(sts tk:List D):List (Nat×Fd):=[(0,.own sts),(1,.own tk)]
def st3(a b:D)(c:Int):D:=.tup [a,b,.int c]
noncomputable def Qb:List (Nat×Fd)->Option (List D×List D)
 | [(0,.own a),(1,.own b)]=>some (a,b)
 |_=>none
def t3D:D->Option (D×D×Int)
 |.tup [a,b,.int c]=>some (a,b,c)
 |_=>none
def MS(sts:List D):Option (D×D×Int):=sts.getLast?.bind t3D
section
variable{Cs Co Cr Cb Cp:Addr}
noncomputable def Pq(k:List D->List D->D->D->Int->List D->RM):MF:=λfs ds=>match Qb fs with
 |none=>.no
 |some (sts,tk)=>(match MS sts with
  |none=>.no
  |some (a,b,c)=>k sts tk a b c ds)
def fl1(sts tk:List D):GE (Ou sts tk) 1=.ok tk:=rfl
end
def OG(a b c:D):ixD (.tup [a,b,c]) (.int 0)=some a:=rfl
def Qn(a b c:D):ixD (.tup [a,b,c]) (.int 1)=some b:=rfl
def t2(x y:D):mkT [x,y]=.ok (.tup [x,y]):=m_t (by simp)
def tl_(x:List D):nB [.lst false x]=some (.tup x):=rfl
def L7(f:Bool)(x:List D):bz (.lst f x)=.ok x:=rfl
def vx(h:screen d=true):jN d=true:=by
 cases d <;> first|(cases h;done)|skip
 rename_i xs
 match xs,h with
 | [],h=>cases h
 | [_],h=>cases h
 | [_,_],h=>cases h
 |a::b::c::e::l,h=>cases h
 | [a,r,p],h=>
  cases a <;> first|(cases h;done)|skip
  cases r <;> first|(simp[screen]at h;done)|skip
  simp only[screen,xf]at h;obtain⟨⟨h1,h2⟩,h3⟩:=h;simp only[vi,xf,xp]at h2;simp only[inB,xf,wa]at h1;simp only[jN,xf,xp];refine⟨⟨rfl,λr hr=>?_⟩,?_⟩
  ·have q:=h2.2 r hr;cases r <;> first|rfl|(cases q;done)|skip
   simp only[pV,xf,o8]at q;simp only[Ir,wa];have:=aW;omega
  ·cases p <;> first|(cases h3;done)|skip
   rename_i ps
   match ps,h3 with
   | [a,b],h3=>
    simp only[pU,xf]at h3;rw[xp];intro x hx;rcases zL.1 hx with rfl|hx;·cases x <;> first|rfl|exact absurd h3.1 (by simp[inB])
    ·rcases zL.1 hx with rfl|hx;·cases x <;> first|rfl|exact absurd h3.2 (by simp[inB])
     ·cases hx
def kQ(h:screen d=true):kX C [d]=.ok .non:=by show(if jN d=true then (if screen d=true then R.ok D.non else .ex C)else .no)=_;rw[if_pos (vx h),if_pos h]
noncomputable def B8(b m r:Int):Bool:=decide (0<=b) && decide (b<=r - 1) && (decide (1<=m) && decide (m<=r - b))
def LQ(l w:Nat):D->D
 |.str x=>.str ((x.drop l).take w)
 |d=>d
noncomputable def NJ:List D->R D
 | [.tup [.int wd,.tup rows,p],.int t,.int l,.int h,.int w]=>if screen (.tup [.int wd,.tup rows,p])=true/\B8 t h rows.length=true/\B8 l w wd=true then .ok (.tup [.int w,.tup (((rows.drop t.toNat).take h.toNat).map (LQ l.toNat w.toNat)),.tup [.int 0,.int 0]])else .no
 |_=>.no
def Hi{wd:Int}{p:D}(h:screen (.tup [.int wd,.tup rows,p])=true):(1<=wd/\wd<=40)/\(1<=rows.length/\rows.length<=12)/\(∀r∈rows,∃x,r=.str x/\plain x=true/\(x.length:Int)=wd)/\pU p wd rows.length=true:=by
 simp only[screen,xf]at h;obtain⟨⟨h1,h2⟩,h3⟩:=h;simp only[vi,xf,xp,wa]at h2;simp only[inB,xf,wa]at h1;refine⟨h1,h2.1,λr hr=>?_,h3⟩;have q:=h2.2 r hr;cases r <;> first|(cases q;done)|skip
 rename_i x;simp only[pV,xf,o8]at q;exact⟨x,rfl,q.1,q.2⟩
noncomputable def pl(ns:List Int)(a:Nat)(wd m:Nat):D:=.tup [.int (bP ns (a+400) m),.int (bP ns (a+401) (wd+1))]
abbrev St:=Nat×List (List Nat)×Nat×Nat
def sD(s:St):D:=scr s.1 s.2.1 s.2.2.1 s.2.2.2
noncomputable def bt:St->Od->Option St
 | (wd,rows,r,c),.say x=>if wd<c+x.length then none else some (wd,rows.set r ((rows.getD r []).take c++x++(rows.getD r []).drop (c+x.length)),r,c+x.length)
 | (wd,rows,r,c),.go n k=>if rows.length<=n\/wd<k then none else some (wd,rows,n,k)
 | (wd,rows,r,c),.wipe=>some (wd,rows.set r ((rows.getD r []).take c++List.replicate (wd - c) 32),r,c)
structure GS(s:St):Prop where
 w1:1<=s.1
 w2:s.1<=40
 m:s.2.1.length<=12
 r:s.2.2.1<s.2.1.length
 c:s.2.2.2<=s.1
 l:∀x∈s.2.1,x.length=s.1/\plain x=true
def GS.screen{s:St}(h:GS s):screen (sD s)=true:=by
 obtain⟨wd,rows,r,c⟩:=s;have h1:=h.w1;have h2:=h.w2;have h3:=h.m;have h4:=h.r;have h5:=h.c;have h6:=h.l;dsimp only at h1 h2 h3 h4 h5 h6;have hf:vi (.tup (rows.map .str)) (wd:Int)=true:=by simp only[vi,zy,xf,wa,xp];refine⟨⟨by omega,by omega⟩,λd hd=>?_⟩;obtain⟨x,hx,rfl⟩:=wU.1 hd;obtain⟨q1,q2⟩:=h6 x hx;simp[pV,q1,q2]
 simp only[sD,scr,Q.screen,hf,pU,inB,zy,xf,wa];refine⟨⟨⟨by omega,by omega⟩,trivial⟩,?_⟩;omega
def Ls(C:Addr):Option St->R D
 |some s=>.ok (sD s)
 |none=>.ex C
def ii{x y:List Nat}(h1:plain x=true)(h2:plain y=true):plain (x++y)=true:=by simp only[plain,List.all_append,xf]at *;exact⟨h1,h2⟩
def jf{x y:List Nat}(h:plain x=true)(hs:∀c∈y,c∈x):plain y=true:=by simp only[plain,xp]at h⊢;exact λc hc=>h c (hs c hc)
def yy{α:Type}{l:List α}{a x:α}(h:x∈l.set i a):x=a\/x∈l:=by
 rcases List.mem_or_eq_of_mem_set h with h|h;·exact .inr h
 ·exact .inl h
def iA{rows:List (List Nat)}{r:Nat}(h:r<rows.length):rows.getD r []∈rows:=by rw[zi,xn h];exact jg h
def lS{s s':St}{o:Od}(h:GS s)(ho:okO o=true)(e:bt s o=some s'):GS s':=by
 obtain⟨wd,rows,r,c⟩:=s;have h1:=h.w1;have h2:=h.w2;have h3:=h.m;have h4:=h.r;have h5:=h.c;have h6:=h.l;dsimp only at h1 h2 h3 h4 h5 h6;obtain⟨g1,g2⟩:=h6 _ (iA h4);cases o with
 |say x=>
  simp only[okO,xf]at ho;by_cases hn:wd<c+x.length;·simp only[bt,hn]at e;cases e
  ·simp only[bt,hn]at e;cases e;refine⟨h1,h2,by simpa using h3,by simpa using h4,by dsimp only;omega,λy hy=>?_⟩;rcases yy hy with rfl|hy;·refine⟨by simp only[w6,wo,n6];omega,ii (ii (jf g2 λc hc=>l4 hc) ho.1) (jf g2 λc hc=>Z1 hc)⟩
   ·exact h6 y hy
 |go n k=>
  by_cases hn:rows.length<=n\/wd<k;·simp only[bt,hn]at e;cases e
  ·simp only[bt,hn]at e;cases e;exact⟨h1,h2,h3,by dsimp only;omega,by dsimp only;omega,h6⟩
 |wipe=>
  cases e;refine⟨h1,h2,by simpa using h3,by simpa using h4,h5,λy hy=>?_⟩;rcases yy hy with rfl|hy
  ·refine⟨by simp only[w6,wo,rE];omega,ii (jf g2 λc hc=>l4 hc) ?_⟩;simp only[plain,xp];intro z hz;rw[(Zu.1 hz).2];decide
  ·exact h6 y hy
noncomputable def rn(a:Option St)(os:List Od):Option St:=os.foldl (λa o=>a.bind λs=>bt s o) a
def gE(a:Option St)(o:Od)(os:List Od):rn a (o::os)=rn (a.bind λs=>bt s o) os:=rfl
def fY(a:Option St)(os ps:List Od):rn a (os++ps)=rn (rn a os) ps:=Zy ..
theorem fT:∀os:List Od,rn none os=none
 | []=>rfl
 |_::os=>fT os
theorem yI:∀(os:List Od){s s':St},GS s->(∀o∈os,okO o=true)->rn (some s) os=some s'->GS s'
 | [],s,s',h,_,e=>by cases e;exact h
 |o::os,s,s',h,ho,e=>by
  rw[gE,Zm]at e;cases q:bt s o with
  |none=>rw[q,fT]at e;cases e
  |some s1=>rw[q]at e;exact yI os (lS h (ho o (zx ..)) q) (λp hp=>ho p (zF _ hp)) e
def OZ(os:List Od):Int:=((os.map bD).sum:Nat)
section
variable{Cs Co Cr Cp:Addr}
inductive Dd where
 |scroll (z:Int)
 |ord (o:Od)
end
section
variable{PD Cs Co Cr:Addr}
def Es{n:Nat}{F:MF}{p:Addr}{fs:List (Nat×Fd)}(ho:ρ[i]?=some (some (.obj true C p fs)))(ha:gl ρ=.ok ds)(hl:ds.length=n)(hF:F fs ds=.ok d fs'):kS C i n F gl ρ=.re d (ρ.set i (some (.obj true C p fs'))):=by unfold kS LV;rw[ho];dsimp only;rw[if_pos rfl,R.ok_out,ha,R.ok_out];dsimp only;rw[if_pos hl,hF];rfl
end
noncomputable def jy(aL bE:List D->R D):Ev->O:=(ax (oX (aA 1 aL (ac (rvz 0) nlz))) (ax (oIf (jY (gBn (av iV (av (gj (·=="list")) (rvz 1)))) (gB2 gtD (gOf de (ac (rvz 1) nlz)) (gOf de (ac (g2 ixD (rvz 0) (ciz 1)) nlz)))) (ax (bS (λ_=>R.ok (D.bl false))) oNx) oNx) (ax (bS (gOf CB (ac (bf (dS (av bz (rvz 1)) [0] (λ_=>R.ok true) (me (aA 1 bE (ac (rvz 0) nlz)) (g2 leD (gOf de (ac (rvz 0) nlz)) (g2 ixD (rvz 1) (ciz 0)))))) nlz))) oNx)))
def txt(m:Nat)(x:List Nat):Bool:=plain x && decide (x.length<=m)
def pE{x:List Nat}(h:x.length<=1000):ir [.str x]=.ok (.bl (plain x)):=if_pos (wt h aW)
def KO(f:Bool)(ds:List D):CB [.lst f (ds.map λ_=>D.bl true)]=some (.bl true):=by have:=sJ (λ_=>true) f ds;rw[this];simp
def NH{x y:List D}(h:x.length+y.length<=sizeLine):bv (.lst false x) (.lst false y)=some (.lst false (x++y)):=by simp only[bv];rw[if_pos h]
noncomputable def dc(n wd:Nat)(xs:List (List Nat)):Bool:=decide (xs.length<=n) && xs.all (txt wd)
def lF(c:Nat)(x:D)(xs:List D):bL c (x::xs)=.tup [.int (c:Int),x]::bL (c+1) xs:=by
 unfold bL;rw[vz,List.range_succ_eq_map,xk,o9];refine vC (_::·) (k9 λi _=>?_);simp only[Function.comp,List.getD_cons_succ]
 congr 2
 congr 1
 congr 1
 omega
def mx(c:Nat):bL c []=[]:=rfl
noncomputable def kR(rows:List D)(wd:Nat):Prop:=∀r∈rows,∃x,r=D.str x/\x.length=wd/\plain x=true
def tO{x y:List Nat}(h1:plain x=true)(h2:plain y=true):plain (x++y)=true:=by simp only[plain,List.all_append,xf]at *;exact⟨h1,h2⟩
def yT{x:List Nat}(n:Nat)(h:plain x=true):plain (x.take n)=true:=by simp only[plain,xp]at *;exact λc hc=>h c (l4 hc)
def yH{x:List Nat}(n:Nat)(h:plain x=true):plain (x.drop n)=true:=by simp only[plain,xp]at *;exact λc hc=>h c (Z1 hc)
def EL{wd t:Nat}(h:kR rows wd)(ht:t<rows.length):∃x,rows.getD t .non=D.str x/\x.length=wd/\plain x=true:=by refine h _ ?_;rw[zi,xn ht];exact jg ht
def Em{α:Type}(x:List α)(n:Nat):jJ x (some (n:Int)) none=x.drop n:=by
 unfold jJ;rw[HT.sIx_nat,HT.sIx_none];by_cases h:n<=x.length;·rw[Zs h,j3 (by simp)]
 ·rw[Zt (by omega),Zi,List.take_nil,Y0 (by omega)]
def K8{α:Type}(x:List α)(n:Nat):jJ x none (some (n:Int))=x.take n:=by
 unfold jJ;rw[HT.sIx_nat,HT.sIx_none,c8,b6];by_cases h:n<=x.length;·rw[Zs h]
 ·rw[Zt (by omega),j3 (by omega),j3 (by omega)]
def Hu{wd:Nat}{p:D}(h:screen (.tup [.int (wd:Int),.tup rows,p])=true):kR rows wd:=by obtain⟨_,_,hr,_⟩:=Hi h;intro r m;obtain⟨x,rfl,a,b⟩:=hr r m;exact⟨x,rfl,by omega,a⟩
noncomputable def gL(ic:List D->R D)(aq:Addr):Ev->O:=(ax (oIf (gBn (av iV (aA 2 ic (ac (rvz 0) (ac (rvz 1) nlz))))) (ax (ml aq (ac (csz [116,104,101,115,101,32,97,114,101,32,110,111,32,114,111,119,115,32,116,104,97,116,32,116,104,101,32,115,99,114,101,101,110,32,99,97,110,32,115,104,111,119]) nlz)) oNx) oNx) oNx)
noncomputable def iH:Ev->O:=(ax (cN 2 (g2 ixD (rvz 0) (ciz 0))) (ax (cN 3 (g2 tq (gOf de (ac (g2 ixD (rvz 0) (ciz 1)) nlz)) (gOf de (ac (rvz 1) nlz)))) (ax (bS (g2 bv (bf (dS (av bz (rvz 1)) [2] (λ_=>R.ok true) (jO "str" ke (rvz 0) (ac (rvz 1) nlz)))) (g2 fq (bf (jU (ac (g2 fq (csz [32]) (rvz 2)) nlz))) (rvz 3)))) oNx)))
noncomputable def dM(bh bx:List D->R D):Ev->O:=(ax (cN 5 (g2 ixD (g2 ixD (rvz 0) (ciz 1)) (rvz 3))) (ax (Iy 2 (bf (dS (av bC (ac (g2 ixD (rvz 0) (ciz 0)) nlz)) [3,4,5] (gB2 neF (g2 ixD (rvz 3) (rvz 0)) (g2 ixD (rvz 2) (rvz 0))) (av mkT (ac (rvz 1) (ac (rvz 0) nlz)))))) oNx))
noncomputable def eR(bh bx:List D->R D):Ev->O:=(ax (oX (aA 2 bh (ac (rvz 0) (ac (rvz 1) nlz)))) (ax (yh 2 (jU nlz)) (ax (pN (vt [3,4]) (av rl (aA 2 bx (ac (rvz 0) (ac (rvz 1) nlz)))) (dM bh bx)) (zC 2 (ax (bS (rvz 2)) oNx)))))
def A5{gt:Ev->R Bool}(p:D->Bool)(h:D->D)(tl:Ev)(ds:List D)(a:Option Sl)(H:∀d∈ds,gt (some (.val d)::tl)=.ok (p d)/\ge (some (.val d)::tl)=.ok (h d)):dI gt ge ds (a::tl)=.ok ((ds.filter p).map h):=
 ja p h tl ds a λd m=>⟨(H d m).1,λ_=>(H d m).2⟩
noncomputable def CG(wd:Nat)(x:List Nat):List Nat:=x++List.replicate (wd - x.length) 32
noncomputable def fk(k wd:Nat)(x y:List Nat):List D:=((List.range wd).filter λc=>!(x.getD c 0==y.getD c 0)).map λ(c:Nat)=>.tup [.int (k:Int),.int (c:Int)]
def wL:D->List Nat
 |.str x=>x
 |_=>[]
noncomputable def gT(wd:Nat)(rows:List D):Nat->List D->List D
 |_,[]=>[]
 |k,y::ys=>fk k wd (wL (rows.getD k .non)) (wL y)++gT wd rows (k+1) ys
def nP(k wd:Nat)(x y:List Nat):(fk k wd x y).length<=wd:=by unfold fk;rw[zy];exact wt (Zw ..) (by simp)
theorem qu{F1 F2:List D->R D}{rows:List D}{wd:Nat}(hw:wd<=40)(hr:kR rows wd)(p:D)(x1:Option Sl):∀(ys:List D)(k:Nat)(x3 x4 x5:Option Sl)(acc:List D),k+ys.length<=rows.length->kR ys wd->acc.length+40 * ys.length<=1000->∃y3 y4 y5,cO (vt [3,4]) (dM F1 F2) (bL k ys) [some (.val (.tup [.int (wd:Int),.tup rows,p])),x1,some (.own acc),x3,x4,x5]
  = .nx [some (.val (.tup [.int (wd:Int),.tup rows,p])),x1,some (.own (acc++gT wd rows k ys)),y3,y4,y5]
 | [],k,x3,x4,x5,acc,_,_,_=>⟨x3,x4,x5,by rw[mx,qZ,gT,t8]⟩
 |y::ys,k,x3,x4,x5,acc,hk,hy,ha=>by
  obtain⟨x,hx,a1,a2⟩:=EL hr (show k<rows.length by simp at hk;omega);obtain⟨z,rfl,b1,b2⟩:=hy y (zx ..);have hsr:=nP k wd x z;obtain⟨y3,y4,y5,ih⟩:=qu hw hr p x1 ys (k+1) (some (.val (.int (k:Int)))) (some (.val (.str z))) (some (.val (.str x))) (acc++fk k wd x z) (by simp at hk;omega) (λr m=>hy r (zF _ m)) (by simp at ha⊢;omega);refine⟨y3,y4,y5,?_⟩;have hB:dM F1 F2 [some (.val (.tup [.int (wd:Int),.tup rows,p])),x1,some (.own acc),some (.val (.int (k:Int))),some (.val (.str z)),x5]=.nx [some (.val (.tup [.int (wd:Int),.tup rows,p])),x1,some (.own (acc++fk k wd x z)),some (.val (.int (k:Int))),some (.val (.str z)),some (.val (.str x))]:=by
   have lb:=aW;have x0:=OG;have x1':=Qn;have e1:ixD (.tup rows) (.int (k:Int))=some (.str x):=CH (by rw[<- hx,zi,xn (by simp at hk;omega)];rfl);have r1:bC [.int (wd:Int)]=.ok ((List.range wd).map λ(i:Nat)=>D.int (i:Int)):=lr (by omega);have m2:=t2;have e:dI (gB2 neF (g2 ixD (rvz 3) (rvz 0)) (g2 ixD (rvz 2) (rvz 0))) (av mkT (ac (rvz 1) (ac (rvz 0) nlz))) ((List.range wd).map λ(i:Nat)=>D.int (i:Int)) [none,some (.val (.int (k:Int))),some (.val (.str z)),some (.val (.str x))]=.ok (fk k wd x z):=by
    have:=A5 (gt:=gB2 neF (g2 ixD (rvz 3) (rvz 0)) (g2 ixD (rvz 2) (rvz 0))) (ge:=av mkT (ac (rvz 1) (ac (rvz 0) nlz))) (λd=>match d with|.int i=>!(x.getD i.toNat 0==z.getD i.toNat 0)|_=>false) (λd=>.tup [.int (k:Int),d]) [some (.val (.int (k:Int))),some (.val (.str z)),some (.val (.str x))] ((List.range wd).map λ(i:Nat)=>D.int (i:Int)) none λd hd=>by
     obtain⟨i,hi,rfl⟩:=wU.1 hd;rw[pO]at hi;have e2:ixD (.str x) (.int (i:Int))=some (.str [x.getD i 0]):=L4 (by rw[zi,xn (by omega)];rfl);have e4:ixD (.str z) (.int (i:Int))=some (.str [z.getD i 0]):=L4 (by rw[zi,xn (by omega)];rfl);have e3:=vN i;have e5:∀u v:Nat,(([u]:List Nat)==[v])=(u==v):=λu v=>by simp
     refine⟨?_,?_⟩;·walk_at "run"
     ·walk_at "run"
    rw[this,List.filter_map,o9];unfold fk;simp only[Function.comp_def,vN]
   have i2:fU [3,4,5] [some (.val (.tup [.int (wd:Int),.tup rows,p])),x1,some (.own acc),some (.val (.int (k:Int))),some (.val (.str z)),some (.val (.str x))]=[none,some (.val (.int (k:Int))),some (.val (.str z)),some (.val (.str x))]:=rfl;have z1:(fk k wd x z).length<=sizeLine:=by omega
   have z2:acc.length+(fk k wd x z).length<=sizeLine:=by simp at ha;omega
   unfold dM
   walk_at "run"
  rw[lF,eU rfl hB,ih,gT,hx,tV];rfl
def qg(n c:Nat)(h:(decide (32<=c) && decide (c<=126))=true):plain (List.replicate n c)=true:=by simp only[plain,xp];intro x hx;rw[(Zu.1 hx).2];exact h
noncomputable def Eb(bj dZ:List D->R D):Ev->O:=(ax (OM 2 (vG (gB2 gtD (gOf de (ac (rvz 2) nlz)) (ciz 0)) (av iV (aA 2 dZ (ac (g2 ixD (rvz 2) (av CC (ciz 1))) (ac (rvz 3) nlz))))) (ax (wQ 2 4 (g2 ixD (rvz 2) (av CC (ciz 1)))) (ax (CM 2 (av CC (ciz 1)) (av mkT (ac (g2 ixD (rvz 4) (ciz 0)) (ac (g2 ixD (rvz 4) (ciz 1)) (ac (g2 bv (g2 ixD (rvz 4) (ciz 2)) (ciz 1)) nlz))))) oNx)) (ax (Fk 2 (av mkT (ac (g2 ixD (rvz 3) (ciz 0)) (ac (g2 ixD (rvz 3) (ciz 1)) (ac (ciz 1) nlz))))) oNx)) oNx)
noncomputable def zU(bj dZ:List D->R D):Ev->O:=(ax (yh 2 (jU nlz)) (ax (pN (jz 3) (av bz (aA 2 bj (ac (rvz 0) (ac (rvz 1) nlz)))) (Eb bj dZ)) (zC 2 (ax (bS (rvz 2)) oNx))))
noncomputable def iC(aj bT:List D->R D):Ev->O:=(ax (cN 6 (aA 3 aj (ac (rvz 0) (ac (g2 bv (rvz 1) (g2 fq (ciz 40) (rvz 4))) (ac (ciz 4) nlz))))) (ax (oIf (gB2 eqF (rvz 6) (ciz 0)) (ax (cN 5 (aA 3 bT (ac (rvz 0) (ac (g2 bv (g2 bv (rvz 1) (g2 fq (ciz 40) (rvz 4))) (ciz 1)) (ac (g2 ixD (rvz 2) (ciz 0)) nlz))))) oNx) (ax (oIf (gB2 ltD (rvz 6) (ciz 3)) (ax (cN 7 (aA 3 aj (ac (rvz 0) (ac (g2 bv (g2 bv (rvz 1) (g2 fq (ciz 40) (rvz 4))) (ciz 30)) (ac (g2 ixD (rvz 2) (ciz 0)) nlz))))) (ax (cN 5 (g2 bv (g2 bv (gSl (rvz 5) (λ_=>R.ok none) (fm (rvz 7))) (g2 ixD (csz [97,98,32,35]) (aA 3 aj (ac (rvz 0) (ac (g2 bv (g2 bv (rvz 1) (g2 fq (ciz 40) (rvz 4))) (ciz 31)) (ac (ciz 4) nlz)))))) (gSl (rvz 5) (fm (g2 bv (rvz 7) (ciz 1))) (λ_=>R.ok none)))) oNx)) oNx) oNx)) (ax (Fk 3 (jO "str" eP (rvz 5) (ac (csz [32]) nlz))) oNx)))
noncomputable def jc(aj bT:List D->R D):Ev->O:=(ax (yh 3 (jU nlz)) (ax (pN (vt [4,5]) (av rl (g2 ixD (rvz 2) (ciz 1))) (iC aj bT)) (zC 3 (ax (bS (gSl (rvz 3) (λ_=>R.ok none) (fm (g2 tq (gOf de (ac (rvz 3) nlz)) (aA 3 aj (ac (rvz 0) (ac (g2 bv (rvz 1) (ciz 399)) (ac (ciz 2) nlz)))))))) oNx))))
noncomputable def jw:Ev->O:=(ax (yh 2 (dS (av bz (rvz 1)) [0] (λ_=>R.ok true) (g2 bv (rvz 0) (g2 fq (csz [32]) (g2 tq (g2 ixD (rvz 1) (ciz 0)) (gOf de (ac (rvz 0) nlz))))))) (zC 2 (ax (bS (gOf nB (ac (g2 bv (rvz 2) (g2 fq (bf (jU (ac (g2 fq (csz [32]) (g2 ixD (rvz 0) (ciz 0))) nlz))) (g2 tq (gOf de (ac (g2 ixD (rvz 0) (ciz 1)) nlz)) (gOf de (ac (rvz 1) nlz))))) nlz))) oNx)))
def EH:20000<=sizeLine:=by decide
def qt{α:Type}(l:List α):l=[]\/∃l' b,l=l'++[b]:=by
 rcases List.eq_nil_or_concat l with h|⟨l',b,h⟩;·exact .inl h
 ·exact .inr ⟨l',b,by rw[h,List.concat_eq_append]⟩
def zq(g:Nat->Bool)(l:List Nat):l.take (l.length - (l.reverse.takeWhile g).length)=(l.reverse.dropWhile g).reverse:=by
 have e:l.reverse=l.reverse.takeWhile g++l.reverse.dropWhile g:=Yi.symm;generalize l.reverse.takeWhile g=a at *;generalize l.reverse.dropWhile g=b at *;have e2:l=b.reverse++a.reverse:=by rw[<- List.reverse_append,<- e,List.reverse_reverse]
 subst e2;rw[List.take_left' (by simp)]
def zI(g:Nat->Bool)(X:PySem.Str):(PySem.Txt.stripBy g false true X).cps.toList=(X.cps.toList.reverse.dropWhile g).reverse:=by
 rw[<- zq];have hl:X.length=X.cps.toList.length:=by simp[PySem.Str.length]
 have h0:PySem.stripLo g false X=0:=rfl;have h1:PySem.stripHi g true X 0=X.cps.toList.length - (X.cps.toList.reverse.takeWhile g).length:=by rw[<- hl];rfl
 unfold PySem.Txt.stripBy;split;·rename_i hs;unfold PySem.stripSame at hs;rw[h0,h1,xf,o8,o8,hl]at hs;rw[hs.2,cY]
 ·unfold PySem.stripped;rw[h0,h1];show(X.cps.extract 0 _).toList=_;rw[Array.toList_extract];simp[List.extract_eq_take_drop]
def qA(x:List Nat)(c:Nat):bu x [c]=(x.reverse.dropWhile λd=>[c].contains d).reverse:=by
 show(PySem.Txt.stripBy _ false true _).cps.toList=_;rw[zI];have e:(λd=>#[c].contains d)=λd=>[c].contains d:=by funext d;simp
 show(x.toArray.toList.reverse.dropWhile λd=>#[c].contains d).reverse=_;rw[e]
def uC{x:List Nat}{m:Nat}(h:plain x=true)(hl:x.length<=m):plain (bu x [32])=true/\(bu x [32]).length<=m:=by
 rw[qA];have hs:(x.reverse.dropWhile λd=>[32].contains d).Sublist x.reverse:=List.dropWhile_sublist _;refine⟨?_,?_⟩;·simp only[plain,xp,List.mem_reverse]at h⊢;intro c hc;exact h c (List.mem_reverse.1 (hs.subset hc))
 ·have:=hs.length_le;simp at this⊢;omega
noncomputable def OV:List D->R D
 | [.tup [.int a,.int b,.int n],.tup [.int c,.int d]]=>.ok (.bl ((a==c) && (b+n==d)))
 |_=>.no
def spD(p:Nat×Nat):D:=.tup [.int (p.1:Int),.int (p.2:Int)]
noncomputable def vB(wd:Nat)(x y:List Nat):List Nat:=(List.range wd).filter λc=>!(x.getD c 0==y.getD c 0)
noncomputable def fV(wd:Nat):Nat->List (List Nat×List Nat)->List (Nat×Nat)
 |_,[]=>[]
 |k,p::ps=>(vB wd p.1 p.2).map (λc=>(k,c))++fV wd (k+1) ps
noncomputable def prs(rows ys:List D):List (List Nat×List Nat):=List.zipWith (λr y=>(wL r,wL y)) rows ys
theorem ym(wd:Nat)(rows:List D):∀(ys:List D)(k:Nat),k+ys.length<=rows.length->gT wd rows k ys=(fV wd k (prs (rows.drop k) ys)).map spD
 | [],k,_=>by unfold prs;rw[List.zipWith_nil_right];rfl
 |y::ys,k,h=>by
  simp only[vz]at h;have e:rows.drop k=rows.getD k .non::rows.drop (k+1):=by rw[b7 (by omega),zi,xn (by omega)];rfl
  unfold prs;rw[e,List.zipWith_cons_cons,gT,ym wd rows ys (k+1) (by omega)];show _=(((vB wd (wL (rows.getD k .non)) (wL y)).map λc=>(k,c))++fV wd (k+1) _).map spD;rw[vp,o9];rfl
noncomputable def sK(acc:List (Nat×Nat))(c:Nat):List (Nat×Nat):=match acc.getLast? with
 |some (c0,n)=>if c0+n=c then acc.dropLast++[(c0,n+1)]else acc++[(c,1)]
 |none=>[(c,1)]
def emb(k:Nat)(q:Nat×Nat):Nat×Nat×Nat:=(k,q.1,q.2)
noncomputable def qY(wd:Nat)(p:List Nat×List Nat):List (Nat×Nat):=(vB wd p.1 p.2).foldl sK []
noncomputable def spP(wd:Nat):Nat->List (List Nat×List Nat)->List (Nat×Nat×Nat)
 |_,[]=>[]
 |k,p::ps=>(qY wd p).map (emb k)++spP wd (k+1) ps
noncomputable def chG(ns:List Int)(k:Nat):Nat:=([97,98,32,35]:List Nat).getD (bP ns k 4).toNat 0
def LJ(ns:List Int)(k:Nat):ixD (.str [97,98,32,35]) (.int (bP ns k 4))=some (.str [chG ns k]):=by
 have h:=br ns k (m:=4) (by decide);unfold chG;generalize bP ns k 4=v at h;have:v=0\/v=1\/v=2\/v=3:=by omega
 rcases this with rfl|rfl|rfl|rfl <;> rfl
def Bs(ns:List Int)(k:Nat):32<=chG ns k/\chG ns k<=126:=by
 have h:=br ns k (m:=4) (by decide);unfold chG;generalize bP ns k 4=v at h;have:v=0\/v=1\/v=2\/v=3:=by omega
 rcases this with rfl|rfl|rfl|rfl <;> decide
noncomputable def E4(ns:List Int)(a wd:Nat)(x:List Nat):List Nat:=
 if bP ns a 4=0 then ze ns (a+1) wd else if bP ns a 4<3 then x.take (bP ns (a+30) wd).toNat++[chG ns (a+31)]++x.drop ((bP ns (a+30) wd).toNat+1)else x
def FW(ns:List Int)(a:Nat){wd:Nat}(hw:1<=wd){x:List Nat}(hl:x.length=wd)(hp:plain x=true):plain (E4 ns a wd x)=true/\(E4 ns a wd x).length=wd:=by
 have h:=br ns (a+30) (m:=(wd:Int)) (by omega);unfold E4;split;·exact⟨qp _ _ _,pG _ _ _⟩
 ·split;·have hc:=Bs ns (a+31);refine⟨tO (tO (yT _ hp) ?_) (yH _ hp),by simp;omega⟩;simp[plain,hc.1,hc.2]
  ·exact⟨hp,hl⟩
noncomputable def gTx(ns:List Int)(a wd k:Nat)(r:D):List Nat:=bu (E4 ns (a+40 * k) wd (wL r)) [32]
noncomputable def nH(ns:List Int)(a wd:Nat):Nat->List D->List (List Nat)
 |_,[]=>[]
 |k,r::rs=>gTx ns a wd k r::nH ns a wd (k+1) rs
theorem jr(ns:List Int)(a wd:Nat):∀(rs:List D)(k:Nat),(nH ns a wd k rs).length=rs.length
 | [],_=>rfl
 |r::rs,k=>by rw[nH,vz,jr ns a wd rs,vz]
theorem yz(ns:List Int)(a:Nat){wd:Nat}(hw:1<=wd):∀(rs:List D)(k:Nat),kR rs wd->∀x∈nH ns a wd k rs,plain x=true/\x.length<=wd
 | [],_,_,x,h=>by cases h
 |r::rs,k,hr,x,h=>by
  rcases zL.1 h with rfl|h;·obtain⟨y,rfl,h1,h2⟩:=hr r (zx ..);obtain⟨a1,a2⟩:=FW ns (a+40 * k) hw h1 h2;exact uC a1 (by show(E4 ns (a+40 * k) wd y).length<=wd;omega)
  ·exact yz ns a hw rs (k+1) (λr m=>hr r (zF _ m)) x h
theorem uK(ns:List Int)(fz:Bool)(a:Nat){wd:Nat}(hw:1<=wd)(hw2:wd<=40)(rows:D)(p:D):∀(rs:List D)(k:Nat)(x4 x5 x6 x7:Option Sl)(acc:List D),kR rs wd->acc.length+rs.length<=100->∃y4 y5 y6 y7,cO (vt [4,5]) (iC cb Fx) (bL k rs) [some (.val (.lst fz (ns.map .int))),some (.val (.int (a:Int))),some (.val (.tup [.int (wd:Int),rows,p])),some (.own acc),x4,x5,x6,x7]
  = .nx [some (.val (.lst fz (ns.map .int))),some (.val (.int (a:Int))),some (.val (.tup [.int (wd:Int),rows,p])),some (.own (acc++(nH ns a wd k rs).map .str)),y4,y5,y6,y7]
 | [],k,x4,x5,x6,x7,acc,_,_=>⟨x4,x5,x6,x7,by rw[mx,qZ,nH,n9,t8]⟩
 |r::rs,k,x4,x5,x6,x7,acc,hr,ha=>by
  simp only[vz]at ha;obtain⟨x,rfl,h1,h2⟩:=hr r (zx ..);have hB:∃y5 y6 y7,iC cb Fx [some (.val (.lst fz (ns.map .int))),some (.val (.int (a:Int))),some (.val (.tup [.int (wd:Int),rows,p])),some (.own acc),some (.val (.int (k:Int))),some (.val (.str x)),x6,x7]
    = .nx [some (.val (.lst fz (ns.map .int))),some (.val (.int (a:Int))),some (.val (.tup [.int (wd:Int),rows,p])),some (.own (acc++[.str (bu (E4 ns (a+40 * k) wd x) [32])])),some (.val (.int (k:Int))),y5,y6,y7]:=by
   have lb:=EH;have hpk:=br ns (a+40 * k) (m:=4) (by decide);have hps:=br ns (a+40 * k+30) (m:=(wd:Int)) (by omega);obtain⟨sp,esp⟩:=Y1 hps.1;have m1:fq (.int 40) (.int (k:Int))=some (.int ((40 * k:Nat):Int)):=by rw[FC (by decide)];congr 2
   have k1:(a:Int)+((40 * k:Nat):Int)=((a+40 * k:Nat):Int):=by omega
   have k2:((a+40 * k:Nat):Int)+1=((a+40 * k+1:Nat):Int):=by omega
   have k3:((a+40 * k:Nat):Int)+30=((a+40 * k+30:Nat):Int):=by omega
   have k4:((a+40 * k:Nat):Int)+31=((a+40 * k+31:Nat):Int):=by omega
   have k5:(sp:Int)+1=((sp+1:Nat):Int):=by omega
   have p1:cb [.lst fz (ns.map .int),.int ((a+40 * k:Nat):Int),.int 4]=.ok (.int (bP ns (a+40 * k) 4)):=bV (by decide);have p2:cb [.lst fz (ns.map .int),.int ((a+40 * k+30:Nat):Int),.int (wd:Int)]=.ok (.int (sp:Int)):=by rw[<- esp];exact bV (by omega)
   have p3:cb [.lst fz (ns.map .int),.int ((a+40 * k+31:Nat):Int),.int 4]=.ok (.int (bP ns (a+40 * k+31) 4)):=bV (by decide);have r1:Fx [.lst fz (ns.map .int),.int ((a+40 * k+1:Nat):Int),.int (wd:Int)]=.ok (.str (ze ns (a+40 * k+1) wd)):=xZ (by omega);have c1:=LJ ns (a+40 * k+31);have y0:=OG (.int (wd:Int)) rows p;have d1:=K8 x sp;have d2:=Em x (sp+1);have a1:bv (.str (x.take sp)) (.str [chG ns (a+40 * k+31)])=some (.str (x.take sp++[chG ns (a+40 * k+31)])):=su (by simp;omega);have a2:bv (.str (x.take sp++[chG ns (a+40 * k+31)])) (.str (x.drop (sp+1)))=some (.str (x.take sp++[chG ns (a+40 * k+31)]++x.drop (sp+1))):=su (by simp;omega);have z:acc.length<sizeLine:=by omega
   have o3:∀(a0 a1 a2 a4 a5 a6 a7:Option Sl)(ds:List D),ownAt [a0,a1,a2,some (.own ds),a4,a5,a6,a7] 3=.ok ds:=λ_ _ _ _ _ _ _ _=>rfl;have kd:∀z:List Nat,kY "str" (.str z)=true:=λ_=>rfl;have rs':∀z w:List Nat,eP (.str z) [.str w]=some (.str (bu z w)):=λ_ _=>rfl;unfold iC E4;rw[esp,vN];by_cases q:bP ns (a+40 * k) 4=0
   ·refine⟨some (.val (.str (ze ns (a+40 * k+1) wd))),some (.val (.int (bP ns (a+40 * k) 4))),x7,?_⟩;have q1:(bP ns (a+40 * k) 4==0)=true:=by simp[q]
    rw[if_pos q];clear hr ha h1 h2 lb hpk hps esp q
    walk_at "run"
   ·have q1:(bP ns (a+40 * k) 4==0)=false:=by simp[q]
    rw[if_neg q];by_cases q2:bP ns (a+40 * k) 4<3
    ·refine⟨some (.val (.str (x.take sp++[chG ns (a+40 * k+31)]++x.drop (sp+1)))),some (.val (.int (bP ns (a+40 * k) 4))),some (.val (.int (sp:Int))),?_⟩;have q3:decide (bP ns (a+40 * k) 4<3)=true:=by simp[q2]
     rw[if_pos q2];clear hr ha h1 h2 lb hpk hps esp q q2
     walk_at "run"
    ·refine⟨some (.val (.str x)),some (.val (.int (bP ns (a+40 * k) 4))),x7,?_⟩;have q3:decide (bP ns (a+40 * k) 4<3)=false:=by simp;omega
     rw[if_neg q2];clear hr ha h1 h2 lb hpk hps esp q q2
     walk_at "run"
  obtain⟨z5,z6,z7,hB⟩:=hB;obtain⟨y4,y5,y6,y7,ih⟩:=uK ns fz a hw hw2 rows p rs (k+1) (some (.val (.int (k:Int)))) z5 z6 z7 (acc++[.str (bu (E4 ns (a+40 * k) wd x) [32])]) (λr m=>hr r (zF _ m)) (by simp;omega);refine⟨y4,y5,y6,y7,?_⟩;rw[lF,eU rfl hB,ih,nH,xk,tV];rfl
noncomputable def yS(ns:List Int)(a wd:Nat)(rows:List D):List (List Nat):=(nH ns a wd 0 rows).take (rows.length - (bP ns (a+399) 2).toNat)
noncomputable abbrev vL(f:Bool)(n:List Int):Option Sl:=some (.val (.lst f (n.map .int)))
abbrev vI(n:Nat):Option Sl:=some (.val (.int (n:Int)))
abbrev vD(d:D):Option Sl:=some (.val d)
abbrev vS(x:List Nat):Option Sl:=some (.val (.str x))
def NY:List D->R D:=λds=>ar (lG ir (ao 1 ds))
def goG:List D->R D:=λds=>ar (nJ yY (ao 1 ds))
def Mj:List D->R D:=λds=>ar (jv NY goG (ao 1 ds))
def ckG(C:Addr):List D->R D:=λds=>ar (fE Mj C (ao 1 ds))
def G8(C:Addr):List D->R D:=λds=>ar (eX (ckG C) C (ao 2 ds))
def isS:Od->Bool
 |.say _=>true
 |_=>false
def isG:Od->Bool
 |.go _ _=>true
 |_=>false
def M6{o:Od}(h:okO o=true):NY [oD o]=.ok (.bl (isS o)):=by
 cases o with
 |say x=>
  simp only[okO,xf,wa]at h;have i1:ir [.str x]=.ok (.bl true):=by rw[pE (by omega),h.1]
  have d1:decide ((1:Int)<=(x.length:Int))=true:=by rw[wa];omega
  have d2:decide ((x.length:Int)<=40)=true:=by rw[wa];omega
  have e1:de [oD (.say x)]=some (.int 2):=rfl;have e2:ixD (oD (.say x)) (.int 0)=some (.str [115,97,121]):=rfl;have e3:ixD (oD (.say x)) (.int 1)=some (.str x):=rfl;have q0:eqF (.str [115,97,121]) (.str [115,97,121])=some (.bl true):=rfl;show ar (ax _ _ [vD (oD (.say x))])=.ok (.bl true)
  walk_at "run"
 |go r c=>rfl
 |wipe=>rfl
def O2{o:Od}(h:okO o=true):goG [oD o]=.ok (.bl (isG o)):=by
 cases o with
 |go r c=>
  simp only[okO,xf,wa]at h;have i1:yY [.int (r:Int),.int 0,.int 11]=.ok (.bl true):=by show R.ok (D.bl (decide (0<=(r:Int)) && decide ((r:Int)<=11)))=_;rw[qQ (by omega),qQ (by omega)];rfl
  have i2:yY [.int (c:Int),.int 0,.int 40]=.ok (.bl true):=by show R.ok (D.bl (decide (0<=(c:Int)) && decide ((c:Int)<=40)))=_;rw[qQ (by omega),qQ (by omega)];rfl
  have e1:de [oD (.go r c)]=some (.int 3):=rfl;have e2:ixD (oD (.go r c)) (.int 0)=some (.str [103,111]):=rfl;have e3:ixD (oD (.go r c)) (.int 1)=some (.int (r:Int)):=rfl;have e4:ixD (oD (.go r c)) (.int 2)=some (.int (c:Int)):=rfl;have q0:neF (.str [103,111]) (.str [103,111])=some (.bl false):=rfl;have q2:tq (.int 12) (.int 1)=some (.int 11):=rfl;show ar (ax _ _ [vD (oD (.go r c))])=.ok (.bl true)
  walk_at "run"
 |say x=>rfl
 |wipe=>rfl
def Oj{o:Od}(h:okO o=true):Mj [oD o]=.ok (.bl true):=by
 have h1:=M6 h;have h2:=O2 h;have e1:gj (·=="tuple") (oD o)=.ok (.bl true):=by cases o <;> rfl
 have e2:mkT [.str [119,105,112,101]]=.ok (oD .wipe):=rfl;have e3:eqF (oD .wipe) (oD .wipe)=some (.bl true):=rfl;show ar (ax _ _ [vD (oD o)])=_;cases o with
 |say x=>change _=R.ok (D.bl true)at h1;generalize oD (.say x)=u at *;walk_at "run"
 |go r c=>change _=R.ok (D.bl false)at h1;change _=R.ok (D.bl true)at h2;generalize oD (.go r c)=u at *;walk_at "run"
 |wipe=>change _=R.ok (D.bl false)at h1;change _=R.ok (D.bl false)at h2;generalize oD .wipe=u at *;walk_at "run"
def Pb{o:Od}(h:okO o=true):ckG C [oD o]=.ok .non:=by
 have h1:=Oj h;show ar (ax _ _ [vD (oD o)])=_
 walk_at "run"
def GX{f:Bool}{os:List Od}(h:∀o∈os,okO o=true):G8 C [.lst f (os.map oD)]=.ok .non:=by
 have lp:∀(os:List Od)(x1:Option Sl),(∀o∈os,okO o=true)->∃y1,cO (jz 1) (fF (ckG C) C) (os.map oD) [vD (.lst f (os.map oD)),x1]=.nx [vD (.lst f (os.map oD)),y1]:=λos=>by
  generalize vD (.lst f (os.map oD))=x0;induction os with
  |nil=>exact λx1 _=>⟨x1,rfl⟩
  |cons o os ih=>
   intro x1 h;obtain⟨y1,e⟩:=ih (vD (oD o)) λo ho=>h o (zF _ ho);refine⟨y1,(eU rfl ?_).trans e⟩;have h1:=Pb (C:=C) (h o (zx ..));unfold fF
   walk_at "run"
 obtain⟨y1,e⟩:=lp os none h;have e1:gj (·=="list") (.lst f (os.map oD))=.ok (.bl true):=rfl;have e2:bz (.lst f (os.map oD))=.ok (os.map oD):=rfl;show ar (ax _ _ [vD (.lst f (os.map oD)),none])=_
 walk_at "run"
def ocG:List D->R D:=λds=>ar (gM (ao 1 ds))
def Oy(o:Od):ocG [oD o]=.ok (.int (bD o:Int)):=by cases o <;> rfl
def coG(C:Addr):List D->R D:=λds=>ar (qP (G8 C) ocG (ao 1 ds))
theorem kh{α:Type}{ge:Ev->R D}(f g:α->D)(tl:Ev):∀(xs:List α)(a:Option Sl),(∀x∈xs,ge (vD (f x)::tl)=.ok (g x))->dI (λ_=>R.ok true) ge (xs.map f) (a::tl)=.ok (xs.map g)
 | [],_,_=>rfl
 |x::xs,a,h=>by have ih:=kh f g tl xs (vD (f x)) λy hy=>h y (zF _ hy);have h1:=h x (zx ..);unfold dI at ih⊢;show(jC (ge (vD (f x)::tl))>>=λz=>hW (jz 0) (λ_=>R.ok true) ge (xs.map f) (vD (f x)::tl)>>=λzs=>R.ok (z::zs))=_;rw[h1,ih];rfl
def Nk:∀os:List Od,zN [.lst false (os.map λo=>D.int (bD o:Int))]=some (.int ((os.map bD).sum:Nat)):=λos=>by
 have key:ox (os.map λo=>D.int (bD o:Int))=some (os.map λo=>(bD o:Int)):=by
  induction os with
  |nil=>rfl
  |cons o l ih=>rw[xk,ox,ih];rfl
 have key2:(os.map λo=>(bD o:Int)).sum=((os.map bD).sum:Nat):=by
  clear key;induction os with
  |nil=>rfl
  |cons o l ih=>rw[xk,rR,ih,xk,rR,Y4]
 simp only[zN,key,key2]
def Pp{f:Bool}{os:List Od}(h:∀o∈os,okO o=true)(hl:os.length<=1000):coG C [.lst f (os.map oD)]=.ok (.int ((os.map bD).sum:Nat)):=by
 have h1:=GX (C:=C) (f:=f) h;have c1:=kh (ge:=aA 1 ocG (ac (rvz 0) nlz)) oD (λo=>.int (bD o:Int)) [] os none (λo _=>by rw[AY,show ∀i ρ,rvz i ρ=rdV ρ i from λ_ _=>rfl,rd0,R.ok_bind,Oy]);have e2:bz (.lst f (os.map oD))=.ok (os.map oD):=rfl;have z:(os.map λo=>D.int (bD o:Int)).length<=sizeLine:=by have:=aW;rw[zy];omega
 have sm:=Nk os;have i0:∀x:Option Sl,fU [] [x]=[none]:=λ_=>rfl;show ar (ax _ _ [vD (.lst f (os.map oD))])=_
 walk_at "run"
def jnG:List D->R D:=λds=>ar (dU (ao 3 ds))
def Qe{o p:Od}(hn:sQ o+sQ p<=1000):jnG [oD o,oD p]=.ok (jD (gA o p)):=by
 cases o with
 |say x=>
  cases p with
  |say y=>
   simp only[sQ]at hn;have a1:bv (.str x) (.str y)=some (.str (x++y)):=su (by have:=aW;omega);have x0:∀z:List Nat,ixD (oD (.say z)) (.int 0)=some (.str [115,97,121]):=λ_=>rfl;have x1:∀z:List Nat,ixD (oD (.say z)) (.int 1)=some (.str z):=λ_=>rfl;have q0:neF (.str [115,97,121]) (.str [115,97,121])=some (.bl false):=rfl;have m2:∀v:List Nat,mkT [.str [115,97,121],.str v]=.ok (oD (.say v)):=λ_=>rfl;have ej:gA (.say x) (.say y)=if x.length+y.length<=40 then some (.say (x++y))else none:=rfl;show ar (ax _ _ [vD (oD (.say x)),vD (oD (.say y)),none])=_;rw[ej];by_cases h:x.length+y.length<=40
   ·have d1:decide (((x++y).length:Int)<=40)=true:=by rw[wa,w6];omega
    have e9:jD (if x.length+y.length<=40 then some (.say (x++y))else none)=oD (.say (x++y)):=by rw[if_pos h];rfl
    rw[e9]
    walk_at "run"
   ·have d1:decide (((x++y).length:Int)<=40)=false:=by rw[j5,w6];omega
    have e9:jD (if x.length+y.length<=40 then some (.say (x++y))else none)=.non:=by rw[if_neg h];rfl
    rw[e9]
    walk_at "run"
  |go r c=>rfl
  |wipe=>rfl
 |go r c=>cases p <;> rfl
 |wipe=>cases p <;> rfl
def Ed{l o j:Od}(h:gA l o=some j)(h1:okO l=true)(h2:okO o=true):okO j=true:=by
 cases l <;> cases o <;> first|(simp[gA]at h;done)|skip
 ·simp only[gA]at h;split at h;·cases h;simp only[okO,xf,wa]at *;exact⟨ii h1.1 h2.1,by simp;omega,by simp;omega⟩
  ·cases h
 ·simp only[gA,nD]at h;subst h;exact h2
 ·simp only[gA,nD]at h;subst h;exact h2
def sh{acc:List Od}{o:Od}(h1:∀p∈acc,okO p=true)(h2:okO o=true):∀p∈fM acc o,okO p=true:=by
 rcases CL acc with rfl|⟨a,l,rfl⟩;·intro p hp;rw[wP.1 hp];exact h2
 ·cases hj:gA l o with
  |none=>
   intro p hp;rw[lu hj]at hp;rcases uF.1 hp with hp|hp;·exact h1 p hp
   ·rw[wP.1 hp];exact h2
  |some j=>
   intro p hp;rw[jH hj]at hp;rcases uF.1 hp with hp|hp;·exact h1 p (my _ hp)
   ·rw[wP.1 hp];exact Ed hj (h1 l (by simp)) h2
theorem xw:∀(os acc:List Od),(∀p∈acc,okO p=true)->(∀p∈os,okO p=true)->∀p∈os.foldl fM acc,okO p=true
 | [],acc,h,_=>h
 |o::os,acc,h1,h2=>xw os (fM acc o) (sh h1 (h2 o (zx ..))) λp hp=>h2 p (zF _ hp)
theorem nF:∀(os acc:List Od),(os.foldl fM acc).length<=acc.length+os.length/\((os.foldl fM acc).map bD).sum<=(acc.map bD).sum+(os.map bD).sum
 | [],acc=>by simp
 |o::os,acc=>by obtain⟨_,a2,a3⟩:=yu acc o;obtain⟨b2,b3⟩:=nF os (fM acc o);simp only[p7,vz,xk,rR];omega
def DB{os:List Od}(h:∀o∈os,okO o=true):∀o∈shO os,okO o=true:=xw os [] (λ_ h=>by cases h) h
def Fp{o:Od}(h:okO o=true):sQ o<=40:=by
 cases o with
 |say x=>simp only[okO,xf,wa]at h;exact h.2.2
 |_=>exact wA _
def shG(C:Addr):List D->R D:=λds=>ar (iM (G8 C) jnG (ao 4 ds))
def KZ(x0 x3:Option Sl)(acc:List Od)(o:Od)(hs:∀p∈acc,okO p=true)(ho:okO o=true)(ha:acc.length<1000):∃y3,gm F jnG [x0,some (.own (acc.map oD)),vD (oD o),x3]=.nx [x0,some (.own ((fM acc o).map oD)),vD (oD o),y3]:=by
 have z:(acc.map oD).length<sizeLine:=by have:=aW;rw[zy];omega
 have ng1:CC (.int 1)=.ok (.int (-1)):=rfl;have i1:isF .non .non=some (.bl true):=rfl;have i2:∀o:Od,isF (oD o) .non=some (.bl false):=λo=>by cases o <;> rfl
 have fl1:=NW;have fl2:fl 10 .non=true:=rfl;unfold gm;rcases CL acc with rfl|⟨a,l,rfl⟩;·exact⟨vD .non,rfl⟩
 ·have em:(a++[l]).map oD=a.map oD++[oD l]:=by simp
  have ej:=Qe (o:=l) (p:=o) (by have:=Fp (hs l (by simp));have:=Fp ho;omega);rw[em]at z⊢;have q1:decide ((0:Int)<((a.map oD++[oD l]).length:Int))=true:=by rw[wa,w6];show(0:Int)<((_+1:Nat):Int);omega
  have ixl:ixN (a.map oD++[oD l]).length (-1)=some (a.map oD).length:=by
   unfold ixN
   congr 1;simp;omega
  have l1:ixD (.lst false (a.map oD++[oD l])) (.int (-1))=some (oD l):=by show atI (a.map oD++[oD l]) (-1)=_;unfold atI;rw[ixl];simp
  cases hj:gA l o with
  |none=>
   rw[hj]at ej;change _=R.ok D.non at ej;refine⟨vD .non,?_⟩;rw[show(fM (a++[l]) o).map oD=a.map oD++[oD l]++[oD o] by rw[lu hj];simp]
   walk_at "run"
  |some j=>
   rw[hj]at ej;change _=R.ok (oD j)at ej;refine⟨vD (oD j),?_⟩;have sl:(a.map oD++[oD l]).set (a.map oD).length (oD j)=a.map oD++[oD j]:=by simp
   rw[show(fM (a++[l]) o).map oD=a.map oD++[oD j] by rw[jH hj];simp]
   walk_at "run"
theorem Ft{F:List D->R D}(x0:Option Sl):∀(os acc:List Od)(x2 x3:Option Sl),(∀p∈acc,okO p=true)->(∀o∈os,okO o=true)->acc.length+os.length<=1000->∃y2 y3,cO (jz 2) (gm F jnG) (os.map oD) [x0,some (.own (acc.map oD)),x2,x3]=.nx [x0,some (.own ((os.foldl fM acc).map oD)),y2,y3]
 | [],acc,x2,x3,_,_,_=>⟨x2,x3,rfl⟩
 |o::os,acc,x2,x3,h1,h2,hl=>by have ho:=h2 o (zx ..);rw[vz]at hl;obtain⟨y3,e⟩:=KZ x0 x3 acc o h1 ho (by omega);obtain⟨z2,z3,ih⟩:=Ft x0 os (fM acc o) (vD (oD o)) y3 (sh h1 ho) (λp hp=>h2 p (zF _ hp)) (by have:=(yu acc o).2.1;omega);exact⟨z2,z3,(eU rfl e).trans ih⟩
def Ql{f:Bool}{os:List Od}(h:∀o∈os,okO o=true)(hl:os.length<=1000):shG C [.lst f (os.map oD)]=.ok (.lst false ((shO os).map oD)):=by
 have h1:=GX (C:=C) (f:=f) h;obtain⟨y2,y3,e⟩:=Ft (F:=G8 C) (vD (.lst f (os.map oD))) os [] none none (λ_ h=>by cases h) h (by rw[pw];omega);have e2:bz (.lst f (os.map oD))=.ok (os.map oD):=rfl;show ar (ax _ _ [vD (.lst f (os.map oD)),none,none,none])=_;rw[n9]at e;have z:(0<=sizeLine)=True:=nE (wA _);unfold shO
 walk_at "run"
def wrG:List D->R D:=λds=>ar (cV (ao 5 ds))
def asG(C:Addr):List D->R D:=λds=>ar (iG wrG C (ao 5 ds))
def agG(C:Addr):List D->R D:=λds=>ar (jo C (ao 3 ds))
def awG:List D->R D:=λds=>ar (gK wrG (ao 3 ds))
noncomputable def aoG(C:Addr):List D->R D:=λds=>ar (fI (asG C) (agG C) awG (ao 2 ds))
noncomputable def adG(Cs Co Cr:Addr):List D->R D:=λds=>ar (iW (kX Cs) (G8 Co) (aoG Cr) (ao 4 ds))
section
variable{wd r c:Nat}{rows:List (List Nat)}
def sx0:ixD (sD (wd,rows,r,c)) (.int 0)=some (.int (wd:Int)):=rfl
def sx1:ixD (sD (wd,rows,r,c)) (.int 1)=some (.tup (rows.map .str)):=rfl
def sx2:ixD (sD (wd,rows,r,c)) (.int 2)=some (.tup [.int (r:Int),.int (c:Int)]):=rfl
def rx0:ixD (.tup [.int (r:Int),.int (c:Int)]) (.int 0)=some (.int (r:Int)):=rfl
def rx1:ixD (.tup [.int (r:Int),.int (c:Int)]) (.int 1)=some (.int (c:Int)):=rfl
def Mm(hr:r<rows.length):ixD (.tup (rows.map .str)) (.int (r:Int))=some (.str (rows.getD r [])):=by refine CH ?_;rw[v8,xn hr,zi,xn hr];rfl
def PK{x:List Nat}(hr:r<rows.length)(hm:rows.length<=100):wrG [sD (wd,rows,r,c),.str x,.int (j:Int)]=.ok (sD (wd,rows.set r x,r,j)):=by
 have x0:=sx0 (wd:=wd) (r:=r) (c:=c) (rows:=rows);have x1:=sx1 (wd:=wd) (r:=r) (c:=c) (rows:=rows);have x2:=sx2 (wd:=wd) (r:=r) (c:=c) (rows:=rows);have x3:=rx0 (r:=r) (c:=c);have c1:=qa (rows.map D.str) r;have c2:jJ (rows.map D.str) (some ((r:Int)+1)) none=(rows.map D.str).drop (r+1):=kA _ (r+1);have k1:∀x,mkT [x]=.ok (.tup [x]):=λ_=>rfl;have k2:∀x y,mkT [x,y]=.ok (.tup [x,y]):=λ_ _=>rfl;have k3:∀x y z,mkT [x,y,z]=.ok (.tup [x,y,z]):=λ_ _ _=>rfl;have a1:bv (.tup ((rows.map D.str).take r)) (.tup [.str x])=some (.tup ((rows.map D.str).take r++[.str x])):=xi (by have:=aW;simp;omega);have a2:bv (.tup ((rows.map D.str).take r++[.str x])) (.tup ((rows.map D.str).drop (r+1)))=some (.tup ((rows.set r x).map D.str)):=by rw[<- Di rows r x hr];exact xi (by have:=aW;simp;omega)
 show ar (ax _ _ [vD (sD (wd,rows,r,c)),vD (.str x),vI j,none,none])=.ok (.tup [.int (wd:Int),.tup ((rows.set r x).map D.str),.tup [.int (r:Int),.int (j:Int)]])
 walk_at "run"
def Pc{s:St}{o:Od}(h:GS s)(ho:okO o=true):aoG C [sD s,oD o]=Ls C (bt s o):=by
 obtain⟨wd,rows,r,c⟩:=s;have hr:r<rows.length:=h.r;have hm:rows.length<=12:=h.m;have hc:c<=wd:=h.c;have hw:=h.w2;have hl:=(h.l _ (iA hr)).1;have x0:=sx0 (wd:=wd) (r:=r) (c:=c) (rows:=rows);have x1:=sx1 (wd:=wd) (r:=r) (c:=c) (rows:=rows);have x2:=sx2 (wd:=wd) (r:=r) (c:=c) (rows:=rows);have x3:=rx0 (r:=r) (c:=c);have x4:=rx1 (r:=r) (c:=c);have x5:=Mm hr;have wr:=λx j=>PK (wd:=wd) (c:=c) (x:=x) (j:=j) hr (by omega);have n1:eqF (.str [103,111]) (.str [115,97,121])=some (.bl false):=rfl;have n2:eqF (.str [119,105,112,101]) (.str [115,97,121])=some (.bl false):=rfl;have n3:eqF (.str [119,105,112,101]) (.str [103,111])=some (.bl false):=rfl;have n4:eqF (.str [103,111]) (.str [103,111])=some (.bl true):=rfl;have n5:eqF (.str [115,97,121]) (.str [115,97,121])=some (.bl true):=rfl;cases o with
 |say x=>
  simp only[okO,xf,wa]at ho;have o0:ixD (oD (.say x)) (.int 0)=some (.str [115,97,121]):=rfl;have o1:ixD (oD (.say x)) (.int 1)=some (.str x):=rfl;have e:asG C [sD (wd,rows,r,c),.str x]=Ls C (bt (wd,rows,r,c) (.say x)):=by
   have es:bt (wd,rows,r,c) (.say x)=if wd<c+x.length then none else some (wd,rows.set r ((rows.getD r []).take c++x++(rows.getD r []).drop (c+x.length)),r,c+x.length):=rfl;rw[es];generalize rows.getD r []=row at *;have c1:=qa row c;have c2:=kA row (c+x.length);have a1:bv (.str (row.take c)) (.str x)=some (.str (row.take c++x)):=su (by have:=aW;simp;omega);have a2:bv (.str (row.take c++x)) (.str (row.drop (c+x.length)))=some (.str (row.take c++x++row.drop (c+x.length))):=su (by have:=aW;simp;omega);have a3:bv (.int (c:Int)) (.int (x.length:Int))=some (.int ((c+x.length:Nat):Int)):=rfl;show ar (ax _ _ [vD (sD (wd,rows,r,c)),vD (.str x),none,none,none])=_;by_cases hn:wd<c+x.length
   ·have d1:decide ((wd:Int)<((c+x.length:Nat):Int))=true:=by rw[wa];omega
    rw[if_pos hn];show _=R.ex C
    walk_at "run"
   ·have d1:decide ((wd:Int)<((c+x.length:Nat):Int))=false:=by rw[j5];omega
    rw[if_neg hn];show _=R.ok (sD (wd,rows.set r (row.take c++x++row.drop (c+x.length)),r,c+x.length))
    walk_at "run"
  show ar (ax _ _ [vD (sD (wd,rows,r,c)),vD (oD (.say x))])=_;generalize bt (wd,rows,r,c) (.say x)=z at e⊢;cases z <;> simp only[Ls]at e⊢ <;> walk_at "run"
 |go n k=>
  have o0:ixD (oD (.go n k)) (.int 0)=some (.str [103,111]):=rfl;have o1:ixD (oD (.go n k)) (.int 1)=some (.int (n:Int)):=rfl;have o2:ixD (oD (.go n k)) (.int 2)=some (.int (k:Int)):=rfl;have e:agG C [sD (wd,rows,r,c),.int (n:Int),.int (k:Int)]=Ls C (bt (wd,rows,r,c) (.go n k)):=by
   have es:bt (wd,rows,r,c) (.go n k)=if rows.length<=n\/wd<k then none else some (wd,rows,n,k):=rfl;have ln:de [.tup (rows.map .str)]=some (.int (rows.length:Int)):=by rw[JF,zy]
   have k2:mkT [.int (n:Int),.int (k:Int)]=.ok (.tup [.int (n:Int),.int (k:Int)]):=rfl;have k3:mkT [.int (wd:Int),.tup (rows.map .str),.tup [.int (n:Int),.int (k:Int)]]=.ok (sD (wd,rows,n,k)):=rfl;rw[es];show ar (ax _ _ [vD (sD (wd,rows,r,c)),vI n,vI k])=_;by_cases h1:rows.length<=n
   ·have d1:decide ((rows.length:Int)<=(n:Int))=true:=by rw[wa];omega
    rw[if_pos (.inl h1)];show _=R.ex C
    walk_at "run"
   ·have d1:decide ((rows.length:Int)<=(n:Int))=false:=by rw[j5];omega
    by_cases h2:wd<k
    ·have d2:decide ((wd:Int)<(k:Int))=true:=by rw[wa];omega
     rw[if_pos (.inr h2)];show _=R.ex C
     walk_at "run"
    ·have d2:decide ((wd:Int)<(k:Int))=false:=by rw[j5];omega
     rw[if_neg (by omega)];show _=R.ok (sD (wd,rows,n,k))
     walk_at "run"
  show ar (ax _ _ [vD (sD (wd,rows,r,c)),vD (oD (.go n k))])=_;generalize bt (wd,rows,r,c) (.go n k)=z at e⊢;cases z <;> simp only[Ls]at e⊢ <;> walk_at "run"
 |wipe=>
  have o0:ixD (oD .wipe) (.int 0)=some (.str [119,105,112,101]):=rfl;have e:awG [sD (wd,rows,r,c)]=.ok (sD (wd,rows.set r ((rows.getD r []).take c++List.replicate (wd - c) 32),r,c)):=by
   have wx:=wr ((rows.getD r []).take c++List.replicate (wd - c) 32) c;generalize rows.getD r []=row at *;have c1:=qa row c;have lt:(row.take c).length=c:=by simp;omega
   have j1:ke (.str (row.take c)) [.int (wd:Int)]=some (.str (row.take c++List.replicate (wd - c) 32)):=by simp only[ke,lt,vN];rw[if_pos (by omega)]
   have kd:∀x,kY "str" (.str x)=true:=λ_=>rfl;show ar (ax _ _ [vD (sD (wd,rows,r,c)),none,none])=_;clear wr h hl hw hc hm hr lt
   walk_at "run"
  show ar (ax _ _ [vD (sD (wd,rows,r,c)),vD (oD .wipe)])=.ok (sD (wd,rows.set r ((rows.getD r []).take c++List.replicate (wd - c) 32),r,c))
  walk_at "run"
theorem K1{f:Bool}:∀(os:List Od){s s':St}(x0 x1 x3:Option Sl){F1 F2:List D->R D},GS s->(∀o∈os,okO o=true)->rn (some s) os=some s'->∃y3,cO (jz 3) (kC F1 F2 (aoG C)) (os.map oD) [x0,x1,vD (sD s),x3]=.nx [x0,x1,vD (sD s'),y3]
 | [],s,s',x0,x1,x3,_,_,_,_,e=>⟨x3,by cases e;rfl⟩
 |o::os,s,s',x0,x1,x3,F1,F2,h,ho,e=>by
  have h1:=ho o (zx ..);have a:=Pc (C:=C) h h1;rw[gE]at e;cases z:bt s o with
  |none=>rw[show((some s).bind λs=>bt s o)=none from z,fT]at e;cases e
  |some t=>
   rw[show((some s).bind λs=>bt s o)=some t from z]at e;rw[z]at a;obtain⟨y3,ih⟩:=K1 (f:=f) os x0 x1 (vD (oD o)) (F1:=F1) (F2:=F2) (lS h h1 z) (λo ho'=>ho o (zF _ ho')) e;refine⟨y3,(eU (ρ2:=[x0,x1,vD (sD t),vD (oD o)]) rfl ?_).trans ih⟩;change _=R.ok (sD t)at a;unfold kC;generalize sD t=T at *;generalize sD s=S at *;generalize oD o=u at *;clear ih ho h1 h e z
   walk_at "run"
def NI{Cs Co Cr:Addr}{s s':St}{f:Bool}(h:GS s){os:List Od}(ho:∀o∈os,okO o=true)(e:rn (some s) os=some s'):adG Cs Co Cr [sD s,.lst f (os.map oD)]=.ok (sD s'):=by
 have h1:=GX (C:=Co) (f:=f) ho;have h2:=kQ (C:=Cs) h.screen;obtain⟨y3,lp⟩:=K1 (C:=Cr) (f:=f) os (vD (sD s)) (vD (.lst f (os.map oD))) none (F1:=kX Cs) (F2:=G8 Co) h ho e;have e2:bz (.lst f (os.map oD))=.ok (os.map oD):=rfl;show ar (ax _ _ [vD (sD s),vD (.lst f (os.map oD)),none,none])=_;generalize sD s=S at *;clear h ho e
 walk_at "run"
end
def arG(C:Addr):List D->R D:=λds=>ar (jy (kX C) ir (ao 2 ds))
def crG(C:Addr):List D->R D:=λds=>ar (gL (arG C) C (ao 2 ds))
def frG:List D->R D:=λds=>ar (iH (ao 4 ds))
def L8:List D->R D:=λds=>ar (jc cb Fx (ao 8 ds))
def Nr:List D->R D:=λds=>ar (jw (ao 3 ds))
noncomputable def ib(n wd:Nat)(xs:List (List Nat)):List (List Nat):=xs.map (CG wd)++List.replicate (n - xs.length) (List.replicate wd 32)
section
variable{s:St}{xs:List (List Nat)}{f:Bool}
def rZ(hx:dc s.2.1.length s.1 xs=true):xs.length<=s.2.1.length/\∀x∈xs,plain x=true/\x.length<=s.1:=by simp only[dc,txt,xf,wa,xp]at hx;exact hx
def Mn(h:GS s)(hx:dc s.2.1.length s.1 xs=true):arG C [sD s,.lst f (xs.map .str)]=.ok (.bl true):=by
 obtain⟨h1,h2⟩:=rZ hx;have hm:=h.m;have hw:=h.w2;have c1:=kQ (C:=C) h.screen;have x0:ixD (sD s) (.int 0)=some (.int (s.1:Int)):=rfl;have x1:ixD (sD s) (.int 1)=some (.tup (s.2.1.map .str)):=rfl;have cm:=kh (ge:=me (aA 1 ir (ac (rvz 0) nlz)) (g2 leD (gOf de (ac (rvz 0) nlz)) (g2 ixD (rvz 1) (ciz 0)))) D.str (λ_=>.bl true) [vD (sD s)] xs none (λx hx=>by
  obtain⟨p,l⟩:=h2 x hx;have i1:ir [.str x]=.ok (.bl true):=by rw[pE (by omega),p]
  have d1:decide ((x.length:Int)<=(s.1:Int))=true:=by rw[wa];omega
  walk_at "run");have z:(xs.map λ_=>D.bl true).length<=sizeLine:=by have:=aW;rw[zy];omega
 have al:CB [.lst false (xs.map λ_=>D.bl true)]=some (.bl true):=by have:=KO false (xs.map D.str);rw[o9]at this;exact this
 have i1:∀(d:D)(v:Option Sl),fU [0] [vD d,v]=[none,vD d]:=λ_ _=>rfl;have q1:decide (((s.2.1.map D.str).length:Int)<((xs.map D.str).length:Int))=false:=by rw[zy,zy,j5];omega
 have y1:gj (λx=>x=="list") (.lst f (xs.map .str))=.ok (.bl true):=rfl;have l1:=L7 f (xs.map D.str);show ar (ax _ _ [vD (sD s),vD (.lst f (xs.map .str))])=_
 walk_at "run"
def O4(h:GS s)(hx:dc s.2.1.length s.1 xs=true)(f:Bool):crG C [sD s,.lst f (xs.map .str)]=.ok .non:=by
 have e:=Mn (C:=C) (f:=f) h hx;show ar (ax _ _ [vD (sD s),vD (.lst f (xs.map .str))])=_
 walk_at "run"
def Bi(h:GS s)(hx:dc s.2.1.length s.1 xs=true):((s.2.1.map D.str).length:Int) - ((xs.map D.str).length:Int)=((s.2.1.length - xs.length:Nat):Int)/\fq (.str [32]) (.int (s.1:Int))=some (.str (List.replicate s.1 32))/\fq (.lst false [.str (List.replicate s.1 32)]) (.int ((s.2.1.length - xs.length:Nat):Int))=some (.lst false (List.replicate (s.2.1.length - xs.length) (.str (List.replicate s.1 32))))/\bv (.lst false (xs.map λx=>.str (CG s.1 x))) (.lst false (List.replicate (s.2.1.length - xs.length) (.str (List.replicate s.1 32))))=some (.lst false ((ib s.2.1.length s.1 xs).map .str))/\(xs.map λx=>D.str (CG s.1 x)).length<=sizeLine:=by obtain⟨h1,_⟩:=rZ hx;have hm:=h.m;have hw:=h.w2;have lb:=aW;refine⟨by rw[zy,zy];omega,FT (by omega),Nb (by omega),?_,by rw[zy];omega⟩;rw[NH (by rw[zy,rE];omega)];unfold ib;rw[vp,o9,List.map_replicate];rfl
def K7(h:GS s)(hx:dc s.2.1.length s.1 xs=true)(f:Bool):frG [sD s,.lst f (xs.map .str)]=.ok (.lst false ((ib s.2.1.length s.1 xs).map .str)):=by
 obtain⟨k1,m1,m2,a1,z1⟩:=Bi h hx;have hw:=h.w2;have x0:ixD (sD s) (.int 0)=some (.int (s.1:Int)):=rfl;have x1:ixD (sD s) (.int 1)=some (.tup (s.2.1.map .str)):=rfl;have i2:∀(a b c:Option Sl)(d:D),fU [2] [a,b,vD d,c]=[none,vD d]:=λ_ _ _ _=>rfl;have cm:=kh (ge:=jO "str" ke (rvz 0) (ac (rvz 1) nlz)) D.str (λx=>.str (CG s.1 x)) [vD (.int (s.1:Int))] xs none (λx _=>by
  have kd:∀x,kY "str" (.str x)=true:=λ_=>rfl;have j:ke (.str x) [.int (s.1:Int)]=some (.str (CG s.1 x)):=by simp only[ke,CG,vN];rw[if_pos (by omega)]
  walk_at "run");have il:=L7;have z2:(1<=sizeLine)=True:=nE (by decide);show ar (ax _ _ [vD (sD s),vD (.lst f (xs.map .str)),none,none])=_
 walk_at "run"
def Lv(h:GS s)(hx:dc s.2.1.length s.1 xs=true)(f:Bool):Nr [sD s,.lst f (xs.map .str)]=.ok (.tup ((ib s.2.1.length s.1 xs).map .str)):=by
 obtain⟨k1,m1,m2,a1,z1⟩:=Bi h hx;obtain⟨_,h2⟩:=rZ hx;have hw:=h.w2;have x0:ixD (sD s) (.int 0)=some (.int (s.1:Int)):=rfl;have x1:ixD (sD s) (.int 1)=some (.tup (s.2.1.map .str)):=rfl;have i2:∀(a b:Option Sl)(d:D),fU [0] [vD d,a,b]=[none,vD d]:=λ_ _ _=>rfl;have cm:=kh (ge:=g2 bv (rvz 0) (g2 fq (csz [32]) (g2 tq (g2 ixD (rvz 1) (ciz 0)) (gOf de (ac (rvz 0) nlz))))) D.str (λx=>.str (CG s.1 x)) [vD (sD s)] xs none (λx hx=>by
  have l:=(h2 x hx).2;have s1:(s.1:Int) - (x.length:Int)=((s.1 - x.length:Nat):Int):=by omega
  have s2:fq (.str [32]) (.int ((s.1 - x.length:Nat):Int))=some (.str (List.replicate (s.1 - x.length) 32)):=FT (by omega);have s3:bv (.str x) (.str (List.replicate (s.1 - x.length) 32))=some (.str (CG s.1 x)):=su (by have:=aW;rw[rE];omega);clear k1 m1 m2 a1 z1 x1 i2 h hx hw l h2;generalize sD s=S at *
  walk_at "run");have il:=L7;have z2:(1<=sizeLine)=True:=nE (by decide);have f2:∀(a0 a1:Option Sl)(ds:List D),frz 2 [a0,a1,some (.own ds)]=[a0,a1,some (.val (.lst false ds))]:=λ_ _ _=>rfl;have tt:=tl_ ((ib s.2.1.length s.1 xs).map D.str);show ar (ax _ _ [vD (sD s),vD (.lst f (xs.map .str)),none])=_;clear h hx hw h2;generalize sD s=S at *;generalize (ib s.2.1.length s.1 xs).map D.str=GO at *
 walk_at "run"
def Jr{ns:List Int}{a:Nat}(h:GS s):L8 [.lst fz (ns.map .int),.int (a:Int),sD s]=.ok (.lst false ((yS ns a s.1 (s.2.1.map .str)).map .str)):=by
 have w1:=h.w1;have w2:=h.w2;have n2:=h.m;have hrs:kR (s.2.1.map D.str) s.1:=λr hr=>by obtain⟨x,hx,rfl⟩:=wU.1 hr;exact⟨x,rfl,h.l x hx⟩
 obtain⟨y4,y5,y6,y7,hL⟩:=uK ns fz a (wd:=s.1) w1 (by omega) (.tup (s.2.1.map .str)) (.tup [.int (s.2.2.1:Int),.int (s.2.2.2:Int)]) (s.2.1.map .str) 0 none none none none [] hrs (by simp;omega);rw[p8]at hL;change cO _ _ _ [_,_,vD (sD s),_,_,_,_,_]=O.nx [_,_,vD (sD s),_,_,_,_,_]at hL;have hpk:=br ns (a+399) (m:=2) (by decide);obtain⟨e,ee⟩:=Y1 hpk.1;have p1:cb [.lst fz (ns.map .int),.int ((a:Int)+399),.int 2]=.ok (.int (e:Int)):=by rw[<- ee];exact bV (n:=a+399) (by decide)
 have k2:(((nH ns a s.1 0 (s.2.1.map .str)).map D.str).length:Int) - (e:Int)=(((s.2.1.map D.str).length - e:Nat):Int):=by have:=h.r;rw[zy,jr,zy];omega
 have d1:=qa ((nH ns a s.1 0 (s.2.1.map .str)).map D.str) ((s.2.1.map D.str).length - e);have eg:(yS ns a s.1 (s.2.1.map .str)).map D.str=((nH ns a s.1 0 (s.2.1.map .str)).map D.str).take ((s.2.1.map D.str).length - e):=by unfold yS;rw[ee,Int.toNat_natCast,List.map_take]
 rw[eg];have en:rl (.tup (s.2.1.map .str))=.ok (bL 0 (s.2.1.map .str)):=rfl;have y1:ixD (sD s) (.int 1)=some (.tup (s.2.1.map .str)):=rfl;have f3:∀(a0 a1 a2 a4 a5 a6 a7:Option Sl)(ds:List D),frz 3 [a0,a1,a2,some (.own ds),a4,a5,a6,a7]=[a0,a1,a2,some (.val (.lst false ds)),a4,a5,a6,a7]:=λ_ _ _ _ _ _ _ _=>rfl;have z0:(0:Nat)<=sizeLine:=wA _;show ar (ax _ _ [vL fz ns,vI a,vD (sD s),none,none,none,none,none])=_;clear hrs hpk ee eg h w1 w2 n2;generalize sD s=S at *
 walk_at "run"
def JG(h:GS s)(hx:dc s.2.1.length s.1 xs=true)(f:Bool):crG C [sD s,.lst f (xs.map .str)]=.ok .non:=O4 h hx f
end
def iI:Ev->O:=(ax (bS (g2 ixD (rvz 0) (ciz 0))) oNx)
noncomputable def gX(bo:List D->R D):Ev->O:=(ax (oIf (jY (sR true 0 (rvz 1)) (gB2 ltD (aA 1 bo (ac (rvz 2) nlz)) (aA 1 bo (ac (ju 0 (rvz 1)) nlz)))) (ax (EI 0 (rvz 1) (rvz 2)) oNx) oNx) oNx)
noncomputable def bK(I_offer:MF)(bX:List D->R D):Ev->O:=(ax (gz (kS DC 0 2 I_offer (ac (rvz 1) (ac (av mkT (ac (g2 bv (g2 ixD (rvz 2) (ciz 0)) (aA 1 bX (ac (rvz 3) nlz))) (ac (g2 bv (g2 ixD (rvz 2) (ciz 1)) (av mkT (ac (rvz 3) nlz))) nlz))) nlz)))) oNx)
noncomputable def fg(I_offer_with_order:MF):Ev->O:=(oIf (sR false 3 (λ_=>R.ok (D.tup [D.bl false,D.bl false]))) (ax (gz (kS DC 3 3 I_offer_with_order (ac (λ_=>R.ok (D.tup [D.bl true,D.bl false])) (ac (ju 3 (λ_=>R.ok (D.tup [D.bl false,D.bl false]))) (ac (av mkT (ac (csz [103,111]) (ac (rvz 1) (ac (rvz 2) nlz)))) nlz))))) oNx) oNx)
noncomputable def fo(I_offer_with_order:MF):Ev->O:=(oIf (sR false 3 (λ_=>R.ok (D.tup [D.bl true,D.bl false]))) (ax (gz (kS DC 3 3 I_offer_with_order (ac (λ_=>R.ok (D.tup [D.bl true,D.bl true])) (ac (ju 3 (λ_=>R.ok (D.tup [D.bl true,D.bl false]))) (ac (av mkT (ac (csz [119,105,112,101]) nlz)) nlz))))) oNx) oNx)
noncomputable def fj(I_offer_with_order:MF):Ev->O:=(oIf (sR false 3 (λ_=>R.ok (D.tup [D.bl false,D.bl true]))) (ax (gz (kS DC 3 3 I_offer_with_order (ac (λ_=>R.ok (D.tup [D.bl true,D.bl true])) (ac (ju 3 (λ_=>R.ok (D.tup [D.bl false,D.bl true]))) (ac (av mkT (ac (csz [103,111]) (ac (rvz 1) (ac (rvz 2) nlz)))) nlz))))) oNx) oNx)
def lA(I_offer_with_order:MF):Ev->O:=(uZ 3)
noncomputable def ij(I_offer_with_order:MF):Ev->O:=(ax (fg I_offer_with_order) (ax (fo I_offer_with_order) (ax (fj I_offer_with_order) (ax (lA I_offer_with_order) oNx))))
noncomputable def cL(I_offer_with_order:MF):Addr×Unit->Ev->O:=(CA 3 (rvz 0) (HM (ij I_offer_with_order)))
noncomputable def fP(I_offer_with_order I_offer:MF):Ev->O:=(ax (cN 6 (g2 ixD (rvz 4) (ciz 1))) (ax (oIf (av iV (g2 ixD (rvz 4) (ciz 0))) (ax (gz (kS DC 3 3 I_offer_with_order (ac (av mkT (ac (λ_=>R.ok (D.bl true)) (ac (rvz 6) nlz))) (ac (rvz 5) (ac (av mkT (ac (csz [115,97,121]) (ac (rvz 2) nlz))) nlz))))) oNx) oNx) (ax (oIf (gB2 eqF (gIf (av iV (rvz 6)) (csz [32]) (rvz 1)) (rvz 2)) (ax (gz (kS DC 3 2 I_offer (ac (av mkT (ac (λ_=>R.ok (D.bl false)) (ac (rvz 6) nlz))) (ac (rvz 5) nlz)))) oNx) oNx) oNx)))
noncomputable def cX(I_offer_with_order I_offer:MF):Ev->O:=(pN (vt [4,5]) (av As (rvz 0)) (fP I_offer_with_order I_offer))
def fD(I_offer_with_order I_offer:MF):Ev->O:=(uZ 3)
noncomputable def mX(I_offer_with_order I_offer:MF):Ev->O:=(ax (cX I_offer_with_order I_offer) (ax (fD I_offer_with_order I_offer) oNx))
noncomputable def cI(I_offer_with_order I_offer:MF):Addr×Unit->Ev->O:=(FJ 3 (HM (mX I_offer_with_order I_offer)))
noncomputable def mO(cT cg:List D->R D):Ev->O:=(ax (cN 5 (aA 3 cg (ac (aA 3 cT (ac (rvz 5) (ac (rvz 1) (ac (rvz 6) nlz)))) (ac (g2 ixD (rvz 2) (rvz 6)) (ac (g2 ixD (rvz 3) (rvz 6)) nlz))))) oNx)
noncomputable def pH(cT cg:List D->R D):Ev->O:=(ax (cN 5 (rvz 0)) (ax (pN (jz 6) (av kq (ac (rvz 4) (ac (gOf de (ac (rvz 2) nlz)) nlz))) (mO cT cg)) (ax (bS (rvz 5)) oNx)))
noncomputable def jq(bo:List D->R D):Ev->O:=(ax (bS (wJ (bf (dS (av bz (rvz 1)) [0] (sR false 1 (rvz 0)) (ju 1 (rvz 0)))) bo)) oNx)
noncomputable def cA(fS cr:List D->R D):Ev->O:=(ax (cN 3 (aA 5 fS (ac (gD1 (λ_=>R.ok (D.tup [D.bl false,D.bl false])) (λ_=>R.ok (D.tup [D.int 0,D.tup []]))) (ac (rvz 0) (ac (rvz 1) (ac (rvz 2) (ac (ciz 0) nlz))))))) (ax (bS (aA 2 cr (ac (rvz 3) (ac (av mkT (ac (λ_=>R.ok (D.tup [D.bl false,D.bl false])) (ac (λ_=>R.ok (D.tup [D.bl true,D.bl false])) (ac (λ_=>R.ok (D.tup [D.bl false,D.bl true])) (ac (λ_=>R.ok (D.tup [D.bl true,D.bl true])) nlz))))) nlz)))) oNx))
noncomputable def dC(fS cr:List D->R D):Ev->O:=(ax (cN 4 (aA 5 fS (ac (gD1 (λ_=>R.ok (D.tup [D.bl true,D.bl false])) (λ_=>R.ok (D.tup [D.int 0,D.tup []]))) (ac (rvz 0) (ac (rvz 1) (ac (rvz 2) (ac (rvz 3) nlz))))))) (ax (cN 5 (aA 2 cr (ac (rvz 4) (ac (av mkT (ac (λ_=>R.ok (D.tup [D.bl false,D.bl false])) (ac (λ_=>R.ok (D.tup [D.bl true,D.bl false])) (ac (λ_=>R.ok (D.tup [D.bl false,D.bl true])) (ac (λ_=>R.ok (D.tup [D.bl true,D.bl true])) nlz))))) nlz)))) (ax (cN 4 (aA 5 fS (ac (gD1 (λ_=>R.ok (D.tup [D.bl false,D.bl false])) (λ_=>R.ok (D.tup [D.int 0,D.tup []]))) (ac (rvz 0) (ac (gSl (rvz 1) (λ_=>R.ok none) (fm (rvz 3))) (ac (gSl (rvz 2) (λ_=>R.ok none) (fm (rvz 3))) (ac (ciz 0) nlz))))))) (ax (cN 6 (aA 2 cr (ac (rvz 4) (ac (av mkT (ac (λ_=>R.ok (D.tup [D.bl false,D.bl false])) (ac (λ_=>R.ok (D.tup [D.bl true,D.bl false])) nlz))) nlz)))) (ax (bS (av mkT (ac (g2 bv (g2 ixD (rvz 5) (ciz 0)) (g2 ixD (rvz 6) (ciz 0))) (ac (g2 bv (g2 ixD (rvz 5) (ciz 1)) (g2 ixD (rvz 6) (ciz 1))) nlz)))) oNx)))))
noncomputable def cQ(aE cw bo:List D->R D):Ev->O:=(ax (cN 4 (bf (jU (ac (aA 4 cw (ac (rvz 0) (ac (rvz 1) (ac (rvz 2) (ac (rvz 3) nlz))))) (ac (aA 3 aE (ac (rvz 0) (ac (rvz 1) (ac (rvz 2) nlz)))) nlz))))) (ax (bS (wJ (rvz 4) bo)) oNx))
noncomputable def mW(bh bx:List D->R D)(bq aE dG:List D->R D):Ev->O:=(ax (oIf (gB2 neF (rvz 5) (rvz 3)) (ax (Hh 4 (g2 ixD (aA 3 aE (ac (rvz 5) (ac (rvz 6) (ac (g2 ixD (rvz 2) (rvz 5)) nlz)))) (ciz 1))) oNx) oNx) oNx)
noncomputable def oU(bh bx:List D->R D)(bq aE dG:List D->R D):Ev->O:=(ax (oX (aA 2 bh (ac (rvz 0) (ac (rvz 1) nlz)))) (ax (cN 2 (aA 2 bx (ac (rvz 0) (ac (rvz 1) nlz)))) (ax (cN 3 (g2 ixD (g2 ixD (rvz 0) (ciz 2)) (ciz 0))) (ax (yh 4 (HX (ac (g2 ixD (aA 4 bq (ac (rvz 3) (ac (g2 ixD (g2 ixD (rvz 0) (ciz 1)) (rvz 3)) (ac (g2 ixD (rvz 2) (rvz 3)) (ac (g2 ixD (g2 ixD (rvz 0) (ciz 2)) (ciz 1)) nlz))))) (ciz 1)) nlz))) (ax (pN (vt [5,6]) (av rl (g2 ixD (rvz 0) (ciz 1))) (mW bh bx bq aE dG)) (zC 4 (ax (bS (aA 1 dG (ac (rvz 4) nlz))) oNx)))))))
noncomputable def gD(eO ie:List D->R D):Ev->O:=(ax (bS (aA 1 ie (ac (aA 2 eO (ac (rvz 0) (ac (rvz 1) nlz))) nlz))) oNx)
abbrev Ky:=Bool×Bool
abbrev Pl:=Nat×List Od
abbrev Mp:=List (Ky×Pl)
def pD(p:Pl):D:=.tup [.int (p.1:Int),.tup (p.2.map oD)]
def kD(k:Ky):D:=.tup [.bl k.1,.bl k.2]
def kN(k:Ky):Nat:=code k.1 k.2
def fsD(m:Mp):List (Nat×Fd):=m.map λz=>(kN z.1,.val (pD z.2))
def kvD(m:Mp):List (Nat×D):=m.map λz=>(kN z.1,pD z.2)
def dD(m:Mp):D:=.dct (m.map λz=>kN z.1) (m.map λz=>pD z.2)
noncomputable def zj(k:Ky)(p:Pl):Mp->Mp
 | []=>[(k,p)]
 | (j,x)::r=>if j=k then (j,p)::r else (j,x)::zj k p r
noncomputable def ci(m:Mp)(k:Ky)(p:Pl):Mp:=match m.lookup k with
 |none=>zj k p m
 |some q=>if p.1<q.1 then zj k p m else m
def lN(p:Pl)(o:Od):Pl:=(p.1+bD o,p.2++[o])
def FA{a b:Ky}(h:kN a=kN b):a=b:=by obtain⟨a1,a2⟩:=a;obtain⟨b1,b2⟩:=b;revert h;cases a1 <;> cases a2 <;> cases b1 <;> cases b2 <;> simp[kN,code]
def pB(k:Ky):vk (kD k)=some (kN k):=rfl
theorem wW:∀m:Mp,fvs (fsD m)=some (kvD m)
 | []=>rfl
 |z::m=>by show(fvs (fsD m)).map _=_;rw[wW m];rfl
theorem Bn:∀m:Mp,(m.map λz=>kN z.1).zip (m.map λz=>pD z.2)=kvD m
 | []=>rfl
 |z::m=>vC ((kN z.1,pD z.2)::·) (Bn m)
theorem EO:∀m:Mp,(m.map λz=>kN z.1).zip ((m.map λz=>pD z.2).map Fd.val)=fsD m
 | []=>rfl
 |z::m=>vC ((kN z.1,Fd.val (pD z.2))::·) (EO m)
theorem pi(k:Ky):∀m:Mp,(kvD m).lookup (kN k)=(m.lookup k).map pD
 | []=>rfl
 | (j,x)::m=>by
  show List.lookup (kN k) ((kN j,pD x)::kvD m)=_;rw[vy,vy];by_cases h:k=j;·subst h;rw[pc,pc];rfl
  ·rw[r6.2 λz=>h (FA z),r6.2 h];exact pi k m
theorem FI(k:Ky)(p:Pl):∀m:Mp,vj (kN k) (.val (pD p)) (fsD m)=fsD (zj k p m)
 | []=>rfl
 | (j,x)::m=>by
  show(if kN j=kN k then _ else _)=fsD (if j=k then _ else _);by_cases h:j=k;·subst h;rw[if_pos rfl,if_pos rfl];rfl
  ·rw[if_neg λz=>h (FA z),if_neg h];show(_,_)::vj _ _ (fsD m)=(_,_)::fsD _;rw[FI k p m]
def GA(m:Mp):(fsD m).length=m.length:=by unfold fsD;simp
def keys(m:Mp):List Ky:=m.map (·.1)
def OS:∀a b c d e:Ky,¬ [a,b,c,d,e].Nodup:=by intro ⟨a1,a2⟩ ⟨b1,b2⟩ ⟨c1,c2⟩ ⟨d1,d2⟩ ⟨e1,e2⟩;revert a1 a2 b1 b2 c1 c2 d1 d2 e1 e2;decide
def few:∀{l:List Ky},l.Nodup->l.length<=4
 | [],_=>by simp
 | [_],_=>by simp
 | [_,_],_=>by simp
 | [_,_,_],_=>by simp
 | [_,_,_,_],_=>by simp
 |a::b::c::d::e::r,h=>by exfalso;have h':(a::b::c::d::e::r).take 5=[a,b,c,d,e]:=rfl;exact OS a b c d e (h'▸h.sublist (List.take_sublist 5 _))
theorem kT{k:Ky}{p:Pl}:∀{m:Mp},m.lookup k=some p->(k,p)∈m
 | (j,x)::m,e=>by
  rw[vy]at e;by_cases q:k=j;·subst q;rw[pc]at e;cases e;exact zx ..
  ·rw[r6.2 q]at e;exact zF _ (kT e)
theorem yp{k:Ky}{p:Pl}:∀{m:Mp},keys (zj k p m)=if k∈keys m then keys m else keys m++[k]
 | []=>rfl
 | (j,x)::m=>by
  show keys (if j=k then (j,p)::m else (j,x)::zj k p m)=_;by_cases q:j=k;·rw[if_pos q,if_pos (by rw[<- q];exact zx ..)];rfl
  ·rw[if_neg q];show j::keys (zj k p m)=if k∈j::keys m then j::keys m else j::keys m++[k];rw[yp];by_cases h:k∈keys m;·rw[if_pos h,if_pos (zF _ h)]
   ·rw[if_neg h,if_neg (λz=>by rcases zL.1 z with z|z;exact q z.symm;exact h z)];rfl
def uS{k:Ky}{p:Pl}{m:Mp}(h:(keys m).Nodup):(keys (zj k p m)).Nodup:=by
 rw[yp];split;·exact h
 ·rename_i q;rw[List.nodup_append];exact⟨h,by simp,λa ha b hb=>by rw[wP.1 hb];intro z;exact q (z▸ha)⟩
theorem vW{k:Ky}{p:Pl}{z:Ky×Pl}:∀{m:Mp},z∈zj k p m->z∈m\/z=(k,p)
 | [],h=>.inr (wP.1 h)
 | (j,x)::m,h=>by
  replace h:z∈(if j=k then (j,p)::m else (j,x)::zj k p m):=h
  split at h
  ·rename_i q;subst q;rcases zL.1 h with h|h;·exact .inr h
   ·exact .inl (zF _ h)
  ·rcases zL.1 h with h|h;·exact .inl (h▸zx ..)
   ·rcases vW h with h|h;·exact .inl (zF _ h)
    ·exact .inr h
theorem rF{k j:Ky}{p:Pl}:∀{m:Mp},(zj k p m).lookup j=if j=k then some p else m.lookup j
 | []=>by
  show List.lookup j [(k,p)]=_;rw[vy];by_cases q:j=k;·rw[if_pos q,q,pc]
  ·rw[if_neg q,r6.2 q]
 | (i,x)::m=>by
  show List.lookup j (if i=k then (i,p)::m else (i,x)::zj k p m)=_;by_cases q:i=k
  ·subst q;rw[if_pos rfl,vy,vy];by_cases z:j=i;·rw[if_pos z,z,pc]
   ·rw[if_neg z,r6.2 z]
  ·rw[if_neg q,vy,vy];by_cases z:j=i;·rw[z,pc];dsimp only;rw[if_neg q]
   ·rw[r6.2 z];exact rF
def jK{m:Mp}{k j:Ky}{p:Pl}:(ci m k p).lookup j=if j=k then (match m.lookup k with
  |none=>some p
  |some q=>if p.1<q.1 then some p else some q)else m.lookup j:=by
 unfold ci;cases e:m.lookup k with
 |none=>dsimp only;exact rF
 |some q=>
  dsimp only;by_cases h:p.1<q.1;·rw[if_pos h,if_pos h];exact rF
  ·rw[if_neg h,if_neg h];by_cases z:j=k;·rw[if_pos z,z,e]
   ·rw[if_neg z]
def iq{m:Mp}{k:Ky}{p:Pl}(h:(keys m).Nodup):(keys (ci m k p)).Nodup:=by
 unfold ci;split;·exact uS h
 ·split;·exact uS h
  ·exact h
def BM{m:Mp}{k:Ky}{p:Pl}{z:Ky×Pl}(h:z∈ci m k p):z∈m\/z=(k,p):=by
 unfold ci at h;split at h;·exact vW h
 ·split at h;·exact vW h
  ·exact .inl h
def All(P:Ky->Pl->Prop)(m:Mp):Prop:=∀z∈m,P z.1 z.2
def All.offer{P:Ky->Pl->Prop}{m:Mp}{k:Ky}{p:Pl}(h:All P m)(hp:P k p):All P (ci m k p):=λz hz=>by
 rcases BM hz with q|q;·exact h z q
 ·subst q;exact hp
def All.at{P:Ky->Pl->Prop}{m:Mp}{k:Ky}{p:Pl}(h:All P m)(e:m.lookup k=some p):P k p:=h _ (kT e)
abbrev dO(q:Addr)(m:Mp):Option Sl:=some (.obj true DC q (fsD m))
def Fr{n:Nat}(h1:ge ρ=.ok d)(h2:vk d=some n)(h3:vf ρ i=.ok kv):sR neg i ge ρ=.ok (if neg then !(kv.lookup n).isSome else (kv.lookup n).isSome):=by unfold sR;rw[h1,R.ok_bind,h2,cF,R.ok_bind,h3,R.ok_bind]
def AR{v:D}{n:Nat}(h3:vf ρ i=.ok kv)(h1:ge ρ=.ok d)(h2:vk d=some n)(h4:kv.lookup n=some v):ju i ge ρ=.ok v:=by unfold ju;rw[h3,R.ok_bind,h1,R.ok_bind,h2];show ofO (kv.lookup n)=_;rw[h4];rfl
def xK{p:Addr}{m:Mp}(h:ρ[i]?=some (some (.obj b DC p (fsD m)))):vf ρ i=.ok (kvD m):=by unfold vf;rw[h];dsimp only;rw[if_pos rfl,wW];rfl
def D8{m:Mp}(h:ρ[i]?=some (vD (dD m))):vf ρ i=.ok (kvD m):=by unfold vf;rw[h];unfold dD;dsimp only;rw[Bn]
def HC{gk ga:Ev->R D}{m:Mp}{k:Ky}{p:Pl}(h:ρ[i]?=some (dO q m))(hd:ga ρ=.ok (pD p))(hk:gk ρ=.ok (kD k))(hl:m.length<900):
  EI i gk ga ρ=.nx (ρ.set i (dO q (zj k p m))):=by
 unfold EI;rw[Gv h,R.ok_out,hd,mZ,R.ok_out,hk,mZ,R.ok_out,pB];dsimp only;rw[if_pos (by rw[GA];exact hl),FI]
def Al{m:Mp}{k:Ky}(h:ρ[i]?=some (some (.obj b DC q (fsD m))))(hk:ge ρ=.ok (kD k)):sR neg i ge ρ=.ok (if neg then !(m.lookup k).isSome else (m.lookup k).isSome):=by rw[Fr hk (pB k) (xK h),pi,Option.isSome_map]
def yx{m:Mp}{k:Ky}{p:Pl}(h:ρ[i]?=some (some (.obj b DC q (fsD m))))(hk:ge ρ=.ok (kD k))(e:m.lookup k=some p):ju i ge ρ=.ok (pD p):=
 AR (xK h) hk (pB k) (by rw[pi,e];rfl)
def pcF:List D->R D:=λds=>ar (iI (ao 1 ds))
def GD(p:Pl):pcF [pD p]=.ok (.int (p.1:Int)):=rfl
def xE(q:Addr)(m:Mp)(k:Ky)(p:Pl)(hl:m.length<900):
  gX pcF [dO q m,vD (kD k),vD (pD p)]=.nx [dO q (ci m k p),vD (kD k),vD (pD p)]:=by
 unfold gX;have h1:=Al (neg:=true) (i:=0) (ge:=λρ=>rdV ρ 1) (ρ:=[dO q m,vD (kD k),vD (pD p)]) rfl rfl;have h2:=HC (i:=0) (gk:=λρ=>rdV ρ 1) (ga:=λρ=>rdV ρ 2) (ρ:=[dO q m,vD (kD k),vD (pD p)]) rfl rfl rfl hl;have h3:=GD p;unfold ci;cases e:m.lookup k with
 |none=>
  rw[e]at h1;dsimp only[Option.isSome_none]at h1
  walk_at "run"
 |some p0=>
  rw[e]at h1;have h4:=yx (i:=0) (ge:=λρ=>rdV ρ 1) (ρ:=[dO q m,vD (kD k),vD (pD p)]) rfl rfl e;have h5:=GD p0;dsimp only[Option.isSome_some]at h1;have h6:ltD (.int (p.1:Int)) (.int (p0.1:Int))=some (.bl (decide (p.1<p0.1))):=by show some (D.bl (decide ((p.1:Int)<(p0.1:Int))))=_;rw[show decide ((p.1:Int)<(p0.1:Int))=decide (p.1<p0.1) from decide_eq_decide.2 Int.ofNat_lt]
  by_cases h:p.1<p0.1;·walk_at "run"
  ·walk_at "run"
noncomputable def O8(ρ:Ev):RM:=match (ρ[0]?:Option (Option Sl))with
 |some (some (.obj _ _ _ fs))=>.ok .non fs
 |_=>.no
def Mb(o:O):RM:=match o with
 |.nx ρ=>O8 ρ
 |_=>.no
open Classical in
noncomputable def dQ:MF:=λfs ds=>if ∃m k p,fs=fsD m/\ds=[kD k,pD p]/\m.length<900 then Mb (gX pcF (gR true DC 0 fs 3 ds))else .no
def qR{m:Mp}(k:Ky)(p:Pl)(hl:m.length<900):dQ (fsD m) [kD k,pD p]=.ok .non (fsD (ci m k p)):=by unfold dQ;rw[if_pos ⟨m,k,p,rfl,rfl,hl⟩];show Mb (gX pcF [some (.obj true DC 0 (fsD m)),vD (kD k),vD (pD p)])=_;rw[xE 0 m k p hl];rfl
def C1:sX DC (gX pcF) 3 dQ:=by
 intro q fs ds;by_cases h:∃m k p,fs=fsD m/\ds=[kD k,pD p]/\m.length<900;·obtain⟨m,k,p,rfl,rfl,hl⟩:=h;rw[qR k p hl];exact⟨_,rfl,.inr ⟨xE q m k p hl,rfl⟩⟩
 ·have e:dQ fs ds=.no:=by unfold dQ;exact if_neg h
  rw[e];trivial
def D1{n:Nat}{F:MF}{p:Addr}{fs:List (Nat×Fd)}(ho:ρ[i]?=some (some (.obj true C p fs)))(ha:gl ρ=.ok ds)(hl:ds.length=n)(hF:F fs ds=.ok d fs'):gz (kS C i n F gl) ρ=.nx (ρ.set i (some (.obj true C p fs'))):=by unfold gz;rw[Es ho ha hl hF];rfl
def No{p:Pl}{o:Od}(h:p.2.length<900):bv (.tup (p.2.map oD)) (.tup [oD o])=some (.tup ((p.2++[o]).map oD)):=by
 have h1:1000<=sizeLine:=by decide
 show(if _ then _ else _)=_;rw[if_pos (by simp;omega)];simp
def Fj(q:Addr)(m:Mp)(k:Ky)(p:Pl)(o:Od)(hl:m.length<900)(hp:p.2.length<900):
  bK dQ ocG [dO q m,vD (kD k),vD (pD p),vD (oD o)]=.nx [dO q (ci m k (lN p o)),vD (kD k),vD (pD p),vD (oD o)]:=by
 show(gz (kS DC 0 2 dQ _) _).seq _=_;rw[D1 (n:=2) rfl ?_ rfl (qR k (lN p o) hl)];·rfl
 ·have h1:=Oy o;have h2:=No (o:=o) hp;have h3:ixD (pD p) (.int 0)=some (.int (p.1:Int)):=rfl;have h4:ixD (pD p) (.int 1)=some (.tup (p.2.map oD)):=rfl;have h5:bv (.int (p.1:Int)) (.int (bD o:Int))=some (.int ((p.1+bD o:Nat):Int)):=rfl;have h6:mkT [oD o]=.ok (.tup [oD o]):=rfl;have h7:mkT [.int ((p.1+bD o:Nat):Int),.tup ((p.2++[o]).map oD)]=.ok (pD (lN p o)):=rfl
  walk_at "run"
open Classical in
noncomputable def lZ:MF:=λfs ds=>if ∃m k p o,fs=fsD m/\ds=[kD k,pD p,oD o]/\m.length<900/\p.2.length<900 then Mb (bK dQ ocG (gR true DC 0 fs 4 ds))else .no
def Cm{m:Mp}(k:Ky){p:Pl}(o:Od)(hl:m.length<900)(hp:p.2.length<900):lZ (fsD m) [kD k,pD p,oD o]=.ok .non (fsD (ci m k (lN p o))):=by unfold lZ;rw[if_pos ⟨m,k,p,o,rfl,rfl,hl,hp⟩];show Mb (bK dQ ocG [some (.obj true DC 0 (fsD m)),vD (kD k),vD (pD p),vD (oD o)])=_;rw[Fj 0 m k p o hl hp];rfl
def ko:sX DC (bK dQ ocG) 4 lZ:=by
 intro q fs ds;by_cases h:∃m k p o,fs=fsD m/\ds=[kD k,pD p,oD o]/\m.length<900/\p.2.length<900;·obtain⟨m,k,p,o,rfl,rfl,hl,hp⟩:=h;rw[Cm k o hl hp];exact⟨_,rfl,.inr ⟨Fj q m k p o hl hp,rfl⟩⟩
 ·have e:lZ fs ds=.no:=by unfold lZ;exact if_neg h
  rw[e];trivial
noncomputable def move(m:Mp)(a b:Ky)(o:Od):Mp:=match m.lookup a with
 |some p=>ci m b (lN p o)
 |none=>m
noncomputable def iR(m:Mp)(n c:Nat):Mp:=move (move (move m (false,false) (true,false) (.go n c)) (true,false) (true,true) .wipe) (false,true) (true,true) (.go n c)
def Len(J:Nat)(m:Mp):Prop:=All (λ_ p=>p.2.length<=J) m
def Len.mono{K:Nat}{m:Mp}(h:Len J m)(l:J<=K):Len K m:=λz hz=>wt (h z hz) l
def Len.move{J:Nat}{m:Mp}(h:Len J m)(a b:Ky)(o:Od):Len (J+1) (move m a b o):=by
 unfold Q.move;cases e:m.lookup a with
 |none=>exact h.mono (la _)
 |some p=>exact All.offer (h.mono (la _)) (by have:=All.at h e;simp only[lN,w6,ZG];omega)
def qh{m:Mp}(h:(keys m).Nodup)(a b:Ky)(o:Od):(keys (move m a b o)).Nodup:=by
 unfold move;split;·exact iq h
 ·exact h
def GM{m:Mp}(h:(keys m).Nodup):m.length<=4:=by have:=few h;rwa [keys,zy]at this
def wn{x0 x1 x2:Option Sl}{m:Mp}(a b:Ky){o:Od}{go:Ev->R D}(hgo:go [x0,x1,x2,dO q m]=.ok (oD o))(hn:(keys m).Nodup)(hp:Len J m)(hJ:J<900):
  oIf (sR false 3 (λ_=>R.ok (kD a))) (ax (gz (kS DC 3 3 lZ (ac (λ_=>R.ok (kD b)) (ac (ju 3 (λ_=>R.ok (kD a))) (ac go nlz))))) oNx) oNx [x0,x1,x2,dO q m] =
   .nx [x0,x1,x2,dO q (move m a b o)]:=by
 have h1:=Al (neg:=false) (i:=3) (ge:=λ_=>R.ok (kD a)) (ρ:=[x0,x1,x2,dO q m]) rfl rfl;have hl:=GM hn;unfold move;cases e:m.lookup a with
 |none=>
  rw[e]at h1;dsimp only[Option.isSome_none]at h1⊢
  walk_at "run"
 |some p=>
  rw[e]at h1;dsimp only[Option.isSome_some]at h1⊢;have h2:=yx (i:=3) (ge:=λ_=>R.ok (kD a)) (ρ:=[x0,x1,x2,dO q m]) rfl rfl e;have h4:gz (kS DC 3 3 lZ (ac (λ_=>R.ok (kD b)) (ac (ju 3 (λ_=>R.ok (kD a))) (ac go nlz)))) [x0,x1,x2,dO q m]=.nx [x0,x1,x2,dO q (ci m b (lN p o))]:=by
   refine D1 rfl ?_ rfl (Cm b o (by omega) (by have:=All.at hp e;omega))
   walk_at "run"
  walk_at "run"
def Aa{m:Mp}(h:ρ[i]?=some (dO q m)):uZ i ρ=.rt (dD m):=by unfold uZ;rw[h];dsimp only;rw[if_pos rfl,wW];unfold kvD dD;simp only[List.map_map];rfl
def Kr(q:Addr×Unit){m:Mp}(n c:Nat)(hm:m≠[])(hn:(keys m).Nodup)(hp:Len J m)(hJ:J<890):cL lZ q (ao 4 [dD m,.int (n:Int),.int (c:Int)])=.rt (dD (iR m n c)):=by
 have h0:cL lZ q (ao 4 [dD m,.int (n:Int),.int (c:Int)])=ij lZ [vD (dD m),vI n,vI c,some (.obj true DC q.1 (fsD m))]:=by
  cases m with
  |nil=>exact absurd rfl hm
  |cons z r=>show ij lZ [_,_,_,some (.obj true DC q.1 ((((z::r:Mp).map λz=>kN z.1)).zip ((((z::r:Mp).map λz=>pD z.2)).map Fd.val)))]=_;rw[EO]
 rw[h0];have h1:=wn (x0:=vD (dD m)) (x1:=vI n) (x2:=vI c) (q:=q.1) (false,false) (true,false) (o:=.go n c) (go:=av mkT (ac (csz [103,111]) (ac (rvz 1) (ac (rvz 2) nlz)))) rfl hn hp (by omega);have n1:=qh hn (false,false) (true,false) (.go n c);have l1:=hp.move (false,false) (true,false) (.go n c);have h2:=wn (x0:=vD (dD m)) (x1:=vI n) (x2:=vI c) (q:=q.1) (true,false) (true,true) (o:=.wipe) (go:=av mkT (ac (csz [119,105,112,101]) nlz)) rfl n1 l1 (by omega);have n2:=qh n1 (true,false) (true,true) .wipe;have l2:=l1.move (true,false) (true,true) .wipe;have h3:=wn (x0:=vD (dD m)) (x1:=vI n) (x2:=vI c) (q:=q.1) (false,true) (true,true) (o:=.go n c) (go:=av mkT (ac (csz [103,111]) (ac (rvz 1) (ac (rvz 2) nlz)))) rfl n2 l2 (by omega);show(fg lZ _).seq _=_;rw[show fg lZ _=_ from h1];show(fo lZ _).seq _=_;rw[show fo lZ _=_ from h2];show(fj lZ _).seq _=_;rw[show fj lZ _=_ from h3];show(uZ 3 _).seq _=_;rw[Aa rfl];rfl
open Classical in
noncomputable def wmF:List D->R D:=λds=>if ∃m,∃n c:Nat,ds=[dD m,.int (n:Int),.int (c:Int)]/\m≠[]/\(keys m).Nodup/\Len 880 m then ar (cL lZ (0,()) (ao 4 ds))else .no
def Lc{m:Mp}(n c:Nat)(hm:m≠[])(hn:(keys m).Nodup)(hp:Len J m)(hJ:J<=880):wmF [dD m,.int (n:Int),.int (c:Int)]=.ok (dD (iR m n c)):=by unfold wmF;rw[if_pos ⟨m,n,c,rfl,hm,hn,hp.mono hJ⟩,Kr _ n c hm hn hp (by omega)];rfl
def rC:∀ds:List D,ds.length=3->wmF ds=.no\/∀q,ar (cL lZ q (ao 4 ds))=wmF ds:=by
 intro ds _;by_cases h:∃m,∃n c:Nat,ds=[dD m,.int (n:Int),.int (c:Int)]/\m≠[]/\(keys m).Nodup/\Len 880 m;·obtain⟨m,n,c,rfl,hm,hn,hp⟩:=h;refine .inr λq=>?_;rw[Lc n c hm hn hp (z9 _),Kr q n c hm hn hp (by omega)];rfl
 ·exact .inl (by unfold wmF;exact if_neg h)
def und(old:Nat)(b:Bool):Nat:=match b with
 |true=>32
 |false=>old
def cy{g h:Ev->O}{ρ1:Ev}(e:g ρ=.nx ρ1):ax g h ρ=h ρ1:=by show(g ρ).seq h=_;rw[e];rfl
noncomputable def sovK(old new:Nat)(acc:Mp)(z:Ky×Pl):Mp:=
 let a1:=if z.1.1=true then ci acc (true,z.1.2) (lN z.2 (.say [new]))else acc
 if und old z.1.2=new then ci a1 (false,z.1.2) z.2 else a1
def CD(old new:Nat)(m:Mp):Mp:=m.foldl (sovK old new) []
def qc{old new:Nat}{acc:Mp}{z:Ky×Pl}(h:(keys acc).Nodup):(keys (sovK old new acc z)).Nodup:=by
 unfold sovK;have h1:(keys (if z.1.1=true then ci acc (true,z.1.2) (lN z.2 (.say [new]))else acc)).Nodup:=by
  split;·exact iq h
  ·exact h
 dsimp only;split;·exact iq h1
 ·exact h1
theorem mT{α:Type}{P:Mp->Prop}{f:Mp->α->Mp}:∀{l:List α}{a:Mp},P a->(∀a x,x∈l->P a->P (f a x))->P (l.foldl f a)
 | [],_,h,_=>h
 |x::l,a,h,H=>mT (l:=l) (H a x (zx ..) h) λa y hy=>H a y (zF _ hy)
def zJ{old new:Nat}{m:Mp}:(keys (CD old new m)).Nodup:=mT (P:=λm=>(keys m).Nodup) List.Pairwise.nil λ_ _ _ h=>qc h
def sF{old new:Nat}{m:Mp}{P R:Ky->Pl->Prop}(h:All P m)(h1:∀k p,P k p->k.1=true->R (true,k.2) (lN p (.say [new])))(h2:∀k p,P k p->und old k.2=new->R (false,k.2) p):All R (CD old new m):=by
 refine mT (λz hz=>nomatch hz) λa x hx ha=>?_;unfold sovK;dsimp only;have g1:All R (if x.1.1=true then ci a (true,x.1.2) (lN x.2 (.say [new]))else a):=by
  split;·rename_i q;exact All.offer ha (h1 _ _ (h x hx) q)
  ·exact ha
 split;·rename_i q;exact All.offer g1 (h2 _ _ (h x hx) q)
 ·exact g1
def BK{x0 x6:Option Sl}{acc:Mp}(old new:Nat)(k:Ky)(p:Pl)(hn:(keys acc).Nodup)(hp:p.2.length<900):
  fP lZ dQ [x0,vS [old],vS [new],dO q acc,vD (kD k),vD (pD p),x6] =
   .nx [x0,vS [old],vS [new],dO q (sovK old new acc (k,p)),vD (kD k),vD (pD p),vD (.bl k.2)]:=by
 obtain⟨k1,k2⟩:=k;have i0:ixD (kD (k1,k2)) (.int 0)=some (.bl k1):=rfl;have fin:∀a1:Mp,(keys a1).Nodup->oIf (gB2 eqF (gIf (av iV (rvz 6)) (csz [32]) (rvz 1)) (rvz 2)) (ax (gz (kS DC 3 2 dQ (ac (av mkT (ac (λ_=>R.ok (D.bl false)) (ac (rvz 6) nlz))) (ac (rvz 5) nlz)))) oNx) oNx
   [x0,vS [old],vS [new],dO q a1,vD (kD (k1,k2)),vD (pD p),vD (.bl k2)] =
   .nx [x0,vS [old],vS [new],dO q (if und old k2=new then ci a1 (false,k2) p else a1),vD (kD (k1,k2)),vD (pD p),vD (.bl k2)]:=by
  intro a1 n1;have hl:=GM n1;have h4:=D1 (i:=3) (n:=2) (gl:=ac (av mkT (ac (λ_=>R.ok (D.bl false)) (ac (rvz 6) nlz))) (ac (rvz 5) nlz)) (ρ:=[x0,vS [old],vS [new],dO q a1,vD (kD (k1,k2)),vD (pD p),vD (.bl k2)]) rfl rfl rfl (qR (false,k2) p (by omega));have h6:∀y:Nat,eqF (.str [y]) (.str [new])=some (.bl (decide (y=new))):=λy=>by
   rw[Op];congr 2;by_cases z:y=new;·rw[z,pc,qQ rfl]
   ·rw[v6 z,r6];intro y;exact z (by injection y)
  have h7:=h6 (und old k2);clear h6;by_cases z:und old k2=new;·rw[qQ z]at h7;cases k2 <;> dsimp only[und]at h7 <;> walk_at "run"
  ·rw[v6 z]at h7;cases k2 <;> dsimp only[und]at h7 <;> walk_at "run"
 have hl:=GM hn;cases k1 with
 |true=>
  have f1:=fin (ci acc (true,k2) (lN p (.say [new]))) (iq hn);have h4:=D1 (i:=3) (n:=3) (gl:=ac (av mkT (ac (λ_=>R.ok (D.bl true)) (ac (rvz 6) nlz))) (ac (rvz 5) (ac (av mkT (ac (csz [115,97,121]) (ac (rvz 2) nlz))) nlz))) (ρ:=[x0,vS [old],vS [new],dO q acc,vD (kD (true,k2)),vD (pD p),vD (.bl k2)]) rfl rfl rfl (Cm (true,k2) (.say [new]) (by omega) hp);refine(cy (ρ1:=[x0,vS [old],vS [new],dO q acc,vD (kD (true,k2)),vD (pD p),vD (.bl k2)]) ?_).trans ?_;·rfl
  refine(cy (ρ1:=[x0,vS [old],vS [new],dO q (ci acc (true,k2) (lN p (.say [new]))),vD (kD (true,k2)),vD (pD p),vD (.bl k2)]) ?_).trans ?_;·walk_at "run"
  exact cy f1
 |false=>
  have f1:=fin acc hn;refine(cy (ρ1:=[x0,vS [old],vS [new],dO q acc,vD (kD (false,k2)),vD (pD p),vD (.bl k2)]) ?_).trans ?_;·rfl
  refine(cy (ρ1:=[x0,vS [old],vS [new],dO q acc,vD (kD (false,k2)),vD (pD p),vD (.bl k2)]) ?_).trans ?_;·rfl
  exact cy f1
def Ie(k:Ky):Fq (kN k)=kD k:=sS k.1 k.2
def DM(m:Mp):As (dD m)=.ok (m.map λz=>.tup [kD z.1,pD z.2]):=by
 show R.ok ((((m.map λz=>kN z.1)).zip ((m.map λz=>pD z.2))).map λz=>D.tup [Fq z.1,z.2])=_;rw[Bn];unfold kvD;rw[List.map_map]
 congr 1
 refine k9 λz _=>?_;show D.tup [Fq (kN z.1),_]=_;rw[Ie]
theorem tm{x0:Option Sl}{q:Addr}(old new:Nat):∀(m acc:Mp)(x4 x5 x6:Option Sl),(keys acc).Nodup->Len 890 m->∃y4 y5 y6,cO (vt [4,5]) (fP lZ dQ) (m.map λz=>.tup [kD z.1,pD z.2]) [x0,vS [old],vS [new],dO q acc,x4,x5,x6] =
  .nx [x0,vS [old],vS [new],dO q (m.foldl (sovK old new) acc),y4,y5,y6]
 | [],acc,x4,x5,x6,_,_=>⟨x4,x5,x6,rfl⟩
 | (k,p)::m,acc,x4,x5,x6,hn,hp=>by obtain⟨y4,y5,y6,ih⟩:=tm old new m (sovK old new acc (k,p)) (vD (kD k)) (vD (pD p)) (vD (.bl k.2)) (qc hn) λz hz=>hp z (zF _ hz);refine⟨y4,y5,y6,?_⟩;rw[xk,eU rfl (BK old new k p hn (by have:=hp (k,p) (zx ..);dsimp only at this;omega))];exact ih
def KI(q:Addr×Unit){m:Mp}(old new:Nat)(hp:Len 890 m):cI lZ dQ q (ao 7 [dD m,.str [old],.str [new]])=.rt (dD (CD old new m)):=by
 obtain⟨y4,y5,y6,h⟩:=tm (x0:=vD (dD m)) (q:=q.1) old new m [] none none none List.Pairwise.nil hp;show(cX lZ dQ [vD (dD m),vS [old],vS [new],some (.obj true DC q.1 (fsD [])),none,none,none]).seq (ax (fD lZ dQ) oNx)=_;have e:cX lZ dQ [vD (dD m),vS [old],vS [new],some (.obj true DC q.1 (fsD [])),none,none,none]=.nx [vD (dD m),vS [old],vS [new],some (.obj true DC q.1 (fsD (CD old new m))),y4,y5,y6]:=by
  have h2:=DM m;unfold cX
  walk_at "run"
  rfl
 rw[e];show(uZ 3 _).seq _=_;rw[Aa rfl];rfl
open Classical in
noncomputable def soF:List D->R D:=λds=>if ∃m,∃old new:Nat,ds=[dD m,.str [old],.str [new]]/\Len 890 m then ar (cI lZ dQ (0,()) (ao 7 ds))else .no
def JZ{m:Mp}(old new:Nat)(hp:Len 890 m):soF [dD m,.str [old],.str [new]]=.ok (dD (CD old new m)):=by unfold soF;rw[if_pos ⟨m,old,new,rfl,hp⟩,KI _ old new hp];rfl
def nq:∀ds:List D,ds.length=3->soF ds=.no\/∀q,ar (cI lZ dQ q (ao 7 ds))=soF ds:=by
 intro ds _;by_cases h:∃m,∃old new:Nat,ds=[dD m,.str [old],.str [new]]/\Len 890 m;·obtain⟨m,old,new,rfl,hp⟩:=h;refine .inr λq=>?_;rw[JZ old new hp,KI q old new hp];rfl
 ·exact .inl (by unfold soF;exact if_neg h)
noncomputable def xH(n:Nat)(old new:List Nat)(m:Mp)(c:Nat):Mp:=CD (old.getD c 0) (new.getD c 0) (iR m n c)
noncomputable def gZ(n:Nat)(old new:List Nat)(b:Nat)(m:Mp):Mp:=(List.range' b (old.length - b)).foldl (xH n old new) m
def jG{m:Mp}{k j:Ky}{p:Pl}(h:m.lookup j≠none):(ci m k p).lookup j≠none:=by
 rw[jK];split
 ·split;·exact λz=>nomatch z
  ·split <;> exact λz=>nomatch z
 ·exact h
def pv{m:Mp}{k:Ky}{p:Pl}:(ci m k p).lookup k≠none:=by
 rw[jK,if_pos rfl];split;·exact λz=>nomatch z
 ·split <;> exact λz=>nomatch z
def ni{m:Mp}{a b j:Ky}{o:Od}(h:m.lookup j≠none):(move m a b o).lookup j≠none:=by
 unfold move;split;·exact jG h
 ·exact h
def EJ{m:Mp}{a b:Ky}{o:Od}(h:m.lookup a≠none):(move m a b o).lookup b≠none:=by
 unfold move;split;·exact pv
 ·rename_i e;exact absurd e h
def AG{old new:Nat}{acc:Mp}{z:Ky×Pl}{j:Ky}(h:acc.lookup j≠none):(sovK old new acc z).lookup j≠none:=by
 unfold sovK;have h1:(if z.1.1=true then ci acc (true,z.1.2) (lN z.2 (.say [new]))else acc).lookup j≠none:=by
  split;·exact jG h
  ·exact h
 dsimp only;split;·exact jG h1
 ·exact h1
def C9{old new:Nat}{m:Mp}(h:m.lookup (true,false)≠none):(CD old new m).lookup (true,false)≠none:=by
 cases e:m.lookup (true,false)with
 |none=>exact absurd e h
 |some p=>
  have hm:=kT e;have go:∀(l:Mp)(acc:Mp),((true,false),p)∈l\/acc.lookup (true,false)≠none->(l.foldl (sovK old new) acc).lookup (true,false)≠none:=by
   intro l;induction l with
   |nil=>intro acc h;rcases h with h|h;exact nomatch h;exact h
   |cons z l ih=>
    intro acc h;refine ih _ ?_;rcases h with h|h
    ·rcases zL.1 h with h|h
     ·subst h;refine .inr ?_;unfold sovK;dsimp only;split;·exact jG pv
      ·exact pv
     ·exact .inl h
    ·exact .inr (AG h)
  exact go m [] (.inl hm)
structure Gd(J:Nat)(m:Mp):Prop where
 nd:(keys m).Nodup
 ne:m.lookup (true,false)≠none\/m.lookup (false,false)≠none
 len:Len J m
def Gd.nn{m:Mp}(g:Gd J m):m≠[]:=λe=>by subst e;rcases g.ne with h|h <;> exact h rfl
def yX{m:Mp}(g:Gd J m)(n c:Nat):(iR m n c).lookup (true,false)≠none:=by
 refine ni (ni ?_);rcases g.ne with h|h;·exact ni h
 ·exact EJ h
def Len.moves{m:Mp}(h:Len J m)(n c:Nat):Len (J+3) (iR m n c):=((h.move _ _ _).move _ _ _).move _ _ _
def Len.sov{m:Mp}(h:Len J m)(old new:Nat):Len (J+1) (CD old new m):=
 sF h (λk p hp _=>by simp only[lN,w6,ZG];omega) λk p hp _=>Nat.le_succ_of_le hp
def Gd.col{m:Mp}(g:Gd J m)(n c:Nat)(old new:List Nat):Gd (J+4) (xH n old new m c):=
 ⟨zJ,.inl (C9 (yX g n c)),(g.len.moves n c).sov _ _⟩
def zr{a b:Nat}(h:a+b<=1000):kq [.int (a:Int),.int ((a+b:Nat):Int)]=.ok ((List.range' a b).map λ(i:Nat)=>D.int (i:Int)):=by
 have e:kq [.int (a:Int),.int ((a+b:Nat):Int)]=if -(2 ^ 62)<=(a:Int)/\(a:Int)<2 ^ 62/\-(2 ^ 62)<=((a+b:Nat):Int)/\((a+b:Nat):Int)<2 ^ 62 then .ok ((List.range (((a+b:Nat):Int) - (a:Int)).toNat).map λk=>D.int ((a:Int)+(k:Nat)))else .no:=by simp only[kq]
 rw[e,if_pos (by refine⟨?_,?_,?_,?_⟩ <;> omega),show(((a+b:Nat):Int) - (a:Int)).toNat=b by omega,List.range'_eq_map_range,o9];simp
def iu{x:List Nat}{c:Nat}(h:c<x.length):x[c]?=some (x.getD c 0):=by rw[zi,xn h];rfl
def Ik{x0 x4:Option Sl}{m:Mp}(g:Gd J m)(n c:Nat){new:List Nat}(h1:c<old.length)(h2:c<new.length)(hJ:J<=880):
  mO wmF soF [x0,vI n,vS old,vS new,x4,vD (dD m),vI c]=.nx [x0,vI n,vS old,vS new,x4,vD (dD (xH n old new m c)),vI c]:=by
 have e1:=Lc n c g.nn g.nd g.len hJ;have e2:=JZ (old.getD c 0) (new.getD c 0) ((g.len.moves n c).mono (by omega));have e3:=L4 (iu h1);have e4:=L4 (iu h2);unfold mO xH
 walk_at "run"
theorem BD{x0 x4:Option Sl}(n:Nat){old new:List Nat}(hl:new.length=old.length):∀(k b J:Nat)(m:Mp)(x6:Option Sl),b+k<=old.length->Gd J m->J+4 * k<=880->∃y6,cO (jz 6) (mO wmF soF) ((List.range' b k).map λ(i:Nat)=>D.int (i:Int)) [x0,vI n,vS old,vS new,x4,vD (dD m),x6] =
  .nx [x0,vI n,vS old,vS new,x4,vD (dD ((List.range' b k).foldl (xH n old new) m)),y6]/\Gd (J+4 * k) ((List.range' b k).foldl (xH n old new) m)
 | 0,b,J,m,x6,_,g,_=>⟨x6,rfl,g⟩
 |k+1,b,J,m,x6,hb,g,hJ=>by
  obtain⟨y6,ih,gg⟩:=BD n hl k (b+1) (J+4) (xH n old new m b) (vI b) (by omega) (g.col n b old new) (by omega);refine⟨y6,?_,?_⟩;·rw[j6,xk,eU rfl (Ik g n b (by omega) (by omega) (by omega))];exact ih
  ·rw[j6,p7,show J+4 * (k+1)=J+4+4 * k by omega];exact gg
def swF:List D->R D:=λds=>ar (pH wmF soF (ao 7 ds))
def sv{m:Mp}(g:Gd J m)(n:Nat){new:List Nat}{b:Nat}(hl:new.length=old.length)(hb:b<=old.length)(hJ:J+4 * old.length<=880):
  swF [dD m,.int (n:Int),.str old,.str new,.int (b:Int)]=.ok (dD (gZ n old new b m))/\Gd (J+4 * (old.length - b)) (gZ n old new b m):=by
 obtain⟨y6,h,gg⟩:=BD (x0:=vD (dD m)) (x4:=vI b) n hl (old.length - b) b J m none (by omega) g (by omega);refine⟨?_,gg⟩;have hr:=zr (a:=b) (b:=old.length - b) (by omega);rw[show b+(old.length - b)=old.length by omega]at hr;show ar (ax _ _ [vD (dD m),vI n,vS old,vS new,vI b,none,none])=_
 walk_at "run"
 rfl
noncomputable def zo:Pl->List Pl->Pl
 |b,[]=>b
 |b,x::xs=>if x.1<b.1 then zo x xs else zo b xs
def HI:List Pl->Pl
 | []=>(0,[])
 |b::xs=>zo b xs
def hU(m:Mp)(ks:List Ky):List Pl:=ks.filterMap λk=>m.lookup k
def je(m:Mp)(ks:List Ky):Pl:=HI (hU m ks)
theorem xa:∀(xs:List Pl)(b:Pl),xq (λd=>pcF [d]) (pD b) (b.1:Int) (xs.map pD)=.ok (pD (zo b xs))
 | [],b=>rfl
 |x::xs,b=>by
  show(match pcF [pD x]with
   |.ok (.int kx)=>if kx<(b.1:Int)then xq (λd=>pcF [d]) (pD x) kx (xs.map pD)else xq (λd=>pcF [d]) (pD b) (b.1:Int) (xs.map pD)
   |_=>.no)=.ok (pD (if x.1<b.1 then zo x xs else zo b xs));rw[GD];dsimp only;by_cases h:x.1<b.1;·rw[if_pos (by omega),if_pos h];exact xa xs x
  ·rw[if_neg (by omega),if_neg h];exact xa xs b
def yb{xs:List Pl}(h:xs≠[]):rq (λd=>pcF [d]) (xs.map pD)=.ok (pD (HI xs)):=by
 cases xs with
 |nil=>exact absurd rfl h
 |cons b xs=>exact xa xs b
theorem jF:∀(xs:List Pl)(b:Pl),zo b xs∈b::xs
 | [],b=>zx ..
 |x::xs,b=>by
  show(if x.1<b.1 then zo x xs else zo b xs)∈_;split;·exact zF _ (jF xs x)
  ·rcases zL.1 (jF xs b)with h|h;·rw[h];exact zx ..
   ·exact zF _ (zF _ h)
def uI{xs:List Pl}(h:xs≠[]):HI xs∈xs:=by
 cases xs with
 |nil=>exact absurd rfl h
 |cons b xs=>exact jF xs b
def B1{P:Pl->Prop}{m:Mp}{ks:List Ky}(h:All (λ_=>P) m):∀p∈hU m ks,P p:=λp hp=>by obtain⟨k,_,e⟩:=l7.1 hp;exact All.at h e
def gU{P:Pl->Prop}{m:Mp}{ks:List Ky}(h:All (λ_=>P) m)(hn:hU m ks≠[]):P (je m ks):=B1 h _ (uI hn)
def mU{m:Mp}{ks:List Ky}{k:Ky}(hk:k∈ks)(h:m.lookup k≠none):hU m ks≠[]:=by
 cases e:m.lookup k with
 |none=>exact absurd e h
 |some p=>exact List.ne_nil_of_mem (l7.2 ⟨k,hk,e⟩)
def chF:List D->R D:=λds=>ar (jq pcF (ao 2 ds))
theorem BR{m:Mp}:∀(ks:List Ky)(a:Option Sl),dI (sR false 1 (rvz 0)) (ju 1 (rvz 0)) (ks.map kD) [a,vD (dD m)]=.ok ((hU m ks).map pD)
 | [],a=>rfl
 |k::ks,a=>by
  have ih:=BR (m:=m) ks (vD (kD k));have h3:vf [vD (kD k),vD (dD m)] 1=.ok (kvD m):=D8 rfl;have h1:=Fr (neg:=false) (ge:=λρ=>rdV ρ 0) rfl (pB k) h3;rw[pi,Option.isSome_map]at h1;show(jC (sR false 1 (rvz 0) [vD (kD k),vD (dD m)])>>=λk'=>if k'=true then jC (ju 1 (rvz 0) [vD (kD k),vD (dD m)])>>=λx=>dI (sR false 1 (rvz 0)) (ju 1 (rvz 0)) (ks.map kD) [vD (kD k),vD (dD m)]>>=λxs=>.ok (x::xs)else dI (sR false 1 (rvz 0)) (ju 1 (rvz 0)) (ks.map kD) [vD (kD k),vD (dD m)])=_;rw[h1,ih];cases e:m.lookup k with
  |none=>
   have:hU m (k::ks)=hU m ks:=by unfold hU;rw[List.filterMap_cons,e]
   rw[this];rfl
  |some p=>
   have h2:=AR (ge:=λρ=>rdV ρ 0) h3 rfl (pB k) (by rw[pi,e];rfl);have:hU m (k::ks)=p::hU m ks:=by unfold hU;rw[List.filterMap_cons,e]
   rw[this,h2];rfl
def Hv{m:Mp}{ks:List Ky}(hn:hU m ks≠[])(hl:ks.length<=4):chF [dD m,.tup (ks.map kD)]=.ok (pD (je m ks)):=by
 have h1:=BR (m:=m) ks none;have h2:((hU m ks).map pD).length<=sizeLine:=by
  have h3:1000<=sizeLine:=by decide
  have h4:=List.length_filterMap_le (λk=>m.lookup k) ks;rw[zy];unfold hU;omega
 have h5:=yb hn;have h6:bf (dS (av bz (rvz 1)) [0] (sR false 1 (rvz 0)) (ju 1 (rvz 0))) [vD (dD m),vD (.tup (ks.map kD))]=.ok (.lst false ((hU m ks).map pD)):=by
  have h7:bz (.tup (ks.map kD))=.ok (ks.map kD):=rfl;have h8:fU [0] [vD (dD m),vD (.tup (ks.map kD))]=[none,vD (dD m)]:=rfl
  walk_at "run"
 show ar (ax (bS (wJ _ pcF)) oNx [vD (dD m),vD (.tup (ks.map kD))])=_;have h9:wJ (bf (dS (av bz (rvz 1)) [0] (sR false 1 (rvz 0)) (ju 1 (rvz 0)))) pcF [vD (dD m),vD (.tup (ks.map kD))]=.ok (pD (je m ks)):=by unfold wJ;rw[h6,R.ok_bind];exact h5
 walk_at "run"
def iJ{n:Nat}{h:List D->R D}(e:gl ρ=.ok ds)(l:ds.length=n):aA n h gl ρ=h ds:=by unfold aA;rw[e,R.ok_bind,if_pos l]
def allK:List Ky:=[(false,false),(true,false),(false,true),(true,true)]
def twoK:List Ky:=[(false,false),(true,false)]
def m0(k:Ky):Mp:=[(k,(0,[]))]
noncomputable def eA(n:Nat)(old new:List Nat):Pl:=je (gZ n old new 0 (m0 (false,false))) allK
noncomputable def fX(n:Nat)(old new:List Nat)(c:Nat):Pl:=je (gZ n old new c (m0 (true,false))) allK
noncomputable def lw(n:Nat)(old new:List Nat)(c:Nat):Pl:=je (gZ n (old.take c) (new.take c) 0 (m0 (false,false))) twoK
noncomputable def dW(n:Nat)(old new:List Nat)(c:Nat):Pl:=((fX n old new c).1+(lw n old new c).1,(fX n old new c).2++(lw n old new c).2)
noncomputable def rL(n:Nat)(old new:List Nat)(c:Nat):Pl:=zo (dW n old new c) [eA n old new]
def gd0:Gd 0 (m0 (false,false)):=⟨by decide,.inr (λz=>nomatch z),λz hz=>by rw[wP.1 hz];exact z9 _⟩
def gd1:Gd 0 (m0 (true,false)):=⟨by decide,.inl (λz=>nomatch z),λz hz=>by rw[wP.1 hz];exact z9 _⟩
def Gd.two{m:Mp}(g:Gd J m):hU m twoK≠[]:=by
 rcases g.ne with h|h;·exact mU (by decide) h
 ·exact mU (by decide) h
def Gd.all{m:Mp}(g:Gd J m):hU m allK≠[]:=by
 rcases g.ne with h|h;·exact mU (by decide) h
 ·exact mU (by decide) h
def peF:List D->R D:=λds=>ar (cA swF chF (ao 4 ds))
def KR{h:List D->R D}{ga gc gd:Ev->R D}:aA 5 h (ac ga (ac gb (ac gc (ac gd (ac ge λ_=>.ok []))))) ρ=ga ρ>>=λx=>gb ρ>>=λy=>gc ρ>>=λz=>gd ρ>>=λw=>ge ρ>>=λv=>h [x,y,z,w,v]:=by
 unfold aA ac;cases ga ρ <;> try rfl
 cases gb ρ <;> try rfl
 cases gc ρ <;> try rfl
 cases gd ρ <;> try rfl
 cases ge ρ <;> rfl
def JD(b:Bool)(ρ:Ev):gD1 (λ_=>R.ok (D.tup [D.bl b,D.bl false])) (λ_=>R.ok (D.tup [D.int 0,D.tup []])) ρ=.ok (dD (m0 (b,false))):=rfl
def KL:mkT [D.tup [D.bl false,D.bl false],D.tup [D.bl true,D.bl false],D.tup [D.bl false,D.bl true],D.tup [D.bl true,D.bl true]]=.ok (.tup (allK.map kD)):=rfl
def Mu:mkT [D.tup [D.bl false,D.bl false],D.tup [D.bl true,D.bl false]]=.ok (.tup (twoK.map kD)):=rfl
def HW(n:Nat){new:List Nat}(hl:new.length=old.length)(hw:old.length<=40):peF [.int (n:Int),.str old,.str new]=.ok (pD (eA n old new))/\(eA n old new).2.length<=4 * old.length:=by
 obtain⟨h1,g⟩:=sv gd0 n hl (wA _) (by omega);have b:=gU g.len g.all;refine⟨?_,by unfold eA;omega⟩;have h1:swF [_,_,_,_,.int 0]=_:=h1;have h2:=Hv g.all (by decide);have k5:=@KR;have d1:=JD;have k4:=KL;show ar (ax _ _ [vI n,vS old,vS new,none])=_;unfold eA
 walk_at "run"
def ppF:List D->R D:=λds=>ar (dC swF chF (ao 7 ds))
def ES{x:List Nat}{c:Nat}(h:c<=x.length):GI none (some (c:Int)) (.str x)=some (.str (x.take c)):=by show some (D.str (jJ x none (some (c:Int))))=_;rw[Ds x c h]
def EF{a b:List Od}(h:a.length+b.length<=900):bv (.tup (a.map oD)) (.tup (b.map oD))=some (.tup ((a++b).map oD)):=by
 have h1:1000<=sizeLine:=by decide
 show(if _ then _ else _)=_;rw[if_pos (by simp only[zy];omega),vp]
def Mh(n:Nat){new:List Nat}{c:Nat}(hl:new.length=old.length)(hw:old.length<=40)(hc:c<=old.length):ppF [.int (n:Int),.str old,.str new,.int (c:Int)]=.ok (pD (dW n old new c))/\(dW n old new c).2.length<=4 * old.length:=by
 obtain⟨h1,g1⟩:=sv gd1 n hl hc (by omega);have l1:(old.take c).length=c:=by rw[wo];omega
 have l2:(new.take c).length=c:=by rw[wo];omega
 obtain⟨h2,g2⟩:=sv gd0 n (old:=old.take c) (new:=new.take c) (by omega) (wA _) (by omega);have b1:=gU g1.len g1.all;have b2:=gU g2.len g2.two;have b3:(dW n old new c).2.length<=4 * old.length:=by unfold dW fX lw;rw[List.length_append];rw[l1]at b2;omega
 refine⟨?_,b3⟩;have h3:_=R.ok (pD (fX n old new c)):=Hv g1.all (by decide);have h4:_=R.ok (pD (lw n old new c)):=Hv g2.two (by decide);have h2:swF [_,_,_,_,.int 0]=_:=h2;have h5:=ES hc;have h6:=ES (by omega:c<=new.length);have h7:=EF (a:=(fX n old new c).2) (b:=(lw n old new c).2) (by unfold dW at b3;rw[List.length_append]at b3;omega);have k5:=@KR;have d1:=JD;have k4:=KL;have k2:=Mu;have i0:∀p:Pl,ixD (pD p) (.int 0)=some (.int (p.1:Int)):=λ_=>rfl;have i1:∀p:Pl,ixD (pD p) (.int 1)=some (.tup (p.2.map oD)):=λ_=>rfl;have i5:mkT [.int (((fX n old new c).1:Int)+((lw n old new c).1:Int)),.tup (((fX n old new c).2++(lw n old new c).2).map oD)]=.ok (pD (dW n old new c)):=rfl;show ar (ax _ _ [vI n,vS old,vS new,vI c,none,none,none])=_
 walk_at "run"
def rpF:List D->R D:=λds=>ar (cQ peF ppF pcF (ao 5 ds))
def Jm(n:Nat){new:List Nat}{c:Nat}(hl:new.length=old.length)(hw:old.length<=40)(hc:c<=old.length):rpF [.int (n:Int),.str old,.str new,.int (c:Int)]=.ok (pD (rL n old new c))/\(rL n old new c).2.length<=4 * old.length:=by
 obtain⟨h1,b1⟩:=HW n hl hw;obtain⟨h2,b2⟩:=Mh n hl hw hc;refine⟨?_,?_⟩
 ·have h3:_=R.ok (pD (rL n old new c)):=yb (xs:=[dW n old new c,eA n old new]) (λz=>nomatch z);have hz:2<=sizeLine:=by decide
  have mn:∀(ga:Ev->R D)(ρ:Ev),wJ ga pcF ρ=ga ρ>>=λd=>match d with|.lst _ xs=>rq (λd=>pcF [d]) xs|_=>.no:=λ_ _=>rfl
  show ar (ax _ _ [vI n,vS old,vS new,vI c,none])=_;rw[xk,xk,n9]at h3
  walk_at "run"
 ·rcases zL.1 (jF [eA n old new] (dW n old new c))with h|h;·unfold rL;rw[h];exact b2
  ·unfold rL;rw[List.mem_singleton.1 h];exact b1
def rX{P:Pl->Prop}{m:Mp}{a b:Ky}{o:Od}(h:All (λ_=>P) m)(ho:∀p,P p->P (lN p o)):All (λ_=>P) (move m a b o):=by
 unfold move;split;·rename_i p e;exact All.offer h (ho p (All.at h e))
 ·exact h
def yJ{P:Pl->Prop}{n b:Nat}{new:List Nat}{m:Mp}(h:All (λ_=>P) m)(hg:∀c,c<old.length->∀p,P p->P (lN p (.go n c)))(hw:∀p,P p->P (lN p .wipe))(hs:∀c,c<old.length->∀p,P p->P (lN p (.say [new.getD c 0]))):All (λ_=>P) (gZ n old new b m):=by
 refine mT h λa c hc ha=>?_;have hc':c<old.length:=by rw[Zz]at hc;omega
 exact sF (rX (rX (rX ha (hg c hc')) hw) (hg c hc')) (λk p hp _=>hs c hc' p hp) λk p hp _=>hp
def POk(p:Pl):Prop:=(∀o∈p.2,okO o=true/\sQ o<=1)/\p.1=(p.2.map bD).sum
def POk.add{p:Pl}{o:Od}(h:POk p)(ho:okO o=true)(hs:sQ o<=1):POk (lN p o):=by
 refine⟨λx hx=>?_,?_⟩
 ·rcases uF.1 hx with hx|hx;·exact h.1 x hx
  ·rw[wP.1 hx];exact⟨ho,hs⟩
 ·simp only[lN,h.2];simp
def POk.zero:POk (0,[]):=⟨λ_ h=>(by cases h),rfl⟩
def rY{o:Od}(h:okO o=true):1<=bD o:=by
 cases o with
 |say x=>simp only[okO,xf,wa]at h;exact h.2.1
 |go _ _=>exact la _
 |wipe=>exact z9 _
def POk.nil{p:Pl}(h:POk p)(e:p.1=0):p=(0,[]):=by
 obtain⟨c,os⟩:=p;cases os with
 |nil=>cases e;rfl
 |cons o os=>have h1:=rY (h.1 o (zx ..)).1;have h2:=h.2;simp only[xk,rR]at h2;omega
def AL{x:List Nat}{c:Nat}(h:plain x=true)(hc:c<x.length):plain [x.getD c 0]=true:=by
 have:x.getD c 0∈x:=by rw[zi,xn hc];exact jg hc
 unfold plain at h⊢;simp only[o5,Zx,Zv];exact xp.1 h _ this
def nY{n b:Nat}{new:List Nat}{m:Mp}(h:All (λ_=>POk) m)(hn:n<=11)(hw:old.length<=40)(hl:new.length=old.length)(hp:plain new=true):All (λ_=>POk) (gZ n old new b m):=
 yJ h (λc hc p q=>q.add (by simp only[okO,xf,wa];omega) (wA _)) (λp q=>q.add rfl (wA _))
  λc hc p q=>q.add (by have:=AL hp (by omega:c<new.length);simp only[okO,this];rfl) (z9 _)
def Ai(k:Ky):All (λ_=>POk) (m0 k):=λz hz=>by rw[wP.1 hz];exact POk.zero
def mR{n:Nat}{new:List Nat}(hn:n<=11)(hw:old.length<=40)(hl:new.length=old.length)(hp:plain new=true):POk (eA n old new):=
 gU (nY (Ai _) hn hw hl hp) (sv gd0 n hl (wA _) (by omega)).2.all
def Eh{x:List Nat}(n:Nat)(h:plain x=true):plain (x.take n)=true:=by simp only[plain,xp]at *;exact λc hc=>h c (l4 hc)
def sV{n c:Nat}{new:List Nat}(hn:n<=11)(hw:old.length<=40)(hl:new.length=old.length)(hp:plain new=true)(hc:c<=old.length):POk (fX n old new c):=
 gU (nY (Ai _) hn hw hl hp) (sv gd1 n hl hc (by omega)).2.all
def xV{n c:Nat}{new:List Nat}(hn:n<=11)(hw:old.length<=40)(hl:new.length=old.length)(hp:plain new=true)(hc:c<=old.length):POk (lw n old new c):=by
 have l1:(old.take c).length=c:=by rw[wo];omega
 have l2:(new.take c).length=c:=by rw[wo];omega
 exact gU (nY (Ai _) hn (by omega) (by omega) (Eh c hp)) (sv gd0 n (by omega) (wA _) (by omega)).2.two
def AM{n c:Nat}{new:List Nat}(hn:n<=11)(hw:old.length<=40)(hl:new.length=old.length)(hp:plain new=true)(hc:c<=old.length):POk (dW n old new c):=by
 have h1:=sV hn hw hl hp hc;have h2:=xV hn hw hl hp hc;refine⟨λo ho=>?_,?_⟩
 ·rcases uF.1 ho with ho|ho;·exact h1.1 o ho
  ·exact h2.1 o ho
 ·show _+_=_;rw[h1.2,h2.2];simp[dW]
def B6{n c:Nat}{new:List Nat}(hn:n<=11)(hw:old.length<=40)(hl:new.length=old.length)(hp:plain new=true)(hc:c<=old.length):POk (rL n old new c):=by
 rcases zL.1 (jF [eA n old new] (dW n old new c))with h|h;·unfold rL;rw[h];exact AM hn hw hl hp hc
 ·unfold rL;rw[List.mem_singleton.1 h];exact mR hn hw hl hp
def Has(m:Mp)(k:Ky)(v:Nat):Prop:=∃q,m.lookup k=some q/\q.1<=v
def Has.offer{m:Mp}{j k:Ky}{v:Nat}{p:Pl}(h:Has m j v):Has (ci m k p) j v:=by
 obtain⟨q,e,hq⟩:=h;unfold Has;rw[jK];by_cases z:j=k
 ·subst z;rw[if_pos rfl,e];dsimp only;by_cases y:p.1<q.1;·rw[if_pos y];exact⟨p,rfl,by omega⟩
  ·rw[if_neg y];exact⟨q,rfl,hq⟩
 ·rw[if_neg z];exact⟨q,e,hq⟩
def Has.new{m:Mp}{k:Ky}{p:Pl}:Has (ci m k p) k p.1:=by
 unfold Has;rw[jK,if_pos rfl];cases m.lookup k with
 |none=>exact⟨p,rfl,z9 _⟩
 |some q=>
  dsimp only;by_cases y:p.1<q.1;·rw[if_pos y];exact⟨p,rfl,z9 _⟩
  ·rw[if_neg y];exact⟨q,rfl,by omega⟩
def Has.mono{m:Mp}{k:Ky}{v w:Nat}(h:Has m k v)(l:v<=w):Has m k w:=by obtain⟨q,e,hq⟩:=h;exact⟨q,e,wt hq l⟩
def Has.keep{m:Mp}{a b j:Ky}{o:Od}{v:Nat}(h:Has m j v):Has (move m a b o) j v:=by
 unfold move;split;·exact h.offer
 ·exact h
def Has.move{m:Mp}{a b:Ky}{o:Od}{v:Nat}(h:Has m a v):Has (move m a b o) b (v+bD o):=by obtain⟨q,e,hq⟩:=h;unfold Q.move;rw[e];exact Has.new.mono (by show q.1+bD o<=_;omega)
def Has.sovK{old new:Nat}{acc:Mp}{z:Ky×Pl}{j:Ky}{v:Nat}(h:Has acc j v):Has (sovK old new acc z) j v:=by
 unfold Q.sovK;have h1:Has (if z.1.1=true then ci acc (true,z.1.2) (lN z.2 (.say [new]))else acc) j v:=by
  split;·exact h.offer
  ·exact h
 dsimp only;split;·exact h1.offer
 ·exact h1
theorem rB{old new:Nat}{j:Ky}{v:Nat}:∀{l acc:Mp},(Has acc j v\/∃z∈l,∀acc,Has (sovK old new acc z) j v)->Has (l.foldl (sovK old new) acc) j v
 | [],acc,h=>by
  rcases h with h|⟨z,hz,_⟩;·exact h
  ·cases hz
 |x::l,acc,h=>by
  refine rB (l:=l) ?_;rcases h with h|⟨z,hz,H⟩;·exact .inl h.sovK
  ·rcases zL.1 hz with hz|hz;·subst hz;exact .inl (H acc)
   ·exact .inr ⟨z,hz,H⟩
def Has.say{old new:Nat}{m:Mp}{w:Bool}{v:Nat}(h:Has m (true,w) v):Has (CD old new m) (true,w) (v+1):=by
 obtain⟨q,e,hq⟩:=h;refine rB (.inr ⟨_,kT e,λacc=>?_⟩);unfold Q.sovK;dsimp only;have h1:Has (ci acc (true,w) (lN q (.say [new]))) (true,w) (v+1):=Has.new.mono (by show q.1+1<=_;omega);split;·exact h1.offer
 ·exact h1
def Has.leave{old new:Nat}{m:Mp}{a w:Bool}{v:Nat}(h:Has m (a,w) v)(e:und old w=new):Has (CD old new m) (false,w) v:=by obtain⟨q,e',hq⟩:=h;refine rB (.inr ⟨_,kT e',λacc=>?_⟩);unfold Q.sovK;rw[if_pos e];exact Has.new.mono hq
theorem iZ:∀(xs:List Pl)(b:Pl)(p:Pl),p∈b::xs->(zo b xs).1<=p.1
 | [],b,p,h=>by rw[wP.1 h];exact z9 _
 |x::xs,b,p,h=>by
  show(if x.1<b.1 then zo x xs else zo b xs).1<=_;by_cases y:x.1<b.1
  ·rw[if_pos y];rcases zL.1 h with h|h;·rw[h];exact wt (iZ xs x x (zx ..)) (io y)
   ·exact iZ xs x p h
  ·rw[if_neg y];rcases zL.1 h with h|h;·rw[h];exact iZ xs b b (zx ..)
   ·rcases zL.1 h with h|h;·rw[h];exact wt (iZ xs b b (zx ..)) (by omega)
    ·exact iZ xs b p (zF _ h)
def iw{m:Mp}{ks:List Ky}{k:Ky}{v:Nat}(hk:k∈ks)(h:Has m k v):(je m ks).1<=v:=by
 obtain⟨q,e,hq⟩:=h;have hm:q∈hU m ks:=l7.2 ⟨k,hk,e⟩;unfold je;cases c:hU m ks with
 |nil=>rw[c]at hm;cases hm
 |cons b xs=>rw[c]at hm;exact wt (iZ xs b q hm) hq
theorem lj{n:Nat}{x:List Nat}:∀(k b:Nat)(m:Mp),Has m (false,false) 0->Has ((List.range' b k).foldl (xH n x x) m) (false,false) 0
 | 0,b,m,h=>h
 |k+1,b,m,h=>by rw[j6,p7];exact lj k (b+1) _ (Has.leave (a:=false) (((h.keep).keep).keep) rfl)
def Kp(k:Ky):Has (m0 k) k 0:=⟨(0,[]),by unfold m0;rw[List.lookup_cons,beq_self_eq_true],Nat.le_refl _⟩
def tJ{n:Nat}{x:List Nat}(hn:n<=11)(hw:x.length<=40)(hp:plain x=true):eA n x x=(0,[]):=by refine(mR hn hw rfl hp).nil ?_;exact Nat.le_zero.1 (iw (k:=(false,false)) (by decide) (lj _ _ _ (Kp _)))
def Bv{n c:Nat}{x:List Nat}(hn:n<=11)(hw:x.length<=40)(hp:plain x=true)(hc:c<=x.length):lw n x x c=(0,[]):=by refine(xV hn hw rfl hp hc).nil ?_;exact Nat.le_zero.1 (iw (k:=(false,false)) (by decide) (lj _ _ _ (Kp _)))
def zu{n c:Nat}{x:List Nat}(hn:n<=11)(hw:x.length<=40)(hp:plain x=true)(hc:c<=x.length):fX n x x c=(0,[]):=by
 refine(sV hn hw rfl hp hc).nil (Nat.le_zero.1 ?_);unfold fX gZ;cases e:x.length - c with
 |zero=>exact iw (k:=(true,false)) (by decide) (Kp _)
 |succ k=>rw[j6,p7];exact iw (k:=(false,false)) (by decide) (lj _ _ _ (Has.leave (a:=true) ((((Kp (true,false)).keep).keep).keep) rfl))
def Dh{n c:Nat}{x:List Nat}(hn:n<=11)(hw:x.length<=40)(hp:plain x=true)(hc:c<=x.length):rL n x x c=(0,[]):=by unfold rL dW;rw[Bv hn hw hp hc,zu hn hw hp hc,tJ hn hw hp];rfl
structure GL(s:St)(g:List (List Nat)):Prop where
 n:g.length=s.2.1.length
 l:∀x∈g,x.length=s.1/\plain x=true
def sg{s:St}{xs:List (List Nat)}(h:dc s.2.1.length s.1 xs=true):GL s (ib s.2.1.length s.1 xs):=by
 obtain⟨h1,h2⟩:=rZ h;have hp:∀n,plain (List.replicate n 32)=true:=λn=>qg n 32 (by decide);unfold ib;refine⟨by rw[w6,zy,rE];omega,λx hx=>?_⟩;rcases uF.1 hx with hx|hx;·obtain⟨y,hy,rfl⟩:=wU.1 hx;have:=h2 y hy;unfold CG;exact⟨by rw[w6,rE];omega,ii this.1 (hp _)⟩
 ·rw[(Zu.1 hx).2];exact⟨rE ..,hp _⟩
def dk{s:St}{g:List (List Nat)}(h:GL s g)(hi:i<s.2.1.length):(g.getD i []).length=s.1/\plain (g.getD i [])=true:=by have:g.getD i []∈g:=iA (by rw[h.n];exact hi);exact h.l _ this
def bN{s:St}(h:GS s)(hi:i<s.2.1.length):(s.2.1.getD i []).length=s.1/\plain (s.2.1.getD i [])=true:=h.l _ (iA hi)
noncomputable def vR(s:St)(g:List (List Nat))(i:Nat):List Od:=if i=s.2.2.1 then []else (eA i (s.2.1.getD i []) (g.getD i [])).2
noncomputable def jV(s:St)(g:List (List Nat)):List Od:=(rL s.2.2.1 (s.2.1.getD s.2.2.1 []) (g.getD s.2.2.1 []) s.2.2.2).2
noncomputable def cK(s:St)(g:List (List Nat)):List Od:=jV s g++(List.range' 0 s.2.1.length).flatMap (vR s g)
def AB{s:St}{g:List (List Nat)}(h:GS s)(hg:GL s g)(hi:i<s.2.1.length):(vR s g i).length<=4 * s.1:=by
 unfold vR;split;·exact wA _
 ·have:=(HW i (new:=g.getD i []) (by rw[(bN h hi).1,(dk hg hi).1]) (by rw[(bN h hi).1];exact h.w2)).2
  rwa [(bN h hi).1]at this
def IA{s:St}{g:List (List Nat)}(h:GS s)(hg:GL s g)(hi:i<s.2.1.length):∀o∈vR s g i,okO o=true/\sQ o<=1:=by
 unfold vR;split;·exact λo ho=>by cases ho
 ·have hm:=h.m;exact(mR (by omega) (by rw[(bN h hi).1];exact h.w2) (by rw[(bN h hi).1,(dk hg hi).1]) (dk hg hi).2).1
def uW{s:St}{g:List (List Nat)}(h:GS s)(hg:GL s g):(jV s g).length<=4 * s.1:=by
 have:=(Jm s.2.2.1 (new:=g.getD s.2.2.1 []) (by rw[(bN h h.r).1,(dk hg h.r).1]) (by rw[(bN h h.r).1];exact h.w2) (by rw[(bN h h.r).1];exact h.c)).2
 rwa [(bN h h.r).1]at this
def DK{s:St}{g:List (List Nat)}(h:GS s)(hg:GL s g):∀o∈jV s g,okO o=true/\sQ o<=1:=by have hm:=h.m;have hr:=h.r;exact(B6 (by omega) (by rw[(bN h h.r).1];exact h.w2) (by rw[(bN h h.r).1,(dk hg h.r).1]) (dk hg h.r).2 (by rw[(bN h h.r).1];exact h.c)).1
def Aw(rows:List (List Nat)):bL 0 (rows.map .str)=(List.range' 0 rows.length).map λ(i:Nat)=>.tup [.int (i:Int),.str (rows.getD i [])]:=by
 unfold bL;rw[zy,List.range_eq_range'];refine k9 λi hi=>?_;have hi':i<rows.length:=by rw[Zz]at hi;omega
 rw[zi,zi,v8,xn hi',i9];rfl
theorem Af{F1 F2 F3 F4:List D->R D}{x0 x1:Option Sl}{s:St}{g:List (List Nat)}(h:GS s)(hg:GL s g):∀(k j:Nat)(acc:List Od)(x5 x6:Option Sl),j+k<=s.2.1.length->acc.length+4 * s.1 * k<=900->∃y5 y6,cO (vt [5,6]) (mW F1 F2 F3 peF F4) ((List.range' j k).map λ(i:Nat)=>.tup [.int (i:Int),.str (s.2.1.getD i [])])
  [x0,x1,vD (.lst false (g.map .str)),vD (.int (s.2.2.1:Int)),some (.own (acc.map oD)),x5,x6] =
  .nx [x0,x1,vD (.lst false (g.map .str)),vD (.int (s.2.2.1:Int)),some (.own ((acc++(List.range' j k).flatMap (vR s g)).map oD)),y5,y6]
 | 0,j,acc,x5,x6,_,_=>⟨x5,x6,by simp[qZ]⟩
 |k+1,j,acc,x5,x6,hj,hl=>by
  have hi:j<s.2.1.length:=by omega
  have b1:=AB h hg hi;rw[ZA]at hl;obtain⟨y5,y6,ih⟩:=Af h hg k (j+1) (acc++vR s g j) (vI j) (vS (s.2.1.getD j [])) (by omega) (by rw[w6];omega);refine⟨y5,y6,?_⟩;rw[j6,xk,eU rfl ?_,ih,ul,tV];have e1:neF (.int (j:Int)) (.int (s.2.2.1:Int))=some (.bl (!decide (j=s.2.2.1))):=by
   rw[OC];by_cases z:j=s.2.2.1;·rw[z,pc,qQ rfl]
   ·rw[v6 z,r6.2 (by omega)]
  unfold mW vR;by_cases z:j=s.2.2.1
  ·rw[if_pos z,t8];rw[qQ z]at e1;clear z b1 hl hj hi
   walk_at "run"
  ·have e2:=(HW j (new:=g.getD j []) (by rw[(bN h hi).1,(dk hg hi).1]) (by rw[(bN h hi).1];exact h.w2)).1;have e3:ixD (.lst false (g.map .str)) (.int (j:Int))=some (.str (g.getD j [])):=L9 (by rw[v8,xn (by rw[hg.n];exact hi),zi,xn (by rw[hg.n];exact hi)];rfl);have e4:ixD (pD (eA j (s.2.1.getD j []) (g.getD j []))) (.int 1)=some (.tup ((eA j (s.2.1.getD j []) (g.getD j [])).2.map oD)):=rfl;have e5:∀(ga:Ev->R D)(ρ:Ev),Hh 4 ga ρ=(ownAt ρ 4).out ρ λds=>(ga ρ).out ρ λd=>(asT d).out ρ λes=>if ds.length+es.length<=sizeLine then .nx (ρ.set 4 (some (.own (ds++es))))else .no:=λ_ _=>rfl;have e6:asT (.tup ((eA j (s.2.1.getD j []) (g.getD j [])).2.map oD))=.ok ((eA j (s.2.1.getD j []) (g.getD j [])).2.map oD):=rfl;have e7:(acc.map oD).length+((eA j (s.2.1.getD j []) (g.getD j [])).2.map oD).length<=sizeLine:=by
    have h1:1000<=sizeLine:=by decide
    unfold vR at b1;rw[if_neg z]at b1;rw[zy,zy];omega
   have e8:∀(a0 a1 a2 a3:Option Sl)(ds:List D)(ρ:Ev),ownAt (a0::a1::a2::a3::some (.own ds)::ρ) 4=.ok ds:=λ_ _ _ _ _ _=>rfl;rw[vp]
   walk_at "run"
theorem xR{s:St}{g:List (List Nat)}(h:GS s)(hg:GL s g):∀(k j:Nat),j+k<=s.2.1.length->((List.range' j k).flatMap (vR s g)).length<=4 * s.1 * k
 | 0,_,_=>wA _
 |k+1,j,hj=>by have:=xR h hg k (j+1) (by omega);have b1:=AB h hg (i:=j) (by omega);rw[j6,ul,w6,ZA];omega
def uq{s:St}{g:List (List Nat)}(h:GS s)(hg:GL s g):(cK s g).length<=4 * s.1 * (s.2.1.length+1):=by have:=xR h hg s.2.1.length 0 (by omega);have b1:=uW h hg;unfold cK;rw[w6,ZA];omega
def hZ{s:St}{g:List (List Nat)}(h:GS s)(hg:GL s g):∀o∈cK s g,okO o=true/\sQ o<=1:=λo ho=>by
 rcases uF.1 ho with ho|ho;·exact DK h hg o ho
 ·obtain⟨i,hi,ho⟩:=Z0.1 ho;exact IA h hg (by rw[Zz]at hi;omega) o ho
noncomputable def leF(Cs Co:Addr):List D->R D:=λds=>ar (oU (crG Cs) frG rpF peF (shG Co) (ao 7 ds))
def M7{os:List Od}(h:∀o∈os,okO o=true/\sQ o<=1)(hl:os.length<=900):shG C [.lst false (os.map oD)]=.ok (.lst false ((shO os).map oD)):=Ql (λo ho=>(h o ho).1) (by omega)
def Jd{Cs:Addr}{s:St}(h:GS s){xs:List (List Nat)}(hx:dc s.2.1.length s.1 xs=true)(hb:4 * s.1 * (s.2.1.length+1)<=900)(f:Bool):leF Cs C [sD s,.lst f (xs.map .str)]=.ok (.lst false ((shO (cK s (ib s.2.1.length s.1 xs))).map oD)):=by
 have c1:=JG (C:=Cs) h hx f;have c2:=K7 h hx f;have hg:=sg hx;generalize ib s.2.1.length s.1 xs=g at c2 hg⊢;have c3:=(Jm s.2.2.1 (new:=g.getD s.2.2.1 []) (by rw[(bN h h.r).1,(dk hg h.r).1]) (by rw[(bN h h.r).1];exact h.w2) (by rw[(bN h h.r).1];exact h.c)).1;have c4:=M7 (C:=C) (hZ h hg) (wt (uq h hg) hb);have i1:ixD (sD s) (.int 2)=some (.tup [.int (s.2.2.1:Int),.int (s.2.2.2:Int)]):=rfl;have i2:ixD (.tup [.int (s.2.2.1:Int),.int (s.2.2.2:Int)]) (.int 0)=some (.int (s.2.2.1:Int)):=rfl;have i3:ixD (.tup [.int (s.2.2.1:Int),.int (s.2.2.2:Int)]) (.int 1)=some (.int (s.2.2.2:Int)):=rfl;have i4:ixD (sD s) (.int 1)=some (.tup (s.2.1.map .str)):=rfl;have i5:ixD (.tup (s.2.1.map D.str)) (.int (s.2.2.1:Int))=some (.str (s.2.1.getD s.2.2.1 [])):=CH (by rw[v8,xn h.r,zi,xn h.r];rfl);have hr:=h.r;have i6:ixD (.lst false (g.map D.str)) (.int (s.2.2.1:Int))=some (.str (g.getD s.2.2.1 [])):=L9 (by rw[v8,xn (by rw[hg.n];exact hr),zi,xn (by rw[hg.n];exact hr)];rfl);have i7:ixD (pD (rL s.2.2.1 (s.2.1.getD s.2.2.1 []) (g.getD s.2.2.1 []) s.2.2.2)) (.int 1)=some (.tup ((jV s g).map oD)):=rfl;have i8:rl (.tup (s.2.1.map .str))=.ok ((List.range' 0 s.2.1.length).map λ(i:Nat)=>.tup [.int (i:Int),.str (s.2.1.getD i [])]):=by show R.ok (bL 0 (s.2.1.map .str))=_;rw[Aw]
 obtain⟨y5,y6,lp0⟩:=Af h hg s.2.1.length 0 (jV s g) none none (by omega) (by have:=uW h hg;rw[ZA]at hb;omega);have lp:cO (vt [5,6]) (mW (crG Cs) frG rpF peF (shG C)) ((List.range' 0 s.2.1.length).map λ(i:Nat)=>.tup [.int (i:Int),.str (s.2.1.getD i [])]) [vD (sD s),vD (.lst f (xs.map .str)),vD (.lst false (g.map .str)),vD (.int (s.2.2.1:Int)),some (.own ((jV s g).map oD)),none,none]=.nx [vD (sD s),vD (.lst f (xs.map .str)),vD (.lst false (g.map .str)),vD (.int (s.2.2.1:Int)),some (.own ((cK s g).map oD)),y5,y6]:=lp0;clear lp0;show ar (ax _ _ [vD (sD s),vD (.lst f (xs.map .str)),none,none,none,none,none])=_
 walk_at "run"
noncomputable def mh(Cs Co:Addr):List D->R D:=λds=>ar (gD (leF Cs Co) (coG Co) (ao 2 ds))
def cJ(s:St)(g:List (List Nat)):Nat:=((shO (cK s g)).map bD).sum
def JA{f:Bool}{os:List Od}(h:∀o∈os,okO o=true)(hl:os.length<=1000):coG C [.lst f (os.map oD)]=.ok (.int ((os.map bD).sum:Nat)):=Pp h hl
def GB{Cs:Addr}{s:St}(h:GS s){xs:List (List Nat)}(hx:dc s.2.1.length s.1 xs=true)(hb:4 * s.1 * (s.2.1.length+1)<=900)(f:Bool):mh Cs C [sD s,.lst f (xs.map .str)]=.ok (.int (cJ s (ib s.2.1.length s.1 xs):Int)):=by
 have e1:=Jd (Cs:=Cs) (C:=C) h hx hb f;have hg:=sg hx;have b1:=uq h hg;have b2:=(nF (cK s (ib s.2.1.length s.1 xs)) []).1;have e2:=JA (C:=C) (f:=false) (DB λo ho=>(hZ h hg o ho).1) (by unfold shO;simp only[List.length_nil]at b2;omega);show ar (ax _ _ [vD (sD s),vD (.lst f (xs.map .str))])=_;unfold cJ
 walk_at "run"
def oM{s:St}(h:GS s):cK s s.2.1=[]:=by
 have hm:=h.m;have hr:=h.r;have hg:GL s s.2.1:=⟨rfl,h.l⟩
 have e1:jV s s.2.1=[]:=by unfold jV;rw[Dh (by omega) (by rw[(bN h h.r).1];exact h.w2) (bN h h.r).2 (by rw[(bN h h.r).1];exact h.c)]
 unfold cK;rw[e1,p8];refine List.flatMap_eq_nil_iff.2 λi hi=>?_;rw[Zz]at hi;have hi':i<s.2.1.length:=by omega
 unfold vR;split;·rfl
 ·rw[tJ (by omega) (by rw[(bN h hi').1];exact h.w2) (bN h hi').2]
def wS{s:St}(h:GS s):cJ s s.2.1=0:=by unfold cJ;rw[oM h];rfl
def IJ:List Nat:=[98,114,105,110,103]
section
variable{Cp Co:Addr}
noncomputable def OJ(Co:Addr):MF:=Pq λsts _ _ b c ds=>match ds with
 | [r]=>(match mh Co Co [b,r],frG [b,r],b with
  |.ok (.int pr),.ok (.lst false ys),.tup [w,_,pl]=>if sts.length<1000 then .ok (.int pr) (Ou (sts++[st3 (.str IJ) (.tup [w,.tup ys,pl]) (c+pr)]) [])else .no
  |_,_,_=>.no)
 |_=>.no
end
noncomputable def oK(aL:List D->R D):Ev->O:=(ax (oX (aA 1 aL (ac (rvz 0) nlz))) (ax (bS (bf (dS (av bz (g2 ixD (rvz 0) (ciz 1))) [] (λ_=>R.ok true) (jO "str" eP (rvz 0) (ac (csz [32]) nlz))))) oNx))
def NM(C:Addr):List D->R D:=λds=>ar (oK (kX C) (ao 1 ds))
def shR(s:St):List (List Nat):=s.2.1.map λx=>bu x [32]
def J4{s:St}(h:GS s):NM C [sD s]=.ok (.lst false ((shR s).map .str)):=by
 have hl:=h.m;have e1:=kQ (C:=C) h.screen;have e2:dI (λ_=>R.ok true) (jO "str" eP (rvz 0) (ac (csz [32]) nlz)) (s.2.1.map .str) [none]=.ok ((shR s).map .str):=by have:=jl (gt:=λ_=>R.ok true) (ge:=jO "str" eP (rvz 0) (ac (csz [32]) nlz)) (λd=>match d with|.str x=>.str (bu x [32])|d=>d) [] (s.2.1.map .str) none (λd hd=>by obtain⟨x,_,rfl⟩:=wU.1 hd;exact⟨rfl,rfl⟩);rw[this];unfold shR;rw[List.map_map,List.map_map];rfl
 have e3:bz (.tup (s.2.1.map .str))=.ok (s.2.1.map .str):=rfl;have e4:ixD (sD s) (.int 1)=some (.tup (s.2.1.map .str)):=rfl;have e5:((shR s).map D.str).length<=sizeLine:=by
  have h3:1000<=sizeLine:=by decide
  unfold shR;rw[List.length_map,List.length_map];omega
 have e6:fU [] [vD (sD s)]=[none]:=rfl;show ar (ax _ _ [vD (sD s)])=_
 walk_at "run"
theorem E2{c:Nat}:∀x:List Nat,x.takeWhile (λd=>[c].contains d)=List.replicate (x.takeWhile (λd=>[c].contains d)).length c
 | []=>rfl
 |d::x=>by
  rw[List.takeWhile_cons];split
  ·rename_i h;have e:d=c:=by simpa using h
   rw[vz,mE,e,<- E2 x]
  ·rfl
def kE(x:List Nat):x=bu x [32]++List.replicate (x.length - (bu x [32]).length) 32:=by
 have h1:=Yi (p:=λd=>[32].contains d) (l:=x.reverse);have h2:=E2 (c:=32) x.reverse;have h3:x=(x.reverse.dropWhile λd=>[32].contains d).reverse++(x.reverse.takeWhile λd=>[32].contains d).reverse:=by rw[<- List.reverse_append,h1,List.reverse_reverse]
 rw[qA];have h4:(x.reverse.takeWhile λd=>[32].contains d).reverse=List.replicate (x.length - (x.reverse.dropWhile λd=>[32].contains d).reverse.length) 32:=by
  have h5:=vC List.length h3;rw[w6,List.length_reverse (as:=List.takeWhile _ _)]at h5;rw[h2,List.reverse_replicate]
  congr 1
  omega
 rw[<- h4];exact h3
def Av{x:List Nat}{wd:Nat}(h:x.length=wd):CG wd (bu x [32])=x:=by subst h;exact(kE x).symm
def zm{s:St}(h:GS s):ib s.2.1.length s.1 (shR s)=s.2.1:=by
 unfold ib shR;rw[zy,Nat.sub_self,List.replicate_zero,t8,o9]
 conv=>rhs;rw[<- List.map_id s.2.1]
 exact k9 λx hx=>Av (h.l x hx).1
def Ab{s:St}(h:GS s):dc s.2.1.length s.1 (shR s)=true:=by unfold dc shR;rw[zy,qQ (z9 _),k8,xp];intro x hx;obtain⟨y,hy,rfl⟩:=wU.1 hx;obtain⟨h1,h2⟩:=uC (h.l y hy).2 (k7 (h.l y hy).1);unfold txt;simp[h1,h2]
def Ig{ns:List Int}{a:Nat}{s:St}(h:GS s):dc s.2.1.length s.1 (yS ns a s.1 (s.2.1.map .str))=true:=by
 have hr:kR (s.2.1.map D.str) s.1:=λr hr=>by obtain⟨x,hx,rfl⟩:=wU.1 hr;exact⟨x,rfl,h.l x hx⟩
 have h1:=yz ns a h.w1 (s.2.1.map .str) 0 hr;have h2:=jr ns a s.1 (s.2.1.map .str) 0;unfold dc yS;rw[xf,wa,xp];refine⟨?_,λx hx=>?_⟩;·rw[wo,h2,zy];omega
 ·have:=h1 x (l4 hx);unfold txt;rw[this.1,decide_eq_true this.2];rfl
section
variable{g g1 g2 s1 s2:Ev->O}{gt:Ev->R Bool}{ρ':Ev}
def Lx{gu:Ev->R Bool}(h:gt ρ=.ok false):jY gt gu ρ=gu ρ:=by unfold jY;rw[h];rfl
end
def unl(old new:List Nat)(c:Nat):Bool:=!(old.getD c 0==new.getD c 0)
noncomputable def spU(old new:List Nat)(j:Nat):List (Nat×Nat):=((List.range j).filter (unl old new)).foldl sK []
noncomputable def opn(l:List (Nat×Nat))(j:Nat):Bool:=match l.getLast? with
 |some (c,n)=>c+n==j
 |none=>false
def qi{l:List (Nat×Nat)}(h:opn l j=true):∃a c n,l=a++[(c,n)]/\c+n=j/\sK l j=a++[(c,n+1)]:=by
 rcases qt l with rfl|⟨a,⟨c,n⟩,rfl⟩;·cases h
 ·have e:c+n=j:=by simpa[opn]using h
  exact⟨a,c,n,rfl,e,by simp[sK,e]⟩
def qz{l:List (Nat×Nat)}(h:opn l j=false):sK l j=l++[(j,1)]:=by
 rcases qt l with rfl|⟨a,⟨c,n⟩,rfl⟩;·rfl
 ·have e:c+n≠j:=by simpa[opn]using h
  simp[sK,e]
def Dp(old new:List Nat)(j:Nat):spU old new (j+1)=if unl old new j=true then sK (spU old new j) j else spU old new j:=by
 unfold spU;rw[jp,List.filter_append];by_cases h:unl old new j=true;·rw[if_pos h,dj h,List.filter_nil,Zy];rfl
 ·rw[if_neg h,dq h,List.filter_nil,t8]
structure SpOk(l:List (Nat×Nat))(j:Nat):Prop where
 e:∀q∈l,1<=q.2/\q.1+q.2<=j
theorem FE(old new:List Nat):∀j,SpOk (spU old new j) j
 | 0=>⟨λ_ h=>by cases h⟩
 |j+1=>by
  have ih:=(FE old new j).e;rw[Dp];split
  ·cases e:opn (spU old new j) j with
   |true=>
    obtain⟨a,c,n,e1,e2,e3⟩:=qi e;rw[e1]at ih;rw[e3];refine⟨λq hq=>?_⟩;rcases uF.1 hq with hq|hq;·have:=ih q (my _ hq);omega
    ·rw[wP.1 hq];dsimp only;omega
   |false=>
    rw[qz e];refine⟨λq hq=>?_⟩;rcases uF.1 hq with hq|hq;·have:=ih q hq;omega
    ·rw[wP.1 hq];dsimp only;omega
  ·exact⟨λq hq=>by have:=ih q hq;omega⟩
def kJ(l:List (Nat×Nat)):List Nat:=l.flatMap λq=>List.range' q.1 q.2
def Bg(l:List (Nat×Nat))(j:Nat):kJ (sK l j)=kJ l++[j]:=by
 cases e:opn l j with
 |true=>obtain⟨a,c,n,e1,e2,e3⟩:=qi e;rw[e3,e1];unfold kJ;rw[Z2,Z2,tV];simp only[ul,List.flatMap_nil,t8];rw[List.range'_concat,Nat.one_mul,e2]
 |false=>rw[qz e];unfold kJ;rw[Z2];rfl
theorem tu:∀(cs:List Nat)(l:List (Nat×Nat)),kJ (cs.foldl sK l)=kJ l++cs
 | [],l=>by simp
 |c::cs,l=>by rw[p7,tu cs,Bg,tV];rfl
def Ay(wd:Nat)(p:List Nat×List Nat):kJ (qY wd p)=vB wd p.1 p.2:=by unfold qY;rw[tu];rfl
noncomputable def lK(new row:List Nat)(q:Nat×Nat):List Nat:=row.take q.1++(new.drop q.1).take q.2++row.drop (q.1+q.2)
def ux{new row:List Nat}{q:Nat×Nat}(h:new.length=row.length)(hq:q.1+q.2<=row.length):(lK new row q).length=row.length:=by unfold lK;simp;omega
def AO{new row:List Nat}{q:Nat×Nat}(h:new.length=row.length)(hq:q.1+q.2<=row.length)(i:Nat):(lK new row q)[i]?=if q.1<=i/\i<q.1+q.2 then new[i]? else row[i]?:=by
 unfold lK;have l1:(row.take q.1).length=q.1:=by rw[wo];omega
 have l2:((new.drop q.1).take q.2).length=q.2:=by rw[wo,n6];omega
 by_cases a:i<q.1;·rw[if_neg (by omega),tV,t9 (by omega),l5,if_pos a]
 ·by_cases b:i<q.1+q.2
  ·rw[if_pos ⟨by omega,b⟩,t9 (by rw[w6];omega),rg (by omega),l1,l5,if_pos (by omega),jB]
   congr 1;omega
  ·rw[if_neg (by omega),rg (by rw[w6];omega),w6,l1,l2,jB]
   congr 1;omega
theorem pz{new:List Nat}:∀(l:List (Nat×Nat)){row:List Nat},new.length=row.length->(∀q∈l,q.1+q.2<=row.length)->(l.foldl (lK new) row).length=row.length/\∀i,(l.foldl (lK new) row)[i]?=if i∈kJ l then new[i]? else row[i]?
 | [],row,_,_=>⟨rfl,λi=>by rw[if_neg (by simp[kJ])];rfl⟩
 |q::l,row,h,hq=>by
  have pl:=ux h (hq q (zx ..));obtain⟨i1,i2⟩:=pz (new:=new) l (row:=lK new row q) (by omega) (λz hz=>by rw[pl];exact hq z (zF _ hz));refine⟨by rw[p7,i1,pl],λi=>?_⟩;rw[p7,i2,AO h (hq q (zx ..))];have e:i∈kJ (q::l) ↔ (q.1<=i/\i<q.1+q.2)\/i∈kJ l:=by unfold kJ;rw[List.flatMap_cons,List.mem_append,List.mem_range'_1]
  by_cases a:i∈kJ l;·rw[if_pos a,if_pos (e.2 (.inr a))]
  ·rw[if_neg a];by_cases b:q.1<=i/\i<q.1+q.2;·rw[if_pos b,if_pos (e.2 (.inl b))]
   ·rw[if_neg b,if_neg (λz=>by rcases e.1 z with z|z;exact b z;exact a z)]
def Ha{wd:Nat}{p:List Nat×List Nat}(h:p.1.length=wd):∀q∈qY wd p,1<=q.2/\q.1+q.2<=wd:=by subst h;exact(FE p.1 p.2 p.1.length).e
def nU{wd:Nat}{new:List Nat}(h1:old.length=wd)(h2:new.length=wd):(qY wd (old,new)).foldl (lK new) old=new:=by
 obtain⟨e1,e2⟩:=pz (new:=new) (qY wd (old,new)) (row:=old) (by omega) (λq hq=>by have:=Ha h1 q hq;omega);refine Y5 λi=>?_;rw[e2,Ay];by_cases a:i∈vB wd old new;·rw[if_pos a]
 ·rw[if_neg a];by_cases b:i<wd
  ·unfold vB at a;rw[ZB]at a;have c:old.getD i 0=new.getD i 0:=by have : ¬ ((!(old.getD i 0==new.getD i 0))=true):=λz=>a ⟨pO.2 b,z⟩;simpa using this
   rw[iu (by omega),iu (by omega),c]
  ·rw[p9 (by omega),p9 (by omega)]
abbrev Tr:=Nat×Nat×Nat
noncomputable def prL(rows g:List (List Nat)):List (List Nat×List Nat):=List.zipWith Prod.mk rows g
theorem Cq:∀rows g:List (List Nat),prs (rows.map .str) (g.map .str)=prL rows g
 | [],_=>rfl
 |_::_,[]=>rfl
 |x::rows,y::g=>vC ((x,y)::·) (Cq rows g)
def AS(wd:Nat)(rows g:List (List Nat)):List Tr:=spP wd 0 (prL rows g)
noncomputable def CK(g:List (List Nat))(t:Tr):List Od:=[.go t.1 t.2.1,.say (((g.getD t.1 []).drop t.2.1).take t.2.2)]
theorem sU(f:Nat->List Od):∀l:List Nat,((l.flatMap f).map bD).sum=(l.map λi=>((f i).map bD).sum).sum
 | []=>rfl
 |i::l=>by rw[ul,vp,sw,sU f l];simp
theorem wc(e:Nat->Nat)(r:Nat):∀n,((List.range n).map λi=>if i=r then 0 else e i).sum+(if r<n then e r else 0)=((List.range n).map e).sum
 | 0=>rfl
 |n+1=>by
  have ih:=wc e r n;rw[jp,vp,vp,sw,sw];simp only[xk,n9,rR];by_cases a:n=r;·subst a;rw[if_pos rfl,if_pos (by omega)];rw[if_neg (by omega)]at ih;omega
  ·rw[if_neg a];by_cases b:r<n;·rw[if_pos (by omega)];rw[if_pos b]at ih;omega
   ·rw[if_neg (by omega)];rw[if_neg b]at ih;omega
def HN{wd:Nat}{rows g:List (List Nat)}{c n r0 c0:Nat}(hk:k<rows.length)(hc:c+n<=wd)(hg:(g.getD k []).length=wd):rn (some (wd,rows,r0,c0)) (CK g (k,c,n))=some (wd,rows.set k (lK (g.getD k []) (rows.getD k []) (c,n)),k,c+n):=by
 have l1:(((g.getD k []).drop c).take n).length=n:=by rw[wo,n6];omega
 show(bt (wd,rows,r0,c0) (.go k c)).bind (λs=>bt s (.say (((g.getD k []).drop c).take n)))=_;have e1:bt (wd,rows,r0,c0) (.go k c)=some (wd,rows,k,c):=if_neg (by omega);rw[e1];show bt (wd,rows,k,c) (.say _)=_;unfold bt;dsimp only;rw[l1,if_neg (by omega)];rfl
theorem FO{wd:Nat}{g:List (List Nat)}{k:Nat}(hg:(g.getD k []).length=wd):∀(l:List (Nat×Nat)){rows:List (List Nat)}{r0 c0:Nat},k<rows.length->(rows.getD k []).length=wd->(∀q∈l,q.1+q.2<=wd)->
  ∃r1 c1,rn (some (wd,rows,r0,c0)) ((l.map (emb k)).flatMap (CK g))=some (wd,rows.set k (l.foldl (lK (g.getD k [])) (rows.getD k [])),r1,c1)
 | [],rows,r0,c0,hk,_,_=>⟨r0,c0,by
   show some _=_
   congr 3
   show rows=rows.set k (rows.getD k []);rw[zi,xn hk];exact(List.set_getElem_self hk).symm⟩
 |q::l,rows,r0,c0,hk,hw,hq=>by
  have pl:=ux (new:=g.getD k []) (row:=rows.getD k []) (by omega) (by rw[hw];exact hq q (zx ..));have gk:(rows.set k (lK (g.getD k []) (rows.getD k []) q)).getD k []=lK (g.getD k []) (rows.getD k []) q:=by rw[zi,vE hk];rfl
  obtain⟨r1,c1,ih⟩:=FO hg l (rows:=rows.set k (lK (g.getD k []) (rows.getD k []) q)) (by rw[pQ];exact hk) (by rw[gk,pl,hw]) (λz hz=>hq z (zF _ hz));refine⟨r1,c1,?_⟩;rw[xk,ul,fY];show rn (rn (some (wd,rows,r0,c0)) (CK g (k,q.1,q.2))) _=_;rw[HN hk (hq q (zx ..)) hg,ih,gk,kj,p7]
theorem Bw{wd:Nat}{g:List (List Nat)}:∀(ps:List (List Nat×List Nat))(k:Nat){rows:List (List Nat)}{r0 c0:Nat},rows.drop k=ps.map (·.1)->g.drop k=ps.map (·.2)->(∀p∈ps,p.1.length=wd/\p.2.length=wd)->
  ∃r1 c1,rn (some (wd,rows,r0,c0)) ((spP wd k ps).flatMap (CK g))=some (wd,rows.take k++ps.map (·.2),r1,c1)
 | [],k,rows,r0,c0,h1,_,_=>⟨r0,c0,by
   show some _=_
   congr 3
   have:=List.take_append_drop k rows;rw[h1]at this;exact this.symm⟩
 |p::ps,k,rows,r0,c0,h1,h2,hw=>by
  have hk:k<rows.length:=by have:=vC List.length h1;simp at this;omega
  have hk2:k<g.length:=by have:=vC List.length h2;simp at this;omega
  rw[b7 hk,xk]at h1;rw[b7 hk2,xk]at h2;injection h1 with a1 a2;injection h2 with b1 b2;have a0:rows.getD k []=p.1:=by rw[zi,xn hk,<- a1];rfl
  have b0:g.getD k []=p.2:=by rw[zi,xn hk2,<- b1];rfl
  obtain⟨w1,w2⟩:=hw p (zx ..);obtain⟨r1,c1,e1⟩:=FO (by rw[b0];exact w2) (qY wd p) hk (by rw[a0];exact w1) (λq hq=>(Ha w1 q hq).2);rw[a0,b0,nU w1 w2]at e1;obtain⟨r2,c2,ih⟩:=Bw ps (k+1) (rows:=rows.set k p.2) (by rw[List.drop_set_of_lt (by omega)];exact a2) b2 (λz hz=>hw z (zF _ hz));refine⟨r2,c2,?_⟩;rw[spP,Z2,fY,e1,ih,List.take_add_one,vE hk,List.take_set_of_le (by omega),tV];rfl
theorem Ch(wd:Nat):∀(ps:List (List Nat×List Nat))(k:Nat),(∀p∈ps,p.1.length=wd)->∀t∈spP wd k ps,t.1<k+ps.length/\1<=t.2.2/\t.2.1+t.2.2<=wd
 | [],_,_,_,h=>by cases h
 |p::ps,k,hp,t,h=>by
  rcases uF.1 h with h|h;·obtain⟨q,hq,rfl⟩:=wU.1 h;have:=Ha (hp p (zx ..)) q hq;simp only[emb,vz];omega
  ·have:=Ch wd ps (k+1) (λz hz=>hp z (zF _ hz)) t h;simp only[vz];omega
noncomputable def mH(t:Tr):List (Nat×Nat):=(List.range' t.2.1 t.2.2).map λc=>(t.1,c)
theorem xu(k:Nat):∀l:List (Nat×Nat),(l.map (emb k)).flatMap mH=(kJ l).map λc=>(k,c)
 | []=>rfl
 |q::l=>by rw[xk,ul,xu k l];unfold kJ;rw[ul,vp];rfl
theorem jI(wd:Nat):∀(ps:List (List Nat×List Nat))(k:Nat),(spP wd k ps).flatMap mH=fV wd k ps
 | [],_=>rfl
 |p::ps,k=>by rw[spP,fV,Z2,xu,Ay,jI wd ps]
theorem tf(wd:Nat):∀(rows:List (List Nat))(k:Nat),spP wd k (prL rows rows)=[]
 | [],_=>rfl
 |x::rows,k=>by
  show spP wd k ((x,x)::prL rows rows)=[];have e:qY wd (x,x)=[]:=by unfold qY vB;rw[List.filter_eq_nil_iff.2 λc _=>by simp];rfl
  rw[spP,e,tf wd rows];rfl
theorem xD(wd:Nat):∀(rows g:List (List Nat))(k:Nat),g.length=rows.length->(∀x∈rows,x.length=wd)->(∀x∈g,x.length=wd)->spP wd k (prL rows g)=[]->rows=g
 | [],[],_,_,_,_,_=>rfl
 | [],_::_,_,h,_,_,_=>by simp at h
 |_::_,[],_,h,_,_,_=>by simp at h
 |x::rows,y::g,k,h,h1,h2,e=>by obtain⟨e1,e2⟩:=List.append_eq_nil_iff.1 e;have e1:=List.map_eq_nil_iff.1 e1;have p:=nU (h1 x (zx ..)) (h2 y (zx ..));rw[e1]at p;have p:x=y:=p;rw[p,xD wd rows g (k+1) (by simpa using h) (λz hz=>h1 z (zF _ hz)) (λz hz=>h2 z (zF _ hz)) e2]
def usG(C:Addr):List D->R D:=λds=>ar (eR (crG C) frG (ao 6 ds))
def Qr(C:Addr):List D->R D:=λds=>ar (zU (usG C) OV (ao 5 ds))
section
variable{s:St}{xs:List (List Nat)}
def Lf(h:GS s)(hx:dc s.2.1.length s.1 xs=true)(f:Bool):usG C [sD s,.lst f (xs.map .str)]=.ok (.lst false ((fV s.1 0 (prL s.2.1 (ib s.2.1.length s.1 xs))).map spD)):=by
 have e2:=JG (C:=C) h hx f;have e3:=K7 h hx f;have hg:=sg hx;have q1:kR ((ib s.2.1.length s.1 xs).map .str) s.1:=λr hr=>by obtain⟨x,m,rfl⟩:=wU.1 hr;exact⟨x,rfl,hg.l x m⟩
 have hw:=h.w2;have hm:=h.m;have hn:=hg.n;obtain⟨y3,y4,y5,hL⟩:=qu (F1:=crG C) (F2:=frG) (by omega) (Hu h.screen) (.tup [.int (s.2.2.1:Int),.int (s.2.2.2:Int)]) (some (.val (.lst f (xs.map .str)))) ((ib s.2.1.length s.1 xs).map .str) 0 none none none [] (by simp;omega) q1 (by simp;omega);rw[p8,ym _ _ _ _ (by rw[zy,zy];omega),c8,Cq]at hL;show ar (ax _ _ [some (.val (sD s)),some (.val (.lst f (xs.map .str))),none,none,none,none])=_;have f2:∀(a0 a1 a3 a4 a5:Option Sl)(ds:List D),frz 2 [a0,a1,some (.own ds),a3,a4,a5]=[a0,a1,some (.val (.lst false ds)),a3,a4,a5]:=λ_ _ _ _ _ _=>rfl;have en:∀l:List D,rl (.lst false l)=.ok (bL 0 l):=λ_=>rfl;have z0:(0:Nat)<=sizeLine:=wA _;have eS:sD s=.tup [.int (s.1:Int),.tup (s.2.1.map .str),.tup [.int (s.2.2.1:Int),.int (s.2.2.2:Int)]]:=rfl;rw[<- eS]at hL;clear hw hm hn q1 hg eS hx h
 walk_at "run"
end
def cnt(f:Nat->Bool)(b k:Nat):Nat:=((List.range' b k).filter f).length
def b1(b:Bool):Nat:=if b then 1 else 0
def ik(f:Nat->Bool)(b k:Nat):cnt f b (k+1)=cnt f b k+b1 (f (b+k)):=by unfold cnt b1;rw[Y6,List.filter_append,w6];cases e:f (b+k) <;> simp[e]
def oq(f:Nat->Bool)(a k:Nat):cnt f 0 (a+k)=cnt f 0 a+cnt f a k:=by
 induction k with
 |zero=>simp[cnt]
 |succ k ih=>rw[<- Nat.add_assoc,ik,ik,ih,i9];omega
theorem BS{f g:Nat->Bool}{c:Nat}(h:∀j,j≠c->g j=f j)(b:Nat):∀k,cnt g b k<=cnt f b k+(if b<=c/\c<b+k then 1 else 0)
 | 0=>by simp[cnt]
 |k+1=>by
  have ih:=BS h b k;rw[ik,ik];by_cases z:b+k=c
  ·rw[if_neg (by omega)]at ih;rw[if_pos (by omega)];have:b1 (g (b+k))<=1:=by unfold b1;split <;> omega
   omega
  ·rw[h _ z];by_cases y:b<=c/\c<b+k;·rw[if_pos y]at ih;rw[if_pos (by omega)];omega
   ·rw[if_neg y]at ih;rw[if_neg (by omega)];omega
section
variable{m:Mp}{h w:Bool}{v n c:Nat}
def vQ(H:Has m (h,w) v):Has (iR m n c) (h,w) v:=H.keep.keep.keep
def IB(H:Has m (false,w) v):Has (iR m n c) (true,w) (v+2):=by
 cases w with
 |false=>exact H.move.keep.keep
 |true=>exact H.keep.keep.move
def GR(H:Has m (true,false) v):Has (iR m n c) (true,true) (v+1):=H.keep.move.keep
def He(H:Has m (false,false) v):Has (iR m n c) (true,true) (v+3):=by have:Has (iR m n c) (true,true) (v+2+1):=H.move.move.keep;exact this
def EU{g p:Bool}(H:Has m (h,w) v)(a:h=true\/g=true):Has (iR m n c) (true,w || p) (v+2 * b1 g+b1 p):=by
 cases h with
 |true=>
  cases p with
  |false=>rw[eQ];exact(vQ H).mono (by omega)
  |true=>
   cases w with
   |true=>exact(vQ H).mono (by omega)
   |false=>exact(GR H).mono (by show v+1<=v+_+1;omega)
 |false=>
  have e:=a.resolve_left (λz=>by cases z);subst e;cases p with
  |false=>rw[eQ];exact(IB H).mono (by show v+2<=v+2 * 1+_;omega)
  |true=>
   cases w with
   |true=>exact(IB H).mono (by show v+2<=v+2 * 1+1;omega)
   |false=>exact(He H).mono (by show v+3<=v+2 * 1+1;omega)
def Eo{new:List Nat}{s g p:Bool}(H:Has m (h,w) v)(a:s=true\/p=true->h=true\/g=true)(e:s=false->und (old.getD c 0) (w || p)=new.getD c 0):Has (xH n old new m c) (s,w || p) (v+b1 s+2 * b1 g+b1 p):=by
 cases s with
 |true=>exact(EU H (a (.inl rfl))).say.mono (by show v+2 * b1 g+b1 p+1<=v+1+2 * b1 g+b1 p;omega)
 |false=>
  cases p with
  |true=>exact((EU H (a (.inr rfl))).leave (e rfl)).mono (by show v+2 * b1 g+1<=v+0+2 * b1 g+1;omega)
  |false=>have e1:=e rfl;rw[eQ]at e1⊢;exact((vQ H).leave e1).mono (by omega)
end
def wb(wp:Nat->Bool)(j:Nat):Bool:=(List.range j).any wp
def Ag(wp:Nat->Bool)(j:Nat):wb wp (j+1)=(wb wp j || wp j):=by unfold wb;rw[List.range_succ,List.any_append,List.any_cons,List.any_nil,Bool.or_false]
theorem yj(n:Nat){old new:List Nat}{sd gn wp:Nat->Bool}{b:Nat}{h0:Bool}(hw:wb wp b=false):∀k,(∀j,b<=j->j<b+k->sd j=false->und (old.getD j 0) (wb wp (j+1))=new.getD j 0)->(∀j,b<=j->j<b+k->sd j=true\/wp j=true->(j=b/\h0=true)\/gn j=true\/(b<j/\sd (j - 1)=true))->
  Has ((List.range' b k).foldl (xH n old new) (m0 (h0,false))) ((if k=0 then h0 else sd (b+k - 1)),wb wp (b+k)) (cnt sd b k+2 * cnt gn b k+cnt wp b k)
 | 0,_,_=>by rw[if_pos rfl,Nat.add_zero,hw];exact(Kp (h0,false)).mono (wA _)
 |k+1,p1,p2=>by
  have ih:=yj n hw k (λj a b=>p1 j a (by omega)) (λj a b=>p2 j a (by omega));rw[Y6,Zy,p7,List.foldl_nil,if_neg (Nat.succ_ne_zero k),show b+(k+1)=b+k+1 from rfl,Nat.add_sub_cancel,Ag,ik,ik,ik];refine(Eo (g:=gn (b+k)) ih ?_ ?_).mono (by omega)
  ·intro q;rcases p2 (b+k) (by omega) (by omega) q with⟨z,z2⟩|z|⟨z,z2⟩
   ·have:k=0:=by omega
    rw[if_pos this];exact .inl z2
   ·exact .inr z
   ·rw[if_neg (by omega)];exact .inl z2
  ·intro q;have:=p1 (b+k) (by omega) (by omega) q;rw[Ag]at this;exact this
def El(n:Nat){new:List Nat}{sd gn wp:Nat->Bool}(p1:∀j,j<old.length->sd j=false->und (old.getD j 0) (wb wp (j+1))=new.getD j 0)(p2:∀j,sd j=true\/wp j=true->gn j=true\/(0<j/\sd (j - 1)=true)):
  (eA n old new).1<=cnt sd 0 old.length+2 * cnt gn 0 old.length+cnt wp 0 old.length:=by
 have:=yj n (h0:=false) rfl old.length (λj _ h=>p1 j (by omega)) (λj _ _ q=>.inr (p2 j q));exact iw (by generalize (if old.length=0 then false else sd (0+old.length - 1))=x;generalize wb wp (0+old.length)=y;revert x y;decide) this
def jA{x:List Nat}{c:Nat}(h:j<c):(x.take c).getD j 0=x.getD j 0:=by rw[zi,l5,if_pos h,zi]
def A4(n:Nat){new:List Nat}{sd gn wp:Nat->Bool}{c:Nat}(hc:c<=old.length)(p1:∀j,j<old.length->sd j=false->und (old.getD j 0) (wb wp (j+1))=new.getD j 0)(p2:∀j,sd j=true\/wp j=true->gn j=true\/(0<j/\sd (j - 1)=true)\/j=c)(lo:∀w,w<c->wp w=false):
  (dW n old new c).1<=cnt sd 0 old.length+2 * cnt gn 0 old.length+cnt wp 0 old.length:=by
 have hw:∀j,j<=c->wb wp j=false:=λj hj=>by unfold wb;rw[List.any_eq_false];intro w hw;rw[lo w (by have:=pO.1 hw;omega)];decide
 have r:=yj n (hw c (z9 _)) (old.length - c) (λj _ h=>p1 j (by omega)) (λj a _ q=>by
  rcases p2 j q with z|z|z;·exact .inr (.inl z)
  ·by_cases y:j=c;·exact .inl ⟨y,rfl⟩
   ·exact .inr (.inr ⟨by omega,z.2⟩)
  ·exact .inl ⟨z,rfl⟩);have r1:(fX n old new c).1<=_:=iw (by
  generalize (if old.length - c=0 then true else sd (c+(old.length - c) - 1))=x;generalize wb wp (c+(old.length - c))=y;revert x y;decide) r;have lt:(old.take c).length=c:=by rw[wo];omega
 have l:=yj n (old:=old.take c) (new:=new.take c) (b:=0) (h0:=false) rfl c (λj _ h q=>by rw[jA (by omega),jA (by omega)];exact p1 j (by omega) q) (λj _ h q=>by
  rcases p2 j q with z|z|z;·exact .inr (.inl z)
  ·exact .inr (.inr z)
  ·omega);rw[i9,hw c (z9 _)]at l;have l1:(lw n old new c).1<=_:=iw (k:=((if c=0 then false else sd (c - 1)),false)) (by
  generalize (if c=0 then false else sd (c - 1))=x;revert x;decide) (by unfold gZ;rw[lt,Nat.sub_zero];exact l);have s1:=oq sd c (old.length - c);have s2:=oq gn c (old.length - c);have s3:=oq wp c (old.length - c);rw[show c+(old.length - c)=old.length by omega]at s1 s2 s3;show(fX n old new c).1+(lw n old new c).1<=_;omega
structure Fl where
 sd:Nat->Nat->Bool
 gn:Nat->Nat->Bool
 wp:Nat->Nat->Bool
noncomputable def mj(f:Nat->Nat->Bool)(r c n:Nat):Nat->Nat->Bool:=λi j=>(i==r && (decide (c<=j) && decide (j<c+n))) || f i j
def sB{f:Nat->Nat->Bool}{r c n:Nat}(h:i≠r)(j:Nat):mj f r c n i j=f i j:=by unfold mj;rw[beq_eq_false_iff_ne.2 h];rfl
def jE{f:Nat->Nat->Bool}{r c n:Nat}(h:f i j=true):mj f r c n i j=true:=by unfold mj;rw[h,Bool.or_true]
def iB{f:Nat->Nat->Bool}{r c n:Nat}(h1:c<=j)(h2:j<c+n):mj f r c n r j=true:=by unfold mj;rw[beq_self_eq_true,decide_eq_true h1,decide_eq_true h2];rfl
def sk{f:Nat->Nat->Bool}{r c n:Nat}(h:mj f r c n i j=true):(i=r/\c<=j/\j<c+n)\/f i j=true:=by unfold mj at h;simp only[Bool.or_eq_true,xf,o8,wa]at h;exact h
def Go{f:Nat->Nat->Bool}{r c n:Nat}(h:mj f r c n i j=false): ¬ (i=r/\c<=j/\j<c+n)/\f i j=false:=by
 constructor;·rintro ⟨rfl,a,b⟩;rw[iB a b]at h;cases h
 ·cases e:f i j with
  |false=>rfl
  |true=>rw[jE e]at h;cases h
theorem rK(f:Nat->Nat->Bool)(r c k:Nat):∀n,cnt (mj f r c n r) 0 k<=cnt (f r) 0 k+n
 | 0=>by
  have:mj f r c 0 r=f r:=funext λj=>by
   unfold mj;by_cases h:c<=j;·rw[v6 (show ¬ j<c+0 by omega)];simp
   ·rw[v6 h];simp
  rw[this];exact z9 _
 |n+1=>by
  have ih:=rK f r c k n;have:=BS (f:=mj f r c n r) (g:=mj f r c (n+1) r) (c:=c+n) (λj hj=>by
   unfold mj;by_cases h:c<=j
   ·by_cases h2:j<c+n;·rw[qQ h2,qQ (show j<c+(n+1) by omega)]
    ·rw[v6 h2,v6 (show ¬ j<c+(n+1) by omega)]
   ·rw[v6 h];rfl) 0 k;have z:(if 0<=c+n/\c+n<0+k then 1 else 0)<=1:=by split <;> omega
  omega
noncomputable def flS(s:St)(o:Od)(f:Fl):Fl:=match o with
 |.say x=>{ f with sd:=mj f.sd s.2.2.1 s.2.2.2 x.length }
 |.go n k=>{ f with gn:=mj f.gn n k 1 }
 |.wipe=>{ f with wp:=mj f.wp s.2.2.1 s.2.2.2 1 }
noncomputable def tP(wd:Nat)(f:Fl)(i:Nat):Nat:=cnt (f.sd i) 0 wd+2 * cnt (f.gn i) 0 wd+cnt (f.wp i) 0 wd
def zP(m wd:Nat)(f:Fl):Nat:=((List.range m).map (tP wd f)).sum
theorem Fa{g h:Nat->Nat}{r d:Nat}(e:∀i,i≠r->g i=h i)(l:g r<=h r+d):∀m,((List.range m).map g).sum<=((List.range m).map h).sum+(if r<m then d else 0)
 | 0=>by simp
 |m+1=>by
  have ih:=Fa e l m;rw[jp,vp,vp,sw,sw];simp only[xk,n9,rR];by_cases z:m=r;·subst z;rw[if_neg (by omega)]at ih;rw[if_pos (by omega)];omega
  ·rw[e m z];by_cases y:r<m;·rw[if_pos y]at ih;rw[if_pos (by omega)];omega
   ·rw[if_neg y]at ih;rw[if_neg (by omega)];omega
def se(m wd:Nat)(s:St)(o:Od)(f:Fl):zP m wd (flS s o f)<=zP m wd f+bD o:=by
 have key:∀r,(∀i,i≠r->tP wd (flS s o f) i=tP wd f i)->tP wd (flS s o f) r<=tP wd f r+bD o->zP m wd (flS s o f)<=zP m wd f+bD o:=λr a b=>by
  have:=Fa a b m;have z:(if r<m then bD o else 0)<=bD o:=by split <;> omega
  unfold zP;omega
 cases o with
 |say x=>
  refine key s.2.2.1 (λi hi=>?_) ?_;·unfold tP;rw[show(flS s (.say x) f).sd i=f.sd i from funext λj=>sB hi j];rfl
  ·have:=rK f.sd s.2.2.1 s.2.2.2 wd x.length;show cnt (mj f.sd s.2.2.1 s.2.2.2 x.length s.2.2.1) 0 wd+_+_<=_+x.length;unfold tP;show _+2 * cnt (f.gn _) 0 wd+cnt (f.wp _) 0 wd<=_;omega
 |go n k=>
  refine key n (λi hi=>?_) ?_;·unfold tP;rw[show(flS s (.go n k) f).gn i=f.gn i from funext λj=>sB hi j];rfl
  ·have:=rK f.gn n k wd 1;show _+2 * cnt (mj f.gn n k 1 n) 0 wd+_<=_+2;unfold tP;show cnt (f.sd _) 0 wd+_+cnt (f.wp _) 0 wd<=_;omega
 |wipe=>
  refine key s.2.2.1 (λi hi=>?_) ?_;·unfold tP;rw[show(flS s .wipe f).wp i=f.wp i from funext λj=>sB hi j];rfl
  ·have:=rK f.wp s.2.2.1 s.2.2.2 wd 1;show _+_+cnt (mj f.wp s.2.2.1 s.2.2.2 1 s.2.2.1) 0 wd<=_+1;unfold tP;show cnt (f.sd _) 0 wd+2 * cnt (f.gn _) 0 wd+_<=_;omega
structure Iv(s0:St)(b:Bool)(f:Fl)(s:St):Prop where
 wd:s.1=s0.1
 m:s.2.1.length=s0.2.1.length
 row:∀i j,i<s0.2.1.length->j<s0.1->f.sd i j=false->(s.2.1.getD i []).getD j 0=und ((s0.2.1.getD i []).getD j 0) (wb (f.wp i) (j+1))
 at':∀i j,f.sd i j=true\/f.wp i j=true->f.gn i j=true\/(0<j/\f.sd i (j - 1)=true)\/(b=true/\i=s0.2.2.1/\j=s0.2.2.2)
 pl:f.gn s.2.2.1 s.2.2.2=true\/(0<s.2.2.2/\f.sd s.2.2.1 (s.2.2.2 - 1)=true)\/(b=true/\s.2.2.1=s0.2.2.1/\s.2.2.2=s0.2.2.2)
def Ce{f:Nat->Nat->Bool}{r c:Nat}(h:i≠r)(j:Nat):wb (mj f r c 1 i) j=wb (f i) j:=by rw[show mj f r c 1 i=f i from funext λk=>sB h k]
def Cl{f:Nat->Bool}{c:Nat}(h:f c=true)(hc:c<j):wb f j=true:=by unfold wb;rw[List.any_eq_true];exact⟨c,List.mem_range.2 hc,h⟩
def Bf{f:Nat->Nat->Bool}{r c:Nat}(h:j<=c):wb (mj f r c 1 r) j=wb (f r) j:=by
 unfold wb;rw[ZL,List.any_eq_true,List.any_eq_true];constructor
 ·rintro ⟨k,hk,e⟩;refine⟨k,hk,?_⟩;rcases sk e with z|z;·have:=pO.1 hk;omega
  ·exact z
 ·rintro ⟨k,hk,e⟩;exact⟨k,hk,jE e⟩
def fQ{rows:List (List Nat)}{r:Nat}{x:List Nat}:(rows.set r x).getD i []=if i=r/\r<rows.length then x else rows.getD i []:=by
 rw[zi,zi,Zh];by_cases h:r=i
 ·subst h;rw[if_pos rfl];by_cases h2:r<rows.length;·rw[if_pos h2,if_pos ⟨rfl,h2⟩];rfl
  ·rw[if_neg h2,if_neg (by omega),p9 (by omega)]
 ·rw[if_neg h,if_neg (by omega)]
def Iv.step{s0 s s':St}{f:Fl}{o:Od}(v:Iv s0 b f s)(h:GS s)(ho:okO o=true)(e:bt s o=some s'):Iv s0 b (flS s o f) s':=by
 obtain⟨wd,rows,r,c⟩:=s;have hr:=h.r;have hl:=(h.l _ (iA hr)).1;obtain⟨v1,v2,v3,v4,v5⟩:=v;cases o with
 |say x=>
  simp only[okO,xf,wa]at ho;simp only[bt]at e;split at e;·cases e
  ·cases e;refine⟨v1,by rw[<- v2];simp,λi j hi hj q=>?_,λi j q=>?_,?_⟩
   ·obtain⟨q1,q2⟩:=Go q;dsimp only at q1;show((rows.set r _).getD i []).getD j 0=und ((s0.2.1.getD i []).getD j 0) (wb (f.wp i) (j+1));rw[<- v3 i j hi hj q2,fQ];split
    ·rename_i z;rw[z.1];generalize rows.getD r []=row at *;rw[zi,zi]
     congr 1
     by_cases a:j<c;·rw[tV,t9 (by rw[wo];omega),l5,if_pos a]
     ·rw[rg (by rw[w6,wo];omega),jB]
      congr 1
      rw[w6,wo];omega
    ·rfl
   ·have old:f.sd i j=true\/f.wp i j=true->f.gn i j=true\/(0<j/\mj f.sd r c x.length i (j - 1)=true)\/(b=true/\i=s0.2.2.1/\j=s0.2.2.2):=λz=>(v4 i j z).imp id (λz=>z.imp (λz=>⟨z.1,jE z.2⟩) id);rcases q with q|q
    ·rcases sk q with⟨rfl,a1,a2⟩|q
     ·by_cases y:j=c;·subst y;exact v5.imp id (λz=>z.imp (λz=>⟨z.1,jE z.2⟩) id)
      ·exact .inr (.inl ⟨by dsimp only at a1;omega,iB (by dsimp only at a1⊢;omega) (by dsimp only at a2⊢;omega)⟩)
     ·exact old (.inl q)
    ·exact old (.inr q)
   ·exact .inr (.inl ⟨by dsimp only;omega,iB (by dsimp only;omega) (by dsimp only;omega)⟩)
 |go n k=>
  simp only[bt]at e;split at e;·cases e
  ·cases e;exact⟨v1,v2,v3,λi j q=>(v4 i j q).imp jE id,.inl (iB (z9 _) (by dsimp only;omega))⟩
 |wipe=>
  cases e;refine⟨v1,by rw[<- v2];simp,λi j hi hj q=>?_,λi j q=>?_,v5⟩
  ·show((rows.set r _).getD i []).getD j 0=und _ (wb (mj f.wp r c 1 i) (j+1));by_cases y:i=r
   ·subst y;rw[fQ,if_pos ⟨rfl,hr⟩];have v:=v3 i j hi hj q;generalize rows.getD i []=row at *;by_cases a:j<c;·rw[Bf (by omega),<- v,zi,zi,t9 (by rw[wo];omega),l5,if_pos a]
    ·rw[Cl (iB (z9 c) (by omega)) (by omega),zi,rg (by rw[wo];omega),l9,if_pos (by rw[wo];omega)];rfl
   ·rw[Ce y,fQ,if_neg (by omega)];exact v3 i j hi hj q
  ·rcases q with q|q;·exact v4 i j (.inl q)
   ·rcases sk q with⟨rfl,a1,a2⟩|q
    ·have:j=c:=by dsimp only at a1 a2;omega
     subst this;exact v5
    ·exact v4 i j (.inr q)
theorem Iv.run(m wd:Nat):∀(os:List Od){s0 s s':St}{b:Bool}{f:Fl},Iv s0 b f s->GS s->(∀o∈os,okO o=true)->rn (some s) os=some s'->
  ∃f',Iv s0 b f' s'/\zP m wd f'<=zP m wd f+(os.map bD).sum/\(∀i j,f.wp i j=true->f'.wp i j=true)/\
   (∀r0 c0,(∀a q t,os=a++.wipe::q->rn (some s) a=some t->¬ (t.2.2.1=r0/\t.2.2.2<c0))->(∀w,w<c0->f.wp r0 w=false)->∀w,w<c0->f'.wp r0 w=false)
 | [],s0,s,s',b,f,v,_,_,e=>⟨f,by cases e;exact v,by simp,λ_ _ h=>h,λ_ _ _ h=>h⟩
 |o::os,s0,s,s',b,f,v,h,ho,e=>by
  have h1:=ho o (zx ..);rw[gE]at e;cases z:bt s o with
  |none=>rw[show((some s).bind λs=>bt s o)=none from z,fT]at e;cases e
  |some t=>
   rw[show((some s).bind λs=>bt s o)=some t from z]at e;obtain⟨f',v',c',w',l'⟩:=Iv.run m wd os (v.step h h1 z) (lS h h1 z) (λo ho'=>ho o (zF _ ho')) e;have c1:=se m wd s o f;refine⟨f',v',by rw[xk,rR];omega,λi j q=>w' i j ?_,λr0 c0 H lo=>l' r0 c0 (λa q u e1 e2=>H (o::a) q u (by rw[e1];rfl) (by rw[gE,show((some s).bind λs=>bt s o)=some t from z];exact e2)) λw hw=>?_⟩
   ·cases o with
    |wipe=>exact jE q
    |_=>exact q
   ·cases o with
    |wipe=>
     cases y:(flS s .wipe f).wp r0 w with
     |false=>rfl
     |true=>
      rcases sk y with y|y;·exact absurd ⟨y.1.symm,by omega⟩ (H [] os s rfl rfl)
      ·rw[lo w hw]at y;cases y
    |_=>exact lo w hw
def flN:Fl:=⟨λ_ _=>false,λ_ _=>false,λ_ _=>false⟩
def wb0(j:Nat):wb (λ_=>false) j=false:=by unfold wb;rw[List.any_eq_false];intro _ _ h;cases h
def iv0(s:St):Iv s true flN s:=⟨rfl,rfl,λi j _ _ _=>by show _=und _ (wb (λ_=>false) _);rw[wb0];rfl,λi j q=>(by rcases q with q|q <;> cases q),.inr (.inr ⟨rfl,rfl,rfl⟩)⟩
def ON(m wd:Nat):zP m wd flN=0:=by
 have c0:cnt (λ_=>false) 0 wd=0:=by simp[cnt]
 have:∀i,tP wd flN i=0:=λi=>by show cnt (λ_=>false) 0 wd+2 * cnt (λ_=>false) 0 wd+cnt (λ_=>false) 0 wd=0;omega
 unfold zP;induction m with
 |zero=>rfl
 |succ m ih=>rw[jp,vp,sw,ih];simp[this]
structure Bh(r0 c0:Nat)(R:List (List Nat))(s:St):Prop where
 r:s.2.2.1=r0
 c:c0<=s.2.2.2
 o:∀i,i≠r0->s.2.1.getD i []=R.getD i []
 l:∀j,j<c0->(s.2.1.getD r0 []).getD j 0=(R.getD r0 []).getD j 0
def KQ:Od->Bool
 |.go _ _=>true
 |_=>false
def Bh.step{r0 c0:Nat}{R:List (List Nat)}{s s':St}{o:Od}(v:Bh r0 c0 R s)(h:GS s)(hg:KQ o=false)(e:bt s o=some s'):Bh r0 c0 R s':=by
 obtain⟨wd,rows,r,c⟩:=s;have hr:=h.r;have hl:=(h.l _ (iA hr)).1;have hc:c<=wd:=h.c;obtain⟨v1,v2,v3,v4⟩:=v;dsimp only at v1 v2 v3 v4;subst v1;cases o with
 |go n k=>cases hg
 |say x=>
  simp only[bt]at e;split at e;·cases e
  ·cases e;refine⟨rfl,by dsimp only;omega,λi hi=>by rw[<- v3 i hi];show(rows.set r _).getD i []=_;rw[fQ,if_neg (by omega)],λj hj=>?_⟩;rw[<- v4 j hj];rw[fQ,if_pos ⟨rfl,hr⟩];generalize rows.getD r []=row at *;rw[zi,zi,tV,t9 (by rw[wo];omega),l5,if_pos (by omega)]
 |wipe=>cases e;refine⟨rfl,v2,λi hi=>by rw[<- v3 i hi];show(rows.set r _).getD i []=_;rw[fQ,if_neg (by omega)],λj hj=>?_⟩;rw[<- v4 j hj];rw[fQ,if_pos ⟨rfl,hr⟩];generalize rows.getD r []=row at *;rw[zi,zi,t9 (by rw[wo];omega),l5,if_pos (by omega)]
theorem xO{r0 c0:Nat}{R:List (List Nat)}:∀(os:List Od){s t:St},Bh r0 c0 R s->GS s->(∀o∈os,okO o=true)->rn (some s) os=some t->
  Bh r0 c0 R t\/∃p n k q s1 s2,os=p++.go n k::q/\GS s1/\Bh r0 c0 R s1/\bt s1 (.go n k)=some s2/\rn (some s2) q=some t/\s1.1=s.1/\s1.2.1.length=s.2.1.length/\okO (.go n k)=true
 | [],s,t,v,_,_,e=>by cases e;exact .inl v
 |o::os,s,t,v,h,ho,e=>by
  have h1:=ho o (zx ..);rw[gE]at e;cases z:bt s o with
  |none=>rw[show((some s).bind λs=>bt s o)=none from z,fT]at e;cases e
  |some u=>
   rw[show((some s).bind λs=>bt s o)=some u from z]at e;cases g:KQ o with
   |true=>
    cases o with
    |go n k=>exact .inr ⟨[],n,k,os,s,u,rfl,h,v,z,e,rfl,rfl,h1⟩
    |say x=>cases g
    |wipe=>cases g
   |false=>
    rcases xO os (v.step h g z) (lS h h1 z) (λo ho'=>ho o (zF _ ho')) e with w|⟨p,n,k,q,s1,s2,e1,e2,e3,e4,e5,e6,e7,e8⟩;·exact .inl w
    ·refine .inr ⟨o::p,n,k,q,s1,s2,by rw[e1];rfl,e2,e3,e4,e5,?_,?_,e8⟩;·have:=(Iv.step (iv0 s) h h1 z).wd;rw[e6];exact this
     ·have:=(Iv.step (iv0 s) h h1 z).m;rw[e7];exact this
section
variable{s s0 s':St}{g:List (List Nat)}{f:Fl}
def EW(i:Nat)(hi:i<s.2.1.length)(h:GS s)(p1:∀j,j<s.1->f.sd i j=false->(g.getD i []).getD j 0=und ((s.2.1.getD i []).getD j 0) (wb (f.wp i) (j+1)))(p2:∀j,f.sd i j=true\/f.wp i j=true->f.gn i j=true\/(0<j/\f.sd i (j - 1)=true)):
  (eA i (s.2.1.getD i []) (g.getD i [])).1<=tP s.1 f i:=by
 have e:=(bN h hi).1;have:=El i (λj hj q=>(p1 j (by omega) q).symm) p2;rw[e]at this;exact this
theorem vm{a b:Nat->Nat}:∀m,(∀i,i<m->a i<=b i)->((List.range m).map a).sum<=((List.range m).map b).sum
 | 0,_=>z9 _
 |m+1,h=>by have ih:=vm m λi hi=>h i (by omega);have:=h m (by omega);rw[jp,vp,vp,sw,sw];simp only[xk,n9,rR];omega
def vO(h:GS s)(hg:GL s g):((cK s g).map bD).sum=(rL s.2.2.1 (s.2.1.getD s.2.2.1 []) (g.getD s.2.2.1 []) s.2.2.2).1+((List.range s.2.1.length).map λi=>if i=s.2.2.1 then 0 else (eA i (s.2.1.getD i []) (g.getD i [])).1).sum:=by
 have hm:=h.m;unfold cK;rw[vp,sw,sU,<- List.range_eq_range'];have r1:=B6 (n:=s.2.2.1) (by have:=h.r;omega) (by rw[(bN h h.r).1];exact h.w2) (by rw[(bN h h.r).1,(dk hg h.r).1]) (dk hg h.r).2 (by rw[(bN h h.r).1];exact h.c);have r3:((jV s g).map bD).sum=(rL s.2.2.1 (s.2.1.getD s.2.2.1 []) (g.getD s.2.2.1 []) s.2.2.2).1:=r1.2.symm
 congr 2
 refine k9 λi hi=>?_;have hi:=pO.1 hi;unfold vR;split;·rfl
 ·exact(mR (by omega) (by rw[(bN h hi).1];exact h.w2) (by rw[(bN h hi).1,(dk hg hi).1]) (dk hg hi).2).2.symm
def jt(h:GS s)(hg:GL s g){os:List Od}(ho:∀o∈os,okO o=true)(e:rn (some s) os=some s')(e2:s'.2.1=g):cJ s g<=(os.map bD).sum:=by
 have a1:=(nF (cK s g) []).2;have a2:=vO h hg;have so:=wc (λi=>(eA i (s.2.1.getD i []) (g.getD i [])).1) s.2.2.1 s.2.1.length;rw[if_pos h.r]at so;simp only[n9,List.sum_nil]at a1;unfold cJ shO;have hold:=(bN h h.r).1;by_cases H:∃a q t,os=a++.wipe::q/\rn (some s) a=some t/\t.2.2.1=s.2.2.1/\t.2.2.2<s.2.2.2
 ·obtain⟨a,q,t,rfl,ea,t1,t2⟩:=H;have hoa:∀o∈a,okO o=true:=λo h=>ho o (my _ h);have hoq:∀o∈q,okO o=true:=λo h=>ho o (n0 _ (zF _ h));rcases xO a ⟨rfl,z9 _,λ_ _=>rfl,λ_ _=>rfl⟩ h hoa ea with z|⟨p,n,k,a2',s1,s2,rfl,g1,b1,st,ra,w1,m1,okg⟩;·have:=z.c;omega
  ·have hoa2:∀o∈a2',okO o=true:=λo h=>hoa o (n0 _ (zF _ h));have g2:=lS g1 okg st;have v1:Iv s1 false (flS s1 (.go n k) flN) s2:=by
    simp only[bt]at st;split at st;·cases st
    ·cases st;exact⟨rfl,rfl,λi j _ _ _=>by show _=und _ (wb (λ_=>false) _);rw[wb0];rfl,λi j q=>(by rcases q with q|q <;> cases q),.inl (iB (z9 _) (by dsimp only;omega))⟩
   have c1:=se s.2.1.length s.1 s1 (.go n k) flN;rw[ON]at c1;obtain⟨f2,v2,c2,_,_⟩:=Iv.run s.2.1.length s.1 a2' v1 g2 hoa2 ra;have gt:=yI _ g2 hoa2 ra;rw[fY,ea,gE]at e;have st2:bt t .wipe=some (t.1,t.2.1.set t.2.2.1 ((t.2.1.getD t.2.2.1 []).take t.2.2.2++List.replicate (t.1 - t.2.2.2) 32),t.2.2.1,t.2.2.2):=rfl;have v3:=v2.step gt rfl st2;have c3:=se s.2.1.length s.1 t .wipe f2;obtain⟨f4,v4,c4,w4,_⟩:=Iv.run s.2.1.length s.1 q v3 (lS gt rfl st2) hoq e;have low:f4.wp s.2.2.1 t.2.2.2=true:=w4 _ _ (by rw[<- t1];exact iB (z9 _) (by omega));have tot:zP s.2.1.length s.1 f4<=((p++.go n k::a2'++.wipe::q).map bD).sum:=by simp only[vp,xk,sw,rR];omega
   have each:∀i,i<s.2.1.length->(eA i (s.2.1.getD i []) (g.getD i [])).1<=tP s.1 f4 i:=λi hi=>by
    refine EW i hi h (λj hj q=>?_) λj q=>?_
    ·have:=v4.row i j (by rw[m1];exact hi) (by rw[w1];exact hj) q;rw[e2]at this;rw[this];by_cases y:i=s.2.2.1
     ·subst y;by_cases x:j<s.2.2.2;·rw[b1.l j x]
      ·rw[Cl low (by omega)];rfl
     ·rw[b1.o i y]
    ·rcases v4.at' i j q with z|z|z;·exact .inl z
     ·exact .inr z
     ·cases z.1
   have sm:=vm s.2.1.length each;have mn:(rL s.2.2.1 (s.2.1.getD s.2.2.1 []) (g.getD s.2.2.1 []) s.2.2.2).1<=(eA s.2.2.1 (s.2.1.getD s.2.2.1 []) (g.getD s.2.2.1 [])).1:=iZ _ _ _ (by simp);unfold zP at tot;omega
 ·obtain⟨f',v',c',_,l'⟩:=Iv.run s.2.1.length s.1 os (iv0 s) h ho e;have low:=l' s.2.2.1 s.2.2.2 (λa q t e1 e3 e4=>H ⟨a,q,t,e1,e3,e4.1,e4.2⟩) λ_ _=>rfl;rw[ON]at c';have row:∀i j,i<s.2.1.length->j<s.1->f'.sd i j=false->(g.getD i []).getD j 0=und ((s.2.1.getD i []).getD j 0) (wb (f'.wp i) (j+1)):=λi j hi hj q=>by have:=v'.row i j hi hj q;rw[e2]at this;exact this
  have pm:=A4 s.2.2.1 (by rw[hold];exact h.c) (λj hj q=>(row _ j h.r (by omega) q).symm) (λj q=>(v'.at' _ j q).imp id (λz=>z.imp id λz=>z.2.2)) low;rw[hold]at pm;have mn:(rL s.2.2.1 (s.2.1.getD s.2.2.1 []) (g.getD s.2.2.1 []) s.2.2.2).1<=(dW s.2.2.1 (s.2.1.getD s.2.2.1 []) (g.getD s.2.2.1 []) s.2.2.2).1:=iZ _ _ _ (by simp);have each:∀i,i<s.2.1.length->(if i=s.2.2.1 then 0 else (eA i (s.2.1.getD i []) (g.getD i [])).1)<=(if i=s.2.2.1 then 0 else tP s.1 f' i):=λi hi=>by
   by_cases y:i=s.2.2.1;·rw[if_pos y,if_pos y];exact z9 _
   ·rw[if_neg y,if_neg y];refine EW i hi h (λj hj q=>row i j hi hj q) λj q=>?_;rcases v'.at' i j q with z|z|z;·exact .inl z
    ·exact .inr z
    ·exact absurd z.2.1 y
  have sm:=vm s.2.1.length each;have so2:=wc (tP s.1 f') s.2.2.1 s.2.1.length;rw[if_pos h.r]at so2;unfold zP at c';have pm':(dW s.2.2.1 (s.2.1.getD s.2.2.1 []) (g.getD s.2.2.1 []) s.2.2.2).1<=tP s.1 f' s.2.2.1:=pm;omega
end
noncomputable def ce(row:List Nat)(nw:Nat->Nat)(b j:Nat)(w:Bool)(i:Nat):Nat:=if i<b then row.getD i 0 else if i<j then nw i else und (row.getD i 0) w
noncomputable def tg(row:List Nat)(nw:Nat->Nat)(b j:Nat)(w:Bool):List Nat:=(List.range row.length).map (ce row nw b j w)
def zQz9(row:List Nat)(nw:Nat->Nat)(b j:Nat)(w:Bool):(tg row nw b j w).length=row.length:=by unfold tg;rw[List.length_map,List.length_range]
section
variable{n b:Nat}{row x:List Nat}{nw:Nat->Nat}{h0 w:Bool}
def ce1(h:i<b):ce row nw b j w i=row.getD i 0:=if_pos h
def ce2(h1:b<=i)(h2:i<j):ce row nw b j w i=nw i:=by unfold ce;rw[if_neg (by omega),if_pos h2]
def ce3(hb:b<=j)(h:j<=i):ce row nw b j w i=und (row.getD i 0) w:=by unfold ce;rw[if_neg (by omega),if_neg (by omega)]
def nW(h:i<row.length):(tg row nw b j w)[i]?=some (ce row nw b j w i):=by unfold tg;rw[List.getElem?_map,List.getElem?_range h];rfl
def zD(hl:x.length=row.length)(h:∀i,i<row.length->x[i]?=some (ce row nw b j w i)):x=tg row nw b j w:=by
 refine Y5 λi=>?_;by_cases hi:i<row.length;·rw[h i hi,nW hi]
 ·rw[p9 (by omega),p9 (by rw[zQz9];omega)]
def Ek(row:List Nat)(nw:Nat->Nat)(b:Nat):row=tg row nw b b false:=by
 refine zD rfl λi hi=>?_;have:row[i]?=some (row.getD i 0):=iu hi;rw[this];by_cases z:i<b;·rw[ce1 z]
 ·rw[ce3 (z9 _) (by omega)];rfl
def Gr(hb:b<=j)(hj:j<=row.length):(tg row nw b j false).take j++List.replicate (row.length - j) 32=tg row nw b j true:=by
 have l:=zQz9 row nw b j false;refine zD (by rw[w6,wo,rE];omega) λi hi=>?_;by_cases z:i<j
 ·rw[t9 (by rw[wo];omega),l5,if_pos z,nW hi];by_cases y:i<b;·rw[ce1 y,ce1 y]
  ·rw[ce2 (by omega) z,ce2 (by omega) z]
 ·rw[rg (by rw[wo];omega),l9,if_pos (by rw[wo];omega),ce3 hb (by omega)];rfl
def LH(hb:b<=j)(hj:j<row.length):(tg row nw b j w).take j++[nw j]++(tg row nw b j w).drop (j+1)=tg row nw b (j+1) w:=by
 have l:=zQz9 row nw b j w;refine zD (by rw[w6,w6,wo,n6,vz,pw];omega) λi hi=>?_;by_cases z:i<j
 ·rw[tV,t9 (by rw[wo];omega),l5,if_pos z,nW hi];by_cases y:i<b;·rw[ce1 y,ce1 y]
  ·rw[ce2 (by omega) z,ce2 (by omega) (by omega)]
 ·by_cases y:i=j;·subst y;rw[tV,rg (by rw[wo];omega),wo,show i - min i (tg row nw b i w).length=0 by omega,ce2 hb (by omega)];rfl
  ·rw[rg (by rw[w6,wo,vz,pw];omega),jB,w6,wo,vz,pw,show j+1+(i - (min j (tg row nw b j w).length+(0+1)))=i by omega,nW hi,ce3 hb (by omega),ce3 (by omega) (by omega)]
def Dx(hb:b<=j)(hj:j<row.length)(e:und (row.getD j 0) w=nw j):tg row nw b j w=tg row nw b (j+1) w:=by
 refine zD (zQz9 ..) λi hi=>?_;rw[nW hi];by_cases z:i<b;·rw[ce1 z,ce1 z]
 ·by_cases y:i<j;·rw[ce2 (by omega) y,ce2 (by omega) (by omega)]
  ·by_cases q:i=j;·subst q;rw[ce3 hb (z9 _),ce2 hb (by omega),e]
   ·rw[ce3 hb (by omega),ce3 (by omega) (by omega)]
noncomputable def Rch(n:Nat)(row:List Nat)(nw:Nat->Nat)(b:Nat)(h0:Bool)(j:Nat)(k:Ky)(p:Pl):Prop:=∀(R:List (List Nat))(r c:Nat),n<R.length->R.getD n []=row->(h0=true->r=n/\c=b)->
 ∃r' c',rn (some (row.length,R,r,c)) p.2=some (row.length,R.set n (tg row nw b j k.2),r',c')/\(k.1=true->r'=n/\c'=j)
def nr{R:List (List Nat)}{x:List Nat}(h:n<R.length):(R.set n x).getD n []=x:=by rw[fQ,if_pos ⟨rfl,h⟩]
def Kt{R:List (List Nat)}(h:n<R.length):R.set n (R.getD n [])=R:=by rw[zi,xn h];exact List.set_getElem_self h
def Rch.start:Rch n row nw b h0 b (h0,false) (0,[]):=λR r c hn hr hp=>⟨r,c,by show some _=_;rw[show(h0,false).2=false from rfl,<- Ek,<- hr,Kt hn],hp⟩
def xJ(a:Option St)(os:List Od)(o:Od):rn a (os++[o])=(rn a os).bind λs=>bt s o:=by rw[fY];rfl
def Rch.go{p:Pl}(h:Rch n row nw b h0 j (false,w) p)(hj:j<=row.length):Rch n row nw b h0 j (true,w) (lN p (.go n j)):=λR r c hn hr hp=>by obtain⟨r',c',e,_⟩:=h R r c hn hr hp;refine⟨n,j,?_,λ_=>⟨rfl,rfl⟩⟩;show rn _ (p.2++[.go n j])=_;rw[xJ,e];exact if_neg (by simp only[pQ];omega)
def Rch.wipe{p:Pl}(h:Rch n row nw b h0 j (true,false) p)(hb:b<=j)(hj:j<=row.length):Rch n row nw b h0 j (true,true) (lN p .wipe):=λR r c hn hr hp=>by obtain⟨r',c',e,q⟩:=h R r c hn hr hp;obtain⟨rfl,rfl⟩:=q rfl;refine⟨r',c',?_,λ_=>⟨rfl,rfl⟩⟩;show rn _ (p.2++[.wipe])=_;rw[xJ,e];show some (row.length,(R.set r' (tg row nw b c' false)).set r' (((R.set r' (tg row nw b c' false)).getD r' []).take c'++List.replicate (row.length - c') 32),r',c')=_;rw[nr hn,Gr hb hj,kj]
def Rch.say{p:Pl}(h:Rch n row nw b h0 j (true,w) p)(hb:b<=j)(hj:j<row.length):Rch n row nw b h0 (j+1) (true,w) (lN p (.say [nw j])):=λR r c hn hr hp=>by obtain⟨r',c',e,q⟩:=h R r c hn hr hp;obtain⟨rfl,rfl⟩:=q rfl;refine⟨r',c'+1,?_,λ_=>⟨rfl,rfl⟩⟩;show rn _ (p.2++[.say [nw c']])=_;rw[xJ,e];show(if row.length<c'+1 then none else some (row.length,(R.set r' (tg row nw b c' w)).set r' (((R.set r' (tg row nw b c' w)).getD r' []).take c'++[nw c']++((R.set r' (tg row nw b c' w)).getD r' []).drop (c'+1)),r',c'+1))=_;rw[if_neg (by omega),nr hn,LH hb hj,kj]
def Rch.leave{p:Pl}{a:Bool}(h:Rch n row nw b h0 j (a,w) p)(hb:b<=j)(hj:j<row.length)(e:und (row.getD j 0) w=nw j):Rch n row nw b h0 (j+1) (false,w) p:=λR r c hn hr hp=>by obtain⟨r',c',e1,_⟩:=h R r c hn hr hp;exact⟨r',c',by rw[e1];show some (_,R.set n (tg row nw b j w),_,_)=_;rw[Dx hb hj e],λz=>by cases z⟩
def zV{P:Ky->Pl->Prop}{m:Mp}{a c:Ky}{o:Od}(h:All P m)(ho:∀p,P a p->P c (lN p o)):All P (move m a c o):=by
 unfold move;split;·rename_i q e;exact h.offer (ho q (h.at e))
 ·exact h
theorem Rch.cols{new:List Nat}(hl:∀i,i<old.length->old.getD i 0=row.getD i 0)(hn:∀i,i<old.length->new.getD i 0=nw i)(hw:old.length<=row.length):∀k,b+k<=old.length->All (Rch n row nw b h0 (b+k)) ((List.range' b k).foldl (xH n old new) (m0 (h0,false)))
 | 0,_=>λz hz=>by rw[wP.1 hz];exact Rch.start
 |k+1,h=>by
  have ih:=Rch.cols hl hn hw k (by omega);rw[Y6,Zy,p7,List.foldl_nil];show All (Rch n row nw b h0 (b+k+1)) _;have mv:All (Rch n row nw b h0 (b+k)) (iR ((List.range' b k).foldl (xH n old new) (m0 (h0,false))) n (b+k)):=
   zV (zV (zV ih λp hp=>hp.go (by omega)) λp hp=>hp.wipe (by omega) (by omega)) λp hp=>hp.go (by omega);refine sF mv (λq p hp e=>?_) λq p hp e=>?_;·rw[hn _ (by omega)];obtain⟨a,w⟩:=q;cases e;exact Rch.say hp (by omega) (by omega)
  ·rw[hn _ (by omega),hl _ (by omega)]at e;exact Rch.leave hp (by omega) (by omega) e
end
def oP{m:Mp}{ks:List Ky}(h:hU m ks≠[]):∃k∈ks,m.lookup k=some (je m ks):=by obtain⟨k,hk,e⟩:=l7.1 (uI h);exact⟨k,hk,e⟩
section
variable{n c:Nat}{new:List Nat}
def yo(hl:new.length=old.length)(hw:old.length<=40):∀(R:List (List Nat))(r c:Nat),n<R.length->R.getD n []=old->∃r' c',rn (some (old.length,R,r,c)) (eA n old new).2=some (old.length,R.set n new,r',c'):=by
 have a:=Rch.cols (n:=n) (row:=old) (nw:=λi=>new.getD i 0) (b:=0) (h0:=false) (λ_ _=>rfl) (λ_ _=>rfl) (z9 _) old.length (by omega);obtain⟨k,_,e⟩:=oP (sv gd0 n hl (wA _) (by omega)).2.all;unfold gZ at e;rw[b6]at e;have p:=a.at e;intro R r c hn hr;obtain⟨r',c',e1,_⟩:=p R r c hn hr (λz=>by cases z);refine⟨r',c',?_⟩;rw[show(eA n old new).2=(je ((List.range' 0 old.length).foldl (xH n old new) (m0 (false,false))) allK).2 by unfold eA gZ;rw[Nat.sub_zero],e1];have:new=tg old (λi=>new.getD i 0) 0 (0+old.length) k.2:=zD hl λi hi=>by rw[ce2 (wA _) (by omega)];exact iu (by omega)
 rw[<- this]
def A7(hl:new.length=old.length)(hw:old.length<=40)(hc:c<=old.length)(R:List (List Nat))(hn:n<R.length)(hr:R.getD n []=old):∃r' c',rn (some (old.length,R,n,c)) (dW n old new c).2=some (old.length,R.set n new,r',c'):=by
 have a:=Rch.cols (n:=n) (row:=old) (nw:=λi=>new.getD i 0) (b:=c) (h0:=true) (λ_ _=>rfl) (λ_ _=>rfl) (z9 _) (old.length - c) (by omega);obtain⟨k,_,e⟩:=oP (sv gd1 n hl hc (by omega)).2.all;obtain⟨r1,c1,e1,_⟩:=(a.at e) R n c hn hr (λ_=>⟨rfl,rfl⟩);have l1:(old.take c).length=c:=by rw[wo];omega
 have l2:(new.take c).length=c:=by rw[wo];omega
 have g1:∀i,i<c->(tg old (λi=>new.getD i 0) c (c+(old.length - c)) k.2).getD i 0=old.getD i 0:=λi hi=>by rw[zi,nW (by omega),ce1 hi];rfl
 have b:=Rch.cols (n:=n) (row:=tg old (λi=>new.getD i 0) c (c+(old.length - c)) k.2) (b:=0) (h0:=false) (old:=old.take c) (new:=new.take c) (λi hi=>by rw[jA (by omega),g1 i (by omega)]) (λi hi=>jA (by omega)) (by rw[zQz9];omega) c (by omega);obtain⟨k2,hk2,e2⟩:=oP (sv gd0 n (old:=old.take c) (new:=new.take c) (by omega) (wA _) (by omega)).2.two;have e3:=e2;unfold gZ at e3;rw[b6,l1]at e3;obtain⟨r2,c2,e4,_⟩:=(b.at e3) (R.set n (tg old (λi=>new.getD i 0) c (c+(old.length - c)) k.2)) r1 c1 (by rw[pQ];exact hn) (nr hn) (λz=>by cases z);have kf:k2.2=false:=by
  rcases zL.1 hk2 with z|z;·rw[z]
  ·rw[wP.1 z]
 refine⟨r2,c2,?_⟩;show rn _ ((fX n old new c).2++(lw n old new c).2)=_;rw[fY];have e1':rn (some (old.length,R,n,c)) (fX n old new c).2=_:=e1;rw[e1'];rw[zQz9,kj,kf]at e4;rw[show(lw n old new c).2=(je ((List.range' 0 c).foldl (xH n (old.take c) (new.take c)) (m0 (false,false))) twoK).2 by unfold lw gZ;rw[Nat.sub_zero,l1],e4];have fin:new=tg (tg old (λi=>new.getD i 0) c (c+(old.length - c)) k.2) (λi=>new.getD i 0) 0 (0+c) false:=by
  refine zD (by rw[zQz9];exact hl) λi hi=>?_;rw[zQz9]at hi;rw[iu (show i<new.length by omega)];by_cases z:i<c;·rw[ce2 (wA _) (by omega)]
  ·rw[ce3 (wA _) (by omega),zi (l:=tg _ _ _ _ _),nW hi,ce2 (by omega) (by omega)];rfl
 rw[<- fin]
def HR(hl:new.length=old.length)(hw:old.length<=40)(hc:c<=old.length)(R:List (List Nat))(hn:n<R.length)(hr:R.getD n []=old):∃r' c',rn (some (old.length,R,n,c)) (rL n old new c).2=some (old.length,R.set n new,r',c'):=by
 rcases zL.1 (jF [eA n old new] (dW n old new c))with z|z;·unfold rL;rw[z];exact A7 hl hw hc R hn hr
 ·unfold rL;rw[List.mem_singleton.1 z];exact yo hl hw R n c hn hr
end
section
variable{s:St}{g:List (List Nat)}
theorem yf(h:GS s)(hg:GL s g):∀(k j:Nat)(R:List (List Nat))(r c:Nat),j+k<=s.2.1.length->R.length=s.2.1.length->(∀i,j<=i->i≠s.2.2.1->R.getD i []=s.2.1.getD i [])->
  ∃R' r' c',rn (some (s.1,R,r,c)) ((List.range' j k).flatMap (vR s g))=some (s.1,R',r',c')/\R'.length=s.2.1.length/\∀i,R'.getD i []=if j<=i/\i<j+k/\i≠s.2.2.1 then g.getD i []else R.getD i []
 | 0,j,R,r,c,_,hR,_=>⟨R,r,c,rfl,hR,λi=>by rw[if_neg (by omega)]⟩
 |k+1,j,R,r,c,hj,hR,hs=>by
  have step:∃R1 r1 c1,rn (some (s.1,R,r,c)) (vR s g j)=some (s.1,R1,r1,c1)/\R1.length=s.2.1.length/\∀i,R1.getD i []=if i=j/\i≠s.2.2.1 then g.getD i []else R.getD i []:=by
   unfold vR;by_cases z:j=s.2.2.1;·rw[if_pos z];exact⟨R,r,c,rfl,hR,λi=>by rw[if_neg (by omega)]⟩
   ·rw[if_neg z];have l1:=(bN h (show j<s.2.1.length by omega)).1;have l2:=(dk hg (show j<s.2.1.length by omega)).1;obtain⟨r1,c1,e⟩:=yo (new:=g.getD j []) (by omega) (by rw[l1];exact h.w2) R r c (by omega) (hs j (z9 _) z);rw[l1]at e;refine⟨_,r1,c1,e,by rw[pQ];exact hR,λi=>?_⟩;rw[fQ];by_cases y:i=j;·subst y;rw[if_pos ⟨rfl,by omega⟩,if_pos ⟨rfl,z⟩]
    ·rw[if_neg (by omega),if_neg (by omega)]
  obtain⟨R1,r1,c1,e1,l1,g1⟩:=step;obtain⟨R2,r2,c2,e2,l2,g2⟩:=yf h hg k (j+1) R1 r1 c1 (by omega) l1 (λi hi hn=>by rw[g1,if_neg (by omega)];exact hs i (by omega) hn);refine⟨R2,r2,c2,?_,l2,λi=>?_⟩;·rw[j6,ul,fY,e1];exact e2
  ·rw[g2,g1];by_cases z:j+1<=i/\i<j+1+k/\i≠s.2.2.1;·rw[if_pos z,if_pos (by omega)]
   ·rw[if_neg z];by_cases y:i=j/\i≠s.2.2.1;·rw[if_pos y,if_pos (by omega)]
    ·rw[if_neg y,if_neg (by omega)]
def BU(h:GS s)(hg:GL s g):∃r c,rn (some s) (cK s g)=some (s.1,g,r,c):=by
 have l1:=(bN h h.r).1;have l2:=(dk hg h.r).1;obtain⟨r1,c1,e1⟩:=HR (new:=g.getD s.2.2.1 []) (by omega) (by rw[l1];exact h.w2) (by rw[l1];exact h.c) s.2.1 h.r rfl;rw[l1]at e1;obtain⟨R2,r2,c2,e2,l3,g2⟩:=yf h hg s.2.1.length 0 (s.2.1.set s.2.2.1 (g.getD s.2.2.1 [])) r1 c1 (by omega) (by rw[pQ]) (λi _ hn=>by rw[fQ,if_neg (by omega)]);refine⟨r2,c2,?_⟩;unfold cK jV;have e1':=e1;rw[fY,e1',e2];have:R2=g:=by
  refine Y5 λi=>?_;by_cases hi:i<s.2.1.length
  ·have q:R2.getD i []=g.getD i []:=by
    rw[g2];by_cases z:i=s.2.2.1;·rw[if_neg (by omega),fQ,if_pos ⟨z,h.r⟩,z]
    ·rw[if_pos (by omega)]
   have hi2:i<g.length:=by rw[hg.n];exact hi
   rw[zi,zi,xn (by omega),xn hi2]at q;rw[xn (by omega),xn hi2];exact vC some q
  ·rw[p9 (by omega),p9 (by rw[hg.n];omega)]
 rw[this]
def Dk{s s1 s2:St}{l o j:Od}(h:GS s)(hj:gA l o=some j)(e1:bt s l=some s1)(e2:bt s1 o=some s2):bt s j=some s2:=by
 obtain⟨wd,rows,r,c⟩:=s;have h4:=h.r;have h5:=h.c;have h6:=h.l;dsimp only at h4 h5 h6;obtain⟨g1,_⟩:=h6 _ (iA h4);cases l <;> cases o <;> first|(simp[gA]at hj;done)|skip
 ·rename_i x y;simp only[gA]at hj;split at hj
  ·cases hj;by_cases hn:wd<c+x.length;·simp only[bt,hn]at e1;cases e1
   ·simp only[bt,hn]at e1;cases e1;by_cases hm:wd<c+x.length+y.length;·simp only[bt,hm]at e2;cases e2
    ·simp only[bt,hm]at e2;cases e2;simp only[bt,nr h4,w6];have t1:((rows.getD r []).take c).length=c:=by rw[wo];omega
     have t2:((rows.getD r []).take c++x).length=c+x.length:=by rw[w6,t1]
     have a1:((rows.getD r []).take c++x++(rows.getD r []).drop (c+x.length)).take (c+x.length)=(rows.getD r []).take c++x:=by rw[Yk (by omega),<- t2,cY]
     have a2:((rows.getD r []).take c++x++(rows.getD r []).drop (c+x.length)).drop (c+x.length+y.length)=(rows.getD r []).drop (c+(x.length+y.length)):=by
      rw[<- t2,List.drop_append,Y0 (by omega),p8,t2,List.drop_drop]
      congr 1;omega
     have hk2 : ¬ wd<c+(x.length+y.length):=by omega
     rw[a1,a2,if_neg hk2];simp[Nat.add_assoc]
  ·cases hj
 ·rename_i r1 c1 r2 c2;simp only[gA,nD]at hj;subst hj;by_cases hn:rows.length<=r1\/wd<c1;·simp only[bt,hn]at e1;cases e1
  ·simp only[bt,hn]at e1;cases e1;exact e2
 ·simp only[gA,nD]at hj;subst hj;simp only[bt,nD]at e1;subst e1;simp only[bt,nr h4,kj,nD]at e2;subst e2;have t1:((rows.getD r []).take c).length=c:=by rw[wo];omega
  have a1:((rows.getD r []).take c++List.replicate (wd - c) 32).take c=(rows.getD r []).take c:=by rw[Yk (by omega)];exact j3 (by omega)
  simp only[bt];rw[a1]
def CS{s s':St}{acc:List Od}{o:Od}(h:GS s)(hk:∀p∈acc,okO p=true)(e:rn (some s) (acc++[o])=some s'):rn (some s) (fM acc o)=some s':=by
 rcases CL acc with rfl|⟨a,l,rfl⟩;·exact e
 ·cases hj:gA l o with
  |none=>rw[lu hj];exact e
  |some j=>
   rw[jH hj];rw[fY,fY]at e;rw[fY];cases q:rn (some s) a with
   |none=>rw[q,fT,fT]at e;cases e
   |some s1=>
    rw[q]at e;have h1:=yI a h (λp hp=>hk p (my _ hp)) q;have e1:rn (some s1) [l]=bt s1 l:=rfl;rw[e1]at e;cases q2:bt s1 l with
    |none=>rw[q2,fT]at e;cases e
    |some s2=>rw[q2]at e;have e2:=e;exact Dk h1 hj q2 e2
theorem yk{s s':St}(h:GS s):∀(os acc:List Od),(∀p∈acc,okO p=true)->(∀p∈os,okO p=true)->rn (some s) (acc++os)=some s'->rn (some s) (os.foldl fM acc)=some s'
 | [],acc,_,_,e=>by rw[t8]at e;exact e
 |o::os,acc,h1,h2,e=>by
  refine yk h os (fM acc o) (sh h1 (h2 o (zx ..))) (λp hp=>h2 p (zF _ hp)) ?_;rw[show acc++o::os=acc++[o]++os by simp,fY]at e;rw[fY];cases q:rn (some s) (acc++[o])with
  |none=>rw[q,fT]at e;cases e
  |some s1=>rw[CS h h1 q,<- q];exact e
def sO(h:GS s)(hg:GL s g):∃r c,rn (some s) (shO (cK s g))=some (s.1,g,r,c):=by obtain⟨r,c,e⟩:=BU h hg;exact⟨r,c,yk h (cK s g) [] (λ_ h=>by cases h) (λo ho=>(hZ h hg o ho).1) e⟩
end
noncomputable def nG(aI aB:Addr)(aK aQ:Addr)(aq bb ba:Addr)(rs:List Addr):Ev->O:=(yh 1 (jU (ac (av (uw (zO rs aK)) (rvz 0)) (ac (av (uw (zO rs aB)) (rvz 0)) (ac (av (uw (zO rs aI)) (rvz 0)) nlz)))))
noncomputable def oH(aI aB:Addr)(aK aQ:Addr)(aq bb ba:Addr)(rs:List Addr):Ev->O:=(Iy 1 (bf (jU (ac (av (uw (zO rs aq)) (rvz 0)) (ac (av (uw (zO rs aQ)) (rvz 0)) nlz)))))
noncomputable def oz(aI aB:Addr)(aK aQ:Addr)(aq bb ba:Addr)(rs:List Addr):Ev->O:=(Iy 1 (bf (jU (ac (av (uw (zO rs ba)) (rvz 0)) (ac (av (uw (zO rs bb)) (rvz 0)) nlz)))))
noncomputable def nv(aI aB:Addr)(aK aQ:Addr)(aq bb ba:Addr)(rs:List Addr):Ev->O:=(oIf (jY (gB2 neF (jO "list" tD (rvz 1) (ac (λ_=>R.ok (D.bl true)) nlz)) (ciz 1)) (gBn (av iV (av (uw (CI rs)) (rvz 0))))) (ax (bS (csz [119,114,111,110,103])) oNx) oNx)
noncomputable def om(aI aB:Addr)(aK aQ:Addr)(aq bb ba:Addr)(rs:List Addr):Ev->O:=(bS (g2 ixD (bf (jU (ac (csz [110,111,32,110,117,109,98,101,114]) (ac (csz [110,111,32,111,114,100,101,114]) (ac (csz [110,111,32,114,111,111,109]) (ac (csz [110,111,32,115,99,114,101,101,110]) (ac (csz [110,111,32,116,97,98,108,101]) (ac (csz [110,111,32,116,97,115,107]) (ac (csz [110,111,32,116,101,120,116]) nlz))))))))) (jO "list" tM (rvz 1) (ac (λ_=>R.ok (D.bl true)) nlz))))
noncomputable def fZ(aI aB:Addr)(aK aQ:Addr)(aq bb ba:Addr)(rs:List Addr):Ev->O:=(ax (nG aI aB aK aQ aq bb ba rs) (ax (oH aI aB aK aQ aq bb ba rs) (ax (oz aI aB aK aQ aq bb ba rs) (zC 1 (ax (nv aI aB aK aQ aq bb ba rs) (ax (om aI aB aK aQ aq bb ba rs) oNx))))))
def eI:List Nat:=[110,111,32,115,99,114,101,101,110]
noncomputable def Bo(aI aB aK aQ aq bb ba:Addr)(rs:List Addr):List D->R D:=λds=>ar (fZ aI aB aK aQ aq bb ba rs (ao 2 ds))
def wG(nd:[aq,aB,aI,aK,aQ,ba,bb].Nodup):∀ds:List D,ds.length=1->Bo aI aB aK aQ aq bb ba rs ds=.no\/ar (fZ aI aB aK aQ aq bb ba rs (ao 2 ds))=Bo aI aB aK aQ aq bb ba rs ds:=λ_ _=>.inr rfl
def lq(nd:[aq,aB,aI,aK,aQ,ba,bb].Nodup)(h:aq∈rs):Bo aI aB aK aQ aq bb ba rs [.exc aq]=.ok (.str eI):=by
 simp only[l8,zL,kG,j0,not_or]at nd;obtain⟨⟨n01,n02,n03,n04,n05,n06⟩,⟨n12,n13,n14,n15,n16⟩,⟨n23,n24,n25,n26⟩,⟨n34,n35,n36⟩,⟨n45,n46⟩,n56,_⟩:=nd;have z3:3<=sizeLine:=by decide
 have z2:2<=sizeLine:=by decide
 have z5:3+2<=sizeLine:=by decide
 have z7:5+2<=sizeLine:=by decide
 have y:∀T,uw (zO rs T) (.exc aq)=.ok (.bl (aq==T)):=λT=>by simp only[uw,zO,h];rfl
 have y2:uw (CI rs) (.exc aq)=.ok (.bl true):=by simp only[uw,CI,h];rfl
 have q0:(aq==aq)=true:=by simp
 have q2:(aq==aB)=false:=by simp;exact n01
 have q3:(aq==aI)=false:=by simp;exact n02
 have q4:(aq==aK)=false:=by simp;exact n03
 have q5:(aq==aQ)=false:=by simp;exact n04
 have q6:(aq==ba)=false:=by simp;exact n05
 have q7:(aq==bb)=false:=by simp;exact n06
 show ar (ax _ _ [some (.val (.exc aq)),none])=_;unfold nG oH oz nv om
 walk_at "run"
 all_goals rfl
end Q
namespace Q20
open L2 Q
open PySem (sizeLine Addr)
section
variable{s:Q.St}{g:List (List Nat)}
def sC(h:GS s)(hg:GL s g):(∃r c,rn (some s) ((AS s.1 s.2.1 g).flatMap (CK g))=some (s.1,g,r,c))/\∀t∈AS s.1 s.2.1 g,t.1<g.length/\1<=t.2.2/\t.2.1+t.2.2<=s.1:=by
 have pl:∀p∈prL s.2.1 g,p.1.length=s.1/\p.2.length=s.1:=λp hp=>by have:=Z6 (show(p.1,p.2)∈s.2.1.zip g from hp);exact⟨(h.l _ this.1).1,(hg.l _ this.2).1⟩
 have pn:(prL s.2.1 g).length=s.2.1.length:=by unfold prL;rw[List.length_zipWith,hg.n,Nat.min_self]
 refine⟨?_,λt ht=>by
  have:=Ch s.1 _ 0 (λp hp=>(pl p hp).1) t ht;rw[hg.n];rw[pn]at this;omega⟩;have run:=Bw (prL s.2.1 g) 0 (r0:=s.2.2.1) (c0:=s.2.2.2) (by
   exact(List.map_fst_zip (k7 hg.n.symm)).symm) (by
   exact(ZX (k7 hg.n)).symm) pl;rw[List.take_zero,p8,show(prL s.2.1 g).map (·.2)=g from ZX (k7 hg.n)]at run;exact run
def wu(h:GS s)(hg:GL s g){t:Tr}(ht:t.1<g.length/\1<=t.2.2/\t.2.1+t.2.2<=s.1):(∀o∈CK g t,okO o=true)/\((CK g t).map bD).sum=2+t.2.2:=by
 obtain⟨l,p⟩:=dk hg (by rw[<- hg.n];exact ht.1);have l2:(((g.getD t.1 []).drop t.2.1).take t.2.2).length=t.2.2:=by rw[wo,n6,l];omega
 have:=h.m;have:=h.w2;have:=hg.n;refine⟨λo ho=>?_,by show 2+((((g.getD t.1 []).drop t.2.1).take t.2.2).length+0)=_;omega⟩;rcases zL.1 ho with rfl|ho;·simp only[okO,xf,wa];omega
 ·rw[wP.1 ho];simp only[okO,xf,wa];exact⟨jf p λc h=>Z1 (l4 h),by omega,by omega⟩
theorem ya:∀ts:List Tr,(∀t∈ts,((CK g t).map bD).sum=2+t.2.2/\1<=t.2.2)->((ts.flatMap (CK g)).map bD).sum<=3 * (ts.flatMap mH).length
 | [],_=>z9 _
 |t::ts,h=>by have i:=ya ts λt ht=>h t (zF _ ht);have e:=h t (zx ..);rw[ul,vp,sw,ul,w6,show(mH t).length=t.2.2 by unfold mH;rw[List.length_map,List.length_range']];omega
def yR(h:GS s)(hg:GL s g):cJ s g<=3 * (fV s.1 0 (prL s.2.1 g)).length:=by obtain⟨⟨r,c,e⟩,m⟩:=sC h hg;rw[<- jI];refine wt (jt h hg (λo ho=>?_) e rfl) (ya _ λt ht=>⟨(wu h hg (m t ht)).2,(m t ht).2.1⟩);obtain⟨t,ht,ho⟩:=Z0.1 ho;exact(wu h hg (m t ht)).1 o ho
def uP(h:GS s)(hg:GL s g):fV s.1 0 (prL s.2.1 g)=[] ↔ s.2.1=g:=by
 rw[<- jI];refine⟨λe=>?_,λe=>by rw[<- e,tf];rfl⟩;refine xD s.1 s.2.1 g 0 hg.n (λx hx=>(h.l x hx).1) (λx hx=>(hg.l x hx).1) ?_;have m:=(sC h hg).2;unfold AS at m;generalize spP s.1 0 (prL s.2.1 g)=ts at *;cases ts with
 |nil=>rfl
 |cons t ts=>have:=(m t (zx ..)).2.1;have e2:=vC List.length e;rw[ul,w6,show(mH t).length=t.2.2 by unfold mH;rw[List.length_map,List.length_range'],List.length_nil]at e2;omega
def rY:∀o:Od,okO o=true->1<=bD o
 |.say x,h=>by simp only[okO,xf,wa]at h;exact h.2.1
 |.go _ _,_=>by show 1<=2;decide
 |.wipe,_=>z9 _
def sW(h:GS s)(hg:GL s g):(shO (cK s g)=[] ↔ s.2.1=g)/\(cJ s g=0 ↔ s.2.1=g):=by
 have a:s.2.1=g->shO (cK s g)=[]:=λe=>by rw[<- e,oM h];rfl
 have b:cJ s g=0->shO (cK s g)=[]:=λe=>by
  have ok:=DB λo ho=>(hZ h hg o ho).1;unfold cJ at e;generalize shO (cK s g)=os at *;cases os with
  |nil=>rfl
  |cons o os=>have:=rY o (ok o (zx ..));rw[xk,rR]at e;omega
 have c:shO (cK s g)=[]->s.2.1=g:=λe=>by obtain⟨r,c,e2⟩:=sO h hg;rw[e]at e2;injection e2 with e2;exact vC (·.2.1) e2
 exact⟨⟨c,a⟩,λe=>c (b e),λe=>by unfold cJ;rw[a e];rfl⟩
def De(h:GS s)(hg:GL s g)(e:fV s.1 0 (prL s.2.1 g)=[s.2.2]):cJ s g=1:=by
 obtain⟨⟨r,c,run⟩,m⟩:=sC h hg;have z:cJ s g≠0:=λz=>by rw[(uP h hg).2 ((sW h hg).2.1 z)]at e;cases e
 rw[<- jI]at e;change (AS s.1 s.2.1 g).flatMap mH=_ at e;generalize AS s.1 s.2.1 g=ts at *;have sl:∀t:Tr,(mH t).length=t.2.2:=λt=>by unfold mH;rw[List.length_map,List.length_range']
 match ts,e,m,run with
 | [],e,_,_=>cases e
 | [t],e,m,run=>
  have m:=m t (zx ..);rw[ul,List.flatMap_nil,t8]at e run;have l:=vC List.length e;rw[sl]at l;have l:t.2.2=1:=l;have e1:s.2.2=(t.1,t.2.1):=by unfold mH at e;rw[l]at e;injection e with e _;exact e.symm
  obtain⟨ok,cs⟩:=wu h hg m;have st:bt s (.go t.1 t.2.1)=some s:=by have h1:=h.r;obtain⟨w,rows,p⟩:=s;subst e1;exact if_neg (by dsimp only at *;omega)
  have run2:rn (some s) [.say (((g.getD t.1 []).drop t.2.1).take t.2.2)]=some (s.1,g,r,c):=by rw[<- run];unfold CK;rw[gE (o:=.go t.1 t.2.1),show((some s).bind λs=>bt s (.go t.1 t.2.1))=some s from st]
  have:=jt h hg (λo ho=>ok o (zF _ ho)) run2 rfl;have cs:2+(([Od.say (((g.getD t.1 []).drop t.2.1).take t.2.2)]).map bD).sum=2+t.2.2:=cs;omega
 |t::u::ts,e,m,_=>have l:=vC List.length e;rw[ul,ul,w6,w6,sl,sl]at l;have l:t.2.2+(u.2.2+(ts.flatMap mH).length)=1:=l;have:=(m t (zx ..)).2.1;have:=(m u (zF _ (zx ..))).2.1;omega
end
section
variable{g:List (List Nat)}{wd n:Nat}
noncomputable def IE(g:List (List Nat))(ks:List Nat)(rows:List (List Nat)):List (List Nat):=ks.foldl (λa k=>a.set k (g.getD k [])) rows
theorem sL:∀(ks:List Nat)(rows:List (List Nat)),(IE g ks rows).length=rows.length
 | [],_=>rfl
 |k::ks,rows=>(sL ks _).trans (pQ ..)
theorem yt:∀(ks:List Nat)(rows:List (List Nat))(i:Nat),i<rows.length->(IE g ks rows).getD i []=if i∈ks then g.getD i []else rows.getD i []
 | [],_,_,_=>rfl
 |k::ks,rows,i,h=>by
  refine(yt ks _ i (by rw[pQ];exact h)).trans ?_;by_cases h1:i∈ks;·rw[if_pos h1,if_pos (zF _ h1)]
  ·rw[if_neg h1];by_cases h2:i=k;·subst h2;rw[if_pos (zx ..),zi,vE h];rfl
   ·rw[if_neg (λz=>(zL.1 z).elim h2 h1),zi,uA (uo h2),<- zi]
theorem xT{f:Nat->List Od}(hl:∀k,k<n->(g.getD k []).length=wd)(H:∀k,k<n->∀(rows:List (List Nat))(r c:Nat),rows.length=n->(∀i,(rows.getD i []).length<=wd)->∃r' c',rn (some (wd,rows,r,c)) (f k)=some (wd,rows.set k (g.getD k []),r',c')):
  ∀(ks:List Nat),(∀k∈ks,k<n)->∀(rows:List (List Nat))(r c:Nat),rows.length=n->(∀i,(rows.getD i []).length<=wd)->∃r' c',rn (some (wd,rows,r,c)) (ks.flatMap f)=some (wd,IE g ks rows,r',c')
 | [],_,rows,r,c,_,_=>⟨r,c,rfl⟩
 |k::ks,hk,rows,r,c,h1,h2=>by
  have kn:=hk k (zx ..);obtain⟨r1,c1,e1⟩:=H k kn rows r c h1 h2;obtain⟨r2,c2,e2⟩:=xT hl H ks (λi hi=>hk i (zF _ hi)) (rows.set k (g.getD k [])) r1 c1 (by rw[pQ];exact h1) (λi=>by
   by_cases h:i=k;·subst h;rw[zi,vE (by omega)];exact k7 (hl i kn)
   ·rw[zi,uA (uo h),<- zi];exact h2 i);exact⟨r2,c2,by rw[ul,fY,e1];exact e2⟩
noncomputable def unl(rows g:List (List Nat)):List Nat:=(List.range rows.length).filter λk=>!(rows.getD k []==g.getD k [])
def uh{s:Q.St}{f:Nat->List Od}{q:Nat->Nat}(h:GS s)(hg:GL s g)(H:∀k,k<s.2.1.length->∀(rows:List (List Nat))(r c:Nat),rows.length=s.2.1.length->(∀i,(rows.getD i []).length<=s.1)->∃r' c',rn (some (s.1,rows,r,c)) (f k)=some (s.1,rows.set k (g.getD k []),r',c'))(ok:∀k,k<s.2.1.length->(∀o∈f k,okO o=true)/\((f k).map bD).sum<=q k):cJ s g<=((unl s.2.1 g).map q).sum:=by
 have uk:∀k∈unl s.2.1 g,k<s.2.1.length:=λk hk=>pO.1 (ZB.1 hk).1;obtain⟨r,c,e⟩:=xT (λk hk=>(dk hg hk).1) H (unl s.2.1 g) uk s.2.1 s.2.2.1 s.2.2.2 rfl (λi=>by
  by_cases hi:i<s.2.1.length;·exact k7 (bN h hi).1
  ·rw[zi,p9 (by omega)];exact wA _);have eg:IE g (unl s.2.1 g) s.2.1=g:=by
  refine List.ext_getElem (by rw[sL,hg.n]) λi h1 h2=>?_;have hi:i<s.2.1.length:=by rw[sL]at h1;exact h1
  have e:=yt (g:=g) (unl s.2.1 g) s.2.1 i hi;have a:(IE g (unl s.2.1 g) s.2.1).getD i []=g.getD i []:=by
   rw[e];split;·rfl
   ·rename_i hn;by_cases z:s.2.1.getD i []=g.getD i [];·exact z
    ·exact absurd (ZB.2 ⟨pO.2 hi,by simp only[Bool.not_eq_true',r6];exact z⟩) hn
  rw[zi,xn h1,zi,xn h2]at a;exact a
 rw[eg]at e;refine wt (jt h hg (λo ho=>?_) e rfl) ?_;·obtain⟨k,hk,ho⟩:=Z0.1 ho;exact(ok k (uk k hk)).1 o ho
 ·clear e eg;generalize unl s.2.1 g=ks at *;induction ks with
  |nil=>exact z9 _
  |cons k ks ih=>have:=ih λi hi=>uk i (zF _ hi);have:=(ok k (uk k (zx ..))).2;rw[ul,vp,sw,xk,rR];omega
def FG{s:Q.St}{os:List Od}{x:List Nat}{rows:List (List Nat)}{r c:Nat}(hk:k<rows.length):rn (some (wd,rows,r,c)) (.go k 0::os)=rn (some (wd,rows,k,0)) os:=by rw[gE,show((some (wd,rows,r,c)).bind λs=>bt s (.go k 0))=some (wd,rows,k,0) from if_neg (by omega)]
def Oo(h:k<12):okO (.go k 0)=true:=by simp only[okO,xf,wa];omega
def IX{x:List Nat}(h:plain x=true)(h1:1<=x.length)(h2:x.length<=40):okO (.say x)=true:=by simp only[okO,xf,wa];exact⟨h,h1,h2⟩
def Ao{s:Q.St}(h:GS s)(hg:GL s g):cJ s g<=((unl s.2.1 g).map λ_=>2+s.1).sum:=by
 have hm:=h.m;refine uh (f:=λk=>[.go k 0,.say (g.getD k [])]) h hg (λk hk rows r c h1 h2=>?_) (λk hk=>⟨λo ho=>?_,?_⟩);·have l:=(dk hg hk).1;refine⟨k,s.1,?_⟩;rw[FG (s:=s) (x:=[]) (by omega)];refine(if_neg (by omega)).trans ?_;rw[List.take_zero,p8,List.drop_eq_nil_of_le (by have:=h2 k;omega),t8,l,i9]
 ·have l:=dk hg hk;rcases zL.1 ho with rfl|ho;·exact Oo (by omega)
  ·rw[wP.1 ho];exact IX l.2 (by have:=h.w1;omega) (by have:=h.w2;omega)
 ·show 2+((g.getD k []).length+0)<=_;rw[(dk hg hk).1];exact z9 _
def zA{s:Q.St}(h:GS s)(hg:GL s g):cJ s g<=((unl s.2.1 g).map λk=>3+(bu (g.getD k []) [32]).length).sum:=by
 have hm:=h.m;refine uh (f:=λk=>.go k 0::.wipe::if bu (g.getD k []) [32]=[]then []else [.say (bu (g.getD k []) [32])]) h hg (λk hk rows r c h1 h2=>?_) (λk hk=>⟨λo ho=>?_,?_⟩)
 ·have l:=(dk hg hk).1;have sp:=kE (g.getD k []);rw[FG (s:=s) (x:=[]) (by omega),gE];show ∃r' c',rn (some (s.1,rows.set k (List.replicate s.1 32),k,0)) _=_;generalize bu (g.getD k []) [32]=x at *;split;·rename_i hx;rw[hx,p8,pw,l]at sp;exact⟨k,0,by rw[sp];rfl⟩
  ·have xl:x.length<=s.1:=by have:=vC List.length sp;rw[w6]at this;omega
   refine⟨k,x.length,?_⟩;refine(if_neg (by omega)).trans ?_;rw[List.take_zero,p8,zi,vE (by omega),kj,Y2,i9,List.drop_replicate,<- l,<- sp]
 ·have l:=dk hg hk;rcases zL.1 ho with rfl|ho;·exact Oo (by omega)
  rcases zL.1 ho with rfl|ho;·rfl
  ·split at ho;·cases ho
   ·rename_i hx;have sp:=kE (g.getD k []);have:=vC List.length sp;rw[w6]at this;rw[wP.1 ho];refine IX (jf l.2 λc hc=>by rw[sp];exact my _ hc) ?_ (by have:=h.w2;omega);cases hh:bu (g.getD k []) [32]with
    |nil=>exact absurd hh hx
    |cons a b=>exact Nat.succ_le_succ (wA _)
 ·split;·exact Nat.le_add_right 3 _
  ·show 2+(1+((bu (g.getD k []) [32]).length+0))<=_;omega
end
def oF:Ev->O:=(cN 3 (λ_=>R.ok D.non))
def oW:Ev->O:=(cN 4 (λ_=>R.ok D.non))
noncomputable def nC(eO aS:List D->R D)(rs:List Addr):Ev->O:=(Ak (ax (cN 4 (gIf (gB2 eqF (rvz 0) (ciz 0)) (aA 2 eO (ac (rvz 1) (ac (rvz 2) nlz))) (aA 2 aS (ac (rvz 1) (ac (rvz 2) nlz))))) oNx) (ax (cN 3 (rvz 5)) oNx) (CI rs) 5)
noncomputable def nT:Ev->O:=(oIf (gB2 isF (rvz 3) (λ_=>R.ok D.non)) (ax (bS (rvz 4)) oNx) oNx)
def oG(dv:List D->R D):Ev->O:=(bS (aA 1 dv (ac (rvz 3) nlz)))
noncomputable def fw(eO aS dv:List D->R D)(rs:List Addr):Ev->O:=(ax (oF) (ax (oW) (ax (nC eO aS rs) (ax (nT) (ax (oG dv) oNx)))))
noncomputable def Ba(aj:List D->R D):Ev->O:=(Ix (vt [1,2]) (av mkT (ac (g2 bv (ciz 1) (aA 3 aj (ac (rvz 0) (ac (ciz 0) (ac (ciz 9) nlz))))) (ac (g2 bv (ciz 1) (aA 3 aj (ac (rvz 0) (ac (ciz 1) (ac (ciz 3) nlz))))) nlz))))
noncomputable def KN(cE:List D->R D):Ev->O:=(cN 3 (aA 4 cE (ac (rvz 0) (ac (ciz 10) (ac (rvz 1) (ac (rvz 2) nlz))))))
noncomputable def JO(dA:List D->R D):Ev->O:=(cN 4 (aA 3 dA (ac (rvz 0) (ac (ciz 600) (ac (rvz 3) nlz)))))
noncomputable def Au(bW:List D->R D):Ev->O:=(Md 5 6 (ac (aA 3 bW (ac (ciz 0) (ac (rvz 3) (ac (rvz 4) nlz)))) (ac (aA 3 bW (ac (ciz 1) (ac (rvz 3) (ac (rvz 4) nlz)))) nlz)))
noncomputable def LS(bB:List D->R D):Ev->O:=(cN 7 (aA 2 bB (ac (rvz 3) (ac (rvz 5) nlz))))
noncomputable def Jb(dJ:List D->R D):Ev->O:=(cN 8 (aA 2 dJ (ac (rvz 3) (ac (rvz 4) nlz))))
noncomputable def J2(bj:List D->R D):Ev->O:=(cN 9 (aA 2 bj (ac (rvz 3) (ac (rvz 4) nlz))))
noncomputable def B0(dw:List D->R D):Ev->O:=(oIf (jY (gB2 neF (g2 ixD (rvz 7) (ciz 1)) (rvz 8)) (jY (gB2 neF (rvz 6) (aA 1 dw (ac (rvz 5) nlz))) (jY (gB2 neF (g2 eqF (rvz 6) (ciz 0)) (g2 eqF (rvz 9) (bf (jU nlz)))) (gB2 neF (g2 eqF (rvz 5) (bf (jU nlz))) (g2 eqF (rvz 9) (bf (jU nlz))))))) (ax (bS (λ_=>R.ok (D.bl false))) oNx) oNx)
noncomputable def BQ:Ev->O:=(yh 10 (dS (av bC (ac (rvz 2) nlz)) [3,8] (gB2 neF (g2 ixD (g2 ixD (rvz 1) (ciz 1)) (rvz 0)) (g2 ixD (rvz 2) (rvz 0))) (rvz 0)))
noncomputable def xt:Ev->O:=(cN 11 (gOf zN (ac (bf (dS (av bz (rvz 10)) [1] (λ_=>R.ok true) (g2 bv (ciz 2) (rvz 1)))) nlz)))
noncomputable def vn:Ev->O:=(cN 12 (gOf zN (ac (bf (dS (av bz (rvz 10)) [8] (λ_=>R.ok true) (g2 bv (ciz 3) (gOf de (ac (jO "str" eP (g2 ixD (rvz 1) (rvz 0)) (ac (csz [32]) nlz)) nlz))))) nlz)))
noncomputable def wO(aS:List D->R D):Ev->O:=(oIf (jY (gB2 gtD (rvz 6) (g2 fq (ciz 3) (gOf de (ac (rvz 9) nlz)))) (jY (gB2 gtD (rvz 6) (rvz 11)) (jY (gB2 gtD (rvz 6) (rvz 12)) (gB2 neF (aA 2 aS (ac (rvz 7) (ac (rvz 4) nlz))) (ciz 0))))) (ax (bS (λ_=>R.ok (D.bl false))) oNx) oNx)
noncomputable def vT:Ev->O:=(oIf (vG (gB2 eqF (gOf de (ac (rvz 9) nlz)) (ciz 1)) (vG (gB2 eqF (g2 ixD (rvz 3) (ciz 2)) (g2 ixD (rvz 9) (ciz 0))) (gB2 neF (rvz 6) (ciz 1)))) (ax (bS (λ_=>R.ok (D.bl false))) oNx) oNx)
def F0:Ev->O:=(yh 13 (jU nlz))
noncomputable def vK(aj bB:List D->R D):Ev->O:=(ax (cN 15 (aA 3 aj (ac (rvz 0) (ac (g2 bv (ciz 1001) (rvz 14)) (ac (ciz 4) nlz))))) (ax (cN 16 (av mkT (ac (csz [103,111]) (ac (aA 3 aj (ac (rvz 0) (ac (g2 bv (ciz 1010) (rvz 14)) (ac (rvz 2) nlz)))) (ac (aA 3 aj (ac (rvz 0) (ac (g2 bv (ciz 1020) (rvz 14)) (ac (g2 bv (rvz 1) (ciz 1)) nlz)))) nlz))))) (ax (cN 16 (g2 ixD (bf (jU (ac (av mkT (ac (csz [115,97,121]) (ac (gSl (csz [97,98]) (λ_=>R.ok none) (fm (g2 bv (ciz 1) (g2 yF (rvz 14) (ciz 2))))) nlz))) (ac (av mkT (ac (csz [119,105,112,101]) nlz)) (ac (rvz 16) (ac (rvz 16) nlz)))))) (rvz 15))) (ax (wQ 13 17 (aA 2 bB (ac (rvz 3) (ac (rvz 13) nlz)))) (ax (oIf (jY (gB2 neF (g2 ixD (rvz 16) (ciz 0)) (csz [115,97,121])) (gB2 leD (g2 bv (g2 ixD (g2 ixD (rvz 17) (ciz 2)) (ciz 1)) (gOf de (ac (g2 ixD (rvz 16) (ciz 1)) nlz))) (rvz 1))) (ax (Fk 13 (rvz 16)) oNx) oNx) oNx)))))
noncomputable def BP(aj bB:List D->R D):Ev->O:=(pN (jz 14) (av bC (ac (g2 bv (ciz 1) (aA 3 aj (ac (rvz 0) (ac (ciz 1000) (ac (ciz 6) nlz))))) nlz)) (vK aj bB))
noncomputable def Hd(bB:List D->R D):Ev->O:=(cN 17 (aA 2 bB (ac (rvz 3) (ac (rvz 13) nlz))))
noncomputable def vF(aS kH ie:List D->R D):Ev->O:=(oIf (jY (gB2 gtD (aA 2 aS (ac (rvz 3) (ac (aA 1 kH (ac (rvz 17) nlz)) nlz))) (aA 1 ie (ac (rvz 13) nlz))) (gB2 gtD (rvz 6) (g2 bv (aA 1 ie (ac (rvz 13) nlz)) (aA 2 aS (ac (rvz 17) (ac (rvz 4) nlz)))))) (ax (bS (λ_=>R.ok (D.bl false))) oNx) oNx)
noncomputable def Hb(bp:List D->R D):Ev->O:=(cN 18 (aA 3 bp (ac (rvz 0) (ac (ciz 1100) (ac (rvz 3) nlz)))))
noncomputable def wg(bW bJ:List D->R D):Ev->O:=(oIf (vG (gBn (av iV (aA 1 bJ (ac (rvz 18) nlz)))) (gB2 neF (bf (dS (av bC (ac (ciz 2) nlz)) [4,18] (λ_=>R.ok true) (aA 3 bW (ac (rvz 0) (ac (rvz 2) (ac (rvz 1) nlz)))))) (g2 fq (bf (jU (ac (csz [110,111,32,115,99,114,101,101,110]) nlz))) (ciz 2)))) (ax (bS (λ_=>R.ok (D.bl false))) oNx) oNx)
noncomputable def wz(bW:List D->R D):Ev->O:=(bS (g2 eqF (bf (dS (av bC (ac (ciz 2) nlz)) [1,3] (λ_=>R.ok true) (aA 3 bW (ac (rvz 0) (ac (rvz 2) (ac (bf (jU (ac (g2 fq (csz [32]) (g2 bv (rvz 1) (ciz 1))) nlz))) nlz)))))) (g2 fq (bf (jU (ac (csz [110,111,32,115,99,114,101,101,110]) nlz))) (ciz 2))))
noncomputable def xb(aj cE:List D->R D)(dA bW:List D->R D)(bB dJ:List D->R D)(bj dw:List D->R D)(aS kH:List D->R D)(ie bp bJ:List D->R D):Ev->O:=(ax (Ba aj) (ax (KN cE) (ax (JO dA) (ax (Au bW) (ax (LS bB) (ax (Jb dJ) (ax (J2 bj) (ax (B0 dw) (ax (BQ) (zC 10 (ax (xt) (ax (vn) (ax (wO aS) (ax (vT) (ax (F0) (ax (BP aj bB) (zC 13 (ax (Hd bB) (ax (vF aS kH ie) (ax (Hb bp) (ax (wg bW bJ) (ax (wz bW) oNx))))))))))))))))))))))
section
variable{F1 F2 W:List D->R D}{k t x:D}
def K5{gb gs:Ev->O}{f:Addr->Option Bool}{ρ':Ev}(h:gb ρ=.nx ρ'):Ak gb gs f i ρ=.nx ρ':=by unfold Ak;rw[h]
def IQ{gb gs:Ev->O}{f:Addr->Option Bool}{ρ' ρ'':Ev}(h:gb ρ=.ex C ρ')(hf:f C=some true)(hs:gs (ρ'.set i (some (.val (.exc C))))=.nx ρ''):Ak gb gs f i ρ=.nx (ρ''.set i none):=by unfold Ak;rw[h];dsimp only;rw[hf];dsimp only;rw[hs]
noncomputable def dX(F1 F2:List D->R D):Ev->R D:=(gIf (gB2 eqF (rvz 0) (ciz 0)) (aA 2 F1 (ac (rvz 1) (ac (rvz 2) nlz))) (aA 2 F2 (ac (rvz 1) (ac (rvz 2) nlz))))
def Fi(h:dX F1 F2 [vD k,vD d,vD t,vD .non,vD .non,none]=.ok x):ar (fw F1 F2 W rs (ao 6 [k,d,t]))=.ok x:=by
 have i1:isF .non .non=some (.bl true):=rfl;have t3:nC F1 F2 rs [vD k,vD d,vD t,vD .non,vD .non,none]=.nx [vD k,vD d,vD t,vD .non,vD x,none]:=K5 (by rw[ng,zw];unfold dX at h;rw[h];rfl);show ar (ax _ _ [vD k,vD d,vD t,none,none,none])=_;unfold oF oW nT oG
 walk_at "run"
def EY(h:dX F1 F2 [vD k,vD d,vD t,vD .non,vD .non,none]=.ex C)(hC:C∈rs)(hw:W [.exc C]=.ok x):ar (fw F1 F2 W rs (ao 6 [k,d,t]))=.ok x:=by
 have i2:isF (.exc C) .non=some (.bl false):=rfl;have t3:nC F1 F2 rs [vD k,vD d,vD t,vD .non,vD .non,none]=.nx [vD k,vD d,vD t,vD (.exc C),vD .non,none]:=by exact IQ (ρ'':=[vD k,vD d,vD t,vD (.exc C),vD .non,vD (.exc C)]) (by rw[ng,zw];unfold dX at h;rw[h];rfl) (if_pos hC) rfl
 show ar (ax _ _ [vD k,vD d,vD t,none,none,none])=_;unfold oF oW nT oG
 walk_at "run"
def dX0{r:R D}{a b c:Option Sl}(h:F1 [d,t]=r):dX F1 F2 [vD (.int 0),vD d,vD t,a,b,c]=r:=by unfold dX;walk_at "run"
def dX1{r:R D}{a b c:Option Sl}(h:F2 [d,t]=r):dX F1 F2 [vD (.int 1),vD d,vD t,a,b,c]=r:=by unfold dX;walk_at "run"
end
section
variable{Cs Co:Addr}{t:D}{s:Q.St}
def JM(h1:jN d=true)(h2:screen d=false):kX Cs [d]=.ex Cs:=by show(if jN d=true then (if screen d=true then R.ok D.non else .ex Cs)else .no)=_;rw[if_pos h1,h2];rfl
def Kw(h1:jN d=true)(h2:screen d=false):crG Cs [d,t]=.ex Cs:=by
 have e1:arG Cs [d,t]=.ex Cs:=by
  have c1:=JM (Cs:=Cs) h1 h2;show ar (ax _ _ [vD d,vD t])=_
  walk_at "run"
 show ar (ax _ _ [vD d,vD t])=_
 walk_at "run"
def HU(h:GS s){f:Bool}:crG Cs [sD s,.lst f [.str (List.replicate (s.1+1) 32)]]=.ex Cs:=by
 have e1:arG Cs [sD s,.lst f [.str (List.replicate (s.1+1) 32)]]=.ok (.bl false):=by
  have c1:=kQ (C:=Cs) h.screen;have x0:ixD (sD s) (.int 0)=some (.int (s.1:Int)):=rfl;have x1:ixD (sD s) (.int 1)=some (.tup (s.2.1.map .str)):=rfl;have i1:ir [.str (List.replicate (s.1+1) 32)]=.ok (.bl true):=by rw[pE (by have:=h.w2;rw[rE];omega),qg _ 32 (by decide)]
  have d1:decide (((List.replicate (s.1+1) 32).length:Int)<=(s.1:Int))=false:=by rw[rE,j5];omega
  have cm:=kh (ge:=me (aA 1 ir (ac (rvz 0) nlz)) (g2 leD (gOf de (ac (rvz 0) nlz)) (g2 ixD (rvz 1) (ciz 0)))) D.str (λ_=>.bl false) [vD (sD s)] [List.replicate (s.1+1) 32] none (λx hx=>by
   rw[wP.1 hx]
   walk_at "run");have z:(1<=sizeLine)=True:=nE (by decide);have al:CB [.lst false [.bl false]]=some (.bl false):=rfl;have q1:decide (((s.2.1.map D.str).length:Int)<((1:Nat):Int))=false:=by have:=h.r;rw[zy,j5];omega
  change dI _ _ [_] _=.ok [_]at cm;have y1:gj (λx=>x=="list") (.lst f [.str (List.replicate (s.1+1) 32)])=.ok (.bl true):=rfl;have l1:=L7 f [D.str (List.replicate (s.1+1) 32)];have n1:∀(d:D)(v:Option Sl),fU [0] [vD d,v]=[none,vD d]:=λ_ _=>rfl;show ar (ax _ _ [vD (sD s),vD (.lst f [.str (List.replicate (s.1+1) 32)])])=_
  walk_at "run"
 show ar (ax _ _ [vD (sD s),vD (.lst f [.str (List.replicate (s.1+1) 32)])])=_
 walk_at "run"
def Iz(h:crG Cs [d,t]=.ex Cs):leF Cs Co [d,t]=.ex Cs:=by
 show ar (ax _ _ [vD d,vD t,none,none,none,none,none])=_
 walk_at "run"
def N4(h:crG Cs [d,t]=.ex Cs):mh Cs Co [d,t]=.ex Cs:=by
 have e:=Iz (Co:=Co) h;show ar (ax _ _ [vD d,vD t])=_
 walk_at "run"
end
def lcL:List D->R D:=λds=>ar (jh (ao 3 ds))
theorem xG{f:Bool}{x0:Option Sl}:∀(os:List Od)(n:Nat)(x2:Option Sl),∃y2,cO (jz 2) kz (os.map oD) [x0,vI n,x2]=.nx [x0,vI (n+(os.map bD).sum),y2]
 | [],n,x2=>⟨x2,rfl⟩
 |o::os,n,x2=>by
  obtain⟨y2,e⟩:=xG (f:=f) os (n+bD o) (vD (oD o));refine⟨y2,(eU rfl ?_).trans (e.trans ?_)⟩;·cases o <;> rfl
  ·rw[xk,rR,Nat.add_assoc]
def JP{f:Bool}(os:List Od):lcL [.lst f (os.map oD)]=.ok (.int ((os.map bD).sum:Nat)):=by obtain⟨y2,e⟩:=xG (f:=f) os 0 none;rw[i9]at e;show ar ((cO (jz 2) kz (os.map oD) [vD (.lst f (os.map oD)),vI (0:Nat),none]).seq _)=_;rw[e];rfl
theorem ER{α:Type}{gt:Ev->R Bool}{ge:Ev->R D}(f g:α->D)(p:α->Bool)(tl:Ev):∀(xs:List α)(a:Option Sl),(∀x∈xs,gt (vD (f x)::tl)=.ok (p x)/\ge (vD (f x)::tl)=.ok (g x))->dI gt ge (xs.map f) (a::tl)=.ok ((xs.filter p).map g)
 | [],_,_=>rfl
 |x::xs,a,h=>by have ih:=ER f g p tl xs (vD (f x)) λy hy=>h y (zF _ hy);have h1:=h x (zx ..);unfold dI at ih⊢;show(jC (gt (vD (f x)::tl))>>=λb=>if b then (jC (ge (vD (f x)::tl))>>=λz=>hW (jz 0) gt ge (xs.map f) (vD (f x)::tl)>>=λzs=>R.ok (z::zs))else hW (jz 0) gt ge (xs.map f) (vD (f x)::tl))=_;rw[h1.1,h1.2,ih,List.filter_cons];cases p x <;> rfl
def IK{α:Type}(q:α->Nat)(os:List α):zN [.lst false (os.map λo=>D.int (q o:Int))]=some (.int ((os.map q).sum:Nat)):=by
 have key:ox (os.map λo=>D.int (q o:Int))=some (os.map λo=>(q o:Int)):=by
  induction os with
  |nil=>rfl
  |cons o l ih=>rw[xk,ox,ih];rfl
 have key2:(os.map λo=>(q o:Int)).sum=((os.map q).sum:Nat):=by
  clear key;induction os with
  |nil=>rfl
  |cons o l ih=>rw[xk,rR,ih,xk,rR,Y4]
 simp only[zN,key,key2]
section
variable{s:Q.St}{g:List (List Nat)}
def Gc(rows g:List (List Nat)):(unl rows g).length<=rows.length:=by refine wt (Zw ..) ?_;rw[Y3];exact z9 _
def iD(k:Nat):D:=.int (k:Int)
def c9(h:GS s)(hg:GL s g):dI (gB2 neF (g2 ixD (g2 ixD (rvz 1) (ciz 1)) (rvz 0)) (g2 ixD (rvz 2) (rvz 0))) (rvz 0) ((List.range s.2.1.length).map iD) [none,vD (sD s),vD (.tup (g.map .str))]=.ok ((unl s.2.1 g).map iD):=by
 refine ER iD iD (λk=>!(s.2.1.getD k []==g.getD k [])) [vD (sD s),vD (.tup (g.map .str))] (List.range s.2.1.length) none λk hk=>⟨?_,rfl⟩
 have hk:=pO.1 hk;have x1:ixD (sD s) (.int 1)=some (.tup (s.2.1.map .str)):=rfl;have x2:ixD (.tup (s.2.1.map .str)) (iD k)=some (.str (s.2.1.getD k [])):=CH (by rw[v8,xn hk,zi,xn hk];rfl);have hk2:k<g.length:=by rw[hg.n];exact hk
 have x3:ixD (.tup (g.map .str)) (iD k)=some (.str (g.getD k [])):=CH (by rw[v8,xn hk2,zi,xn hk2];rfl)
 walk_at "run"
def c10{w:Nat}(ks:List Nat):dI (λ_=>R.ok true) (g2 bv (ciz 2) (rvz 1)) (ks.map iD) [none,vI w]=.ok (ks.map λ_=>D.int ((2+w:Nat):Int)):=
 kh iD (λ_=>D.int ((2+w:Nat):Int)) [vI w] ks none λ_ _=>rfl
def c11(hg:GL s g)(ks:List Nat)(hk:∀k∈ks,k<s.2.1.length):dI (λ_=>R.ok true) (g2 bv (ciz 3) (gOf de (ac (jO "str" eP (g2 ixD (rvz 1) (rvz 0)) (ac (csz [32]) nlz)) nlz))) (ks.map iD) [none,vD (.tup (g.map .str))]=.ok (ks.map λk=>D.int ((3+(bu (g.getD k []) [32]).length:Nat):Int)):=by
 refine kh iD (λk=>D.int ((3+(bu (g.getD k []) [32]).length:Nat):Int)) [vD (.tup (g.map .str))] ks none λk h=>?_;have hk2:k<g.length:=by rw[hg.n];exact hk k h
 have x3:ixD (.tup (g.map .str)) (iD k)=some (.str (g.getD k [])):=CH (by rw[v8,xn hk2,zi,xn hk2];rfl);have kd:∀x,kY "str" (.str x)=true:=λ_=>rfl;have e:eP (.str (g.getD k [])) [.str [32]]=some (.str (bu (g.getD k []) [32])):=rfl;have n:(3:Int)+((bu (g.getD k []) [32]).length:Int)=((3+(bu (g.getD k []) [32]).length:Nat):Int):=by omega
 walk_at "run"
end
def pk{ns:List Int}{m:Nat}(h:0<m):∃n:Nat,cb [.lst fz (ns.map .int),.int (k:Int),.int (m:Int)]=.ok (.int (n:Int))/\n<m:=by have r:=br ns k (m:=(m:Int)) (by omega);exact⟨(bP ns k m).toNat,by rw[mY r.1];exact bV (by omega),by omega⟩
noncomputable def aOK(o:Od)(wd m:Nat):Prop:=okO o=true/\match o with
 |.say x=>x.length<=wd+2
 |.go i j=>i<m/\j<=wd
 |.wipe=>True
def PV(w c:Nat):Od->Bool
 |.say x=>decide (c+x.length<=w)
 |_=>true
noncomputable def nxt(w c:Nat)(os:List Od)(o:Od):List Od:=if PV w c o=true then os++[o]else os
theorem ma:∀(os:List Od){s s':Q.St},rn (some s) os=some s'->s'.1=s.1/\s'.2.1.length=s.2.1.length
 | [],s,s',e=>by cases e;exact⟨rfl,rfl⟩
 |o::os,(wd,rows,r,c),s',e=>by
  rw[gE]at e;cases o with
  |say x=>
   by_cases q:wd<c+x.length;·rw[show((some (wd,rows,r,c)).bind λs=>bt s (.say x))=none from if_pos q,fT]at e;cases e
   ·rw[show((some (wd,rows,r,c)).bind λs=>bt s (.say x))=_ from if_neg q]at e;have:=ma os e;rw[pQ]at this;exact this
  |go i j=>
   by_cases q:rows.length<=i\/wd<j;·rw[show((some (wd,rows,r,c)).bind λs=>bt s (.go i j))=none from if_pos q,fT]at e;cases e
   ·rw[show((some (wd,rows,r,c)).bind λs=>bt s (.go i j))=_ from if_neg q]at e;exact ma (s:=(wd,rows,i,j)) os e
  |wipe=>have:=ma os e;rw[pQ]at this;exact this
section
variable{ns:List Int}{w m:Nat}{x3 x4 x5 x6 x7 x8 x9 x10 x11 x12 x13 x17 x18:Option Sl}
noncomputable abbrev E20(fz:Bool)(ns:List Int)(w m:Nat)(x3 x4 x5 x6 x7 x8 x9 x10 x11 x12 x13 x14 x15 x16 x17 x18:Option Sl):Ev:=[vL fz ns,vI w,vI m,x3,x4,x5,x6,x7,x8,x9,x10,x11,x12,x13,x14,x15,x16,x17,x18]
noncomputable def Me(F:List D->R D):Ev->O:=(ax (wQ 13 17 (aA 2 F (ac (rvz 3) (ac (rvz 13) nlz)))) (ax (oIf (jY (gB2 neF (g2 ixD (rvz 16) (ciz 0)) (csz [115,97,121])) (gB2 leD (g2 bv (g2 ixD (g2 ixD (rvz 17) (ciz 2)) (ciz 1)) (gOf de (ac (g2 ixD (rvz 16) (ciz 1)) nlz))) (rvz 1))) (ax (Fk 13 (rvz 16)) oNx) oNx) oNx))
def IV(w1:1<=w)(w2:w<=9)(m1:1<=m)(m2:m<=3)(k:Nat)(x15 x16:Option Sl):∃(o:Od)(y:Option Sl),aOK o w m/\vK cb F (E20 fz ns w m x3 x4 x5 x6 x7 x8 x9 x10 x11 x12 x13 (vI k) x15 x16 x17 x18)=Me F (E20 fz ns w m x3 x4 x5 x6 x7 x8 x9 x10 x11 x12 x13 (vI k) y (vD (oD o)) x17 x18):=by
 obtain⟨v,ev,hv⟩:=pk (m:=4) (by decide);obtain⟨i,ei,hi⟩:=pk (m:=m) (by omega);obtain⟨j,ej,hj⟩:=pk (m:=w+1) (by omega);have ei':cb [.lst fz (ns.map .int),.int ((1010:Int)+(k:Int)),.int (m:Int)]=.ok (.int (i:Int)):=ei;have ej':cb [.lst fz (ns.map .int),.int ((1020:Int)+(k:Int)),.int ((w:Int)+1)]=.ok (.int (j:Int)):=ej;have xl:(jJ ([97,98]:List Nat) none (some ((1:Int)+(k:Int) % 2)))=([97,98]:List Nat).take (1+k % 2):=qa _ (1+k % 2);have al:aOK (.say (jJ ([97,98]:List Nat) none (some ((1:Int)+(k:Int) % 2)))) w m:=by
  rw[xl];rcases Nat.mod_two_eq_zero_or_one k with e|e <;> rw[e];·exact⟨rfl,Nat.le_add_left ..⟩
  ·exact⟨rfl,Nat.le_add_left ..⟩
 clear xl;generalize cx:jJ ([97,98]:List Nat) none (some ((1:Int)+(k:Int) % 2))=x at *;have md:yF (.int (k:Int)) (.int 2)=some (.int ((k:Int) % 2)):=rfl;have ks:mkT [.str [115,97,121],.str x]=.ok (oD (.say x)):=rfl;have kw:mkT [.str [119,105,112,101]]=.ok (oD .wipe):=rfl;have kg:mkT [.str [103,111],.int (i:Int),.int (j:Int)]=.ok (oD (.go i j)):=rfl;have ag:aOK (.go i j) w m:=⟨by simp only[okO,xf,wa];omega,hi,by omega⟩
 have aw:aOK .wipe w m:=⟨rfl,trivial⟩
 have z4:(4<=sizeLine)=True:=nE (by decide)
 suffices H:∃(V:Int)(o:Od),(v:Int)=V/\aOK o w m/\ixD (.lst false [oD (.say x),oD .wipe,oD (.go i j),oD (.go i j)]) (.int V)=some (oD o) by
  obtain⟨V,o,hV,ho,hx⟩:=H;refine⟨o,vD (.int V),ho,?_⟩;have ev':cb [.lst fz (ns.map .int),.int ((1001:Int)+(k:Int)),.int 4]=.ok (.int V):=by rw[<- hV];exact ev
  show ax _ (ax _ (ax _ (Me F))) _=_;generalize oD (.go i j)=o3 at *;have r15:rdV [vL fz ns,vI w,vI m,x3,x4,x5,x6,x7,x8,x9,x10,x11,x12,x13,vI k,some (.val (.int V)),some (.val o3),x17,x18] 15=.ok (.int V):=rfl;have r16:rdV [vL fz ns,vI w,vI m,x3,x4,x5,x6,x7,x8,x9,x10,x11,x12,x13,vI k,some (.val (.int V)),some (.val o3),x17,x18] 16=.ok o3:=rfl
  walk_at "run"
 match v,hv with
 | 0,_=>exact⟨0,_,rfl,al,rfl⟩
 | 1,_=>exact⟨1,_,rfl,aw,rfl⟩
 | 2,_=>exact⟨2,_,rfl,ag,rfl⟩
 | 3,_=>exact⟨3,_,rfl,ag,rfl⟩
def NU(s:Q.St):fl 10 (sD s)=true:=by
 have:(s.2.1.map D.str).all (fl 8)=true:=xp.2 λd hd=>by obtain⟨x,_,rfl⟩:=wU.1 hd;rfl
 show(true && ((s.2.1.map D.str).all (fl 8) && _))=true;rw[this];rfl
def GC{S:D}{H:Q.St}{os:List Od}{o:Od}{x14 x15:Option Sl}(hl:os.length<=100)(e:∀f,F [S,.lst f (os.map oD)]=.ok (sD H))(ho:aOK o w m):
  Me F (E20 fz ns w m (vD S) x4 x5 x6 x7 x8 x9 x10 x11 x12 (some (.own (os.map oD))) x14 x15 (vD (oD o)) x17 x18)=.nx (E20 fz ns w m (vD S) x4 x5 x6 x7 x8 x9 x10 x11 x12 (some (.own ((nxt w H.2.2.2 os o).map oD))) x14 x15 (vD (oD o)) (vD (sD H)) x18):=by
 have st1:∀K:Ev->O,ax (wQ 13 17 (aA 2 F (ac (rvz 3) (ac (rvz 13) nlz)))) K (E20 fz ns w m (vD S) x4 x5 x6 x7 x8 x9 x10 x11 x12 (some (.own (os.map oD))) x14 x15 (vD (oD o)) x17 x18)=K (E20 fz ns w m (vD S) x4 x5 x6 x7 x8 x9 x10 x11 x12 (some (.own (os.map oD))) x14 x15 (vD (oD o)) (vD (sD H)) x18):=λK=>by refine cy ?_;show(jC (aA 2 F _ _)).out _ _=_;rw[iJ (n:=2) rfl rfl,e];exact if_pos (NU H)
 unfold Me;rw[st1];have ap:∀{x14 x15 x17 x18:Option Sl},ax (Fk 13 (rvz 16)) oNx (E20 fz ns w m (vD S) x4 x5 x6 x7 x8 x9 x10 x11 x12 (some (.own (os.map oD))) x14 x15 (vD (oD o)) x17 x18)=.nx (E20 fz ns w m (vD S) x4 x5 x6 x7 x8 x9 x10 x11 x12 (some (.own ((os++[o]).map oD))) x14 x15 (vD (oD o)) x17 x18):=by refine(cy ?_).trans rfl;rw[vp];exact if_pos (by rw[zy];exact Nat.lt_of_le_of_lt hl (by decide))
 refine cy ?_;cases o with
 |say x=>
  have q:gB2 leD (g2 bv (g2 ixD (g2 ixD (rvz 17) (ciz 2)) (ciz 1)) (gOf de (ac (g2 ixD (rvz 16) (ciz 1)) nlz))) (rvz 1) (E20 fz ns w m (vD S) x4 x5 x6 x7 x8 x9 x10 x11 x12 (some (.own (os.map oD))) x14 x15 (vD (oD (.say x))) (vD (sD H)) x18)=.ok (decide (H.2.2.2+x.length<=w)):=by
   show R.ok (decide ((H.2.2.2:Int)+(x.length:Int)<=(w:Int)))=_
   congr 1
   exact decide_eq_decide.2 (by omega)
  unfold oIf;rw[Lx rfl,q];cases hb:decide (H.2.2.2+x.length<=w);·rw[show nxt w H.2.2.2 os (.say x)=os from if_neg (λz=>by cases hb.symm.trans z)];rfl
  ·rw[show nxt w H.2.2.2 os (.say x)=os++[.say x] from if_pos hb];exact ap
 |go i j=>exact ap
 |wipe=>exact ap
variable{Cs Co Cr:Addr}{s:Q.St}
theorem E1(h:GS s)(hw:s.1=w)(hm:s.2.1.length=m)(w2:w<=9)(m2:m<=3):∀(ks:List Nat)(os:List Od)(x14 x15 x16 x17:Option Sl),os.length+ks.length<=100->(∀o∈os,okO o=true)->(∃s',rn (some s) os=some s')->∃(os':List Od)(y14 y15 y16 y17:Option Sl),os'.length<=100/\(∀o∈os',okO o=true)/\(∃s',rn (some s) os'=some s')/\
  cO (jz 14) (vK cb (adG Cs Co Cr)) (ks.map iD) (E20 fz ns w m (vD (sD s)) x4 x5 x6 x7 x8 x9 x10 x11 x12 (some (.own (os.map oD))) x14 x15 x16 x17 x18)=.nx (E20 fz ns w m (vD (sD s)) x4 x5 x6 x7 x8 x9 x10 x11 x12 (some (.own (os'.map oD))) y14 y15 y16 y17 x18)
 | [],os,x14,x15,x16,x17,hl,h1,h2=>⟨os,x14,x15,x16,x17,hl,h1,h2,rfl⟩
 |k::ks,os,x14,x15,x16,x17,hl,h1,⟨s',h2⟩=>by
  rw[vz]at hl;have hw1:=h.w1;have hr:=h.r;obtain⟨o,y,ho,e⟩:=IV (by omega) w2 (by omega) m2 k x15 x16;rw[GC (by omega) (λf=>NI h h1 h2) ho]at e;have sz:=ma os h2;have run:∃s'',rn (some s) (nxt w s'.2.2.2 os o)=some s'':=by
   unfold nxt;split
   ·rename_i c;rw[xJ,h2];obtain⟨a,b,r0,c0⟩:=s';have sz2:b.length=s.2.1.length:=sz.2;cases o with
    |say x=>exact⟨_,if_neg (by have:=bY c;dsimp only at this;omega)⟩
    |go i j=>exact⟨_,if_neg (by have:=ho.2;dsimp only at this;omega)⟩
    |wipe=>exact⟨_,rfl⟩
   ·exact⟨s',h2⟩
  have ln:(nxt w s'.2.2.2 os o).length+ks.length<=100:=by
   unfold nxt;split;·rw[w6];show os.length+1+_<=_;omega
   ·omega
  have ok:∀p∈(nxt w s'.2.2.2 os o),okO p=true:=by
   unfold nxt;split
   ·intro p hp;rcases uF.1 hp with hp|hp;·exact h1 p hp
    ·rw[wP.1 hp];exact ho.1
   ·exact h1
  generalize nxt w s'.2.2.2 os o=ps at *;obtain⟨os',y14,y15,y16,y17,a1,a2,a3,a4⟩:=E1 h hw hm w2 m2 ks ps (vI k) y (vD (oD o)) (vD (sD s')) ln ok run;exact⟨os',y14,y15,y16,y17,a1,a2,a3,(eU rfl e).trans a4⟩
end
section
variable{ns:List Int}{w m:Nat}{x3 x4 x5 x6 x7 x8 x9 x10 x11 x12 x13 x14 x15 x16 x17 x18:Option Sl}
def Mv{En G O1 SP:D}{t:Nat}(i1:ixD En (.int 1)=some G)(c:cl 10 G=true)(f:F [O1]=.ok (.int t))(u1:eqF (.int (t:Int)) (.int 0)=some (.bl b))(u2:eqF SP (.lst false [])=some (.bl b))(u3:eqF O1 (.lst false [])=some (.bl b)):
  B0 F (E20 fz ns w m x3 x4 (vD O1) (vI t) (vD En) (vD G) (vD SP) x10 x11 x12 x13 x14 x15 x16 x17 x18)=.nx (E20 fz ns w m x3 x4 (vD O1) (vI t) (vD En) (vD G) (vD SP) x10 x11 x12 x13 x14 x15 x16 x17 x18):=by
 have n1:=sI c;have n2:neF (.int (t:Int)) (.int (t:Int))=some (.bl false):=sI rfl;have n3:neF (.bl b) (.bl b)=some (.bl false):=sI rfl;have z0:(0<=sizeLine)=True:=nE (wA _);unfold B0
 walk_at "run"
def AU{a b:Nat}(h:a<=b):gtD (.int (a:Int)) (.int (b:Int))=some (.bl false):=by show some (D.bl (decide ((b:Int)<(a:Int))))=_;rw[v6 (by omega)]
def K2{En X:D}{sp:List D}{f:Bool}{t a b:Nat}(h1:t<=3 * sp.length)(h2:t<=a)(h3:t<=b)(e:F [En,X]=.ok (.int 0)):
  wO F (E20 fz ns w m x3 (vD X) x5 (vI t) (vD En) x8 (vD (.lst f sp)) x10 (vI a) (vI b) x13 x14 x15 x16 x17 x18)=.nx (E20 fz ns w m x3 (vD X) x5 (vI t) (vD En) x8 (vD (.lst f sp)) x10 (vI a) (vI b) x13 x14 x15 x16 x17 x18):=by
 have g1:=AU h1;have g2:=AU h2;have g3:=AU h3;have q2:fq (.int 3) (.int (sp.length:Int))=some (.int ((3 * sp.length:Nat):Int)):=by rw[ZR];rfl
 unfold wO
 walk_at "run"
def JY{S p:D}{sp:List D}{f:Bool}{t:Nat}(hp:ixD S (.int 2)=some p)(h:∀q,sp=[q]->∃b,eqF p q=some (.bl b)/\(b=true->t=1)):
  vT (E20 fz ns w m (vD S) x4 x5 (vI t) x7 x8 (vD (.lst f sp)) x10 x11 x12 x13 x14 x15 x16 x17 x18)=.nx (E20 fz ns w m (vD S) x4 x5 (vI t) x7 x8 (vD (.lst f sp)) x10 x11 x12 x13 x14 x15 x16 x17 x18):=by
 unfold vT;have q1:de [.lst f sp]=some (.int (sp.length:Int)):=rfl
 match sp,h with
 | [q],h=>
  obtain⟨b,hb,ht⟩:=h q rfl;have i0:ixD (.lst f [q]) (.int 0)=some q:=rfl;have q2:de [.lst f [q]]=some (.int 1):=rfl;cases b with
  |false=>
   clear ht h q1
   walk_at "run"
  |true=>
   rw[ht rfl];have n1:neF (.int ((1:Nat):Int)) (.int 1)=some (.bl false):=rfl;clear ht h q1
   walk_at "run"
 | [],_=>
  have q2:de [.lst f []]=some (.int 0):=rfl;clear h q1
  walk_at "run"
 |a::b::l,_=>
  have q3:(((l.length+1+1:Nat):Int)==1)=false:=by rw[r6];omega
  walk_at "run"
def LP{Fl Fs Fc:List D->R D}{S H X Z SO:D}{t a b c:Nat}(e1:Fs [H]=.ok Z)(e2:Fl [S,Z]=.ok (.int a))(e3:Fc [SO]=.ok (.int c))(e4:Fl [H,X]=.ok (.int b))(h1:a<=c)(h2:t<=c+b):
  vF Fl Fs Fc (E20 fz ns w m (vD S) (vD X) x5 (vI t) x7 x8 x9 x10 x11 x12 (vD SO) x14 x15 x16 (vD H) x18)=.nx (E20 fz ns w m (vD S) (vD X) x5 (vI t) x7 x8 x9 x10 x11 x12 (vD SO) x14 x15 x16 (vD H) x18):=by
 have g1:=AU h1;have g2:=AU h2;have q:bv (.int (c:Int)) (.int (b:Int))=some (.int ((c+b:Nat):Int)):=by rw[Y4];rfl
 have r17:rdV (E20 fz ns w m (vD S) (vD X) x5 (vI t) x7 x8 x9 x10 x11 x12 (vD SO) x14 x15 x16 (vD H) x18) 17=.ok H:=rfl;unfold vF
 walk_at "run"
def LM{t:D}(h0:F [.int 0,d,t]=.ok (.str eI))(h1:F [.int 1,d,t]=.ok (.str eI)):dI (λ_=>R.ok true) (aA 3 F (ac (rvz 0) (ac (rvz 2) (ac (rvz 1) nlz)))) ((List.range 2).map iD) [none,vD t,vD d]=.ok [.str eI,.str eI]:=
 kh iD (λ_=>D.str eI) [vD t,vD d] [0,1] none λk hk=>by
  rcases zL.1 hk with rfl|hk;·exact(iJ rfl rfl).trans h0
  ·rw[wP.1 hk];exact(iJ rfl rfl).trans h1
def Jg{X B:D}(hf:jN B=true)(h:screen B=false->F [.int 0,B,X]=.ok (.str eI)/\F [.int 1,B,X]=.ok (.str eI)):
  wg F fL (E20 fz ns w m x3 (vD X) x5 x6 x7 x8 x9 x10 x11 x12 x13 x14 x15 x16 x17 (vD B))=.nx (E20 fz ns w m x3 (vD X) x5 x6 x7 x8 x9 x10 x11 x12 x13 x14 x15 x16 x17 (vD B)):=by
 have r18:∀x4,rdV (E20 fz ns w m x3 x4 x5 x6 x7 x8 x9 x10 x11 x12 x13 x14 x15 x16 x17 (vD B)) 18=.ok B:=λ_=>rfl;have e1:fL [B]=.ok (.bl (screen B)):=if_pos hf;unfold wg;cases hb:screen B with
 |true=>walk_at "run"
 |false=>
  obtain⟨h0,h1⟩:=h hb;have cm:=LM h0 h1;have r2:bC [.int 2]=.ok ((List.range 2).map iD):=rfl;have i1:fU [4,18] (E20 fz ns w m x3 (vD X) x5 x6 x7 x8 x9 x10 x11 x12 x13 x14 x15 x16 x17 (vD B))=[none,vD X,vD B]:=rfl;have m2:fq (.lst false [.str [110,111,32,115,99,114,101,101,110]]) (.int 2)=some (.lst false [.str eI,.str eI]):=rfl;have n2:neF (.lst false [.str eI,.str eI]) (.lst false [.str eI,.str eI])=some (.bl false):=sI rfl;have z2:(2<=sizeLine)=True:=nE (by decide);have z1:(1<=sizeLine)=True:=nE (by decide)
  walk_at "run"
def IT{S:D}(w2:w<=9)(h:∀k:Nat,k<2->F [.int (k:Int),S,.lst false [.str (List.replicate (w+1) 32)]]=.ok (.str eI)):
  wz F (E20 fz ns w m (vD S) x4 x5 x6 x7 x8 x9 x10 x11 x12 x13 x14 x15 x16 x17 x18)=.rt (.bl true):=by
 have mu:fq (.str [32]) (.int ((w:Int)+1))=some (.str (List.replicate (w+1) 32)):=FT (n:=w+1) (by omega);have z1:(1<=sizeLine)=True:=nE (by decide);have z2:(2<=sizeLine)=True:=nE (by decide);have cm:dI (λ_=>R.ok true) (aA 3 F (ac (rvz 0) (ac (rvz 2) (ac (bf (jU (ac (g2 fq (csz [32]) (g2 bv (rvz 1) (ciz 1))) nlz))) nlz)))) ((List.range 2).map iD) [none,vI w,vD S]=.ok [.str eI,.str eI]:=
  kh iD (λ_=>D.str eI) [vI w,vD S] [0,1] none λk hk=>by
   have e:=h k (by rcases zL.1 hk with rfl|hk;decide;rw[wP.1 hk];decide);unfold iD
   walk_at "run"
 have r2:bC [.int 2]=.ok ((List.range 2).map iD):=rfl;have i1:fU [1,3] (E20 fz ns w m (vD S) x4 x5 x6 x7 x8 x9 x10 x11 x12 x13 x14 x15 x16 x17 x18)=[none,vI w,vD S]:=rfl;have m2:fq (.lst false [.str [110,111,32,115,99,114,101,101,110]]) (.int 2)=some (.lst false [.str eI,.str eI]):=rfl;have n2:eqF (.lst false [.str eI,.str eI]) (.lst false [.str eI,.str eI])=some (.bl true):=D0 rfl;unfold wz
 walk_at "run"
end
def Kh(ns:List Int)(a:Nat){w m:Nat}(w1:1<=w)(w2:w<=40)(m1:1<=m)(m2:m<=12):∃s:Q.St,GS s/\Ov ns a w m=sD s/\s.1=w/\s.2.1.length=m:=by
 have p1:=br ns (a+400) (m:=(m:Int)) (by omega);have p2:=br ns (a+401) (m:=(w:Int)+1) (by omega);refine⟨(w,(List.range m).map (λk=>ze ns (a+30 * k) w),(bP ns (a+400) m).toNat,(bP ns (a+401) (w+1)).toNat),⟨w1,w2,by simp;omega,by simp;omega,by show(bP ns (a+401) (w+1)).toNat<=w;omega,λx hx=>?_⟩,?_,rfl,by simp⟩;·obtain⟨k,_,rfl⟩:=wU.1 hx;exact⟨pG ns _ _,qp ns _ _⟩
 ·show D.tup _=D.tup _;have e1:((bP ns (a+400) m).toNat:Int)=bP ns (a+400) m:=by omega
  have e2:((bP ns (a+401) (w+1)).toNat:Int)=bP ns (a+401) (w+1):=by omega
  rw[e1,e2,o9];rfl
noncomputable def doL(Cs Co Cr Cn Ct Ck Cx:Addr):List D->R D:=λds=>ar (fw (leF Cs Co) (mh Cs Co) (Bo Cr Co Cn Ct Cs Cx Ck [Co,Cr,Cs]) [Co,Cr,Cs] (ao 6 ds))
def ip{n:Nat}(e:gl ρ=.ok ds)(l:ds.length=n)(h:F ds=.ok d):cN i (aA n F gl) ρ=.nx (ρ.set i (some (.val d))):=by unfold cN;rw[iJ e l,h];rfl
def KP{set:D->Ev->R Ev}{body:Ev->O}{l:List D}(h:gi ρ=.ok l):pN set gi body ρ=cO set body l ρ:=by unfold pN;rw[h];rfl
def FK(h1:gl ρ=.ok ds)(h2:bC ds=.ok items):av bC gl ρ=.ok items:=by rw[BV,h1];exact h2
def wE{gt:Ev->R Bool}(h1:gi ρ=.ok items)(h2:dI gt ge items (fU ix ρ)=.ok ds)(h3:ds.length<=sizeLine):dS gi ix gt ge ρ=.ok ds:=by rw[FD,h1,R.ok_bind,h2];exact if_pos h3
def LN{g k:Ev->O}(e:g ρ=.rt d):ax g k ρ=.rt d:=by show(g ρ).seq k=_;rw[e];rfl
def Jn(g:List (List Nat)):cl 10 (.tup (g.map .str))=true:=by show(g.map D.str).all (cl 9)=true;rw[xp];intro x hx;obtain⟨t,_,rfl⟩:=wU.1 hx;rfl
section
variable{Cs Co Cr Cn Ct Ck Cx:Addr}
def Ah(nd:[Cs,Co,Cr,Cn,Ct,Ck,Cx].Nodup):∀ds:List D,ds.length=3->doL Cs Co Cr Cn Ct Ck Cx ds=.no\/ar (fw (leF Cs Co) (mh Cs Co) (Bo Cr Co Cn Ct Cs Cx Ck [Co,Cr,Cs]) [Co,Cr,Cs] (ao 6 ds))=doL Cs Co Cr Cn Ct Ck Cx ds:=λ_ _=>.inr rfl
def Fh(nd:[Cs,Co,Cr,Cn,Ct,Ck,Cx].Nodup){t:D}(h:crG Cs [d,t]=.ex Cs):doL Cs Co Cr Cn Ct Ck Cx [.int 0,d,t]=.ok (.str eI)/\doL Cs Co Cr Cn Ct Ck Cx [.int 1,d,t]=.ok (.str eI):=
 have m:Cs∈[Co,Cr,Cs]:=by simp
 ⟨EY (dX0 (Iz h)) m (lq nd m),EY (dX1 (N4 h)) m (lq nd m)⟩
def eq0{n:Nat}(h:n=0 ↔ b=true):eqF (.int (n:Int)) (.int 0)=some (.bl b):=by show some (D.bl ((n:Int)==0))=_;rw[show((n:Int)==0)=b by rw[ZL,o8,<- h];omega]
def Fg{α:Type}{f:α->D}{l:List α}(h:l=[] ↔ b=true):eqF (.lst false (l.map f)) (.lst false [])=some (.bl b):=by
 cases l with
 |nil=>rw[h.1 rfl];rfl
 |cons a l=>
  cases b with
  |true=>cases h.2 rfl
  |false=>rfl
section
variable{ns:List Int}{w m:Nat}{s:Q.St}{g:List (List Nat)}{x3 x4 x5 x6 x7 x8 x9 x10 x11 x12 x13 x14 x15 x16 x17 x18:Option Sl}
def Nc(h:GS s)(hg:GL s g)(hm:s.2.1.length=m)(zl:(unl s.2.1 g).length<=sizeLine):BQ (E20 fz ns w m (vD (sD s)) x4 x5 x6 x7 (vD (.tup (g.map .str))) x9 x10 x11 x12 x13 x14 x15 x16 x17 x18)=.nx (E20 fz ns w m (vD (sD s)) x4 x5 x6 x7 (vD (.tup (g.map .str))) x9 (some (.own ((unl s.2.1 g).map iD))) x11 x12 x13 x14 x15 x16 x17 x18):=by
 have r1:bC [.int (m:Int)]=.ok ((List.range s.2.1.length).map iD):=by rw[hm];exact lr (by have:=h.m;omega)
 unfold BQ;rw[KA,wE (FK rfl r1) (c9 h hg) (by rw[zy];exact zl)];rfl
def Js(zl:ks.length<=sizeLine):xt (E20 fz ns w m x3 x4 x5 x6 x7 x8 x9 (vD (.lst false (ks.map iD))) x11 x12 x13 x14 x15 x16 x17 x18)=.nx (E20 fz ns w m x3 x4 x5 x6 x7 x8 x9 (vD (.lst false (ks.map iD))) (vI (ks.map λ_=>2+w).sum) x12 x13 x14 x15 x16 x17 x18):=by unfold xt;rw[zw,MV,ka,wy,wE rfl (c10 _) (by rw[zy];exact zl)];show R.out (ofO (zN [.lst false _])) _ _=_;rw[IK];rfl
def Jh(hg:GL s g)(hk:∀k∈ks,k<s.2.1.length)(zl:ks.length<=sizeLine):vn (E20 fz ns w m x3 x4 x5 x6 x7 (vD (.tup (g.map .str))) x9 (vD (.lst false (ks.map iD))) x11 x12 x13 x14 x15 x16 x17 x18)=.nx (E20 fz ns w m x3 x4 x5 x6 x7 (vD (.tup (g.map .str))) x9 (vD (.lst false (ks.map iD))) x11 (vI (ks.map λk=>3+(bu (g.getD k []) [32]).length).sum) x13 x14 x15 x16 x17 x18):=by unfold vn;rw[zw,MV,ka,wy,wE rfl (c11 hg _ hk) (by rw[zy];exact zl)];show R.out (ofO (zN [.lst false _])) _ _=_;rw[IK];rfl
end
def M0(nd:[Cs,Co,Cr,Cn,Ct,Ck,Cx].Nodup)(ns:List Int)(fz:Bool):ar (xb cb Ez L8 (doL Cs Co Cr Cn Ct Ck Cx) (adG Cs Co Cr) Nr (usG Cs) lcL (mh Cs Co) (NM Cs) (coG Co) gH fL (ao 19 [.lst fz (ns.map .int)]))=.ok (.bl true):=by
 obtain⟨w,ew,hw⟩:=pk (m:=9) (by decide);obtain⟨m,em,hm⟩:=pk (m:=3) (by decide);obtain⟨q,eq,hq⟩:=pk (m:=6) (by decide);obtain⟨s,h,e0,e1,e2⟩:=Kh ns 10 (w:=1+w) (m:=1+m) (by omega) (by omega) (by omega) (by omega);have a1:Ez [.lst fz (ns.map .int),.int 10,.int ((1+w:Nat):Int),.int ((1+m:Nat):Int)]=.ok (sD s):=by rw[<- e0];exact A6 (by omega) (by omega) (by omega)
 obtain⟨B,eB,gB⟩:=Bl (rows:=s.2.1.map .str) ns fz 1100 (by rw[zy];exact h.m) (λd hd=>by
  obtain⟨x,hx,rfl⟩:=wU.1 hd;exact⟨x,rfl,by rw[(h.l x hx).1];exact h.w2⟩);have fB:=zY gB;have hx:=Ig (ns:=ns) (a:=600) h;have a2:L8 [.lst fz (ns.map .int),.int 600,sD s]=_:=Jr h;generalize yS ns 600 s.1 (s.2.1.map .str)=xs at *;have hg:=sg hx;have hb:4 * s.1 * (s.2.1.length+1)<=900:=wt (Nat.mul_le_mul (Nat.mul_le_mul_left 4 (show s.1<=9 by omega)) (show s.2.1.length+1<=4 by omega)) (by decide);have a3:doL Cs Co Cr Cn Ct Ck Cx [.int 0,sD s,.lst false (xs.map .str)]=_:=Fi (dX0 (Jd h hx hb false));have a4:doL Cs Co Cr Cn Ct Ck Cx [.int 1,sD s,.lst false (xs.map .str)]=_:=Fi (dX1 (GB h hx hb false));have a5:=Lv h hx false;have a6:=Lf (C:=Cs) h hx false;have lcE:∀{s':Q.St}{os:List Od},(∀o∈os,okO o=true)->rn (some s) os=some s'->mh Cs Co [sD s',.lst false (xs.map .str)]=.ok (.int (cJ s' (ib s.2.1.length s.1 xs):Int)):=λ{s' os} ho e=>by
  have sz:=ma os e;have:=GB (Cs:=Cs) (C:=Co) (yI os h ho e) (by rw[sz.1,sz.2];exact hx) (by rw[sz.1,sz.2];exact hb) false;rw[sz.1,sz.2]at this;exact this
 generalize ib s.2.1.length s.1 xs=g at *;have o1:=DB λo ho=>(hZ h hg o ho).1;obtain⟨r1,c1,run1⟩:=sO h hg;have a7:=λf=>NI (Cs:=Cs) (Co:=Co) (Cr:=Cr) (f:=f) h o1 run1;have a8:=lcE o1 run1;rw[show cJ (s.1,g,r1,c1) g=0 from wS (yI _ h o1 run1)]at a8;have nl:=sW h hg;have sn:=uP h hg;have b1:=yR h hg;have b2:=Ao h hg;rw[e1]at b2;have b3:=zA h hg;have b4:∀q,(fV s.1 0 (prL s.2.1 g)).map spD=[q]->∃b,eqF (.tup [.int (s.2.2.1:Int),.int (s.2.2.2:Int)]) q=some (.bl b)/\(b=true->cJ s g=1):=λq e=>by
  have os:=De h hg;generalize fV s.1 0 (prL s.2.1 g)=sp at *
  match sp,e with
  | [p],e=>injection e with e _;subst e;refine⟨_,rfl,λz=>os ?_⟩;have z:((((s.2.2.1:Int)==(p.1:Int)) && (((s.2.2.2:Int)==(p.2:Int)) && true)) && (2==2))=true:=z;simp only[xf,o8]at z;rw[show s.2.2=p from Prod.ext (by omega) (by omega)]
 have zl:(unl s.2.1 g).length<=sizeLine:=wt (Gc s.2.1 g) (wt h.m (by decide));have u1:=eq0 (nl.2.trans (Y7).symm);have u2:=Fg (f:=spD) (sn.trans (Y7).symm);have u3:=Fg (f:=oD) (nl.1.trans (Y7).symm);have uk:∀k∈unl s.2.1 g,k<s.2.1.length:=λk hk=>pO.1 (ZB.1 hk).1;have lp:=λx17 x18 x9 x10 x11 x12=>E1 (fz:=fz) (ns:=ns) (x4:=vD (.lst false (xs.map .str))) (x5:=vD (.lst false ((shO (cK s g)).map oD))) (x6:=vI (cJ s g)) (x7:=vD (sD (s.1,g,r1,c1))) (x8:=vD (.tup (g.map .str))) (x9:=x9) (x10:=x10) (x11:=x11) (x12:=x12) (x18:=x18) (Cs:=Cs) (Co:=Co) (Cr:=Cr) h e1 e2 (by omega) (by omega) (List.range (1+q)) [] none none none x17 (by rw[Y3];show 0+_<=_;omega) (λ_ h=>by cases h) ⟨s,rfl⟩;obtain⟨os,y14,y15,y16,y17,lo,oo,⟨s',rs⟩,lp⟩:=lp none none (vD (.lst false ((fV s.1 0 (prL s.2.1 g)).map spD))) (vD (.lst false ((unl s.2.1 g).map iD))) (vI ((unl s.2.1 g).map λ_=>2+(1+w)).sum) (vI ((unl s.2.1 g).map λk=>3+(bu (g.getD k []) [32]).length).sum);have a9:=NI (Cs:=Cs) (Co:=Co) (Cr:=Cr) (f:=false) h oo rs;have g':=yI os h oo rs;have sz:=ma os rs;have d1:=J4 (C:=Cs) g';have hg':GL s s'.2.1:=⟨sz.2,λx hx=>by rw[<- sz.1];exact g'.l x hx⟩
 have d2:=GB (Cs:=Cs) (C:=Co) h (by rw[<- sz.1,<- sz.2];exact Ab g') hb false;rw[show ib s.2.1.length s.1 (shR s')=s'.2.1 by rw[<- sz.1,<- sz.2];exact zm g']at d2;have d3:=JA (C:=Co) (f:=false) oo (by omega);have d4:=lcE oo rs;have d5:=jt h hg' oo rs rfl;have d6:cJ s g<=(os.map bD).sum+cJ s' g:=by
  have hg2:GL s' g:=⟨by rw[sz.2];exact hg.n,λx hx=>by rw[sz.1];exact hg.l x hx⟩
  obtain⟨r3,c3,run3⟩:=sO g' hg2;have:=jt h hg (λo ho=>by
   rcases uF.1 ho with ho|ho;·exact oo o ho
   ·exact DB (λo ho=>(hZ g' hg2 o ho).1) o ho) (by rw[fY,rs];exact run3) rfl;rw[vp,sw]at this;exact this
 have f1:screen B=false->_:=λz=>Fh nd (Kw (t:=.lst false (xs.map .str)) fB z);have f2:=Fh nd (HU (f:=false) h);have z1:Ba cb (ao 19 [.lst fz (ns.map .int)])=.nx (E20 fz ns (1+w) (1+m) none none none none none none none none none none none none none none none none):=by have ew':cb [.lst fz (ns.map .int),.int 0,.int 9]=.ok (.int (w:Int)):=ew;have em':cb [.lst fz (ns.map .int),.int 1,.int 3]=.ok (.int (m:Int)):=em;unfold Ba Ix;unfold av;rw[ka,LW,iJ (n:=3) rfl rfl,ew',ka,LW,iJ (n:=3) rfl rfl,em'];rfl
 have z4:Au (doL Cs Co Cr Cn Ct Ck Cx) (E20 fz ns (1+w) (1+m) (vD (sD s)) (vD (.lst false (xs.map .str))) none none none none none none none none none none none none none none)=.nx (E20 fz ns (1+w) (1+m) (vD (sD s)) (vD (.lst false (xs.map .str))) (vD (.lst false ((shO (cK s g)).map oD))) (vI (cJ s g)) none none none none none none none none none none none none):=by unfold Au Md;rw[ka,iJ (n:=3) rfl rfl,a3,R.ok_bind,ka,iJ (n:=3) rfl rfl,a4];rfl
 have z16:BP cb (adG Cs Co Cr) (E20 fz ns (1+w) (1+m) (vD (sD s)) (vD (.lst false (xs.map .str))) (vD (.lst false ((shO (cK s g)).map oD))) (vI (cJ s g)) (vD (sD (s.1,g,r1,c1))) (vD (.tup (g.map .str))) (vD (.lst false ((fV s.1 0 (prL s.2.1 g)).map spD))) (vD (.lst false ((unl s.2.1 g).map iD))) (vI ((unl s.2.1 g).map λ_=>2+(1+w)).sum) (vI ((unl s.2.1 g).map λk=>3+(bu (g.getD k []) [32]).length).sum) (some (.own [])) none none none none none)=.nx (E20 fz ns (1+w) (1+m) (vD (sD s)) (vD (.lst false (xs.map .str))) (vD (.lst false ((shO (cK s g)).map oD))) (vI (cJ s g)) (vD (sD (s.1,g,r1,c1))) (vD (.tup (g.map .str))) (vD (.lst false ((fV s.1 0 (prL s.2.1 g)).map spD))) (vD (.lst false ((unl s.2.1 g).map iD))) (vI ((unl s.2.1 g).map λ_=>2+(1+w)).sum) (vI ((unl s.2.1 g).map λk=>3+(bu (g.getD k []) [32]).length).sum) (some (.own (os.map oD))) y14 y15 y16 y17 none):=by have eq':cb [.lst fz (ns.map .int),.int 1000,.int 6]=.ok (.int (q:Int)):=eq;have r1:bC [.int ((1+q:Nat):Int)]=.ok ((List.range (1+q)).map iD):=lr (by omega);refine(KP (FK ?_ r1)).trans lp;rw[ka,LW,iJ (n:=3) rfl rfl,eq'];rfl
 refine(vC ar (?_:_=O.rt (.bl true))).trans rfl;refine(cy z1).trans ?_;refine(cy (ip rfl rfl a1)).trans ?_;refine(cy (ip rfl rfl a2)).trans ?_;refine(cy z4).trans ?_;refine(cy (ip rfl rfl (a7 _))).trans ?_;refine(cy (ip rfl rfl a5)).trans ?_;refine(cy (ip rfl rfl a6)).trans ?_;refine(cy (Mv rfl (Jn g) (JP _) u1 u2 u3)).trans ?_;refine(cy (Nc h hg e2 zl)).trans ?_;refine(cy (Js zl)).trans ?_;refine(cy (Jh hg uk zl)).trans ?_;refine(cy (K2 (by rw[zy];exact b1) b2 b3 a8)).trans ?_;refine(cy (JY rfl b4)).trans ?_;refine(cy z16).trans ?_;refine(cy (ip rfl rfl a9)).trans ?_;refine(cy (LP d1 d2 d3 d4 d5 d6)).trans ?_;refine(cy (ip rfl rfl eB)).trans ?_;refine(cy (Jg fB f1)).trans ?_;refine LN (IT (by omega) ?_);intro k hk;rw[e1]at f2
 match k,hk with
 | 0,_=>exact f2.1
 | 1,_=>exact f2.2
end
end Q20
namespace Q
open PySem PySem.Spec PyProof.Rows L2
def pX(h:us.length=1):∃a,us=[a]:=by
 match us,h with
 | [a],_=>exact⟨a,rfl⟩
def xL(h:us.length=2):∃a b,us=[a,b]:=by
 match us,h with
 | [a,b],_=>exact⟨a,b,rfl⟩
def vg(h:us.length=3):∃a b c,us=[a,b,c]:=by
 match us,h with
 | [a,b,c],_=>exact⟨a,b,c,rfl⟩
def Ma(h:us.length=4):∃a b c d,us=[a,b,c,d]:=by
 match us,h with
 | [a,b,c,d],_=>exact⟨a,b,c,d,rfl⟩
def Qi(h:us.length=5):∃a b c d e,us=[a,b,c,d,e]:=by
 match us,h with
 | [a,b,c,d,e],_=>exact⟨a,b,c,d,e,rfl⟩
def Jk{K:PySem.W.Frag}{hp:Heap}{mg:Str->Option Value}{bm:List Value}{nid:String}(kin:K.In hp)(gl:hp.Ns mainGlobals mg)(e1:PySem.W.nsIn K mainGlobals x=some (some (.ref C)))(e2:PySem.W.excIn K C bm nid=true):OwnCls x C bm nid mg hp:=by
 constructor;·exact o4 kin gl e1
 ·unfold PySem.W.excIn at e2;split at e2
  ·rename_i dct kl sls look;split at e2
   ·rename_i C0 more s0 s1 s2 s3 nw s5 hmro hsls;simp only[xf,o8,Bool.not_eq_true']at e2;obtain⟨⟨⟨⟨⟨eC,en⟩,edel⟩,etail⟩,ens⟩,einit⟩:=e2;obtain⟨f1,f2,f3,f4,f5,f6,f7,f8,f9,f10,f11⟩:=kl;have es:sls = #[s0,s1,s2,s3,some (.builtin nw),s5]:=by obtain⟨ls⟩:=sls;simp only at hsls;rw[hsls]
    subst hmro edel es eC en;exact⟨more,f4,f1,f5,f2,f6,f7,f8,f9,f10,dct,s0,s1,s2,s3,s5,_,kin _ _ look,.of_isNs (PySem.W.isNs_of_in kin ens),PySem.W.nsMap_none_of_in kin ens einit,PySem.W.tail_of_in kin etail⟩
   ·cases e2
  ·cases e2
def Bk{K:PySem.W.Frag}{hp:Heap}{mg:Str->Option Value}(kin:K.In hp)(gl:hp.Ns mainGlobals mg)(e1:PySem.W.nsIn K mainGlobals x=some (some (.ref C)))(e2:PySem.W.excIn K C [.type "ValueError",.type "Exception",.type "BaseException",.type "object"] "ValueError.__new__"=true):Ref x C mg hp:=
 ⟨_,_,_,_,Jk kin gl e1 e2,PySem.F.excBase_ValueError⟩
theorem tz{K:PySem.W.Frag}{G:Hp}:∀ns:List Int,Reps K G (ns.map V.int) (ns.map D.int)
 | []=>.nil
 |i::ns=>.cons (.int i) (tz ns)
noncomputable def Fm:List D->R D
 | [.lst _ ds]=>match oN ds with
  |some _=>.ok (.bl true)
  |none=>.no
 |_=>.no
def J3(h:∀(ns:List Int)(fz:Bool),g [.lst fz (ns.map .int)]=.ok (.bl true)):∀ds:List D,ds.length=1->Fm ds=.no\/g ds=Fm ds:=by
 intro ds hl
 match ds,hl with
 | [d],_=>
  cases d <;> first|exact Or.inl rfl|skip
  rename_i fz ds hl;cases hi:oN ds with
  |none=>exact Or.inl (by simp only[Fm,hi])
  |some ns=>have e:=rT hi;subst e;refine Or.inr ?_;rw[h ns fz];simp only[Fm,hi]
def PR{l:PySem.W.OpenLaw}{q:Program}{XP:(Str->Option Value)->Heap->Prop}{YP:World->Heap->Prop}{d:DefRec}{K:Params->PySem.W.Frag}{L:Nat}(hL:Room L callerA)(hn:l.most=some 63)(hdf:d.params.defaults=[])(hY:∀(w:World)(h:Heap),YP w h->(K w.params).In h)(F:∀(w:World)(mg:Str->Option Value)(fa:Addr)(h:Heap),(K w.params).In h->h.Ns mainGlobals mg->mg d.name=some (.ref fa)->
 ∃fd:FuncData,(∀(s:Shared)(u:Value),BindsTo s fd ⟨[u],[]⟩ [("_law_script",u)])/\∀base:Heap,(K w.params).In base->base.Ns mainGlobals mg->FnF l.prog w (K w.params) mg base L fa fd ["_law_script"] Fm):
  PySem.W.WalkO q loose XP YP l.row.toRowW d [] (λf vs=>PySem.call f vs):=
 L2.AK hn (by decide) hdf hL hY F
  (λw H a ns hl hO hS=>⟨rfl,H,[.lst true (ns.map .int)],.refl _,.cons (.fls hS (tz ns)) .nil,by
   have e:Fm [.lst true (ns.map .int)]=.ok (.bl true):=by simp only[Fm,oZ]
   rw[e];exact λv G' H' u r=>r.bl_inv⟩)
  λw H s e s' z=>by obtain⟨a,C,H',_,_,z⟩:=z;exact z
def aU{K:PySem.W.Frag}{mg:Str->Option Value}{oc:Value}{an:Option Addr}{kV doc pm ct:Value}(X:K.In h)(G:h.Ns mainGlobals mg)(a:PySem.W.nsIn K mainGlobals x=some (some (.ref f)):=by k_is)(l:K.lookup f=some ⟨oc,od,.func (PySem.W.fnOf x x (kr st) (db st) (am st) .none kV doc pm an cdv ct),osl⟩:=by k_is)(c:PySem.W.codeIn K cdv x=true:=by k_is)(k:PySem.W.keepIn K (.ref f)=true:=by k_is):∃f fd,Fun K x x st f fd/\mg x=some (.ref f):=
 ⟨f,_,Jt l c k,o4 X G a⟩
section
variable{K:PySem.W.Frag}{T:Addr}
def Ee:PySem.W.kitOne K (.ref C) (.ref C)=some (C==C):=by unfold PySem.W.kitOne;rw[if_pos (by simp)];simp
def tj{t:Value}{cd:ClassData}(h1:PySem.W.clsIn K T=some cd)(h2:PySem.W.typeIn K (.ref T)=some (.type "type"))(h3:PySem.W.subIn K t (.ref T)=some b):PySem.W.kitCls K t (.ref T)=some b:=by unfold PySem.W.kitCls;dsimp only;rw[if_pos (by rw[h1,h2];simp),h3]
def LC{cd:ClassData}(h1:PySem.W.clsIn K T=some cd)(h2:PySem.W.typeIn K (.ref T)=some (.type "type"))(h3:PySem.W.subIn K (.ref C) (.ref T)=some false)(hne:C≠T):PySem.W.kitOne K (.ref C) (.ref T)=some (C==T):=by unfold PySem.W.kitOne;rw[if_neg (by simp[hne]),tj h1 h2 h3];simp[hne]
def IS(h3:PySem.W.subIn K (.ref C) (.type "ValueError")=some true):PySem.W.kitOne K (.ref C) (.type "ValueError")=some true:=by unfold PySem.W.kitOne PySem.W.kitCls;rw[if_neg (by simp)];dsimp only;rw[if_pos (by decide +kernel),h3]
def Jp{cd:ClassData}(h0:PySem.W.subIn K (.ref T) (.type "BaseException")=some true)(h1:PySem.W.clsIn K T=some cd)(h2:PySem.W.typeIn K (.ref T)=some (.type "type"))(h3:PySem.W.subIn K (.ref C) (.ref T)=some true):PySem.W.exmOne K (.ref C) (.ref T)=some true:=by unfold PySem.W.exmOne;rw[if_pos (by rw[h0];rfl),tj h1 h2 h3]
end
def zX{K:PySem.W.Frag}{cd:ClassData}(g1:PySem.W.findIn K (.ref C) "__getattribute__"=some (some (.builtin "BaseException.__getattribute__")))(g2:PySem.W.findIn K (.ref C) "__getattr__"=some none)(g3:PySem.W.findIn K (.ref C) "__class__"=some (some (.builtin "object.__class__")))(g4:PySem.W.specialIn K (.builtin "object.__class__") "__get__"=some (some (.builtin "getset_descriptor.__get__")))(g5:PySem.W.takesIn K (.builtin "object.__class__")=some true)(g6:PySem.W.mroIn K C (.type "object")=some true)(g7:PySem.W.subIn K (.ref C) (.type "BaseException")=some true)(g8:PySem.W.clsIn K C=some cd):ExcCls K C:=⟨g1,g2,g3,g4,g5,g6,g7,by rw[g8];rfl⟩
noncomputable def TsOk(K:PySem.W.Frag):List (Str×Addr)->Prop
 | []=>True
 |t::ts=>PySem.W.nsIn K mainGlobals t.1=some (some (.ref t.2))/\(∃q,PySem.W.clsIn K t.2=some q)/\PySem.W.typeIn K (.ref t.2)=some (.type "type")/\TsOk K ts
noncomputable def SubOk(K:PySem.W.Frag)(r:Addr):List (Str×Addr)->Prop
 | []=>True
 |t::ts=>(r=t.2\/PySem.W.subIn K (.ref r) (.ref t.2)=some false)/\SubOk K r ts
noncomputable def RsOk(K:PySem.W.Frag)(L:Addr)(ts:List (Str×Addr)):List Addr->Prop
 | []=>True
 |r::rs=>ExcCls K r/\SubOk K r ts/\PySem.W.subIn K (.ref r) (.type "ValueError")=some true/\PySem.W.subIn K (.ref r) (.ref L)=some true/\RsOk K L ts rs
section
variable{K:PySem.W.Frag}{L:Addr}
theorem TsOk.at:∀{ts:List (Str×Addr)},TsOk K ts->∀t∈ts,PySem.W.nsIn K mainGlobals t.1=some (some (.ref t.2))/\(∃q,PySem.W.clsIn K t.2=some q)/\PySem.W.typeIn K (.ref t.2)=some (.type "type")
 |_::_,⟨a,b,c,d⟩,t,h=>by
  rcases zL.1 h with rfl|h;·exact⟨a,b,c⟩
  ·exact TsOk.at d t h
theorem SubOk.at{r:Addr}:∀{ts:List (Str×Addr)},SubOk K r ts->∀t∈ts,r=t.2\/PySem.W.subIn K (.ref r) (.ref t.2)=some false
 |_::_,⟨a,d⟩,t,h=>by
  rcases zL.1 h with rfl|h;·exact a
  ·exact SubOk.at d t h
theorem RsOk.at:∀{rs:List Addr},RsOk K L ts rs->∀r∈rs,ExcCls K r/\SubOk K r ts/\PySem.W.subIn K (.ref r) (.type "ValueError")=some true/\PySem.W.subIn K (.ref r) (.ref L)=some true
 |_::_,⟨a,b,c,e,d⟩,t,h=>by
  rcases zL.1 h with rfl|h;·exact⟨a,b,c,e⟩
  ·exact RsOk.at d t h
def FZ{mg:Str->Option Value}{cd:ClassData}(X:K.In h)(G:h.Ns mainGlobals mg)(nL:PySem.W.nsIn K mainGlobals "LineError"=some (some (.ref L)))(h1:TsOk K ts)(h2:RsOk K L ts rs)(tL:PySem.W.clsIn K L=some cd)(yL:PySem.W.typeIn K (.ref L)=some (.type "type"))(lb:PySem.W.subIn K (.ref L) (.type "BaseException")=some true):Errs K mg rs ts:=by
 refine⟨λt ht=>o4 X G (h1.at t ht).1,λr hr=>(h2.at r hr).1,λr hr t ht=>?_,λr hr=>IS (h2.at r hr).2.2.1,⟨L,o4 X G nL,λr hr=>Jp lb tL yL (h2.at r hr).2.2.2⟩⟩;obtain⟨_,⟨q,c⟩,y⟩:=h1.at t ht;by_cases e:r=t.2;·rw[<- e];exact Ee
 ·rcases (h2.at r hr).2.1.at t ht with z|z;·exact absurd z e
  ·exact LC c y z e
end
section
variable{w:World}{K:PySem.W.Frag}{mg:Str->Option Value}{base:Heap}{n:Nat}{G:MF}
def Az{n:Nat}(F:Fun K x x st f fd)(hm:mg x=some (.ref f))(ok:FnM P w K mg base k f fd ps C G)(h:∀(kV doc pm:Value)(an:Option Addr)(cdv ct:Value)(us:List Value),us.length=ps.length->bindArgs (PySem.W.fnOf x x (kr st) (db st) (am st) .none kV doc pm an cdv ct) ⟨us,[]⟩=pure (ps.zip us))(e:ps.length=n+1):CalleeM P w K mg base C x k n G:=
 ⟨f,fd,ps,ok,hm,F.kp,F.binds h,e⟩
end
def lM{K:PySem.W.Frag}{its:Array Value}{n:Nat}(l:K.lookup a=some ⟨.type "tuple",od,.seq its n,osl⟩)(hz:its.size<=sizeLine)(v:Vals vs its.toList)(r:∀G,Reps K G vs ds):mI K a (.tup ds):=Dm l rfl rfl hz v r
def pC{K:PySem.W.Frag}{mg:Str->Option Value}(X:K.In h)(G:h.Ns mainGlobals mg)(e:PySem.W.nsIn K mainGlobals x=some (some (.ref a)))(k:mI K a (.tup ds)):∃a,mg x=some (.ref a)/\mI K a (.tup ds):=
 ⟨a,o4 X G e,k⟩
end Q
namespace G20
open PySem PySem.Spec PyProof.Rows L2 Q Q20
local macro_rules | `(tactic| walk_at "s") => `(tactic| exact⟨rfl,rfl,rfl,by decide +kernel,rfl,by decide +kernel,by decide +kernel⟩)
local macro_rules | `(tactic| walk_at "1") => `(tactic| (intro _ _ _ _ _ _ us hl;obtain⟨a,z⟩:=pX hl;subst z;rfl))
local macro_rules | `(tactic| walk_at "2") => `(tactic| (intro _ _ _ _ _ _ us hl;obtain⟨a,b,z⟩:=xL hl;subst z;rfl))
local macro_rules | `(tactic| walk_at "3") => `(tactic| (intro _ _ _ _ _ _ us hl;obtain⟨a,b,c,z⟩:=vg hl;subst z;rfl))
local macro_rules | `(tactic| walk_at "4") => `(tactic| (intro _ _ _ _ _ _ us hl;obtain⟨a,b,c,d,z⟩:=Ma hl;subst z;rfl))
local macro_rules | `(tactic| walk_at "5") => `(tactic| (intro _ _ _ _ _ _ us hl;obtain⟨a,b,c,d,e,z⟩:=Qi hl;subst z;rfl))
noncomputable abbrev top(i:Nat):Stmt:=PySem.Challenge.pw_screenlines_k20_whole_least.main.body.getD i (.Pass ⟨0,0,0,0⟩)
abbrev FUz(K:PySem.W.Frag)(n:Str)(i:Nat):=Fun K n n (top i)
section
variable{w:World}{K:PySem.W.Frag}{mg:Str->Option Value}{base:Heap}
def xm:FnScope ["_law_script","_law_k"] ["_law_script","_law_k"] (am (top 63)):=by walk_at "s"
def wT:FnScope ["_law_script","_law_k","_law_many","_law_drawn"] ["_law_script","_law_k","_law_many"] (am (top 64)):=by walk_at "s"
def yU:FnScope ["_law_script","_law_at","_law_width","_law_made","_law_k","_law_long"] ["_law_script","_law_at","_law_width"] (am (top 65)):=by walk_at "s"
def sx:FnScope ["_law_script","_law_at","_law_width","_law_many","_law_rows"] ["_law_script","_law_at","_law_width","_law_many"] (am (top 66)):=by walk_at "s"
def vA:FnScope ["_law_script","_law_at","_law_screen_here","_law_made","_law_k","_law_row_here","_law_way","_law_spot"] ["_law_script","_law_at","_law_screen_here"] (am (top 67)):=by walk_at "s"
def xh:FnScope ["thing"] ["thing"] (am (top 10)):=by walk_at "s"
def sY:FnScope ["thing","low","high"] ["thing","low","high"] (am (top 11)):=by walk_at "s"
def vZ:FnScope ["thing"] ["thing"] (am (top 12)):=by walk_at "s"
def mD:FnScope ["thing","width"] ["thing","width"] (am (top 16)):=by walk_at "s"
def wj:FnScope ["thing","width","many"] ["thing","width","many"] (am (top 17)):=by walk_at "s"
def uJ:FnScope ["thing","width"] ["thing"] (am (top 18)):=by walk_at "s"
def nX:FnScope ["thing"] ["thing"] (am (top 19)):=by walk_at "s"
def xg:FnScope ["screen","thing"] ["screen","thing"] (am (top 21)):=by walk_at "s"
def sN:FnScope ["screen","thing"] ["screen","thing"] (am (top 22)):=by walk_at "s"
def tR:FnScope ["screen","rows","width","missing"] ["screen","rows"] (am (top 23)):=by walk_at "s"
def qM:FnScope ["order"] ["order"] (am (top 40)):=by walk_at "s"
def uT:FnScope ["plan"] ["plan"] (am (top 50)):=by walk_at "s"
def C8:FnScope ["plans","state","plan"] ["plans","state","plan"] (am (top 51)):=by walk_at "s"
def DH(oC:Callee P w K mg base "plan_cost" 1 1 bo){F:MF}(ok:sX DC (gX bo) 3 F)(Fn:FUz K "offer" 51 f fd):FnM P w K mg base 2 f fd ["plans","state","plan"] DC F:=by refine Fn.okM C8 ok (k:=1) λ_ _ _ _ _ _ hr=>?_;have hu:=hr.units;exact(ah (fA (gO (cZ (La 0 hu (af at1)) (cP (BN (az oC hr (aa (af at2) ae)) (az oC hr (aa (tZ 0 hu (af at1)) ae)))))) (ah (LL 0 hu (af at2) (af at1)) ay) ay) ay)
def kB:FnScope ["plans","state","plan","order"] ["plans","state","plan","order"] (am (top 52)):=by walk_at "s"
def kK{I_offer:MF}(jk:Callee P w K mg base "order_cost" 2 1 bX)(xo:CalleeM P w K mg base DC "offer" 2 2 I_offer){F:MF}(ok:sX DC (bK I_offer bX) 4 F)(Fn:FUz K "offer_with_order" 52 f fd):FnM P w K mg base 3 f fd ["plans","state","plan","order"] DC F:=by exact Fn.okM kB ok (k:=2) λ_ _ _ _ _ _ hr=>(ah (qC (qD 0 xo hr (aa (af at1) (aa (cS (aa (aH (aD (af at2) ai) (az jk hr (aa (af at3) ae))) (aa (aH (aD (af at2) ai) (cS (aa (af at3) ae))) ae))) ae)))) ay)
def rf:FnScope ["plans","number","column","more"] ["plans","number","column"] (am (top 53)):=by walk_at "s"
def rW(uy:mg "dict"=none)(bc:mg "ELSEWHERE"=some (.ref a_ELSEWHERE))(bA:mI K a_ELSEWHERE (D.tup [D.bl false,D.bl false]))(eF:mg "HERE"=some (.ref a_HERE))(hX:mI K a_HERE (D.tup [D.bl true,D.bl false]))(bi:mg "HERE_WIPED"=some (.ref a_HERE_WIPED))(bM:mI K a_HERE_WIPED (D.tup [D.bl true,D.bl true]))(aJ:mg "ELSEWHERE_WIPED"=some (.ref a_ELSEWHERE_WIPED))(aX:mI K a_ELSEWHERE_WIPED (D.tup [D.bl false,D.bl true]))(bU:CalleeM P w K mg base DC "offer_with_order" 3 3 I_offer_with_order)(hg:∀ds:List D,ds.length=3->gr ds=.no\/∀q,ar (cL I_offer_with_order q (ao 4 ds))=gr ds)(Fn:FUz K "with_moves" 53 f fd):FnF P w K mg base 4 f fd ["plans","number","column"] gr:=by
 have hN:(["plans","number","column","more"]:List Str).Nodup:=by decide
 refine Fn.okA rf (k:=3) (g:=cL I_offer_with_order) hg λcdv A outer s H E hr=>?_;have hu:=hr.units;have h_1:PSF (gJ (CXo P w) P w K mg base ["plans","number","column","more"] "with_moves" (am (top 53)) f cdv A outer s H E) ((db (top 53)).getD 1 (.Pass ⟨0,0,0,0⟩)) (fg I_offer_with_order):=(fA (CN 3 hu (bn rfl bc bA)) (ah (qC (qD 3 bU hr (aa (bn rfl eF hX) (aa (tZ 3 hu (bn rfl bc bA)) (aa (cS (aa (aR (l:=[103,111]) rfl (by decide)) (aa (af at1) (aa (af at2) ae)))) ae))))) ay) ay)
 have h_2:PSF (gJ (CXo P w) P w K mg base ["plans","number","column","more"] "with_moves" (am (top 53)) f cdv A outer s H E) ((db (top 53)).getD 2 (.Pass ⟨0,0,0,0⟩)) (fo I_offer_with_order):=(fA (CN 3 hu (bn rfl eF hX)) (ah (qC (qD 3 bU hr (aa (bn rfl bi bM) (aa (tZ 3 hu (bn rfl eF hX)) (aa (cS (aa (aR (l:=[119,105,112,101]) rfl (by decide)) ae)) ae))))) ay) ay)
 have h_3:PSF (gJ (CXo P w) P w K mg base ["plans","number","column","more"] "with_moves" (am (top 53)) f cdv A outer s H E) ((db (top 53)).getD 3 (.Pass ⟨0,0,0,0⟩)) (fj I_offer_with_order):=(fA (CN 3 hu (bn rfl aJ aX)) (ah (qC (qD 3 bU hr (aa (bn rfl bi bM) (aa (tZ 3 hu (bn rfl aJ aX)) (aa (cS (aa (aR (l:=[103,111]) rfl (by decide)) (aa (af at1) (aa (af at2) ae)))) ae))))) ay) ay)
 have h_4:PSF (gJ (CXo P w) P w K mg base ["plans","number","column","more"] "with_moves" (am (top 53)) f cdv A outer s H E) ((db (top 53)).getD 4 (.Pass ⟨0,0,0,0⟩)) (lA I_offer_with_order):=(FF 3)
 exact(Et 3 hN rfl uy (af at0) (Bx (ah h_1 (ah h_2 (ah h_3 (ah h_4 ay))))))
def ou:FnScope ["plans","old","new","further","state","plan","wiped"] ["plans","old","new"] (am (top 54)):=by walk_at "s"
def pe{I_offer:MF}(bU:CalleeM P w K mg base DC "offer_with_order" 3 3 I_offer_with_order)(xo:CalleeM P w K mg base DC "offer" 3 2 I_offer)(hg:∀ds:List D,ds.length=3->gr ds=.no\/∀q,ar (cI I_offer_with_order I_offer q (ao 7 ds))=gr ds)(Fn:FUz K "stepped_over" 54 f fd):FnF P w K mg base 4 f fd ["plans","old","new"] gr:=by
 have hN:(["plans","old","new","further","state","plan","wiped"]:List Str).Nodup:=by decide
 refine Fn.okA ou (k:=3) (g:=cI I_offer_with_order I_offer) hg λcdv A outer s H E hr=>?_;have hu:=hr.units;have h_1:PSF (gJ (CXo P w) P w K mg base ["plans","old","new","further","state","plan","wiped"] "stepped_over" (am (top 54)) f cdv A outer s H E) ((db (top 54)).getD 1 (.Pass ⟨0,0,0,0⟩)) (cX I_offer_with_order I_offer):=(lV p6 rfl (B2 (af at0)) (nu rfl (cu 4 hN (cu 5 hN jL))) (ah (bw at6 hN (aD (af at4) ai)) (ah (fA (LK (aD (af at4) ai)) (ah (qC (qD 3 bU hr (aa (cS (aa gG (aa (af at6) ae))) (aa (af at5) (aa (cS (aa (aR (l:=[115,97,121]) rfl (by decide)) (aa (af at2) ae))) ae))))) ay) ay) (ah (fA (lL hu (qI (HL (af at6)) (aR (l:=[32]) rfl (by decide)) (af at1)) (af at2)) (ah (qC (qD 3 xo hr (aa (cS (aa gG (aa (af at6) ae))) (aa (af at5) ae)))) ay) ay) ay))) (hn:=iY _))
 have h_2:PSF (gJ (CXo P w) P w K mg base ["plans","old","new","further","state","plan","wiped"] "stepped_over" (am (top 54)) f cdv A outer s H E) ((db (top 54)).getD 2 (.Pass ⟨0,0,0,0⟩)) (fD I_offer_with_order I_offer):=(FF 3)
 exact(Hz 3 hN (Bx (ah h_1 (ah h_2 ay))))
def DA:FnScope ["plans","number","old","new","begin","current","column"] ["plans","number","old","new","begin"] (am (top 55)):=by walk_at "s"
def wC:FnScope ["plans","states"] ["plans","states"] (am (top 56)):=by walk_at "s"
def iU:FnScope ["number","old","new","plans"] ["number","old","new"] (am (top 57)):=by walk_at "s"
def ly:FnScope ["number","old","new","place","plans","right","left"] ["number","old","new","place"] (am (top 58)):=by walk_at "s"
def jS:FnScope ["number","old","new","place","plans"] ["number","old","new","place"] (am (top 59)):=by walk_at "s"
def BX:FnScope ["thing"] ["thing"] (am (top 29)):=by walk_at "s"
def CT:FnScope ["thing"] ["thing"] (am (top 30)):=by walk_at "s"
def wZ:FnScope ["thing"] ["thing"] (am (top 31)):=by walk_at "s"
def pY:FnScope ["thing"] ["thing"] (am (top 32)):=by walk_at "s"
def pK:FnScope ["thing","order"] ["thing"] (am (top 33)):=by walk_at "s"
def lP:FnScope ["one","other","text"] ["one","other"] (am (top 42)):=by walk_at "s"
def uU:FnScope ["orders","short","order","both"] ["orders"] (am (top 43)):=by walk_at "s"
def Ei:FnScope ["screen","rows","wanted","own","orders","number","row"] ["screen","rows"] (am (top 60)):=by walk_at "s"
def HE:FnScope ["orders"] ["orders"] (am (top 41)):=by walk_at "s"
def qV:FnScope ["screen","rows"] ["screen","rows"] (am (top 61)):=by walk_at "s"
def wI:FnScope ["_law_kept","_law_kinds"] ["_law_kept"] (am (top 78)):=by walk_at "s"
def xc(eJ:mg "ValueError"=none)(ak:mg "isinstance"=none)(Er:Errs K mg rs [("NoScreen",aq),("NoOrder",aB),("NoRoom",aI),("NoNumber",aK),("NoTable",aQ),("NoTask",ba),("NoText",bb)])(Fn:FUz K "_law_word" 78 f fd):FnF P w K mg base 1 f fd ["_law_kept"] (λds=>ar (fZ aI aB aK aQ aq bb ba rs (ao 2 ds))):=by
 have hN:(["_law_kept","_law_kinds"]:List Str).Nodup:=by decide
 refine Fn.okF wI (k:=0) (g:=fZ aI aB aK aQ aq bb ba rs) λ_ _ _ _ _ _ hr=>?_;have hu:=hr.units;exact(ah (wM 1 hN (eY (aa (kL (T:=aK) Er (.tail _ (.tail _ (.tail _ (.head _)))) ak (af at0)) (aa (kL (T:=aB) Er (.tail _ (.head _)) ak (af at0)) (aa (kL (T:=aI) Er (.tail _ (.tail _ (.head _))) ak (af at0)) ae))))) (ah (mV 1 (dN (eY (aa (kL (T:=aq) Er (.head _) ak (af at0)) (aa (kL (T:=aQ) Er (.tail _ (.tail _ (.tail _ (.tail _ (.head _))))) ak (af at0)) ae))))) (ah (mV 1 (dN (eY (aa (kL (T:=ba) Er (.tail _ (.tail _ (.tail _ (.tail _ (.tail _ (.head _)))))) ak (af at0)) (aa (kL (T:=bb) Er (.tail _ (.tail _ (.tail _ (.tail _ (.tail _ (.tail _ (.head _))))))) ak (af at0)) ae))))) (qT 1 (ah (fA (gO (cZ (fO hu (FR (af at1) (aa gG ae)) ai) (cP (di (da (IP Er ak eJ (af at0))))))) (ah (aV (aR (l:=[119,114,111,110,103]) rfl (by decide))) ay) ay) (ah (aV (aD (dN (eY (aa (aR (l:=[110,111,32,110,117,109,98,101,114]) rfl (by decide)) (aa (aR (l:=[110,111,32,111,114,100,101,114]) rfl (by decide)) (aa (aR (l:=[110,111,32,114,111,111,109]) rfl (by decide)) (aa (aR (l:=[110,111,32,115,99,114,101,101,110]) rfl (by decide)) (aa (aR (l:=[110,111,32,116,97,98,108,101]) rfl (by decide)) (aa (aR (l:=[110,111,32,116,97,115,107]) rfl (by decide)) (aa (aR (l:=[110,111,32,116,101,120,116]) rfl (by decide)) ae))))))))) (Il (af at1) (aa gG ae)))) ay))))))
def B9:FnScope ["_law_what","_law_screen_here","_law_rows","_law_kept","_law_answer","e"] ["_law_what","_law_screen_here","_law_rows"] (am (top 79)):=by walk_at "s"
def jT:FnScope ["screen","row","column","number","rows"] ["screen","row","column"] (am (top 34)):=by walk_at "s"
def uL:FnScope ["screen","text","row","begin","end"] ["screen","text"] (am (top 35)):=by walk_at "s"
def wk:FnScope ["screen","number","column"] ["screen","number","column"] (am (top 36)):=by walk_at "s"
def sA:FnScope ["screen","row","column"] ["screen"] (am (top 37)):=by walk_at "s"
def pZ:FnScope ["screen","order"] ["screen","order"] (am (top 38)):=by walk_at "s"
def vo:FnScope ["screen","orders","current","order"] ["screen","orders"] (am (top 39)):=by walk_at "s"
def vw:FnScope ["_law_screen_here","_law_rows","_law_made"] ["_law_screen_here","_law_rows"] (am (top 70)):=by walk_at "s"
def nN:FnScope ["screen","rows","spots","number","row","own"] ["screen","rows"] (am (top 24)):=by walk_at "s"
def xj:FnScope ["_law_orders","_law_total","_law_order"] ["_law_orders"] (am (top 69)):=by walk_at "s"
def Dz:FnScope ["screen"] ["screen"] (am (top 20)):=by walk_at "s"
def lv:FnScope ["_law_thing","_law_made","_law_k"] ["_law_thing"] (am (top 71)):=by walk_at "s"
def qU(ak:mg "isinstance"=none)(aP:mg "len"=none)(bH:mg "range"=none)(bg:mg "tuple"=none)(iL:Callee P w K mg base "_law_places" k 1 au)(Fn:FUz K "_law_places" 71 f fd):FnF P w K mg base (k+1) f fd ["_law_thing"] (λds=>ar (gF au (ao 3 ds))):=by
 have hN:(["_law_thing","_law_made","_law_k"]:List Str).Nodup:=by decide
 exact Fn.okF lv (k:=k) (g:=gF au) λ_ _ _ _ _ _ hr=>(ah (wM 1 hN (eY (aa (cS ae) ae))) (ah (fA (da (dR ak (af at0) bg)) (ah (lV p6 rfl (gh rfl bH (aa (cD rfl aP (aa (af at0) ae)) ae)) (dl 2 hN) (ah (mV 1 (fb (ck (N':=["_law_place","_law_k"]) (ix:=[2]) cM rfl (dY (az iL hr (aa (aD (af at0) (af at2)) ae))) (λC s₂ H₂ fp=>(aH (cS (aa (aZ at1) ae)) (aZ at0))) (λC s₂ H₂ fp=>el)))) ay)) ay) ay) (qT 1 (ah (aV (af at1)) ay))))
theorem jW{f:Addr}{fd:FuncData}(ak:mg "isinstance"=none)(aP:mg "len"=none)(bH:mg "range"=none)(bg:mg "tuple"=none)(F:FUz K "_law_places" 71 f fd)(m:mg "_law_places"=some (.ref f)):∀n:Nat,Callee P w K mg base "_law_places" (n+1) 1 (cz n)
 | 0=>F.callee m ((F.noF lv).to λds hl=>.inl (Cf ds hl)) (by walk_at "1")
 |n+1=>F.callee m ((qU ak aP bH bg (jW ak aP bH bg F m n) F).to (rJ n)) (by walk_at "1")
def qw:FnScope ["_law_thing","_law_place","_law_new","_law_k"] ["_law_thing","_law_place","_law_new"] (am (top 72)):=by walk_at "s"
def zt(fy:Callee P w K mg base "_law_put" k 3 aC)(Fn:FUz K "_law_put" 72 f fd):FnF P w K mg base (k+1) f fd ["_law_thing","_law_place","_law_new"] (λds=>ar (kP aC (ao 4 ds))):=by
 have hN:(["_law_thing","_law_place","_law_new","_law_k"]:List Str).Nodup:=by decide
 refine Fn.okF qw (k:=k) (g:=kP aC) λ_ _ _ _ _ _ hr=>?_;have hu:=hr.units;exact(ah (fA (lL hu (af at1) (cS ae)) (ah (aV (af at2)) ay) ay) (ah (bw at3 hN (aD (af at1) ai)) (ah (aV (aH (aH (bG (af at0) bF (dg (af at3))) (cS (aa (az fy hr (aa (aD (af at0) (af at3)) (aa (bG (af at1) (dg ai) bF) (aa (af at2) ae)))) ae))) (bG (af at0) (dg (aH (af at3) ai)) bF))) ay)))
theorem nR{f:Addr}{fd:FuncData}(F:FUz K "_law_put" 72 f fd)(m:mg "_law_put"=some (.ref f)):∀n:Nat,Callee P w K mg base "_law_put" (n+1) 3 (nh n)
 | 0=>F.callee m ((F.noF qw).to λds hl=>.inl (J1 ds hl)) (by walk_at "3")
 |n+1=>F.callee m ((zt (nR F m n) F).to (yC n)) (by walk_at "3")
def kI:FnScope ["_law_script","_law_at","_law_thing","_law_places_here","_law_place","_law_here","_law_k","_law_some","_law_way","_law_spot","_law_sign"] ["_law_script","_law_at","_law_thing"] (am (top 73)):=by walk_at "s"
def ki(jQ:mg "int"=none)(ak:mg "isinstance"=none)(aP:mg "len"=none)(oO:mg "str"=none)(bg:mg "tuple"=none)(iL:Callee P w K mg base "_law_places" 5 1 au)(aN:Callee P w K mg base "_law_pick" 5 3 aj)(fy:Callee P w K mg base "_law_put" 5 3 aC)(Fn:FUz K "_law_spoilt_thing" 73 f fd):FnF P w K mg base 6 f fd ["_law_script","_law_at","_law_thing"] (λds=>ar (cj au aj aC (ao 11 ds))):=by
 have hN:(["_law_script","_law_at","_law_thing","_law_places_here","_law_place","_law_here","_law_k","_law_some","_law_way","_law_spot","_law_sign"]:List Str).Nodup:=by decide
 refine Fn.okF kI (k:=5) (g:=cj au aj aC) λ_ _ _ _ _ _ hr=>?_;have hu:=hr.units;exact(ah (bw at3 hN (az iL hr (aa (af at2) ae))) (ah (bw at4 hN (aD (af at3) (az aN hr (aa (af at0) (aa (af at1) (aa (cD rfl aP (aa (af at3) ae)) ae)))))) (ah (bw at5 hN (af at2)) (ah (lV p6 rfl (dY (af at4)) (dl 6 hN) (ah (bw at5 hN (aD (af at5) (af at6))) ay)) (ah (bw at7 hN (dN (eY (aa ai (aa ai (aa ai (aa ai (aa ai (aa ai (aa ai (aa (GU ai) (aa gG (aa mi (aa (aR (l:=[97]) rfl (by decide)) (aa (aR (l:=[]) rfl (by decide)) (aa (cS (aa (aR (l:=[103,111]) rfl (by decide)) (aa ai (aa ai ae)))) (aa (cS (aa ai (aa ai ae))) (aa (dN (eY (aa ai ae))) (aa (cS (aa (af at5) ae)) (aa (cS (aa (af at5) (aa (af at5) ae))) ae)))))))))))))))))))) (ah (bw at8 hN (az aN hr (aa (af at0) (aa (aH (af at1) ai) (aa ai ae))))) (ah (fA (BN (af at8) ai) (ah (aV (az fy hr (aa (af at2) (aa (af at4) (aa (aD (af at7) (af at8)) ae))))) ay) ay) (ah (fA (gO (rM (da (dR ak (af at5) bg)) (rP (fO hu (af at5) (cS ae))))) (ah (bw at6 hN (az aN hr (aa (af at0) (aa (aH (af at1) ai) (aa (cD rfl aP (aa (af at5) ae)) ae))))) (ah (aV (az fy hr (aa (af at2) (aa (af at4) (aa (qI (BN (af at8) ai) (aH (bG (af at5) bF (dg (af at6))) (bG (af at5) (dg (aH (af at6) ai)) bF)) (aH (bG (af at5) bF (dg (aH (af at6) ai))) (bG (af at5) (dg (af at6)) bF))) ae))))) ay)) ay) (ah (fA (da (vM ak (af at5) oO)) (ah (bw at9 hN (az aN hr (aa (af at0) (aa (aH (af at1) ai) (aa (aH (cD rfl aP (aa (af at5) ae)) ai) ae))))) (ah (bw LY hN (aD (dN (eY (aa (aR (l:=[10]) rfl (by decide)) (aa (aR (l:=[]) rfl (by decide)) (aa (aR (l:=[97]) rfl (by decide)) (aa (aR (l:=[9]) rfl (by decide)) ae)))))) (qI (pS (af at8) ai) (li (af at8) ai) ai))) (ah (aV (az fy hr (aa (af at2) (aa (af at4) (aa (aH (aH (bG (af at5) bF (dg (af at9))) (af LY)) (bG (af at5) (dg (aH (af at9) ai)) bF)) ae))))) ay))) ay) (ah (aV (az fy hr (aa (af at2) (aa (af at4) (aa (qI (da (wf ak (af at5) jQ)) (aH (af at5) ai) ai) ae))))) ay))))))))))
def uX:FnScope ["_law_thing","_law_low","_law_high"] ["_law_thing","_law_low","_law_high"] (am (top 74)):=by walk_at "s"
def oE:FnScope ["_law_thing"] ["_law_thing"] (am (top 75)):=by walk_at "s"
def mG:FnScope ["_law_thing","_law_width","_law_rows","_law_place"] ["_law_thing"] (am (top 76)):=by walk_at "s"
def KD:FnScope ["_law_script","_law_width","_law_many","_law_screen_here","_law_rows","_law_orders","_law_told","_law_end","_law_full_here","_law_spots","_law_unlike","_law_anew","_law_wiped","_law_some","_law_k","_law_way","_law_order","_law_here","_law_bad"] ["_law_script"] (am (top 80)):=by walk_at "s"
def Jf{cE dA:List D->R D}{bW bB:List D->R D}{dJ bj:List D->R D}{dw kH:List D->R D}{bp bJ:List D->R D}(aP:mg "len"=none)(bH:mg "range"=none)(rO:mg "sum"=none)(aN:Callee P w K mg base "_law_pick" 10 3 aj)(rj:Callee P w K mg base "_law_screen" 10 4 cE)(wH:Callee P w K mg base "_law_goal" 10 3 dA)(lf:Callee P w K mg base "_law_do" 10 3 bW)(lX:Callee P w K mg base "all_done" 10 2 bB)(wV:Callee P w K mg base "_law_full" 10 2 dJ)(pW:Callee P w K mg base "unlike_spots" 10 2 bj)(xr:Callee P w K mg base "_law_cost" 10 1 dw)(eE:Callee P w K mg base "least_cost" 10 2 aS)(GV:Callee P w K mg base "shown" 10 1 kH)(yg:Callee P w K mg base "cost" 10 1 ie)(kF:Callee P w K mg base "_law_spoilt_thing" 10 3 bp)(mz:Callee P w K mg base "_law_is_screen" 10 1 bJ)(Fn:FUz K "law" 80 f fd):FnF P w K mg base 11 f fd ["_law_script"] (λds=>ar (xb aj cE dA bW bB dJ bj dw aS kH ie bp bJ (ao 19 ds))):=by
 have hN:(["_law_script","_law_width","_law_many","_law_screen_here","_law_rows","_law_orders","_law_told","_law_end","_law_full_here","_law_spots","_law_unlike","_law_anew","_law_wiped","_law_some","_law_k","_law_way","_law_order","_law_here","_law_bad"]:List Str).Nodup:=by decide
 refine Fn.okF KD (k:=10) (g:=xb aj cE dA bW bB dJ bj dw aS kH ie bp bJ) λ_ _ _ _ _ _ hr=>?_;have hu:=hr.units;exact(ah (FL (cS (aa (aH ai (az aN hr (aa (af at0) (aa ai (aa ai ae))))) (aa (aH ai (az aN hr (aa (af at0) (aa ai (aa ai ae))))) ae))) rfl (cu 1 hN (cu 2 hN jL))) (ah (bw at3 hN (az rj hr (aa (af at0) (aa ai (aa (af at1) (aa (af at2) ae)))))) (ah (bw at4 hN (az wH hr (aa (af at0) (aa ai (aa (af at3) ae))))) (ah (NA 5 6 rfl hN (aa (az lf hr (aa ai (aa (af at3) (aa (af at4) ae)))) (aa (az lf hr (aa ai (aa (af at3) (aa (af at4) ae)))) ae))) (ah (bw at7 hN (az lX hr (aa (af at3) (aa (af at5) ae)))) (ah (bw at8 hN (az wV hr (aa (af at3) (aa (af at4) ae)))) (ah (bw at9 hN (az pW hr (aa (af at3) (aa (af at4) ae)))) (ah (fA (gO (cZ (fO hu (aD (af at7) ai) (af at8)) (cZ (fO hu (af at6) (az xr hr (aa (af at5) ae))) (cZ (fO hu (oh hu (af at6) ai) (oh hu (af at9) (dN (eY ae)))) (cP (fO hu (oh hu (af at5) (dN (eY ae))) (oh hu (af at9) (dN (eY ae))))))))) (ah (aV gG) ay) ay) (ah (Br 10 hN (N':=["_law_row_here","_law_screen_here","_law_full_here"]) (ix:=[3,8]) cM rfl (gh rfl bH (aa (af at2) ae)) (λC s₂ H₂ fp=>(aZ at0)) (λC s₂ H₂ fp=>(oj (fO hu (aD (aD (aZ at1) ai) (aZ at0)) (aD (aZ at2) (aZ at0)))))) (qT 10 (ah (bw Ox hN (GY rfl rfl rO (aa (fb (ck (N':=["_law_row_here","_law_width"]) (ix:=[1]) cM rfl (dY (af LY)) (λC s₂ H₂ fp=>(aH ai (aZ at1))) (λC s₂ H₂ fp=>el))) ae))) (ah (bw OE hN (GY rfl rfl rO (aa (fb (ck (N':=["_law_row_here","_law_full_here"]) (ix:=[8]) cM rfl (dY (af LY)) (λC s₂ H₂ fp=>(aH ai (cD rfl aP (aa (sH (aD (aZ at1) (aZ at0)) (aa (aR (l:=[32]) rfl (by decide)) ae)) ae)))) (λC s₂ H₂ fp=>el))) ae))) (ah (fA (gO (cZ (pS (af at6) (dP ai (cD rfl aP (aa (af at9) ae)))) (cZ (pS (af at6) (af Ox)) (cZ (pS (af at6) (af OE)) (cP (fO hu (az eE hr (aa (af at7) (aa (af at4) ae))) ai)))))) (ah (aV gG) ay) ay) (ah (fA (gO (rM (lL hu (cD rfl aP (aa (af at9) ae)) ai) (rM (lL hu (aD (af at3) ai) (aD (af at9) ai)) (rP (fO hu (af at6) ai))))) (ah (aV gG) ay) ay) (ah (wM 13 hN (eY ae)) (ah (lV p6 rfl (gh rfl bH (aa (aH ai (az aN hr (aa (af at0) (aa ai (aa ai ae))))) ae)) (dl 14 hN) (ah (bw rfl hN (az aN hr (aa (af at0) (aa (aH ai (af L6)) (aa ai ae))))) (ah (bw rfl hN (cS (aa (aR (l:=[103,111]) rfl (by decide)) (aa (az aN hr (aa (af at0) (aa (aH ai (af L6)) (aa (af at2) ae)))) (aa (az aN hr (aa (af at0) (aa (aH ai (af L6)) (aa (aH (af at1) ai) ae)))) ae))))) (ah (bw rfl hN (aD (dN (eY (aa (cS (aa (aR (l:=[115,97,121]) rfl (by decide)) (aa (bG (aR (l:=[97,98]) rfl (by decide)) bF (dg (aH ai (tE (af L6) ai)))) ae))) (aa (cS (aa (aR (l:=[119,105,112,101]) rfl (by decide)) ae)) (aa (af rfl) (aa (af rfl) ae)))))) (af rfl))) (ah (E8 13 17 hN (az lX hr (aa (af at3) (aa (af Mf) ae)))) (ah (fA (gO (cZ (fO hu (aD (af rfl) ai) (aR (l:=[115,97,121]) rfl (by decide))) (cP (Jc (aH (aD (aD (af rfl) ai) ai) (cD rfl aP (aa (aD (af rfl) ai) ae))) (af at1))))) (ah (sM 13 (af rfl)) ay) ay) ay)))))) (qT 13 (ah (bw rfl hN (az lX hr (aa (af at3) (aa (af Mf) ae)))) (ah (fA (gO (cZ (pS (az eE hr (aa (af at3) (aa (az GV hr (aa (af rfl) ae)) ae))) (az yg hr (aa (af Mf) ae))) (cP (pS (af at6) (aH (az yg hr (aa (af Mf) ae)) (az eE hr (aa (af rfl) (aa (af at4) ae)))))))) (ah (aV gG) ay) ay) (ah (bw rfl hN (az kF hr (aa (af at0) (aa ai (aa (af at3) ae))))) (ah (fA (gO (rM (di (da (az mz hr (aa (af rfl) ae)))) (rP (fO hu (fb (ck (N':=["_law_what","_law_rows","_law_bad"]) (ix:=[4,18]) cM rfl (gh rfl bH (aa ai ae)) (λC s₂ H₂ fp=>(az lf hr (aa (aZ at0) (aa (aZ at2) (aa (aZ at1) ae))))) (λC s₂ H₂ fp=>el))) (dP (dN (eY (aa (aR (l:=[110,111,32,115,99,114,101,101,110]) rfl (by decide)) ae))) ai))))) (ah (aV gG) ay) ay) (ah (aV (oh hu (fb (ck (N':=["_law_what","_law_width","_law_screen_here"]) (ix:=[1,3]) cM rfl (gh rfl bH (aa ai ae)) (λC s₂ H₂ fp=>(az lf hr (aa (aZ at0) (aa (aZ at2) (aa (dN (eY (aa (dP (aR (l:=[32]) rfl (by decide)) (aH (aZ at1) ai)) ae))) ae))))) (λC s₂ H₂ fp=>el))) (dP (dN (eY (aa (aR (l:=[110,111,32,115,99,114,101,101,110]) rfl (by decide)) ae))) ai))) ay))))))))))))))))))))))
end
def Kq{w:World}{K:PySem.W.Frag}{mg:Str->Option Value}{fa:Addr}(hfa:mg "law"=some (.ref fa))(eJ:mg "ValueError"=none)(pf:mg "all"=none)(mq:mg "bool"=none)(uy:mg "dict"=none)(bR:mg "enumerate"=none)(jQ:mg "int"=none)(ak:mg "isinstance"=none)(aP:mg "len"=none)(jd:mg "list"=none)(va:mg "min"=none)(Bc:mg "ord"=none)(bH:mg "range"=none)(oO:mg "str"=none)(rO:mg "sum"=none)(bg:mg "tuple"=none)(bc:∃a,mg "ELSEWHERE"=some (.ref a)/\mI K a (D.tup [D.bl false,D.bl false]))(aJ:∃a,mg "ELSEWHERE_WIPED"=some (.ref a)/\mI K a (D.tup [D.bl false,D.bl true]))(fJ:∃t,mg "GO_COST"=some (.int 2 t))(eF:∃a,mg "HERE"=some (.ref a)/\mI K a (D.tup [D.bl true,D.bl false]))(bi:∃a,mg "HERE_WIPED"=some (.ref a)/\mI K a (D.tup [D.bl true,D.bl true]))(cf:∃t,mg "MOST_ROWS"=some (.int 12 t))(bZ:∃t,mg "MOST_SAID"=some (.int 40 t))(bO:∃t,mg "MOST_WIDTH"=some (.int 40 t))(bQ:∃a,mg "NO_ORDERS"=some (.ref a)/\mI K a (D.tup [D.int 0,D.tup []]))(dH:∃t,mg "WIPE_COST"=some (.int 1 t))(nZ:PySem.W.nsIn K mainGlobals "NoOrder"=some (some (.ref aB)))(nz:PySem.W.excIn K aB [.type "ValueError",.type "Exception",.type "BaseException",.type "object"] "ValueError.__new__"=true)(qG:PySem.W.nsIn K mainGlobals "NoRoom"=some (some (.ref aI)))(qH:PySem.W.excIn K aI [.type "ValueError",.type "Exception",.type "BaseException",.type "object"] "ValueError.__new__"=true)(lQ:PySem.W.nsIn K mainGlobals "NoScreen"=some (some (.ref aq)))(mf:PySem.W.excIn K aq [.type "ValueError",.type "Exception",.type "BaseException",.type "object"] "ValueError.__new__"=true)(nd:[aq,aB,aI,aK,aQ,ba,bb].Nodup)(Er:Errs K mg [aB,aI,aq] [("NoScreen",aq),("NoOrder",aB),("NoRoom",aI),("NoNumber",aK),("NoTable",aQ),("NoTask",ba),("NoText",bb)])(h63:∃f fd,FUz K "_law_cell" 63 f fd/\mg "_law_cell"=some (.ref f))(h64:∃f fd,FUz K "_law_pick" 64 f fd/\mg "_law_pick"=some (.ref f))(h65:∃f fd,FUz K "_law_row" 65 f fd/\mg "_law_row"=some (.ref f))(h66:∃f fd,FUz K "_law_screen" 66 f fd/\mg "_law_screen"=some (.ref f))(h67:∃f fd,FUz K "_law_goal" 67 f fd/\mg "_law_goal"=some (.ref f))(h10:∃f fd,FUz K "is_whole" 10 f fd/\mg "is_whole"=some (.ref f))(h11:∃f fd,FUz K "is_within" 11 f fd/\mg "is_within"=some (.ref f))(h12:∃f fd,FUz K "is_plain" 12 f fd/\mg "is_plain"=some (.ref f))(h16:∃f fd,FUz K "are_full_rows" 16 f fd/\mg "are_full_rows"=some (.ref f))(h17:∃f fd,FUz K "is_place" 17 f fd/\mg "is_place"=some (.ref f))(h18:∃f fd,FUz K "is_screen" 18 f fd/\mg "is_screen"=some (.ref f))(h19:∃f fd,FUz K "check_screen" 19 f fd/\mg "check_screen"=some (.ref f))(h21:∃f fd,FUz K "are_rows" 21 f fd/\mg "are_rows"=some (.ref f))(h22:∃f fd,FUz K "check_rows" 22 f fd/\mg "check_rows"=some (.ref f))(h23:∃f fd,FUz K "full_rows" 23 f fd/\mg "full_rows"=some (.ref f))(h40:∃f fd,FUz K "order_cost" 40 f fd/\mg "order_cost"=some (.ref f))(h50:∃f fd,FUz K "plan_cost" 50 f fd/\mg "plan_cost"=some (.ref f))(h51:∃f fd,FUz K "offer" 51 f fd/\mg "offer"=some (.ref f))(h52:∃f fd,FUz K "offer_with_order" 52 f fd/\mg "offer_with_order"=some (.ref f))(h53:∃f fd,FUz K "with_moves" 53 f fd/\mg "with_moves"=some (.ref f))(h54:∃f fd,FUz K "stepped_over" 54 f fd/\mg "stepped_over"=some (.ref f))(h55:∃f fd,FUz K "swept" 55 f fd/\mg "swept"=some (.ref f))(h56:∃f fd,FUz K "cheapest" 56 f fd/\mg "cheapest"=some (.ref f))(h57:∃f fd,FUz K "plan_from_elsewhere" 57 f fd/\mg "plan_from_elsewhere"=some (.ref f))(h58:∃f fd,FUz K "plan_from_place" 58 f fd/\mg "plan_from_place"=some (.ref f))(h59:∃f fd,FUz K "row_of_place_plan" 59 f fd/\mg "row_of_place_plan"=some (.ref f))(h29:∃f fd,FUz K "is_say" 29 f fd/\mg "is_say"=some (.ref f))(h30:∃f fd,FUz K "is_go" 30 f fd/\mg "is_go"=some (.ref f))(h31:∃f fd,FUz K "is_order" 31 f fd/\mg "is_order"=some (.ref f))(h32:∃f fd,FUz K "check_order" 32 f fd/\mg "check_order"=some (.ref f))(h33:∃f fd,FUz K "check_orders" 33 f fd/\mg "check_orders"=some (.ref f))(h42:∃f fd,FUz K "joined_or_none" 42 f fd/\mg "joined_or_none"=some (.ref f))(h43:∃f fd,FUz K "shortened" 43 f fd/\mg "shortened"=some (.ref f))(h60:∃f fd,FUz K "least" 60 f fd/\mg "least"=some (.ref f))(h41:∃f fd,FUz K "cost" 41 f fd/\mg "cost"=some (.ref f))(h61:∃f fd,FUz K "least_cost" 61 f fd/\mg "least_cost"=some (.ref f))(h78:∃f fd,FUz K "_law_word" 78 f fd/\mg "_law_word"=some (.ref f))(h79:∃f fd,FUz K "_law_do" 79 f fd/\mg "_law_do"=some (.ref f))(h34:∃f fd,FUz K "with_row_at_place" 34 f fd/\mg "with_row_at_place"=some (.ref f))(h35:∃f fd,FUz K "after_say" 35 f fd/\mg "after_say"=some (.ref f))(h36:∃f fd,FUz K "after_go" 36 f fd/\mg "after_go"=some (.ref f))(h37:∃f fd,FUz K "after_wipe" 37 f fd/\mg "after_wipe"=some (.ref f))(h38:∃f fd,FUz K "after_order" 38 f fd/\mg "after_order"=some (.ref f))(h39:∃f fd,FUz K "all_done" 39 f fd/\mg "all_done"=some (.ref f))(h70:∃f fd,FUz K "_law_full" 70 f fd/\mg "_law_full"=some (.ref f))(h24:∃f fd,FUz K "unlike_spots" 24 f fd/\mg "unlike_spots"=some (.ref f))(h69:∃f fd,FUz K "_law_cost" 69 f fd/\mg "_law_cost"=some (.ref f))(h20:∃f fd,FUz K "shown" 20 f fd/\mg "shown"=some (.ref f))(h71:∃f fd,FUz K "_law_places" 71 f fd/\mg "_law_places"=some (.ref f))(h72:∃f fd,FUz K "_law_put" 72 f fd/\mg "_law_put"=some (.ref f))(h73:∃f fd,FUz K "_law_spoilt_thing" 73 f fd/\mg "_law_spoilt_thing"=some (.ref f))(h74:∃f fd,FUz K "_law_whole" 74 f fd/\mg "_law_whole"=some (.ref f))(h75:∃f fd,FUz K "_law_is_plain" 75 f fd/\mg "_law_is_plain"=some (.ref f))(h76:∃f fd,FUz K "_law_is_screen" 76 f fd/\mg "_law_is_screen"=some (.ref f))(h80:∃f fd,FUz K "law" 80 f fd/\mg "law"=some (.ref f)):
  ∃fd:FuncData,(∀(s:Shared)(u:Value),BindsTo s fd ⟨[u],[]⟩ [("_law_script",u)])/\∀base:Heap,K.In base->base.Ns mainGlobals mg->FnF P w K mg base 11 fa fd ["_law_script"] Fm:=by
 obtain⟨a_ELSEWHERE,bc,bA⟩:=bc;obtain⟨a_ELSEWHERE_WIPED,aJ,aX⟩:=aJ;obtain⟨uB,fJ⟩:=fJ;obtain⟨a_HERE,eF,hX⟩:=eF;obtain⟨a_HERE_WIPED,bi,bM⟩:=bi;obtain⟨iK,cf⟩:=cf;obtain⟨im,bZ⟩:=bZ;obtain⟨gf,bO⟩:=bO;obtain⟨a_NO_ORDERS,bQ,dB⟩:=bQ;obtain⟨oa,dH⟩:=dH;obtain⟨f63,d63,F63⟩:=h63;obtain⟨f64,d64,F64⟩:=h64;obtain⟨f65,d65,F65⟩:=h65;obtain⟨f66,d66,F66⟩:=h66;obtain⟨f67,d67,F67⟩:=h67;obtain⟨f10,d10,F10⟩:=h10;obtain⟨f11,d11,F11⟩:=h11;obtain⟨f12,d12,F12⟩:=h12;obtain⟨f16,d16,F16⟩:=h16;obtain⟨f17,d17,F17⟩:=h17;obtain⟨f18,d18,F18⟩:=h18;obtain⟨f19,d19,F19⟩:=h19;obtain⟨f21,d21,F21⟩:=h21;obtain⟨f22,d22,F22⟩:=h22;obtain⟨f23,d23,F23⟩:=h23;obtain⟨f40,d40,F40⟩:=h40;obtain⟨f50,d50,F50⟩:=h50;obtain⟨f51,d51,F51⟩:=h51;obtain⟨f52,d52,F52⟩:=h52;obtain⟨f53,d53,F53⟩:=h53;obtain⟨f54,d54,F54⟩:=h54;obtain⟨f55,d55,F55⟩:=h55;obtain⟨f56,d56,F56⟩:=h56;obtain⟨f57,d57,F57⟩:=h57;obtain⟨f58,d58,F58⟩:=h58;obtain⟨f59,d59,F59⟩:=h59;obtain⟨f29,d29,F29⟩:=h29;obtain⟨f30,d30,F30⟩:=h30;obtain⟨f31,d31,F31⟩:=h31;obtain⟨f32,d32,F32⟩:=h32;obtain⟨f33,d33,F33⟩:=h33;obtain⟨f42,d42,F42⟩:=h42;obtain⟨f43,d43,F43⟩:=h43;obtain⟨f60,d60,F60⟩:=h60;obtain⟨f41,d41,F41⟩:=h41;obtain⟨f61,d61,F61⟩:=h61;obtain⟨f78,d78,F78⟩:=h78;obtain⟨f79,d79,F79⟩:=h79;obtain⟨f34,d34,F34⟩:=h34;obtain⟨f35,d35,F35⟩:=h35;obtain⟨f36,d36,F36⟩:=h36;obtain⟨f37,d37,F37⟩:=h37;obtain⟨f38,d38,F38⟩:=h38;obtain⟨f39,d39,F39⟩:=h39;obtain⟨f70,d70,F70⟩:=h70;obtain⟨f24,d24,F24⟩:=h24;obtain⟨f69,d69,F69⟩:=h69;obtain⟨f20,d20,F20⟩:=h20;obtain⟨f71,d71,F71⟩:=h71;obtain⟨f72,d72,F72⟩:=h72;obtain⟨f73,d73,F73⟩:=h73;obtain⟨f74,d74,F74⟩:=h74;obtain⟨f75,d75,F75⟩:=h75;obtain⟨f76,d76,F76⟩:=h76;obtain⟨f80,d80,F80⟩:=h80;have e:fa=f80:=by have:=hfa.symm.trans F80.2;injection this with this;injection this
 subst e;refine⟨d80,λs u=>?_,λbase kb nb=>?_⟩;·obtain⟨oc,od,kV,doc,pm,an,cdv,ct,osl,rfl,lk,hcd⟩:=F80.1.ex;exact .of_eq rfl
 ·have gY:=Bk (x:="NoOrder") kb nb nZ nz;have jM:=Bk (x:="NoRoom") kb nb qG qH;have fx:=Bk (x:="NoScreen") kb nb lQ mf;have k63:=F63.1.callee F63.2 ((F63.1.okF (P:=P) (w:=w) (base:=base) xm (k:=0) (g:=eM) λ_ _ _ _ _ _ hr=>(ah (fA (BN (af at1) (cD rfl aP (aa (af at0) ae))) (ah (aV (aD (af at0) (af at1))) ay) ay) (ah (fA (lL hr.units (af at0) (dN (eY ae))) (ah (aV ai) ay) ay) (ah (aV (aH (dP (aD (af at0) (tE (af at1) (cD rfl aP (aa (af at0) ae)))) ai) (af at1))) ay)))).to (tfr (F:=Df))) (by walk_at "2");have k64:=F64.1.callee F64.2 ((F64.1.okF wT (k:=1) (g:=eK _) λ_ _ _ _ _ _ hr=>(ah (bw at3 wT.nd (tE (dP (aH (az k63 hr (aa (af at0) (aa (af at1) ae))) (dP ai (aH (af at1) ai))) ai) ai)) (ah (aV (tE (tE (aH (dP (af at3) (af at3)) (Gn (af at3) ai)) ai) (af at2))) ay))).to (tfr (F:=cb))) (by walk_at "3");have k65:=F65.1.callee F65.2 ((F65.1.okF yU (k:=2) (g:=kM _) λ_ _ _ _ _ _ hr=>(ah (bw at3 yU.nd (aR (l:=[]) rfl (by decide))) (ah (lV p6 rfl (gh rfl bH (aa (af at2) ae)) (dl 4 yU.nd) (ah (bw at3 yU.nd (aH (af at3) (aD (aR (l:=[32,32,97,98,35]) rfl (by decide)) (az k64 hr (aa (af at0) (aa (aH (aH (af at1) ai) (af at4)) (aa ai ae))))))) ay)) (ah (bw at5 yU.nd (az k64 hr (aa (af at0) (aa (af at1) (aa (aH (af at2) ai) ae))))) (ah (aV (qI (lL hr.units (az k64 hr (aa (af at0) (aa (aH (af at1) ai) (aa ai ae)))) ai) (af at3) (aH (bG (af at3) bF (dg (af at5))) (dP (aR (l:=[32]) rfl (by decide)) (li (af at2) (af at5)))))) ay))))).to (tfr (F:=Fx))) (by walk_at "3");have k64m3:=k64.mono 3;have k66:=F66.1.callee F66.2 ((F66.1.okF sx (k:=3) (g:=gC _ _) λ_ _ _ _ _ _ hr=>(ah (bw at4 sx.nd (uO rfl bg (aa (fb (ck (N':=["_law_k","_law_script","_law_at","_law_width"]) (ix:=[0,1,2]) cM rfl (gh rfl bH (aa (af at3) ae)) (λC s₂ H₂ fp=>(az k65 hr (aa (aZ at1) (aa (aH (aZ at2) (dP ai (aZ at0))) (aa (aZ at3) ae))))) (λC s₂ H₂ fp=>el))) ae))) (ah (aV (cS (aa (af at2) (aa (af at4) (aa (cS (aa (az k64m3 hr (aa (af at0) (aa (aH (af at1) ai) (aa (af at3) ae)))) (aa (az k64m3 hr (aa (af at0) (aa (aH (af at1) ai) (aa (aH (af at2) ai) ae)))) ae))) ae))))) ay))).to (tfr (F:=Ez))) (by walk_at "4");have k67:=F67.1.callee F67.2 ((F67.1.okF vA (k:=3) (g:=jc _ _) λ_ _ _ _ _ _ hr=>(ah (wM 3 vA.nd (eY ae)) (ah (lV p6 rfl (vU rfl bR (aD (af at2) ai)) (nu rfl (cu 4 vA.nd (cu 5 vA.nd jL))) (ah (bw at6 vA.nd (az k64m3 hr (aa (af at0) (aa (aH (af at1) (dP ai (af at4))) (aa ai ae))))) (ah (fA (lL hr.units (af at6) ai) (ah (bw at5 vA.nd (az k65 hr (aa (af at0) (aa (aH (aH (af at1) (dP ai (af at4))) ai) (aa (aD (af at2) ai) ae))))) ay) (ah (fA (BN (af at6) ai) (ah (bw at7 vA.nd (az k64m3 hr (aa (af at0) (aa (aH (aH (af at1) (dP ai (af at4))) ai) (aa (aD (af at2) ai) ae))))) (ah (bw at5 vA.nd (aH (aH (bG (af at5) bF (dg (af at7))) (aD (aR (l:=[97,98,32,35]) rfl (by decide)) (az k64m3 hr (aa (af at0) (aa (aH (aH (af at1) (dP ai (af at4))) ai) (aa ai ae)))))) (bG (af at5) (dg (aH (af at7) ai)) bF))) ay)) ay) ay)) (ah (sM 3 (sH (af at5) (aa (aR (l:=[32]) rfl (by decide)) ae))) ay))) (hn:=iY _)) (qT 3 (ah (aV (bG (af at3) bF (dg (li (cD rfl aP (aa (af at3) ae)) (az k64m3 hr (aa (af at0) (aa (aH (af at1) ai) (aa ai ae)))))))) ay))))).to (tfr (F:=L8))) (by walk_at "3");have k10:=F10.1.callee F10.2 ((F10.1.okF (P:=P) (w:=w) (base:=base) xh (k:=0) (g:=ji) λ_ _ _ _ _ _ hr=>(ah (aV (fW (wf ak (af at0) jQ) (iS (Fo (xB ak (af at0) mq))))) ay)).to vX) (by walk_at "1");have k11:=F11.1.callee F11.2 ((F11.1.okF sY (k:=1) (g:=iz _) λ_ _ _ _ _ _ hr=>(ah (aV (fW (az k10 hr (aa (af at0) ae)) (iS (rz (af at1) (af at0) (af at2))))) ay)).to tH) (by walk_at "3");have k12:=F12.1.callee F12.2 ((F12.1.okF (P:=P) (w:=w) (base:=base) vZ (k:=0) (g:=jj) λ_ _ _ _ _ _ hr=>(ah (aV (fW (vM ak (af at0) oO) (iS (Hy rfl rfl pf (aa (fb (ck (N':=["sign"]) (ix:=[]) cM rfl (dY (af at0)) (λC s₂ H₂ fp=>(rz (aR (l:=[32]) rfl (by decide)) (aZ at0) (aR (l:=[126]) rfl (by decide)))) (λC s₂ H₂ fp=>el))) ae))))) ay)).to wD) (by walk_at "1");have k16:=F16.1.callee F16.2 ((F16.1.okF mD (k:=1) (g:=er _) λ_ _ _ _ _ _ hr=>(ah (fA (gO (cZ (di (da (dR ak (af at0) bg))) (cP (di (wR ai (cD rfl aP (aa (af at0) ae)) (gw rfl cf)))))) (ah (aV gG) ay) ay) (ah (aV (Hy rfl rfl pf (aa (fb (ck (N':=["row","width"]) (ix:=[1]) cM rfl (dY (af at0)) (λC s₂ H₂ fp=>(fW (az k12 hr (aa (aZ at0) ae)) (iS (oh hr.units (cD rfl aP (aa (aZ at0) ae)) (aZ at1))))) (λC s₂ H₂ fp=>el))) ae))) ay))).to mB) (by walk_at "2");have k17:=F17.1.callee F17.2 ((F17.1.okF wj (k:=2) (g:=jn _) λ_ _ _ _ _ _ hr=>(ah (fA (gO (cZ (di (da (dR ak (af at0) bg))) (cP (fO hr.units (cD rfl aP (aa (af at0) ae)) ai)))) (ah (aV gG) ay) ay) (ah (aV (fW (az k11 hr (aa (aD (af at0) ai) (aa ai (aa (li (af at2) ai) ae)))) (iS (az k11 hr (aa (aD (af at0) ai) (aa ai (aa (af at1) ae))))))) ay))).to wK) (by walk_at "3");have k11m3:=k11.mono 3;have k16m3:=k16.mono 3;have k18:=F18.1.callee F18.2 ((F18.1.okF uJ (k:=3) (g:=iP _ _ _) λ_ _ _ _ _ _ hr=>(ah (fA (gO (cZ (di (da (dR ak (af at0) bg))) (cP (fO hr.units (cD rfl aP (aa (af at0) ae)) ai)))) (ah (aV gG) ay) ay) (ah (bw at1 uJ.nd (aD (af at0) ai)) (ah (fA (gO (cZ (di (da (az k11m3 hr (aa (af at1) (aa ai (aa (gw rfl bO) ae)))))) (cP (di (da (az k16m3 hr (aa (aD (af at0) ai) (aa (af at1) ae)))))))) (ah (aV gG) ay) ay) (ah (aV (az k17 hr (aa (aD (af at0) ai) (aa (af at1) (aa (cD rfl aP (aa (aD (af at0) ai) ae)) ae))))) ay))))).to ur) (by walk_at "1");have k19:=F19.1.callee F19.2 ((F19.1.okF nX (k:=4) (g:=eV _ _) λ_ _ _ _ _ _ hr=>(ah (fA (di (da (az k18 hr (aa (af at0) ae)))) (ah (lY fx hr.hd (aR (l:=[116,104,105,115,32,105,115,32,110,111,32,115,99,114,101,101,110]) rfl (by decide))) ay) ay) ay)).to pb) (by walk_at "1");have k12m5:=k12.mono 5;have k21:=F21.1.callee F21.2 ((F21.1.okF xg (k:=5) (g:=jy _ _) λ_ _ _ _ _ _ hr=>(ah (kU (az k19 hr (aa (af at0) ae))) (ah (fA (gO (cZ (di (da (xA ak (af at1) jd))) (cP (pS (cD rfl aP (aa (af at1) ae)) (cD rfl aP (aa (aD (af at0) ai) ae)))))) (ah (aV gG) ay) ay) (ah (aV (Hy rfl rfl pf (aa (fb (ck (N':=["row","screen"]) (ix:=[0]) cM rfl (dY (af at1)) (λC s₂ H₂ fp=>(fW (az k12m5 hr (aa (aZ at0) ae)) (iS (MB (cD rfl aP (aa (aZ at0) ae)) (aD (aZ at1) ai))))) (λC s₂ H₂ fp=>el))) ae))) ay)))).to (tfr (F:=arG _))) (by walk_at "2");have k22:=F22.1.callee F22.2 ((F22.1.okF sN (k:=6) (g:=gL _ _) λ_ _ _ _ _ _ hr=>(ah (fA (di (da (az k21 hr (aa (af at0) (aa (af at1) ae))))) (ah (lY fx hr.hd (aR (l:=[116,104,101,115,101,32,97,114,101,32,110,111,32,114,111,119,115,32,116,104,97,116,32,116,104,101,32,115,99,114,101,101,110,32,99,97,110,32,115,104,111,119]) rfl (by decide))) ay) ay) ay)).to (tfr (F:=crG _))) (by walk_at "2");have k23:=F23.1.callee F23.2 ((F23.1.okF (P:=P) (w:=w) (base:=base) tR (k:=0) (g:=iH) λ_ _ _ _ _ _ hr=>(ah (bw at2 tR.nd (aD (af at0) ai)) (ah (bw at3 tR.nd (li (cD rfl aP (aa (aD (af at0) ai) ae)) (cD rfl aP (aa (af at1) ae)))) (ah (aV (aH (fb (ck (N':=["row","width"]) (ix:=[2]) cM rfl (dY (af at1)) (λC s₂ H₂ fp=>(BC (aZ at0) (aa (aZ at1) ae))) (λC s₂ H₂ fp=>el))) (dP (dN (eY (aa (dP (aR (l:=[32]) rfl (by decide)) (af at2)) ae))) (af at3)))) ay)))).to (tfr (F:=frG))) (by walk_at "2");have k40:=F40.1.callee F40.2 ((F40.1.okF (P:=P) (w:=w) (base:=base) qM (k:=0) (g:=gM) λ_ _ _ _ _ _ hr=>(ah (fA (lL hr.units (aD (af at0) ai) (aR (l:=[115,97,121]) rfl (by decide))) (ah (aV (cD rfl aP (aa (aD (af at0) ai) ae))) ay) ay) (ah (fA (lL hr.units (aD (af at0) ai) (aR (l:=[103,111]) rfl (by decide))) (ah (aV (gw rfl fJ)) ay) ay) (ah (aV (gw rfl dH)) ay)))).to (tfr (F:=ocG))) (by walk_at "1");have k50:=F50.1.callee F50.2 ((F50.1.okF (P:=P) (w:=w) (base:=base) uT (k:=0) (g:=iI) λ_ _ _ _ _ _ hr=>(ah (aV (aD (af at0) ai)) ay)).to (tfr (F:=pcF))) (by walk_at "1");have k51:=Az F51.1 F51.2 (DH (P:=P) (w:=w) (mg:=mg) (base:=base) k50 C1 F51.1) (by walk_at "3") (n:=2) rfl;have k52:=Az F52.1 F52.2 (kK (P:=P) (w:=w) (mg:=mg) (base:=base) (k40.mono 2) k51 ko F52.1) (by walk_at "4") (n:=3) rfl;have k53:=F53.1.callee F53.2 (rW (P:=P) (w:=w) (base:=base) uy bc bA eF hX bi bM aJ aX k52 rC F53.1) (by walk_at "3");have k54:=F54.1.callee F54.2 (pe (P:=P) (w:=w) (base:=base) k52 (k51.mono 3) nq F54.1) (by walk_at "3");have k55:=F55.1.callee F55.2 ((F55.1.okF DA (k:=4) (g:=pH _ _) λ_ _ _ _ _ _ hr=>(ah (bw at5 DA.nd (af at0)) (ah (lV p6 rfl (Cv rfl bH (aa (af at4) (aa (cD rfl aP (aa (af at2) ae)) ae))) (dl 6 DA.nd) (ah (bw at5 DA.nd (az k54 hr (aa (az k53 hr (aa (af at5) (aa (af at1) (aa (af at6) ae)))) (aa (aD (af at2) (af at6)) (aa (aD (af at3) (af at6)) ae))))) ay)) (ah (aV (af at5)) ay)))).to (tfr (F:=swF))) (by walk_at "5");have k56:=F56.1.callee F56.2 ((F56.1.okF (P:=P) (w:=w) (base:=base) wC (k:=2) (g:=jq _) λ_ _ _ _ _ _ hr=>(ah (aV (Fu rfl rfl va k50 hr.in1 (fb (ck (N':=["state","plans"]) (ix:=[0]) cM rfl (dY (af at1)) (λC s₂ H₂ fp=>(tZ 1 hr.units (aZ at0))) (λC s₂ H₂ fp=>(oj (CN 1 hr.units (aZ at0)))))))) ay)).to (tfr (F:=chF))) (by walk_at "2");have k56m5:=k56.mono 5;have k57:=F57.1.callee F57.2 ((F57.1.okF iU (k:=5) (g:=cA _ _) λ_ _ _ _ _ _ hr=>(ah (bw at3 iU.nd (az k55 hr (aa (N2 hr.units (bn rfl bc bA) (bn rfl bQ dB)) (aa (af at0) (aa (af at1) (aa (af at2) (aa ai ae))))))) (ah (aV (az k56m5 hr (aa (af at3) (aa (cS (aa (bn rfl bc bA) (aa (bn rfl eF hX) (aa (bn rfl aJ aX) (aa (bn rfl bi bM) ae))))) ae)))) ay))).to (tfr (F:=peF))) (by walk_at "3");have k58:=F58.1.callee F58.2 ((F58.1.okF ly (k:=5) (g:=dC _ _) λ_ _ _ _ _ _ hr=>(ah (bw at4 ly.nd (az k55 hr (aa (N2 hr.units (bn rfl eF hX) (bn rfl bQ dB)) (aa (af at0) (aa (af at1) (aa (af at2) (aa (af at3) ae))))))) (ah (bw at5 ly.nd (az k56m5 hr (aa (af at4) (aa (cS (aa (bn rfl bc bA) (aa (bn rfl eF hX) (aa (bn rfl aJ aX) (aa (bn rfl bi bM) ae))))) ae)))) (ah (bw at4 ly.nd (az k55 hr (aa (N2 hr.units (bn rfl bc bA) (bn rfl bQ dB)) (aa (af at0) (aa (bG (af at1) bF (dg (af at3))) (aa (bG (af at2) bF (dg (af at3))) (aa ai ae))))))) (ah (bw at6 ly.nd (az k56m5 hr (aa (af at4) (aa (cS (aa (bn rfl bc bA) (aa (bn rfl eF hX) ae))) ae)))) (ah (aV (cS (aa (aH (aD (af at5) ai) (aD (af at6) ai)) (aa (aH (aD (af at5) ai) (aD (af at6) ai)) ae)))) ay)))))).to (tfr (F:=ppF))) (by walk_at "4");have k50m5:=k50.mono 5;have k59:=F59.1.callee F59.2 ((F59.1.okF jS (k:=6) (g:=cQ _ _ _) λ_ _ _ _ _ _ hr=>(ah (bw at4 jS.nd (dN (eY (aa (az k58 hr (aa (af at0) (aa (af at1) (aa (af at2) (aa (af at3) ae))))) (aa (az k57 hr (aa (af at0) (aa (af at1) (aa (af at2) ae)))) ae))))) (ah (aV (Fu rfl rfl va k50m5 hr.in1 (af at4))) ay))).to (tfr (F:=rpF))) (by walk_at "4");have k29:=F29.1.callee F29.2 ((F29.1.okF BX (k:=1) (g:=lG _) λ_ _ _ _ _ _ hr=>(ah (aV (fW (oh hr.units (cD rfl aP (aa (af at0) ae)) ai) (fW (oh hr.units (aD (af at0) ai) (aR (l:=[115,97,121]) rfl (by decide))) (fW (az k12 hr (aa (aD (af at0) ai) ae)) (iS (rz ai (cD rfl aP (aa (aD (af at0) ai) ae)) (gw rfl bZ))))))) ay)).to (tfr (F:=NY))) (by walk_at "1");have k30:=F30.1.callee F30.2 ((F30.1.okF CT (k:=2) (g:=nJ _) λ_ _ _ _ _ _ hr=>(ah (fA (gO (cZ (fO hr.units (cD rfl aP (aa (af at0) ae)) ai) (cP (fO hr.units (aD (af at0) ai) (aR (l:=[103,111]) rfl (by decide)))))) (ah (aV gG) ay) ay) (ah (aV (fW (az k11 hr (aa (aD (af at0) ai) (aa ai (aa (li (gw rfl cf) ai) ae)))) (iS (az k11 hr (aa (aD (af at0) ai) (aa ai (aa (gw rfl bO) ae))))))) ay))).to (tfr (F:=goG))) (by walk_at "1");have k29m3:=k29.mono 3;have k31:=F31.1.callee F31.2 ((F31.1.okF wZ (k:=3) (g:=jv _ _) λ_ _ _ _ _ _ hr=>(ah (fA (di (da (dR ak (af at0) bg))) (ah (aV gG) ay) ay) (ah (aV (KJ (az k29m3 hr (aa (af at0) ae)) (KJ (az k30 hr (aa (af at0) ae)) (iS (oh hr.units (af at0) (cS (aa (aR (l:=[119,105,112,101]) rfl (by decide)) ae))))))) ay))).to (tfr (F:=Mj))) (by walk_at "1");have k32:=F32.1.callee F32.2 ((F32.1.okF pY (k:=4) (g:=fE _ _) λ_ _ _ _ _ _ hr=>(ah (fA (di (da (az k31 hr (aa (af at0) ae)))) (ah (lY gY hr.hd (aR (l:=[116,104,105,115,32,105,115,32,110,111,32,111,114,100,101,114]) rfl (by decide))) ay) ay) ay)).to (tfr (F:=ckG _))) (by walk_at "1");have k33:=F33.1.callee F33.2 ((F33.1.okF pK (k:=5) (g:=eX _ _) λ_ _ _ _ _ _ hr=>(ah (fA (di (da (xA ak (af at0) jd))) (ah (lY gY hr.hd (aR (l:=[116,104,105,115,32,105,115,32,110,111,32,108,105,115,116,32,111,102,32,111,114,100,101,114,115]) rfl (by decide))) ay) ay) (ah (lV p6 rfl (dY (af at0)) (dl 1 pK.nd) (ah (kU (az k32 hr (aa (af at1) ae))) ay)) ay))).to (tfr (F:=G8 _))) (by walk_at "1");have k42:=F42.1.callee F42.2 ((F42.1.okF (P:=P) (w:=w) (base:=base) lP (k:=0) (g:=dU) λ_ _ _ _ _ _ hr=>(ah (fA (fO hr.units (aD (af at0) ai) (aD (af at1) ai)) (ah (aV mi) ay) ay) (ah (fA (fO hr.units (aD (af at0) ai) (aR (l:=[115,97,121]) rfl (by decide))) (ah (aV (af at1)) ay) ay) (ah (bw at2 lP.nd (aH (aD (af at0) ai) (aD (af at1) ai))) (ah (aV (qI (Jc (cD rfl aP (aa (af at2) ae)) (gw rfl bZ)) (cS (aa (aR (l:=[115,97,121]) rfl (by decide)) (aa (af at2) ae))) mi)) ay))))).to (tfr (F:=jnG))) (by walk_at "2");have k42m6:=k42.mono 6;have k43:=F43.1.callee F43.2 ((F43.1.okF uU (k:=6) (g:=iM _ _) λ_ _ _ _ _ _ hr=>(ah (kU (az k33 hr (aa (af at0) ae))) (ah (wM 1 uU.nd (eY ae)) (ah (lV p6 rfl (dY (af at0)) (dl 2 uU.nd) (ah (E8 1 3 uU.nd (qI (pS (cD rfl aP (aa (af at1) ae)) ai) (az k42m6 hr (aa (aD (af at1) (GU ai)) (aa (af at2) ae))) mi)) (ah (fA (IH (af at3) mi) (ah (sM 1 (af at2)) ay) (ah (Lr 1 (af at3) (GU ai)) ay)) ay))) (qT 1 (ah (aV (af at1)) ay)))))).to (tfr (F:=shG _))) (by walk_at "1");have k23m7:=k23.mono 7;have k57m7:=k57.mono 7;have k60:=F60.1.callee F60.2 ((F60.1.okF Ei (k:=7) (g:=oU _ _ _ _ _) λ_ _ _ _ _ _ hr=>(ah (kU (az k22 hr (aa (af at0) (aa (af at1) ae)))) (ah (bw at2 Ei.nd (az k23m7 hr (aa (af at0) (aa (af at1) ae)))) (ah (bw at3 Ei.nd (aD (aD (af at0) ai) ai)) (ah (wM 4 Ei.nd (zB rfl jd (aa (aD (az k59 hr (aa (af at3) (aa (aD (aD (af at0) ai) (af at3)) (aa (aD (af at2) (af at3)) (aa (aD (aD (af at0) ai) ai) ae))))) ai) ae))) (ah (lV p6 rfl (vU rfl bR (aD (af at0) ai)) (nu rfl (cu 5 Ei.nd (cu 6 Ei.nd jL))) (ah (fA (fO hr.units (af at5) (af at3)) (ah (Kj 4 (aD (az k57m7 hr (aa (af at5) (aa (af at6) (aa (aD (af at2) (af at5)) ae)))) ai)) ay) ay) ay) (hn:=iY _)) (qT 4 (ah (aV (az k43 hr (aa (af at4) ae))) ay)))))))).to (tfr (F:=leF _ _))) (by walk_at "2");have k40m6:=k40.mono 6;have k41:=F41.1.callee F41.2 ((F41.1.okF HE (k:=6) (g:=qP _ _) λ_ _ _ _ _ _ hr=>(ah (kU (az k33 hr (aa (af at0) ae))) (ah (aV (GY rfl rfl rO (aa (fb (ck (N':=["order"]) (ix:=[]) cM rfl (dY (af at0)) (λC s₂ H₂ fp=>(az k40m6 hr (aa (aZ at0) ae))) (λC s₂ H₂ fp=>el))) ae))) ay))).to (tfr (F:=coG _))) (by walk_at "1");have k41m8:=k41.mono 8;have k61:=F61.1.callee F61.2 ((F61.1.okF qV (k:=8) (g:=gD _ _) λ_ _ _ _ _ _ hr=>(ah (aV (az k41m8 hr (aa (az k60 hr (aa (af at0) (aa (af at1) ae))) ae))) ay)).to (tfr (F:=mh _ _))) (by walk_at "2");have k78:=F78.1.callee F78.2 ((xc (P:=P) (w:=w) (base:=base) eJ ak Er F78.1).to (wG nd)) (by walk_at "1");have k60m9:=k60.mono 9;have k78m9:=k78.mono 9;have k79:=F79.1.callee F79.2 ((F79.1.okF B9 (k:=9) (g:=fw _ _ _ _) λ_ _ _ _ _ _ hr=>(ah (bw at3 B9.nd mi) (ah (bw at4 B9.nd mi) (ah (N3 5 Er B9.nd rfl rfl rfl rfl (λpn xe=>(ah (KB at4 B9.nd (qI (lL hr.units (tB at0) ai) (az k60m9 hr (aa (tB at1) (aa (tB at2) ae))) (az k61 hr (aa (tB at1) (aa (tB at2) ae))))) ay)) (λa xe=>(ah (Jl at3 B9.nd (Ko at5)) ay))) (ah (fA (IH (af at3) mi) (ah (aV (af at4)) ay) ay) (ah (aV (az k78m9 hr (aa (af at3) ae))) ay)))))).to (Ah nd)) (by walk_at "3");have k34:=F34.1.callee F34.2 ((F34.1.okF (P:=P) (w:=w) (base:=base) jT (k:=0) (g:=cV) λ_ _ _ _ _ _ hr=>(ah (bw at3 jT.nd (aD (aD (af at0) ai) ai)) (ah (bw at4 jT.nd (aH (aH (bG (aD (af at0) ai) bF (dg (af at3))) (cS (aa (af at1) ae))) (bG (aD (af at0) ai) (dg (aH (af at3) ai)) bF))) (ah (aV (cS (aa (aD (af at0) ai) (aa (af at4) (aa (cS (aa (af at3) (aa (af at2) ae))) ae))))) ay)))).to (tfr (F:=wrG))) (by walk_at "3");have k35:=F35.1.callee F35.2 ((F35.1.okF uL (k:=1) (g:=iG _ _) λ_ _ _ _ _ _ hr=>(ah (bw at2 uL.nd (aD (aD (af at0) ai) (aD (aD (af at0) ai) ai))) (ah (bw at3 uL.nd (aD (aD (af at0) ai) ai)) (ah (bw at4 uL.nd (aH (af at3) (cD rfl aP (aa (af at1) ae)))) (ah (fA (pS (af at4) (aD (af at0) ai)) (ah (lY jM hr.hd (aR (l:=[116,104,101,32,116,101,120,116,32,105,115,32,119,105,100,101,114,32,116,104,97,110,32,119,104,97,116,32,105,115,32,108,101,102,116,32,111,102,32,116,104,101,32,114,111,119]) rfl (by decide))) ay) ay) (ah (aV (az k34 hr (aa (af at0) (aa (aH (aH (bG (af at2) bF (dg (af at3))) (af at1)) (bG (af at2) (dg (af at4)) bF)) (aa (af at4) ae))))) ay)))))).to (tfr (F:=asG _))) (by walk_at "2");have k36:=F36.1.callee F36.2 ((F36.1.okF (P:=P) (w:=w) (base:=base) wk (k:=0) (g:=jo _) λ_ _ _ _ _ _ hr=>(ah (fA (gO (cZ (N9 (af at1) (cD rfl aP (aa (aD (af at0) ai) ae))) (cP (pS (af at2) (aD (af at0) ai))))) (ah (lY jM hr.hd (aR (l:=[116,104,101,32,115,99,114,101,101,110,32,100,111,101,115,32,110,111,116,32,104,97,118,101,32,116,104,105,115,32,112,108,97,99,101]) rfl (by decide))) ay) ay) (ah (aV (cS (aa (aD (af at0) ai) (aa (aD (af at0) ai) (aa (cS (aa (af at1) (aa (af at2) ae))) ae))))) ay))).to (tfr (F:=agG _))) (by walk_at "3");have k37:=F37.1.callee F37.2 ((F37.1.okF sA (k:=1) (g:=gK _) λ_ _ _ _ _ _ hr=>(ah (bw at1 sA.nd (aD (aD (af at0) ai) (aD (aD (af at0) ai) ai))) (ah (bw at2 sA.nd (aD (aD (af at0) ai) ai)) (ah (aV (az k34 hr (aa (af at0) (aa (BC (bG (af at1) bF (dg (af at2))) (aa (aD (af at0) ai) ae)) (aa (af at2) ae))))) ay)))).to (tfr (F:=awG))) (by walk_at "1");have k36m2:=k36.mono 2;have k38:=F38.1.callee F38.2 ((F38.1.okF pZ (k:=2) (g:=fI _ _ _) λ_ _ _ _ _ _ hr=>(ah (fA (lL hr.units (aD (af at1) ai) (aR (l:=[115,97,121]) rfl (by decide))) (ah (aV (az k35 hr (aa (af at0) (aa (aD (af at1) ai) ae)))) ay) ay) (ah (fA (lL hr.units (aD (af at1) ai) (aR (l:=[103,111]) rfl (by decide))) (ah (aV (az k36m2 hr (aa (af at0) (aa (aD (af at1) ai) (aa (aD (af at1) ai) ae))))) ay) ay) (ah (aV (az k37 hr (aa (af at0) ae))) ay)))).to (tfr (F:=aoG _))) (by walk_at "2");have k19m6:=k19.mono 6;have k38m6:=k38.mono 6;have k39:=F39.1.callee F39.2 ((F39.1.okF vo (k:=6) (g:=iW _ _ _) λ_ _ _ _ _ _ hr=>(ah (kU (az k19m6 hr (aa (af at0) ae))) (ah (kU (az k33 hr (aa (af at1) ae))) (ah (bw at2 vo.nd (af at0)) (ah (lV p6 rfl (dY (af at1)) (dl 3 vo.nd) (ah (bw at2 vo.nd (az k38m6 hr (aa (af at2) (aa (af at3) ae)))) ay)) (ah (aV (af at2)) ay)))))).to (tfr (F:=adG _ _ _))) (by walk_at "2");have k70:=F70.1.callee F70.2 ((F70.1.okF (P:=P) (w:=w) (base:=base) vw (k:=0) (g:=jw) λ_ _ _ _ _ _ hr=>(ah (Br 2 vw.nd (N':=["_law_row_here","_law_screen_here"]) (ix:=[0]) cM rfl (dY (af at1)) (λC s₂ H₂ fp=>(aH (aZ at0) (dP (aR (l:=[32]) rfl (by decide)) (li (aD (aZ at1) ai) (cD rfl aP (aa (aZ at0) ae)))))) (λC s₂ H₂ fp=>el)) (qT 2 (ah (aV (uO rfl bg (aa (aH (af at2) (dP (dN (eY (aa (dP (aR (l:=[32]) rfl (by decide)) (aD (af at0) ai)) ae))) (li (cD rfl aP (aa (aD (af at0) ai) ae)) (cD rfl aP (aa (af at1) ae))))) ae))) ay)))).to (tfr (F:=Nr))) (by walk_at "2");have k24:=F24.1.callee F24.2 ((F24.1.okF nN (k:=7) (g:=eR _ _) λ_ _ _ _ _ _ hr=>(ah (kU (az k22 hr (aa (af at0) (aa (af at1) ae)))) (ah (wM 2 nN.nd (eY ae)) (ah (lV p6 rfl (vU rfl bR (az k23m7 hr (aa (af at0) (aa (af at1) ae)))) (nu rfl (cu 3 nN.nd (cu 4 nN.nd jL))) (ah (bw at5 nN.nd (aD (aD (af at0) ai) (af at3))) (ah (mV 2 (fb (ck (N':=["column","number","row","own"]) (ix:=[3,4,5]) cM rfl (gh rfl bH (aa (aD (af at0) ai) ae)) (λC s₂ H₂ fp=>(cS (aa (aZ at1) (aa (aZ at0) ae)))) (λC s₂ H₂ fp=>(oj (fO hr.units (aD (aZ at3) (aZ at0)) (aD (aZ at2) (aZ at0)))))))) ay)) (hn:=iY _)) (qT 2 (ah (aV (af at2)) ay)))))).to (tfr (F:=usG _))) (by walk_at "2");have k69:=F69.1.callee F69.2 ((F69.1.okF (P:=P) (w:=w) (base:=base) xj (k:=0) (g:=jh) λ_ _ _ _ _ _ hr=>(ah (bw at1 xj.nd ai) (ah (lV p6 rfl (dY (af at0)) (dl 2 xj.nd) (ah (bw at1 xj.nd (aH (af at1) (qI (lL hr.units (aD (af at2) ai) (aR (l:=[115,97,121]) rfl (by decide))) (cD rfl aP (aa (aD (af at2) ai) ae)) (aH ai (Gk rfl jQ (aa (oh hr.units (aD (af at2) ai) (aR (l:=[103,111]) rfl (by decide))) ae)))))) ay)) (ah (aV (af at1)) ay)))).to (tfr (F:=lcL))) (by walk_at "1");have k20:=F20.1.callee F20.2 ((F20.1.okF Dz (k:=5) (g:=oK _) λ_ _ _ _ _ _ hr=>(ah (kU (az k19 hr (aa (af at0) ae))) (ah (aV (fb (ck (N':=["row"]) (ix:=[]) cM rfl (dY (aD (af at0) ai)) (λC s₂ H₂ fp=>(sH (aZ at0) (aa (aR (l:=[32]) rfl (by decide)) ae))) (λC s₂ H₂ fp=>el)))) ay))).to (tfr (F:=NM _))) (by walk_at "1");have k71:=jW (P:=P) (w:=w) (base:=base) ak aP bH bg F71.1 F71.2 4;have k72:=nR (P:=P) (w:=w) (base:=base)  F72.1 F72.2 4;have k73:=F73.1.callee F73.2 ((ki jQ ak aP oO bg k71 (k64.mono 5) k72 F73.1).to ky) (by walk_at "3");have k74:=F74.1.callee F74.2 ((F74.1.okF (P:=P) (w:=w) (base:=base) uX (k:=0) (g:=iy) λ_ _ _ _ _ _ hr=>(ah (aV (fW (wf ak (af at0) jQ) (fW (Fo (xB ak (af at0) mq)) (iS (rz (af at1) (af at0) (af at2)))))) ay)).to sZ) (by walk_at "3");have k75:=F75.1.callee F75.2 ((F75.1.okF (P:=P) (w:=w) (base:=base) oE (k:=0) (g:=eT) λ_ _ _ _ _ _ hr=>(ah (aV (fW (vM ak (af at0) oO) (iS (oh hr.units (fb (ck (N':=["_law_sign"]) (ix:=[]) cM rfl (dY (af at0)) (λC s₂ H₂ fp=>(aZ at0)) (λC s₂ H₂ fp=>(oj (di (wR ai (Mw rfl Bc (aa (aZ at0) ae)) ai)))))) (dN (eY ae)))))) ay)).to nc) (by walk_at "1");have k76:=F76.1.callee F76.2 ((F76.1.okF mG (k:=1) (g:=eD _ _) λ_ _ _ _ _ _ hr=>(ah (fA (gO (cZ (di (da (dR ak (af at0) bg))) (cZ (fO hr.units (cD rfl aP (aa (af at0) ae)) ai) (cP (di (da (az k74 hr (aa (aD (af at0) ai) (aa ai (aa ai ae)))))))))) (ah (aV gG) ay) ay) (ah (FL (af at0) rfl (cu 1 mG.nd (cu 2 mG.nd (cu 3 mG.nd jL)))) (ah (fA (gO (cZ (di (da (dR ak (af at2) bg))) (cP (di (wR ai (cD rfl aP (aa (af at2) ae)) ai))))) (ah (aV gG) ay) ay) (ah (fA (fO hr.units (fb (ck (N':=["_law_row_here","_law_width"]) (ix:=[1]) cM rfl (dY (af at2)) (λC s₂ H₂ fp=>(aZ at0)) (λC s₂ H₂ fp=>(oj (gO (cZ (di (da (az k75 hr (aa (aZ at0) ae)))) (cP (fO hr.units (cD rfl aP (aa (aZ at0) ae)) (aZ at1))))))))) (dN (eY ae))) (ah (aV gG) ay) ay) (ah (fA (gO (cZ (di (da (dR ak (af at3) bg))) (cP (fO hr.units (cD rfl aP (aa (af at3) ae)) ai)))) (ah (aV gG) ay) ay) (ah (aV (fW (az k74 hr (aa (aD (af at3) ai) (aa ai (aa (li (cD rfl aP (aa (af at2) ae)) ai) ae)))) (iS (az k74 hr (aa (aD (af at3) ai) (aa ai (aa (af at1) ae))))))) ay))))))).to mF) (by walk_at "1");exact(Jf aP bH rO (k64.mono 10) (k66.mono 10) (k67.mono 10) k79 (k39.mono 10) (k70.mono 10) (k24.mono 10) (k69.mono 10) (k61.mono 10) (k20.mono 10) (k41.mono 10) (k73.mono 10) (k76.mono 10) F80.1).to (J3 (M0 nd))
end G20
namespace PySem.W.Fast
theorem tw9855585488139425098:True:=⟨⟩
theorem tw9803119304976547159:True:=⟨⟩
theorem tw9723049826097246514:True:=⟨⟩
theorem tw9642748218826525240:True:=⟨⟩
theorem tw9627046766780460753:True:=⟨⟩
theorem tw9556611543896878462:True:=⟨⟩
theorem tw9498454527312844935:True:=⟨⟩
theorem tw9145644629614036181:True:=⟨⟩
theorem tw9117136620945282909:True:=⟨⟩
theorem tw889442152613050899:True:=⟨⟩
theorem tw8734284566026185088:True:=⟨⟩
theorem tw8733848443226192025:True:=⟨⟩
theorem tw859053272068750388:True:=⟨⟩
theorem tw8360141148745038256:True:=⟨⟩
theorem tw8280074452148140089:True:=⟨⟩
theorem tw8164476417868097037:True:=⟨⟩
theorem tw8086245027399135925:True:=⟨⟩
theorem tw792125177677061967:True:=⟨⟩
theorem tw790889815322833949:True:=⟨⟩
theorem tw7730440534163062008:True:=⟨⟩
theorem tw7536791010756514634:True:=⟨⟩
theorem tw746349495570439202:True:=⟨⟩
theorem tw7337074109074083516:True:=⟨⟩
theorem tw7231407128906850256:True:=⟨⟩
theorem tw7142054925933916769:True:=⟨⟩
theorem tw6954687324323615752:True:=⟨⟩
theorem tw6907579256311098615:True:=⟨⟩
theorem tw6856535551277794049:True:=⟨⟩
theorem tw6851631279360743832:True:=⟨⟩
theorem tw6607603893466647196:True:=⟨⟩
theorem tw6583691611906245528:True:=⟨⟩
theorem tw657776061058935683:True:=⟨⟩
theorem tw6568842448664106165:True:=⟨⟩
theorem tw6376194473644213615:True:=⟨⟩
theorem tw6161626192965774890:True:=⟨⟩
theorem tw5952424304368129981:True:=⟨⟩
theorem tw5918043411761630011:True:=⟨⟩
theorem tw5912823750858750913:True:=⟨⟩
theorem tw5818863812790130782:True:=⟨⟩
theorem tw5539730604398594544:True:=⟨⟩
theorem tw4767594756961338600:True:=⟨⟩
theorem tw4714607468171413503:True:=⟨⟩
theorem tw4671408730373436357:True:=⟨⟩
theorem tw4596588724581713645:True:=⟨⟩
theorem tw4522936006619262857:True:=⟨⟩
theorem tw4515341085704983452:True:=⟨⟩
theorem tw4498809877255857025:True:=⟨⟩
theorem tw4375032483771465802:True:=⟨⟩
theorem tw4327206505214029990:True:=⟨⟩
theorem tw4273253643751436042:True:=⟨⟩
theorem tw422928287077612512:True:=⟨⟩
theorem tw4205826494728199755:True:=⟨⟩
theorem tw4171660941276634904:True:=⟨⟩
theorem tw4153501414367629330:True:=⟨⟩
theorem tw4144317447332960730:True:=⟨⟩
theorem tw3992029913383302884:True:=⟨⟩
theorem tw3753424879376331117:True:=⟨⟩
theorem tw3659049633012613046:True:=⟨⟩
theorem tw3617512687139294417:True:=⟨⟩
theorem tw3541420238394574161:True:=⟨⟩
theorem tw3452942114465737515:True:=⟨⟩
theorem tw3267739000652261947:True:=⟨⟩
theorem tw3237651683665893083:True:=⟨⟩
theorem tw3150604739917314290:True:=⟨⟩
theorem tw2944031061629469236:True:=⟨⟩
theorem tw2939830538744082424:True:=⟨⟩
theorem tw2788649201075462786:True:=⟨⟩
theorem tw2532618551666650229:True:=⟨⟩
theorem tw2516911117044125371:True:=⟨⟩
theorem tw2322540031338397964:True:=⟨⟩
theorem tw2246811198354089637:True:=⟨⟩
theorem tw2222153550824957059:True:=⟨⟩
theorem tw18376610287397805324:True:=⟨⟩
theorem tw18125531551362658661:True:=⟨⟩
theorem tw17986056132923614338:True:=⟨⟩
theorem tw17854148017283579873:True:=⟨⟩
theorem tw17853997970926602344:True:=⟨⟩
theorem tw17805287535628294922:True:=⟨⟩
theorem tw17772755993039371572:True:=⟨⟩
theorem tw17712788404843646140:True:=⟨⟩
theorem tw17278265666520333338:True:=⟨⟩
theorem tw17259287207804234061:True:=⟨⟩
theorem tw17162997131769499582:True:=⟨⟩
theorem tw16740257157036872571:True:=⟨⟩
theorem tw16666012501397639020:True:=⟨⟩
theorem tw16477072926262786858:True:=⟨⟩
theorem tw16475016795514026010:True:=⟨⟩
theorem tw16423470240111197397:True:=⟨⟩
theorem tw16247436966224797188:True:=⟨⟩
theorem tw16044965752346063229:True:=⟨⟩
theorem tw15807837186877290424:True:=⟨⟩
theorem tw15694165162323324150:True:=⟨⟩
theorem tw1561881461955844020:True:=⟨⟩
theorem tw15612949727415835497:True:=⟨⟩
theorem tw1559669258868299967:True:=⟨⟩
theorem tw1526761450578141783:True:=⟨⟩
theorem tw14783589935363518029:True:=⟨⟩
theorem tw14695699316206061631:True:=⟨⟩
theorem tw14638936182078655457:True:=⟨⟩
theorem tw14633834638525002253:True:=⟨⟩
theorem tw14585209528419522469:True:=⟨⟩
theorem tw1426402596343885630:True:=⟨⟩
theorem tw14102289567723237821:True:=⟨⟩
theorem tw14039245167048603388:True:=⟨⟩
theorem tw13964868217312703622:True:=⟨⟩
theorem tw13887801850926350150:True:=⟨⟩
theorem tw13858026024086693824:True:=⟨⟩
theorem tw13585323549355384618:True:=⟨⟩
theorem tw13243486778839892427:True:=⟨⟩
theorem tw13180294244720249230:True:=⟨⟩
theorem tw12713350536116186226:True:=⟨⟩
theorem tw12668773981732251614:True:=⟨⟩
theorem tw12662755383896209380:True:=⟨⟩
theorem tw12538435851098383203:True:=⟨⟩
theorem tw12450103177216647357:True:=⟨⟩
theorem tw12204132179535735035:True:=⟨⟩
theorem tw1213074408179078802:True:=⟨⟩
theorem tw12124735178574818849:True:=⟨⟩
theorem tw12122268202385907675:True:=⟨⟩
theorem tw1209535210087080545:True:=⟨⟩
theorem tw11645019628886889172:True:=⟨⟩
theorem tw1110566147263384050:True:=⟨⟩
theorem tw10950384878707958394:True:=⟨⟩
theorem tw10694224004286315394:True:=⟨⟩
theorem tw10655077541084101509:True:=⟨⟩
theorem tw10413066136674541869:True:=⟨⟩
theorem tw10339741889981268814:True:=⟨⟩
theorem tw10143329074517126071:True:=⟨⟩
theorem tw10101631932311332912:True:=⟨⟩
theorem tw9547993039962343104:True:=⟨⟩
theorem tw7791647571482161920:True:=⟨⟩
theorem tw4738350810357397729:True:=⟨⟩
theorem tw12587481854798567234:True:=⟨⟩
theorem tw8152760448610724902:True:=⟨⟩
theorem tw13492410032288202438:True:=⟨⟩
theorem tw3904957711406897512:True:=⟨⟩
theorem tw11361678808498733748:True:=⟨⟩
theorem tw5141213035937850646:True:=⟨⟩
theorem tw6162477002819871254:True:=⟨⟩
theorem tw16439504894440524343:True:=⟨⟩
theorem tw1756007077010543672:True:=⟨⟩
theorem tw7088417462817941560:True:=⟨⟩
theorem tw6788660638766998619:True:=⟨⟩
theorem tw12661493464803097371:True:=⟨⟩
theorem tw13479339030117295516:True:=⟨⟩
theorem tw8398468558403123774:True:=⟨⟩
end PySem.W.Fast
open PySem PySem.W PyProof.Rows
set_option maxRecDepth 100000 in
set_option maxHeartbeats 0 in
theorem PySem.Challenge.cw_screenlines_k20_whole_least_holds : PySem.Challenge.rw_screenlines_k20_whole_least.Holds := by
 w_on;o_law;k_head;(case hw=>w_witness2)
 k_fill
 refine Q.PR (l:=PySem.Challenge.rw_screenlines_k20_whole_least) (L:=11) ⟨rfl,by decide,by decide⟩ rfl rfl (λw h Y=>PySem.W.kIn_of Y) ?F
 case F=>
  intro w mg fa h KX G hmg;have eJ:mg "ValueError"=none:=sT KX G (by k_is);have pf:mg "all"=none:=sT KX G (by k_is);have mq:mg "bool"=none:=sT KX G (by k_is);have uy:mg "dict"=none:=sT KX G (by k_is);have bR:mg "enumerate"=none:=sT KX G (by k_is);have jQ:mg "int"=none:=sT KX G (by k_is);have ak:mg "isinstance"=none:=sT KX G (by k_is);have aP:mg "len"=none:=sT KX G (by k_is);have jd:mg "list"=none:=sT KX G (by k_is);have va:mg "min"=none:=sT KX G (by k_is);have Bc:mg "ord"=none:=sT KX G (by k_is);have bH:mg "range"=none:=sT KX G (by k_is);have oO:mg "str"=none:=sT KX G (by k_is);have rO:mg "sum"=none:=sT KX G (by k_is);have bg:mg "tuple"=none:=sT KX G (by k_is);have bc:=Q.pC (x:="ELSEWHERE") KX G (by k_is) (Q.lM (vs:=[L2.V.bl false,L2.V.bl false]) (by k_is) (by decide) (.cons rfl (.cons rfl .nil)) (λ_=>(.cons (.bl _) (.cons (.bl _) .nil))));have aJ:=Q.pC (x:="ELSEWHERE_WIPED") KX G (by k_is) (Q.lM (vs:=[L2.V.bl false,L2.V.bl true]) (by k_is) (by decide) (.cons rfl (.cons rfl .nil)) (λ_=>(.cons (.bl _) (.cons (.bl _) .nil))));have fJ:∃t,mg "GO_COST"=some (.int 2 t):=⟨_,o4 KX G (by k_is)⟩
  have eF:=Q.pC (x:="HERE") KX G (by k_is) (Q.lM (vs:=[L2.V.bl true,L2.V.bl false]) (by k_is) (by decide) (.cons rfl (.cons rfl .nil)) (λ_=>(.cons (.bl _) (.cons (.bl _) .nil))));have bi:=Q.pC (x:="HERE_WIPED") KX G (by k_is) (Q.lM (vs:=[L2.V.bl true,L2.V.bl true]) (by k_is) (by decide) (.cons rfl (.cons rfl .nil)) (λ_=>(.cons (.bl _) (.cons (.bl _) .nil))));have cf:∃t,mg "MOST_ROWS"=some (.int 12 t):=⟨_,o4 KX G (by k_is)⟩
  have bZ:∃t,mg "MOST_SAID"=some (.int 40 t):=⟨_,o4 KX G (by k_is)⟩
  have bO:∃t,mg "MOST_WIDTH"=some (.int 40 t):=⟨_,o4 KX G (by k_is)⟩
  have bQ:=Q.pC (x:="NO_ORDERS") KX G (by k_is) (Q.lM (vs:=[L2.V.int 0,L2.V.ref _]) (by k_is) (by decide) (.cons ⟨_,rfl⟩ (.cons rfl .nil)) (λ_=>(.cons (.int _) (.cons (Q.lM (vs:=[]) (by k_is) (by decide) .nil (λ_=>.nil) _) .nil))));have dH:∃t,mg "WIPE_COST"=some (.int 1 t):=⟨_,o4 KX G (by k_is)⟩
  have h63:=Q.aU (x:="_law_cell") (st:=G20.top 63) KX G;have h64:=Q.aU (x:="_law_pick") (st:=G20.top 64) KX G;have h65:=Q.aU (x:="_law_row") (st:=G20.top 65) KX G;have h66:=Q.aU (x:="_law_screen") (st:=G20.top 66) KX G;have h67:=Q.aU (x:="_law_goal") (st:=G20.top 67) KX G;have h10:=Q.aU (x:="is_whole") (st:=G20.top 10) KX G;have h11:=Q.aU (x:="is_within") (st:=G20.top 11) KX G;have h12:=Q.aU (x:="is_plain") (st:=G20.top 12) KX G;have h16:=Q.aU (x:="are_full_rows") (st:=G20.top 16) KX G;have h17:=Q.aU (x:="is_place") (st:=G20.top 17) KX G;have h18:=Q.aU (x:="is_screen") (st:=G20.top 18) KX G;have h19:=Q.aU (x:="check_screen") (st:=G20.top 19) KX G;have h21:=Q.aU (x:="are_rows") (st:=G20.top 21) KX G;have h22:=Q.aU (x:="check_rows") (st:=G20.top 22) KX G;have h23:=Q.aU (x:="full_rows") (st:=G20.top 23) KX G;have h40:=Q.aU (x:="order_cost") (st:=G20.top 40) KX G;have h50:=Q.aU (x:="plan_cost") (st:=G20.top 50) KX G;have h51:=Q.aU (x:="offer") (st:=G20.top 51) KX G;have h52:=Q.aU (x:="offer_with_order") (st:=G20.top 52) KX G;have h53:=Q.aU (x:="with_moves") (st:=G20.top 53) KX G;have h54:=Q.aU (x:="stepped_over") (st:=G20.top 54) KX G;have h55:=Q.aU (x:="swept") (st:=G20.top 55) KX G;have h56:=Q.aU (x:="cheapest") (st:=G20.top 56) KX G;have h57:=Q.aU (x:="plan_from_elsewhere") (st:=G20.top 57) KX G;have h58:=Q.aU (x:="plan_from_place") (st:=G20.top 58) KX G;have h59:=Q.aU (x:="row_of_place_plan") (st:=G20.top 59) KX G;have h29:=Q.aU (x:="is_say") (st:=G20.top 29) KX G;have h30:=Q.aU (x:="is_go") (st:=G20.top 30) KX G;have h31:=Q.aU (x:="is_order") (st:=G20.top 31) KX G;have h32:=Q.aU (x:="check_order") (st:=G20.top 32) KX G;have h33:=Q.aU (x:="check_orders") (st:=G20.top 33) KX G;have h42:=Q.aU (x:="joined_or_none") (st:=G20.top 42) KX G;have h43:=Q.aU (x:="shortened") (st:=G20.top 43) KX G;have h60:=Q.aU (x:="least") (st:=G20.top 60) KX G;have h41:=Q.aU (x:="cost") (st:=G20.top 41) KX G;have h61:=Q.aU (x:="least_cost") (st:=G20.top 61) KX G;have h78:=Q.aU (x:="_law_word") (st:=G20.top 78) KX G;have h79:=Q.aU (x:="_law_do") (st:=G20.top 79) KX G;have h34:=Q.aU (x:="with_row_at_place") (st:=G20.top 34) KX G;have h35:=Q.aU (x:="after_say") (st:=G20.top 35) KX G;have h36:=Q.aU (x:="after_go") (st:=G20.top 36) KX G;have h37:=Q.aU (x:="after_wipe") (st:=G20.top 37) KX G;have h38:=Q.aU (x:="after_order") (st:=G20.top 38) KX G;have h39:=Q.aU (x:="all_done") (st:=G20.top 39) KX G;have h70:=Q.aU (x:="_law_full") (st:=G20.top 70) KX G;have h24:=Q.aU (x:="unlike_spots") (st:=G20.top 24) KX G;have h69:=Q.aU (x:="_law_cost") (st:=G20.top 69) KX G;have h20:=Q.aU (x:="shown") (st:=G20.top 20) KX G;have h71:=Q.aU (x:="_law_places") (st:=G20.top 71) KX G;have h72:=Q.aU (x:="_law_put") (st:=G20.top 72) KX G;have h73:=Q.aU (x:="_law_spoilt_thing") (st:=G20.top 73) KX G;have h74:=Q.aU (x:="_law_whole") (st:=G20.top 74) KX G;have h75:=Q.aU (x:="_law_is_plain") (st:=G20.top 75) KX G;have h76:=Q.aU (x:="_law_is_screen") (st:=G20.top 76) KX G;have h80:=Q.aU (x:="law") (st:=G20.top 80) KX G
  refine' G20.Kq (P:=_) (w:=w) (K:=L2.KOf KX) hmg eJ pf mq uy bR jQ ak aP jd va Bc bH oO rO bg bc aJ fJ eF bi cf bZ bO bQ dH ?nZ ?nz ?qG ?qH ?lQ ?mf ?nd (Q.FZ KX G ?vH ?h1 ?h2 ?tL ?yL ?lb) h63 h64 h65 h66 h67 h10 h11 h12 h16 h17 h18 h19 h21 h22 h23 h40 h50 h51 h52 h53 h54 h55 h56 h57 h58 h59 h29 h30 h31 h32 h33 h42 h43 h60 h41 h61 h78 h79 h34 h35 h36 h37 h38 h39 h70 h24 h69 h20 h71 h72 h73 h74 h75 h76 h80
  all_goals (try dsimp only[L2.KOf])
  (case nZ=>k_is)
  (case qG=>k_is)
  (case lQ=>k_is)
  (case vH=>k_is)
  (case h1=>dsimp only[Q.TsOk];exact⟨by k_is,⟨_,by k_is⟩,by k_is,by k_is,⟨_,by k_is⟩,by k_is,by k_is,⟨_,by k_is⟩,by k_is,by k_is,⟨_,by k_is⟩,by k_is,by k_is,⟨_,by k_is⟩,by k_is,by k_is,⟨_,by k_is⟩,by k_is,by k_is,⟨_,by k_is⟩,by k_is,trivial⟩)
  (case h2=>dsimp only[Q.RsOk,Q.SubOk];exact⟨Q.zX (by k_is) (by k_is) (by k_is) (by k_is) (by k_is) (by k_is) (by k_is) (by k_is),⟨.inr (by k_is),.inl rfl,.inr (by k_is),.inr (by k_is),.inr (by k_is),.inr (by k_is),.inr (by k_is),trivial⟩,by k_is,by k_is,Q.zX (by k_is) (by k_is) (by k_is) (by k_is) (by k_is) (by k_is) (by k_is) (by k_is),⟨.inr (by k_is),.inr (by k_is),.inl rfl,.inr (by k_is),.inr (by k_is),.inr (by k_is),.inr (by k_is),trivial⟩,by k_is,by k_is,Q.zX (by k_is) (by k_is) (by k_is) (by k_is) (by k_is) (by k_is) (by k_is) (by k_is),⟨.inl rfl,.inr (by k_is),.inr (by k_is),.inr (by k_is),.inr (by k_is),.inr (by k_is),.inr (by k_is),trivial⟩,by k_is,by k_is,trivial⟩)
  (case tL=>k_is)
  (case yL=>k_is)
  (case lb=>k_is)
  (case nd=>decide)
  (case nz=>k_exc)
  (case qH=>k_exc)
  (case mf=>k_exc)
end
end
