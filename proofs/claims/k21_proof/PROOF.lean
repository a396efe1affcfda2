import PyProof.Rows.All
import Wide.All
import OpenK.AllK
import Wide.FinOn
import Lean
import PyProof.EqAt
import PyProof.EqKinds
import PyProof.TupleCall
import PyProof.NeKinds
import KE.KDictOf
import PyProof.Rows.TupDisplay
import PyProof.DictItems
import KE.KPairComp
import PyProof.Draws
import KE.KTupSum
import KE.KIntText
import PyProof.Rows.Range3
import PyProof.Rows.FStr
import PyProof.StrCalls2
import PyProof.StrLawsTight
import PyProof.StrLawsIn
import PyProof.StrCalls
import KE.KLam
import KE.KMinKey
import PyProof.Rows.RuleN_abs
import PyProof.Rows.StrCut
import PyProof.DictRoadsH
import PyProof.DictKinds
import PyProof.DictIter
import PyProof.DictWalks
import PyProof.Rows.SetFrom
import PyProof.StrWalks
import PyProof.StrLoop
import KE.KDictList
import KE.KDictSum
import PySem.Challenge.RW_screenlines_k21_whole_least_of_all
section
open PySem PySem.Spec PyProof.Rows
def z5:=@wpAny_bind
def z7:=@wpAny_pure
def z8:=@Nat.le_refl
def z9:=@Heap.get?_push_of_some
def zV:=@List.length_map
def y9:=@List.mem_cons
def xi:=@Heap.lt_size
def w5:=@List.mem_cons_self
def w6:=@Nat.le_trans
def w8:=@List.map_cons
def w9:=@List.mem_cons_of_mem
def wc:=@List.mem_singleton
def wg:=@List.size_toArray
def v6:=@List.length_append
def v7:=@Heap.get?_push_size
def v8:=@Nat.zero_le
def v9:=@List.getD_eq_getElem?_getD
def vC:=@Option.some.inj
def vY:=@List.getElem?_eq_getElem
def u7:=@List.length_take
def u8:=@Bool.and_eq_true
def u9:=@List.getElem?_map
def t5:=@if_false
def t6:=@decide_eq_false
def t7:=@wpAny_mono
def t8:=@if_true
def t9:=@Nat.ne_of_lt
def tj:=@List.getElem?_eq_some_iff
def s8:=@List.mem_map
def s9:=@List.lookup_cons
def se:=@decide_eq_true_eq
def si:=@Int.toNat_natCast
def sj:=@Ne.symm
def su:=@List.getElem?_set_self
def sI:=@List.all_eq_true
def sN:=@List.map_append
def sP:=@Bool.false_ne_true
def sS:=@decide_eq_true
def sT:=@Nat.not_lt
def r6:=@List.length_cons
def r8:=@List.mem_append
def r9:=@wpAny_call_entry
def rB:=@Nat.lt_of_lt_of_le
def rG:=@List.getElem?_set_ne
def rW:=@Bool.false_eq_true
def q8:=@Option.map_some
def q9:=@wpAny_holding
def qo:=@List.append_nil
def qq:=@List.getElem?_append_left
def qO:=@Nat.le_succ
def qY:=@Array.length_toList
def qZ:=@List.nodup_cons
def p6:=@List.length_set
def p7:=@List.map_map
def p8:=@Heap.SameBut.update
def p9:=@beq_eq_false_iff_ne
def pT:=@List.getElem?_append_right
def pV:=@List.length_replicate
def pW:=@PySem.W.mg_none_of
def pZ:=@Nat.ne_of_gt
def o5:=@wpAny_newObj_type
def o8:=@List.getElem?_eq_none
def o9:=@congrArg
def oQ:=@wpAny_truthy_bool
def oR:=@List.map_nil
def n4:=@Heap.size_push
def n5:=@or_false
def n6:=@List.sum_append
def n8:=@List.mem_append_right
def n9:=@wpAny_field
def nE:=@List.mem_range
def nT:=@List.sum_cons
def nU:=@PassesOwn.leaving
def nV:=@Nat.lt_irrefl
def nZ:=@List.mem_of_getElem?
def m9:=@wpAny_callSpecial?_slot
def mf:=@Heap.get?_update_self
def mP:=@List.replicate_succ
def l5:=@List.flatten_cons
def l6:=@List.getElem_mem
def l7:=@List.map_congr_left
def l8:=@wpAny_setField
def l9:=@beq_self_eq_true
def lE:=@List.getElem?_replicate
def lM:=@List.length_drop
def lT:=@call_meets
def lY:=@PySem.W.mg_of
def lZ:=@wpAny_dictEntries
def k8:=@codeAny_builtin
def k9:=@plainId_quiet
def km:=@List.length_nil
def kY:=@Bool.not_true
def j3:=@List.mem_flatMap
def j4:=@List.mem_filterMap
def j5:=@eq_of_beq
def j6:=@List.append_assoc
def j7:=@codeAny_mono
def j8:=@wpAny_specialOf
def j9:=@wpAny_fieldsOf
def je:=@Array.getElem?_eq_getElem
def ji:=@wpAny_rule
def jA:=@Option.some.injEq
def jK:=@wpAny_seqItems
def i9:=@Obj.data_mapFields
def ib:=@Around.under_plainId
def ic:=@List.not_mem_nil
def ik:=@Nat.le_of_lt
def io:=@wpAny_passesOwn
def iq:=@PySem.mem_of_lookup
def iD:=@wpAny_typeOf
def iF:=@typeIs_int
def iN:=@Nat.le_of_not_lt
def iO:=@List.nodup_nil
def g8:=@Nat.lt_succ_self
def g9:=@of_decide_eq_true
def gM:=@List.mem_nil_iff
def gR:=@PySem.F.plain_min_loop
def fH:=@Nat.le_succ_of_le
def fN:=@Nat.add_assoc
def eB:=@Nat.zero_add
def eP:=@List.getElem?_take
def eQ:=@List.length_range
def d3:=@IsTup.new
def d4:=@Bool.or_false
def d8:=@List.foldl_cons
def d9:=@Bool.and_false
def c7:=@wpAny_dictEpoch
def c8:=@wpAny_attempt
def c9:=@wpAny_setField_rec
def ca:=@List.all_cons
def b6:=@List.zip_cons_cons
def b9:=@wpAny_tryCatch
def bH:=@wpAny_updateSeq
def bY:=@wpAny_setState_of
def aT:=@List.mem_of_mem_take
def Z0:=@Nat.mul_le_mul
def Z1:=@Paired.length
def Z2:=@List.mem_append_left
def Z4:=@wpAny_Call_Name_kw
def Z5:=@tupleItemsOf_
def Z6:=@List.nil_append
def Z7:=@Nat.mul_comm
def Z8:=@wpAny_letGo
def Z9:=@Array.getElem?_eq_none
def Za:=@List.range_succ
def Zb:=@List.getElem?_drop
def Zc:=@Nat.lt_succ_of_lt
def Zd:=@List.drop_eq_getElem_cons
def Ze:=@List.drop_length
def Zf:=@Array.toArray_toList
def Zg:=@wpAny_of_eq
def Zh:=@List.cons.injEq
def Zi:=@wpAny_setEntries_of
def Zj:=@beq_iff_eq
def Zk:=@List.pairwise_cons
def Zl:=@Nat.succ_le_succ
def Zm:=@List.range'_succ
def Zn:=@List.set_set
def Zo:=@List.filterMap_cons
def Zp:=@wpAny_execs_nil
def Zq:=@wpAny_standAt
def Zr:=@Bool.false_and
def Zs:=@wpAny_pyIter_list
def Zt:=@Heap.get?_update_other
def Zu:=@List.length_singleton
def Zv:=@F.slot_int_rmul
def Zw:=@List.find?_cons
def Zx:=@decide_false
def Zy:=@tupleKind_room_in1
def Zz:=@Bool.not_false
def ZA:=@wpAny_forIn_list
def ZB:=@wpAny_pyIter_slot
def ZC:=@PySem.F.slot_dict_itemiterator_next
def ZD:=@wpAny_typeNameOfWhole_itemiter
def ZE:=@isSubtype_stop
def ZF:=@Bool.true_and
def ZG:=@List.take_length
def ZH:=@wpAny_getItem_str_slice
def ZI:=@post_val_or_str
def ZJ:=@Txt.slice_le
def ZK:=@Nat.sub_zero
def ZL:=@PySem.F.plainAttrs_list
def ZM:=@F.slot_tuple_iterator_next
def ZN:=@Obj.isFreed_of_fields
def ZO:=@Obj.cls_mapFields
def ZP:=@wpAny_isInstance
def ZQ:=@wpAny_pyIter_enum
def ZR:=@List.take_of_length_le
def ZS:=@Bool.and_true
def ZT:=@List.nodup_append
def ZU:=@PySem.F.slot_dict_keyiterator_next
def ZV:=@wpAny_typeNameOfWhole_keyiter
def ZW:=@List.any_eq_true
def ZX:=@Nat.lt_of_le_of_lt
def ZY:=@List.Perm.refl
def ZZ:=@Array.getElem?_toList
def Y0:=@wpAny_ite_split
def Y1:=@List.mem_replicate
def Y2:=@List.mem_range'_1
def Y3:=@Nat.mul_succ
def Y4:=@List.flatMap_cons
def Y5:=@List.sum_nil
def Y6:=@List.of_mem_zip
def Y7:=@noFill_tuple_add
def Y8:=@List.forIn_cons
def Y9:=@Array.forIn_toList
def Ya:=@wpAny_notOrdered_dict
def Yb:=@wpAny_isOneOf_itemiter
def Yc:=@Bool.eq_iff_iff
def Yd:=@wpAny_pyIter_tuple
def Ye:=@List.getElem?_set
def Yf:=@wpAny_ite_false
def Yg:=@Int.toNat_of_nonneg
def Yh:=@F.slot_tuple_mul
def Yi:=@F.entry_tuple_mul
def Yj:=@F.args_tuple_mul_2
def Yk:=@List.getElem?_toArray
def Yl:=@PySem.F.plainAttrs_str
def Ym:=@wpAny_loadPart'
def Yn:=@List.cons_append
def Yo:=@PySem.F.entry_min_loop
def Yp:=@PySem.W.Looks.of_pure
def Yq:=@wpAny_tupleItemsOf
def Yr:=@eqIsQuiet_byValue
def Ys:=@PyProof.Rows.F.plain_set_update_loop
def Yt:=@wpAny_askSetting
def Yu:=@List.ext_getElem?
def Yv:=@decide_eq_false_iff_not
def Yw:=@List.foldl_append
def Yx:=@List.range'_1_concat
def Yy:=@List.length_flatMap
def Yz:=@List.map_const'
def YA:=@List.sum_replicate_nat
def YB:=@Calls.Name_function_global
def YC:=@wpAny_callSpecialIfBoundUnlessNone?_slot
def YD:=@PySem.F.slot_dict_items_iter
def YE:=@PySem.F.entry_dict_itemiterator_next
def YF:=@PySem.F.args_dict_itemiterator_next_1
def YG:=@PyProof.Rows.slot_tuple_getitem
def YH:=@List.eq_nil_of_length_eq_zero
def YI:=@List.getElem?_range
def YJ:=@F.entry_tuple_iterator_next
def YK:=@F.args_tuple_iterator_next_1
def YL:=@PySem.F.entry_dict_keyiterator_next
def YM:=@PySem.F.args_dict_keyiterator_next_1
def YN:=@PyProof.Rows.F.entry_set_update_loop
def YO:=@Array.getD_eq_getD_getElem?
def YQ:=@List.take_append_of_le_length
end
set_option Elab.async false
set_option linter.all false
set_option maxRecDepth 100000
noncomputable section
variable{us its:List Value}{x qual y0 y1 y2:Str}{a it f q C bb a_ELSEWHERE a_HERE a_HERE_WIPED a_ELSEWHERE_WIPED a_NO_ORDERS bd:Addr}{P:Program}{h h' hp:Heap}{t' j k ep J:Nat}{ch fp:List Addr}{E:Value->Shared->Prop}{s' s:Shared}{pins:List (Addr×Obj)}{pos p:Pos}{es elts:List Expr}{body:List Stmt}{iter:Expr}{fd:FuncData}{ps loose:List Str}{scope:Scope}{cdv fst:Value}{od:Option Addr}{osl:Array (Option Value)}{ix is old ks S:List Nat}{neg fz:Bool}
namespace L2
open PySem PySem.Spec PyProof.Rows
abbrev Key:=Sum Int Str
def HU:Key->Value->Bool
 |.inl k,v=>Value.isInt k v
 |.inr x,v=>Value.isStrOf x v
def LV(w:World):Key->Int
 |.inl k=>hashInt k
 |.inr x=>hashStr w x
def bw:∀{k:Key}{v:Value},HU k v=true->(∃i t,k=Sum.inl i/\v=Value.int i t)\/(∃x t,k=Sum.inr x/\v=Value.str x t)
 |.inl i,v,h=>by obtain⟨t,e⟩:=Value.isInt_shape (k:=i) (v:=v) h;exact .inl ⟨i,t,rfl,e⟩
 |.inr x,v,h=>by obtain⟨t,e⟩:=Value.isStrOf_shape (x:=x) (v:=v) h;exact .inr ⟨x,t,rfl,e⟩
def Gj(a b:Int):decide ((Sum.inl a:Key)=Sum.inl b)=(a==b):=by
 by_cases e:a=b;·subst e;simp
 ·have h : ¬ (Sum.inl a:Key)=Sum.inl b:=λq=>e (Sum.inl.inj q);rw[t6 h];exact(p9.mpr e).symm
def HP(a b:Str):decide ((Sum.inr a:Key)=Sum.inr b)=decide (a=b):=by
 by_cases e:a=b;·subst e;simp
 ·have h : ¬ (Sum.inr a:Key)=Sum.inr b:=λq=>e (Sum.inr.inj q);rw[t6 h,t6 e]
def FZ(a:Int)(b:Str):decide ((Sum.inl a:Key)=Sum.inr b)=false:=t6 (λq=>nomatch q)
def HI(a:Str)(b:Int):decide ((Sum.inr a:Key)=Sum.inl b)=false:=t6 (λq=>nomatch q)
noncomputable def sC(prog:Program)(w:World):PySem.KeyKind prog w Key where
 is:=HU
 hash:=LV w
 inj:=λv a b ha hb=>by
  rcases bw ha with⟨i,t,rfl,rfl⟩|⟨x,t,rfl,rfl⟩
  ·rcases bw hb with⟨j,u,rfl,e⟩|⟨y,u,rfl,e⟩;·injection e with e1 _;rw[e1]
   ·exact nomatch e
  ·rcases bw hb with⟨j,u,rfl,e⟩|⟨y,u,rfl,e⟩;·exact nomatch e
   ·injection e with e1 _;rw[e1]
 byValue:=λk v h=>by rcases bw h with⟨i,t,rfl,rfl⟩|⟨x,t,rfl,rfl⟩ <;> rfl
 pyHash:=λhv h=>by
  rcases bw hv with⟨i,t,rfl,rfl⟩|⟨x,t,rfl,rfl⟩;·exact wpAny_pyHash_int h
  ·exact wpAny_pyHash_str h
 eqBool:=λhu hv h=>by
  rcases bw hu with⟨i,t,rfl,rfl⟩|⟨x,t,rfl,rfl⟩
  ·rcases bw hv with⟨j,u,rfl,rfl⟩|⟨y,u,rfl,rfl⟩;·rw[Gj]at h;exact wpAny_eqBool_int h
   ·rw[FZ]at h;exact SeqAt.EqAt.int_str i t y u _ _ _ _ h
  ·rcases bw hv with⟨j,u,rfl,rfl⟩|⟨y,u,rfl,rfl⟩;·rw[HI]at h;exact SeqAt.EqAt.str_int x t j u _ _ _ _ h
   ·rw[HP]at h;exact wpAny_eqBool_str h
 «strs»:=λk x t v h=>by
  rcases bw h with⟨i,u,rfl,e⟩|⟨y,u,rfl,e⟩;·exact nomatch e
  ·injection e with e1 _;subst e1;cases v <;> rfl
inductive V where
 |non|bl (b:Bool)|int (i:Int)|str (x:Str)|byt (b:Array UInt8)|flt (b:UInt64)|ref (a:Addr)|ty (n:String)
 deriving DecidableEq
noncomputable def RelV:V->Value->Prop
 |.non,u=>u=Value.none
 |.bl b,u=>u=Value.bool b
 |.int i,u=>∃t,u=Value.int i t
 |.str x,u=>∃t,u=Value.str x t
 |.byt b,u=>∃t,u=Value.bytes b t
 |.flt b,u=>∃t,u=Value.float b t
 |.ref a,u=>u=Value.ref a
 |.ty n,u=>u=Value.type n
abbrev Vals:List V->List Value->Prop:=Paired RelV
def Vals.length{xs:List V}(r:Vals xs us):xs.length=us.length:=Z1 r
theorem Vals.get:∀{xs:List V}{us:List Value}{i:Nat}{x:V},Vals xs us->xs[i]?=some x->∃u,us[i]?=some u/\RelV x u
 |_,_,_,_,.nil,e=>by simp at e
 |_,_,0,_,.cons r _,e=>by simp at e;subst e;exact⟨_,rfl,r⟩
 |_,_,i+1,x,.cons _ t,e=>by obtain⟨u,h1,h2⟩:=Vals.get (i:=i) (x:=x) t (by simpa using e);exact⟨u,by simpa using h1,h2⟩
theorem Vals.set{x:V}{u:Value}(r:RelV x u):∀{xs:List V}{us:List Value}(i:Nat),Vals xs us->Vals (xs.set i x) (us.set i u)
 |_,_,_,.nil=>.nil
 |_,_,0,.cons _ t=>.cons r t
 |_,_,i+1,.cons q t=>.cons q (Vals.set r i t)
theorem Vals.append:∀{xs ys:List V}{us ws:List Value},Vals xs us->Vals ys ws->Vals (xs++ys) (us++ws)
 |_,_,_,_,.nil,s=>s
 |_,_,_,_,.cons r t,s=>.cons r (Vals.append t s)
theorem Vals.take:∀{xs:List V}{us:List Value}(n:Nat),Vals xs us->Vals (xs.take n) (us.take n)
 |_,_,0,_=>.nil
 |_,_,_+1,.nil=>.nil
 |_,_,n+1,.cons r t=>.cons r (Vals.take n t)
theorem Vals.drop:∀{xs:List V}{us:List Value}(n:Nat),Vals xs us->Vals (xs.drop n) (us.drop n)
 |_,_,0,r=>r
 |_,_,_+1,.nil=>.nil
 |_,_,n+1,.cons _ t=>Vals.drop n t
def RelO:Option V->Option Value->Prop
 |some v,some u=>RelV v u
 |none,none=>True
 |_,_=>False
def KV{κ:Type}:List (κ×V)->List (κ×Value)->Prop:=Paired λ(p:κ×V) (q:κ×Value)=>p.1=q.1/\RelV p.2 q.2
def kV:Key->V
 |.inl i=>.int i
 |.inr x=>.str x
inductive HO where
  |lst (xs : List V)
  |tup (xs : List V)
  |dK (kvs : List (Key × V))|dT (kvs : List (List Key × V))
  |set (S : Int -> Bool) (n : Nat)
  |ins (C dx : Addr) (fs : List (Str × V))
  |own (x : Addr)
  |xd (fs : List (Str × V))
  |met (f x : Addr)
  |rng (lo hi : Int)
  |frz (o : Obj) (u : HO)
  |tbl (ps : Array Value)
  |ext (φ : Heap -> Prop)

abbrev Hp:=Addr->Option HO
def upd(H:Hp)(a:Addr)(o:HO):Hp:=λb=>if b=a then some o else H b
def ay{H:Hp}{o:HO}:upd H a o a=some o:=by unfold upd;rw[if_pos rfl]
def au{H:Hp}{b:Addr}{o:HO}(h:b≠a):upd H a o b=H b:=by unfold upd;rw[if_neg h]
def De{H:Hp}{o u:HO}:upd (upd H a o) a u=upd H a u:=by funext b;unfold upd;split <;> rfl
def aj{H:Hp}{b:Addr}{o:HO}(h:H a=some o)(h':H b=none):a≠b:=by intro e;subst e;rw[h]at h';cases h'
def Gi(ps:Array Value):Str:=match ps.toList with
 |.str q _::_=>q
 |_=>Str.empty
section
variable(P:Program)(w:World)
noncomputable def ObjOk(H:Hp)(h:Heap)(a:Addr):HO->Prop
 |.lst xs=>xs.length<=sizeLine/\∃(its:List Value)(n:Nat),Vals xs its/\h.get? a=some { cls:=.type "list",data:=.seq its.toArray n }
 |.tup xs=>xs.length<=sizeLine/\∃its:List Value,Vals xs its/\IsTup h a its.toArray
 |.dK kvs=>kvs.length<=sizeLine/\(a==sysModules)=false/\∃vs,KV kvs vs/\h.DictOf (sC P w) a vs
 |.dT kvs=>kvs.length<=sizeLine/\(a==sysModules)=false/\∃xs:List (List Key×Addr×Value),
   Paired (λ(p:List Key×V) (q:List Key×Addr×Value)=>p.1=q.1/\H q.2.1=some (.tup (p.1.map kV))/\RelV p.2 q.2.2) kvs xs/\
   ∃o es ep,h.get? a=some o/\o.ExactDict/\o.data=.dict es ep/\es.toList=xs.map (entryOfKey (tupleKind (sC P w)))/\(xs.map (·.1)).Nodup
 |.set S n=>h.SetOf (intKind P w) a S n
 |.ins C dx fs=>H dx=some (.own a)/\fs.length<=1000/\dx≠a/\h.get? a=some (W.instObj C dx)/\
   ∃mA,h.Ns1 dx mA/\(∀f,RelO (fs.lookup f) (mA f))/\PySem.Within mA (fs.map (·.1))
 |.own _=>∃o,h.get? a=some o
 |.xd fs=>∃mA,h.Ns1 a mA/\∀f,RelO (fs.lookup f) (mA f)
 |.rng lo hi=>∃t u v,h.get? a=some { cls:=.type "range",data:=.fields #[.int lo t,.int hi u,.int 1 v] }
 |.frz o u=>h.get? a=some o/\ObjOk H h a u
 |.tbl ps=>∃qs:Array Value,h.get? a=some { cls:=.none,data:=.fields qs }/\TriplesOk qs.toList/\∀(pos:Pos)(cv:Value),codeAmong pos qs.toList=some cv->∃c o vs t,cv=.ref c/\H c=some (.frz o (.own a))/\o.data=.fields vs/\vs[1]?=some (.str (Gi ps) t)
 |.met f x=>h.get? a=some (W.methodObj (.ref f) (.ref x))
 |.ext φ=>φ h/\(∃o,h.get? a=some o)/\∀h1 h2:Heap,φ h1->(∀o,h1.get? a=some o->h2.get? a=some o)->φ h2
def HOk(H:Hp)(h:Heap):Prop:=∀a o,H a=some o->ObjOk P w H h a o
end
section
variable{w:World}{H H':Hp}{o:HO}
def ObjOk.lt(x:ObjOk P w H h a o):a<h.objs.size:=by
 cases o with
 |lst xs=>obtain⟨_,_,_,_,e⟩:=x;exact xi e
 |tup xs=>obtain⟨_,_,_,p⟩:=x;exact p.lt
 |dK kvs=>obtain⟨_,_,_,_,o,_,_,e,_⟩:=x;exact xi e
 |dT kvs=>obtain⟨_,_,_,_,o,_,_,e,_⟩:=x;exact xi e
 |set S n=>obtain⟨o,_,_,_,e,_⟩:=x;exact xi e
 |ins C dx fs=>obtain⟨_,_,_,e,_⟩:=x;exact xi e
 |own y=>obtain⟨_,e⟩:=x;exact xi e
 |xd fs=>obtain⟨_,⟨_,_,_,e,_⟩,_⟩:=x;exact xi e
 |rng lo hi=>obtain⟨_,_,_,e⟩:=x;exact xi e
 |frz ob u=>obtain⟨e,_⟩:=x;exact xi e
 |tbl ps=>obtain⟨_,e,_⟩:=x;exact xi e
 |met f y=>exact xi (show h.get? a=some _ from x)
 |ext φ=>obtain⟨_,⟨_,e⟩,_⟩:=x;exact xi e
theorem Paired.mapP{α β:Type}{F G:α->β->Prop}:∀{l₁:List α}{l₂:List β},Paired F l₁ l₂->(∀a b,F a b->G a b)->Paired G l₁ l₂
 |_,_,.nil,_=>.nil
 |_,_,.cons r t,f=>.cons (f _ _ r) (Paired.mapP t f)
def ObjOk.stay(x:ObjOk P w H h a o)(k:∀b u,(b=a\/H b=some (.own a))->h.get? b=some u->h'.get? b=some u)(ho:∀b,H b=some (.own a)->H' b=some (.own a))(ht:∀b xs,H b=some (.tup xs)->H' b=some (.tup xs))(hz:∀b o u,H b=some (.frz o u)->H' b=some (.frz o u):=by exact λ_ _ _ q=>q):ObjOk P w H' h' a o:=by
 induction o with
 |lst xs=>obtain⟨z,its,n,r,e⟩:=x;exact⟨z,its,n,r,k _ _ (.inl rfl) e⟩
 |tup xs=>obtain⟨z,its,r,ob,e,c⟩:=x;exact⟨z,its,r,ob,k _ _ (.inl rfl) e,c⟩
 |dK kvs=>obtain⟨z,y,vs,r,ob,es,ep,e,c⟩:=x;exact⟨z,y,vs,r,ob,es,ep,k _ _ (.inl rfl) e,c⟩
 |dT kvs=>obtain⟨z,y,xs,r,ob,es,ep,e,c⟩:=x;exact⟨z,y,xs,Paired.mapP r λp q z=>⟨z.1,ht _ _ z.2.1,z.2.2⟩,ob,es,ep,k _ _ (.inl rfl) e,c⟩
 |set S n=>obtain⟨ob,es,ep,t,e,c⟩:=x;exact⟨ob,es,ep,t,k _ _ (.inl rfl) e,c⟩
 |ins C dx fs=>obtain⟨d,z,ne,e,mA,⟨od,es,ep,e2,c⟩,r⟩:=x;exact⟨ho _ d,z,ne,k _ _ (.inl rfl) e,mA,⟨od,es,ep,k _ _ (.inr d) e2,c⟩,r⟩
 |own y=>obtain⟨ob,e⟩:=x;exact⟨ob,k _ _ (.inl rfl) e⟩
 |xd fs=>obtain⟨mA,⟨od,es,ep,e,c⟩,r⟩:=x;exact⟨mA,⟨od,es,ep,k _ _ (.inl rfl) e,c⟩,r⟩
 |rng lo hi=>obtain⟨t,u,v,e⟩:=x;exact⟨t,u,v,k _ _ (.inl rfl) e⟩
 |frz ob u ih=>obtain⟨e,q⟩:=x;exact⟨k _ _ (.inl rfl) e,ih q⟩
 |tbl ps=>obtain⟨qs,e,tr,c⟩:=x;refine⟨qs,k _ _ (.inl rfl) e,tr,λpos cv q=>?_⟩;obtain⟨c',o',vs,tk,e1,e2,e3⟩:=c pos cv q;exact⟨c',o',vs,tk,e1,hz _ _ _ e2,e3⟩
 |met f y=>have e:h.get? a=some (W.methodObj (.ref f) (.ref y)):=x;show h'.get? a=some (W.methodObj (.ref f) (.ref y));exact k a _ (.inl rfl) e
 |ext φ=>obtain⟨p,⟨o,e⟩,st⟩:=x;exact⟨st _ _ p λo q=>k _ _ (.inl rfl) q,⟨o,k _ _ (.inl rfl) e⟩,st⟩
def HOk.lt(x:HOk P w H h)(e:H a=some o):a<h.objs.size:=(x a o e).lt
def HOk.fresh(x:HOk P w H h)(e:h.objs.size<=a):H a=none:=by
 cases q:H a with
 |none=>rfl
 |some u=>exact absurd (rB (x.lt q) e) (nV _)
def HOk.kept(x:HOk P w H h)(k:∀b u,h.get? b=some u->h'.get? b=some u):HOk P w H h':=λa o e=>(x a o e).stay (λb u _ q=>k b u q) (λ_ q=>q) λ_ _ q=>q
def HOk.laid(x:HOk P w H h)(k:∀b u,h.get? b=some u->h'.get? b=some u)(hp:h.objs.size<=a)(new:ObjOk P w (upd H a o) h' a o):HOk P w (upd H a o) h':=λb u e=>by
 have hn:=x.fresh hp;by_cases hb:b=a;·subst hb;rw[ay]at e;cases e;exact new
 ·rw[au hb]at e;exact(x b u e).stay (λc v _ q=>k c v q) (λc q=>by rw[au (aj q hn)];exact q) (λc xs q=>by rw[au (aj q hn)];exact q) λc ob u q=>by rw[au (aj q hn)];exact q
end
def Rd(H:Hp)(a:Addr)(u:HO):Prop:=H a=some u\/∃o,H a=some (.frz o u)
def Rd.ok{w:World}{H:Hp}{u:HO}(r:Rd H a u)(x:HOk P w H h):ObjOk P w H h a u:=by
 rcases r with r|⟨o,r⟩;·exact x a u r
 ·obtain⟨_,q⟩:=x a _ r;exact q
def Mut:Option HO->Prop
 |some (.lst _)=>True
 |some (.dK _)=>True
 |some (.dT _)=>True
 |some (.set _ _)=>True
 |some (.ins _ _ _)=>True
 |some (.ext _)=>True
 |_=>False
section
variable{w:World}{H:Hp}{x e:Addr}{o':HO}
def HOk.write(ok:HOk P w H h)(mu:Mut (H x))(he:e=x\/H e=some (.own x))(k:∀b u,b≠e->h.get? b=some u->h'.get? b=some u)(heo:∃u,h'.get? e=some u)(new:ObjOk P w (upd H x o') h' x o'):HOk P w (upd H x o') h':=λb u q=>by
 have nown:∀c y,H c=some (.own y)->c≠x:=λc y r z=>by subst z;rw[r]at mu;exact mu
 have ntup:∀c xs,H c=some (.tup xs)->c≠x:=λc xs r z=>by subst z;rw[r]at mu;exact mu
 have nfrz:∀c ob u,H c=some (.frz ob u)->c≠x:=λc ob u r z=>by subst z;rw[r]at mu;exact mu
 by_cases hb:b=x;·subst hb;rw[ay]at q;cases q;exact new
 ·rw[au hb]at q;by_cases hbe:b=e
  ·have q':H b=some (.own x):=by
    rcases he with z|z;·exact absurd (hbe.trans z) hb
    ·rw[hbe];exact z
   rw[q]at q';cases q';obtain⟨v,hv⟩:=heo;exact⟨v,by rw[hbe];exact hv⟩
  ·refine(ok b u q).stay (λc v hc r=>k c v ?_ r) (λc r=>by rw[au (nown c b r)];exact r) (λc xs r=>by rw[au (ntup c xs r)];exact r) λc ob u r=>by rw[au (nfrz c ob u r)];exact r
   rcases hc with rfl|hc;·exact hbe
   ·rintro rfl;rcases he with z|z;·exact nown c b hc z
    ·rw[hc]at z;cases z;exact hb rfl
end
structure Un(fs ex:List Addr)(H H':Hp)(h h':Heap):Prop where
 keep:∀b o,h.get? b=some o->H b=none->b∉fs->b∉ex->h'.get? b=some o
 slot:∀b o,h.get? b=some o->H b=none->b∈fs->b∉ex->∃sl,h'.get? b=some { o with slots:=sl }
 free:∀b o,h.get? b=some o->H b=none->b∉ex->H' b=none
 there:∀b o,h.get? b=some o->b∉ex->∃o',h'.get? b=some o'
 tups:∀b xs,H b=some (.tup xs)->H' b=some (.tup xs)
 frzs:∀b o u,H b=some (.frz o u)->H' b=some (.frz o u)
 tbls:∀b ps,H b=some (.tbl ps)->∃more,H' b=some (.tbl (ps++more))
section
variable{fs fs' ex ex':List Addr}{H H1 H2:Hp}{h1 h2:Heap}{x e:Addr}{o:HO}
def Un.any(u:Un fs ex H H1 h h1){b:Addr}{ob:Obj}(q:h.get? b=some ob)(n:H b=none)(hx:b∉ex):∃sl,h1.get? b=some { ob with slots:=sl }:=by
 by_cases hb:b∈fs;·exact u.slot b ob q n hb hx
 ·exact⟨ob.slots,u.keep b ob q n hb hx⟩
def Un.kept(k:∀b u,h.get? b=some u->h'.get? b=some u):Un fs ex H H h h':=
 ⟨λb ob q _ _ _=>k b ob q,λb ob q _ _ _=>⟨ob.slots,k b ob q⟩,λ_ _ _ n _=>n,λb ob q _=>⟨ob,k b ob q⟩,λ_ _ q=>q,λ_ _ _ q=>q,λ_ ps q=>⟨#[],by rw[q];simp⟩⟩
def Un.refl:Un fs ex H H h h:=Un.kept λ_ _ q=>q
def Un.laid(k:∀b u,h.get? b=some u->h'.get? b=some u)(hp:h.objs.size<=a)(hn:H a=none):Un fs ex H (upd H a o) h h' where
 keep:=λb u q _ _ _=>k b u q
 slot:=λb u q _ _ _=>⟨u.slots,k b u q⟩
 free:=λb u q n _=>by rw[au (t9 (rB (xi q) hp))];exact n
 there:=λb u q _=>⟨u,k b u q⟩
 tups:=λb xs q=>by rw[au (aj q hn)];exact q
 frzs:=λb u xs q=>by rw[au (aj q hn)];exact q
 tbls:=λb ps q=>⟨#[],by rw[au (aj q hn),q];simp⟩
def Un.write(mu:Mut (H x))(he:e=x\/H e=some (.own x))(k:∀b u,b≠e->h.get? b=some u->h'.get? b=some u)(heo:∃u,h'.get? e=some u):Un fs ex H (upd H x o) h h':=by
 have hx:∀b,H b=none->b≠x:=λb n z=>by subst z;rw[n]at mu;exact mu
 have hb:∀b,H b=none->b≠e:=λb n z=>by
  subst z;rcases he with r|r;·exact hx b n r
  ·rw[n]at r;cases r
 have hm:∀b u,H b=some u->¬ Mut (some u)->b≠x:=λb u q nm z=>by subst z;rw[q]at mu;exact nm mu
 refine⟨λb u q n _ _=>k b u (hb b n) q,λb u q n _ _=>⟨u.slots,k b u (hb b n) q⟩,λb u q n _=>by rw[au (hx b n)];exact n,λb u q _=>?_,
  λb xs q=>by rw[au (hm b _ q λz=>z)];exact q,λb u xs q=>by rw[au (hm b _ q λz=>z)];exact q,λb ps q=>⟨#[],by rw[au (hm b _ q λz=>z),q];simp⟩⟩;by_cases hbe:b=e;·subst hbe;exact heo
 ·exact⟨u,k b u hbe q⟩
end
def Cc:HO->Value
 |.tbl ps=>if ps.size=1 then ps.getD 0 .none else .none
 |_=>.none
def Fg(H:Hp)(b:Addr)(o:Obj):Obj:=match H b with
 |none=>(match o.data with|.freed=>⟨.none,none,.freed,#[]⟩|_=>o)
 |some u=>⟨Cc u,none,.freed,#[]⟩
def zA(h:Heap)(H:Hp):Heap:=⟨h.objs.mapIdx λb o=>Fg H b o,h.life⟩
def yo(h:Heap)(H:Hp):(zA h H).objs.size=h.objs.size:=Array.size_mapIdx
def get_objs{b:Addr}{o:Obj}:h.get? b=some o ↔ h.objs[b]?=some o/\o.data≠.freed:=by
 unfold Heap.get?;constructor
 ·intro e;split at e;·cases e
  ·rename_i z;refine⟨e,λq=>?_⟩;obtain⟨a,b,c,d⟩:=o;cases q;exact z _ _ _ e
 ·rintro ⟨e,n⟩;rw[e];obtain⟨a,b,c,d⟩:=o;split;·rename_i q;cases q;exact absurd rfl n
  ·rfl
def lB(h:Heap)(H:Hp)(b:Addr):(zA h H).objs[b]?=(h.objs[b]?).map (Fg H b):=Array.getElem?_mapIdx
def Bj{H:Hp}{b:Addr}{o:Obj}(e:h.get? b=some o)(n:H b=none):(zA h H).get? b=some o:=by
 obtain⟨e1,e2⟩:=get_objs.1 e;have z:Fg H b o=o:=by unfold Fg;rw[n];cases q:o.data <;> first|rfl|exact absurd q e2
 exact get_objs.2 ⟨by rw[lB,e1,q8,z],e2⟩
def Du{H:Hp}{b:Addr}{o:Obj}(e:(zA h H).get? b=some o):h.get? b=some o/\H b=none:=by
 obtain⟨e1,e2⟩:=get_objs.1 e;rw[lB]at e1;cases q:h.objs[b]? with
 |none=>rw[q]at e1;cases e1
 |some o'=>
  rw[q,q8]at e1;have e1:=vC e1;unfold Fg at e1;cases hq:H b with
  |none=>
   rw[hq]at e1;dsimp only at e1;split at e1;·rw[<- e1]at e2;exact absurd rfl e2
   ·exact⟨get_objs.2 ⟨by rw[q,e1],e2⟩,rfl⟩
  |some u=>rw[hq]at e1;dsimp only at e1;rw[<- e1]at e2;exact absurd rfl e2
def IU(base:Heap)(p:Addr)(q:Str):Prop:=base.objs[p]?=some ⟨.str q 0,none,.freed,#[]⟩
def TabsIn(base:Heap)(H:Hp):Prop:=∀p q,IU base p q->∃more,H p=some (.tbl (#[.str q 0]++more))
def zm(h : Heap)(H : Hp): TabsIn (zA h H) H := λp q e => by
  unfold IU at e;rw[lB]at e;cases z : h.objs[p]? with
  |none => rw[z]at e; cases e
  |some o =>
    rw[z, q8]at e;have e := vC e;unfold Fg at e;cases hq : H p with
    |none =>
      rw[hq]at e;dsimp only at e;split at e;· cases e
      · rename_i n; rw[e]at n; exact absurd rfl n
    |some u =>
      rw[hq]at e;have e := o9 Obj.cls e;cases u with
      |tbl ps =>
        dsimp only[Cc]at e;split at e
        · rename_i n;refine⟨#[], ?_⟩;obtain⟨l⟩ := ps
          match l, n with
          | [v], _ => have : v = .str q 0 := e
                      rw[this]; rfl
        · cases e
      |_ => cases e
def TabsIn.un{base:Heap}{fs ex:List Addr}{H H':Hp}(t:TabsIn base H)(u:Un fs ex H H' h h'):TabsIn base H':=λp q e=>by obtain⟨m1,z⟩:=t p q e;obtain⟨m2,z⟩:=u.tbls p _ z;exact⟨m1++m2,by rw[z,Array.append_assoc]⟩
def EX(g h:Heap)(L:Addr):List (Addr×Obj):=(List.range h.objs.size).filterMap λa=>if a=L\/(g.get? a).isSome=true then none else (h.get? a).map λo=>(a,o)
def bQ(g h:Heap)(L d:Addr):List (Addr×Obj):=(EX g h L).filter λp=>decide (p.1≠d)
end L2
variable{xs vs:List L2.V}{H H' G G₀:L2.Hp}{v:L2.V}{sq:L2.Hp->List L2.V->Prop}
namespace L2
open PySem PySem.Spec PyProof.Rows
structure Mod(K:W.Frag)(mg:Str->Option Value)(base:Heap):Prop where
 kin:K.In base
 glob:base.Ns mainGlobals mg
 blt:∃mb,base.Ns builtinsNs mb/\∀x:Str,x≠"__name__"->mb x=bootBuiltins x
 nolimit:base.NoLimit
structure Cx where
 prog:Program
 w:World
 K:W.Frag
 mg:Str->Option Value
 base:Heap
 A:Around
 N:List Str
 s₀:Shared
 H₀:Hp
 env:Env
 outer:List Env
 stack:List Env
 ex:List Addr
 fn:Str->Bool
 calm:Bool
 pn:List (Addr×Obj)
 xe:Value->Shared->Prop
def frs(l:List Env):List Addr:=l.filterMap (·.frame)
abbrev Cx.fs(X:Cx):List Addr:=frs X.outer
def Vis(sc:Scope)(x:Str):Prop:=sc.names.lookup x=some .local\/sc.names.lookup x=some .cell\/sc.names.lookup x=some .free
def Loc(sc:Scope)(x:Str):Prop:=sc.names.lookup x=some .local\/sc.names.lookup x=some .cell
def Mo(env:Env)(h:Heap)(m:Str->Option Value)(x:Str)(u:Value):Prop:=
 (env.kindOf x=some .local/\m x=some u)\/((env.kindOf x=some .cell\/env.kindOf x=some .free)/\∃c,env.cells.lookup x=some c/\h.IsCell c (some u))
structure Cx.Ok(X:Cx):Prop where
 mod:Mod X.K X.mg X.base
 kind:X.env.scope.kind=.function
 glob:X.env.globals=mainGlobals
 blt:X.env.builtins=builtinsNs
 above:X.s₀.heap.objs.size<=X.env.locals
 inj:∀x y c,X.env.cells.lookup x=some c->X.env.cells.lookup y=some c->x=y
 has:∀x,(X.env.kindOf x=some .cell\/X.env.kindOf x=some .free)->∃c,X.env.cells.lookup x=some c
 cab:∀x c,X.fn x=true->X.env.cells.lookup x=some c->X.s₀.heap.objs.size<=c
 hd:X.calm=true->X.A.handled=none
 frames:X.A.frames=some X.stack
 stk:X.stack=X.outer\/(X.stack=X.env::X.outer/\X.env.frame=some X.env.locals)
 exf:∀b∈X.ex,b≠X.env.locals/\∀x c,X.env.cells.lookup x=some c->c≠b
 bs:∀b o,X.base.get? b=some o->X.s₀.heap.get? b=some o/\X.H₀ b=none
 bsz:X.base.objs.size<=X.s₀.heap.objs.size
 noex:∀b o,X.base.get? b=some o->b∉X.ex
 exfs:∀b∈X.ex,b∉X.fs
 funs:X.s₀.heap.FunFrames X.base X.outer
 frf:∀b∈X.fs,X.H₀ b=none
 tabs:TabsIn X.base X.H₀
structure Inv(X:Cx)(pins:List (Addr×Obj))(σ:List (Option V))(H:Hp)(s:Shared):Prop where
 ok:X.Ok
 os:s.os=X.s₀.os
 bare:AllBare s.gens
 base:Un X.fs X.ex X.H₀ H X.s₀.heap s.heap
 loc:∃m,s.heap.Ns X.env.locals m/\∀(i:Nat)(x:Str)(v:V),X.N[i]?=some x->σ[i]?=some (some v)->Vis X.env.scope x->∃u,RelV v u/\Mo X.env s.heap m x u
 cell:∀x c,X.env.cells.lookup x=some c->∃v,s.heap.IsCell c v
 free:H X.env.locals=none
 freeC:∀x c,X.env.cells.lookup x=some c->H c=none
 pin:∀p∈X.pn++pins,s.heap.get? p.1=some p.2/\H p.1=none/\p.1≠X.env.locals/\p.1∉X.fs/\∀v,p.2.data≠.cell v
 hok:HOk X.prog X.w H s.heap
 len:σ.length=X.N.length
section
variable{X:Cx}{σ:List (Option V)}
def Cx.Ok.nofr(ok:X.Ok){b:Addr}{o:Obj}(e:X.base.get? b=some o):b∉X.fs:=λhb=>by have:=(ok.funs.mem hb).1;rw[e]at this;cases this
def Inv.bs(I:Inv X pins σ H s):∀b o,X.base.get? b=some o->s.heap.get? b=some o/\H b=none:=λb o e=>⟨I.base.keep b o (I.ok.bs b o e).1 (I.ok.bs b o e).2 (I.ok.nofr e) (I.ok.noex b o e),I.base.free b o (I.ok.bs b o e).1 (I.ok.bs b o e).2 (I.ok.noex b o e)⟩
def Inv.bk(I:Inv X pins σ H s):∀b o,X.base.get? b=some o->s.heap.get? b=some o:=λb o e=>(I.bs b o e).1
def Inv.mod(I:Inv X pins σ H s):Mod X.K X.mg X.base:=I.ok.mod
def Inv.kIn(I:Inv X pins σ H s):X.K.In s.heap:=I.ok.mod.kin.keeps I.bk
def Inv.lt(I:Inv X pins σ H s):X.env.locals<s.heap.objs.size:=let⟨_,hn,_⟩:=I.loc;hn.lt
def Inv.sz(I:Inv X pins σ H s):X.s₀.heap.objs.size<=s.heap.objs.size:=w6 I.ok.above (ik I.lt)
def Inv.nofs(I:Inv X pins σ H s)(h:s.heap.objs.size<=a):a∉X.fs:=λhb=>by obtain⟨_,o,ho,_⟩:=I.ok.funs.mem hb;exact absurd (rB (xi ho) (w6 I.sz h)) (nV _)
def Inv.cne(I:Inv X pins σ H s):∀x c,X.env.cells.lookup x=some c->c≠X.env.locals:=λx c e z=>by obtain⟨v,o,ho,hd⟩:=I.cell x c e;obtain⟨m,⟨o',es,ep,ho',hd',_⟩,_⟩:=I.loc;rw[z,ho']at ho;cases ho;rw[hd']at hd;cases hd
def Inv.funs(I:Inv X pins σ H s):s.heap.FunFrames X.base X.outer:=by
 have all:∀(l:List Env),(∀b∈frs l,b∈X.fs)->X.s₀.heap.FunFrames X.base l->s.heap.FunFrames X.base l:=by
  intro l;induction l with
  |nil=>intro _ _;trivial
  |cons env r ih=>intro hs hl;obtain⟨hk,⟨L,o,hf,hn,ho,hd⟩,hr⟩:=hl;have hL:L∈X.fs:=hs L (by unfold frs;rw[List.filterMap_cons,hf];exact List.mem_cons_self);obtain⟨sl,e⟩:=I.base.slot L o ho (I.ok.frf L hL) hL λz=>I.ok.exfs L z hL;exact⟨hk,⟨L,_,hf,hn,e,hd⟩,ih (λb hb=>hs b (by unfold frs;rw[List.filterMap_cons,hf];exact List.mem_cons_of_mem _ hb)) hr⟩
 exact all X.outer (λ_ hb=>hb) I.ok.funs
def Inv.stack(I:Inv X pins σ H s):s.heap.FunFrames X.base X.stack:=by
 rcases I.ok.stk with e|⟨e,hf⟩;·rw[e];exact I.funs
 ·rw[e];obtain⟨m,hn,_⟩:=I.loc;refine .cons (by rw[I.ok.kind];decide) hf hn ?_ I.funs;exact Heap.get?_none_of_le (w6 I.ok.bsz I.ok.above)
def Inv.stkSub(I:Inv X pins σ H s):∀b∈frs X.stack,b∈X.env.locals::X.fs:=λb hb=>by
 rcases I.ok.stk with e|⟨e,hf⟩;·rw[e]at hb;exact w9 _ hb
 ·rw[e]at hb;unfold frs at hb;rw[Zo,hf]at hb;exact hb
def Inv.stkFree(I:Inv X pins σ H s):∀b∈frs X.stack,H b=none:=λb hb=>by
 rcases y9.mp (I.stkSub b hb)with e|hb;·rw[e];exact I.free
 ·obtain⟨_,o,ho,_⟩:=I.ok.funs.mem hb;exact I.base.free b o ho (I.ok.frf b hb) λz=>I.ok.exfs b z hb
def Inv.step{g':Array GenState}{t':Nat}{d':Drawn}(I:Inv X pins σ H s)(hch:∀b∈ch,(b∈X.ex\/X.s₀.heap.objs.size<=b)/\b≠X.env.locals/\(∀x c,X.env.cells.lookup x=some c->c≠b)/\∀p∈X.pn++pins,p.1≠b)(keep:∀b o,b≠X.env.locals->b∉X.fs->b∉ch->s.heap.get? b=some o->H b=none->h'.get? b=some o)(slot:∀b o,b≠X.env.locals->b∈X.fs->b∉ch->s.heap.get? b=some o->H b=none->∃sl,h'.get? b=some { o with slots:=sl })(free:∀b o,b∉ch->s.heap.get? b=some o->H b=none->H' b=none)(there:∀b o,b∉ch->s.heap.get? b=some o->∃o',h'.get? b=some o')(tups:∀b xs,H b=some (.tup xs)->H' b=some (.tup xs))(frzs:∀b o u,H b=some (.frz o u)->H' b=some (.frz o u))(tbls:∀b ps,H b=some (.tbl ps)->∃more,H' b=some (.tbl (ps++more)))(ns:∀m,s.heap.Ns X.env.locals m->h'.Ns X.env.locals m)(hok:HOk X.prog X.w H' h')(hg:AllBare g'):
  Inv X pins σ H' { s with heap:=h',gens:=g',drawn:=d',toks:=t' }:=by
 have neL:∀b o,X.s₀.heap.get? b=some o->b≠X.env.locals:=λb o e=>t9 (rB (xi e) I.ok.above);have neC:∀b o,X.s₀.heap.get? b=some o->b∉X.ex->b∉ch:=λb o e hx hb=>by
  rcases (hch b hb).1 with z|z;·exact hx z
  ·exact absurd (rB (xi e) z) (nV _)
 have cellK:∀x c,X.env.cells.lookup x=some c->∀v,s.heap.IsCell c v->h'.IsCell c v:=λx c e v ⟨o,ho,hd⟩=>by
  have nch:c∉ch:=λz=>(hch c z).2.2.1 x c e rfl;by_cases hc:c∈X.fs;·obtain⟨sl,q⟩:=slot c o (I.cne x c e) hc nch ho (I.freeC x c e);exact⟨_,q,hd⟩
  ·exact⟨o,keep c o (I.cne x c e) hc nch ho (I.freeC x c e),hd⟩
 refine⟨I.ok,I.os,hg,⟨λb o e n hb hx=>?_,λb o e n hb hx=>?_,λb o e n hx=>?_,λb o e hx=>?_,λb xs e=>tups b xs (I.base.tups b xs e),λb o xs e=>frzs b o xs (I.base.frzs b o xs e),λb ps e=>?_⟩,?_,λx c e=>?_,?_,λx c e=>?_,λp hp=>?_,hok,I.len⟩;·exact keep b o (neL b o e) hb (neC b o e hx) (I.base.keep b o e n hb hx) (I.base.free b o e n hx)
 ·obtain⟨sl,e1⟩:=I.base.slot b o e n hb hx;obtain⟨sl',e2⟩:=slot b _ (neL b o e) hb (neC b o e hx) e1 (I.base.free b o e n hx);exact⟨sl',e2⟩
 ·obtain⟨o',e1⟩:=I.base.there b o e hx;exact free b o' (neC b o e hx) e1 (I.base.free b o e n hx)
 ·obtain⟨o',e1⟩:=I.base.there b o e hx;exact there b o' (neC b o e hx) e1
 ·obtain⟨m1,e1⟩:=I.base.tbls b ps e;obtain⟨m2,e2⟩:=tbls b _ e1;exact⟨m1++m2,by rw[e2,Array.append_assoc]⟩
 ·obtain⟨m,hn,hl⟩:=I.loc;refine⟨m,ns m hn,λi x v e1 e2 e3=>?_⟩;obtain⟨u,r,l⟩:=hl i x v e1 e2 e3;refine⟨u,r,?_⟩;rcases l with l|⟨k,c,e,z⟩;·exact .inl l
  ·exact .inr ⟨k,c,e,cellK x c e _ z⟩
 ·obtain⟨v,z⟩:=I.cell x c e;exact⟨v,cellK x c e v z⟩
 ·obtain⟨m,⟨o,_,_,ho,_⟩,_⟩:=I.loc;exact free _ o (λz=>(hch _ z).2.1 rfl) ho I.free
 ·obtain⟨v,o,ho,hd⟩:=I.cell x c e;exact free c o (λz=>(hch c z).2.2.1 x c e rfl) ho (I.freeC x c e)
 ·obtain⟨e,n,ne,nf,d⟩:=I.pin p hp;have nch:p.1∉ch:=λz=>(hch p.1 z).2.2.2 p hp rfl;exact⟨keep p.1 p.2 ne nf nch e n,free p.1 p.2 nch e n,ne,nf,d⟩
def Inv.un{t':Nat}(I:Inv X pins σ H s)(u:Un X.fs [] H H' s.heap h')(hok:HOk X.prog X.w H' h'):Inv X pins σ H' { s with heap:=h',toks:=t' }:=by obtain⟨m,⟨o,es,ep,ho,r⟩,_⟩:=id I.loc;obtain⟨sl,hL⟩:=u.any ho I.free (by simp);exact I.step (g':=s.gens) (d':=s.drawn) (ch:=[]) (λ_ z=>nomatch z) (λb o _ hb _ e n=>u.keep b o e n hb (by simp)) (λb o _ hb _ e n=>u.slot b o e n hb (by simp)) (λb o _ e n=>u.free b o e n (by simp)) (λb o _ e=>u.there b o e (by simp)) u.tups u.frzs u.tbls (λm' hm=>by obtain⟨o',es',ep',ho',r'⟩:=hm;rw[ho]at ho';cases ho';exact⟨_,es',ep',hL,r'⟩) hok I.bare
def Inv.call{g':Array GenState}{t':Nat}{d':Drawn}(I:Inv X pins σ H s)(u:Un (frs X.stack) ch H H' s.heap h')(hok:HOk X.prog X.w H' h')(hg:AllBare g')(hch:∀b∈ch,(b∈X.ex\/X.s₀.heap.objs.size<=b)/\b≠X.env.locals/\(∀x c,X.env.cells.lookup x=some c->c≠b)/\∀p∈X.pn++pins,p.1≠b):
  Inv X pins σ H' { s with heap:=h',gens:=g',drawn:=d',toks:=t' }:=by
 obtain⟨m,⟨o,es,ep,ho,r⟩,_⟩:=id I.loc;obtain⟨sl,hL⟩:=u.any ho I.free λz=>(hch _ z).2.1 rfl;exact I.step (ch:=ch) hch (λb o hL hb hc e n=>u.keep b o e n (λz=>(y9.mp (I.stkSub b z)).elim hL hb) hc) (λb o _ _ hc e n=>u.any e n hc) (λb o hc e n=>u.free b o e n hc) (λb o hc e=>u.there b o e hc) u.tups u.frzs u.tbls (λm' hm=>by obtain⟨o',es',ep',ho',r'⟩:=hm;rw[ho]at ho';cases ho';exact⟨_,es',ep',hL,r'⟩) hok hg
def Inv.turned{t':Nat}(I:Inv X pins σ H s)(k:∀b o,b≠it->s.heap.get? b=some o->h'.get? b=some o)(hn:H it=none)(hL:it≠X.env.locals)(h1:it∈X.ex\/X.s₀.heap.objs.size<=it)(h2:∀x c,X.env.cells.lookup x=some c->c≠it)(h3:∀p∈X.pn++pins,p.1≠it):Inv X pins σ H { s with heap:=h',toks:=t' }:=by
 have nit:∀b u,H b=some u->b≠it:=λb u e z=>by rw[z,hn]at e;cases e
 refine I.step (g':=s.gens) (d':=s.drawn) (ch:=[it]) (λb hb=>?_) (λb o _ _ hc e _=>k b o (λz=>hc (by simp[z])) e) (λb o _ _ hc e _=>⟨o.slots,k b o (λz=>hc (by simp[z])) e⟩) (λ_ _ _ _ n=>n)
  (λb o hc e=>⟨o,k b o (λz=>hc (by simp[z])) e⟩) (λ_ _ e=>e) (λ_ _ _ e=>e) (λb ps e=>⟨#[],by rw[e];simp⟩) (λm hm=>?_) (λb u e=>?_) I.bare
 ·have e:b=it:=by simpa using hb
  subst e;exact⟨h1,hL,h2,h3⟩
 ·obtain⟨o,es,ep,ho,r⟩:=hm;exact⟨o,es,ep,k _ o (sj hL) ho,r⟩
 ·refine(I.hok b u e).stay (λc v hc q=>k c v ?_ q) (λ_ q=>q) λ_ _ q=>q;rcases hc with z|z;·rw[z];exact nit b u e
  ·exact nit c _ z
def Inv.tok(I:Inv X pins σ H s)(t:Nat):Inv X pins σ H { s with toks:=t }:=I.un (h':=s.heap) (t':=t) Un.refl I.hok
def Inv.kept{t':Nat}(I:Inv X pins σ H s)(k:∀b u,s.heap.get? b=some u->h'.get? b=some u):Inv X pins σ H { s with heap:=h',toks:=t' }:=I.un (Un.kept k) (I.hok.kept k)
def Inv.laid{o:HO}{t':Nat}(I:Inv X pins σ H s)(k:∀b u,s.heap.get? b=some u->h'.get? b=some u)(hp:s.heap.objs.size<=a)(new:ObjOk X.prog X.w (upd H a o) h' a o):
  Inv X pins σ (upd H a o) { s with heap:=h',toks:=t' }:=I.un (Un.laid k hp (I.hok.fresh hp)) (I.hok.laid k hp new)
def Inv.write{x e:Addr}{o:HO}{t':Nat}(I:Inv X pins σ H s)(mu:Mut (H x))(he:e=x\/H e=some (.own x))(k:∀b u,b≠e->s.heap.get? b=some u->h'.get? b=some u)(heo:∃u,h'.get? e=some u)(new:ObjOk X.prog X.w (upd H x o) h' x o):Inv X pins σ (upd H x o) { s with heap:=h',toks:=t' }:=I.un (Un.write mu he k heo) (I.hok.write mu he k heo new)
def Inv.pins_of{pins':List (Addr×Obj)}(I:Inv X pins σ H s)(h:∀p∈pins',s.heap.get? p.1=some p.2/\H p.1=none/\p.1≠X.env.locals/\p.1∉X.fs/\∀v,p.2.data≠.cell v):Inv X pins' σ H s:=
 ⟨I.ok,I.os,I.bare,I.base,I.loc,I.cell,I.free,I.freeC,λp hp=>(r8.mp hp).elim (λz=>I.pin p (Z2 _ z)) (h p),I.hok,I.len⟩
def ue{N:List Str}(hN:N.Nodup){i:Nat}(a:N[i]?=some x)(b:N[j]?=some x):i=j:=by obtain⟨h1,e1⟩:=tj.mp a;obtain⟨h2,e2⟩:=tj.mp b;exact(List.getElem_inj hN).mp (e1.trans e2.symm)
def pG{M:Model}{A:Around}{i:Nat}{u:Value}{Q:Unit->Shared->Prop}(I:Inv X pins σ H s)(hN:X.N.Nodup)(hi:X.N[i]?=some x)(hx:Loc X.env.scope x)(r:RelV v u)(h:∀s',Inv X pins (σ.set i (some v)) H s'->(∃a,Heap.SameBut a s.heap s'.heap/\(a=X.env.locals\/X.env.cells.lookup x=some a))->Q () s')(hf:X.fn x=true\/X.env.scope.names.lookup x=some .local:=by first|exact .inl rfl|exact .inr rfl|assumption):wpAny M A (storeName X.env x u) Q E s:=by
 obtain⟨m,hn,hl⟩:=id I.loc;have hcls:(X.env.scope.kind==.class || (X.env.scope.kind==.module && X.env.locals != X.env.globals))=false:=by rw[I.ok.kind];rfl
 have hiσ:i<σ.length:=by rw[I.len];exact(tj.mp hi).1
 have cne:=I.cne;have tracked:∀{a:Addr}{h':Heap},(∃o,s.heap.get? a=some o/\H a=none)->Heap.SameBut a s.heap h'->HOk X.prog X.w H h':=λ{a h'} ha hs b ob e=>by
  obtain⟨_,_,hfree⟩:=ha;refine(I.hok b ob e).stay (λc w' hc q=>(hs.2 c ?_).trans q) (λ_ q=>q) λ_ _ q=>q;rintro rfl;rcases hc with rfl|hc;·rw[hfree]at e;cases e
  ·rw[hfree]at hc;cases hc
 rcases hx with hk|hk
 ·refine wpAny_storeName_local hk hn (λh' hn' hs=>?_) hcls;obtain⟨oL,_,_,hoL,_⟩:=id hn;refine h _ ⟨I.ok,I.os,I.bare,⟨λb o e n hb hx=>?_,λb o e n hb hx=>?_,I.base.free,λb o e hx=>?_,I.base.tups,I.base.frzs,I.base.tbls⟩,⟨_,hn',λj y v' e1 e2 e3=>?_⟩,λy c e=>?_,I.free,I.freeC,λp hp=>?_,tracked ⟨oL,hoL,I.free⟩ hs,by simpa using I.len⟩ ⟨_,hs,.inl rfl⟩;·exact(hs.2 b (t9 (rB (xi e) I.ok.above))).trans (I.base.keep b o e n hb hx)
  ·obtain⟨sl,e1⟩:=I.base.slot b o e n hb hx;exact⟨sl,(hs.2 b (t9 (rB (xi e) I.ok.above))).trans e1⟩
  ·obtain⟨o',e1⟩:=I.base.there b o e hx;exact⟨o',(hs.2 b (t9 (rB (xi e) I.ok.above))).trans e1⟩
  ·by_cases hj:j=i;·subst hj;rw[hi]at e1;cases e1;rw[su hiσ]at e2;cases e2;exact⟨u,r,.inl ⟨hk,by simp⟩⟩
   ·rw[rG (sj hj)]at e2;obtain⟨u',r',q⟩:=hl j y v' e1 e2 e3;refine⟨u',r',?_⟩;rcases q with⟨k,e⟩|⟨k,c,e,z⟩
    ·refine .inl ⟨k,?_⟩;have:y≠x:=λe=>hj (ue hN e1 (e▸hi));simp[this,e]
    ·exact .inr ⟨k,c,e,z.sameBut hs (cne y c e)⟩
  ·obtain⟨w',z⟩:=I.cell y c e;exact⟨w',z.sameBut hs (cne y c e)⟩
  ·obtain⟨e,n,ne,nf,d⟩:=I.pin p hp;exact⟨(hs.2 p.1 ne).trans e,n,ne,nf,d⟩
 ·have hfn:X.fn x=true:=by
   rcases hf with z|z;·exact z
   ·rw[z]at hk;cases hk
  obtain⟨c,hc⟩:=I.ok.has x (.inl hk);obtain⟨w',z⟩:=I.cell x c hc;refine wpAny_storeName_cell I.ok.kind hk hc z (λh' hc' hs=>?_);obtain⟨oc,hoc,hocd⟩:=id z;refine h { s with heap:=h' } ⟨I.ok,I.os,I.bare,⟨λb o e n hb hx=>?_,λb o e n hb hx=>?_,I.base.free,λb o e hx=>?_,I.base.tups,I.base.frzs,I.base.tbls⟩,⟨m,hn.sameBut hs (sj (cne x c hc)),λj y v' e1 e2 e3=>?_⟩,λy c' e=>?_,I.free,I.freeC,λp hp=>?_,tracked ⟨oc,hoc,I.freeC x c hc⟩ hs,by simpa using I.len⟩ ⟨c,hs,.inr hc⟩;·exact(hs.2 b (t9 (rB (xi e) (I.ok.cab x c hfn hc)))).trans (I.base.keep b o e n hb hx)
  ·obtain⟨sl,e1⟩:=I.base.slot b o e n hb hx;exact⟨sl,(hs.2 b (t9 (rB (xi e) (I.ok.cab x c hfn hc)))).trans e1⟩
  ·obtain⟨o',e1⟩:=I.base.there b o e hx;exact⟨o',(hs.2 b (t9 (rB (xi e) (I.ok.cab x c hfn hc)))).trans e1⟩
  ·by_cases hj:j=i;·subst hj;rw[hi]at e1;cases e1;rw[su hiσ]at e2;cases e2;exact⟨u,r,.inr ⟨.inl hk,c,hc,hc'⟩⟩
   ·rw[rG (sj hj)]at e2;obtain⟨u',r',q⟩:=hl j y v' e1 e2 e3;refine⟨u',r',?_⟩;rcases q with q|⟨k,c',e,z'⟩;·exact .inl q
    ·refine .inr ⟨k,c',e,z'.sameBut hs ?_⟩;rintro rfl;exact hj (ue hN e1 (I.ok.inj _ _ _ e hc▸hi))
  ·by_cases hcc:c'=c;·subst hcc;exact⟨_,hc'⟩
   ·obtain⟨w2,z2⟩:=I.cell y c' e;exact⟨w2,z2.sameBut hs hcc⟩
  ·obtain⟨e,n,ne,nf,d⟩:=I.pin p hp;refine⟨(hs.2 p.1 ?_).trans e,n,ne,nf,d⟩;intro q;rw[q,hoc]at e;have q':oc=p.2:=vC e;exact d w' (by rw[<- q'];exact hocd)
def Ba{M:Model}{A:Around}{i:Nat}{u:Value}{Q:Unit->Shared->Prop}(I:Inv X pins σ H s)(hN:X.N.Nodup)(hi:X.N[i]?=some x)(hx:Loc X.env.scope x)(r:RelV v u)(h:∀s',Inv X pins (σ.set i (some v)) H s'->Q () s')(hf:X.fn x=true\/X.env.scope.names.lookup x=some .local:=by first|exact .inl rfl|exact .inr rfl|assumption):wpAny M A (storeName X.env x u) Q E s:=
 pG I hN hi hx r (λs' I' _=>h s' I') hf
def Inv.call'(I:Inv X pins σ H s)(ho:s'.os=s.os)(u:Un (frs X.stack) ch H H' s.heap s'.heap)(hok:HOk X.prog X.w H' s'.heap)(hg:AllBare s'.gens)(hch:∀b∈ch,(b∈X.ex\/X.s₀.heap.objs.size<=b)/\b≠X.env.locals/\(∀x c,X.env.cells.lookup x=some c->c≠b)/\∀p∈X.pn++pins,p.1≠b):Inv X pins σ H' s':=by
 obtain⟨h',g',d',t',o'⟩:=s';have e:o'=s.os:=ho;subst e;exact I.call (g':=g') (t':=t') (d':=d') u hok hg hch
end
abbrev XK:=Value->Option Addr->Hp->Prop
abbrev St:=List (Option V)
abbrev VK:=V->Hp->Prop
abbrev TE:=St->Hp->VK->Prop
abbrev TT:=St->Hp->(Bool->Hp->Prop)->Prop
abbrev TA:=St->Hp->(List V->Hp->Prop)->Prop
structure Ends where
 nx:St->Hp->Prop
 rt:VK
 bk:St->Hp->Prop:=λ_ _=>False
 ct:St->Hp->Prop:=λ_ _=>False
abbrev TS:=Ends->St->Hp->Prop
def EP(X:Cx)(pins:List (Addr×Obj))(σ:St)(Q:VK)(u:Value)(s':Shared):Prop:=∃v H',Inv X pins σ H' s'/\RelV v u/\Q v H'
def TP(X:Cx)(pins:List (Addr×Obj))(σ:St)(Q:Bool->Hp->Prop)(b:Bool)(s':Shared):Prop:=∃H',Inv X pins σ H' s'/\Q b H'
def AP(X:Cx)(pins:List (Addr×Obj))(σ:St)(Q:List V->Hp->Prop)(us:List Value)(s':Shared):Prop:=∃vs H',Inv X pins σ H' s'/\Vals vs us/\Q vs H'
noncomputable def SP(X:Cx)(pins:List (Addr×Obj))(D:Ends)(f:Flow)(s':Shared):Prop:=
 match f with
 |.next=>∃σ' H',Inv X pins σ' H' s'/\D.nx σ' H'
 |.brk=>∃σ' H',Inv X pins σ' H' s'/\D.bk σ' H'
 |.cont=>∃σ' H',Inv X pins σ' H' s'/\D.ct σ' H'
 |.ret u=>∃v σ' H',Inv X pins σ' H' s'/\RelV v u/\D.rt v H'
def PE(X:Cx)(e:Expr)(t:TE):Prop:=
 ∀(pins:List (Addr×Obj))(s:Shared)(σ:St)(H:Hp)(Q:VK),Inv X pins σ H s->t σ H Q->wpAny (model X.prog X.w) X.A (eval e X.env) (EP X pins σ Q) X.xe s
def PT(X:Cx)(e:Expr)(t:TT):Prop:=
 ∀(pins:List (Addr×Obj))(s:Shared)(σ:St)(H:Hp)(Q:Bool->Hp->Prop),Inv X pins σ H s->t σ H Q->wpAny (model X.prog X.w) X.A (isTrue e X.env (eval e X.env)) (TP X pins σ Q) X.xe s
def PW(X:Cx)(e:Expr)(t:TT):Prop:=
 ∀(whole:Sem Value)(pins:List (Addr×Obj))(s:Shared)(σ:St)(H:Hp)(Q:Bool->Hp->Prop),Inv X pins σ H s->t σ H Q->wpAny (model X.prog X.w) X.A (isTrue e X.env whole) (TP X pins σ Q) X.xe s
def PA(X:Cx)(es:List Expr)(t:TA):Prop:=
 ∀(pos:Pos)(pins:List (Addr×Obj))(s:Shared)(σ:St)(H:Hp)(Q:List V->Hp->Prop),Inv X pins σ H s->t σ H Q->wpAny (model X.prog X.w) X.A (spliced (backTo pos (starEach es X.env))) (AP X pins σ Q) X.xe s
def PS(X:Cx)(st:Stmt)(t:TS):Prop:=
 ∀(pins:List (Addr×Obj))(s:Shared)(σ:St)(H:Hp)(D:Ends),Inv X pins σ H s->t D σ H->wpAny (model X.prog X.w) X.A (exec st X.env) (SP X pins D) X.xe s
def PSs(X:Cx)(st:List Stmt)(t:TS):Prop:=
 ∀(pins:List (Addr×Obj))(s:Shared)(σ:St)(H:Hp)(D:Ends),Inv X pins σ H s->t D σ H->wpAny (model X.prog X.w) X.A (execs st X.env) (SP X pins D) X.xe s
def thn{α:Type}{t:Sem α}{Q Q':α->Shared->Prop}{M:Model}{A:Around}(h:wpAny M A t Q E s)(hQ:∀a s,Q a s->Q' a s):wpAny M A t Q' E s:=t7 h hQ λ_ _ x=>x
end L2
variable{σ:L2.St}{X:L2.Cx}
namespace L2
open PySem PySem.Spec PyProof.Rows
section
def bin{a b:Expr}{ta tb:TE}(ha:PE X a ta)(hb:PE X b tb){R:V->V->Hp->Prop}(I:Inv X pins σ H s)(h:ta σ H λx H1=>tb σ H1 λy H2=>R x y H2){α:Type}{Q:α->Shared->Prop}{f:Value->Value->Sem α}(hf:∀v u s2 x y H2,Inv X pins σ H2 s2->RelV x v->RelV y u->R x y H2->wpAny (model X.prog X.w) X.A (f v u) Q X.xe s2):
  wpAny (model X.prog X.w) X.A (eval a X.env) (λv s₁=>wpAny (model X.prog X.w) X.A (eval b X.env) (λu s₂=>wpAny (model X.prog X.w) X.A (f v u) Q X.xe s₂) X.xe s₁) X.xe s:=by
 refine thn (ha pins s σ H _ I h) λv s1 ⟨x,H1,I1,r1,q1⟩=>?_;refine thn (hb pins s1 σ H1 _ I1 q1) λu s2 ⟨y,H2,I2,r2,q2⟩=>?_;exact hf v u s2 x y H2 I2 r1 r2 q2
def nX(i:Nat):TE:=λσ H Q=>∃v,σ[i]?=some (some v)/\Q v H
def tC(v:V):TE:=λ_ H Q=>Q v H
def fD{i:Nat}(hN:X.N[i]?=some x)(hv:Vis X.env.scope x)(hd:(x==("__debug__":Str))=false:=by decide)(hcd:(x==("__classdict__":Str))=false:=by decide):PE X (.Name x pos) (nX i):=by
 intro pins s σ H Q I h;obtain⟨v,e,h⟩:=h;obtain⟨m,hn,hl⟩:=I.loc;obtain⟨u,r,l⟩:=hl i x v hN e hv;have fin:EP X pins σ Q u s:=⟨v,H,I,r,h⟩
 rcases l with⟨hk,hm⟩|⟨hk,c,hc,hcell⟩;·exact wpAny_Name (wpAny_loadName_local I.ok.kind hk hn hm fin) hd
 ·rcases hk with hk|hk;·exact wpAny_Name (wpAny_loadName_cell I.ok.kind hk hc hcell fin) hd
  ·exact wpAny_Name (wpAny_loadName_free I.ok.kind hk hc hcell fin hcd) hd
def yh {i j pos}:PE X (.Constant (.int i) j pos) (tC (.int i)):=λ_ _ _ H _ I h=>wpAny_Constant_int ⟨.int i,H,I.tok _,⟨_,rfl⟩,h⟩
def ya {b j pos}:PE X (.Constant (.bool b) j pos) (tC (.bl b)):=λ_ _ _ H _ I h=>Constant_bool ⟨.bl b,H,I,rfl,h⟩
def HJ {j pos}:PE X (.Constant .none j pos) (tC .non):=λ_ _ _ H _ I h=>Constant_none ⟨.non,H,I,rfl,h⟩
def HX {x j pos}:PE X (.Constant (.str x) j pos) (tC (.str x)):=λ_ _ _ H _ I h=>Calls.Constant_str ⟨.str x,H,I.tok _,⟨_,rfl⟩,h⟩
def Gl(X:Cx)(x:Str):Prop:=X.env.kindOf x=some .globalImplicit
def mW{u:Value}{Q:Value->Shared->Prop}(I:Inv X pins σ H s)(hg:Gl X x)(hm:X.mg x=some u)(h:Q u s)(hd:(x==("__debug__":Str))=false:=by decide):wpAny (model X.prog X.w) X.A (eval (.Name x pos) X.env) Q E s:=
 YB I.ok.kind hg (Calls.loadGlobal_global (by rw[I.ok.glob];exact I.mod.glob.keeps I.bk) hm h) hd
def kC{u:Value}{Q:Value->Shared->Prop}(I:Inv X pins σ H s)(hg:Gl X x)(hm:X.mg x=none)(hv:bootBuiltins x=some u)(h:Q u s)(hn:x≠"__name__":=by decide)(hd:(x==("__debug__":Str))=false:=by decide):wpAny (model X.prog X.w) X.A (eval (.Name x pos) X.env) Q E s:=by
 obtain⟨mb,h1,h2⟩:=I.mod.blt;exact YB I.ok.kind hg (Calls.loadGlobal_builtin (by rw[I.ok.glob];exact I.mod.glob.keeps I.bk) hm (by rw[I.ok.blt];exact h1.keeps I.bk) ((h2 x hn).trans hv) h) hd
def rz{u:Value}(hg:Gl X x)(hm:X.mg x=some u)(r:RelV v u)(hd:(x==("__debug__":Str))=false:=by decide):PE X (.Name x pos) (tC v):=
 λ_ _ _ H _ I h=>mW I hg hm ⟨v,H,I,r,h⟩ hd
def CT{u:Value}(hg:Gl X x)(hm:X.mg x=none)(hv:bootBuiltins x=some u)(r:RelV v u)(hn:x≠"__name__":=by decide)(hd:(x==("__debug__":Str))=false:=by decide):PE X (.Name x pos) (tC v):=
 λ_ _ _ H _ I h=>kC I hg hm hv ⟨v,H,I,r,h⟩ hn hd
def t2I(ta tb:TE)(k:Int->Int->Hp->Prop):St->Hp->Prop:=λσ H=>ta σ H λx H1=>tb σ H1 λy H2=>∃i j,x=.int i/\y=.int j/\k i j H2
def JI(ta tb:TE):TE:=λσ H Q=>t2I ta tb (λi j H2=>Q (.int (i+j)) H2) σ H
variable{a b:Expr}{ta tb:TE}
def BR(ha:PE X a ta)(hb:PE X b tb):PE X (.BinOp a .Add b pos) (JI ta tb):=by intro pins s σ H Q I h;refine wpAny_BinOp (bin ha hb I h λv u s2 x y H2 I2 rx ry q=>?_);obtain⟨i,j,rfl,rfl,q⟩:=q;obtain⟨t,rfl⟩:=rx;obtain⟨t',rfl⟩:=ry;exact add_int ⟨.int _,H2,I2.tok _,⟨_,rfl⟩,q⟩
noncomputable def PC(X:Cx)(op:CmpOp)(a b:Expr)(t:TE):Prop:=
 ∀(pins:List (Addr×Obj))(s:Shared)(σ:St)(H:Hp)(Q:VK),Inv X pins σ H s->t σ H Q->
  wpAny (model X.prog X.w) X.A (eval a X.env) (λv s₁=>wpAny (model X.prog X.w) X.A (eval b X.env) (λu s₂=>wpAny (model X.prog X.w) X.A (compareOp op v u) (EP X pins σ Q) X.xe s₂) X.xe s₁) X.xe s
def tB(t:TE):TT:=λσ H Q=>t σ H λx H1=>∃c,x=.bl c/\Q c H1
def Hw{op:CmpOp}{t:TE}(h:PC X op a b t)(h1:behindInMarks op b=false:=by first|exact nobehind _ (by decide) (by decide)|rfl):PT X (.Compare a [op] [b] pos) (tB t):=by intro pins s σ H Q I hw;refine wpAny_isTrue_Compare1 (thn (h pins s σ H _ I hw) λv s1 h1=>thn h1 λu s2 h2=>thn h2 λc s3 ⟨x,H1,I1,r1,q1⟩=>?_) h1;obtain⟨d,rfl,q⟩:=q1;cases r1;exact oQ ⟨H1,I1,q⟩
def FH{e:Expr}{t:TE}(h:PE X e t)(he:∀whole,isTrue e X.env whole=(do let v <- whole;standAt e.pos;holding [v] (truthy v)):=by intro _;rfl):PT X e (tB t):=by intro pins s σ H Q I hw;refine isTrue_plain (thn (h pins s σ H _ I hw) λv s1 ⟨x,H1,I1,r1,q1⟩=>?_) (he _);obtain⟨d,rfl,q⟩:=q1;cases r1;exact oQ ⟨H1,I1,q⟩
variable{tA tB':TT}{bQ:List Expr}
def MU(t u:TT):TT:=λσ H Q=>t σ H λc H1=>if c=true then u σ H1 Q else Q false H1
def tOr(t u:TT):TT:=λσ H Q=>t σ H λc H1=>if c=true then Q true H1 else u σ H1 Q
def LD(t:TT):TT:=λσ H Q=>t σ H λc H1=>Q (!c) H1
def Et(ha:PT X a tA):PW X (.BoolOp .And [a] pos) tA:=by
 intro wh pins s σ H Q I h;refine isTrue_and (thn (ha pins s σ H Q I h) λc s1 e=>?_);cases c with
 |true=>exact isTrue_and_nil e
 |false=>exact e
def Hv(ha:PT X a tA):PW X (.BoolOp .Or [a] pos) tA:=by
 intro wh pins s σ H Q I h;refine isTrue_or (thn (ha pins s σ H Q I h) λc s1 e=>?_);cases c with
 |false=>exact isTrue_or_nil e
 |true=>exact e
def FK(ha:PT X a tA)(hb:PW X (.BoolOp .And (b::bQ) pos) tB'):PW X (.BoolOp .And (a::b::bQ) pos) (MU tA tB'):=by
 intro wh pins s σ H Q I h;refine isTrue_and (thn (ha pins s σ H _ I h) λc s1 ⟨H1,I1,q1⟩=>?_);cases c with
 |true=>exact hb wh pins s1 σ H1 Q I1 q1
 |false=>exact⟨H1,I1,q1⟩
def JY(ha:PT X a tA)(hb:PW X (.BoolOp .Or (b::bQ) pos) tB'):PW X (.BoolOp .Or (a::b::bQ) pos) (tOr tA tB'):=by
 intro wh pins s σ H Q I h;refine isTrue_or (thn (ha pins s σ H _ I h) λc s1 ⟨H1,I1,q1⟩=>?_);cases c with
 |true=>exact⟨H1,I1,q1⟩
 |false=>exact hb wh pins s1 σ H1 Q I1 q1
def Fx(ha:PT X a tA):PT X (.UnaryOp .Not a pos) (LD tA):=by intro pins s σ H Q I h;exact isTrue_not (ha pins s σ H (λc H1=>Q (!c) H1) I h)
def Jq(ta tb:TE):TE:=λσ H Q=>ta σ H λx H1=>∃c,x=.bl c/\if c=true then tb σ H1 Q else Q (.bl false) H1
def LJ(ta tb:TE):TE:=λσ H Q=>ta σ H λx H1=>∃c,x=.bl c/\if c=true then Q (.bl true) H1 else tb σ H1 Q
def KG(ta:TE):TE:=λσ H Q=>ta σ H λx H1=>∃c,x=.bl c/\Q (.bl (!c)) H1
def Im {op} {t:TE} (h:PE X a t):PE X (.BoolOp op [a] pos) t:=λpins s σ H Q I hw=>BoolOp_one (h pins s σ H Q I hw)
def FV(ha:PE X a ta)(hb:PE X (.BoolOp .And (b::bQ) pos) tb):PE X (.BoolOp .And (a::b::bQ) pos) (Jq ta tb):=by
 intro pins s σ H Q I h;refine BoolOp_and (thn (ha pins s σ H _ I h) λv s1 ⟨x,H1,I1,r1,q1⟩=>?_);obtain⟨c,rfl,q1⟩:=q1;cases r1;refine oQ ?_;cases c with
 |true=>exact hb pins s1 σ H1 Q I1 q1
 |false=>exact⟨.bl false,H1,I1,rfl,q1⟩
def Ju(ha:PE X a ta)(hb:PE X (.BoolOp .Or (b::bQ) pos) tb):PE X (.BoolOp .Or (a::b::bQ) pos) (LJ ta tb):=by
 intro pins s σ H Q I h;refine BoolOp_or (thn (ha pins s σ H _ I h) λv s1 ⟨x,H1,I1,r1,q1⟩=>?_);obtain⟨c,rfl,q1⟩:=q1;cases r1;refine oQ ?_;cases c with
 |false=>exact hb pins s1 σ H1 Q I1 q1
 |true=>exact⟨.bl true,H1,I1,rfl,q1⟩
def Iu(ha:PE X a ta):PE X (.UnaryOp .Not a pos) (KG ta):=by intro pins s σ H Q I h;refine UnaryOp_ (thn (ha pins s σ H _ I h) λv s1 ⟨x,H1,I1,r1,q1⟩=>?_);obtain⟨c,rfl,q1⟩:=q1;cases r1;exact not_of (oQ ⟨.bl (!c),H1,I1,rfl,q1⟩)
def tIf(t:TT)(ta tb:TE):TE:=λσ H Q=>t σ H λc H1=>if c=true then ta σ H1 Q else tb σ H1 Q
def Ao{c:Expr}(hc:PT X c tA)(ha:PE X a ta)(hb:PE X b tb):PE X (.IfExp c a b pos) (tIf tA ta tb):=by
 intro pins s σ H Q I h;refine wpAny_IfExp (thn (hc pins s σ H _ I h) λd s1 ⟨H1,I1,q1⟩=>?_);cases d with
 |true=>exact ha pins s1 σ H1 Q I1 q1
 |false=>exact hb pins s1 σ H1 Q I1 q1
end
def SqL(K:W.Frag)(H:Hp)(a:Addr)(xs:List V):Prop:=
 Rd H a (.lst xs)\/
  ∃(o:Obj)(its:Array Value)(n:Nat),K.lookup a=some o/\o.cls=.type "list"/\o.dict=none/\o.data=.seq its n/\its.size<=sizeLine/\Vals xs its.toList
def SqT(K:W.Frag)(H:Hp)(a:Addr)(xs:List V):Prop:=
 Rd H a (.tup xs)\/
  ∃(o:Obj)(its:Array Value)(n:Nat),K.lookup a=some o/\o.cls=.type "tuple"/\o.data=.seq its n/\its.size<=sizeLine/\Vals xs its.toList
def Mj:Value->Option V
 |.none=>some .non
 |.bool b=>some (.bl b)
 |.int i _=>some (.int i)
 |.str x _=>some (.str x)
 |.bytes b _=>some (.byt b)
 |.float b _=>some (.flt b)
 |.ref a=>some (.ref a)
 |.type n=>some (.ty n)
 |_=>none
def RelV.abs{x:V}{u:Value}(r:RelV x u):Mj u=some x:=by
 cases x with
 |non=>cases r;rfl
 |bl _=>cases r;rfl
 |int _=>obtain⟨t,rfl⟩:=r;rfl
 |str _=>obtain⟨t,rfl⟩:=r;rfl
 |byt _=>obtain⟨t,rfl⟩:=r;rfl
 |flt _=>obtain⟨t,rfl⟩:=r;rfl
 |ref _=>cases r;rfl
 |ty _=>cases r;rfl
def RelV.inj{x y:V}{u:Value}(r:RelV x u)(q:RelV y u):x=y:=vC (r.abs.symm.trans q.abs)
theorem Vals.inj:∀{xs ys:List V}{us:List Value},Vals xs us->Vals ys us->xs=ys
 |_,_,_,.nil,.nil=>rfl
 |_,_,_,.cons r t,.cons r' t'=>by rw[r.inj r',Vals.inj t t']
section
variable{ys:List V}
def SqL.of{K:W.Frag}(h:H a=some (.lst xs)):SqL K H a xs:=.inl (.inl h)
def SqT.of{K:W.Frag}(h:H a=some (.tup xs)):SqT K H a xs:=.inl (.inl h)
def Inv.list(I:Inv X pins σ H s)(h:SqL X.K H a xs):∃its:List Value,Vals xs its/\PlainL s.heap a its.toArray/\xs.length<=sizeLine:=by
 rcases h with h|⟨o,its,n,hk,hc,hd,hs,hz,r⟩;·obtain⟨z,its,n,r,e⟩:=h.ok I.hok;exact⟨its,r,⟨_,n,e,rfl,rfl,rfl⟩,z⟩
 ·refine⟨its.toList,r,⟨o,n,I.kIn a o hk,hc,hd,by simpa using hs⟩,?_⟩;have e:=r.length;simp only[qY]at e;omega
def Inv.tuple(I:Inv X pins σ H s)(h:SqT X.K H a xs):∃its:List Value,Vals xs its/\IsTup s.heap a its.toArray/\xs.length<=sizeLine:=by
 rcases h with h|⟨o,its,n,hk,hc,hs,hz,r⟩;·obtain⟨z,its,r,p⟩:=h.ok I.hok;exact⟨its,r,p,z⟩
 ·refine⟨its.toList,r,⟨o,I.kIn a o hk,hc,n,by simpa using hs⟩,?_⟩;have e:=r.length;simp only[qY]at e;omega
def Inv.list_inj(I:Inv X pins σ H s)(h:SqL X.K H a xs)(h':SqL X.K H a ys):xs=ys:=by
 obtain⟨its,r,⟨o,n,e,_,_,d⟩,_⟩:=I.list h;obtain⟨its',r',⟨o',n',e',_,_,d'⟩,_⟩:=I.list h';rw[e]at e';cases e';rw[d]at d';injection d' with d1 _;have:its=its':=by simpa using o9 Array.toList d1
 subst this;exact r.inj r'
def Inv.tuple_inj(I:Inv X pins σ H s)(h:SqT X.K H a xs)(h':SqT X.K H a ys):xs=ys:=by
 obtain⟨its,r,⟨o,e,_,n,d⟩,_⟩:=I.tuple h;obtain⟨its',r',⟨o',e',_,n',d'⟩,_⟩:=I.tuple h';rw[e]at e';cases e';rw[d]at d';injection d' with d1 _;have:its=its':=by simpa using o9 Array.toList d1
 subst this;exact r.inj r'
end
abbrev Cx.wish(X:Cx)(E:Value->Shared->Prop):Cx:={ X with xe:=E }
section
variable{st:Stmt}{bQ:List Stmt}{t u:TS}{e:Expr}{te:TE}
def Fb:TS:=λD σ H=>D.nx σ H
def B2(t u:TS):TS:=λD σ H=>t { D with nx:=u D } σ H
def sx:PSs X [] Fb:=λ_ _ σ H _ I h=>Zp ⟨σ,H,I,h⟩
def cF(h1:PS X st t)(h2:PSs X bQ u):PSs X (st::bQ) (B2 t u):=by
 intro pins s σ H D I h;refine wpAny_execs_cons (thn (h1 pins s σ H { D with nx:=u D } I h) λf s1 q=>?_);cases f with
 |next=>obtain⟨σ',H',I',q⟩:=q;exact h2 pins s1 σ' H' D I' q
 |ret v=>exact q
 |brk=>exact q
 |cont=>exact q
def jq(h1:PS X st t):PSs X [st] t:=by
 intro pins s σ H D I h;refine wpAny_execs_cons (thn (h1 pins s σ H D I h) λf s1 q=>?_);cases f with
 |next=>exact Zp q
 |ret v=>exact q
 |brk=>exact q
 |cont=>exact q
def Inv.quiet(I:Inv X pins σ H s):interactive X.env=false:=by simp[interactive,I.ok.kind]
def Hh(te:TE):TS:=λD σ H=>te σ H λ_ H1=>D.nx σ H1
def jh(he:PE X e te)(hs:swapsWith e none pos.line X.env=pure false:=by rfl):PS X (.Expr e pos) (Hh te):=by intro pins s σ H D I h;exact wpAny_Expr_any (thn (he pins s σ H _ I h) λv s1 ⟨x,H1,I1,r1,q1⟩=>⟨σ,H1,I1,q1⟩) I.quiet hs
def Lp(te:TE):TS:=λD σ H=>te σ H D.rt
def xR(he:PE X e te):PS X (.Return (some e) pos) (Lp te):=by intro pins s σ H D I h;exact wpAny_Return_some (thn (he pins s σ H _ I h) λv s1 ⟨x,H1,I1,r1,q1⟩=>⟨x,σ,H1,I1,r1,q1⟩)
def JT(c:TT)(t u:TS):TS:=λD σ H=>c σ H λb H1=>if b=true then t D σ H1 else u D σ H1
def EY{c:Expr}{a b:List Stmt}{tc:TT}(hc:PT X c tc)(ha:PSs X a t)(hb:PSs X b u):PS X (.If c a b pos) (JT tc t u):=by
 intro pins s σ H D I h;refine wpAny_If (thn (hc pins s σ H _ I h) λd s1 ⟨H1,I1,q1⟩=>?_);cases d with
 |true=>exact ha pins s1 σ H1 D I1 q1
 |false=>exact hb pins s1 σ H1 D I1 q1
end
abbrev TG:=V->St->Hp->(St->Hp->Prop)->Prop
abbrev TGs:=List V->St->Hp->(St->Hp->Prop)->Prop
noncomputable def PG(X:Cx)(target:Expr)(t:TG):Prop:=
 ∀(pins:List (Addr×Obj))(s:Shared)(σ:St)(H:Hp)(v:V)(u:Value)(Q:St->Hp->Prop),Inv X pins σ H s->RelV v u->t v σ H Q->
  wpAny (model X.prog X.w) X.A (assign target X.env u) (λ_ s'=>∃σ' H',Inv X pins σ' H' s'/\Q σ' H') X.xe s
noncomputable def PGs(X:Cx)(ts:List Expr)(t:TGs):Prop:=
 ∀(pins:List (Addr×Obj))(s:Shared)(σ:St)(H:Hp)(vs:List V)(us:List Value)(Q:St->Hp->Prop),Inv X pins σ H s->Vals vs us->t vs σ H Q->
  wpAny (model X.prog X.w) X.A (assignInOrder ((assignEach ts X.env).map (·.2)) us) (λ_ s'=>∃σ' H',Inv X pins σ' H' s'/\Q σ' H') X.xe s
abbrev FF:=V->V->V->Hp->(Hp->Prop)->Prop
noncomputable def IV(X:Cx)(t:FF):Prop:=
 ∀(pins:List (Addr×Obj))(s:Shared)(σ:St)(H:Hp)(o i v:V)(ov iv u:Value)(Q:Hp->Prop),Inv X pins σ H s->RelV o ov->RelV i iv->RelV v u->t o i v H Q->
  wpAny (model X.prog X.w) X.A (setItem ov iv u) (λ_ s'=>∃H',Inv X pins σ H' s'/\Q H') X.xe s
section
def lU(i:Nat):TG:=λv σ H Q=>Q (σ.set i (some v)) H
def ia{i:Nat}(hN:X.N.Nodup)(hi:X.N[i]?=some x)(hx:Loc X.env.scope x)(hf:X.fn x=true\/X.env.scope.names.lookup x=some .local:=by first|exact .inl rfl|exact .inr rfl|assumption):PG X (.Name x pos) (lU i):=by intro pins s σ H v u Q I r h;exact wpAny_assign_Name (Ba I hN hi hx r (λs' I'=>⟨_,H,I',h⟩) hf)
def Lj:TGs:=λvs σ H Q=>vs=[]/\Q σ H
def EV(t:TG)(u:TGs):TGs:=λvs σ H Q=>∃v r,vs=v::r/\t v σ H λσ' H'=>u r σ' H' Q
def yy:PGs X [] Lj:=by intro pins s σ H vs us Q I r h;obtain⟨e,h⟩:=h;subst e;cases r;exact assignInOrder_nil ⟨σ,H,I,h⟩
def oe{e:Expr}{t:TG}{u:TGs}(h1:PG X e t)(h2:PGs X es u)(hs:(assignEach (e::es) X.env).map (·.2)=assign e X.env::(assignEach es X.env).map (·.2):=by rfl):PGs X (e::es) (EV t u):=by
 intro pins s σ H vs us Q I r h;obtain⟨v,vr,e1,h⟩:=h;subst e1;cases r with
 |cons r rr=>rw[hs];refine assignInOrder_cons (thn (h1 pins s σ H _ _ _ I r h) λ_ s1 ⟨σ1,H1,I1,q1⟩=>?_);exact h2 pins s1 σ1 H1 _ _ Q I1 rr q1
def Lo(K:W.Frag)(n:Nat)(t:TGs):TG:=λv σ H Q=>∃a xs,v=.ref a/\SqT K H a xs/\xs.length=n/\t xs σ H Q
def Ch{t:TGs}{n:Nat}(hc:X.calm=true)(h:PGs X es t)(hn:(assignEach es X.env).length=n:=by rfl)(hst:(assignEach es X.env).findIdx? (·.1)=none:=by rfl):PG X (.Tuple es k pos) (Lo X.K n t):=by
 intro pins s σ H v u Q I r hw;obtain⟨a,xs,e1,hq,hl,hw⟩:=hw;subst e1;cases r;obtain⟨its,rv,ht,hz⟩:=I.tuple hq;refine assign_Tuple_tuple (I.ok.hd hc) ht (by simp[hn,<- hl,rv.length]) hst λh' hx=>?_;have I1:Inv X pins σ H { s with heap:=h' }:=I.kept (t':=s.toks) λb o e=>hx b o (t9 (xi e)) e;exact h pins _ σ H xs _ Q I1 (by simpa using rv) hw
def GN(to ti:TE)(t:FF):TG:=λv σ H Q=>to σ H λo H1=>ti σ H1 λi H2=>t o i v H2 λH3=>Q σ H3
def uT{o i:Expr}{to ti:TE}{t:FF}(ho:PE X o to)(hi:PE X i ti)(hs:IV X t)(ha:∀v,assign (.Subscript o i pos) X.env v=(do
 let ov <- holding [v] (eval o X.env);let iv <- holding [v,ov] (eval i X.env)
 standAt pos
 holding [v,ov,iv] (setItem ov iv v)
 release [v,ov,iv] []):=by intro _;rfl):PG X (.Subscript o i pos) (GN to ti t):=by
 intro pins s σ H v u Q I r h;rw[ha];refine z5 (q9 (thn (ho pins s σ H _ I h) λov s1 ⟨x,H1,I1,r1,q1⟩=>?_));refine z5 (q9 (thn (hi pins s1 σ H1 _ I1 q1) λiv s2 ⟨y,H2,I2,r2,q2⟩=>?_));refine z5 (Zq (z5 (q9 (thn (hs pins s2 σ H2 x y v ov iv u _ I2 r1 r2 r q2) λ_ s3 ⟨H3,I3,q3⟩=>?_))));exact wpAny_release ⟨σ,H3,I3,q3⟩
def EK(te:TE)(g:TG):TS:=λD σ H=>te σ H λx H1=>g x σ H1 D.nx
def eU{tg e:Expr}{te:TE}{g:TG}(he:PE X e te)(hg:PG X tg g)(hs:swapsWithSole [tg] e pos.line X.env=pure false:=by rfl)(hw:swappedStores [tg] e X.env=pure none:=by rfl)(h1:(assignEach [tg] X.env).map (·.2)=[assign tg X.env]:=by rfl):PS X (.Assign [tg] e pos) (EK te g):=by
 intro pins s σ H D I h;refine wpAny_Assign_stores (thn (he pins s σ H _ I h) λv s1 ⟨x,H1,I1,r1,q1⟩=>?_) hs hw;rw[h1];exact thn (hg pins s1 σ H1 x v _ I1 r1 q1) λ_ s2 q=>q
end
section
def xt(c:TT)(tb:TS):TS:=λD σ H=>∃W:Nat->St->Hp->Prop,(∃m,W m σ H)/\∀m σ H,W m σ H->
 c σ H λb H1=>if b=true then ∃N:St->Hp->Prop,(∀σ' H',N σ' H'->∃m',m'<m/\W m' σ' H')/\tb { D with nx:=N,ct:=N,bk:=D.nx } σ H1 else D.nx σ H1
def AC{c:Expr}{tc:TT}{tb:TS}(hp:PassesOwn (model X.prog X.w) X.A X.env X.xe)(hc:PT X c tc)(hb:PSs X body tb):PS X (.While c body [] pos) (xt tc tb):=by
 intro pins s σ H D I h;obtain⟨W,⟨m0,w0⟩,CO⟩:=h;refine wpAny_While (codeAny_whileLoop (λn s'=>∃σ' H',Inv X pins σ' H' s'/\W n σ' H') ?_ m0 ⟨σ,H,I,w0⟩);rintro n s1 ⟨σ1,H1,I1,w1⟩;refine io hp (thn (hc pins s1 σ1 H1 _ I1 (CO n σ1 H1 w1)) λb s2 ⟨H2,I2,q2⟩=>?_);cases b with
 |true=>
  obtain⟨N,hN,q2⟩:=q2;rw[if_pos rfl];refine io hp (thn (hb pins s2 σ1 H2 _ I2 q2) λf s3 q3=>?_);cases f with
  |next=>obtain⟨σ3,H3,I3,n3⟩:=q3;obtain⟨m',hm,w3⟩:=hN σ3 H3 n3;exact⟨m',hm,σ3,H3,I3,w3⟩
  |cont=>obtain⟨σ3,H3,I3,n3⟩:=q3;obtain⟨m',hm,w3⟩:=hN σ3 H3 n3;exact⟨m',hm,σ3,H3,I3,w3⟩
  |brk=>exact q3
  |ret v=>exact q3
 |false=>rw[if_neg sP];exact Zp ⟨σ1,H2,I2,q2⟩
end
structure It where
 go:Nat->Hp->Prop
 yld:Nat->Hp->V->Hp->Prop
 stop:Nat->Hp->Prop
def lv(X:Cx)(pins:List (Addr×Obj))(H:Hp)(b:Addr):Prop:=
 H b=none/\b≠X.env.locals/\b∉X.fs/\(b∈X.ex\/X.s₀.heap.objs.size<=b)/\(∀x c,X.env.cells.lookup x=some c->c≠b)/\∀p∈X.pn++pins,p.1≠b
def Inv.fpOk{b:Addr}(I:Inv X pins σ H s)(hb:s.heap.objs.size<=b)(hn:H' b=none):lv X pins H' b:=by
 refine⟨hn,pZ (rB I.lt hb),I.nofs hb,.inr (w6 I.sz hb),λx c e z=>?_,λp hp z=>?_⟩;·obtain⟨v,q⟩:=I.cell x c e;exact absurd (rB q.lt (by rw[z];exact hb)) (nV _)
 ·exact absurd (rB (xi (I.pin p hp).1) (by rw[z];exact hb)) (nV _)
structure Turn(P:Program)(w:World)(K:W.Frag)(tg:Expr)(J:It)(fp:List Addr)(it:Addr)(tn:Nat->Heap->Prop):Prop where
 mem:it∈fp
 obj:∀i h,tn i h->∀b∈fp,∃o,h.get? b=some o/\∀v,o.data≠.cell v
 keep:∀i h h',tn i h->(∀b∈fp,∀o,h.get? b=some o->h'.get? b=some o)->tn i h'
 item:∀(X:Cx),X.prog=P->X.w=w->X.K=K->X.calm=true->∀(i:Nat)(pins:List (Addr×Obj))(s:Shared)(σ:St)(H:Hp)(E:Value->Shared->Prop),Inv X pins σ H s->(∀b∈fp,lv X pins H b)->tn i s.heap->J.go i H->
  wpAny (model P w) X.A (pyNext (.ref it)) (λr s1=>∃u,r=some u/\
   wpAny (model P w) X.A (letOwnedTupleGo tg (.ref it) u) (λ_ s2=>∃x H',Inv X pins σ H' s2/\RelV x u/\J.yld i H x H'/\tn (i+1) s2.heap/\∀b∈fp,H' b=none) E s1) E s
 done:∀(X:Cx),X.prog=P->X.w=w->X.K=K->X.calm=true->∀(i:Nat)(pins:List (Addr×Obj))(s:Shared)(σ:St)(H:Hp)(E:Value->Shared->Prop),Inv X pins σ H s->(∀b∈fp,lv X pins H b)->tn i s.heap->J.stop i H->
  wpAny (model P w) X.A (pyNext (.ref it)) (λr s1=>r=none/\Inv X pins σ H s1) E s
 self:∀(A:Around)(i:Nat)(s:Shared)(Q:Value->Shared->Prop)(E:Value->Shared->Prop),tn i s.heap->Q (.ref it) s->wpAny (model P w) A (pyIter (.ref it)) Q E s
abbrev TI:=St->Hp->(It->Hp->Prop)->Prop
noncomputable def PIE(X:Cx)(pins:List (Addr×Obj))(σ:St)(tg:Expr)(R:It->Hp->Prop)(itv:Value)(s2:Shared):Prop:=
 ∃(it:Addr)(fp:List Addr)(tn:Nat->Heap->Prop)(J:It)(H':Hp),itv=.ref it/\Inv X pins σ H' s2/\Turn X.prog X.w X.K tg J fp it tn/\tn 0 s2.heap/\(∀b∈fp,lv X pins H' b)/\R J H'
noncomputable def PI(X:Cx)(tg iter:Expr)(wi:TI):Prop:=
 ∀(pins:List (Addr×Obj))(s:Shared)(σ:St)(H:Hp)(R:It->Hp->Prop),Inv X pins σ H s->wi σ H R->
  wpAny (model X.prog X.w) X.A (eval iter X.env) (λv s1=>wpAny (model X.prog X.w) X.A (pyIter v) (PIE X pins σ tg R) X.xe s1) X.xe s
def wa{M : Model}{A : Around}{tg : Expr}{u : Value}{o : Obj}{n : String}{vs : Array Value}{Q : Unit -> Shared -> Prop}(ho : s.heap.get? it = some o)(hc : o.cls = .type n)(hd : o.data = .fields vs)(hn : ["enumerate", "zip", "dict_itemiterator", "dict_reverseitemiterator", "odict_iterator", "itertools.zip_longest", "itertools.pairwise"].contains n = false)(hQ : Q () s): wpAny M A (letOwnedTupleGo tg (.ref it) u) Q E s := by
  unfold letOwnedTupleGo;cases tg <;> first
    |exact z7 hQ
    | (cases u <;> first
        |exact z7 hQ
        | (refine z5 (wpAny_load ho ?_)
           rw[hc, hd];show wpAny M A (if (["enumerate", "zip", "dict_itemiterator", "dict_reverseitemiterator", "odict_iterator", "itertools.zip_longest", "itertools.pairwise"].contains n && vs[0]? == some (rawInt _)) = true then _ else _) Q E s;rw[if_neg (by intro h; rw[hn, Zr]at h; cases h)];exact z7 hQ))

def Itl(K:W.Frag)(a:Addr):It:=
 ⟨λi H=>∃xs x,SqL K H a xs/\xs[i]?=some x,λi H x H'=>H'=H/\∀xs,SqL K H a xs->xs[i]?=some x,λi H=>∃xs,SqL K H a xs/\xs.length<=i⟩
def Itt(K:W.Frag)(a:Addr):It:=
 ⟨λi H=>∃xs x,SqT K H a xs/\xs[i]?=some x,λi H x H'=>H'=H/\∀xs,SqT K H a xs->xs[i]?=some x,λi H=>∃xs,SqT K H a xs/\xs.length<=i⟩
def Itr(lo:Int)(n:Nat):It:=⟨λi _=>i<n,λi H x H'=>H'=H/\x=.int (lo+i),λi _=>n<=i⟩
def qt{w:World}{K:W.Frag}{tg:Expr}(a it:Addr):Turn P w K tg (Itl K a) [it] it (λi h=>h.IsListIter it a i) where
 mem:=by simp
 obj:=λi h st b hb=>by
  have e:b=it:=by simpa using hb
  subst e;obtain⟨o,e,c,d⟩:=st;exact⟨o,e,λv z=>by rw[d]at z;cases z⟩
 keep:=λi h h' st k=>st.at λo e=>k it (by simp) o e
 item:=by intro X hP hw hK hc i pins s σ H E I hf st hg;subst hP hw hK;obtain⟨xs,x,hq,hx⟩:=hg;obtain⟨its,rv,p,hz⟩:=I.list hq;obtain⟨u,hu,ru⟩:=rv.get hx;obtain⟨f0,f1,f2,f3,f4,f5⟩:=hf it (by simp);refine wpAny_pyNext_list_item st p.isList (x:=u) (by simpa using hu) λh' st' sb=>?_;have I1:Inv X pins σ H { s with heap:=h' }:=I.turned (t':=s.toks) (λb o hb e=>(sb.2 b hb).trans e) f0 f1 f3 f4 f5;obtain⟨o,e,c,d⟩:=id st';exact⟨u,rfl,wa (s:={ s with heap:=h' }) e c d (by decide) ⟨x,H,I1,ru,⟨rfl,λys hy=>by rw[I.list_inj hy hq];exact hx⟩,st',λb hb=>(hf b hb).1⟩⟩
 done:=by intro X hP hw hK hc i pins s σ H E I hf st hg;subst hP hw hK;obtain⟨xs,hq,hx⟩:=hg;obtain⟨its,rv,p,hz⟩:=I.list hq;obtain⟨f0,f1,f2,f3,f4,f5⟩:=hf it (by simp);have hl:=rv.length;exact wpAny_pyNext_list_end (I.ok.hd hc) st p.isList (by simp;omega) λh' eb=>⟨rfl,I.turned (t':=s.toks) (λb o hb e=>eb b o hb e) f0 f1 f3 f4 f5⟩
 self:=λ_ _ _ _ _ st h=>wpAny_pyIter_listiter st h
def vP{w:World}{K:W.Frag}{tg:Expr}(a it:Addr):Turn P w K tg (Itt K a) [it] it (λi h=>h.IsTupleIter it a i) where
 mem:=by simp
 obj:=λi h st b hb=>by
  have e:b=it:=by simpa using hb
  subst e;obtain⟨o,e,c,d⟩:=st;exact⟨o,e,λv z=>by rw[d]at z;cases z⟩
 keep:=λi h h' st k=>st.at λo e=>k it (by simp) o e
 item:=by intro X hP hw hK hc i pins s σ H E I hf st hg;subst hP hw hK;obtain⟨xs,x,hq,hx⟩:=hg;obtain⟨its,rv,p,hz⟩:=I.tuple hq;obtain⟨u,hu,ru⟩:=rv.get hx;obtain⟨f0,f1,f2,f3,f4,f5⟩:=hf it (by simp);refine wpAny_pyNext_tuple_item st (show s.heap.IsTuple a its.toArray from p) (x:=u) (by simpa using hu) λh' st' sb=>?_;have I1:Inv X pins σ H { s with heap:=h' }:=I.turned (t':=s.toks) (λb o hb e=>(sb.2 b hb).trans e) f0 f1 f3 f4 f5;obtain⟨o,e,c,d⟩:=id st';exact⟨u,rfl,wa (s:={ s with heap:=h' }) e c d (by decide) ⟨x,H,I1,ru,⟨rfl,λys hy=>by rw[I.tuple_inj hy hq];exact hx⟩,st',λb hb=>(hf b hb).1⟩⟩
 done:=by intro X hP hw hK hc i pins s σ H E I hf st hg;subst hP hw hK;obtain⟨xs,hq,hx⟩:=hg;obtain⟨its,rv,p,hz⟩:=I.tuple hq;obtain⟨f0,f1,f2,f3,f4,f5⟩:=hf it (by simp);have hl:=rv.length;exact wpAny_pyNext_tuple_end (I.ok.hd hc) st (show s.heap.IsTuple a its.toArray from p) (by simp;omega) λh' eb=>⟨rfl,I.turned (t':=s.toks) (λb o hb e=>eb b o hb e) f0 f1 f3 f4 f5⟩
 self:=λ_ _ _ _ _ st h=>wpAny_pyIter_tupleiter st h
def vn{w:World}{K:W.Frag}{tg:Expr}(it:Addr)(lo:Int)(n:Nat):Turn P w K tg (Itr lo n) [it] it (λi h=>IsRangeIter h it (lo+(i:Nat) * 1) ((n:Int) - (i:Nat)) 1) where
 mem:=by simp
 obj:=λi h st b hb=>by
  have e:b=it:=by simpa using hb
  subst e;exact⟨_,st,λv z=>by have z':Data.fields _=Data.cell v:=z;cases z'⟩
 keep:=λi h h' st k=>k it (by simp) _ st
 item:=by intro X hP hw hK hc i pins s σ H E I hf st hg;subst hP hw hK;obtain⟨f0,f1,f2,f3,f4,f5⟩:=hf it (by simp);have W:=Walks.range (prog:=X.prog) (w:=X.w) (I.ok.hd hc) it lo 1 n;refine W.item i s _ _ hg st λv h' tk hv st' kk=>?_;obtain⟨t,rfl⟩:=hv;have I1:Inv X pins σ H { s with heap:=h',toks:=tk }:=I.turned (λb o hb e=>kk b o (by simpa using hb) e) f0 f1 f3 f4 f5;refine⟨_,rfl,wa (s:={ s with heap:=h',toks:=tk }) (n:="range_iterator") st' rfl rfl (by decide) ⟨.int (lo+i),H,I1,⟨t,?_⟩,⟨rfl,rfl⟩,st',λb hb=>(hf b hb).1⟩⟩;rw[Int.mul_one]
 done:=by intro X hP hw hK hc i pins s σ H E I hf st hg;subst hP hw hK;obtain⟨f0,f1,f2,f3,f4,f5⟩:=hf it (by simp);exact wpAny_pyNext_range_end (I.ok.hd hc) st (by have:n<=i:=hg;omega) λh' eb=>⟨rfl,I.turned (t':=s.toks) (λb o hb e=>eb b o hb e) f0 f1 f3 f4 f5⟩
 self:=λ_ _ _ _ _ st h=>wpAny_pyIter_rangeiter st h
section
variable{tg:Expr}
def IH(K:W.Frag)(tl:TE):TI:=λσ H R=>tl σ H λx H1=>∃a,x=.ref a/\(∃xs,SqL K H1 a xs)/\R (Itl K a) H1
def C1{l:Expr}{tl:TE}(hl:PE X l tl):PI X tg l (IH X.K tl):=by
 intro pins s σ H R I h;refine thn (hl pins s σ H _ I h) λv s1 ⟨x,H1,I1,r1,q1⟩=>?_;obtain⟨a,e,⟨xs,hq⟩,q⟩:=q1;subst e;cases r1;obtain⟨its,rv,p,hz⟩:=I1.list hq;refine Zs p.isList ?_;refine⟨s1.heap.objs.size,[s1.heap.objs.size],_,_,H1,rfl,I1.kept (t':=s1.toks) λb o e=>z9 _ e,qt a _,⟨_,v7 _ rfl,rfl,rfl⟩,λb hb=>?_,q⟩;have e:b=s1.heap.objs.size:=by simpa using hb
 subst e;exact I1.fpOk (z8 _) (I1.hok.fresh (z8 _))
def uP{R:It->Hp->Prop}{lo hi:Int}{t u v:Tok}{tk:Nat}(I:Inv X pins σ H s)(h1 : -(2 ^ 62)<=lo)(h2:lo<2 ^ 62)(h3 : -(2 ^ 62)<=hi)(h4:hi<2 ^ 62)(q:R (Itr lo (hi - lo).toNat) H):wpAny (model X.prog X.w) X.A (pyIter (.ref s.heap.objs.size)) (PIE X pins σ tg R) E { s with heap:=s.heap.push { cls:=.type "range",data:=.fields #[.int lo t,.int hi u,.int 1 v] },toks:=tk }:=by
 refine wpAny_pyIter_range (IsRange.new ..) (small_one h1 h2 h3 h4) ?_;have I1:Inv X pins σ H { s with heap:=s.heap.push { cls:=.type "range",data:=.fields #[.int lo t,.int hi u,.int 1 v] },toks:=tk }:=I.kept λb o e=>z9 _ e;refine⟨(s.heap.push { cls:=.type "range",data:=.fields #[.int lo t,.int hi u,.int 1 v] }).objs.size,[(s.heap.push { cls:=.type "range",data:=.fields #[.int lo t,.int hi u,.int 1 v] }).objs.size],_,_,H,rfl,
  I1.kept (t':=tk) λb o e=>z9 _ e,vn _ lo (hi - lo).toNat,?_,λb hb=>?_,q⟩
 ·have e1:lo+((0:Nat):Int) * 1=lo:=by simp
  have e2:(((hi - lo).toNat:Nat):Int) - ((0:Nat):Int)=Builtin.Range.rangeSize lo hi 1:=by rw[rangeSize_one];split <;> omega
  show IsRangeIter _ _ (lo+((0:Nat):Int) * 1) ((((hi - lo).toNat:Nat):Int) - ((0:Nat):Int)) 1;rw[e1,e2];exact v7 _ rfl
 ·have e:b=(s.heap.push { cls:=.type "range",data:=.fields #[.int lo t,.int hi u,.int 1 v] }).objs.size:=by simpa using hb
  subst e;exact I1.fpOk (z8 _) (I1.hok.fresh (z8 _))
def JR(ta:TA):TI:=λσ H R=>ta σ H λvs H1=>∃j:Int,vs=[.int j]/\-(2 ^ 62)<=j/\j<2 ^ 62/\R (Itr 0 j.toNat) H1
def Kz(ta:TA):TI:=λσ H R=>ta σ H λvs H1=>∃i j:Int,vs=[.int i,.int j]/\(-(2 ^ 62)<=i/\i<2 ^ 62/\-(2 ^ 62)<=j/\j<2 ^ 62)/\R (Itr i (j - i).toNat) H1
def xB{a:Expr}{ta:TA}(hg:Gl X "range")(hm:X.mg "range"=none)(ha:PA X [a] ta)(hs:starEach [a] X.env=[(false,eval a X.env)]:=by rfl):PI X tg (.Call (.Name "range" p) [a] [] pos) (JR ta):=by
 intro pins s σ H R I h;refine Call_ (kC I hg hm boot_range (callWith_type1 (thn (ha pos pins s σ H _ I h) λus s1 ⟨vs,H1,I1,r1,q1⟩=>?_) hs rfl));obtain⟨j,e,q1,q2,q⟩:=q1;subst e;cases r1 with
 |cons r rr=>cases rr;obtain⟨t,rfl⟩:=r;exact call_range_1 (uP I1 (by omega) (by omega) q1 q2 (by simpa using q))
def wS{a b:Expr}{ta:TA}(hg:Gl X "range")(hm:X.mg "range"=none)(ha:PA X [a,b] ta)(hs:starEach [a,b] X.env=[(false,eval a X.env),(false,eval b X.env)]:=by rfl)(hs2:starEach [b] X.env=[(false,eval b X.env)]:=by rfl):
  PI X tg (.Call (.Name "range" p) [a,b] [] pos) (Kz ta):=by
 intro pins s σ H R I h;refine Call_ (kC I hg hm boot_range (callWith_type1 (thn (ha pos pins s σ H _ I h) λus s1 ⟨vs,H1,I1,r1,q1⟩=>?_) (by rw[hs,hs2]) (by rw[hs2];rfl)));obtain⟨i,j,e,⟨q1,q2,q3,q4⟩,q⟩:=q1;subst e;cases r1 with
 |cons r rr=>
  cases rr with
  |cons r' rr=>cases rr;obtain⟨t,rfl⟩:=r;obtain⟨t',rfl⟩:=r';exact call_range_2 (uP I1 q1 q2 q3 q4 q)
noncomputable def Jy(wi:TI)(g:TG)(tb:TS):TS:=λD σ H=>wi σ H λJ H1=>∃W:Nat->Nat->St->Hp->Prop,(∃m,W 0 m σ H1)/\∀i m σ H,W i m σ H->
 (J.stop i H/\D.nx σ H)\/(J.go i H/\∃N:St->Hp->Prop,(∀σ' H',N σ' H'->∃m',m'<m/\W (i+1) m' σ' H')/\∀x H',J.yld i H x H'->g x σ H' λσ2 H2=>tb { D with nx:=N,ct:=N,bk:=D.nx } σ2 H2)
def mr(fp:List Addr)(h:Heap):List (Addr×Obj):=fp.filterMap λb=>(h.get? b).map λo=>(b,o)
def gF{b:Addr}{o:Obj}(hb:b∈fp)(e:h.get? b=some o):(b,o)∈mr fp h:=j4.mpr ⟨b,hb,by rw[e];rfl⟩
def xT{p:Addr×Obj}(hp:p∈mr fp h):p.1∈fp/\h.get? p.1=some p.2:=by
 obtain⟨b,hb,e⟩:=j4.mp hp;cases q:h.get? b with
 |none=>rw[q]at e;cases e
 |some o=>rw[q]at e;have e':(b,o)=p:=vC e;subst e';exact⟨hb,q⟩
def Inv.pinned(I:Inv X pins σ H s)(hf:∀b∈fp,lv X pins H b)(ho:∀b∈fp,∃o,s.heap.get? b=some o/\∀v,o.data≠.cell v):Inv X (pins++mr fp s.heap) σ H s:=
 I.pins_of λp hp=>(r8.mp hp).elim (λz=>I.pin p (n8 _ z)) λz=>by obtain⟨hb,e⟩:=xT z;obtain⟨f0,f1,f2,_⟩:=hf p.1 hb;obtain⟨o,e',d⟩:=ho p.1 hb;rw[e]at e';cases e';exact⟨e,f0,f1,f2,d⟩
def Inv.unpinned{pl:List (Addr×Obj)}(I:Inv X (pins++pl) σ H s):Inv X pins σ H s:=I.pins_of λp hp=>I.pin p (n8 _ (Z2 _ hp))
def tu{wi:TI}{g:TG}{tb:TS}(hp:PassesOwn (model X.prog X.w) X.A X.env X.xe)(hc:X.calm=true)(hi:PI X tg iter wi)(hg:PG X tg g)(hb:PSs X body tb)(hs:∀x,foldedSetIterable iter X.env x=pure x:=by intro _;rfl):PS X (.For tg iter body [] pos) (Jy wi g tb):=by
 intro pins s σ H D I h;refine wpAny_For (thn (hi pins s σ H _ I h) λv s1 h1=>thn h1 λitv s2 h2=>?_) hs;obtain⟨it,fp,tn,J,H2,e,I2,T,st2,f2,W,⟨m0,w0⟩,CO⟩:=h2;subst e;have stat:∀{H':Hp},(∀b∈fp,H' b=none)->∀b∈fp,lv X pins H' b:=λhn b hb=>⟨hn b hb,(f2 b hb).2⟩
 refine codeAny_forLoop_any (λn s'=>∃i σ' H',Inv X pins σ' H' s'/\tn i s'.heap/\(∀b∈fp,H' b=none)/\W i n σ' H') ?_ m0 ⟨0,σ,H2,I2,st2,λb hb=>(f2 b hb).1,w0⟩;rintro n s3 ⟨i,σ3,H3,I3,st3,fr3,w3⟩;rcases CO i n σ3 H3 w3 with⟨stop,qn⟩|⟨go,N,hN,step⟩
 ·refine io hp (thn (T.done X rfl rfl rfl hc i pins s3 σ3 H3 X.xe I3 (stat fr3) st3 stop) λr s4 ⟨hr,I4⟩=>?_);subst hr;exact Zp ⟨σ3,H3,I4,qn⟩
 ·refine io hp (thn (T.item X rfl rfl rfl hc i pins s3 σ3 H3 X.xe I3 (stat fr3) st3 go) λr s4 ⟨u,hr,h4⟩=>?_);subst hr;refine io hp (thn h4 λ_ s5 ⟨x,H5,I5,r5,y5,st5,fr5⟩=>?_);have I5':=I5.pinned (stat fr5) (T.obj _ _ st5);refine io hp (thn (hg _ s5 σ3 H5 x u _ I5' r5 (step x H5 y5)) λ_ s6 ⟨σ6,H6,I6,q6⟩=>?_);refine io hp (thn (hb _ s6 σ6 H6 _ I6 q6) λf s7 q7=>?_);have again:∀{σ7:St}{H7:Hp},Inv X (pins++mr fp s5.heap) σ7 H7 s7->N σ7 H7->∃m,m<n/\∃i σ' H',Inv X pins σ' H' s7/\tn i s7.heap/\(∀b∈fp,H' b=none)/\W i m σ' H':=λ{σ7 H7} I7 n7=>by obtain⟨m',hm,w7⟩:=hN σ7 H7 n7;refine⟨m',hm,i+1,σ7,H7,I7.unpinned,T.keep _ _ _ st5 λb hb o e=>(I7.pin (b,o) (n8 _ (n8 _ (gF hb e)))).1,λb hb=>?_,w7⟩;obtain⟨o,e,d⟩:=T.obj _ _ st5 b hb;exact(I7.pin (b,o) (n8 _ (n8 _ (gF hb e)))).2.1
  cases f with
  |next=>obtain⟨σ7,H7,I7,n7⟩:=q7;exact again I7 n7
  |cont=>obtain⟨σ7,H7,I7,n7⟩:=q7;exact again I7 n7
  |brk=>obtain⟨σ7,H7,I7,q7⟩:=q7;exact⟨σ7,H7,I7.unpinned,q7⟩
  |ret v=>obtain⟨x7,σ7,H7,I7,r7,q7⟩:=q7;exact⟨x7,σ7,H7,I7.unpinned,r7,q7⟩
end
abbrev R2:=V->V->Hp->VK->Prop
def OpR(X:Cx)(f:Value->Value->Sem Value)(r:R2):Prop:=
 ∀(pins:List (Addr×Obj))(s:Shared)(σ:St)(H:Hp)(x y:V)(v u:Value)(Q:VK),Inv X pins σ H s->RelV x v->RelV y u->r x y H Q->
  wpAny (model X.prog X.w) X.A (f v u) (EP X pins σ Q) X.xe s
def UnR(X:Cx)(f:Value->Sem Value)(r:V->Hp->VK->Prop):Prop:=
 ∀(pins:List (Addr×Obj))(s:Shared)(σ:St)(H:Hp)(x:V)(v:Value)(Q:VK),Inv X pins σ H s->RelV x v->r x H Q->
  wpAny (model X.prog X.w) X.A (f v) (EP X pins σ Q) X.xe s
def jf(X:Cx)(f:Value)(r:List V->Hp->VK->Prop):Prop:=
 ∀(pins:List (Addr×Obj))(s:Shared)(σ:St)(H:Hp)(xs:List V)(us:List Value)(Q:VK),Inv X pins σ H s->Vals xs us->r xs H Q->
  wpAny (model X.prog X.w) X.A (call f us) (EP X pins σ Q) X.xe s
def LP(X:Cx)(r:V->Hp->(Bool->Hp->Prop)->Prop):Prop:=
 ∀(pins:List (Addr×Obj))(s:Shared)(σ:St)(H:Hp)(x:V)(v:Value)(Q:Bool->Hp->Prop),Inv X pins σ H s->RelV x v->r x H Q->
  wpAny (model X.prog X.w) X.A (truthy v) (TP X pins σ Q) X.xe s
def tOp(r:R2)(ta tb:TE):TE:=λσ H Q=>ta σ H λx H1=>tb σ H1 λy H2=>r x y H2 Q
def tUn(r:V->Hp->VK->Prop)(ta:TE):TE:=λσ H Q=>ta σ H λx H1=>r x H1 Q
def rI(C:Int->Int->Prop)(g:Int->Int->V):R2:=λx y H Q=>∃i j,x=.int i/\y=.int j/\C i j/\Q (g i j) H
def rI0(g:Int->Int->V):R2:=λx y H Q=>∃i j,x=.int i/\y=.int j/\Q (g i j) H
def rU(g:Int->V):V->Hp->VK->Prop:=λx H Q=>∃i,x=.int i/\Q (g i) H
section
variable{a b c:Expr}{ta tb tc:TE}
def JJ(ha:PE X a ta)(hb:PE X b tb){R:V->V->Hp->Prop}(I:Inv X pins σ H s)(h:ta σ H λx H1=>tb σ H1 λy H2=>R x y H2){Q:Value->Shared->Prop}{f:Value->Value->Sem Value}(hf:∀v u s2 x y H2,Inv X pins σ H2 s2->RelV x v->RelV y u->R x y H2->wpAny (model X.prog X.w) X.A (f v u) Q X.xe s2):
  wpAny (model X.prog X.w) X.A (eval a X.env) (λv s₁=>wpAny (model X.prog X.w) X.A (eval b X.env) (λu s₂=>wpAny (model X.prog X.w) X.A (f v u) Q X.xe s₂) X.xe s₁) X.xe s:=by
 refine thn (ha pins s σ H _ I h) λv s1 ⟨x,H1,I1,r1,q1⟩=>?_;refine thn (hb pins s1 σ H1 _ I1 q1) λu s2 ⟨y,H2,I2,r2,q2⟩=>?_;exact hf v u s2 x y H2 I2 r1 r2 q2
def KL{op:Operator}{r:R2}(ho:OpR X (binaryOp op) r)(ha:PE X a ta)(hb:PE X b tb):PE X (.BinOp a op b pos) (tOp r ta tb):=by intro pins s σ H Q I h;exact wpAny_BinOp (JJ ha hb I h λv u s2 x y H2 I2 rx ry q=>ho pins s2 σ H2 x y v u Q I2 rx ry q)
def JD{op:UnaryOp}{r:V->Hp->VK->Prop}(ho:UnR X (unaryOp op) r)(ha:PE X a ta):PE X (.UnaryOp op a pos) (tUn r ta):=by intro pins s σ H Q I h;exact UnaryOp_ (thn (ha pins s σ H _ I h) λv s1 ⟨x,H1,I1,r1,q1⟩=>ho pins s1 σ H1 x v Q I1 r1 q1)
def opI{f:Value->Value->Sem Value}{C:Int->Int->Prop}{g:Int->Int->Int}(rule:∀(i j:Int)(t u:Tok)(s:Shared)(Q:Value->Shared->Prop)(E:Value->Shared->Prop),C i j->Q (.int (g i j) s.toks) { s with toks:=s.toks+1 }->wpAny (model X.prog X.w) X.A (f (.int i t) (.int j u)) Q E s):
  OpR X f (rI C λi j=>.int (g i j)):=by
 intro pins s σ H x y v u Q I rx ry h;obtain⟨i,j,rfl,rfl,hc,q⟩:=h;obtain⟨t,rfl⟩:=rx;obtain⟨t',rfl⟩:=ry;exact rule i j t t' s _ _ hc ⟨.int (g i j),H,I.tok _,⟨_,rfl⟩,q⟩
def Lw{f:Value->Value->Sem Value}{g:Int->Int->Int}(rule:∀(i j:Int)(t u:Tok)(s:Shared)(Q:Value->Shared->Prop)(E:Value->Shared->Prop),Q (.int (g i j) s.toks) { s with toks:=s.toks+1 }->wpAny (model X.prog X.w) X.A (f (.int i t) (.int j u)) Q E s):
  OpR X f (rI0 λi j=>.int (g i j)):=by
 intro pins s σ H x y v u Q I rx ry h;obtain⟨i,j,rfl,rfl,q⟩:=h;obtain⟨t,rfl⟩:=rx;obtain⟨t',rfl⟩:=ry;exact rule i j t t' s _ _ ⟨.int (g i j),H,I.tok _,⟨_,rfl⟩,q⟩
def JX{f:Value->Value->Sem Value}{g:Int->Int->Bool}(rule:∀(i j:Int)(t u:Tok)(s:Shared)(Q:Value->Shared->Prop)(E:Value->Shared->Prop),Q (.bool (g i j)) s->wpAny (model X.prog X.w) X.A (f (.int i t) (.int j u)) Q E s):
  OpR X f (rI0 λi j=>.bl (g i j)):=by
 intro pins s σ H x y v u Q I rx ry h;obtain⟨i,j,rfl,rfl,q⟩:=h;obtain⟨t,rfl⟩:=rx;obtain⟨t',rfl⟩:=ry;exact rule i j t t' s _ _ ⟨.bl (g i j),H,I,rfl,q⟩
def Mg(i j:Int):Prop:=0<j/\j<1073741824
def CMul(i j:Int):Prop:=(-(2 ^ 64)<i/\i<2 ^ 64)\/(-(2 ^ 64)<j/\j<2 ^ 64)
def CMul.ok{i j:Int}(h:CMul i j):IntMulOk i j:=by
 rcases h with⟨h1,h2⟩|⟨h1,h2⟩;·exact .of_left (intBits_le_64 h1 h2)
 ·exact .of_right (intBits_le_64 h1 h2)
def op_add:OpR X (binaryOp .Add) (rI0 λi j=>.int (i+j)):=Lw λ_ _ _ _ _ _ _ q=>add_int q
def Ha:OpR X (binaryOp .Sub) (rI0 λi j=>.int (i - j)):=Lw λ_ _ _ _ _ _ _ q=>sub_int q
def op_mul:OpR X (binaryOp .Mult) (rI CMul λi j=>.int (i * j)):=opI λ_ _ _ _ _ _ _ hc q=>mul_int q hc.ok
def EA:OpR X (binaryOp .FloorDiv) (rI Mg λi j=>.int (i / j)):=opI λi j _ _ _ _ _ hc q=>by have h1:(0:Int)<j:=hc.1;have h2:j<1073741824:=hc.2;exact floordiv_int (by omega) (by rw[Int.fdiv_eq_ediv_of_nonneg i (by omega)];exact q) (.inl (PyProof.noPylong_small (by omega)))
def Gq:OpR X (binaryOp .Mod) (rI (λ_ j=>0<j) λi j=>.int (i % j)):=opI λi j _ _ _ _ _ hc q=>by have h1:(0:Int)<j:=hc;exact mod_int' (by omega) (by rw[Int.fmod_eq_emod_of_nonneg i (by omega)];exact q)
def unI{f:Value->Sem Value}{g:Int->Int}(rule:∀(i:Int)(t:Tok)(s:Shared)(Q:Value->Shared->Prop)(E:Value->Shared->Prop),Q (.int (g i) s.toks) { s with toks:=s.toks+1 }->wpAny (model X.prog X.w) X.A (f (.int i t)) Q E s):
  UnR X f (rU λi=>.int (g i)):=by
 intro pins s σ H x v Q I rx h;obtain⟨i,rfl,q⟩:=h;obtain⟨t,rfl⟩:=rx;exact rule i t s _ _ ⟨.int (g i),H,I.tok _,⟨_,rfl⟩,q⟩
def GC:UnR X (unaryOp .USub) (rU λi=>.int (-i)):=unI λ_ _ _ _ _ q=>neg_int q
end
section
variable{a b c:Expr}{ta tb tc:TE}
def xb{Q:VK}{k k':Bool}(I:Inv X pins σ H s)(q:Q (.bl k) H)(e:k=k'):EP X pins σ Q (.bool k') s:=by subst e;exact⟨.bl k,H,I,rfl,q⟩
def op_lt:OpR X (compareOp .Lt) (rI0 λi j=>.bl (decide (i<j))):=JX λ_ _ _ _ _ _ _ q=>lt_int q
def op_le:OpR X (compareOp .LtE) (rI0 λi j=>.bl (decide (i<=j))):=JX λ_ _ _ _ _ _ _ q=>le_int q
def J4:OpR X (compareOp .Gt) (rI0 λi j=>.bl (decide (j<i))):=JX λ_ _ _ _ _ _ _ q=>gt_int q
def xv:OpR X (compareOp .Lt) (λx y H Q=>∃i j,x=.str i/\y=.str j/\Q (.bl (decide (i.cps.toList<j.cps.toList))) H):=by intro pins s σ H x y v u Q I rx ry h;obtain⟨i,j,rfl,rfl,q⟩:=h;obtain⟨t,rfl⟩:=rx;obtain⟨t',rfl⟩:=ry;exact lt_str (xb I q rfl)
def op_isN:OpR X (compareOp .Is) (λx y H Q=>y=.non/\Q (.bl (decide (x=.non))) H):=by
 intro pins s σ H x y v u Q I rx ry h;obtain⟨rfl,q⟩:=h;cases ry;refine is_none_gen (xb I q ?_);cases x <;> first
  | (cases rx;rfl)
  | (obtain⟨t,rfl⟩:=rx;rfl)
def OpR.or{f:Value->Value->Sem Value}{r r':R2}(h:OpR X f r)(h':OpR X f r'):OpR X f (λx y H Q=>r x y H Q\/r' x y H Q):=by
 intro pins s σ H x y v u Q I rx ry q;rcases q with q|q;·exact h pins s σ H x y v u Q I rx ry q
 ·exact h' pins s σ H x y v u Q I rx ry q
def iC(b:Expr){op:CmpOp}(h:op≠.In:=by decide)(h2:op≠.NotIn:=by decide):behindInMarks op b=false:=by
 have e1:(op==CmpOp.In)=false:=by cases op <;> first|rfl|exact absurd rfl h
 have e2:(op==CmpOp.NotIn)=false:=by cases op <;> first|rfl|exact absurd rfl h2
 cases b <;> simp[behindInMarks,e1,e2]
def Eu{op:CmpOp}{r:R2}(ho:OpR X (compareOp op) r)(ha:PE X a ta)(hb:PE X b tb)(hm:behindInMarks op b=false):PE X (.Compare a [op] [b] pos) (tOp r ta tb):=by intro pins s σ H Q I h;exact wpAny_Compare1 (JJ ha hb I h λv u s2 x y H2 I2 rx ry q=>ho pins s2 σ H2 x y v u Q I2 rx ry q) hm
def Dz(t:TE):TT:=λσ H Q=>t σ H λx H'=>∃k,x=.bl k/\Q k H'
def rj{op:CmpOp}{r:R2}(ho:OpR X (compareOp op) r)(ha:PE X a ta)(hb:PE X b tb)(hm:behindInMarks op b=false):PT X (.Compare a [op] [b] pos) (Dz (tOp r ta tb)):=by intro pins s σ H Q I h;refine wpAny_isTrue_Compare1 (thn (ha pins s σ H _ I h) λv s1 ⟨x,H1,I1,r1,q1⟩=>thn (hb pins s1 σ H1 _ I1 q1) λu s2 ⟨y,H2,I2,r2,q2⟩=>thn (ho pins s2 σ H2 x y v u _ I2 r1 r2 q2) λc s3 ⟨z,H3,I3,r3,k,e,q3⟩=>?_) hm;subst e;cases r3;exact oQ ⟨H3,I3,q3⟩
def Ck(r r':R2)(ta tb tc:TE):TE:=λσ H Q=>ta σ H λx H1=>tb σ H1 λy H2=>r x y H2 λz H3=>∃k,z=.bl k/\
 (if k=true then tc σ H3 λw' H4=>r' y w' H4 Q else Q (.bl false) H3)
def zZ{op op':CmpOp}{r r':R2}(ho:OpR X (compareOp op) r)(ho':OpR X (compareOp op') r')(ha:PE X a ta)(hb:PE X b tb)(hc:PE X c tc)(hm:lastMarks [op,op'] [b,c]=false:=by with_unfolding_all rfl):PE X (.Compare a [op,op'] [b,c] pos) (Ck r r' ta tb tc):=by
 intro pins s σ H Q I h;refine Compare_chain (thn (ha pins s σ H _ I h) λv s1 ⟨x,H1,I1,r1,q1⟩=>chain_link (thn (hb pins s1 σ H1 _ I1 q1) λu s2 ⟨y,H2,I2,r2,q2⟩=>thn (ho pins s2 σ H2 x y v u _ I2 r1 r2 q2) λd s3 ⟨z,H3,I3,r3,k,e,q3⟩=>?_)) hm;subst e;cases r3;refine oQ ?_;cases k with
 |false=>exact ite_ff ⟨.bl false,H3,I3,rfl,q3⟩
 |true=>exact ite_tt (chain_last (thn (hc pins s3 σ H3 _ I3 q3) λw' s4 ⟨z',H4,I4,r4,q4⟩=>ho' pins s4 σ H4 y z' u w' Q I4 r2 r4 q4))
def zK{op op':CmpOp}{r r':R2}(ho:OpR X (compareOp op) r)(ho':OpR X (compareOp op') r')(ha:PE X a ta)(hb:PE X b tb)(hc:PE X c tc)(hm:lastMarks [op,op'] [b,c]=false:=by with_unfolding_all rfl):PT X (.Compare a [op,op'] [b,c] pos) (Dz (Ck r r' ta tb tc)):=by
 intro pins s σ H Q I h;refine isTrue_chain (thn (ha pins s σ H _ I h) λv s1 ⟨x,H1,I1,r1,q1⟩=>test_link (thn (hb pins s1 σ H1 _ I1 q1) λu s2 ⟨y,H2,I2,r2,q2⟩=>thn (ho pins s2 σ H2 x y v u _ I2 r1 r2 q2) λd s3 ⟨z,H3,I3,r3,k,e,q3⟩=>?_)) hm;subst e;cases r3;refine oQ ?_;cases k with
 |false=>obtain⟨k',e',q'⟩:=q3;cases e';exact ite_ff ⟨H3,I3,q'⟩
 |true=>refine ite_tt (test_last (thn (hc pins s3 σ H3 _ I3 q3) λw' s4 ⟨z',H4,I4,r4,q4⟩=>thn (ho' pins s4 σ H4 y z' u w' _ I4 r2 r4 q4) λd' s5 ⟨z2,H5,I5,r5,k2,e2,q5⟩=>?_));subst e2;cases r5;exact oQ ⟨H5,I5,q5⟩
noncomputable def LB(K:W.Frag)(x:V)(H:Hp)(k:Bool):Prop:=
 match x with
 |.non=>k=false
 |.bl b=>k=b
 |.int i=>k=(i != 0)
 |.str y=>y.length<=sizeLine/\k=((y.length:Int) != 0)
 |.byt y=>y.size<=sizeLine/\k=((y.size:Int) != 0)
 |.ref p=>(∃xs,SqL K H p xs/\k = !xs.isEmpty)\/(∃xs,SqT K H p xs/\k = !xs.isEmpty)\/∃kvs,H p=some (.dK kvs)/\k = !kvs.isEmpty
 |_=>False
def vA{κ:Type}{kvs:List (κ×V)}{vs:List (κ×Value)}(r:KV kvs vs):(!vs.isEmpty) = !kvs.isEmpty:=by cases r <;> rfl
def mR(r:Vals xs its):(!its.toArray.isEmpty) = !xs.isEmpty:=by cases r <;> simp
def mw:(sizeLine:Nat)<2 ^ 63:=by rw[sizeLine_eq];decide
def Fp:LP X (λx H Q=>∃k,LB X.K x H k/\Q k H):=by
 intro pins s σ H x v Q I rx h;obtain⟨k,e,q⟩:=h;have hl:=mw;have hs:sizeLine=16777216:=sizeLine_eq;cases x with
 |non=>cases rx;have e':k=false:=e;subst e';exact truthy_none ⟨H,I,q⟩
 |bl b=>cases rx;have e':k=b:=e;subst e';exact oQ ⟨H,I,q⟩
 |int i=>obtain⟨t,rfl⟩:=rx;have e':k=(i != 0):=e;subst e';exact PySem.P.truthy_int ⟨H,I,q⟩
 |str y=>obtain⟨t,rfl⟩:=rx;obtain⟨hy,e'⟩:y.length<=sizeLine/\k=((y.length:Int) != 0):=e;subst e';exact PySem.P.truthy_str (by omega) ⟨H,I.tok _,q⟩
 |byt y=>obtain⟨t,rfl⟩:=rx;obtain⟨hy,e'⟩:y.size<=sizeLine/\k=((y.size:Int) != 0):=e;subst e';exact W.truthy_bytes (by omega) ⟨H,I.tok _,q⟩
 |ref p=>
  cases rx;have e':(∃xs,SqL X.K H p xs/\k = !xs.isEmpty)\/(∃xs,SqT X.K H p xs/\k = !xs.isEmpty)\/∃kvs,H p=some (.dK kvs)/\k = !kvs.isEmpty:=e;rcases e' with⟨xs,hx,e'⟩|⟨xs,hx,e'⟩|⟨kvs,hx,e'⟩
  ·subst e';obtain⟨its,r,pl,hz⟩:=I.list hx;have hlen:=r.length;exact wpAny_truthy_list pl.isList (by simp only[wg];omega) ⟨H,I.tok _,by rw[mR r];exact q⟩
  ·subst e';obtain⟨its,r,pl,hz⟩:=I.tuple hx;have hlen:=r.length;exact truthy_tuple pl (by simp only[wg];omega) ⟨H,I.tok _,by rw[mR r];exact q⟩
  ·subst e';obtain⟨hz,hS,vs,r,m⟩:kvs.length<=sizeLine/\(p==sysModules)=false/\∃vs,KV kvs vs/\s.heap.DictOf (sC X.prog X.w) p vs:=I.hok p _ hx;have hlen:kvs.length=vs.length:=Z1 r;exact wpAny_truthy_dict hS m (by omega) ⟨H,I.tok _,by rw[vA r];exact q⟩
 |_=>exact(show False from e).elim
def zF(ha:PE X a ta)(he:∀whole,isTrue a X.env whole=(do let v <- whole;standAt a.pos;holding [v] (truthy v))):
  PT X a (λσ H Q=>ta σ H λx H'=>∃k,LB X.K x H' k/\Q k H'):=by
 intro pins s σ H Q I h;exact isTrue_plain (thn (ha pins s σ H _ I h) λv s1 ⟨x,H1,I1,r1,q1⟩=>Fp pins s1 σ H1 x v Q I1 r1 q1) (he _)
def op_add_str:OpR X (binaryOp .Add) (λx y H Q=>∃i j,x=.str i/\y=.str j/\i.length+j.length<=sizeLine/\Q (.str (i++j)) H):=by intro pins s σ H x y v u Q I rx ry h;obtain⟨i,j,rfl,rfl,hz,q⟩:=h;obtain⟨t,rfl⟩:=rx;obtain⟨t',rfl⟩:=ry;exact add_str (λt' tk=>⟨.str (i++j),H,I.tok _,⟨_,rfl⟩,q⟩) hz
def uX{x:V}(r:Vals [x] us):∃u,us=[u]/\RelV x u:=by
 cases r with
 |cons r1 r2=>cases r2;exact⟨_,rfl,r1⟩
def MI(K:W.Frag)(x:V)(H:Hp)(n:Nat):Prop:=
 match x with
 |.str y=>y.length<=sizeLine/\n=y.length
 |.byt y=>y.size<=sizeLine/\n=y.size
 |.ref p=>(∃xs,SqL K H p xs/\n=xs.length)\/∃xs,SqT K H p xs/\n=xs.length
 |_=>False
def AU:jf X (.builtin "len") (λxs H Q=>∃x n,xs=[x]/\MI X.K x H n/\Q (.int n) H):=by
 intro pins s σ H xs us Q I r h;obtain⟨x,n,rfl,e,q⟩:=h;obtain⟨u,rfl,rx⟩:=uX r;have hl:=mw;have hs:sizeLine=16777216:=sizeLine_eq;cases x with
 |str y=>obtain⟨t,rfl⟩:=rx;obtain⟨hy,e'⟩:y.length<=sizeLine/\n=y.length:=e;subst e';exact len_str (by omega) ⟨.int _,H,I.tok _,⟨_,rfl⟩,q⟩
 |byt y=>obtain⟨t,rfl⟩:=rx;obtain⟨hy,e'⟩:y.size<=sizeLine/\n=y.size:=e;subst e';exact W.len_bytes (by omega) ⟨.int _,H,I.tok _,⟨_,rfl⟩,q⟩
 |ref p=>
  cases rx;have e':(∃xs,SqL X.K H p xs/\n=xs.length)\/∃xs,SqT X.K H p xs/\n=xs.length:=e;rcases e' with⟨xs,hx,e'⟩|⟨xs,hx,e'⟩
  ·subst e';obtain⟨its,r',pl,hz⟩:=I.list hx;have hlen:=r'.length;exact Calls.call_len_list pl.isList (by simp only[wg];omega) ⟨.int xs.length,H,I.tok _,⟨_,by simp only[wg];rw[hlen]⟩,q⟩
  ·subst e';obtain⟨its,r',pl,hz⟩:=I.tuple hx;have hlen:=r'.length;exact len_tuple pl (by simp only[wg];omega) ⟨.int xs.length,H,I.tok _,⟨_,by simp only[wg];rw[hlen]⟩,q⟩
 |_=>exact(show False from e).elim
end
structure ObjM(h:Heap)(x dx C:Addr)(mA:Str->Option Value):Prop where
 obj:h.get? x=some (W.instObj C dx)
 ns:h.Ns1 dx mA
 ne:dx≠x
def Lh(f:Str)(v:V):List (Str×V)->List (Str×V)
 | []=>[(f,v)]
 | (g,x)::r=>if g=f then (g,v)::r else (g,x)::Lh f v r
def RelO.some_of{o:Option Value}(r:RelO (some v) o):∃u,o=some u/\RelV v u:=by
 cases o with
 |none=>exact(show False from r).elim
 |some u=>exact⟨u,rfl,r⟩
structure Cls(K:W.Frag)(C:Addr):Prop where
 pg:W.plainGet K C Str.empty=true
 hd:W.hasDictIn K C=true
 po:W.plainOver K C=true
 sa:W.findIn K (.ref C) "__setattr__"=some (some (.builtin "object.__setattr__"))
def IC(K:W.Frag)(C:Addr)(f:Str):Prop:=W.findIn K (.ref C) f=some none
structure Con(K:W.Frag)(C:Addr)(f:Str)(v:V)(u:Value):Prop where
 at_:W.findIn K (.ref C) f=some (some u)
 rel:RelV v u
 get:W.specialIn K u "__get__"=some none
 cp:W.copiedNames.contains f=false
structure Meth(K:W.Frag)(C:Addr)(m:Str)(f:Addr):Prop where
 at_:W.findIn K (.ref C) m=some (some (.ref f))
 fn:W.isFn K (.ref f)=true
 kp:W.keepIn K (.ref f)=true
section
variable{A:Around}{Q:Value->Shared->Prop}{c:Value}{b:Bool}
inductive TyOf(K:W.Frag)(H:Hp):V->Value->Prop where
 |non:TyOf K H .non (.type "NoneType")
 |bl (x:Bool):TyOf K H (.bl x) (.type "bool")
 |int (i:Int):TyOf K H (.int i) (.type "int")
 |str (x:Str):TyOf K H (.str x) (.type "str")
 |flt (x:UInt64):TyOf K H (.flt x) (.type "float")
 |lst {a:Addr} {xs:List V} (e:H a=some (.lst xs)):TyOf K H (.ref a) (.type "list")
 |frz {a:Addr} {o:Obj} {xs:List V} (e:H a=some (.frz o (.lst xs))):TyOf K H (.ref a) (.type "list")
 |tup {a:Addr} {xs:List V} (e:H a=some (.tup xs)):TyOf K H (.ref a) (.type "tuple")
 |dK {a:Addr} {kvs:List (Key×V)} (e:H a=some (.dK kvs)):TyOf K H (.ref a) (.type "dict")
 |dT {a:Addr} {kvs:List (List Key×V)} (e:H a=some (.dT kvs)):TyOf K H (.ref a) (.type "dict")
 |ins {a C dx:Addr} {fs:List (Str×V)} (e:H a=some (.ins C dx fs)) (cl:Cls K C) (ha:W.findIn K (.ref C) "__class__"=some (some (.builtin "object.__class__")))
   (hn:W.specialIn K (.builtin "object.__class__") "__get__"=some (some (.builtin "getset_descriptor.__get__"))) (htk:W.takesIn K (.builtin "object.__class__")=some true)
   (hm:W.mroIn K C (.type "object")=some true):TyOf K H (.ref a) (.ref C)
end
structure Room(k:Nat)(A:Around):Prop where
 hd:A.handled=none
 dp:A.depth+3 * k+5<recursionLimit
 un:A.units+16 * k+200<cLine
def Room.mono{A:Around}(r:Room k A)(h:j<=k):Room j A:=⟨r.hd,by have:=r.dp;omega,by have:=r.un;omega⟩
def Room.deeper{A:Around}(r:Room (k+1) A)(env:Env):Room k (A.deeper env):=
 ⟨r.hd,by have:=r.dp;show A.depth+1+3 * k+5<_;omega,by have:=r.un;show A.units+3+16 * k+200<_;omega⟩
def Room.in1{A:Around}(r:Room (k+1) A):Room k A.in1:=
 ⟨r.hd,by have:=r.dp;show A.depth+3 * k+5<_;omega,by have:=r.un;show A.units+1+16 * k+200<_;omega⟩
def Room.depth{A:Around}(r:Room k A):A.depth<recursionLimit:=by have:=r.dp;omega
def Room.units{A:Around}(r:Room k A):A.units+64<cLine:=by have:=r.un;omega
def Fj:TA:=λ_ H Q=>Q [] H
def mZ(ta:TE)(tr:TA):TA:=λσ H Q=>ta σ H λx H1=>tr σ H1 λxs H2=>Q (x::xs) H2
section
variable{e:Expr}{te:TE}{t:TA}
def gh:PA X [] Fj:=λ_ _ _ _ H Q I h=>Calls.spliced_nil ⟨[],H,I,.nil,h⟩
def bT(ha:PE X e te)(hr:PA X es t)(hs:starEach (e::es) X.env=(false,eval e X.env)::starEach es X.env:=by rfl):PA X (e::es) (mZ te t):=by intro pos pins s σ H Q I h;rw[hs];show wpAny _ _ (spliced ((false,eval e X.env)::backTo pos (starEach es X.env))) _ _ s;refine Calls.spliced_cons (thn (ha pins s σ H _ I h) λu s1 ⟨x,H1,I1,r1,q1⟩=>?_);exact thn (hr pos pins s1 σ H1 _ I1 q1) λus s2 ⟨xs,H2,I2,r2,q2⟩=>⟨x::xs,H2,I2,.cons r1 r2,q2⟩
def MA(t:TA):TE:=λσ H Q=>t σ H λxs H1=>xs.length<=sizeLine/\∀p,H1 p=none->Q (.ref p) (upd H1 p (.tup xs))
def Ln(t:TA):TE:=λσ H Q=>t σ H λxs H1=>xs.length<=sizeLine/\∀p,H1 p=none->Q (.ref p) (upd H1 p (.lst xs))
def Hn {x1} (h:PA X es t):PE X (.Tuple es x1 pos) (MA t):=by intro pins s σ H Q I hq;refine wpAny_Tuple_spliced (thn (h pos pins s σ H _ I hq) λus s1 ⟨xs,H1,I1,r,z,q⟩=>⟨by rw[<- r.length];exact z,?_⟩);have hf:H1 s1.heap.objs.size=none:=I1.hok.fresh (z8 _);refine⟨.ref s1.heap.objs.size,upd H1 s1.heap.objs.size (.tup xs),I1.laid (t':=s1.toks) (λb u e=>z9 _ e) (z8 _) ?_,rfl,q _ hf⟩;exact⟨z,us,r,⟨_,v7 _ rfl,rfl,_,rfl⟩⟩
def CM(h:PA X es t):PE X (.List es pos) (Ln t):=by intro pins s σ H Q I hq;refine wpAny_List_spliced (thn (h pos pins s σ H _ I hq) λus s1 ⟨xs,H1,I1,r,z,q⟩=>⟨by rw[<- r.length];exact z,?_⟩);have hf:H1 s1.heap.objs.size=none:=I1.hok.fresh (z8 _);refine⟨.ref s1.heap.objs.size,upd H1 s1.heap.objs.size (.lst xs),I1.laid (t':=s1.toks) (λb u e=>z9 _ e) (z8 _) ?_,rfl,q _ hf⟩;exact⟨z,us,0,r,v7 _ rfl⟩
end
abbrev Sp:=List V->Hp->VK->XK->Prop
abbrev CXT:=List Env->Hp->Shared->XK->Value->Shared->Prop
structure Env0(P:Program)(w:World)(K:W.Frag)(mg:Str->Option Value)(base:Heap)(A:Around)(outer:List Env)(s:Shared)(H:Hp):Prop where
 frames:A.frames=some outer
 mod:Mod K mg base
 bs:∀b o,base.get? b=some o->s.heap.get? b=some o/\H b=none
 bsz:base.objs.size<=s.heap.objs.size
 funs:s.heap.FunFrames base outer
 frf:∀b∈frs outer,H b=none
 hok:HOk P w H s.heap
 bare:AllBare s.gens
 tabs:TabsIn base H
def CE(outer:List Env)(P:Program)(w:World)(H:Hp)(s:Shared)(Q:VK)(u:Value)(s':Shared):Prop:=
 ∃v H',s'.os=s.os/\AllBare s'.gens/\Un (frs outer) [] H H' s.heap s'.heap/\HOk P w H' s'.heap/\RelV v u/\Q v H'
def CR(CX:CXT)(outer:List Env)(P:Program)(w:World)(H:Hp)(s:Shared)(Q:VK)(E:XK)(r:Result)(s':Shared):Prop:=
 match r with
 |.ok (.ret u)=>CE outer P w H s Q u s'
 |.ok _=>False
 |.error e=>CX outer H s E e s'
structure FnOk(P:Program)(w:World)(K:W.Frag)(mg:Str->Option Value)(base:Heap)(CX:CXT)(k:Nat)(f:Addr)(fd:FuncData)(ps:List Str)(sp:Sp):Prop where
 len:∀vs H Q E,sp vs H Q E->vs.length=ps.length
 run:∀(A:Around)(outer:List Env)(s:Shared)(H:Hp)(args:Args)(us:List Value)(vs:List V)(Q:VK)(E:XK),Room k A->Env0 P w K mg base A outer s H->BindsTo s fd args (ps.zip us)->Vals vs us->sp vs H Q E->
  codeAny (model P w) A (.call (.ref f) args) (CR CX outer P w H s Q E) s
def FnOk.imp{w:World}{K:W.Frag}{mg:Str->Option Value}{base:Heap}{CX:CXT}{sp sp':Sp}(F:FnOk P w K mg base CX k f fd ps sp)(h:∀vs H Q E,sp' vs H Q E->sp vs H Q E):FnOk P w K mg base CX k f fd ps sp':=
 ⟨λvs H Q E q=>F.len vs H Q E (h _ _ _ _ q),λA outer s H args us vs Q E hr he hb hv hs=>F.run A outer s H args us vs Q E hr he hb hv (h _ _ _ _ hs)⟩
section
def Inv.env0(I:Inv X pins σ H s):Env0 X.prog X.w X.K X.mg X.base X.A X.stack s H:=
 ⟨I.ok.frames,I.ok.mod,I.bs,w6 I.ok.bsz I.sz,I.stack,I.stkFree,I.hok,I.bare,I.ok.tabs.un I.base⟩
def Inv.after{Q:VK}{u:Value}(I:Inv X pins σ H s)(h:CE X.stack X.prog X.w H s Q u s'):EP X pins σ Q u s':=by obtain⟨v,H',os,bare,un,hok,r,q⟩:=h;obtain⟨hh,g,d,t,os'⟩:=s';obtain rfl:os'=s.os:=os;exact⟨v,H',I.call (h':=hh) (g':=g) (d':=d) (t':=t) (ch:=[]) un hok bare (λb z=>absurd z (by simp)),r,q⟩
end
def Binds(K:W.Frag)(fd:FuncData)(ps:List Str)(ds:List Value):Prop:=
 ∀(s:Shared)(us:List Value),K.In s.heap->(us++ds).length=ps.length->BindsTo s fd ⟨us,[]⟩ (ps.zip (us++ds))
def Binds.all{K:W.Frag}(h:∀us:List Value,us.length=ps.length->bindArgs fd ⟨us,[]⟩=pure (ps.zip us)):Binds K fd ps []:=λs us _ hl=>by rw[qo]at hl⊢;exact .of_eq (h us hl)
section
variable{CX:CXT}{sp:Sp}{dvs:List V}{ds:List Value}{E:XK}{m:Str}{apos:Pos}{e o:Expr}{ta:TE}{t:TA}
structure Mk(K:W.Frag)(C f:Addr):Prop where
 makes:W.makesIn K C=true
 init:W.findIn K (.ref C) "__init__"=some (some (.ref f))
 fn:W.isFn K (.ref f)=true
 kp:W.keepIn K (.ref C)=true
end
section
variable{CX:CXT}{ks:List Str}{sp:Sp}{E:XK}{m:Str}{apos kpos:Pos}{e o:Expr}{kws:List Keyword}{te ta:TE}{t tk:TA}{nm:Option Str}
structure KBinds(K:W.Frag)(fd:FuncData)(ps ks:List Str)(g:List Value->List Value->List Value)(gV:List V->List V->List V):Prop where
 to:∀(s:Shared)(us ws:List Value),K.In s.heap->(g us ws).length=ps.length->BindsTo s fd ⟨us,ks.zip ws⟩ (ps.zip (g us ws))
 rel:∀{vs:List V}{us:List Value}{zs:List V}{ws:List Value},Vals vs us->Vals zs ws->Vals (gV vs zs) (g us ws)
variable{g:List Value->List Value->List Value}{gV:List V->List V->List V}
end
structure FnScope(N P:List Str)(sc:Scope):Prop where
 kind:sc.kind=.function
 co:sc.isCoroutine=false
 gen:sc.isGenerator=false
 nd:N.Nodup
 pre:N.take P.length=P
 par:∀x∈P,sc.names.lookup x=some .local\/sc.names.lookup x=some .cell
 nofree:∀y∈sc.names,y.2≠.free
theorem pU{kindOf:Str->Option NameKind}{x:Str}:∀{binds:List (Str×Value)}{m:Str->Option Value},(∀v,(x,v)∉binds)->bindL kindOf binds m x=m x
 | [],_,_=>rfl
 | (n,v)::r,m,h=>by
  unfold bindL;rw[pU λw hw=>h w (w9 _ hw)];split
  ·have:x≠n:=by rintro rfl;exact h v w5
   simp[this]
  ·rfl
theorem qh{kindOf:Str->Option NameKind}{x:Str}:∀{binds:List (Str×Value)}{m:Str->Option Value},(∀v,(x,v)∉binds)->bindC kindOf binds m x=m x
 | [],_,_=>rfl
 | (n,v)::r,m,h=>by
  unfold bindC;rw[qh λw hw=>h w (w9 _ hw)];split;·rfl
  ·have:x≠n:=by rintro rfl;exact h v w5
   simp[this]
theorem oY{kindOf:Str->Option NameKind}{x:Str}{v:Value}:∀{P:List Str}{vs:List Value}{i:Nat}{m:Str->Option Value},P.Nodup->P[i]?=some x->vs[i]?=some v->kindOf x=some .local->
  bindL kindOf (P.zip vs) m x=some v
 | [],_,_,_,_,h,_,_=>by simp at h
 |_::_,[],_,_,_,_,h,_=>by simp at h
 |p::P,w::vs,0,m,nd,h1,h2,hk=>by simp at h1 h2;subst h1;subst h2;show bindL kindOf ((p,w)::P.zip vs) m p=_;unfold bindL;rw[pU λv hv=>(qZ.mp nd).1 (Y6 hv).1,if_pos hk];simp
 |p::P,w::vs,i+1,m,nd,h1,h2,hk=>by show bindL kindOf ((p,w)::P.zip vs) m x=_;unfold bindL;exact oY (i:=i) (qZ.mp nd).2 (by simpa using h1) (by simpa using h2) hk
theorem pC{kindOf:Str->Option NameKind}{x:Str}{v:Value}:∀{P:List Str}{vs:List Value}{i:Nat}{m:Str->Option Value},P.Nodup->P[i]?=some x->vs[i]?=some v->kindOf x≠some .local->
  bindC kindOf (P.zip vs) m x=some v
 | [],_,_,_,_,h,_,_=>by simp at h
 |_::_,[],_,_,_,_,h,_=>by simp at h
 |p::P,w::vs,0,m,nd,h1,h2,hk=>by simp at h1 h2;subst h1;subst h2;show bindC kindOf ((p,w)::P.zip vs) m p=_;unfold bindC;rw[qh λv hv=>(qZ.mp nd).1 (Y6 hv).1,if_neg hk];simp
 |p::P,w::vs,i+1,m,nd,h1,h2,hk=>by show bindC kindOf ((p,w)::P.zip vs) m x=_;unfold bindC;exact pC (i:=i) (qZ.mp nd).2 (by simpa using h1) (by simpa using h2) hk
def start(N:List Str)(vs:List V):St:=vs.map some++List.replicate (N.length - vs.length) none
noncomputable def fE(CX:CXT)(P:Program)(w:World)(K:W.Frag)(mg:Str->Option Value)(base:Heap)(N:List Str)(qual:Str)(scope:Scope)(f:Addr)(cd:Value)(A:Around)(outer:List Env)(s:Shared)(H:Hp)(E:XK):Cx where
 prog:=P
 w:=w
 K:=K
 mg:=mg
 base:=base
 A:=A.deeper (envOfC qual scope s.heap.objs.size f cd)
 N:=N
 s₀:=s
 H₀:=H
 env:=envOfC qual scope s.heap.objs.size f cd
 outer:=outer
 stack:=envOfC qual scope s.heap.objs.size f cd::outer
 ex:=[]
 calm:=true
 fn:=λ_=>true
 pn:=[]
 xe:=λe s'=>wpAny (model P w) (A.deeper (envOfC qual scope s.heap.objs.size f cd)) (leaving (envOfC qual scope s.heap.objs.size f cd) e) (λ_ s''=>CX outer H s E e s'') (λe' s''=>CX outer H s E e' s'') s'
def tJ{sc:Scope}{n:Nat}(h:sc.names.lookup x=some .cell):∃c,(cellsFrom n sc.names []).lookup x=some c:=by have q:=W.cellsFrom_some sc.names n [] (.inl h);exact Option.isSome_iff_exists.mp q
def xc{CX:CXT}{w:World}{K:W.Frag}{mg:Str->Option Value}{base:Heap}{N:List Str}{cd:Value}{A:Around}{outer:List Env}{s1:Shared}{E:XK}(S:FnScope N ps scope)(hd:A.handled=none)(e0:Env0 P w K mg base A outer s H)(hl:vs.length=ps.length)(r:Vals vs us)(x:InCallC s s.heap.objs.size (bindL (envOfC qual scope s.heap.objs.size f cd).kindOf (ps.zip us) λ_=>none) (cellsFrom (s.heap.objs.size+1) scope.names []) (bindC (envOfC qual scope s.heap.objs.size f cd).kindOf (ps.zip us) λ_=>none) s1):
  Inv (fE CX P w K mg base N qual scope f cd A outer s H E) [] (start N vs) H s1:=by
 have hpl:ps.length<=N.length:=by have:=o9 List.length S.pre;rw[u7]at this;omega
 obtain⟨h1,tk,rfl,hk⟩:=x.done;have noA:∀b:Addr,b∉(fE CX P w K mg base N qual scope f cd A outer s H E).ex:=λb z=>absurd (show b∈([]:List Addr) from z) (by simp);refine⟨⟨e0.mod,S.kind,rfl,rfl,z8 _,λy z c h1 h2=>?_,λy hy=>?_,λy c _ h=>?_,λ_=>hd,Around.frames_deeper e0.frames,.inr ⟨rfl,rfl⟩,λb z=>absurd z (noA b),e0.bs,e0.bsz,λb _ _=>noA b,λb z=>absurd z (noA b),e0.funs,e0.frf,e0.tabs⟩,
  rfl,e0.bare,Un.kept hk,⟨_,x.toInCall.ns,λi y v h1 h2 h3=>?_⟩,λy c h=>⟨_,x.cell y c h⟩,e0.hok.fresh (z8 _),λy c h=>?_,λp hp=>absurd (show p∈([]:List (Addr×Obj)) from hp) (by simp),e0.hok.kept hk,?_⟩;·exact name_of_addr x.apart (iq h1) (iq h2)
 ·have hy:scope.names.lookup y=some .cell\/scope.names.lookup y=some .free:=hy;rcases hy with hy|hy;·exact tJ hy
  ·exact absurd rfl (S.nofree _ (iq hy))
 ·exact ik (x.above y c (iq h))
 ·have hi:i<vs.length:=by
   unfold start at h2;by_cases hi:i<vs.length;·exact hi
   ·rw[pT (by simpa using hi)]at h2;rw[lE]at h2;split at h2 <;> cases h2
  have ha:vs[i]?=some v:=by
   unfold start at h2;rw[qq (by simpa using hi),u9]at h2;cases e:vs[i]? with
   |none=>rw[e]at h2;cases h2
   |some a=>rw[e]at h2;cases h2;rfl
  obtain⟨u,hu,rv⟩:=r.get ha;have hp:ps[i]?=some y:=by rw[<- S.pre,List.getElem?_take_of_lt (by omega)];exact h1
  have ndP:ps.Nodup:=by rw[<- S.pre];exact S.nd.sublist (List.take_sublist _ _)
  refine⟨u,rv,?_⟩;rcases S.par y (nZ hp)with k|k;·exact .inl ⟨k,oY ndP hp hu k⟩
  ·obtain⟨c,e⟩:=tJ (n:=s.heap.objs.size+1) k;refine .inr ⟨.inl k,c,e,?_⟩;have q:=x.cell y c e;rw[pC ndP hp hu (by show scope.names.lookup y≠_;rw[k];decide)]at q;exact q
 ·exact e0.hok.fresh (ik (x.above y c (iq h)))
 ·unfold start;show _=N.length;rw[v6,zV,pV];omega
def DB{CX:CXT}{w:World}{K:W.Frag}{mg:Str->Option Value}{base:Heap}{name:Str}{params:Arguments}{dV kV doc pm ct oc:Value}{an:Option Addr}{N:List Str}{sp:Sp}(lk:K.lookup f=some ⟨oc,od,.func (W.fnOf name qual params body scope dV kV doc pm an cdv ct),osl⟩)(hcd:W.codeIn K cdv qual=true)(S:FnScope N ps scope)(len:∀vs H Q E,sp vs H Q E->vs.length=ps.length)(hbody:∀(A:Around)(outer:List Env)(s:Shared)(H:Hp)(vs:List V)(Q:VK)(E:XK),Room k (A.deeper (envOfC qual scope s.heap.objs.size f cdv))->sp vs H Q E->
 ∃t,PSs (fE CX P w K mg base N qual scope f cdv A outer s H E) body t/\t { nx:=λ_ H'=>Q .non H',rt:=Q } (start N vs) H):
  FnOk P w K mg base CX (k+1) f (W.fnOf name qual params body scope dV kV doc pm an cdv ct) ps sp:=by
 refine⟨len,λA outer s H args us vs Q E hr e0 hb r hsp=>?_⟩;have hl:=len _ _ _ _ hsp;have KX:K.In s.heap:=e0.mod.kin.keeps λb o e=>(e0.bs b o e).1;have lim:s.heap.NoLimit:=e0.mod.nolimit.keeps λb o e=>(e0.bs b o e).1;have hkind:∀y∈ps.zip us,scope.names.lookup y.1=some .local\/(scope.names.lookup y.1=some .cell/\((cellsFrom (s.heap.objs.size+1) scope.names []).lookup y.1).isSome=true):=λ⟨n,v⟩ hy=>by
  rcases S.par n (Y6 hy).1 with q|q;·exact .inl q
  ·exact .inr ⟨q,W.cellsFrom_some _ _ _ (.inl q)⟩
 refine codeAny_call_function hr.depth (KX _ _ lk) rfl S.co S.gen rfl (W.codeRec_of KX hcd) (hb _ _ _ _ ?_);refine wpAny_newFunctionEnv_cells S.kind hkind λenv he s1 x=>?_;subst he;refine⟨lim.keeps x.toInCall.keep,codeAny_func ?_⟩;obtain⟨t,ht,hq⟩:=hbody A outer s H vs Q E (hr.deeper _) hsp;have I:Inv (fE CX P w K mg base N qual scope f cdv A outer s H E) [] (start N vs) H s1:=xc S hr.hd e0 hl r x;refine t7 (ht [] s1 (start N vs) H _ I hq) (λfl s' hs=>?_) λe s' hs=>hs;have fin:∀{σ':St}{H':Hp}{v:V}{u:Value},Inv (fE CX P w K mg base N qual scope f cdv A outer s H E) [] σ' H' s'->RelV v u->Q v H'->CE outer P w H s Q u s':=
  λ{σ' H' v u} J rv q=>⟨v,H',J.os,J.bare,J.base,J.hok,rv,q⟩
 cases fl with
 |ret u=>obtain⟨v,σ',H',J,rv,q⟩:=hs;exact fin J rv q
 |next=>obtain⟨σ',H',J,q⟩:=hs;exact fin (v:=V.non) (u:=Value.none) J rfl q
 |brk=>obtain⟨_,_,_,q⟩:=hs;exact False.elim q
 |cont=>obtain⟨_,_,_,q⟩:=hs;exact False.elim q
end L2
variable{CX:L2.CXT}
namespace L2
open PySem PySem.Spec PyProof.Rows
section
variable{e:Expr}{t:TA}{id T:String}{r:List V->Hp->VK->Prop}
def tCB(r:List V->Hp->VK->Prop)(t:TA):TE:=λσ H Q=>t σ H λvs H1=>r vs H1 Q
def nW(hc:jf X (.builtin id) r)(hg:Gl X x)(hm:X.mg x=none)(hv:bootBuiltins x=some (.builtin id))(ha:PA X (e::es) t)(hn:x≠"__name__":=by decide)(hdb:(x==("__debug__":Str))=false:=by decide)(he:starEach (e::es) X.env=(false,eval e X.env)::starEach es X.env:=by rfl)(hpl:(backTo pos (starEach es X.env)).any (·.1)=false:=by rfl):PE X (.Call (.Name x p) (e::es) [] pos) (tCB r t):=by
 intro pins s σ H Q I h;refine Z4 (kC I hg hm hv ?_ hn hdb);exact callWith_builtin1 (thn (ha pos pins s σ H _ I h) λus s1 ⟨vs,H1,I1,r1,q1⟩=>hc pins s1 σ H1 vs us Q I1 r1 q1) he hpl
def iV(hc:jf X (.type T) r)(hg:Gl X x)(hm:X.mg x=none)(hv:bootBuiltins x=some (.type T))(ha:PA X (e::es) t)(hn:x≠"__name__":=by decide)(hdb:(x==("__debug__":Str))=false:=by decide)(he:starEach (e::es) X.env=(false,eval e X.env)::starEach es X.env:=by rfl)(hpl:(backTo pos (starEach es X.env)).any (·.1)=false:=by rfl):PE X (.Call (.Name x p) (e::es) [] pos) (tCB r t):=by
 intro pins s σ H Q I h;refine Z4 (kC I hg hm hv ?_ hn hdb);exact callWith_type1 (thn (ha pos pins s σ H _ I h) λus s1 ⟨vs,H1,I1,r1,q1⟩=>hc pins s1 σ H1 vs us Q I1 r1 q1) he hpl
end
end L2
namespace HT
open PySem PyProof.Rows
section
open PySem.SeqAt
open PySem.AutoSeq1 (wpAny_loadPart')
open PySem.MeetsSeq PySem.MeetsSeq2 PySem.MeetsSeq3
end
section
variable{prog:Program}{w:World}{A:Around}
theorem cat_tup{t b:Addr}{vs ws:List Value}{Q:Value->Shared->Prop}(ht:IsTup s.heap t vs.toArray)(hb:IsTup s.heap b ws.toArray)(hv:vs≠[])(h1:ws=[]->Q (.ref t) s)(h2:ws≠[]->Q (.ref s.heap.objs.size) { s with heap:=s.heap.push { cls:=.type "tuple",data:=.seq (vs++ws).toArray } })(hsz:vs.length+ws.length<=sizeLine):wpAny (model prog w) A (binaryOp .Add (.ref t) (.ref b)) Q E s:=by
 obtain⟨⟨cls,dd,data,sl⟩,ho,hc,n,hd⟩:=id ht;obtain⟨⟨cls2,dd2,data2,sl2⟩,ho2,hc2,n2,hd2⟩:=id hb;simp only at hc hd hc2 hd2;subst hc hd hc2 hd2;have e:vs.toArray++ws.toArray=(vs++ws).toArray:=by simp
 by_cases hw:ws=[]
 ·exact concat_meets ⟨_,ho,rfl⟩ ⟨_,ho2,rfl⟩ Y7 seq_tuple_add F.slot_tuple_add F.entry_tuple_add (F.args_tuple_add_2 _ _)
   (tuple_addW1 t b vs.toArray ws.toArray n n2 dd dd2 sl sl2 (by simpa using hv) (by simp[hw])) ⟨ho,ho2,h1 hw⟩
 ·refine concat_meets ⟨_,ho,rfl⟩ ⟨_,ho2,rfl⟩ Y7 seq_tuple_add F.slot_tuple_add F.entry_tuple_add (F.args_tuple_add_2 _ _)
   (tuple_addW2 t b vs.toArray ws.toArray n n2 dd dd2 sl sl2 (by simpa using hv) (by simpa using hw) (by rw[wg,wg];exact hsz)) ⟨ho,ho2,?_⟩;rw[e];exact h2 hw
def sIx(n d:Nat):Option Int->Nat
 |none=>d
 |some v=>if v<0 then (v+(n:Int)).toNat else min v.toNat n
def sIx_none(n d:Nat):sIx n d none=d:=rfl
def sIx_nat(n d k:Nat):sIx n d (some (k:Int))=min k n:=by show(if (k:Int)<0 then ((k:Int)+(n:Int)).toNat else min (k:Int).toNat n)=min k n;rw[if_neg (by omega),si]
def sIx_le(n d:Nat)(hd:d<=n)(o:Option Int):sIx n d o<=n:=by
 cases o with
 |none=>exact hd
 |some v=>
  show(if v<0 then (v+(n:Int)).toNat else min v.toNat n)<=n;by_cases hv:v<0;·rw[if_pos hv];omega
  ·rw[if_neg hv];exact Nat.min_le_right _ _
def yD(v:Int)(n d:Nat):(if v<0 then max (v+(n:Int)) 0 else min v (n:Int))=((sIx n d (some v):Nat):Int):=by
 show(if v<0 then max (v+(n:Int)) 0 else min v (n:Int))=(((if v<0 then (v+(n:Int)).toNat else min v.toNat n):Nat):Int);by_cases hv:v<0;·simp only[if_pos hv];omega
 ·simp only[if_neg hv];omega
def vB(lo hi:Option Int)(n:Nat):Builtin.Slice.sliceAdjust lo hi 1 (n:Int)=(((sIx n 0 lo:Nat):Int),((sIx n n hi:Nat):Int)):=by
 have h1 : ¬ ((1:Int)<0):=by omega
 unfold Builtin.Slice.sliceAdjust;simp only[h1,t5];refine Prod.ext ?_ ?_
 ·cases lo with
  |none=>rfl
  |some v=>exact yD v n 0
 ·cases hi with
  |none=>rfl
  |some v=>exact yD v n n
def vH(i j:Nat):Builtin.Slice.slicePlaces (i:Int) (j:Int) 1=j - i:=by
 unfold Builtin.Slice.slicePlaces;have h1:(1:Int) > 0:=by omega
 simp only[h1,t8,Int.ediv_one];split <;> omega
def mE{v:Value}{o:Option Int}{Q:Option Int->Shared->Prop}(p:IsPart v o)(h:Q o s):wpAny (model prog w) A (Builtin.Slice.slicePartIndex v) Q E s:=by
 cases p with
 |none=>exact slicePart_none h
 |int i t=>exact slicePart_int h
def sliceApplied_gen{sl:Addr}{vl vu:Value}{lo hi:Option Int}{n:Nat}{Q:Int×Int×Nat->Shared->Prop}(hs:s.heap.IsSliceOf sl vl vu .none)(pl:IsPart vl lo)(pu:IsPart vu hi)(h:Q (((sIx n 0 lo:Nat):Int),1,sIx n n hi - sIx n 0 lo) s):wpAny (model prog w) A (Builtin.Slice.sliceApplied (.ref sl) (pure (n:Int))) Q E s:=by
 obtain⟨os,hos,hcs,hds⟩:=id hs;unfold Builtin.Slice.sliceApplied Builtin.Slice.sliceFields;refine z5 (z5 (n9 hos hds (x:=vl) rfl (z5 (n9 hos hds (x:=vu) rfl (z5 (n9 hos hds (x:=.none) rfl (z7 ?_)))))));refine z5 (slicePart_none ?_);show wpAny _ _ (if ((1:Int)==0)=true then _ else _) _ _ s;rw[if_neg (by decide)];refine z5 (mE pl (z5 (mE pu (z5 (z7 ?_)))));show wpAny _ _ (match Builtin.Slice.sliceAdjust lo hi 1 (n:Int)with|(lo,hi)=>pure (lo,(1:Int),Builtin.Slice.slicePlaces lo hi 1)) _ _ s;rw[vB lo hi n];show wpAny _ _ (pure (((sIx n 0 lo:Nat):Int),(1:Int),Builtin.Slice.slicePlaces ((sIx n 0 lo:Nat):Int) ((sIx n n hi:Nat):Int) 1)) _ _ s;rw[vH];exact z7 h
def Ar(xs:Array Value)(i k:Nat):((List.range k).filterMap λ(m:Nat)=>xs[((i:Int)+(m:Int) * 1).toNat]?).toArray=((xs.toList.drop i).take k).toArray:=by
 have e:(λ(m:Nat)=>xs[((i:Int)+(m:Int) * 1).toNat]?)=λm=>xs[i+m]?:=by
  funext m
  have:((i:Int)+(m:Int) * 1).toNat=i+m:=by omega
  rw[this]
 rw[e];have:=pick_run xs i k;rw[List.filterMap_map]at this;have e2:((λx=>xs[x]?) ∘ λx=>i+x)=λm=>xs[i+m]?:=rfl;rw[e2]at this;rw[this]
def getItem_tuple_cut{t sl:Addr}{items:Array Value}{vl vu:Value}{lo hi:Option Int}{Q:Value->Shared->Prop}(ht:IsTup s.heap t items)(hs:s.heap.IsSliceOf sl vl vu .none)(pl:IsPart vl lo)(pu:IsPart vu hi)(hw : ¬ (sIx items.size 0 lo=0/\sIx items.size items.size hi=items.size))(h:Q (.ref s.heap.objs.size) { s with heap:=s.heap.push { cls:=.type "tuple",data:=.seq ((items.toList.drop (sIx items.size 0 lo)).take (sIx items.size items.size hi - sIx items.size 0 lo)).toArray } })(hsz:items.size<=sizeLine):wpAny (model prog w) A (getItem (.ref t) (.ref sl)) Q E s:=by
 have htake:sizeOk (.seq ((items.toList.drop (sIx items.size 0 lo)).take (sIx items.size items.size hi - sIx items.size 0 lo)).toArray):=by show((items.toList.drop (sIx items.size 0 lo)).take (sIx items.size items.size hi - sIx items.size 0 lo)).toArray.size<=sizeLine;rw[wg,u7,lM,qY];omega
 have hj:sIx items.size items.size hi<=items.size:=sIx_le _ _ (z8 _) hi;obtain⟨os,hos,hcs,hds⟩:=id hs;have hTs:s.TypeIs (.ref sl) "slice":=⟨os,hos,hcs⟩
 unfold getItem
 try with_reducible refine q9 ?_
 first|refine z5 (z7 ?_)|skip
 refine z5 (wpAny_sequenceKey ht.typeIs (by decide) ?_);refine z5 (m9 (name:=Str.ofString "__getitem__") ht.typeIs slot_tuple_getitem
  (r9 slot_tuple_getitem ht.typeIs entry_tuple_getitem ?_ (args_tuple_getitem _ _)));show wpAny _ _ (Builtin.Tuple.tupleItemsOf (.ref t)>>=_) _ _ s;refine z5 (Z5 ht ?_);refine z5 (iD hTs ?_);rw[if_pos (by decide)];refine z5 (sliceApplied_gen hs pl pu ?_);have hno : ¬ ((((sIx items.size 0 lo:Nat):Int)==0 && (1:Int)==1 && (sIx items.size items.size hi - sIx items.size 0 lo)==items.size)=true):=by
  intro q;rw[u8,u8]at q;have q1:((sIx items.size 0 lo:Nat):Int)=0:=j5 q.1.1;have q2:sIx items.size items.size hi - sIx items.size 0 lo=items.size:=j5 q.2;exact hw ⟨by omega,by omega⟩
 show wpAny _ _ (if (((sIx items.size 0 lo:Nat):Int)==0 && (1:Int)==1 && (sIx items.size items.size hi - sIx items.size 0 lo)==items.size)=true then _ else _) _ _ s;rw[if_neg hno,Ar]
 first
  |exact z5 (m:=Builtin.Tuple.tupleExact _) (o5 (z7 ⟨_,rfl,z7 h⟩) htake)
  |exact z5 (m:=Builtin.Tuple.tupleExact _) (o5 (z5 (z7 (z7 ⟨_,rfl,z7 h⟩))) htake)
  |exact z5 (z5 (m:=Builtin.Tuple.tupleExact _) (o5 (z7 (z7 ⟨_,rfl,z7 h⟩)) htake))
  |exact z5 (z5 (m:=Builtin.Tuple.tupleExact _) (o5 (z7 ⟨_,rfl,z7 h⟩) htake))
end
end HT
namespace L2
open PySem PySem.Spec PyProof.Rows
abbrev TO:=St->Hp->(Option Int->Hp->Prop)->Prop
noncomputable def PO(X:Cx)(e:Option Expr)(t:TO):Prop:=
 ∀(pins:List (Addr×Obj))(s:Shared)(σ:St)(H:Hp)(Q:Option Int->Hp->Prop),Inv X pins σ H s->t σ H Q->
  wpAny (model X.prog X.w) X.A (evalPart e X.env) (λu s'=>∃o H',Inv X pins σ H' s'/\IsPart u o/\Q o H') X.xe s
def DS:TO:=λ_ H Q=>Q none H
def KB(t:TE):TO:=λσ H Q=>t σ H λx H1=>∃i,x=.int i/\Q (some i) H1
section
variable{e:Expr}{te:TE}{lo hi:Option Expr}{tl th:TO}{p2:Pos}
def Er:PO X none DS:=by intro pins s σ H Q I h;rw[evalPart_none];exact z7 ⟨none,H,I,.none,h⟩
def Dm(h:PE X e te):PO X (some e) (KB te):=by intro pins s σ H Q I hw;rw[evalPart_some];refine thn (h pins s σ H _ I hw) λu s1 ⟨x,H1,I1,r1,q1⟩=>?_;obtain⟨i,rfl,q⟩:=q1;obtain⟨t,rfl⟩:=r1;exact⟨some i,H1,I1,.int i t,q⟩
noncomputable def SlR(X:Cx)(r:V->Option Int->Option Int->Hp->VK->Prop):Prop:=
 ∀(pins:List (Addr×Obj))(s:Shared)(σ:St)(H:Hp)(x:V)(v vl vu:Value)(lo hi:Option Int)(sl:Addr)(Q:VK),Inv X pins σ H s->RelV x v->s.heap.IsSliceOf sl vl vu .none->IsPart vl lo->IsPart vu hi->r x lo hi H Q->
  ∃T id,typeLookup (.type T) "__getitem__"=pure (some (.builtin id))/\s.TypeIs v T/\wpAny (model X.prog X.w) X.A (getItem v (.ref sl)) (EP X pins σ Q) X.xe s
def SlR.or{r r':V->Option Int->Option Int->Hp->VK->Prop}(h:SlR X r)(h':SlR X r'):SlR X (λx lo hi H Q=>r x lo hi H Q\/r' x lo hi H Q):=by
 intro pins s σ H x v vl vu lo hi sl Q I rx hs pl pu q;rcases q with q|q;·exact h pins s σ H x v vl vu lo hi sl Q I rx hs pl pu q
 ·exact h' pins s σ H x v vl vu lo hi sl Q I rx hs pl pu q
def tSl(r:V->Option Int->Option Int->Hp->VK->Prop)(te:TE)(tl th:TO):TE:=λσ H Q=>te σ H λx H1=>tl σ H1 λl H2=>th σ H2 λu H3=>r x l u H3 Q
def zR{r:V->Option Int->Option Int->Hp->VK->Prop}(hr:SlR X r)(he:PE X e te)(hl:PO X lo tl)(hu:PO X hi th):PE X (.Subscript e (.Slice lo hi none p2) pos) (tSl r te tl th):=by intro pins s σ H Q I h;refine Subscript_ (thn (he pins s σ H _ I h) λv s1 ⟨x,H1,I1,r1,q1⟩=>?_);refine wpAny_Slice (thn (hl pins s1 σ H1 _ I1 q1) λvl s2 ⟨l,H2,I2,pl,q2⟩=>thn (hu pins s2 σ H2 _ I2 q2) λvu s3 ⟨u,H3,I3,pu,q3⟩=>?_);rw[evalPart_none];refine z7 ?_;have I4:Inv X pins σ H3 { s3 with heap:=s3.heap.push { cls:=.type "slice",data:=.fields #[vl,vu,.none] } }:=I3.kept (t':=s3.toks) λb ob q=>z9 _ q;obtain⟨T,id,hT,ht,hg⟩:=hr pins { s3 with heap:=s3.heap.push { cls:=.type "slice",data:=.fields #[vl,vu,.none] } } σ H3 x v vl vu l u s3.heap.objs.size Q I4 r1 (Heap.IsSliceOf.new ..) pl pu q3;show wpAny (model X.prog X.w) X.A (subscriptTail e (.Slice lo hi none p2) v (.ref s3.heap.objs.size)) (EP X pins σ Q) X.xe { s3 with heap:=s3.heap.push { cls:=.type "slice",data:=.fields #[vl,vu,.none] } };exact tail_any (ops:=[.ref s3.heap.objs.size,v]) ht hT hg (by with_unfolding_all rfl)
def Cd(xs:List V)(lo hi:Option Int):List V:=(xs.drop (HT.sIx xs.length 0 lo)).take (HT.sIx xs.length xs.length hi - HT.sIx xs.length 0 lo)
def kW(xs:List V)(lo hi:Option Int):(Cd xs lo hi).length<=xs.length:=by unfold Cd;rw[u7,lM];omega
def K7(K:W.Frag):V->Option Int->Option Int->Hp->VK->Prop:=λx lo hi H Q=>∃a xs,x=.ref a/\SqT K H a xs/\
 ¬ (HT.sIx xs.length 0 lo=0/\HT.sIx xs.length xs.length hi=xs.length)/\∀p,H p=none->Q (.ref p) (upd H p (.tup (Cd xs lo hi)))
def sl_tup:SlR X (K7 X.K):=by
 intro pins s σ H x v vl vu lo hi sl Q I rx hs pl pu h;obtain⟨a,xs,rfl,hx,hw,q⟩:=h;cases rx;obtain⟨its,r,ht,hz⟩:=I.tuple hx;have hlen:its.toArray.size=xs.length:=by rw[wg];exact r.length.symm
 refine⟨"tuple",_,slot_tuple_getitem.lookup,ht.typeIs,?_⟩;refine HT.getItem_tuple_cut ht hs pl pu (by rw[hlen];exact hw) ?_ (by rw[hlen];exact hz);rw[hlen];refine⟨.ref s.heap.objs.size,_,I.laid (t':=s.toks) (o:=.tup (Cd xs lo hi)) (λb ob q=>z9 _ q) (z8 _) ?_,rfl,q _ (I.hok.fresh (z8 _))⟩;exact⟨w6 (kW xs lo hi) hz,_,(r.drop (HT.sIx xs.length 0 lo)).take (HT.sIx xs.length xs.length hi - HT.sIx xs.length 0 lo),d3 _ _⟩
def KQ(K:W.Frag):R2:=λx y H Q=>∃a b xs ys,x=.ref a/\y=.ref b/\SqT K H a xs/\SqT K H b ys/\xs≠[]/\xs.length+ys.length<=sizeLine/\
 (ys=[]->Q (.ref a) H)/\(ys≠[]->∀p,H p=none->Q (.ref p) (upd H p (.tup (xs++ys))))
def Vals.nil_iff(r:Vals xs us):us=[] ↔ xs=[]:=by
 cases r with
 |nil=>simp
 |cons _ _=>simp
def CZ:OpR X (binaryOp .Add) (KQ X.K):=by intro pins s σ H x y v u Q I rx ry h;obtain⟨a,b,xs,ys,rfl,rfl,ha,hb,hx,hz,q1,q2⟩:=h;cases rx;cases ry;obtain⟨its,r1,p1,_⟩:=I.tuple ha;obtain⟨its2,r2,p2,_⟩:=I.tuple hb;refine HT.cat_tup p1 p2 (λz=>hx (r1.nil_iff.mp z)) (λz=>⟨.ref a,H,I,rfl,q1 (r2.nil_iff.mp z)⟩) (λz=>?_) (by rw[<- r1.length,<- r2.length];exact hz);refine⟨.ref s.heap.objs.size,_,I.laid (t':=s.toks) (o:=.tup (xs++ys)) (λb ob q=>z9 _ q) (z8 _) ?_,rfl,q2 (λw=>z (r2.nil_iff.mpr w)) _ (I.hok.fresh (z8 _))⟩;exact⟨by rw[v6];exact hz,_,r1.append r2,d3 _ _⟩
end
def ixN(n:Nat)(i:Int):Option Nat:=if 0<=i then (if i<n then some i.toNat else none)else if -(n:Int)<=i then some (i+n).toNat else none
def atI{α:Type}(xs:List α)(i:Int):Option α:=(ixN xs.length i).bind λj=>xs[j]?
def zh{n:Nat}{i:Int}(h:ixN n i=some j):seqIndex? i n=some j/\j<n/\-(n:Int)<=i/\i<n:=by
 unfold ixN at h;by_cases h0:0<=i
 ·rw[if_pos h0]at h;by_cases h1:i<n;·rw[if_pos h1]at h;have e:i.toNat=j:=vC h;exact⟨by rw[seqIndex_of h0 h1,e],by omega,by omega,h1⟩
  ·rw[if_neg h1]at h;cases h
 ·rw[if_neg h0]at h;by_cases h1 : -(n:Int)<=i;·rw[if_pos h1]at h;have e:(i+n).toNat=j:=vC h;exact⟨by rw[seqIndex_neg (by omega) h1,e],by omega,h1,by omega⟩
  ·rw[if_neg h1]at h;cases h
def rY{α:Type}{xs:List α}{i:Int}{v:α}(h:atI xs i=some v):∃j,seqIndex? i xs.length=some j/\xs[j]?=some v/\j<xs.length/\-(xs.length:Int)<=i/\i<xs.length:=by
 unfold atI at h;cases e:ixN xs.length i with
 |none=>rw[e]at h;cases h
 |some j=>rw[e]at h;obtain⟨h1,h2,h3,h4⟩:=zh e;exact⟨j,h1,h,h2,h3,h4⟩
def kA{α:Type}{xs:List α}{v:α}(h:xs[j]?=some v):atI xs (j:Int)=some v:=by
 have hj:j<xs.length:=(tj.mp h).1;have e:ixN xs.length (j:Int)=some j:=by unfold ixN;rw[if_pos (by omega),if_pos (by omega)];simp
 unfold atI;rw[e];exact h
def td(b:Expr):Prop:=∀o i,subscripted b false o i=operate [o,i] (getItem o i)
noncomputable def IxR(X:Cx)(r:R2):Prop:=
 ∀(value slice:Expr)(pins:List (Addr×Obj))(s:Shared)(σ:St)(H:Hp)(x y:V)(v u:Value)(Q:VK),Inv X pins σ H s->RelV x v->RelV y u->r x y H Q->
  subscripted slice false v u=operate [v,u] (getItem v u)->wpAny (model X.prog X.w) X.A (subscriptTail value slice v u) (EP X pins σ Q) X.xe s
noncomputable def MtR(X:Cx)(id:String)(r:V->List V->Hp->VK->Prop):Prop:=
 ∀(pins:List (Addr×Obj))(s:Shared)(σ:St)(H:Hp)(x:V)(xs:List V)(v:Value)(us:List Value)(Q:VK),Inv X pins σ H s->RelV x v->Vals xs us->r x xs H Q->
  wpAny (model X.prog X.w) X.A (call (.builtin id) (v::us)) (EP X pins σ Q) X.xe s
section
variable{a b:Expr}{ta tb:TE}
def IxR.or{r r':R2}(h:IxR X r)(h':IxR X r'):IxR X (λx y H Q=>r x y H Q\/r' x y H Q):=by
 intro value slice pins s σ H x y v u Q I rx ry q hs;rcases q with q|q;·exact h value slice pins s σ H x y v u Q I rx ry q hs
 ·exact h' value slice pins s σ H x y v u Q I rx ry q hs
def zW{r:R2}(hr:IxR X r)(ha:PE X a ta)(hb:PE X b tb)(hs:td b):PE X (.Subscript a b pos) (tOp r ta tb):=by intro pins s σ H Q I h;exact Subscript_ (JJ ha hb I h λv u s2 x y H2 I2 rx ry q=>hr a b pins s2 σ H2 x y v u Q I2 rx ry q (hs _ _))
def IS(K:W.Frag):R2:=λx y H Q=>∃p xs i v,x=.ref p/\y=.int i/\SqL K H p xs/\atI xs i=some v/\Q v H
def K6(K:W.Frag):R2:=λx y H Q=>∃p xs i v,x=.ref p/\y=.int i/\SqT K H p xs/\atI xs i=some v/\Q v H
def K9:R2:=λx y H Q=>∃z i c,x=.str z/\y=.int i/\z.length<=sizeLine/\atI z.cps.toList i=some c/\Q (.str ⟨#[c]⟩) H
def ix_list:IxR X (IS X.K):=by
 intro value slice pins s σ H x y v u Q I rx ry h hs;obtain⟨p,xs,i,z,rfl,rfl,hq,he,q⟩:=h;cases rx;obtain⟨t,rfl⟩:=ry;obtain⟨its,r,pl,hz⟩:=I.list hq;obtain⟨j,h1,h2,h3,h4,h5⟩:=rY he;obtain⟨w,ew,rw'⟩:=r.get h2;have hl:=r.length;have hn:=mw;have fin:EP X pins σ Q w s:=⟨z,H,I,rw',q⟩
 by_cases h0:0<=i
 ·have hj:i.toNat=j:=by rw[seqIndex_of h0 h5]at h1;exact vC h1
  exact item_listR pl.isList h0 (by omega) (by rw[hj];simpa using ew) fin hs
 ·have hj:(i+(its.toArray.size:Int)).toNat=j:=by rw[seqIndex_neg (by omega) h4]at h1;rw[wg,<- hl];exact vC h1
  exact subscriptTail_builtinR (x:=w) pl.isList.typeIs slot_list_getitem.lookup
   (wpAny_getItem_list_neg (Q:=λr s'=>r=w/\EP X pins σ Q r s') pl.isList (by omega) (by rw[wg] <;> omega) (by omega) (by rw[hj];simpa using ew) ⟨rfl,fin⟩) hs
def ix_tup:IxR X (K6 X.K):=by
 intro value slice pins s σ H x y v u Q I rx ry h hs;obtain⟨p,xs,i,z,rfl,rfl,hq,he,q⟩:=h;cases rx;obtain⟨t,rfl⟩:=ry;obtain⟨its,r,pl,hz⟩:=I.tuple hq;obtain⟨j,h1,h2,h3,h4,h5⟩:=rY he;obtain⟨w,ew,rw'⟩:=r.get h2;have hl:=r.length;have hn:=mw;have fin:EP X pins σ Q w s:=⟨z,H,I,rw',q⟩
 exact subscriptTail_builtinR (x:=w) pl.typeIs slot_tuple_getitem.lookup
  (getItem_tuple (j:=j) (Q:=λr s'=>r=w/\EP X pins σ Q r s') pl (by omega) (by omega) (by rw[wg,<- hl];exact h1) (by simpa using ew) ⟨rfl,fin⟩) hs
def G0:IxR X K9:=by
 intro value slice pins s σ H x y v u Q I rx ry h hs;obtain⟨z,i,c,rfl,rfl,hz,he,q⟩:=h;obtain⟨t,rfl⟩:=rx;obtain⟨t',rfl⟩:=ry;obtain⟨j,h1,h2,h3,h4,h5⟩:=rY he;have hl:z.cps.toList.length=z.length:=by simp[Str.length]
 rw[hl]at h1 h4 h5;have hn:=mw;exact tail_any (typeIs_str s z t) slot_str_getitem.lookup (getItem_str (c:=c) (by have e1:decide (i < -(2 ^ 63:Int))=false:=t6 (by omega);have e2:decide (i ≥ 2 ^ 63)=false:=t6 (by omega);rw[e1,e2,d4]) (by rw[h1];simpa using h2) ⟨.str ⟨#[c]⟩,H,I.tok _,⟨_,rfl⟩,q⟩) hs
def rIx(K:W.Frag):R2:=λx y H Q=>IS K x y H Q\/K6 K x y H Q\/K9 x y H Q
def Gf:IxR X (rIx X.K):=ix_list.or (ix_tup.or G0)
def vo(its:List Value)(n j:Nat)(u:Value):Obj.mapSeq (·.setIfInBounds j u) { cls:=.type "list",data:=.seq its.toArray n }={ cls:=.type "list",data:=.seq (its.set j u).toArray n }:=by simp[Obj.mapSeq]
def Inv.lst{p:Addr}(I:Inv X pins σ H s)(h:H p=some (.lst xs)):
  ∃(its:List Value)(n:Nat),Vals xs its/\s.heap.get? p=some { cls:=.type "list",data:=.seq its.toArray n }/\xs.length<=sizeLine:=by
 obtain⟨z,its,n,r,e⟩:=I.hok p _ h;exact⟨its,n,r,e,z⟩
def Inv.lstUpd{p:Addr}{ys:List V}{its':List Value}{n n':Nat}{f:Obj->Obj}(I:Inv X pins σ H s)(h:H p=some (.lst xs))(ho:s.heap.get? p=some { cls:=.type "list",data:=.seq its.toArray n })(hf:f { cls:=.type "list",data:=.seq its.toArray n }={ cls:=.type "list",data:=.seq its'.toArray n' })(r:Vals ys its')(hz:ys.length<=sizeLine)(t:Nat):
  Inv X pins σ (upd H p (.lst ys)) { s with heap:=s.heap.update p f,toks:=t }:=by
 have e:(s.heap.update p f).get? p=some { cls:=.type "list",data:=.seq its'.toArray n' }:=by rw[mf f ho (by rw[hf] <;> rfl),hf]
 refine I.write (x:=p) (e:=p) (by rw[h];trivial) (.inl rfl) (λb u hb q=>(Zt _ _ (sj hb)).trans q) ⟨_,e⟩ ?_;exact⟨hz,its',n',r,e⟩
def K2:V->V->V->Hp->(Hp->Prop)->Prop:=λo i v H Q=>∃p xs k j,o=.ref p/\i=.int k/\H p=some (.lst xs)/\ixN xs.length k=some j/\Q (upd H p (.lst (xs.set j v)))
def Br:IV X K2:=by
 intro pins s σ H o i v ov iv u Q I ro ri rv h;obtain⟨p,xs,k,j,rfl,rfl,hp,hj,q⟩:=h;cases ro;obtain⟨t,rfl⟩:=ri;obtain⟨its,n,r,ho,hz⟩:=I.lst hp;obtain⟨h1,h2,h3,h4⟩:=zh hj;have hl:=r.length;have hn:=mw;have I':Inv X pins σ (upd H p (.lst (xs.set j v))) { s with heap:=s.heap.update p (Obj.mapSeq (·.setIfInBounds j u)) }:=
  I.lstUpd hp ho (vo its n j u) (r.set rv j) (by rw[p6];exact hz) s.toks;by_cases h0:0<=k
 ·have hk:k.toNat=j:=by rw[seqIndex_of h0 h4]at h1;exact vC h1
  exact W.ki_setAt ho h0 (by omega) (by rw[wg,<- hl];exact h4) (by rw[hk];exact⟨_,I',q⟩)
 ·have hk:(k+(its.toArray.size:Int)).toNat=j:=by rw[seqIndex_neg (by omega) h3]at h1;rw[wg,<- hl];exact vC h1
  exact W.ki_setBack ho (by omega) (by rw[wg,<- hl];exact h3) (by omega) (by rw[hk];exact⟨_,I',q⟩)
def qG(lo hi:Option Int)(n:Nat):(sliceBounds lo hi none n).1=((HT.sIx n 0 lo:Nat):Int)/\(sliceBounds lo hi none n).2.1=((HT.sIx n n hi:Nat):Int)/\(sliceBounds lo hi none n).2.2=1:=by
 refine⟨?_,?_,rfl⟩
 ·cases lo with
  |none=>simp[sliceBounds,HT.sIx]
  |some i=>
   simp only[sliceBounds,HT.sIx,Option.getD_none,show(1:Int) > 0 by decide,t8];by_cases h:i<0;·simp only[h,t8] <;> omega
   ·simp only[h,t5] <;> omega
 ·cases hi with
  |none=>simp[sliceBounds,HT.sIx]
  |some i=>
   simp only[sliceBounds,HT.sIx,Option.getD_none,show(1:Int) > 0 by decide,t8];by_cases h:i<0;·simp only[h,t8] <;> omega
   ·simp only[h,t5] <;> omega
def nM(its:List Value)(lo hi:Option Int):slicePick its.toArray lo hi none=((its.drop (HT.sIx its.length 0 lo)).take (HT.sIx its.length its.length hi - HT.sIx its.length 0 lo)).toArray:=by obtain⟨h1,h2,h3⟩:=qG lo hi its.toArray.size;unfold slicePick;rw[h1,h2,h3];simp only[sliceRange_one,pick_run,wg] <;> rfl
def Ls(K:W.Frag):V->Option Int->Option Int->Hp->VK->Prop:=λx lo hi H Q=>∃a xs,x=.ref a/\SqL K H a xs/\∀p,H p=none->Q (.ref p) (upd H p (.lst (Cd xs lo hi)))
def D2:SlR X (Ls X.K):=by intro pins s σ H x v vl vu lo hi sl Q I rx hs pl pu h;obtain⟨a,xs,rfl,hx,q⟩:=h;cases rx;obtain⟨its,r,ht,hz⟩:=I.list hx;have hlen:=r.length;refine⟨"list",_,slot_list_getitem.lookup,ht.isList.typeIs,?_⟩;refine wpAny_getItem_list_slice ht.isList hs pl pu .none (by simp) ?_ (by rw[wg] <;> omega);rw[nM,<- hlen];refine⟨.ref s.heap.objs.size,_,I.laid (t':=s.toks) (o:=.lst (Cd xs lo hi)) (λb ob q=>z9 _ q) (z8 _) ?_,rfl,q _ (I.hok.fresh (z8 _))⟩;exact⟨w6 (kW xs lo hi) hz,_,0,(r.drop (HT.sIx xs.length 0 lo)).take (HT.sIx xs.length xs.length hi - HT.sIx xs.length 0 lo),v7 _ rfl⟩
def pN:jf X (.type "list") (λxs H Q=>∃p ys,xs=[.ref p]/\(SqL X.K H p ys\/SqT X.K H p ys)/\∀l,H l=none->Q (.ref l) (upd H l (.lst ys))):=by
 intro pins s σ H xs us Q I r h;obtain⟨p,ys,rfl,hq,q⟩:=h;obtain⟨u,rfl,rx⟩:=uX r;cases rx;have fin:∀(its:List Value),Vals ys its->ys.length<=sizeLine->∀(h':Heap)(c':Nat),(∀b o',s.heap.get? b=some o'->h'.get? b=some o')->
   h'.get? s.heap.objs.size=some { cls:=.type "list",dict:=none,data:=.seq its.toArray c',slots:=#[] }->EP X pins σ Q (.ref s.heap.objs.size) { s with heap:=h' }:=λits r' hz h' c' kp e=>
  ⟨.ref s.heap.objs.size,_,I.laid (t':=s.toks) kp (z8 _) (show ObjOk X.prog X.w _ h' _ (.lst ys) from⟨hz,its,c',r',e⟩),rfl,q _ (I.hok.fresh (z8 _))⟩
 rcases hq with hq|hq;·obtain⟨its,r',pl,hz⟩:=I.list hq;have hlen:=r'.length;obtain⟨o,ho,hc,n,hd⟩:=pl.isList;exact call_list_seq p (.inl rfl) ho hc hd (λh' c' kp e=>fin its r' hz h' c' kp e) (by simp only[wg] <;> omega)
 ·obtain⟨its,r',pl,hz⟩:=I.tuple hq;have hlen:=r'.length;obtain⟨o,ho,hc,n,hd⟩:=pl;exact call_list_seq p (.inr rfl) ho hc hd (λh' c' kp e=>fin its r' hz h' c' kp e) (by simp only[wg] <;> omega)
def oJ:jf X (.type "tuple") (λxs H Q=>∃p ys,xs=[.ref p]/\((SqL X.K H p ys/\∀l,H l=none->Q (.ref l) (upd H l (.tup ys)))\/(SqT X.K H p ys/\Q (.ref p) H))):=by
 intro pins s σ H xs us Q I r h;obtain⟨p,ys,rfl,h⟩:=h;obtain⟨u,rfl,rx⟩:=uX r;cases rx;rcases h with⟨hq,q⟩|⟨hq,q⟩
 ·obtain⟨its,r',pl,hz⟩:=I.list hq;have hlen:=r'.length;refine call_tuple_list pl.isList (λh' kp=>?_) (by simp only[wg] <;> omega);have I1:Inv X pins σ H { s with heap:=h' }:=I.kept (t':=s.toks) kp;have I2:Inv X pins σ (upd H h'.objs.size (.tup ys)) { s with heap:=h'.push { cls:=.type "tuple",data:=.seq its.toArray } }:=
   I1.laid (t':=s.toks) (λb o e=>z9 _ e) (z8 _) (show ObjOk X.prog X.w _ _ _ (.tup ys) from⟨hz,its,r',d3 _ _⟩);exact⟨.ref h'.objs.size,_,I2,rfl,q _ (I1.hok.fresh (z8 _))⟩
 ·obtain⟨its,r',pl,hz⟩:=I.tuple hq;exact call_tuple_same pl ⟨.ref p,H,I,rfl,q⟩
noncomputable def tyV(K:W.Frag)(T:String)(x:V)(H:Hp):Prop:=match x with
 |.str _=>T="str"
 |.int _=>T="int"
 |.ref p=>(T="list"/\∃xs,SqL K H p xs)\/(T="tuple"/\∃o,K.lookup p=some o/\o.cls=.type "tuple"/\o.dict=none)\/
   (T="dict"/\((∃kvs,H p=some (.dK kvs))\/∃kvs,H p=some (.dT kvs)))\/(T="set"/\∃S n,H p=some (.set S n))
 |_=>False
def IP{T:String}{x:V}{v:Value}(I:Inv X pins σ H s)(r:RelV x v)(ty:tyV X.K T x H):
  s.TypeIs v T/\∀a,v=.ref a->∃ob,s.heap.get? a=some ob/\ob.dict=none:=by
 cases x with
 |str z=>obtain⟨t,rfl⟩:=r;cases (show T="str" from ty);exact⟨typeIs_str s z t,λ_ e=>nomatch e⟩
 |int i=>obtain⟨t,rfl⟩:=r;cases (show T="int" from ty);exact⟨iF s i t,λ_ e=>nomatch e⟩
 |ref p=>
  cases r;rcases ty with⟨rfl,xs,hq⟩|⟨rfl,o,hk,hc,hd⟩|⟨rfl,hk⟩|⟨rfl,S,n,hk⟩
  ·obtain⟨its,_,pl,_⟩:=I.list hq;refine⟨pl.isList.typeIs,λa e=>?_⟩;cases e;obtain⟨o,n,e,c,hd,_⟩:=pl;exact⟨o,e,hd⟩
  ·refine⟨⟨o,I.kIn p o hk,hc⟩,λa e=>?_⟩;cases e;exact⟨o,I.kIn _ o hk,hd⟩
  ·have z:∃o,s.heap.get? p=some o/\o.ExactDict:=by
    rcases hk with⟨kvs,hk⟩|⟨kvs,hk⟩;·obtain⟨_,_,_,_,o,_,_,e,ex,_⟩:=I.hok p _ hk;exact⟨o,e,ex⟩
    ·obtain⟨_,_,_,_,o,_,_,e,ex,_⟩:=I.hok p _ hk;exact⟨o,e,ex⟩
   obtain⟨o,e,ex⟩:=z;refine⟨⟨o,e,ex.1⟩,λa e2=>?_⟩;cases e2;exact⟨o,e,ex.2.1⟩
  ·obtain⟨o,_,_,_,e,ex,_⟩:=I.hok p _ hk;refine⟨⟨o,e,ex.1⟩,λa e2=>?_⟩;cases e2;exact⟨o,e,ex.2.1⟩
 |_=>exact False.elim ty
def tBM(K:W.Frag)(T:String)(r:V->List V->Hp->VK->Prop)(to:TE)(t:TA):TE:=λσ H Q=>to σ H λx H1=>tyV K T x H1/\t σ H1 λxs H2=>r x xs H2 Q
variable{o e:Expr}{to:TE}{t:TA}{name:Str}{apos cpos:Pos}{T id:String}{r:V->List V->Hp->VK->Prop}
def wR(pa:PlainAttrs T)(slot:Slot T name id)(hty:typeOf (.builtin id)=pure (.type "method_descriptor"))(hm:MtR X id r)(ho:PE X o to)(ha:PA X (e::es) t)(hbase:attributeBase o name X.env (eval o X.env)=eval o X.env:=by rfl)(hfew:((backTo cpos (starEach (e::es) X.env)).all (λx=>!x.1) && (backToKw cpos (keywordEach [] X.env)).all (λx=>x.1.isSome)
 && decide ((e::es).length+([]:List Keyword).length+(if ([]:List Keyword).isEmpty then 0 else 1)<30))=true:=by rfl)(hline:(apos.endLine==cpos.line)=true:=by rfl)(hs:starEach (e::es) X.env=(false,eval e X.env)::starEach es X.env:=by rfl)(hplain:(backTo cpos (starEach es X.env)).any (·.1)=false:=by rfl):
  PE X (.Call (.Attribute o name apos) (e::es) [] cpos) (tBM X.K T r to t):=by
 intro pins s σ H Q I h;refine wpAny_Call_method_late hbase hfew hline rfl (thn (ho pins s σ H _ I h) λv s1 ⟨x,H1,I1,r1,ty,q1⟩=>?_);obtain⟨h1,h2⟩:=IP I1 r1 ty;refine⟨T,id,pa,slot,hty,h1,h2,?_⟩;have hA:=ha cpos pins s1 σ H1 _ I1 q1;rw[hs]at hA⊢;refine Calls.callWith_builtin (by show(false || (backTo cpos (starEach es X.env)).any (·.1))=false;rw[hplain] <;> rfl) (Calls.evalArgs_plain ?_);exact thn hA λus s2 ⟨vs,H2,I2,r2,q2⟩=>hm pins s2 σ H2 x vs v us Q I2 r1 r2 q2
/- xs.append(e),list.index on a module's tuple .. are MtR facts of 06m -/
end
noncomputable def MtM(X:Cx)(id:String)(r:V->List V->Hp->VK->Prop):Prop:=
 ∀(pins:List (Addr×Obj))(s:Shared)(σ:St)(H:Hp)(x:V)(xs:List V)(v:Value)(us:List Value)(Q:VK),Inv X pins σ H s->RelV x v->Vals xs us->r x xs H Q->
  wpAny (model X.prog X.w) X.A (call (.builtin id) (v::us)) (EP X pins σ Q) X.xe s
def Vals.one:∀{x:V}{us:List Value},Vals [x] us->∃u,us=[u]/\RelV x u
 |_,_,.cons r .nil=>⟨_,rfl,r⟩
def Vals.two:∀{x y:V}{us:List Value},Vals [x,y] us->∃u v,us=[u,v]/\RelV x u/\RelV y v
 |_,_,_,.cons r (.cons q .nil)=>⟨_,_,rfl,r,q⟩
theorem Vals.rep(h:Vals xs us):∀k:Nat,Vals (List.replicate k xs).flatten (List.replicate k us).flatten
 | 0=>.nil
 |k+1=>by rw[mP,mP,l5,l5];exact Vals.append h (Vals.rep h k)
theorem iQ(its:List Value):∀(k:Nat)(acc:List Value),
  List.foldl (λx1 x2=>x1++x2) acc.toArray (List.replicate k its.toArray)=(acc++(List.replicate k its).flatten).toArray
 | 0,acc=>by simp
 |k+1,acc=>by
  have e:acc.toArray++its.toArray=(acc++its).toArray:=by simp
  have e2:(acc++its)++(List.replicate k its).flatten=acc++(List.replicate (k+1) its).flatten:=by rw[mP,l5,j6]
  rw[<- e2,<- iQ its k (acc++its),<- e,mP,d8]
section
variable{l b:Addr}{ys zs:List V}
def Inv.lset{its':List Value}{n:Nat}{f:Array Value->Array Value}{t':Nat}(I:Inv X pins σ H s)(hH:H l=some (.lst xs))(e:s.heap.get? l=some { cls:=.type "list",data:=.seq its.toArray n })(hf:f its.toArray=its'.toArray)(hv:Vals ys its')(hz:ys.length<=sizeLine):
  Inv X pins σ (upd H l (.lst ys)) { s with heap:=s.heap.update l (Obj.mapSeq f),toks:=t' }:=by
 have q:=PySem.IsL.update e f;rw[hf]at q;refine I.write (x:=l) (e:=l) (by rw[hH];exact trivial) (.inl rfl) (λb' u hb hu=>(Zt s.heap (Obj.mapSeq f) (sj hb)).trans hu) ⟨_,q⟩ ?_;exact⟨hz,its',_,hv,q⟩
def Inv.lnew{t':Nat}(I:Inv X pins σ H s)(hv:Vals ys its)(hz:ys.length<=sizeLine):
  Inv X pins σ (upd H s.heap.objs.size (.lst ys)) { s with heap:=s.heap.push { cls:=.type "list",data:=.seq its.toArray },toks:=t' }:=
 I.laid (λ_ _ q=>z9 _ q) (z8 _) ⟨hz,its,0,hv,v7 _ rfl⟩
def Inv.fresh(I:Inv X pins σ H s):H s.heap.objs.size=none:=I.hok.fresh (z8 _)
def Inv.lstM(I:Inv X pins σ H s)(hH:H l=some (.lst xs)):xs.length<=sizeLine/\∃(its:List Value)(n:Nat),Vals xs its/\xs.length=its.length/\s.heap.get? l=some { cls:=.type "list",data:=.seq its.toArray n }:=by obtain⟨z,its,n,r,e⟩:=I.hok l _ hH;exact⟨z,its,n,r,r.length,e⟩
def nQ{n:Nat}(h:n<=sizeLine):Builtin.List.listTooLong n=false:=by unfold Builtin.List.listTooLong;exact t6 (by omega)
end
section
def wC:V->List V->Hp->VK->Prop:=λx vs H Q=>∃l xs y,x=.ref l/\vs=[y]/\H l=some (.lst xs)/\xs.length<sizeLine/\Q .non (upd H l (.lst (xs++[y])))
theorem iT:MtM X "list.append" wC:=by intro pins s σ H x vs v us Q I rx rv h;obtain⟨l,xs,y,rfl,rfl,hH,hz,q⟩:=h;cases rx;obtain⟨u,rfl,ru⟩:=rv.one;obtain⟨z,its,n,r,hl,e⟩:=I.lstM hH;refine lT F.slot_list_append ⟨_,e,rfl⟩ F.entry_list_append (F.args_list_append_2 _ _) (PySem.list_append l its.toArray n u (by rw[wg];omega)) ⟨e,?_⟩;refine⟨.non,_,I.lset (its':=its++[u]) hH e (by simp) (r.append (.cons ru .nil)) ?_,rfl,q⟩;rw[v6,Zu];omega
def D9:V->List V->Hp->VK->Prop:=λx vs H Q=>∃l b xs zs,x=.ref l/\vs=[.ref b]/\H l=some (.lst xs)/\H b=some (.lst zs)/\xs.length+zs.length<=sizeLine/\Q .non (upd H l (.lst (xs++zs)))
theorem xL:MtM X "list.extend" D9:=by
 intro pins s σ H x vs v us Q I rx rv h;obtain⟨l,b,xs,zs,rfl,rfl,hH,hB,hz,q⟩:=h;cases rx;obtain⟨u,rfl,ru⟩:=rv.one;cases ru;obtain⟨z,its,n,r,hl,e⟩:=I.lstM hH;obtain⟨z2,its2,n2,r2,hl2,e2⟩:=I.lstM hB;have hsz:its.toArray.size+its2.toArray.size<=sizeLine:=by rw[wg,wg];omega
 have hlong : ¬ (!its.toArray.isEmpty && Builtin.List.listTooLong (its.toArray.size+its2.toArray.size))=true:=by rw[nQ hsz,d9];exact sP
 refine lT F.slot_list_extend ⟨_,e,rfl⟩ F.entry_list_extend (F.args_list_extend_2 _ _)
  (AutoSeq1.list_extend_list_list_0 l its.toArray n b its2.toArray n2 hlong (by rw[wg];omega) (by omega)) ⟨e,e2,?_⟩;refine⟨.non,_,I.lset (its':=its++its2) hH e (by simp) (r.append r2) ?_,rfl,q⟩;rw[v6];omega
def Lq:R2:=λx y H Q=>∃l b xs zs,x=.ref l/\y=.ref b/\H l=some (.lst xs)/\H b=some (.lst zs)/\xs.length+zs.length<=sizeLine/\∀p,H p=none->Q (.ref p) (upd H p (.lst (xs++zs)))
def op_cat:OpR X (binaryOp .Add) Lq:=by
 intro pins s σ H x y v u Q I rx ry h;obtain⟨l,b,xs,zs,rfl,rfl,hH,hB,hz,q⟩:=h;cases rx;cases ry;obtain⟨z,its,n,r,hl,e⟩:=I.lstM hH;obtain⟨z2,its2,n2,r2,hl2,e2⟩:=I.lstM hB;refine PySem.P.add_list e e2 ?_ (by rw[wg,wg];omega);have ea:its.toArray++its2.toArray=(its++its2).toArray:=by simp
 rw[ea];exact⟨.ref _,_,I.lnew (t':=s.toks) (r.append r2) (by rw[v6];omega),rfl,q _ I.fresh⟩
def Ld:R2:=λx y H Q=>∃l k xs,x=.ref l/\y=.int k/\H l=some (.lst xs)/\-(2 ^ 63)<=k/\k<2 ^ 63/\xs.length * k.toNat<=sizeLine/\
 ∀p,H p=none->Q (.ref p) (upd H p (.lst (List.replicate k.toNat xs).flatten))
def om{α:Type}(xs:List α)(k:Nat):(List.replicate k xs).flatten.length=k * xs.length:=by
 induction k with
 |zero=>simp
 |succ k ih=>rw[mP,l5,v6,ih,Nat.succ_mul,Nat.add_comm]
theorem Fz:OpR X (binaryOp .Mult) Ld:=by
 intro pins s σ H x y v u Q I rx ry h;obtain⟨l,k,xs,rfl,rfl,hH,h1,h2,hz,q⟩:=h;cases rx;obtain⟨t,rfl⟩:=ry;obtain⟨z,its,n,r,hl,e⟩:=I.lstM hH;have hlen:its.toArray.size * k.toNat<=sizeLine:=by rw[wg,<- hl];exact hz
 have hcap : ¬ its.toArray.size * k.toNat > (2 ^ 63 - 1) / 8:=by
  have:(sizeLine:Nat)<=(2 ^ 63 - 1) / 8:=by decide
  omega
 have hfit : ¬ (!Builtin.List.listFitsIndex k)=true:=by rw[fitsIndex_both h1 h2];exact sP
 have hlong : ¬ Builtin.List.listTooLong (its.toArray.size * k.toNat)=true:=by rw[nQ hlen];exact sP
 have hnew:List.foldl (λx1 x2=>x1++x2) #[] (List.replicate (if its.toArray.isEmpty=true then 0 else k.toNat) its.toArray)=(List.replicate k.toNat its).flatten.toArray:=by
  have f0:∀m:Nat,List.foldl (λx1 x2=>x1++x2) #[] (List.replicate m its.toArray)=(List.replicate m its).flatten.toArray:=λm=>by have:=iQ its m [];rw[Z6]at this;exact this
  rw[f0];cases its with
  |nil=>simp
  |cons a r'=>rw[if_neg (by simp)]
 refine wpAny_binaryOp_repeat_ref (T:="list") (U:="int") (by decide) ⟨_,e,rfl⟩ (λs'=>iF s' k t) noFill_list_mul F.fills_int_mul Zv repeat_list F.slot_int_index.lookup
  (lT Zv (iF s k t) F.entry_int_rmul (F.args_int_rmul_2 _ _) (int___rmul___int_list k t l its.toArray n)
   ⟨e,rfl,⟨_,e,rfl⟩,lT F.slot_list_mul ⟨_,e,rfl⟩ F.entry_list_mul (F.args_list_mul_2 _ _) (AutoListH.list___mul___list_int_3 l its.toArray n k t hfit hcap hlong) ⟨e,?_⟩⟩);rw[hnew];exact⟨.ref _,_,I.lnew (t':=s.toks) (r.rep k.toNat) (by rw[om,Z7];exact hz),rfl,q _ I.fresh⟩
end
end L2
namespace Att
open PySem PySem.W PySem.Calls PyProof.Rows
def kP{P:Params}:∀(ns:List Int)(vs:List Value),WellAll P h vs (ns.map WData.int)->IntsAre vs ns:=by
 intro ns;induction ns with
 |nil=>intro vs w;rw[oR]at w;cases w;exact .nil
 |cons n ns ih=>
  intro vs w;rw[w8]at w;cases w with
  |cons a b=>cases a;exact .cons _ _ (ih _ b)
def wu{l:OpenLaw}{n:Nat}(hn:l.most=some n){P:Params}{args:List WData}{vals:List Value}(hpre:l.row.toRowW.claim.pre args=true)(hwl:WellAll P h vals args):
  ∃a vs ns,vals=[Value.ref a]/\args=[WData.list (ns.map WData.int)]/\h.get? a=some { cls:=.type "list",data:=.seq vs.toArray }/\IntsAre vs ns/\ns.length<=n:=by
 have hsh:WShape.hasAll [] args [.list .int]=true:=(pre_splitW hpre).1;have hc:l.pre.holds [] { args:=args }=true:=(pre_splitW hpre).2;obtain⟨d,r,rfl,h1,h2⟩:=hasAllW_cons hsh;obtain rfl:=hasAllW_nil h2;obtain⟨xs,rfl,h3⟩:=hasW_list h1;obtain⟨ns,rfl⟩:=items_int h3;have hlen:ns.length<=n:=by
  unfold OpenLaw.pre at hc;have h4:(WTm.not (.lt (.lit (.int (n:Int))) (.len (.arg 0)))).holds [] { args:=[.list (ns.map .int)] }=true:=by have h4:=(holds_andW hc).1;rw[hn]at h4;exact h4
  have h5:=condW_of h4 (w_not (w_lt w_lit (w_len_list (w_arg rfl))));rw[zV]at h5;refine iN λq=>?_;have q':(n:Int)<((ns.length:Nat):Int):=by omega
  first
   | (rw[sS q']at h5;exact absurd h5 (by decide))
   | (simp at h5;omega)
 cases hwl with
 |cons w1 w2=>
  cases w2;cases w1 with
  |list ho hall=>exact⟨_,_,ns,rfl,rfl,ho,kP ns _ hall,hlen⟩
def xq(l:OpenLaw)(args:List WData):l.row.toRowW.claim.post args (.bool true) args=true:=
 postW_of (r:=l.row.toRowW) (X:=(true==true))
  (show WShape.has [] (.bool true) .bool=true by first|rfl|decide|simp[WShape.has,WShape.arms,WShape.armsAll])
  (show(WTm.eq .res (.lit (.bool true))).value [] { args:=args,res:=some (.bool true),after:=args }=some (.bool (true==true)) from w_eq_bool (w_res rfl) w_lit) rfl
def attach_call{l:OpenLaw}{n:Nat}{q:Program}{XP:(Str->Option Value)->Heap->Prop}{YP:World->Heap->Prop}{d:DefRec}(hn:l.most=some n)(hdf:d.params.defaults=[])(call:∀(w:World)(s₀ s₁:Shared)(mg mb:Str->Option Value)(fa:Addr)(o:Obj)(pm cd doc:Value)(a:Addr)(vs:List Value)(ns:List Int),
 Ground q loose [] XP w s₀ mg mb s₁.heap->YP w s₁.heap->
 s₁.heap.get? fa=some o->o.data=.func (docDef d.name d.params d.body d.scope pm cd doc)->s₁.heap.CodeRec cd d.name->mg d.name=some (.ref fa)->
 s₁.heap.get? a=some { cls:=.type "list",data:=.seq vs.toArray }->IntsAre vs ns->ns.length<=n->s₁.gens = #[]->
 codeAny (model l.prog w) callerA (.call (.ref fa) ⟨[.ref a],[]⟩) (λr s'=>r=.ok (.ret (.bool true))/\OldK s₁.heap s'.heap/\s'.os=s₁.os/\AllBare s'.gens) s₁):
  WalkO q loose XP YP l.row.toRowW d [] (λf vs=>PySem.call f vs):=by
 intro w s₀ s₁ mg mb G Y fa o pm cd doc dV kV ho hd hcd hD hmg hg args vals as hpre hlay hrd hwl hlo;obtain rfl:dV=.none:=Dflts.none hD hdf;obtain rfl:kV=.none:=Dflts.noKw hD;obtain⟨a,vs,ns,rfl,rfl,hobj,hints,hlen⟩:=wu hn hpre hwl;refine enter_call (j7 (call w s₀ s₁ mg mb fa o pm cd doc a vs ns G Y ho (fd_plain hd) hcd hmg hobj hints hlen hg) λr s' hq=>?_);obtain⟨rfl,h2,h3,h4⟩:=hq;exact⟨.inl ⟨.bool true,.bool true,[],rfl,λ_=>rfl,.bool true,xq l _,λ_=>⟨List.Pairwise.nil,λ_ hm=>(nomatch hm)⟩⟩,h2,h3,h4⟩
section
variable{prog:Program}{w:World}{A:Around}{K:Frag}
def K5(h:Heap)(L d:Addr):List (Addr×Obj):=(List.range h.objs.size).filterMap λa=>if a=L\/a=d then none else (h.get? a).map λo=>(a,o)
end
end Att
namespace L2
open PySem PySem.Spec PyProof.Rows
theorem qa:∀{vs:List Value}{ns:List Int},IntsAre vs ns->Vals (ns.map V.int) vs
 |_,_,.nil=>.nil
 |_,_,.cons n t h=>.cons ⟨t,rfl⟩ (qa h)
def Jd(H:Hp):Prop:=∀b,H b=none\/∃o xs,H b=some (.frz o (.lst xs))
def A0{w:World}{K:W.Frag}{mg mb:Str->Option Value}{fa:Addr}{sp:Sp}{s₁:Shared}{vs:List Value}{ns:List Int}(KX:K.In s₁.heap)(hns:s₁.heap.Ns mainGlobals mg)(hb:s₁.heap.Ns builtinsNs mb)(hbb:∀x:Str,x≠"__name__"->mb x=bootBuiltins x)(hlim:s₁.heap.NoLimit)(hg:s₁.gens = #[])(ha:s₁.heap.get? a=some { cls:=.type "list",data:=.seq vs.toArray })(hi:IntsAre vs ns)(hl:ns.length<=sizeLine)(hr:Room k callerA)(F:∀base:Heap,K.In base->base.Ns mainGlobals mg->FnOk P w K mg base CX k fa fd [x] sp)(hbind:∀(s:Shared)(u:Value),BindsTo s fd ⟨[u],[]⟩ [(x,u)])(hsp:∀H:Hp,Jd H->SqL K H a (ns.map V.int)->sp [.ref a] H (λv _=>v=.bl true) λ_ _ _=>False)(hCX:∀H e s',CX [] H s₁ (λ_ _ _=>False) e s'->False):
  codeAny (model P w) callerA (.call (.ref fa) ⟨[.ref a],[]⟩) (λr s'=>r=.ok (.ret (.bool true))/\OldK s₁.heap s'.heap/\s'.os=s₁.os/\AllBare s'.gens) s₁:=by
 have rv:=qa hi;have lenV:=hi.length;have core:∀H:Hp,Jd H->SqL K H a (ns.map V.int)->HOk P w H s₁.heap->(∀b,H b≠none->b=a)->(H a≠none->K.lookup a=none)->
   codeAny (model P w) callerA (.call (.ref fa) ⟨[.ref a],[]⟩) (λr s'=>r=.ok (.ret (.bool true))/\OldK s₁.heap s'.heap/\s'.os=s₁.os/\AllBare s'.gens) s₁:=by
  intro H hO hS hok hA hK;have base_of:∀{b:Addr}{o:Obj},s₁.heap.get? b=some o->H b=none->(zA s₁.heap H).get? b=some o:=λe n=>Bj e n;have noA:∀{b:Addr}{o:Obj}{es:Array DictEntry}{ep:Nat},s₁.heap.get? b=some o->o.data=.dict es ep->H b=none:=λ{b o es ep} e d=>by
   cases q:H b with
   |none=>rfl
   |some u=>have e':b=a:=hA b (by rw[q];simp);subst e';rw[ha]at e;cases e;have d':Data.seq vs.toArray _=Data.dict es ep:=d;cases d'
  have nsK:∀{b:Addr}{m:Str->Option Value},s₁.heap.Ns b m->(zA s₁.heap H).Ns b m:=λ{b m} ⟨o,es,ep,e,d,r⟩=>⟨o,es,ep,base_of e (noA e d),d,r⟩
  have hKb:K.In (zA s₁.heap H):=λb o e=>base_of (KX b o e) (by
   cases q:H b with
   |none=>rfl
   |some u=>have e':b=a:=hA b (by rw[q];simp);subst e';rw[hK (by rw[q];simp)]at e;cases e);have hM:Mod K mg (zA s₁.heap H):=⟨hKb,nsK hns,⟨mb,nsK hb,hbb⟩,let⟨mc,h1,h2⟩:=hlim;⟨mc,nsK h1,h2⟩⟩
  have e0:Env0 P w K mg (zA s₁.heap H) callerA [] s₁ H:=⟨rfl,hM,λb o e=>Du e,Nat.le_of_eq (yo _ _),trivial,λb hb=>absurd (show b∈([]:List Addr) from hb) (by simp),hok,.of_eq hg,zm _ _⟩
  refine j7 ((F _ hKb (nsK hns)).run callerA [] s₁ H ⟨[.ref a],[]⟩ [.ref a] [.ref a] _ _ hr e0 (hbind s₁ (.ref a)) (.cons rfl .nil) (hsp H hO hS)) λr s' h=>?_;cases r with
  |error e=>exact(hCX H e s' h).elim
  |ok fl=>
   cases fl with
   |next=>exact False.elim h
   |brk=>exact False.elim h
   |cont=>exact False.elim h
   |ret u=>
    obtain⟨v,H',os,bare,un,hok',r',q⟩:=h;have q':v=.bl true:=q;subst q';obtain rfl:u=Value.bool true:=r';refine⟨rfl,OldK.of_keep λb o e=>?_,os,bare⟩;cases q:H b with
    |none=>exact un.keep b o e q (by intro z;exact absurd (show b∈([]:List Addr) from z) (by simp)) (by simp)
    |some u=>
     rcases hO b with z|⟨ob,xs,z⟩;·rw[q]at z;cases z
     ·have z2:=un.frzs b ob _ z;obtain⟨e1,_⟩:=hok b _ z;obtain⟨e2,_⟩:=hok' b _ z2;rw[e]at e1;cases e1;exact e2
 cases hk:K.lookup a with
 |some o=>have e:=KX a o hk;rw[ha]at e;cases e;refine core (λ_=>none) (λ_=>.inl rfl) (.inr ⟨_,vs.toArray,_,hk,rfl,rfl,rfl,by rw[wg,lenV];exact hl,by simpa using rv⟩) (λb u z=>by have z':(none:Option HO)=some u:=z;cases z') (λb z=>absurd rfl z) λz=>absurd rfl z
 |none=>
  refine core (λb=>if b=a then some (.frz { cls:=.type "list",data:=.seq vs.toArray } (.lst (ns.map V.int)))else none) (λb=>?_) (.inl (.inr ⟨{ cls:=.type "list",data:=.seq vs.toArray },if_pos rfl⟩)) (λb u z=>?_) (λb z=>?_) λ_=>hk
  ·by_cases hb:b=a;·exact .inr ⟨_,_,if_pos hb⟩
   ·exact .inl (if_neg hb)
  ·by_cases hb:b=a;·have z':=(if_pos hb).symm.trans z;cases z';subst hb;exact⟨ha,by rw[zV];exact hl,vs,_,rv,ha⟩
   ·have z':=(if_neg hb).symm.trans z;cases z'
  ·by_cases hb:b=a;·exact hb
   ·exact absurd (if_neg hb) z
abbrev KOf{K:W.Frag}{h:Heap}(_:K.In h):W.Frag:=K
def zq{l:W.OpenLaw}{n:Nat}{q:Program}{XP:(Str->Option Value)->Heap->Prop}{YP:World->Heap->Prop}{d:DefRec}{K:Params->W.Frag}{CX:World->CXT}{sp:World->Sp}(hn:l.most=some n)(hn2:n<=sizeLine)(hdf:d.params.defaults=[])(hr:Room k callerA)(hY:∀(w:World)(h:Heap),YP w h->(K w.params).In h)(F:∀(w:World)(mg:Str->Option Value)(fa:Addr)(h:Heap),(K w.params).In h->h.Ns mainGlobals mg->mg d.name=some (.ref fa)->
 ∃fd:FuncData,(∀(s:Shared)(u:Value),BindsTo s fd ⟨[u],[]⟩ [(x,u)])/\
 ∀base:Heap,(K w.params).In base->base.Ns mainGlobals mg->FnOk l.prog w (K w.params) mg base (CX w) k fa fd [x] (sp w))(hsp:∀(w:World)(H:Hp)(a:Addr)(ns:List Int),ns.length<=n->Jd H->SqL (K w.params) H a (ns.map V.int)->sp w [.ref a] H (λv _=>v=.bl true) λ_ _ _=>False)(hCX:∀(w:World)(H:Hp)(s:Shared)(e:Value)(s':Shared),CX w [] H s (λ_ _ _=>False) e s'->False):
  W.WalkO q loose XP YP l.row.toRowW d [] (λf vs=>PySem.call f vs):=by
 refine Att.attach_call hn hdf λw s₀ s₁ mg mb fa o pm cd doc a vs ns G Y ho hd hcd hmg hobj hints hlen hg=>?_;have KX:=hY w _ Y;obtain⟨fd,hb,hF⟩:=F w mg fa _ KX G.T.g hmg;exact A0 KX G.T.g G.T.b G.T.builtins G.T.nolimit hg hobj hints (w6 hlen hn2) hr hF hb (λH hO hS=>hsp w H a ns hlen hO hS) λH e s'=>hCX w H s₁ e s'
end L2
/- THE LAST THEOREM (shape;LID,My.* are yours):
  My.Adr: a structure of the addresses that your layer names (classes,functions);My.Txt K t: a structure (Prop) of the equations over K;
  My.txt_mk:{K} {implicit addresses ..} (e1:nsIn K mainGlobals "law"=some (some (.ref f))) (e2:K.lookup f=some ⟨oc,od,.func (fnOf "law" "law" params body scope dV kV doc pm an cdv ct),sl⟩) (e3:codeIn K cdv "law"=true) .. : ∃ t,My.Txt K t
set_option maxRecDepth 100000 in
set_option maxHeartbeats 0 in
def PySem.Challenge.cw_LID_holds : PySem.Challenge.rw_LID.Holds := by
 w_on;o_law;k_head;(case hw=>w_witness2)
 k_fill
 refine L2.zq (l:=PySem.Challenge.rw_LID) (n:=63) (k:=40) (x:="script") (CX:=λw=>..) (sp:=λ_=>My.sp_law) rfl (by decide) rfl ⟨rfl,by decide,by decide⟩ (λw h Y=>PySem.W.kIn_of Y) ?F ?S ?C
 case F=>
  intro w mg fa h KX G hmg;have T:∃t,My.Txt (L2.KOf KX) t:=by
   dsimp only[L2.KOf]
   refine' My.txt_mk ?e1 ?e2 ?e3 ..
   (case e1=>PySem.W.k_is)
   (case e2=>PySem.W.k_is)
   ..
  obtain⟨t,T⟩:=T;have e0:=hmg.symm.trans (lY KX G T.law);cases e0;exact⟨_,λs u=>.of_eq rfl,λbase kb nb=>My.law_fn T kb nb⟩
 case S=>exact λw H a ns hl hO hS=>..
 case C=>exact ..
(the tactic k_is has no namespace: write k_is) -/
namespace L2
open PySem PySem.Spec PyProof.Rows
def gY(s:Stmt):Arguments:=match s with
 |.FunctionDef _ a _ _ _ _ _ _ _ _=>a
 |_=>{ posonlyargs:=[],args:=[],vararg:=none,kwonlyargs:=[],kw_defaults:=[],kwarg:=none,defaults:=[] }
def bu(s:Stmt):List Stmt:=match s with
 |.FunctionDef _ _ b _ _ _ _ _ _ _=>b
 |_=>[]
def ah(s:Stmt):Scope:=match s with
 |.FunctionDef _ _ _ _ _ _ sc _ _ _=>sc
 |_=>{ kind:=.function,names:=[],isGenerator:=false,isCoroutine:=false }
structure Fun(K:PySem.W.Frag)(x qual:Str)(st:Stmt)(f:Addr)(fd:FuncData):Prop where
 ex:∃(oc:Value)(od:Option Addr)(kV doc pm:Value)(an:Option Addr)(cdv ct:Value)(osl:Array (Option Value)),
  fd=PySem.W.fnOf x qual (gY st) (bu st) (ah st) .none kV doc pm an cdv ct/\K.lookup f=some ⟨oc,od,.func fd,osl⟩/\PySem.W.codeIn K cdv qual=true
 kp:PySem.W.keepIn K (.ref f)=true
section
variable{w:World}{K:PySem.W.Frag}{mg:Str->Option Value}{base:Heap}
def Fun.binds{st:Stmt}(F:Fun K x qual st f fd)(h:∀(kV doc pm:Value)(an:Option Addr)(cdv ct:Value)(us:List Value),us.length=ps.length->bindArgs (PySem.W.fnOf x qual (gY st) (bu st) (ah st) .none kV doc pm an cdv ct) ⟨us,[]⟩=pure (ps.zip us)):Binds K fd ps []:=by
 obtain⟨oc,od,kV,doc,pm,an,cdv,ct,osl,rfl,lk,hcd⟩:=F.ex;exact .all (h kV doc pm an cdv ct)
def HB{st:Stmt}{oc:Value}{an:Option Addr}{kV doc pm ct:Value}(l:K.lookup f=some ⟨oc,od,.func (PySem.W.fnOf x qual (gY st) (bu st) (ah st) .none kV doc pm an cdv ct),osl⟩)(c:PySem.W.codeIn K cdv qual=true)(k:PySem.W.keepIn K (.ref f)=true):Fun K x qual st f (PySem.W.fnOf x qual (gY st) (bu st) (ah st) .none kV doc pm an cdv ct):=⟨⟨oc,od,kV,doc,pm,an,cdv,ct,osl,rfl,l,c⟩,k⟩
end
def Same(H H':Hp):Prop:=∀b o,H b=some o->H' b=some o
def Same.refl(H:Hp):Same H H:=λ_ _ h=>h
def Same.trans{H1 H2:Hp}(a:Same H H1)(b:Same H1 H2):Same H H2:=λc o h=>b c o (a c o h)
def Same.free(e:Same H H'){l:Addr}(h:H' l=Option.none):H l=Option.none:=by
 cases q:H l with
 |none=>rfl
 |some o=>rw[e l o q]at h;cases h
def Same.seq{K:PySem.W.Frag}(e:Same H H')(h:SqL K H a xs):SqL K H' a xs:=by
 rcases h with (h|⟨o,h⟩)|h;·exact .inl (.inl (e _ _ h))
 ·exact .inl (.inr ⟨o,e _ _ h⟩)
 ·exact .inr h
end L2
namespace L2
open PySem PySem.Spec PyProof.Rows
open PySem.MeetsSeq PySem.MeetsSeq2 PySem.MeetsSeq3
section
variable{prog:Program}{w:World}{A:Around}
theorem Em{b:Bool}{Q:Int->Shared->Prop}(h:Q (if b then 1 else 0) { s with toks:=s.toks+1 }):wpAny (model prog w) A (pyHash (.bool b)) Q E s:=by
 have t:s.TypeIs (.bool b) "bool":=rfl;show wpAny _ _ (pyHashByItsType (.bool b)) Q E s;have c:cRoomFor "hash" [.bool b]=pure ():=rfl;unfold pyHashByItsType;rw[c];refine z5 (z7 ?_);refine z5 (j8 t F.slot_bool_hash.lookup ?_);simp only[beq_builtin_none,rW,t5];refine z5 (j8 t F.slot_bool_hash.lookup ?_);simp only[Option.isNone_some,rW,t5];refine z5 (YC t F.slot_bool_hash (r9 F.slot_bool_hash t F.entry_int_hash ?_ (F.args_int_hash_1 _)));unfold Builtin.«int.__hash__»;cases b
 ·wp_walk
  exact⟨.int 0 _,rfl,z7 h⟩
 ·wp_walk
  exact⟨.int 1 _,rfl,z7 h⟩
noncomputable def pJ(prog:Program)(w:World):PySem.KeyKind prog w Bool where
 is:=λk v=>match v with
  |.bool b=>b==k
  |_=>false
 hash:=λk=>if k then 1 else 0
 inj:=λv a b ha hb=>by cases v <;> simp_all
 byValue:=λk v h=>by cases v <;> simp_all[carriedByValue]
 pyHash:=λ{A E s k v Q} hv h=>by cases v <;> simp_all;exact Em h
 eqBool:=λ{A E s a b u v Q} hu hv h=>by
  cases u <;> simp_all;cases v <;> simp_all;have e:decide (a=b)=(a==b):=by cases a <;> cases b <;> rfl
  rw[e]at h;exact PySem.SeqAt.EqAt.bool_bool a b prog w E Q h
 «strs»:=λk x t v h=>by simp at h
end
abbrev DX:=List (List Bool×Addr×V)
abbrev DU:=List (List Bool×Addr×Value)
def qm(bs:List Bool):Int:=reduceHash (Builtin.Tuple.tupleHashOf (bs.map λk=>if k then 1 else 0))
abbrev DRel:DX->DU->Prop:=Paired λp q=>p.1=q.1/\p.2.1=q.2.1/\RelV p.2.2 q.2.2
def DQ(a:Addr)(o:Obj)(xs:DX):Heap->Prop:=λh=>h.get? a=some o/\xs.length<=sizeLine/\(a==sysModules)=false/\o.ExactDict/\∃us:DU,DRel xs us/\
 ∃es ep,o.data=.dict es ep/\es.toList=us.map (λx=>⟨qm x.1,.ref x.2.1,x.2.2⟩)/\(us.map (·.1)).Nodup
def DctO(a:Addr)(o:Obj)(xs:DX):HO:=.ext (DQ a o xs)
def DctO.ok{w:World}{o:Obj}{xs:DX}(d:DQ a o xs h):ObjOk P w H h a (DctO a o xs):=
 ⟨d,⟨o,d.1⟩,λ_ _ p st=>⟨st o p.1,p.2⟩⟩
def gm(K:PySem.W.Frag)(H:Hp)(xs:DX):Prop:=∀x∈xs,SqT K H x.2.1 (x.1.map V.bl)
def lQ(xs:DX)(k:List Bool):Option V:=(xs.find? λx=>decide (x.1=k)).map (·.2.2)
theorem tP{P:Program}{w:World}:∀{bs:List Bool}{us:List Value},Vals (bs.map V.bl) us->ItemsAre (pJ P w) bs us
 | [],_,r=>by rw[oR]at r;cases r;exact .nil
 |b::bs,_,r=>by
  rw[w8]at r;cases r with
  |cons h t=>
   obtain rfl:=(show _=Value.bool b from h)
   exact .cons (by simp[pJ]) (tP t)
theorem DRel.find{k:List Bool}:∀{xs:DX}{us:DU},DRel xs us->RelO (lQ xs k) ((atKey us k).map (·.2))
 |_,_,.nil=>trivial
 |x::xs,u::us,.cons ⟨h1,h2,h3⟩ t=>by
  have ih:=DRel.find (k:=k) t;unfold lQ atKey at ih⊢;by_cases e:x.1=k;·have e':u.1=k:=h1▸e;simp only[Zw,e,e',decide_true,q8];exact h3
  ·have e' : ¬ u.1=k:=λz=>e (h1.trans z);simp only[Zw,e,e',Zx];exact ih
def DRel.isSome{k:List Bool}{xs:DX}{us:DU}(r:DRel xs us):(lQ xs k).isSome=(atKey us k).isSome:=by have h:=r.find (k:=k);revert h;cases lQ xs k <;> cases atKey us k <;> intro h <;> first|rfl|exact h.elim
section
variable{o:Obj}{xs:DX}{k:List Bool}{A:Around}
def mF(I:Inv X pins σ H s)(h:SqT X.K H q (k.map V.bl)):(tupleKind (pJ X.prog X.w)).is s.heap k q:=by obtain⟨its,rv,⟨o,h1,h2,n,h3⟩,_⟩:=I.tuple h;exact⟨o,its.toArray,n,h1,h2,h3,by simpa using tP rv⟩
def mz(I:Inv X pins σ H s)(e:H a=some (DctO a o xs))(kk:gm X.K H xs):xs.length<=sizeLine/\(a==sysModules)=false/\∃us:DU,DRel xs us/\s.heap.DictOfH (tupleKind (pJ X.prog X.w)) a us:=by
 obtain⟨⟨h1,z1,z2,h2,us,r,es,ep,h3,h4,h5⟩,_⟩:=(show ObjOk X.prog X.w H s.heap a (DctO a o xs) from I.hok a _ e)
 refine⟨z1,z2,us,r,o,es,ep,h1,h2,h3,h4,λu hu=>?_,h5⟩;have all:∀{l:DX}{m:DU},DRel l m->(∀x∈l,SqT X.K H x.2.1 (x.1.map V.bl))->∀u∈m,(tupleKind (pJ X.prog X.w)).is s.heap u.1 u.2.1:=by
  intro l m q;induction q with
  |nil=>intro _ u hu;exact nomatch hu
  | @cons x y ps qs hq t ih=>
   intro hl u hu;rcases y9.mp hu with z|hu
   ·subst z;have:=mF I (hl x (w5 ..));rw[hq.1,hq.2.1]at this;exact this
   ·exact ih (λx hx=>hl x (w9 _ hx)) u hu
 exact all r kk u hu
def Ej{Q:Value->Shared->Prop}(hu:A.units+1<cLine)(I:Inv X pins σ H s)(e:H a=some (DctO a o xs))(kk:gm X.K H xs)(hk:SqT X.K H q (k.map V.bl))(hv:lQ xs k=some v)(h:∀w' s',Inv X pins σ H s'->RelV v w'->Q w' s'):
  wpAny (model X.prog X.w) A (getItem (.ref a) (.ref q)) Q E s:=by
 obtain⟨z,hd,us,rel,dd⟩:=mz I e kk;obtain⟨w',hw,rw'⟩:=RelO.some_of (v:=v) (o:=(atKey us k).map (·.2)) (by rw[<- hv];exact rel.find);obtain⟨p,hp,hp2⟩:=Option.map_eq_some_iff.mp hw;refine wpAny_getItem_heap (Zy hu) (mF I hk) dd hp ?_;rw[hp2];exact h w' _ (I.tok _) rw'
def IA{Q:Value->Shared->Prop}(hu:A.units+1<cLine)(I:Inv X pins σ H s)(e:H a=some (DctO a o xs))(kk:gm X.K H xs)(hk:SqT X.K H q (k.map V.bl))(h:∀s',Inv X pins σ H s'->Q (.bool (lQ xs k).isSome) s'):
  wpAny (model X.prog X.w) A (compareOp .In (.ref q) (.ref a)) Q E s:=by
 obtain⟨z,hd,us,rel,dd⟩:=mz I e kk;refine wpAny_in_heap (Zy hu) (mF I hk) hd dd ?_;rw[<- rel.isSome];exact h _ (I.tok _)
def xg{Q:Value->Shared->Prop}(hu:A.units+1<cLine)(I:Inv X pins σ H s)(e:H a=some (DctO a o xs))(kk:gm X.K H xs)(hk:SqT X.K H q (k.map V.bl))(h:∀s',Inv X pins σ H s'->Q (.bool (!(lQ xs k).isSome)) s'):
  wpAny (model X.prog X.w) A (compareOp .NotIn (.ref q) (.ref a)) Q E s:=by
 obtain⟨z,hd,us,rel,dd⟩:=mz I e kk;refine wpAny_notIn_heap (Zy hu) (mF I hk) hd dd ?_;rw[<- rel.isSome];exact h _ (I.tok _)
def Al(xs:DX)(k:List Bool)(q:Addr)(v:V):DX:=if (lQ xs k).isSome then xs.map (λx=>if x.1=k then (x.1,x.2.1,v)else x)else xs++[(k,q,v)]
theorem DRel.snoc:∀{xs:DX}{us:DU}{x:List Bool×Addr×V}{u:List Bool×Addr×Value},DRel xs us->(x.1=u.1/\x.2.1=u.2.1/\RelV x.2.2 u.2.2)->DRel (xs++[x]) (us++[u])
 |_,_,_,_,.nil,h=>.cons h .nil
 |_,_,_,_,.cons a t,h=>.cons a (DRel.snoc t h)
def DRel.put{xs:DX}{us:DU}{u:Value}(r:DRel xs us)(q:Addr)(rv:RelV v u):DRel (Al xs k q v) (storedH us k q u):=by
 have e:(lQ xs k).isSome=(atKey us k).isSome:=r.isSome;unfold Al storedH;rw[e];by_cases z:(atKey us k).isSome=true
 ·rw[if_pos z,if_pos z];clear e z;induction r with
  |nil=>exact .nil
  | @cons x y ps qs h t ih=>
   obtain⟨h1,h2,h3⟩:=h;rw[w8,w8];refine .cons ?_ ih;unfold putAt;by_cases z:x.1=k;·rw[if_pos z,if_pos (h1▸z)];exact⟨h1,h2,rv⟩
   ·rw[if_neg z,if_neg (λy=>z (h1.trans y))];exact⟨h1,h2,h3⟩
 ·rw[if_neg z,if_neg z];exact DRel.snoc r ⟨rfl,rfl,rv⟩
def Ag(xs:DX)(k:List Bool)(q:Addr)(v:V):(Al xs k q v).length<=xs.length+1:=by unfold Al;split <;> simp
def D3{u:Value}{Q:Unit->Shared->Prop}(hu:A.units+1<cLine)(I:Inv X pins σ H s)(e:H a=some (DctO a o xs))(kk:gm X.K H xs)(hk:SqT X.K H q (k.map V.bl))(hl:xs.length<sizeLine)(rv:RelV v u)(h:∀o' s',Inv X pins σ (upd H a (DctO a o' (Al xs k q v))) s'->Q () s'):
  wpAny (model X.prog X.w) A (setItem (.ref a) (.ref q) u) Q E s:=by
 obtain⟨z,hd,us,rel,dd⟩:=mz I e kk;have hz:us.length<=sizeLine:=by rw[<- Z1 rel];exact z
 refine wpAny_setItem_heap (hsz:=hz) (Zy hu) (mF I hk) dd λh' dd' hs=>?_;obtain⟨o',es,ep,h1,h2,h3,h4,_,h5⟩:=dd';refine h o' _ (I.write (x:=a) (e:=a) (by rw[e];trivial) (.inl rfl) (λb y hb z=>(hs.2 b hb).trans z) ⟨o',h1⟩ (DctO.ok ⟨h1,?_,hd,h2,_,rel.put q rv,es,ep,h3,h4,h5⟩));have:=Ag xs k q v;omega
end
end L2
namespace L2
open PySem PySem.Spec PyProof.Rows
def Inv.big0(I:Inv X pins σ H s):(s.heap.objs.size==sysModules)=false:=by have h:mainGlobals<s.heap.objs.size:=(I.mod.glob.keeps I.bk).lt;exact p9.mpr λe=>by rw[e]at h;exact absurd h (by decide)
section
def Jg:TE:=λ_ H Q=>∀p o,H p=none->Q (.ref p) (upd H p (DctO p o []))
def EM:PE X (.Dict [] [] pos) Jg:=λpins s σ H Q I h=>wpAny_Dict_empty ⟨.ref s.heap.objs.size,_,I.laid (t':=s.toks) (λ_ _ q=>z9 _ q) (z8 _) (DctO.ok ⟨v7 _ rfl,v8 _,I.big0,⟨rfl,rfl,rfl⟩,[],.nil,#[],0,rfl,rfl,iO⟩),rfl,h _ _ (I.hok.fresh (z8 _))⟩
def Ke(tk tv:TE)(K:PySem.W.Frag):TE:=λσ H Q=>∀p o,H p=none->tk σ (upd H p (DctO p o [])) λx H1=>tv σ H1 λy H2=>H2 p=some (DctO p o [])/\∃q bs,x=.ref q/\SqT K H2 q (bs.map V.bl)/\∀o',Q (.ref p) (upd H2 p (DctO p o' [(bs,q,y)]))
def DL{k v:Expr}{tk tv:TE}(hu:X.A.units+1<cLine)(hk:PE X k tk)(hv:PE X v tv):PE X (.Dict [some k] [v] pos) (Ke tk tv X.K):=λpins s σ H Q I h=>by have hn:=I.hok.fresh (z8 s.heap.objs.size);have I1:Inv X pins σ (upd H s.heap.objs.size (DctO s.heap.objs.size { cls:=.type "dict",data:=.dict #[] } [])) { s with heap:=s.heap.push { cls:=.type "dict",data:=.dict #[] } }:=I.laid (t':=s.toks) (λ_ _ q=>z9 _ q) (z8 _) (DctO.ok ⟨v7 _ rfl,v8 _,I.big0,⟨rfl,rfl,rfl⟩,[],.nil,#[],0,rfl,rfl,iO⟩);refine wpAny_Dict_any rfl rfl (by simp) (by show 1<=15;decide) (pairTrees_cons_walk (thn (hk pins _ σ _ _ I1 (h _ _ hn)) λu s1 ⟨x,H1,I2,rx,q1⟩=>thn (hv pins s1 σ H1 _ I2 q1) λw s2 ⟨y,H2,I3,ry,hp,q,bs,ex,hq,q2⟩=>pairTrees_nil_walk ?_));subst ex;cases rx;obtain⟨z,hd,us,rel,dd⟩:=mz I3 hp (λ_ hx=>nomatch hx);cases rel;unfold storeAll;rw[Y8];refine z5 (z5 (wpAny_dictSet_heap (hsz:=v8 _) (show X.A.units<cLine by omega) (mF I3 hq) dd λh' dd' hs=>?_));refine z7 ?_;show wpAny _ _ (forIn [] PUnit.unit _) _ _ _;rw[List.forIn_nil];obtain⟨o,es,ep,h1,h2,h3,h4,_,h5⟩:=dd';refine z7 ⟨.ref _,_,?_,rfl,q2 o⟩;exact I3.write (x:=s.heap.objs.size) (e:=s.heap.objs.size) (by rw[hp];trivial) (.inl rfl) (λb y hb z=>(hs.2 b hb).trans z) ⟨o,h1⟩ (DctO.ok ⟨h1,by show 1<=sizeLine;decide,hd,h2,_,.cons ⟨rfl,rfl,ry⟩ .nil,es,ep,h3,h4,h5⟩)
end
def Aa:∀a b c d:Bool,qm [a,b]=qm [c,d]->[a,b]=[c,d]:=by decide +kernel
theorem BZ{α:Type}{f:α->Int}{c:Int}:∀{l:List α},(l.map f).Nodup->(l.filter λx=>f x==c).length<=1
 | [],_=>by simp
 |a::l,h=>by
  rw[w8,qZ]at h;by_cases e:f a=c;·have z:(l.filter λx=>f x==c)=[]:=List.filter_eq_nil_iff.2 λx hx q=>h.1 (s8.2 ⟨x,hx,by rw[e];exact j5 q⟩);rw[List.filter_cons_of_pos (by simp[e]),z];simp
  ·rw[List.filter_cons_of_neg (by simp[e])];exact BZ h.2
def K4(xs:DX):Prop:=∀x∈xs,∃a b,x.1=[a,b]
theorem qC:∀{us:DU},(∀u∈us,∃a b,u.1=[a,b])->(us.map (·.1)).Nodup->(us.map λu=>qm u.1).Nodup
 | [],_,_=>iO
 |u::us,h2,hn=>by rw[w8,qZ]at hn⊢;refine⟨λhm=>hn.1 ?_,qC (λx hx=>h2 x (w9 _ hx)) hn.2⟩;obtain⟨y,hy,e⟩:=s8.1 hm;obtain⟨a,b,e1⟩:=h2 u (w5 ..);obtain⟨c,d,e2⟩:=h2 y (w9 _ hy);rw[e1,e2]at e;exact s8.2 ⟨y,hy,by rw[e1,e2];exact Aa _ _ _ _ e⟩
theorem DRel.twos:∀{xs:DX}{us:DU},DRel xs us->K4 xs->∀u∈us,∃a b,u.1=[a,b]
 |_,_,.nil,_,u,hu=>nomatch hu
 |x::xs,y::us,.cons h t,h2,u,hu=>by
  rcases y9.1 hu with rfl|hu;·obtain⟨a,b,e⟩:=h2 x (w5 ..);exact⟨a,b,h.1▸e⟩
  ·exact DRel.twos t (λz hz=>h2 z (w9 _ hz)) u hu
section
variable{prog:Program}{w:World}{A:Around}
def vg{d o:Addr}{od oo:Obj}{es:Array DictEntry}{e0:Nat}{id:String}{Q:Unit->Shared->Prop}(hne:(d==o)=false)(hos:(o==sysModules)=false)(hd:s.heap.get? d=some od)(hdd:od.data=.dict #[] e0)(ho:s.heap.get? o=some oo)(hdo:oo.data=.dict es ep)(hz:es.size<=sizeLine)(h0:0<es.size)(hr:∀e∈es.toList,∃q,e.key=.ref q/\s.TypeIs (.ref q) "tuple")(hf:∀e∈es.toList,(es.filter (·.hash==e.hash)).size<=1)(h:Q () { s with heap:=s.heap.update d (Obj.mapDictKeys λ_=>es) }):wpAny (model prog w) A (Builtin.Dict.mergeDict id d o) Q E s:=by
 have few:(decide (es.size<=8) && es.all λe=>(keyPart e.key).isSome)=false:=by
  have hx:es[0]∈es.toList:=by simp
  obtain⟨q,e,_⟩:=hr _ hx;have:(es.all λe=>(keyPart e.key).isSome)=false:=by rw[Array.all_eq_false];exact⟨0,h0,by rw[e];exact sP⟩
  rw[this,d9]
 unfold Builtin.Dict.mergeDict Builtin.Dict.showsAll;rw[hne,hos];simp only[rW,t5];refine z5 (z7 (z5 (lZ ho hdo ?_)));rw[few];simp only[Zz,t8];refine z5 (lZ hd hdd ?_);rw[if_pos (show(#[]:Array DictEntry).isEmpty=true from rfl)];unfold Builtin.Dict.entriesForEmpty;refine z5 (z5 (lZ ho hdo (z5 ?_)));rw[<- Y9];refine ZA _ (λbQ _ z=>z=s/\∀e∈bQ,e∈es.toList) _ (λe bQ _ z hz'=>?_) (λ_ z hz'=>?_) _ _ ⟨rfl,λe he=>he⟩
 ·obtain⟨rfl,he⟩:=hz';obtain⟨q,ek,ty⟩:=hr e (he e (w5 ..));unfold Builtin.Dict.quietEq;rw[ek];refine z5 (z5 (j8 ty PySem.F.slot_tuple_eq.lookup (z7 ?_)));have no:(some (Value.builtin "tuple.__eq__")==some (Value.builtin "object.__eq__"))=false:=by decide
  rw[no];simp only[Zz,t8];rw[if_neg (sT.2 (hf e (he e (w5 ..))))];exact z7 ⟨rfl,λx hx=>he x (w9 _ hx)⟩
 ·obtain⟨rfl,_⟩:=hz';refine z7 ?_;have ne:(!es.isEmpty)=true:=by simp;intro z;rw[z]at h0;exact absurd h0 (by simp)
  rw[if_pos ne];exact z5 (wpAny_updateDictKeysTo hd hdd (z7 h) (by omega))
end
theorem DRel.refs(I:Inv X pins σ H s):∀{xs:DX}{us:DU},DRel xs us->gm X.K H xs->∀u∈us,s.TypeIs (.ref u.2.1) "tuple"
 |_,_,.nil,_,u,hu=>nomatch hu
 |x::xs,y::us,.cons h t,kk,u,hu=>by
  rcases y9.1 hu with rfl|hu;·obtain⟨its,rv,⟨o,h1,h2,_⟩,_⟩:=I.tuple (kk x (w5 ..));exact⟨o,h.2.1▸h1,h2⟩
  ·exact DRel.refs I t (λz hz=>kk z (w9 _ hz)) u hu
def qv:jf X (.type "dict") (λxs H Q=>∃a o ys,xs=[.ref a]/\H a=some (DctO a o ys)/\gm X.K H ys/\K4 ys/\ys≠[]/\∀p o',H p=none->Q (.ref p) (upd H p (DctO p o' ys))):=by
 intro pins s σ H xs vs Q I r h;obtain⟨a,o0,ys,rfl,e,kk,tw,ne,q⟩:=h;obtain⟨u,rfl,rx⟩:=uX r;cases rx;obtain⟨z,hd,us,rel,dd⟩:=mz I e kk;obtain⟨o,es,ep,h1,h2,h3,h4,h5,h6⟩:=id dd;have tn:∀h:Heap,h.get? s.heap.objs.size=some { cls:=.type "dict",data:=.dict #[] }->Shared.TypeIs { s with heap:=h } (.ref s.heap.objs.size) "dict":=λh e=>⟨_,e,rfl⟩
 have hlt:=xi h1;have ho:(s.heap.push { cls:=.type "dict",data:=.dict #[] }).get? a=some o:=z9 _ h1;have hn:(s.heap.push { cls:=.type "dict",data:=.dict #[] }).get? s.heap.objs.size=some { cls:=.type "dict",data:=.dict #[] }:=v7 _ rfl;have ta:Shared.TypeIs { s with heap:=s.heap.push { cls:=.type "dict",data:=.dict #[] } } (.ref a) "dict":=⟨o,ho,h2.1⟩
 have ez:es.size=us.length:=by rw[<- qY,h4,zV]
 have uz:us.length=ys.length:=(Z1 rel).symm;refine callType_codes (Q₁:=λv t=>v=.ref s.heap.objs.size/\t={ s with heap:=s.heap.push { cls:=.type "dict",data:=.dict #[] } }) PySem.F.kt_called_dict (PySem.F.kt_typeCall_dict_1 _) PySem.F.entry_dict_init (kt_code_dict_new _ ⟨rfl,rfl⟩) λv t hv=>?_;obtain⟨rfl,rfl⟩:=hv;refine⟨tn _ hn,PySem.F.args_dict_init_2 _ _,?_⟩;have fin:∀h',h'=(s.heap.push { cls:=.type "dict",data:=.dict #[] }).update s.heap.objs.size (Obj.mapDictKeys λ_=>es)->EP X pins σ Q (.ref s.heap.objs.size) { s with heap:=h' }:=λh' eh=>by subst eh;refine⟨.ref s.heap.objs.size,_,I.laid (t':=s.toks) (λb y hb=>?_) (z8 _) (DctO.ok ⟨mf _ hn rfl,z,I.big0,⟨rfl,rfl,rfl⟩,us,rel,es,_,rfl,h4,h6⟩),rfl,q _ _ (I.hok.fresh (z8 _))⟩;exact(Heap.get?_update_ne _ _ _ _ (t9 (xi hb))).trans (z9 _ hb)
 have mg:∀{id:String}{Q':Unit->Shared->Prop}{A':Around}{E':Value->Shared->Prop},Q' () { s with heap:=(s.heap.push { cls:=.type "dict",data:=.dict #[] }).update s.heap.objs.size (Obj.mapDictKeys λ_=>es) }->wpAny (model X.prog X.w) A' (Builtin.Dict.mergeDict id s.heap.objs.size a) Q' E' { s with heap:=s.heap.push { cls:=.type "dict",data:=.dict #[] } }:=λhq=>
  vg (p9.2 (pZ hlt)) hd hn rfl ho h3 (by omega) (by rw[ez,uz];exact List.length_pos_iff.2 ne) (λx hx=>by
   rw[h4]at hx;obtain⟨u,hu,rfl⟩:=s8.1 hx;obtain⟨ob,e1,e2⟩:=DRel.refs I rel kk u hu;exact⟨u.2.1,rfl,ob,z9 _ e1,e2⟩) (λx hx=>by
   have hh:=BZ (c:=x.hash) (qC (rel.twos tw) h6);rw[<- qY,Array.toList_filter,h4,List.filter_map,zV];exact hh) hq;unfold Builtin.«dict.__init__» Builtin.Dict.selfAndRest;have sub:=PySem.F.kt_sub_dict
 wp_walk using Ya (tn _ hn),j8 ta PySem.F.slot_dict_iter.lookup,mg
 exact⟨rfl,fin _ rfl⟩
section
variable{prog:Program}{w:World}{A:Around}{d:Addr}{o:Obj}{es:Array DictEntry}
def vN{Q:Value->Shared->Prop}(hs:(d==sysModules)=false)(ho:s.heap.get? d=some o)(hx:o.ExactDict)(h:Q (.ref s.heap.objs.size) { s with heap:=s.heap.push { cls:=.type "dict_items",data:=.fields #[.ref d] } }):
  wpAny (model prog w) A (call (.builtin "dict.items") [.ref d]) Q E s:=by
 have t:s.TypeIs (.ref d) "dict":=⟨o,ho,hx.1⟩
 refine r9 PySem.F.slot_dict_items t PySem.F.entry_dict_items ?_ (PySem.F.args_dict_items_1 _);unfold Builtin.«dict.items» Builtin.Dict.noArgs Builtin.Dict.showsAll
 wp_walk using Ya t
 exact⟨_,rfl,h⟩
def vW{v:Addr}{Q:Value->Shared->Prop}(hv:s.heap.get? v=some { cls:=.type "dict_items",data:=.fields #[.ref d] })(ho:s.heap.get? d=some o)(hd:o.data=.dict es ep)(h:Q (.ref s.heap.objs.size) { s with heap:=s.heap.push { cls:=.type "dict_itemiterator",data:=.fields #[.none,.bool false,.ref d,.int 0 0,.int es.size 0,.int ep 0,.none,.none] } }):
  wpAny (model prog w) A (pyIter (.ref v)) Q E s:=by
 have t:s.TypeIs (.ref v) "dict_items":=⟨_,hv,rfl⟩
 refine ZB t YD (r9 YD t PySem.F.entry_dict_items_iter ?_ (PySem.F.args_dict_items_iter_1 _));unfold Builtin.«dict_items.__iter__» Builtin.Dict_items.dictOf Builtin.Dict_items.newIterator
 wp_walk using n9 hv rfl (x:=.ref d) rfl,lZ ho hd,c7 ho hd
 have own:Builtin.Dict_items.ownsTuple "dict_itemiterator"=true:=by decide
 refine⟨_,rfl,"dict_itemiterator",_,⟨_,v7 _ rfl,rfl⟩,PySem.F.slot_dict_itemiterator_next.lookup,?_⟩;simpa[own,rawInt,Builtin.Dict_items.ownedTupleFields]using h
def Ml(it d:Addr)(n ep i:Nat)(h:Heap):Prop:=∃x y,IsItemIter h it d i n ep x y
def vi{Q:Option Value->Shared->Prop}{i:Nat}{x y:Value}(hi:IsItemIter s.heap it d i es.size ep x y)(hne:d≠it)(ho:s.heap.get? d=some o)(hd:o.data=.dict es ep)(hl:i<es.size)(h:∀h',IsItemIterOut h' it d (i+1) es.size ep es[i].key es[i].val s.heap.objs.size->h'.get? s.heap.objs.size=some { cls:=.type "tuple",data:=.seq #[es[i].key,es[i].val] }->(∀b ob,b≠it->s.heap.get? b=some ob->h'.get? b=some ob)->Q (some (.ref s.heap.objs.size)) { s with heap:=h' }):
  wpAny (model prog w) A (pyNext (.ref it)) Q E s:=by
 have t:s.TypeIs (.ref it) "dict_itemiterator":=⟨_,hi,rfl⟩
 have own:Builtin.Dict_items.ownsTuple "dict_itemiterator"=true:=by decide
 unfold pyNext;refine z5 (c8 (m9 (name:=Str.ofString "__next__") t ZC (r9 ZC t YE ?_ (YF _))));unfold Builtin.«dict_itemiterator.__next__»
 wp_walk using ZD t,j9 hi rfl,lZ ho hd,c7 ho hd
 have i0:(if (i:Int)<0 then none else es[(i:Int).toNat]?)=some es[i]:=by rw[if_neg (by omega),si,je hl]
 rw[i0];have e0:((i+1:Nat):Int)=(i:Int)+1:=by omega
 refine z5 (z5 (ZD t (z7 (z5 (Yb t ?_)))));show wpAny _ _ (setField (.ref it) 3 (rawInt ((i:Int)+1))>>=_) _ _ s;refine z5 (c9 hi (by simp) λh1 e1 s1=>z5 (q9 ?_));have e1:IsItemIter h1 it d (i+1) es.size ep x y:=by unfold IsItemIter;rw[e0];simpa[rawInt]using e1
 have t1:Shared.TypeIs { s with heap:=h1 } (.ref it) "dict_itemiterator":=⟨_,e1,rfl⟩
 refine z5 (Yb t1 (z5 (Yb t1 ?_)));show wpAny _ _ (Builtin.Dict_items.pairFromOwner (.ref it) 6 es[i].key es[i].val) _ _ { s with heap:=h1 };unfold Builtin.Dict_items.pairFromOwner;refine z5 (wpAny_newTuple ?_);have e2:IsItemIter (h1.push { cls:=.type "tuple",data:=.seq #[es[i].key,es[i].val] }) it d (i+1) es.size ep x y:=z9 _ e1;have lt:it<s.heap.objs.size:=xi hi;have z1:h1.objs.size=s.heap.objs.size:=s1.1;have g2:(h1.push { cls:=.type "tuple",data:=.seq #[es[i].key,es[i].val] }).get? s.heap.objs.size=some { cls:=.type "tuple",data:=.seq #[es[i].key,es[i].val] }:=by rw[<- z1];exact v7 _ rfl
 have k2:∀b ob,b≠it->s.heap.get? b=some ob->(h1.push { cls:=.type "tuple",data:=.seq #[es[i].key,es[i].val] }).get? b=some ob:=λb ob n q=>z9 _ (s1.extBut b ob n q);rw[show({ s with heap:=h1 }:Shared).heap.objs.size=s.heap.objs.size from z1];generalize h1.push { cls:=.type "tuple",data:=.seq #[es[i].key,es[i].val] }=h2 at e2 g2 k2⊢;clear s1 e1 t1 z1 hi t;unfold Builtin.Dict_items.ownedTupleIsFree;have gt:=pZ lt;refine z5 (z5 (n9 e2 rfl (x:=.none) rfl (z7 ?_)));rw[if_pos rfl];refine z5 (n9 e2 rfl (x:=x) rfl (z5 (n9 e2 rfl (x:=y) rfl (z5 (c9 e2 (by simp) λh3 (e3:IsItemIter h3 it d (i+1) es.size ep es[i].key y) s3=>?_)))));refine z5 (c9 e3 (by simp) λh4 (e4:IsItemIter h4 it d (i+1) es.size ep es[i].key es[i].val) s4=>z5 (c9 e4 (by simp) λh5 (e5:IsItemIterOut h5 it d (i+1) es.size ep es[i].key es[i].val s.heap.objs.size) s5=>?_));refine z5 (c9 e5 (by simp) λh6 (e6:IsItemIterOut h6 it d (i+1) es.size ep es[i].key es[i].val s.heap.objs.size) s6=>z5 (Z8 (z7 (z7 ⟨_,rfl,z7 (h h6 e6 ?_ ?_)⟩))));·exact s6.extBut _ _ gt (s5.extBut _ _ gt (s4.extBut _ _ gt (s3.extBut _ _ gt g2)))
 ·exact λb ob n q=>s6.extBut b ob n (s5.extBut b ob n (s4.extBut b ob n (s3.extBut b ob n (k2 b ob n q))))
def yr{Q:Option Value->Shared->Prop}{i:Nat}{x y:Value}(hh:A.handled=none)(hi:IsItemIter s.heap it d i es.size ep x y)(hne:d≠it)(ho:s.heap.get? d=some o)(hd:o.data=.dict es ep)(hl:es.size<=i)(h:∀h',(∀b ob,b≠it->s.heap.get? b=some ob->h'.get? b=some ob)->Q none { s with heap:=h' }):wpAny (model prog w) A (pyNext (.ref it)) Q E s:=by
 have t:s.TypeIs (.ref it) "dict_itemiterator":=⟨_,hi,rfl⟩
 unfold pyNext;refine z5 (c8 (m9 (name:=Str.ofString "__next__") t ZC (r9 ZC t YE ?_ (YF _))));unfold Builtin.«dict_itemiterator.__next__»
 wp_walk using ZD t,j9 hi rfl,lZ ho hd,c7 ho hd
 have i0:(if (i:Int)<0 then none else es[(i:Int).toNat]?)=none:=by rw[if_neg (by omega),si,Z9 hl]
 rw[i0];refine z5 (z5 (ZD t (z7 ?_)));show wpAny _ _ (setField (.ref it) 2 .none>>=_) _ _ s;refine z5 (c9 hi (by simp) λh1 e1 s1=>?_);have sub:=ZE;have hh1:A.in1.handled=none:=hh;clear i0 e1 t hi;simp only[newExc,raiseNew]
 wp_walk
 exact h _ λb ob n q=>z9 _ (z9 _ (s1.extBut b ob n q))
end
def AX{b:Addr}{ob o:Obj}(hb:b<h.objs.size)(q:(h.push ob).get? b=some o):h.get? b=some o:=by unfold Heap.get? Heap.push at *;simpa[Array.getElem?_push,t9 hb]using q
def Itd(a:Addr)(o:Obj)(xs:DX):It:=
 ⟨λi H=>H a=some (DctO a o xs)/\i<xs.length,λi H x H'=>∃p y,x=.ref p/\H p=none/\xs[i]?=some y/\H'=upd H p (.tup [.ref y.2.1,y.2.2]),λi H=>H a=some (DctO a o xs)/\xs.length<=i⟩
theorem DRel.get:∀{xs:DX}{us:DU}{i:Nat}{x:List Bool×Addr×V},DRel xs us->xs[i]?=some x->∃u,us[i]?=some u/\x.2.1=u.2.1/\RelV x.2.2 u.2.2
 |_,_,i,_,.nil,e=>by simp at e
 |_,_,0,_,.cons h _,e=>by simp at e;subst e;exact⟨_,rfl,h.2⟩
 |_,_,i+1,_,.cons _ t,e=>DRel.get (i:=i) t (by simpa using e)
def kq{o:Obj}{xs:DX}(I:Inv X pins σ H s)(e:H a=some (DctO a o xs)):DQ a o xs s.heap:=
 (show ObjOk X.prog X.w H s.heap a (DctO a o xs) from I.hok a _ e).1
def vE{w:World}{K:PySem.W.Frag}{kt:Nat}{tp:Pos}(a it:Addr)(o:Obj)(xs:DX){es:Array DictEntry}(hd:o.data=.dict es ep)(hz:es.size=xs.length):
  Turn P w K (.Tuple elts kt tp) (Itd a o xs) [it] it (λi h=>Ml it a es.size ep i h) where
 mem:=by simp
 obj:=λi h st b hb=>by
  obtain⟨x,y,q⟩:=st;obtain rfl:b=it:=by simpa using hb
  exact⟨_,q,λv z=>by cases z⟩
 keep:=λi h h' ⟨x,y,q⟩ k=>⟨x,y,k it (by simp) _ q⟩
 item:=by
  intro X hP hw hK hc i pins s σ H E I hf st hg;subst hP hw hK;obtain⟨x,y,hi⟩:=st;obtain⟨e,hl⟩:=hg;obtain⟨h1,z1,z2,h2,us,r,es',ep',h3,h4,h5⟩:=kq I e;rw[hd]at h3;cases h3;obtain⟨f0,f1,f2,f3,f4,f5⟩:=hf it (by simp);have ne:a≠it:=λz=>by rw[z,f0]at e;cases e
  have hlt:i<es.size:=by omega
  obtain⟨u,hu,k1,k2⟩:=r.get (vY hl);have ee:es[i]=⟨qm u.1,.ref u.2.1,u.2.2⟩:=by
   have q:es.toList[i]?=some es[i]:=by simp[hlt]
   rw[h4,u9,hu]at q;exact(vC q).symm
  have hp:H s.heap.objs.size=none:=I.hok.fresh (z8 _);have npt:s.heap.objs.size≠it:=pZ (xi hi);refine vi hi ne h1 hd hlt λh6 o6 g6 k6=>⟨_,rfl,wpAny_letOwnedTupleGo_items o6 λh7 o7 s7=>?_⟩
  have Ia:Inv X pins σ (upd H s.heap.objs.size (.tup [.ref xs[i].2.1,xs[i].2.2])) { s with heap:=s.heap.push { cls:=.type "tuple",data:=.seq #[es[i].key,es[i].val] } }:=by
   refine I.laid (t':=s.toks) (λb ob q=>z9 _ q) (z8 _) ⟨by show 2<=sizeLine;decide,[es[i].key,es[i].val],.cons ?_ (.cons ?_ .nil),d3 _ _⟩;·rw[ee,k1];rfl
   ·rw[ee];exact k2
  have Ib:Inv X pins σ (upd H s.heap.objs.size (.tup [.ref xs[i].2.1,xs[i].2.2])) { s with heap:=h7 }:=by
   refine Inv.turned (s:={ s with heap:=s.heap.push { cls:=.type "tuple",data:=.seq #[es[i].key,es[i].val] } }) (h':=h7) (t':=s.toks) (it:=it) Ia (λb ob n q=>?_) (by rw[au (sj npt)];exact f0) f1 f3 f4 f5;refine(s7.2 b n).trans ?_;by_cases z:b=s.heap.objs.size;·subst z;have q':=v7 s.heap (o:={ cls:=.type "tuple",data:=.seq #[es[i].key,es[i].val] }) rfl;exact(g6.trans q'.symm).trans q
   ·refine k6 b ob n ?_;have q:(s.heap.push { cls:=.type "tuple",data:=.seq #[es[i].key,es[i].val] }).get? b=some ob:=q;rcases Nat.lt_or_ge b s.heap.objs.size with hb|hb;·exact AX hb q
    ·have hlt:=xi q;rw[n4]at hlt;exact absurd (Nat.le_antisymm (Nat.le_of_lt_succ hlt) hb) z
  exact⟨.ref s.heap.objs.size,_,Ib,rfl,⟨_,_,rfl,hp,vY hl,rfl⟩,⟨_,_,o7⟩,λb hb=>by
   obtain rfl:b=it:=by simpa using hb
   rw[au (sj npt)];exact f0⟩
 done:=by
  intro X hP hw hK hc i pins s σ H E I hf st hg;subst hP hw hK;obtain⟨x,y,hi⟩:=st;obtain⟨e,hl⟩:=hg;obtain⟨h1,_⟩:=kq I e;obtain⟨f0,f1,f2,f3,f4,f5⟩:=hf it (by simp);have ne:a≠it:=λz=>by rw[z,f0]at e;cases e
  exact yr (I.ok.hd hc) hi ne h1 hd (by omega) λh' k=>⟨rfl,I.turned (t':=s.toks) k f0 f1 f3 f4 f5⟩
 self:=λA i s Q E ⟨x,y,q⟩ h=>PySem.W.kcp_self q h
def Bk{o:Expr}{t:TE}{kt:Nat}{tp ap cp:Pos}(ho:PE X o t)(hbase:attributeBase o "items" X.env (eval o X.env)=eval o X.env:=by rfl)(hline:(ap.endLine==cp.line)=true:=by rfl):
  PI X (.Tuple elts kt tp) (.Call (.Attribute o "items" ap) [] [] cp) (λσ H R=>t σ H λx H1=>∃a ob xs,x=.ref a/\H1 a=some (DctO a ob xs)/\R (Itd a ob xs) H1):=λpins s σ H R I h=>by
 refine wpAny_Call_method0_late hbase hline (thn (ho pins s σ H _ I h) λv s1 ⟨x,H1,I1,r1,a,ob,xs,ex,e,hR⟩=>?_);subst ex;cases r1;obtain⟨h1,z1,z2,h2,us,r,es,ep,h3,h4,h5⟩:=kq I1 e;have hz:es.size=xs.length:=by rw[<- qY,h4,zV];exact(Z1 r).symm
 refine⟨"dict","dict.items",PySem.F.plainAttrs_dict,PySem.F.slot_dict_items,PySem.F.type_dict_items,⟨ob,h1,h2.1⟩,λb eb=>?_,Calls.callWith_builtin rfl (PySem.evalArgs_none (vN z2 h1 h2 ?_))⟩;·cases eb;exact⟨ob,h1,h2.2.1⟩
 have I2:Inv X pins σ H1 { s1 with heap:=s1.heap.push { cls:=.type "dict_items",data:=.fields #[.ref a] } }:=I1.kept (t':=s1.toks) λb q e=>z9 _ e;refine vW (v7 _ rfl) (z9 _ h1) h3 ?_;refine⟨_,[_],_,_,H1,rfl,I2.kept (t':=s1.toks) λb q e=>z9 _ e,vE a _ ob xs h3 hz,⟨_,_,v7 _ rfl⟩,λb hb=>?_,hR⟩;obtain rfl:=wc.1 hb;exact I2.fpOk (z8 _) (I2.hok.fresh (z8 _))
end L2
set_option maxRecDepth 100000
set_option maxHeartbeats 4000000
namespace L2
open PySem PySem.Spec PyProof.Rows
inductive D where
  |non|bl (b : Bool)|int (i : Int)|str (x : List Nat)|tup (xs : List D)|lst (fz : Bool) (xs : List D)|exc (C : Addr)
  |dct (ks : List Nat) (xs : List D)
def code(a b:Bool):Nat:=(if a then 1 else 0)+(if b then 2 else 0)
inductive KeysAt(K:PySem.W.Frag)(G:Hp):DX->List Nat->Prop
 |nil:KeysAt K G [] []
 |cons {q:Addr} {v:V} {a b:Bool} {xs:DX} {ks:List Nat} (h:SqT K G q [.bl a,.bl b]) (t:KeysAt K G xs ks):KeysAt K G (([a,b],q,v)::xs) (code a b::ks)
def Fo(a C:Addr):Heap->Prop:=λh=>∃ob,h.get? a=some ob/\ob.cls=.ref C
mutual
inductive Rep(K:PySem.W.Frag)(G:Hp):V->D->Prop
 |non:Rep K G .non .non
 |bl (b:Bool):Rep K G (.bl b) (.bl b)
 |int (i:Int):Rep K G (.int i) (.int i)
 |str (x:Str) (h:x.length<=sizeLine):Rep K G (.str x) (.str x.cps.toList)
 |tup {a:Addr} {vs:List V} {ds:List D} (h:SqT K G a vs) (r:Reps K G vs ds):Rep K G (.ref a) (.tup ds)
 |lst {a:Addr} {vs:List V} {ds:List D} (h:G a=some (.lst vs)) (r:Reps K G vs ds):Rep K G (.ref a) (.lst false ds)
 |fls {a:Addr} {vs:List V} {ds:List D} (h:SqL K G a vs) (r:Reps K G vs ds):Rep K G (.ref a) (.lst true ds)
 |exc {a C:Addr} (h:G a=some (.ext (Fo a C))):Rep K G (.ref a) (.exc C)
 |dct {a:Addr} {o:Obj} {xs:DX} {ks:List Nat} {ds:List D} (h:G a=some (DctO a o xs)) (k:KeysAt K G xs ks) (r:Reps K G (xs.map (·.2.2)) ds):Rep K G (.ref a) (.dct ks ds)
inductive Reps(K:PySem.W.Frag)(G:Hp):List V->List D->Prop
 |nil:Reps K G [] []
 |cons {v:V} {d:D} {vs:List V} {ds:List D} (r:Rep K G v d) (t:Reps K G vs ds):Reps K G (v::vs) (d::ds)
end
section
variable{K:PySem.W.Frag}{G' G1 H1 G2 H2:Hp}
def SqT.mono(e:Same G G')(h:SqT K G a xs):SqT K G' a xs:=by
 rcases h with (h|⟨o,h⟩)|h;·exact .inl (.inl (e _ _ h))
 ·exact .inl (.inr ⟨o,e _ _ h⟩)
 ·exact .inr h
def KeysAt.mono(e:Same G G'):∀{xs:DX}{ks:List Nat},KeysAt K G xs ks->KeysAt K G' xs ks
 |_,_,.nil=>.nil
 |_,_,.cons h t=>.cons (h.mono e) (t.mono e)
def SqL.mono(e:Same G G')(h:SqL K G a xs):SqL K G' a xs:=e.seq h
mutual
theorem Rep.mono(e:Same G G'):∀{v:V}{d:D},Rep K G v d->Rep K G' v d
 |_,_,.non=>.non
 |_,_,.bl b=>.bl b
 |_,_,.int i=>.int i
 |_,_,.str x h=>.str x h
 |_,_,.tup h r=>.tup (h.mono e) (Reps.mono e r)
 |_,_,.lst h r=>.lst (e _ _ h) (Reps.mono e r)
 |_,_,.fls h r=>.fls (h.mono e) (Reps.mono e r)
 |_,_,.exc h=>.exc (e _ _ h)
 |_,_,.dct h k r=>.dct (e _ _ h) (k.mono e) (Reps.mono e r)
theorem Reps.mono(e:Same G G'):∀{vs:List V}{ds:List D},Reps K G vs ds->Reps K G' vs ds
 |_,_,.nil=>.nil
 |_,_,.cons r t=>.cons (Rep.mono e r) (Reps.mono e t)
end
section inv
def Rep.int_inv{i:Int}(r:Rep K G v (.int i)):v=.int i:=by cases r;rfl
def Rep.bl_inv{b:Bool}(r:Rep K G v (.bl b)):v=.bl b:=by cases r;rfl
def Rep.non_inv(r:Rep K G v .non):v=.non:=by cases r;rfl
def Rep.str_inv{x:List Nat}(r:Rep K G v (.str x)):∃y:Str,v=.str y/\y.cps.toList=x/\y.length<=sizeLine:=by
 generalize e:D.str x=d at r;cases r with
 |str y h=>cases e;exact⟨y,rfl,rfl,h⟩
 |_=>cases e
def Rep.tup_inv{ds:List D}(r:Rep K G v (.tup ds)):∃a vs,v=.ref a/\SqT K G a vs/\Reps K G vs ds:=by
 cases r with
 |tup h t=>exact⟨_,_,rfl,h,t⟩
def Rep.lst_inv{ds:List D}(r:Rep K G v (.lst false ds)):∃a vs,v=.ref a/\G a=some (.lst vs)/\Reps K G vs ds:=by
 cases r with
 |lst h t=>exact⟨_,_,rfl,h,t⟩
def Rep.seq_inv{f:Bool}{ds:List D}(r:Rep K G v (.lst f ds)):∃a vs,v=.ref a/\SqL K G a vs/\Reps K G vs ds:=by
 cases r with
 |lst h t=>exact⟨_,_,rfl,.of h,t⟩
 |fls h t=>exact⟨_,_,rfl,h,t⟩
def Rep.strL{x:List Nat}{y:Str}(e:y.cps.toList=x)(h:x.length<=sizeLine):Rep K G (.str y) (.str x):=by subst e;exact .str y (by simpa[Str.length]using h)
end inv
theorem Reps.length:∀{vs:List V}{ds:List D},Reps K G vs ds->vs.length=ds.length
 |_,_,.nil=>rfl
 |_,_,.cons _ t=>by simp[Reps.length t]
theorem Reps.get:∀{vs:List V}{ds:List D}{i:Nat}{d:D},Reps K G vs ds->ds[i]?=some d->∃v,vs[i]?=some v/\Rep K G v d
 |_,_,_,_,.nil,e=>by simp at e
 |_,_,0,_,.cons r _,e=>by simp at e;subst e;exact⟨_,rfl,r⟩
 |_,_,i+1,d,.cons _ t,e=>by obtain⟨v,h1,h2⟩:=Reps.get (i:=i) (d:=d) t (by simpa using e);exact⟨v,by simpa using h1,h2⟩
theorem Reps.append:∀{vs ws:List V}{ds es:List D},Reps K G vs ds->Reps K G ws es->Reps K G (vs++ws) (ds++es)
 |_,_,_,_,.nil,s=>s
 |_,_,_,_,.cons r t,s=>.cons r (Reps.append t s)
theorem Reps.take:∀{vs:List V}{ds:List D}(n:Nat),Reps K G vs ds->Reps K G (vs.take n) (ds.take n)
 |_,_,0,_=>by simpa using Reps.nil
 |_,_,_+1,.nil=>.nil
 |_,_,n+1,.cons r t=>.cons r (Reps.take n t)
theorem Reps.drop:∀{vs:List V}{ds:List D}(n:Nat),Reps K G vs ds->Reps K G (vs.drop n) (ds.drop n)
 |_,_,0,r=>r
 |_,_,_+1,.nil=>.nil
 |_,_,n+1,.cons _ t=>Reps.drop n t
theorem Reps.set{d:D}(r:Rep K G v d):∀{vs:List V}{ds:List D}(i:Nat),Reps K G vs ds->Reps K G (vs.set i v) (ds.set i d)
 |_,_,_,.nil=>.nil
 |_,_,0,.cons _ t=>.cons r t
 |_,_,i+1,.cons q t=>.cons q (Reps.set r i t)
theorem Reps.rep{ds:List D}(r:Reps K G vs ds):∀n:Nat,Reps K G (List.replicate n vs).flatten (List.replicate n ds).flatten
 | 0=>.nil
 |n+1=>by simp only[mP,l5];exact Reps.append r (Reps.rep r n)
structure Up(G H G' H':Hp):Prop where
 sub:Same G' H'
 gg:Same G G'
 hh:Same H H'
 fr:∀a o,G' a=some o->G a=some o\/H a=none
def Up.refl(s:Same G H):Up G H G H:=⟨s,.refl _,.refl _,λ_ _ h=>.inl h⟩
def Up.trans(a:Up G H G1 H1)(b:Up G1 H1 G2 H2):Up G H G2 H2:=⟨b.sub,a.gg.trans b.gg,a.hh.trans b.hh,λc o h=>by
 rcases b.fr c o h with h|h;·exact a.fr c o h
 ·exact .inr (a.hh.free h)⟩
def Same.both{p:Addr}{o:HO}(s:Same G H):Same (upd G p o) (upd H p o):=λa u h=>by
 unfold L2.upd at h⊢;split;·rename_i e;rw[if_pos e]at h;exact h
 ·rename_i e;rw[if_neg e]at h;exact s a u h
def Same.into{p:Addr}{o:HO}(h:H p=none):Same H (upd H p o):=λa u e=>by rw[au (aj e h)];exact e
def Up.new{p:Addr}{o:HO}(s:Same G H)(hp:H p=none):Up G H (upd G p o) (upd H p o):=
 ⟨s.both,.into (s.free hp),.into hp,λa u h=>by
  by_cases e:a=p;·subst e;exact .inr hp
  ·rw[au e]at h;exact .inl h⟩
end
inductive R(α:Type) where
 |ok (a:α)|ex (C:Addr)|no
def R.bind{α β:Type}:R α->(α->R β)->R β
 |.ok a,f=>f a
 |.ex C,_=>.ex C
 |.no,_=>.no
instance:Monad R where
 pure:=.ok
 bind:=R.bind
section
variable{α β:Type}
@[simp] theorem R.ok_bind(a:α)(f:α->R β):(R.ok a>>=f)=f a:=rfl
@[simp] theorem R.ex_bind(C:Addr)(f:α->R β):((R.ex C:R α)>>=f)=.ex C:=rfl
def R.post(m:R α)(P:α->Prop)(E:Addr->Prop):Prop:=match m with
 |.ok a=>P a
 |.ex C=>E C
 |.no=>False
def R.post.mono{m:R α}{P P':α->Prop}{E E':Addr->Prop}(h:m.post P E)(hp:∀a,P a->P' a)(he:∀C,E C->E' C):m.post P' E':=by
 cases m with
 |ok a=>exact hp a h
 |ex C=>exact he C h
 |no=>exact h
def ofO:Option α->R α
 |some a=>.ok a
 |none=>.no
@[simp] theorem bR(a:α):ofO (some a)=R.ok a:=rfl
theorem ofO.ok{o:Option α}{P:α->Prop}{E:Addr->Prop}(h:(ofO o).post P E):∃a,o=some a/\P a:=by
 cases o with
 |none=>exact h.elim
 |some a=>exact⟨a,rfl,h⟩
end
inductive Fd where
  |val (d : D)|own (ds : List D)
  |dic (kds : List (Int × D))
inductive Sl where
  |val (d : D)
  |own (ds : List D)
  |obj (m : Bool) (C p : Addr) (fs : List (Nat × Fd))
abbrev Ev:=List (Option Sl)
def rdV(ρ:Ev)(i:Nat):R D:=match ρ[i]? with
 |some (some (.val d))=>.ok d
 |_=>.no
abbrev rvz(i:Nat):Ev->R D:=λρ=>rdV ρ i
abbrev ciz(n:Int):Ev->R D:=λ_=>R.ok (D.int n)
abbrev nlz:Ev->R (List D):=λ_=>R.ok []
abbrev csz(x:List Nat):Ev->R D:=λ_=>R.ok (D.str x)
def fnames:List Str:=["states","taken_back","width","screen","last_notes","tasks","numbers_given"]
def IL(k:Nat):Str:=fnames.getD k ""
abbrev jb:=Addr->Option (Nat×Nat)
noncomputable def FdAt(K:PySem.W.Frag)(H₀ G H:Hp)(ow:jb)(i:Nat)(m:Bool)(k:Nat):Fd->V->Prop
 |.val d,v=>Rep K G v d
 |.own ds,v=>∃l ws,v=.ref l/\H l=some (.lst ws)/\G l=none/\(m=true->H₀ l=none)/\Reps K G ws ds/\ow l=some (i,k+1)
 |.dic kds,v=>∃l ws,v=.ref l/\H l=some (.dK ((kds.map λx=>(Sum.inl x.1:Key)).zip ws))/\G l=none/\(m=true->H₀ l=none)/\Reps K G ws (kds.map (·.2))/\ow l=some (i,k+1)
inductive FdsAt(K:PySem.W.Frag)(H₀ G H:Hp)(ow:jb)(i:Nat)(m:Bool):List (Nat×Fd)->List (Str×V)->Prop
 |nil:FdsAt K H₀ G H ow i m [] []
 |cons {k:Nat} {fd:Fd} {v:V} {fs:List (Nat×Fd)} {vs:List (Str×V)} (h:k<fnames.length) (nk:fs.lookup k=none) (r:FdAt K H₀ G H ow i m k fd v) (t:FdsAt K H₀ G H ow i m fs vs):FdsAt K H₀ G H ow i m ((k,fd)::fs) ((IL k,v)::vs)
noncomputable def InsAt(K:PySem.W.Frag)(H₀ G H:Hp)(ow:jb)(i:Nat)(m:Bool)(C p:Addr)(fs:List (Nat×Fd)):Prop:=
 ∃dx vs,H p=some (.ins C dx vs)/\H dx=some (.own p)/\G p=none/\G dx=none/\(m=true->H₀ p=none/\H₀ dx=none)/\ow p=some (i,0)/\ow dx=some (i,0)/\FdsAt K H₀ G H ow i m fs vs
noncomputable def DcoAt(K:PySem.W.Frag)(H₀ G H:Hp)(ow:jb)(i:Nat)(m:Bool)(p:Addr)(fs:List (Nat×Fd)):Prop:=
 ∃o xs ks ds,H p=some (DctO p o xs)/\G p=none/\(m=true->H₀ p=none)/\ow p=some (i,0)/\KeysAt K G xs ks/\Reps K G (xs.map (·.2.2)) ds/\fs=ks.zip (ds.map Fd.val)
abbrev DC:Addr:=0
def ObjAt(K:PySem.W.Frag)(H₀ G H:Hp)(ow:jb)(i:Nat)(m:Bool)(C p:Addr)(fs:List (Nat×Fd)):Prop:=(C≠DC/\InsAt K H₀ G H ow i m C p fs)\/(C=DC/\DcoAt K H₀ G H ow i m p fs)
section
variable{K:PySem.W.Frag}{H₀:Hp}{ow:jb}{i:Nat}{m:Bool}{p:Addr}{fs:List (Nat×Fd)}
def ObjAt.dco(h:ObjAt K H₀ G H ow i m DC p fs):DcoAt K H₀ G H ow i m p fs:=(h.resolve_left λz=>z.1 rfl).2
end
section
variable{K:PySem.W.Frag}{H₀ H₀' G':Hp}{ow ow':jb}{i:Nat}
structure ObKeep(H₀ H₀' G H G' H':Hp)(ow ow':jb)(i:Nat):Prop where
 hh:∀a t o,ow a=some (i,t)->H a=some o->H' a=some o
 gg:Same G G'
 gn:∀a t o,ow a=some (i,t)->H a=some o->G a=none->G' a=none
 oo:∀a t o,ow a=some (i,t)->H a=some o->ow' a=some (i,t)
 h0:∀a o,H a=some o->G a=none->H₀ a=none->H₀' a=none
def FdAt.keep(k:ObKeep H₀ H₀' G H G' H' ow ow' i){m:Bool}{n:Nat}:∀{fd:Fd}{v:V},FdAt K H₀ G H ow i m n fd v->FdAt K H₀' G' H' ow' i m n fd v
 |.val d,v,r=>Rep.mono k.gg (show Rep K G v d from r)
 |.own ds,v,⟨l,ws,e,h1,h2,h3,h4,h5⟩=>⟨l,ws,e,k.hh l _ _ h5 h1,k.gn l _ _ h5 h1 h2,λz=>k.h0 l _ h1 h2 (h3 z),h4.mono k.gg,k.oo l _ _ h5 h1⟩
 |.dic _,v,⟨l,ws,e,h1,h2,h3,h4,h5⟩=>⟨l,ws,e,k.hh l _ _ h5 h1,k.gn l _ _ h5 h1 h2,λz=>k.h0 l _ h1 h2 (h3 z),h4.mono k.gg,k.oo l _ _ h5 h1⟩
theorem FdsAt.keep(k:ObKeep H₀ H₀' G H G' H' ow ow' i){m:Bool}:∀{fs:List (Nat×Fd)}{vs:List (Str×V)},FdsAt K H₀ G H ow i m fs vs->FdsAt K H₀' G' H' ow' i m fs vs
 |_,_,.nil=>.nil
 |_,_,.cons h nk r t=>.cons h nk (FdAt.keep k r) (FdsAt.keep k t)
def InsAt.keep(k:ObKeep H₀ H₀' G H G' H' ow ow' i){m:Bool}{p:Addr}{fs:List (Nat×Fd)}(h:InsAt K H₀ G H ow i m C p fs):InsAt K H₀' G' H' ow' i m C p fs:=by obtain⟨dx,vs,h1,h2,h3,h4,h5,h6,h7,h8⟩:=h;exact⟨dx,vs,k.hh p _ _ h6 h1,k.hh dx _ _ h7 h2,k.gn p _ _ h6 h1 h3,k.gn dx _ _ h7 h2 h4,λz=>⟨k.h0 p _ h1 h3 (h5 z).1,k.h0 dx _ h2 h4 (h5 z).2⟩,k.oo p _ _ h6 h1,k.oo dx _ _ h7 h2,h8.keep k⟩
def DcoAt.keep(k:ObKeep H₀ H₀' G H G' H' ow ow' i){m:Bool}{p:Addr}{fs:List (Nat×Fd)}(h:DcoAt K H₀ G H ow i m p fs):DcoAt K H₀' G' H' ow' i m p fs:=
 let⟨o,xs,ks,ds,h1,h2,h3,h4,h5,h6,h7⟩:=h
 ⟨o,xs,ks,ds,k.hh p _ _ h4 h1,k.gn p _ _ h4 h1 h2,λz=>k.h0 p _ h1 h2 (h3 z),k.oo p _ _ h4 h1,h5.mono k.gg,h6.mono k.gg,h7⟩
def ObjAt.keep(k:ObKeep H₀ H₀' G H G' H' ow ow' i){m:Bool}{p:Addr}{fs:List (Nat×Fd)}(h:ObjAt K H₀ G H ow i m C p fs):ObjAt K H₀' G' H' ow' i m C p fs:=h.imp (λz=>⟨z.1,z.2.keep k⟩) λz=>⟨z.1,z.2.keep k⟩
def ObKeep.up(u:Up G H G' H'):ObKeep H₀ H₀ G H G' H' ow ow i:=by
 have gn:∀a o,H a=some o->G a=none->G' a=none:=λa o e n=>by
  cases q:G' a with
  |none=>rfl
  |some o'=>
   rcases u.fr a o' q with z|z;·rw[n]at z;cases z
   ·rw[e]at z;cases z
 exact⟨λa t o _ e=>u.hh a o e,u.gg,λa t o _ e n=>gn a o e n,λa t o e _=>e,λa o _ _ n=>n⟩
end
def ObjAt.rd{K:PySem.W.Frag}{H₀:Hp}{ow:jb}{i:Nat}{m:Bool}{p:Addr}{fs:List (Nat×Fd)}(h:ObjAt K H₀ G H ow i m C p fs):ObjAt K (λ_=>none) G H ow i m C p fs:=
 h.keep ⟨λ_ _ _ _ e=>e,.refl _,λ_ _ _ _ _ n=>n,λ_ _ _ e _=>e,λ_ _ _ _ _=>rfl⟩
structure StE(K:PySem.W.Frag)(G H:Hp)(σ:St)(ρ:Ev):Prop where
 sub:Same G H
 len:σ.length=ρ.length
 val:∀(i:Nat) d,ρ[i]?=some (some (.val d))->∃v,σ[i]?=some (some v)/\Rep K G v d
 obs:∀(i:Nat) m C p fs,ρ[i]?=some (some (.obj m C p fs))->σ[i]?=some (some (.ref p))/\∃ow,ObjAt K (λ_=>none) G H ow i m C p fs
def StE.up{K:PySem.W.Frag}{G':Hp}{ρ:Ev}(s:StE K G H σ ρ)(u:Up G H G' H'):StE K G' H' σ ρ:=
 ⟨u.sub,s.len,λi d e=>let⟨v,h1,h2⟩:=s.val i d e;⟨v,h1,h2.mono u.gg⟩,λi m C p fs e=>let⟨h1,ow,h2⟩:=s.obs i m C p fs e;⟨h1,ow,h2.keep (.up u)⟩⟩
noncomputable def Dn(P:Program)(w:World)(outer:List Env)(H:Hp)(s:Shared)(a C:Addr)(H':Hp)(s':Shared):Prop:=
 s'.os=s.os/\AllBare s'.gens/\Un (frs outer) [] H H' s.heap s'.heap/\HOk P w H' s'.heap/\H' a=none/\
 ∃(B:Heap)(a0:Value),Heap.FlyingW B outer a (.ref C) a0 s'.heap/\∀b o,b∉frs outer->((∃o0,s.heap.get? b=some o0)\/∃u,H' b=some u)->s'.heap.get? b=some o->B.get? b=some o
def CXo(P:Program)(w:World):CXT:=λouter H s E e s'=>∃a C H',e=.ref a/\Dn P w outer H s a C H' s'/\E (.ref C) none H'
def ME(X:Cx)(pins:List (Addr×Obj))(b:Addr):Prop:=
 (b∈X.ex\/X.s₀.heap.objs.size<=b)/\b≠X.env.locals/\(∀x c,X.env.cells.lookup x=some c->c≠b)/\∀p∈X.pn++pins,p.1≠b
noncomputable def CB(X:Cx)(pins:List (Addr×Obj))(L:Addr)(H:Hp)(s:Shared)(a C:Addr)(H':Hp)(s':Shared):Prop:=
 s'.os=s.os/\AllBare s'.gens/\(∃ch,(∀b∈ch,ME X pins b)/\Un (frs X.stack) ch H H' s.heap s'.heap)/\HOk X.prog X.w H' s'.heap/\H' a=none/\s.heap.get? a=none/\
 ∃(B:Heap)(a0:Value),Heap.HeldW B X.stack a (.ref C) a0 L s'.heap/\∀b o,b∉frs X.stack->((∃o0,s.heap.get? b=some o0)\/∃u,H' b=some u)->s'.heap.get? b=some o->B.get? b=some o
noncomputable def La(X:Cx)(σ:St)(G₁ H₁:Hp)(C:Addr)(e:Value)(s':Shared):Prop:=
 ∃pins s₁ a,e=.ref a/\Inv X pins σ H₁ s₁/\
  ((∃h' vs,Heap.MadeExcOf s₁.heap h' a (.ref C) vs/\s'={ s₁ with heap:=h' })\/(∃G' H',Dn X.prog X.w X.stack H₁ s₁ a C H' s'/\Up G₁ H₁ G' H')\/∃G' H' L,X.env.frame=some L/\CB X pins L H₁ s₁ a C H' s'/\Up G₁ H₁ G' H')
def Fly(X:Cx)(σ:St)(G H:Hp)(C:Addr)(e:Value)(s':Shared):Prop:=∃G₁ H₁,Up G H G₁ H₁/\La X σ G₁ H₁ C e s'
def Fly.up{G1 H1:Hp}{e:Value}(u:Up G H G1 H1)(f:Fly X σ G1 H1 C e s'):Fly X σ G H C e s':=
 let⟨G2,H2,v,q⟩:=f;⟨G2,H2,u.trans v,q⟩
section
variable{α β:Type}
def Fin(G H:Hp)(rep:Hp->β->α->Prop)(Q:β->Hp->Prop):α->Prop:=λd=>∀v G' H',Up G H G' H'->rep G' v d->Q v H'
def Exx(X:Cx)(σ:St)(G H:Hp):Addr->Prop:=λC=>∀e s',Fly X σ G H C e s'->X.xe e s'
def Fin.up{G1 H1:Hp}{rep:Hp->β->α->Prop}{Q:β->Hp->Prop}{d:α}(u:Up G H G1 H1)(h:Fin G H rep Q d):Fin G1 H1 rep Q d:=λv G' H' u' r=>h v G' H' (u.trans u') r
def Exx.up{G1 H1:Hp}(u:Up G H G1 H1)(h:Exx X σ G H C):Exx X σ G1 H1 C:=λe s' f=>h e s' (f.up u)
def nc{G1 H1:Hp}{rep:Hp->β->α->Prop}{Q:β->Hp->Prop}{m:R α}(u:Up G H G1 H1)(h:m.post (Fin G H rep Q) (Exx X σ G H)):m.post (Fin G1 H1 rep Q) (Exx X σ G1 H1):=
 h.mono (λ_=>Fin.up u) λ_=>Exx.up u
def tG(X:Cx)(rep:Hp->β->α->Prop)(g:Ev->R α):St->Hp->(β->Hp->Prop)->Prop:=λσ H Q=>∃G ρ,StE X.K G H σ ρ/\(g ρ).post (Fin G H rep Q) (Exx X σ G H)
def tG.intro{γ δ:Type}{ρ:Ev}{rep:Hp->β->α->Prop}{rep':Hp->δ->γ->Prop}{g:Ev->R α}{k:α->R γ}{Q:β->Hp->Prop}{Q':δ->Hp->Prop}(st:StE X.K G H σ ρ)(h:(g ρ>>=k).post (Fin G H rep' Q') (Exx X σ G H))(hk:∀a,∀v G1 H1,Up G H G1 H1->StE X.K G1 H1 σ ρ->rep G1 v a->(k a).post (Fin G1 H1 rep' Q') (Exx X σ G1 H1)->Q v H1):tG X rep g σ H Q:=by
 refine⟨G,ρ,st,?_⟩;cases e:g ρ with
 |ok a=>rw[e]at h;exact λv G' H' u r=>hk a v G' H' u (st.up u) r (nc u h)
 |ex C=>rw[e]at h;exact h
 |no=>rw[e]at h;exact h
def tG.last{ρ:Ev}{rep:Hp->β->α->Prop}{g:Ev->R α}{Q:β->Hp->Prop}(st:StE X.K G H σ ρ)(h:(g ρ).post (Fin G H rep Q) (Exx X σ G H)):tG X rep g σ H Q:=⟨G,ρ,st,h⟩
end
abbrev tF(X:Cx)(g:Ev->R D):TE:=tG X (Rep X.K) g
abbrev tTF(X:Cx)(g:Ev->R Bool):TT:=tG X (λ_ b c=>b=c) g
abbrev tAF(X:Cx)(g:Ev->R (List D)):TA:=tG X (Reps X.K) g
def PF(X:Cx)(e:Expr)(g:Ev->R D):Prop:=PE X e (tF X g)
def PB(X:Cx)(e:Expr)(g:Ev->R Bool):Prop:=PT X e (tTF X g)
def PBW(X:Cx)(e:Expr)(g:Ev->R Bool):Prop:=PW X e (tTF X g)
def PFA(X:Cx)(es:List Expr)(g:Ev->R (List D)):Prop:=PA X es (tAF X g)
end L2
variable{ow:L2.jb}{ρ:L2.Ev}{gb ge:L2.Ev->L2.R L2.D}{gl gi:L2.Ev->L2.R (List L2.D)}{asg:L2.D->L2.Ev->L2.R L2.Ev}{items:List L2.D}{F gr aR aI aN bc df bt ar aJ cD eV:List L2.D->L2.R L2.D}{fs':List (Nat×L2.Fd)}{kv:List (Nat×L2.D)}
namespace L2
open PySem PySem.Spec PyProof.Rows
def rdV.ok{i:Nat}{P:D->Prop}{E:Addr->Prop}(h:(rdV ρ i).post P E):∃d,ρ[i]?=some (some (.val d))/\P d:=by
 unfold rdV at h;split at h;·rename_i d e;exact⟨d,e,h⟩
 ·exact h.elim
section
variable{e a b c:Expr}{ga gc:Ev->R D}
def xD(i:Nat)(hN:X.N[i]?=some x:=by rfl)(hv:Vis X.env.scope x:=by first|exact Or.inl rfl|exact Or.inr (Or.inl rfl)|exact Or.inr (Or.inr rfl))(hd:(x==("__debug__":Str))=false:=by decide)(hcd:(x==("__classdict__":Str))=false:=by decide):PF X (.Name x pos) (λρ=>rdV ρ i):=by
 intro pins s σ H Q I h;obtain⟨G,ρ,st,h⟩:=h;refine fD hN hv hd hcd pins s σ H Q I ?_;obtain⟨d,e,q⟩:=rdV.ok h;obtain⟨v,e',r⟩:=st.val i d e;exact⟨v,e',q v G H (.refl st.sub) r⟩
def iG{d:D}(h:PE X e (tC v))(hr:∀K G,Rep K G v d):PF X e (λ_=>.ok d):=by intro pins s σ H Q I q;obtain⟨G,ρ,st,q⟩:=q;exact h pins s σ H Q I (q v G H (.refl st.sub) (hr _ _))
def ai{i:Int}:PF X (.Constant (.int i) j pos) (λ_=>.ok (.int i)):=iG yh λ_ _=>.int i
def mY{k:Bool}:PF X (.Constant (.bool k) j pos) (λ_=>.ok (.bl k)):=iG ya λ_ _=>.bl k
def uv:PF X (.Constant .none j pos) (λ_=>.ok .non):=iG HJ λ_ _=>.non
def aW{l:List Nat}(hl:x.cps.toList=l:=by rfl)(hz:l.length<=1000:=by decide):PF X (.Constant (.str x) j pos) (λ_=>.ok (.str l)):=
 iG HX λ_ _=>.strL hl (w6 hz (by decide))
def dY{i:Int}{t:Tok}(hg:Gl X x)(hm:X.mg x=some (.int i t))(hd:(x==("__debug__":Str))=false:=by decide):PF X (.Name x pos) (λ_=>.ok (.int i)):=
 iG (rz (v:=.int i) hg hm ⟨t,rfl⟩ hd) λ_ _=>.int i
def ROk(K:PySem.W.Frag)(r:R2)(f:D->D->Option D):Prop:=∀(G H:Hp)(x y:V)(dx dy d:D)(Q:VK),Same G H->Rep K G x dx->Rep K G y dy->f dx dy=some d->Fin G H (Rep K) Q d->r x y H Q
def g2(f:D->D->Option D)(ga gb:Ev->R D):Ev->R D:=λρ=>ga ρ>>=λx=>gb ρ>>=λy=>ofO (f x y)
def zG{r:R2}{f:D->D->Option D}(hf:ROk X.K r f){Q:VK}(h:tF X (g2 f ga gb) σ H Q):tOp r (tF X ga) (tF X gb) σ H Q:=by obtain⟨G,ρ,st,h⟩:=h;refine tG.intro st h λx v G1 H1 u1 st1 r1 h1=>?_;refine tG.intro st1 h1 λy w G2 H2 u2 st2 r2 h2=>?_;obtain⟨d,e,q⟩:=ofO.ok h2;exact hf G2 H2 v w x y d Q st2.sub (r1.mono u2.gg) r2 e q
def pK{op:Operator}{r:R2}{f:D->D->Option D}(ho:OpR X (binaryOp op) r)(hf:ROk X.K r f)(ha:PF X a ga)(hb:PF X b gb):PF X (.BinOp a op b pos) (g2 f ga gb):=
 λpins s σ H Q I h=>KL ho ha hb pins s σ H Q I (zG hf h)
def wE{op:CmpOp}{r:R2}{f:D->D->Option D}(ho:OpR X (compareOp op) r)(hf:ROk X.K r f)(ha:PF X a ga)(hb:PF X b gb)(hm:behindInMarks op b=false):PF X (.Compare a [op] [b] pos) (g2 f ga gb):=
 λpins s σ H Q I h=>Eu ho ha hb hm pins s σ H Q I (zG hf h)
def g3(f f':D->D->Option D)(ga gb gc:Ev->R D):Ev->R D:=λρ=>ga ρ>>=λx=>gb ρ>>=λy=>ofO (f x y)>>=λz=>match z with
 |.bl true=>gc ρ>>=λw=>ofO (f' y w)
 |.bl false=>.ok (.bl false)
 |_=>.no
def ul{op op':CmpOp}{r r':R2}{f f':D->D->Option D}(ho:OpR X (compareOp op) r)(ho':OpR X (compareOp op') r')(hf:ROk X.K r f)(hf':ROk X.K r' f')(ha:PF X a ga)(hb:PF X b gb)(hc:PF X c gc)(hm:lastMarks [op,op'] [b,c]=false:=by with_unfolding_all rfl):PF X (.Compare a [op,op'] [b,c] pos) (g3 f f' ga gb gc):=by
 intro pins s σ H Q I h;refine zZ ho ho' ha hb hc hm pins s σ H Q I ?_;obtain⟨G,ρ,st,h⟩:=h;refine tG.intro st h λx v G1 H1 u1 st1 r1 h1=>?_;refine tG.intro st1 h1 λy w G2 H2 u2 st2 r2 h2=>?_;cases e:f x y with
 |none=>rw[e]at h2;exact h2.elim
 |some d=>
  rw[e]at h2;refine hf G2 H2 v w x y d _ st2.sub (r1.mono u2.gg) r2 e λz G3 H3 u3 r3=>?_;have h3:=nc u3 h2;have st3:=st2.up u3;cases r3 with
  |bl k=>
   refine⟨k,rfl,?_⟩;cases k with
   |false=>rw[if_neg sP];exact h3 _ G3 H3 (.refl st3.sub) (.bl false)
   |true=>rw[if_pos rfl];refine tG.intro st3 (show(gc ρ>>=λw=>ofO (f' y w)).post _ _ from h3) λq vq G4 H4 u4 st4 r4 h4=>?_;obtain⟨d,e',q'⟩:=ofO.ok h4;exact hf' G4 H4 w vq y q d Q st4.sub ((r2.mono u3.gg).mono u4.gg) r4 e' q'
  |_=>exact h3.elim
end
section
noncomputable def cP:D->D->Option D
 |.int i,.int j=>some (.int (i+j))
 |.str x,.str y=>if x.length+y.length<=sizeLine then some (.str (x++y))else none
 |.lst false xs,.lst false ys=>if xs.length+ys.length<=sizeLine then some (.lst false (xs++ys))else none
 |.tup xs,.tup ys=>if xs.length+ys.length<=sizeLine then some (.tup (xs++ys))else none
 |_,_=>none
noncomputable def Cw(K:PySem.W.Frag):R2:=λx y H Q=>∃a b xs ys,x=.ref a/\y=.ref b/\SqT K H a xs/\SqT K H b ys/\xs.length+ys.length<=sizeLine/\
 (xs=[]->Q (.ref b) H)/\(xs≠[]->ys=[]->Q (.ref a) H)/\(xs≠[]->ys≠[]->∀p,H p=none->Q (.ref p) (upd H p (.tup (xs++ys))))
def BD:OpR X (binaryOp .Add) (Cw X.K):=by
 intro pins s σ H x y v u Q I rx ry h;obtain⟨a,b,xs,ys,rfl,rfl,ha,hb,hz,q0,q1,q2⟩:=h;by_cases hx:xs=[]
 ·cases rx;cases ry;obtain⟨its,r1,p1,_⟩:=I.tuple ha;obtain⟨its2,r2,p2,_⟩:=I.tuple hb;have hi:its=[]:=r1.nil_iff.mpr hx;obtain⟨⟨cls,dd,data,sl⟩,ho,hc,n,hd⟩:=id p1;obtain⟨⟨cls2,dd2,data2,sl2⟩,ho2,hc2,n2,hd2⟩:=id p2;simp only at hc hd hc2 hd2;subst hc hd hc2 hd2;exact concat_meets ⟨_,ho,rfl⟩ ⟨_,ho2,rfl⟩ Y7 seq_tuple_add PySem.F.slot_tuple_add PySem.F.entry_tuple_add (PySem.F.args_tuple_add_2 _ _)
   (tuple_addW0 a b its.toArray its2.toArray n n2 dd dd2 sl sl2 (by simp[hi])) ⟨ho,ho2,.ref b,H,I,rfl,q0 hx⟩
 ·exact CZ pins s σ H _ _ v u Q I rx ry ⟨a,b,xs,ys,rfl,rfl,ha,hb,hx,hz,q1 hx,q2 hx⟩
def Gz(K:PySem.W.Frag):R2:=λx y H Q=>(rI0 λi j=>.int (i+j)) x y H Q\/(∃i j,x=.str i/\y=.str j/\i.length+j.length<=sizeLine/\Q (.str (i++j)) H)\/Lq x y H Q\/Cw K x y H Q
def Dj:OpR X (binaryOp .Add) (Gz X.K):=op_add.or (op_add_str.or (op_cat.or BD))
def Str.app_list(x y:Str):(x++y).cps.toList=x.cps.toList++y.cps.toList:=by show(x.cps++y.cps).toList=_;simp
def Str.len_list(x:Str):x.cps.toList.length=x.length:=by simp[Str.length]
def Il(K:PySem.W.Frag):ROk K (Gz K) cP:=by
 intro G H x y dx dy d Q s rx ry e q;unfold cP at e;split at e;·cases e;exact .inl ⟨_,_,rx.int_inv,ry.int_inv,q _ G H (.refl s) (.int _)⟩
 ·split at e;·rename_i hz;cases e;obtain⟨i,rfl,ei,hi⟩:=rx.str_inv;obtain⟨j,rfl,ej,hj⟩:=ry.str_inv;subst ei ej;rw[Str.len_list,Str.len_list]at hz;exact .inr (.inl ⟨i,j,rfl,rfl,hz,q _ G H (.refl s) (.strL (Str.app_list i j) (by rw[v6,Str.len_list,Str.len_list];exact hz))⟩)
  ·cases e
 ·split at e;·rename_i hz;cases e;obtain⟨a,vs,rfl,ha,ra⟩:=rx.lst_inv;obtain⟨b,ws,rfl,hb,rb⟩:=ry.lst_inv;refine .inr (.inr (.inl ⟨a,b,vs,ws,rfl,rfl,s _ _ ha,s _ _ hb,by rw[ra.length,rb.length];exact hz,λp hp=>q _ _ _ (.new s hp) (.lst ay ?_)⟩));exact(ra.append rb).mono (.into (s.free hp))
  ·cases e
 ·split at e
  ·rename_i hz;cases e;obtain⟨a,vs,rfl,ha,ra⟩:=rx.tup_inv;obtain⟨b,ws,rfl,hb,rb⟩:=ry.tup_inv;refine .inr (.inr (.inr ⟨a,b,vs,ws,rfl,rfl,ha.mono s,hb.mono s,by rw[ra.length,rb.length];exact hz,λz=>?_,λ_ z=>?_,λ_ _ p hp=>?_⟩));·subst z;cases ra;exact q _ G H (.refl s) (.tup hb rb)
   ·subst z;cases rb;rw[qo]at q;exact q _ G H (.refl s) (.tup ha ra)
   ·exact q _ _ _ (.new s hp) (.tup (.of ay) ((ra.append rb).mono (.into (s.free hp))))
  ·cases e
 ·cases e
def cf{a b:Expr}{ga:Ev->R D}(ha:PF X a ga)(hb:PF X b gb):PF X (.BinOp a .Add b pos) (g2 cP ga gb):=pK Dj (Il _) ha hb
def Bv:D->D->Option D
 |.int i,.int j=>some (.int (i - j))
 |_,_=>none
def uH{a b:Expr}{ga:Ev->R D}(ha:PF X a ga)(hb:PF X b gb):PF X (.BinOp a .Sub b pos) (g2 Bv ga gb):=pK Ha (by
 intro G H x y dx dy d Q s rx ry e q;unfold Bv at e;split at e;·cases e;exact⟨_,_,rx.int_inv,ry.int_inv,q _ G H (.refl s) (.int _)⟩
 ·cases e) ha hb
def zI:D->D->Option D
 |.int i,.int j=>if 0<j/\j<1073741824 then some (.int (i / j))else none
 |_,_=>none
def Da{a b:Expr}{ga:Ev->R D}(ha:PF X a ga)(hb:PF X b gb):PF X (.BinOp a .FloorDiv b pos) (g2 zI ga gb):=pK EA (by
 intro G H x y dx dy d Q s rx ry e q;unfold zI at e;split at e
 ·split at e;·rename_i hc;cases e;exact⟨_,_,rx.int_inv,ry.int_inv,hc,q _ G H (.refl s) (.int _)⟩
  ·cases e
 ·cases e) ha hb
def xK:D->D->Option D
 |.int i,.int j=>if 0<j then some (.int (i % j))else none
 |_,_=>none
def tK{a b:Expr}{ga:Ev->R D}(ha:PF X a ga)(hb:PF X b gb):PF X (.BinOp a .Mod b pos) (g2 xK ga gb):=pK Gq (by
 intro G H x y dx dy d Q s rx ry e q;unfold xK at e;split at e
 ·split at e;·rename_i hc;cases e;exact⟨_,_,rx.int_inv,ry.int_inv,hc,q _ G H (.refl s) (.int _)⟩
  ·cases e
 ·cases e) ha hb
end
section
variable{a b c e:Expr}{ga gc:Ev->R D}
def leD:D->D->Option D
 |.int i,.int j=>some (.bl (decide (i<=j)))
 |.str x,.str y=>some (.bl (!decide (y<x)))
 |_,_=>none
def ltD:D->D->Option D
 |.int i,.int j=>some (.bl (decide (i<j)))
 |.str x,.str y=>some (.bl (decide (x<y)))
 |_,_=>none
def gtD:D->D->Option D
 |.int i,.int j=>some (.bl (decide (j<i)))
 |_,_=>none
def geD:D->D->Option D
 |.int i,.int j=>some (.bl (decide (j<=i)))
 |_,_=>none
def zn:OpR X (compareOp .LtE) (λx y H Q=>∃i j:Str,x=.str i/\y=.str j/\Q (.bl (!decide (j.cps.toList<i.cps.toList))) H):=by intro pins s σ H x y v u Q I rx ry h;obtain⟨i,j,rfl,rfl,q⟩:=h;obtain⟨t,rfl⟩:=rx;obtain⟨t',rfl⟩:=ry;exact PySem.P.le_str (xb I q rfl)
def vK(K:PySem.W.Frag):ROk K (λx y H Q=>(rI0 λi j=>.bl (decide (i<=j))) x y H Q\/∃i j:Str,x=.str i/\y=.str j/\Q (.bl (!decide (j.cps.toList<i.cps.toList))) H) leD:=by
 intro G H x y dx dy d Q s rx ry e q;unfold leD at e;split at e;·cases e;exact .inl ⟨_,_,rx.int_inv,ry.int_inv,q _ G H (.refl s) (.bl _)⟩
 ·cases e;obtain⟨i,rfl,ei,hi⟩:=rx.str_inv;obtain⟨j,rfl,ej,hj⟩:=ry.str_inv;subst ei ej;exact .inr ⟨i,j,rfl,rfl,q _ G H (.refl s) (.bl _)⟩
 ·cases e
def HC(K:PySem.W.Frag):ROk K (λx y H Q=>(rI0 λi j=>.bl (decide (i<j))) x y H Q\/∃i j:Str,x=.str i/\y=.str j/\Q (.bl (decide (i.cps.toList<j.cps.toList))) H) ltD:=by
 intro G H x y dx dy d Q s rx ry e q;unfold ltD at e;split at e;·cases e;exact .inl ⟨_,_,rx.int_inv,ry.int_inv,q _ G H (.refl s) (.bl _)⟩
 ·cases e;obtain⟨i,rfl,ei,hi⟩:=rx.str_inv;obtain⟨j,rfl,ej,hj⟩:=ry.str_inv;subst ei ej;exact .inr ⟨i,j,rfl,rfl,q _ G H (.refl s) (.bl _)⟩
 ·cases e
def KY(K:PySem.W.Frag):ROk K (rI0 λi j=>.bl (decide (j<i))) gtD:=by
 intro G H x y dx dy d Q s rx ry e q;unfold gtD at e;split at e;·cases e;exact⟨_,_,rx.int_inv,ry.int_inv,q _ G H (.refl s) (.bl _)⟩
 ·cases e
def mK:OpR X (compareOp .LtE) (λx y H Q=>(rI0 λi j=>.bl (decide (i<=j))) x y H Q\/∃i j:Str,x=.str i/\y=.str j/\Q (.bl (!decide (j.cps.toList<i.cps.toList))) H):=op_le.or zn
def CG:OpR X (compareOp .Lt) (λx y H Q=>(rI0 λi j=>.bl (decide (i<j))) x y H Q\/∃i j:Str,x=.str i/\y=.str j/\Q (.bl (decide (i.cps.toList<j.cps.toList))) H):=op_lt.or xv
def Gx(ha:PF X a ga)(hb:PF X b gb):PF X (.Compare a [.LtE] [b] pos) (g2 leD ga gb):=wE mK (vK _) ha hb (iC _)
def KA(ha:PF X a ga)(hb:PF X b gb):PF X (.Compare a [.Lt] [b] pos) (g2 ltD ga gb):=wE CG (HC _) ha hb (iC _)
def sH(ha:PF X a ga)(hb:PF X b gb)(hc:PF X c gc)(hm:lastMarks [.LtE,.LtE] [b,c]=false:=by with_unfolding_all rfl):PF X (.Compare a [.LtE,.LtE] [b,c] pos) (g3 leD leD ga gb gc):=ul mK mK (vK _) (vK _) ha hb hc hm
end
def eqZ(f:D->D->Option Bool):List D->List D->Option (List Bool)
 |x::xs,y::ys=>(f x y).bind λb=>(eqZ f xs ys).map (b::·)
 |_,_=>some []
noncomputable def eqD:Nat->D->D->Option Bool
 | 0,_,_=>none
 |n+1,a,b=>match a,b with
  |.non,.non=>some true
  |.bl x,.bl y=>some (x==y)
  |.int i,.int j=>some (i==j)
  |.str x,.str y=>some (x==y)
  |.bl x,.int j=>some ((if x then 1 else 0)==j)
  |.int i,.bl y=>some (i==(if y then 1 else 0))
  |.lst _ xs,.lst _ ys=>if xs.length=ys.length then (eqZ (eqD n) xs ys).map λbs=>bs.all id else some false
  |.tup xs,.tup ys=>(eqZ (eqD n) xs ys).map λbs=>bs.all id && xs.length==ys.length
  |.exc _,_=>none
  |.dct _ _,_=>none
  |_,.exc _=>none
  |_,.dct _ _=>none
  |_,_=>some false
theorem eqZ.get{f:D->D->Option Bool}:∀{xs ys:List D}{bs:List Bool},eqZ f xs ys=some bs->bs.length=min xs.length ys.length/\∀(j:Nat)(x y:D),xs[j]?=some x->ys[j]?=some y->∃b,bs[j]?=some b/\f x y=some b
 | [],_,_,e=>by simp[eqZ]at e;subst e;exact⟨by simp,λj x y h=>by simp at h⟩
 |_::_,[],_,e=>by simp[eqZ]at e;subst e;exact⟨by simp,λj x y _ h=>by simp at h⟩
 |x::xs,y::ys,bs,e=>by
  unfold eqZ at e;cases e1:f x y with
  |none=>rw[e1]at e;cases e
  |some b=>
   rw[e1]at e;cases e2:eqZ f xs ys with
   |none=>rw[e2]at e;cases e
   |some cs=>
    rw[e2]at e;cases e;obtain⟨h1,h2⟩:=eqZ.get e2;refine⟨by simp[h1],λj=>?_⟩;cases j with
    |zero=>intro x' y' hx hy;simp at hx hy;subst hx hy;exact⟨b,rfl,e1⟩
    |succ j=>intro x' y' hx hy;exact h2 j x' y' (by simpa using hx) (by simpa using hy)
def lx{bs:List Bool}{n:Nat}(h:bs.length=n):(List.range n).all (λj=>bs.getD j true)=bs.all id:=by
 subst h;rw[Yc,sI,sI];constructor;·intro h b hb;obtain⟨i,hi,rfl⟩:=List.mem_iff_getElem.mp hb;have:=h i (by simpa using hi);simpa[v9,hi]using this
 ·intro h j hj;have hj':j<bs.length:=by simpa using hj
  have:=h bs[j] (l6 hj');simpa[v9,hj']using this
def cS:(Value.type "list":Value)≠.type "tuple":=by intro h;injection h with h;exact absurd h (by decide)
section
open SeqAt
def fh(I:Inv X pins σ H s)(sub:Same G H):∀(n:Nat)(a b:D)(k:Bool)(x:V),eqD n a b=some k->Rep X.K G x a->Rep X.K G x b->k=true:=by
 intro n;induction n with
 |zero=>intro a b k x e;cases e
 |succ n ih=>
  have sq:∀(vs:List V)(xs ys:List D),Reps X.K G vs xs->Reps X.K G vs ys->∀bs,eqZ (eqD n) xs ys=some bs->bs.all id=true:=by
   intro vs;induction vs with
   |nil=>intro xs ys h1 h2 bs e;cases h1;cases h2;simp[eqZ]at e;subst e;rfl
   |cons v vs ihv=>
    intro xs ys h1 h2 bs e;cases h1 with
    |cons r1 t1=>
     cases h2 with
     |cons r2 t2=>
      unfold eqZ at e;rename_i d1 ds1 d2 ds2;cases e1:eqD n d1 d2 with
      |none=>rw[e1]at e;cases e
      |some b=>
       rw[e1]at e;cases e2:eqZ (eqD n) ds1 ds2 with
       |none=>rw[e2]at e;cases e
       |some cs=>rw[e2]at e;cases e;rw[ca,ih _ _ _ _ e1 r1 r2,ihv _ _ t1 t2 _ e2];rfl
  intro a b k x e ra rb;cases ra with
  |non=>cases rb;simp[eqD]at e;exact e
  |bl y=>cases rb;simp[eqD]at e;exact e
  |int i=>cases rb;simp[eqD]at e;exact e
  |str y h=>
   cases rb with
   |str z h'=>simp[eqD]at e;exact e
  |tup h r=>
   cases rb with
   |tup h' r'=>
    have q:=I.tuple_inj (h.mono sub) (h'.mono sub);subst q;simp only[eqD]at e;rename_i ds es;cases e2:eqZ (eqD n) ds es with
    |none=>rw[e2]at e;cases e
    |some cs=>rw[e2]at e;have this:(cs.all id && ds.length==es.length)=k:=vC e;rw[sq _ _ _ r r' _ e2,ZF]at this;rw[<- this,<- r.length,<- r'.length];simp
   |lst h' r'=>obtain⟨its,_,⟨o,e1,c1,_⟩,_⟩:=I.tuple (h.mono sub);obtain⟨_,its',n',_,e2⟩:=I.hok _ _ (sub _ _ h');rw[e1]at e2;cases e2;exact absurd c1 cS
   |fls h' r'=>obtain⟨its,_,⟨o,e1,c1,_⟩,_⟩:=I.tuple (h.mono sub);obtain⟨its',_,⟨o',n',e2,c2,_⟩,_⟩:=I.list (h'.mono sub);rw[e1]at e2;cases e2;rw[c1]at c2;exact absurd c2.symm cS
   |exc h'=>simp[eqD]at e
   |dct _ _ _=>simp[eqD]at e
  |lst h r=>
   have hl:SqL X.K G _ _:=SqL.of h;cases rb with
   |tup h' r'=>obtain⟨its,_,⟨o,e1,c1,_⟩,_⟩:=I.tuple (h'.mono sub);obtain⟨_,its',n',_,e2⟩:=I.hok _ _ (sub _ _ h);rw[e1]at e2;cases e2;exact absurd c1 cS
   |lst h' r'=>
    rw[h]at h';cases h';simp only[eqD]at e;rw[if_pos (by rw[<- r.length,<- r'.length])]at e;rename_i ds es;cases e2:eqZ (eqD n) ds es with
    |none=>rw[e2]at e;cases e
    |some cs=>rw[e2]at e;have:=vC e;rw[<- this];exact sq _ _ _ r r' _ e2
   |fls h' r'=>
    have q:=I.list_inj (hl.mono sub) (h'.mono sub);subst q;simp only[eqD]at e;rw[if_pos (by rw[<- r.length,<- r'.length])]at e;rename_i ds es;cases e2:eqZ (eqD n) ds es with
    |none=>rw[e2]at e;cases e
    |some cs=>rw[e2]at e;have:=vC e;rw[<- this];exact sq _ _ _ r r' _ e2
   |exc h'=>simp[eqD]at e
   |dct _ _ _=>simp[eqD]at e
  |fls h r=>
   cases rb with
   |tup h' r'=>obtain⟨its,_,⟨o,e1,c1,_⟩,_⟩:=I.tuple (h'.mono sub);obtain⟨its',_,⟨o',n',e2,c2,_⟩,_⟩:=I.list (h.mono sub);rw[e1]at e2;cases e2;rw[c1]at c2;exact absurd c2.symm cS
   |lst h' r'=>
    have q:=I.list_inj (h.mono sub) ((SqL.of h':SqL X.K G _ _).mono sub);subst q;simp only[eqD]at e;rw[if_pos (by rw[<- r.length,<- r'.length])]at e;rename_i ds es;cases e2:eqZ (eqD n) ds es with
    |none=>rw[e2]at e;cases e
    |some cs=>rw[e2]at e;have:=vC e;rw[<- this];exact sq _ _ _ r r' _ e2
   |fls h' r'=>
    have q:=I.list_inj (h.mono sub) (h'.mono sub);subst q;simp only[eqD]at e;rw[if_pos (by rw[<- r.length,<- r'.length])]at e;rename_i ds es;cases e2:eqZ (eqD n) ds es with
    |none=>rw[e2]at e;cases e
    |some cs=>rw[e2]at e;have:=vC e;rw[<- this];exact sq _ _ _ r r' _ e2
   |exc h'=>simp[eqD]at e
   |dct _ _ _=>simp[eqD]at e
  |exc h=>simp[eqD]at e
  |dct _ _ _=>simp[eqD]at e
structure Eqs(A:Around)(s:Shared)(v u:Value)(k:Bool):Prop where
 eq:EqAt A s v u k
 rc:RcAt A s v u k
 ne:RcNeAt A s v u (!k)
def gW{f:Bool}{x:V}{u:Value}{ds:List D}(I:Inv X pins σ H s)(sub:Same G H)(r:Rep X.K G x (.lst f ds))(ru:RelV x u):∃a its vs,u=.ref a/\s.heap.IsList a (List.toArray its)/\Vals vs its/\Reps X.K G vs ds:=by obtain⟨a,vs,rfl,h,t⟩:=r.seq_inv;cases ru;obtain⟨its,rv,⟨o,n,e1,c1,_,d1⟩,_⟩:=I.list (h.mono sub);exact⟨a,its,vs,rfl,⟨o,e1,c1,n,d1⟩,rv,t⟩
def kw{x:V}{u:Value}{ds:List D}(I:Inv X pins σ H s)(sub:Same G H)(r:Rep X.K G x (.tup ds))(ru:RelV x u):∃a its vs,u=.ref a/\s.heap.IsTuple a (List.toArray its)/\Vals vs its/\Reps X.K G vs ds:=by obtain⟨a,vs,rfl,h,t⟩:=r.tup_inv;cases ru;obtain⟨its,rv,p,_⟩:=I.tuple (h.mono sub);exact⟨a,its,vs,rfl,p,rv,t⟩
def xW(I:Inv X pins σ H s)(sub:Same G H):∀(n:Nat)(A:Around)(a b:D)(k:Bool)(x y:V)(v u:Value),A.units+n<cLine->eqD n a b=some k->Rep X.K G x a->Rep X.K G y b->RelV x v->RelV y u->Eqs A s v u k:=by
 intro n;induction n with
 |zero=>intro A a b k x y v u _ e;cases e
 |succ n ih=>
  have sq:∀(A:Around)(vs ws:List V)(xs ys:List D)(is js:List Value)(bs:List Bool),A.units+(n+1)<cLine->Reps X.K G vs xs->Reps X.K G ws ys->Vals vs is->Vals ws js->eqZ (eqD n) xs ys=some bs->
    bs.length=min is.length js.length/\∀j (h1:j<is.toArray.size) (h2:j<js.toArray.size),EqAt A.in1 s is.toArray[j] js.toArray[j] (bs.getD j true):=by
   intro A vs ws xs ys is js bs hA r1 r2 v1 v2 e;obtain⟨h1,h2⟩:=eqZ.get e;refine⟨by rw[h1,<- r1.length,<- r2.length,v1.length,v2.length],λj q1 q2=>?_⟩;rw[wg]at q1 q2;have p1:j<xs.length:=by rw[<- r1.length,v1.length];exact q1
   have p2:j<ys.length:=by rw[<- r2.length,v2.length];exact q2
   obtain⟨b,e1,e2⟩:=h2 j xs[j] ys[j] (by simp[p1]) (by simp[p2]);obtain⟨x',ex,rx⟩:=r1.get (i:=j) (d:=xs[j]) (by simp[p1]);obtain⟨y',ey,ry⟩:=r2.get (i:=j) (d:=ys[j]) (by simp[p2]);obtain⟨u1,eu1,ru1⟩:=v1.get ex;obtain⟨u2,eu2,ru2⟩:=v2.get ey;have g1:is.toArray[j]=u1:=by simpa[q1]using eu1
   have g2:js.toArray[j]=u2:=by simpa[q2]using eu2
   rw[v9,e1];simp only[List.getElem_toArray]at g1 g2⊢;rw[g1,g2];exact(ih A.in1 _ _ b x' y' u1 u2 (by show A.units+1+n<cLine;omega) e2 rx ry ru1 ru2).eq
  intro A a b k x y v u hA e ra rb rv ru;have hu:A.units<cLine:=by omega
  have same:∀c d:Addr,v=.ref c->u=.ref d->c=d->k=true:=λc d h1 h2 h3=>by
   subst h1 h2 h3;cases ra with
   |tup h r=>cases rv;cases rb with
    |tup h' r'=>cases ru;exact fh I sub (n+1) _ _ k _ e (.tup h r) (.tup h' r')
    |lst h' r'=>cases ru;exact fh I sub (n+1) _ _ k _ e (.tup h r) (.lst h' r')
    |fls h' r'=>cases ru;exact fh I sub (n+1) _ _ k _ e (.tup h r) (.fls h' r')
    |exc h'=>simp[eqD]at e
    |dct _ _ _=>simp[eqD]at e
    |str _ _=>obtain⟨t,z⟩:=ru;cases z
    |int _=>obtain⟨t,z⟩:=ru;cases z
    |non=>cases ru
    |bl _=>cases ru
   |lst h r=>cases rv;cases rb with
    |tup h' r'=>cases ru;exact fh I sub (n+1) _ _ k _ e (.lst h r) (.tup h' r')
    |lst h' r'=>cases ru;exact fh I sub (n+1) _ _ k _ e (.lst h r) (.lst h' r')
    |fls h' r'=>cases ru;exact fh I sub (n+1) _ _ k _ e (.lst h r) (.fls h' r')
    |exc h'=>simp[eqD]at e
    |dct _ _ _=>simp[eqD]at e
    |str _ _=>obtain⟨t,z⟩:=ru;cases z
    |int _=>obtain⟨t,z⟩:=ru;cases z
    |non=>cases ru
    |bl _=>cases ru
   |fls h r=>cases rv;cases rb with
    |tup h' r'=>cases ru;exact fh I sub (n+1) _ _ k _ e (.fls h r) (.tup h' r')
    |lst h' r'=>cases ru;exact fh I sub (n+1) _ _ k _ e (.fls h r) (.lst h' r')
    |fls h' r'=>cases ru;exact fh I sub (n+1) _ _ k _ e (.fls h r) (.fls h' r')
    |exc h'=>simp[eqD]at e
    |dct _ _ _=>simp[eqD]at e
    |str _ _=>obtain⟨t,z⟩:=ru;cases z
    |int _=>obtain⟨t,z⟩:=ru;cases z
    |non=>cases ru
    |bl _=>cases ru
   |exc h=>simp[eqD]at e
   |dct _ _ _=>simp[eqD]at e
   |str _ _=>obtain⟨t,z⟩:=rv;cases z
   |int _=>obtain⟨t,z⟩:=rv;cases z
   |non=>cases rv
   |bl _=>cases rv
  have refs:∀c d:Addr,v=.ref c->u=.ref d->RcAt A s v u k->EqAt A s v u k:=λc d h1 h2 h=>by
   subst h1 h2;by_cases h3:c=d;·have:=same c d rfl rfl h3;subst h3 this;exact EqAt.same _
   ·exact EqAt.of_refs h3 h
  cases a with
  |exc C=>simp[eqD]at e
  |dct _ _=>simp[eqD]at e
  |non=>
   obtain rfl:=ra.non_inv;cases rv;cases b with
   |exc C=>simp[eqD]at e
   |dct _ _=>simp[eqD]at e
   |non=>obtain rfl:=rb.non_inv;cases ru;simp[eqD]at e;subst e;exact⟨EqAt.same _,RcAt.none_none,RcNeAt.none_none⟩
   |bl z=>obtain rfl:=rb.bl_inv;cases ru;simp[eqD]at e;subst e;exact⟨EqAt.none_bool _,RcAt.none_bool _,RcNeAt.none_bool _⟩
   |int z=>obtain rfl:=rb.int_inv;obtain⟨t,rfl⟩:=ru;simp[eqD]at e;subst e;exact⟨EqAt.none_int _ _,RcAt.none_int _ _,RcNeAt.none_int _ _⟩
   |str z=>obtain⟨z,rfl,-,-⟩:=rb.str_inv;obtain⟨t,rfl⟩:=ru;simp[eqD]at e;subst e;exact⟨EqAt.none_str _ _,RcAt.none_str _ _,RcNeAt.none_str _ _⟩
   |tup ds=>obtain⟨c,its,vs,rfl,p,_,_⟩:=kw I sub rb ru;simp[eqD]at e;subst e;exact⟨EqAt.none_tuple p hu,RcAt.none_tuple p hu,RcNeAt.none_tuple p hu⟩
   |lst f ds=>obtain⟨c,its,vs,rfl,p,_,_⟩:=gW I sub rb ru;simp[eqD]at e;subst e;exact⟨EqAt.none_list p hu,RcAt.none_list p hu,RcNeAt.none_list p hu⟩
  |bl w=>
   obtain rfl:=ra.bl_inv;cases rv;cases b with
   |exc C=>simp[eqD]at e
   |dct _ _=>simp[eqD]at e
   |non=>obtain rfl:=rb.non_inv;cases ru;simp[eqD]at e;subst e;exact⟨EqAt.bool_none _,RcAt.bool_none _,RcNeAt.bool_none _⟩
   |bl z=>obtain rfl:=rb.bl_inv;cases ru;simp only[eqD]at e;cases e;exact⟨EqAt.bool_bool _ _,RcAt.bool_bool _ _,RcNeAt.bool_bool _ _⟩
   |int z=>obtain rfl:=rb.int_inv;obtain⟨t,rfl⟩:=ru;simp only[eqD]at e;cases e;exact⟨EqAt.bool_int _ _ _,RcAt.bool_int _ _ _,RcNeAt.bool_int _ _ _⟩
   |str z=>obtain⟨z,rfl,-,-⟩:=rb.str_inv;obtain⟨t,rfl⟩:=ru;simp[eqD]at e;subst e;exact⟨EqAt.bool_str _ _ _,RcAt.bool_str _ _ _,RcNeAt.bool_str _ _ _⟩
   |tup ds=>obtain⟨c,its,vs,rfl,p,_,_⟩:=kw I sub rb ru;simp[eqD]at e;subst e;exact⟨EqAt.bool_tuple _ p hu,RcAt.bool_tuple _ p hu,RcNeAt.bool_tuple _ p hu⟩
   |lst f ds=>obtain⟨c,its,vs,rfl,p,_,_⟩:=gW I sub rb ru;simp[eqD]at e;subst e;exact⟨EqAt.bool_list _ p hu,RcAt.bool_list _ p hu,RcNeAt.bool_list _ p hu⟩
  |int w=>
   obtain rfl:=ra.int_inv;obtain⟨t0,rfl⟩:=rv;cases b with
   |exc C=>simp[eqD]at e
   |dct _ _=>simp[eqD]at e
   |non=>obtain rfl:=rb.non_inv;cases ru;simp[eqD]at e;subst e;exact⟨EqAt.int_none _ _,RcAt.int_none _ _,RcNeAt.int_none _ _⟩
   |bl z=>obtain rfl:=rb.bl_inv;cases ru;simp only[eqD]at e;cases e;exact⟨EqAt.int_bool _ _ _,RcAt.int_bool _ _ _,RcNeAt.int_bool _ _ _⟩
   |int z=>obtain rfl:=rb.int_inv;obtain⟨t,rfl⟩:=ru;simp only[eqD]at e;cases e;exact⟨EqAt.int_int _ _ _ _,RcAt.int_int _ _ _ _,RcNeAt.int_int _ _ _ _⟩
   |str z=>obtain⟨z,rfl,-,-⟩:=rb.str_inv;obtain⟨t,rfl⟩:=ru;simp[eqD]at e;subst e;exact⟨EqAt.int_str _ _ _ _,RcAt.int_str _ _ _ _,RcNeAt.int_str _ _ _ _⟩
   |tup ds=>obtain⟨c,its,vs,rfl,p,_,_⟩:=kw I sub rb ru;simp[eqD]at e;subst e;exact⟨EqAt.int_tuple _ _ p hu,RcAt.int_tuple _ _ p hu,RcNeAt.int_tuple _ _ p hu⟩
   |lst f ds=>obtain⟨c,its,vs,rfl,p,_,_⟩:=gW I sub rb ru;simp[eqD]at e;subst e;exact⟨EqAt.int_list _ _ p hu,RcAt.int_list _ _ p hu,RcNeAt.int_list _ _ p hu⟩
  |str w=>
   obtain⟨w,rfl,ew,-⟩:=ra.str_inv;obtain⟨t0,rfl⟩:=rv;cases b with
   |exc C=>simp[eqD]at e
   |dct _ _=>simp[eqD]at e
   |non=>obtain rfl:=rb.non_inv;cases ru;simp[eqD]at e;subst e;exact⟨EqAt.str_none _ _,RcAt.str_none _ _,RcNeAt.str_none _ _⟩
   |bl z=>obtain rfl:=rb.bl_inv;cases ru;simp[eqD]at e;subst e;exact⟨EqAt.str_bool _ _ _,RcAt.str_bool _ _ _,RcNeAt.str_bool _ _ _⟩
   |int z=>obtain rfl:=rb.int_inv;obtain⟨t,rfl⟩:=ru;simp[eqD]at e;subst e;exact⟨EqAt.str_int _ _ _ _,RcAt.str_int _ _ _ _,RcNeAt.str_int _ _ _ _⟩
   |str z=>obtain⟨z,rfl,ez,-⟩:=rb.str_inv;obtain⟨t,rfl⟩:=ru;simp only[eqD]at e;subst ew ez;rw[str_beq]at e;cases e;exact⟨EqAt.str_str _ _ _ _,RcAt.str_str _ _ _ _,RcNeAt.str_str _ _ _ _⟩
   |tup ds=>obtain⟨c,its,vs,rfl,p,_,_⟩:=kw I sub rb ru;simp[eqD]at e;subst e;exact⟨EqAt.str_tuple _ _ p hu,RcAt.str_tuple _ _ p hu,RcNeAt.str_tuple _ _ p hu⟩
   |lst f ds=>obtain⟨c,its,vs,rfl,p,_,_⟩:=gW I sub rb ru;simp[eqD]at e;subst e;exact⟨EqAt.str_list _ _ p hu,RcAt.str_list _ _ p hu,RcNeAt.str_list _ _ p hu⟩
  |tup ds1=>
   obtain⟨c1,its1,vs1,rfl,p1,w1,q1⟩:=kw I sub ra rv;cases b with
   |exc C=>simp[eqD]at e
   |dct _ _=>simp[eqD]at e
   |non=>obtain rfl:=rb.non_inv;cases ru;simp[eqD]at e;subst e;exact⟨EqAt.tuple_none p1 hu,RcAt.tuple_none p1 hu,RcNeAt.tuple_none p1 hu⟩
   |bl z=>obtain rfl:=rb.bl_inv;cases ru;simp[eqD]at e;subst e;exact⟨EqAt.tuple_bool _ p1 hu,RcAt.tuple_bool _ p1 hu,RcNeAt.tuple_bool _ p1 hu⟩
   |int z=>obtain rfl:=rb.int_inv;obtain⟨t,rfl⟩:=ru;simp[eqD]at e;subst e;exact⟨EqAt.tuple_int _ _ p1 hu,RcAt.tuple_int _ _ p1 hu,RcNeAt.tuple_int _ _ p1 hu⟩
   |str z=>obtain⟨z,rfl,-,-⟩:=rb.str_inv;obtain⟨t,rfl⟩:=ru;simp[eqD]at e;subst e;exact⟨EqAt.tuple_str _ _ p1 hu,RcAt.tuple_str _ _ p1 hu,RcNeAt.tuple_str _ _ p1 hu⟩
   |lst f ds=>obtain⟨c,its,vs,rfl,p,_,_⟩:=gW I sub rb ru;simp[eqD]at e;subst e;exact⟨EqAt.tuple_list p1 p hu,RcAt.tuple_list p1 p hu,RcNeAt.tuple_list p1 p hu⟩
   |tup ds2=>
    obtain⟨c2,its2,vs2,rfl,p2,w2,q2⟩:=kw I sub rb ru;simp only[eqD]at e;cases e2:eqZ (eqD n) ds1 ds2 with
    |none=>rw[e2]at e;cases e
    |some bs=>
     rw[e2]at e;have ek:=vC e;obtain⟨hl,he⟩:=sq A _ _ _ _ _ _ bs hA q1 q2 w1 w2 e2;have e3:((List.range (min its1.toArray.size its2.toArray.size)).all (λj=>bs.getD j true) && its1.toArray.size==its2.toArray.size)=k:=by rw[<- ek,wg,wg,lx hl,<- w1.length,<- w2.length,q1.length,q2.length]
     have hrc:RcAt A s (.ref c1) (.ref c2) k:=by rw[<- e3];exact RcAt.tuples p1 p2 hu he
     have hne:RcNeAt A s (.ref c1) (.ref c2) (!k):=by rw[<- e3];exact RcNeAt.tuples p1 p2 hu he
     exact⟨refs _ _ rfl rfl hrc,hrc,hne⟩
  |lst f1 ds1=>
   obtain⟨c1,its1,vs1,rfl,p1,w1,q1⟩:=gW I sub ra rv;cases b with
   |exc C=>simp[eqD]at e
   |dct _ _=>simp[eqD]at e
   |non=>obtain rfl:=rb.non_inv;cases ru;simp[eqD]at e;subst e;exact⟨EqAt.list_none p1 hu,RcAt.list_none p1 hu,RcNeAt.list_none p1 hu⟩
   |bl z=>obtain rfl:=rb.bl_inv;cases ru;simp[eqD]at e;subst e;exact⟨EqAt.list_bool _ p1 hu,RcAt.list_bool _ p1 hu,RcNeAt.list_bool _ p1 hu⟩
   |int z=>obtain rfl:=rb.int_inv;obtain⟨t,rfl⟩:=ru;simp[eqD]at e;subst e;exact⟨EqAt.list_int _ _ p1 hu,RcAt.list_int _ _ p1 hu,RcNeAt.list_int _ _ p1 hu⟩
   |str z=>obtain⟨z,rfl,-,-⟩:=rb.str_inv;obtain⟨t,rfl⟩:=ru;simp[eqD]at e;subst e;exact⟨EqAt.list_str _ _ p1 hu,RcAt.list_str _ _ p1 hu,RcNeAt.list_str _ _ p1 hu⟩
   |tup ds=>obtain⟨c,its,vs,rfl,p,_,_⟩:=kw I sub rb ru;simp[eqD]at e;subst e;exact⟨EqAt.list_tuple p1 p hu,RcAt.list_tuple p1 p hu,RcNeAt.list_tuple p1 p hu⟩
   |lst f2 ds2=>
    obtain⟨c2,its2,vs2,rfl,p2,w2,q2⟩:=gW I sub rb ru;simp only[eqD]at e;by_cases hlen:ds1.length=ds2.length
    ·rw[if_pos hlen]at e;cases e2:eqZ (eqD n) ds1 ds2 with
     |none=>rw[e2]at e;cases e
     |some bs=>
      rw[e2]at e;have ek:=vC e;obtain⟨hl,he⟩:=sq A _ _ _ _ _ _ bs hA q1 q2 w1 w2 e2;have hz:its1.toArray.size=its2.toArray.size:=by rw[wg,wg,<- w1.length,<- w2.length,q1.length,q2.length];exact hlen
      have e3:(List.range its1.toArray.size).all (λj=>bs.getD j true)=k:=by rw[<- ek,lx];rw[hl,wg];simp only[wg]at hz;omega
      have hrc:RcAt A s (.ref c1) (.ref c2) k:=by rw[<- e3];exact RcAt.lists p1 p2 hz hu he
      have hne:RcNeAt A s (.ref c1) (.ref c2) (!k):=by rw[<- e3];exact RcNeAt.lists p1 p2 hz hu he
      exact⟨refs _ _ rfl rfl hrc,hrc,hne⟩
    ·rw[if_neg hlen]at e;cases e;have hz:(its1.toArray.size != its2.toArray.size)=true:=by rw[wg,wg,<- w1.length,<- w2.length,q1.length,q2.length];simpa using hlen
     have hrc:RcAt A s (.ref c1) (.ref c2) false:=RcAt.lists_lengths p1 p2 hz hu;exact⟨refs _ _ rfl rfl hrc,hrc,RcNeAt.lists_lengths p1 p2 hz hu⟩
end
section
variable{a b:Expr}{ga:Ev->R D}
def eqF(x y:D):Option D:=(eqD 40 x y).map .bl
def neF(x y:D):Option D:=(eqD 40 x y).map λk=>.bl (!k)
def IW(K:PySem.W.Frag)(neg:Bool):R2:=λx y H Q=>∃G dx dy k,Same G H/\Rep K G x dx/\Rep K G y dy/\eqD 40 dx dy=some k/\Q (.bl (if neg then !k else k)) H
def tI(hu:X.A.units+64<cLine):OpR X (compareOp .Eq) (IW X.K false):=by intro pins s σ H x y v u Q I rx ry h;obtain⟨G,dx,dy,k,sub,r1,r2,e,q⟩:=h;exact(xW I sub 40 X.A dx dy k x y v u (by omega) e r1 r2 rx ry).rc _ _ _ _ ⟨.bl k,H,I,rfl,q⟩
def Hs(hu:X.A.units+64<cLine):OpR X (compareOp .NotEq) (IW X.K true):=by intro pins s σ H x y v u Q I rx ry h;obtain⟨G,dx,dy,k,sub,r1,r2,e,q⟩:=h;exact(xW I sub 40 X.A dx dy k x y v u (by omega) e r1 r2 rx ry).ne _ _ _ _ ⟨.bl (!k),H,I,rfl,q⟩
def Az(hu:X.A.units+64<cLine)(ha:PF X a ga)(hb:PF X b gb):PF X (.Compare a [.Eq] [b] pos) (g2 eqF ga gb):=wE (tI hu) (by
 intro G H x y dx dy d Q s rx ry e q;unfold eqF at e;cases e1:eqD 40 dx dy with
 |none=>rw[e1]at e;cases e
 |some k=>rw[e1]at e;cases e;exact⟨G,dx,dy,k,s,rx,ry,e1,q _ G H (.refl s) (.bl k)⟩) ha hb (iC _)
end
end L2
namespace L2
open PySem PySem.Spec PyProof.Rows
section
variable{a b c e:Expr}{bQ:List Expr}{ga gc:Ev->R D}{gt gu:Ev->R Bool}
def isD:D->D->Option Bool
 |.non,.non=>some true
 |_,.non=>some false
 |.bl x,.bl y=>some (x==y)
 |_,_=>none
def isF(x y:D):Option D:=(isD x y).map .bl
def rIs(neg:Bool):R2:=λx y H Q=>(y=.non/\Q (.bl (if neg then !decide (x=.non)else decide (x=.non))) H)\/∃i j,x=.bl i/\y=.bl j/\Q (.bl (if neg then !(i==j)else (i==j))) H
def HM:OpR X (compareOp .Is) (rIs false):=op_isN.or (r':=λx y H Q=>∃i j,x=.bl i/\y=.bl j/\Q (.bl (i==j)) H) (by intro pins s σ H x y v u Q I rx ry h;obtain⟨i,j,rfl,rfl,q⟩:=h;cases rx;cases ry;exact is_bool ⟨.bl _,H,I,rfl,q⟩)
def K0(K:PySem.W.Frag)(neg:Bool):ROk K (rIs neg) (λx y=>(isD x y).map λk=>.bl (if neg then !k else k)):=by
 intro G H x y dx dy d Q s rx ry e q;dsimp only at e;cases e1:isD dx dy with
 |none=>rw[e1]at e;cases e
 |some k=>
  rw[e1]at e;have ed:D.bl (if neg=true then !k else k)=d:=vC e;subst ed;unfold isD at e1;split at e1;·cases e1;exact .inl ⟨ry.non_inv,by rw[rx.non_inv];exact q _ G H (.refl s) (.bl _)⟩
  ·rename_i hx;cases e1;have hn:x≠.non:=λz=>by subst z;cases rx;exact hx rfl
   refine .inl ⟨ry.non_inv,?_⟩;rw[t6 hn];exact q _ G H (.refl s) (.bl _)
  ·cases e1;exact .inr ⟨_,_,rx.bl_inv,ry.bl_inv,q _ G H (.refl s) (.bl _)⟩
  ·cases e1
def asB:D->R Bool
 |.bl k=>.ok k
 |_=>.no
def mM(ga gb:Ev->R D):Ev->R D:=λρ=>ga ρ>>=λx=>asB x>>=λk=>if k=true then gb ρ else .ok (.bl false)
def gOr(ga gb:Ev->R D):Ev->R D:=λρ=>ga ρ>>=λx=>asB x>>=λk=>if k=true then .ok (.bl true)else gb ρ
def KJ(ga:Ev->R D):Ev->R D:=λρ=>ga ρ>>=λx=>asB x>>=λk=>.ok (.bl (!k))
def asB.ok{β:Type}{K:PySem.W.Frag}{d:D}{k:Bool->R β}{P:β->Prop}{E:Addr->Prop}(r:Rep K G v d)(h:(asB d>>=k).post P E):∃c,v=.bl c/\d=.bl c/\(k c).post P E:=by
 cases r with
 |bl c=>exact⟨c,rfl,rfl,h⟩
 |_=>exact h.elim
def gU{op:BoolOp}(h:PF X a ga):PF X (.BoolOp op [a] pos) ga:=Im h
def fP(ha:PF X a ga)(hb:PF X (.BoolOp .And (b::bQ) pos) gb):PF X (.BoolOp .And (a::b::bQ) pos) (mM ga gb):=by
 intro pins s σ H Q I h;refine FV ha hb pins s σ H Q I ?_;obtain⟨G,ρ,st,h⟩:=h;refine tG.intro st h λx v G1 H1 u1 st1 r1 h1=>?_;obtain⟨c,ec,ed,h2⟩:=asB.ok r1 h1;subst ec ed;refine⟨c,rfl,?_⟩;cases c with
 |true=>rw[if_pos rfl]at h2⊢;exact tG.last st1 h2
 |false=>rw[if_neg sP]at h2⊢;exact h2 _ G1 H1 (.refl st1.sub) (.bl false)
def FA(ha:PF X a ga)(hb:PF X (.BoolOp .Or (b::bQ) pos) gb):PF X (.BoolOp .Or (a::b::bQ) pos) (gOr ga gb):=by
 intro pins s σ H Q I h;refine Ju ha hb pins s σ H Q I ?_;obtain⟨G,ρ,st,h⟩:=h;refine tG.intro st h λx v G1 H1 u1 st1 r1 h1=>?_;obtain⟨c,ec,ed,h2⟩:=asB.ok r1 h1;subst ec ed;refine⟨c,rfl,?_⟩;cases c with
 |true=>rw[if_pos rfl]at h2⊢;exact h2 _ G1 H1 (.refl st1.sub) (.bl true)
 |false=>rw[if_neg sP]at h2⊢;exact tG.last st1 h2
def Ga(ha:PF X a ga):PF X (.UnaryOp .Not a pos) (KJ ga):=by intro pins s σ H Q I h;refine Iu ha pins s σ H Q I ?_;obtain⟨G,ρ,st,h⟩:=h;refine tG.intro st h λx v G1 H1 u1 st1 r1 h1=>?_;obtain⟨c,ec,ed,h2⟩:=asB.ok r1 h1;subst ec ed;exact⟨c,rfl,h2 _ G1 H1 (.refl st1.sub) (.bl _)⟩
def HS:D->R D
 |.int i=>.ok (.int (-i))
 |_=>.no
def HD(ha:PF X a ga):PF X (.UnaryOp .USub a pos) (λρ=>ga ρ>>=HS):=by
 intro pins s σ H Q I h;refine JD GC ha pins s σ H Q I ?_;obtain⟨G,ρ,st,h⟩:=h;refine tG.intro st h λx v G1 H1 u1 st1 r1 h1=>?_;cases r1 with
 |int i=>exact⟨i,rfl,h1 _ G1 H1 (.refl st1.sub) (.int _)⟩
 |_=>exact h1.elim
def jy:D->R Bool
 |.non=>.ok false
 |.bl k=>.ok k
 |.int i=>.ok (i != 0)
 |.str x=>.ok (!x.isEmpty)
 |.tup xs=>.ok (!xs.isEmpty)
 |.lst _ xs=>.ok (!xs.isEmpty)
 |.exc _=>.no
 |.dct _ _=>.no
def Reps.isEmpty{K:PySem.W.Frag}{ds:List D}(r:Reps K G vs ds):vs.isEmpty=ds.isEmpty:=by cases r <;> rfl
def xY(h:PF X e ga)(he:∀whole,isTrue e X.env whole=(do let v <- whole;standAt e.pos;holding [v] (truthy v)):=by intro _;rfl):PB X e (λρ=>ga ρ>>=jy):=by
 intro pins s σ H Q I hq;refine zF h he pins s σ H Q I ?_;obtain⟨G,ρ,st,hq⟩:=hq;refine tG.intro st hq λx v G1 H1 u1 st1 r1 h1=>?_;have fin:∀k,jy x=.ok k->Q k H1:=λk ek=>by rw[ek]at h1;exact h1 k G1 H1 (.refl st1.sub) rfl
 cases r1 with
 |non=>exact⟨_,rfl,fin _ rfl⟩
 |bl k=>exact⟨_,rfl,fin _ rfl⟩
 |int i=>exact⟨_,rfl,fin _ rfl⟩
 |str y hy=>
  refine⟨_,⟨hy,rfl⟩,fin _ ?_⟩;show R.ok _=R.ok _
  congr 1
  have:y.cps.toList.length=y.length:=Str.len_list y;cases h:y.cps.toList with
  |nil=>rw[h]at this;rw[<- this];rfl
  |cons c cs=>rw[h]at this;rw[<- this];simp;omega
 |tup h r=>exact⟨_,.inr (.inl ⟨_,h.mono st1.sub,rfl⟩),fin _ (by show R.ok _=R.ok _;rw[r.isEmpty])⟩
 |lst h r=>exact⟨_,.inl ⟨_,.of (st1.sub _ _ h),rfl⟩,fin _ (by show R.ok _=R.ok _;rw[r.isEmpty])⟩
 |fls h r=>exact⟨_,.inl ⟨_,h.mono st1.sub,rfl⟩,fin _ (by show R.ok _=R.ok _;rw[r.isEmpty])⟩
 |_=>exact h1.elim
def mI{op:CmpOp}{r:R2}{f:D->D->Option D}(ho:OpR X (compareOp op) r)(hf:ROk X.K r f)(ha:PF X a ga)(hb:PF X b gb)(hm:behindInMarks op b=false):PB X (.Compare a [op] [b] pos) (λρ=>g2 f ga gb ρ>>=asB):=by
 intro pins s σ H Q I h;refine rj ho ha hb hm pins s σ H Q I ?_;obtain⟨G,ρ,st,h⟩:=h;refine zG hf ?_;refine tG.intro st h λx v G1 H1 u1 st1 r1 h1=>?_;cases r1 with
 |bl k=>exact⟨k,rfl,h1 k G1 H1 (.refl st1.sub) rfl⟩
 |_=>exact h1.elim
def JV(ha:PF X a ga)(hb:PF X b gb):PB X (.Compare a [.Lt] [b] pos) (λρ=>g2 ltD ga gb ρ>>=asB):=mI CG (HC _) ha hb (iC _)
def Kf(ha:PF X a ga)(hb:PF X b gb):PB X (.Compare a [.LtE] [b] pos) (λρ=>g2 leD ga gb ρ>>=asB):=mI mK (vK _) ha hb (iC _)
def Kk(ha:PF X a ga)(hb:PF X b gb):PB X (.Compare a [.Gt] [b] pos) (λρ=>g2 gtD ga gb ρ>>=asB):=mI J4 (KY _) ha hb (iC _)
def CI(K:PySem.W.Frag)(neg:Bool):ROk K (IW K neg) (λx y=>(eqD 40 x y).map λk=>.bl (if neg then !k else k)):=by
 intro G H x y dx dy d Q s rx ry e q;dsimp only at e;cases e1:eqD 40 dx dy with
 |none=>rw[e1]at e;cases e
 |some k=>rw[e1]at e;cases e;exact⟨G,dx,dy,k,s,rx,ry,e1,q _ G H (.refl s) (.bl _)⟩
def KU(hu:X.A.units+64<cLine)(ha:PF X a ga)(hb:PF X b gb):PB X (.Compare a [.Eq] [b] pos) (λρ=>g2 eqF ga gb ρ>>=asB):=mI (tI hu) (CI _ false) ha hb (iC _)
def Jt(hu:X.A.units+64<cLine)(ha:PF X a ga)(hb:PF X b gb):PB X (.Compare a [.NotEq] [b] pos) (λρ=>g2 neF ga gb ρ>>=asB):=mI (Hs hu) (CI _ true) ha hb (iC _)
def KF(ha:PF X a ga)(hb:PF X b gb):PB X (.Compare a [.Is] [b] pos) (λρ=>g2 isF ga gb ρ>>=asB):=mI HM (K0 _ false) ha hb (iC _)
def BL{op op':CmpOp}{r r':R2}{f f':D->D->Option D}(ho:OpR X (compareOp op) r)(ho':OpR X (compareOp op') r')(hf:ROk X.K r f)(hf':ROk X.K r' f')(ha:PF X a ga)(hb:PF X b gb)(hc:PF X c gc)(hm:lastMarks [op,op'] [b,c]=false:=by with_unfolding_all rfl):PB X (.Compare a [op,op'] [b,c] pos) (λρ=>g3 f f' ga gb gc ρ>>=asB):=by
 intro pins s σ H Q I h;refine zK ho ho' ha hb hc hm pins s σ H Q I ?_;obtain⟨G,ρ,st,h⟩:=h;have h':(ga ρ>>=λx=>gb ρ>>=λy=>ofO (f x y)>>=λz=>(match z with|.bl true=>gc ρ>>=λw=>ofO (f' y w)|.bl false=>.ok (.bl false)|_=>.no)>>=asB).post (Fin G H (λ_ b c=>b=c) Q) (Exx X σ G H):=by
  have e:(g3 f f' ga gb gc ρ>>=asB)=(ga ρ>>=λx=>gb ρ>>=λy=>ofO (f x y)>>=λz=>(match z with|.bl true=>gc ρ>>=λw=>ofO (f' y w)|.bl false=>.ok (.bl false)|_=>.no)>>=asB):=by
   unfold g3;cases ga ρ with
   |ok x=>cases gb ρ with
    |ok y=>simp only[R.ok_bind];cases ofO (f x y) <;> rfl
    |_=>rfl
   |_=>rfl
  rw[<- e];exact h
 refine tG.intro st h' λx v G1 H1 u1 st1 r1 h1=>?_;refine tG.intro st1 h1 λy w G2 H2 u2 st2 r2 h2=>?_;cases e:f x y with
 |none=>rw[e]at h2;exact h2.elim
 |some d=>
  rw[e]at h2;refine hf G2 H2 v w x y d _ st2.sub (r1.mono u2.gg) r2 e λz G3 H3 u3 r3=>?_;have h3:=nc u3 h2;have st3:=st2.up u3;cases r3 with
  |bl k=>
   refine⟨k,rfl,?_⟩;cases k with
   |false=>rw[if_neg sP];exact⟨false,rfl,h3 _ G3 H3 (.refl st3.sub) rfl⟩
   |true=>
    rw[if_pos rfl];have h3':(gc ρ>>=λw=>ofO (f' y w)>>=asB).post (Fin G3 H3 (λ_ b c=>b=c) Q) (Exx X σ G3 H3):=by
     have e:((gc ρ>>=λw=>ofO (f' y w))>>=asB)=(gc ρ>>=λw=>ofO (f' y w)>>=asB):=by cases gc ρ <;> rfl
     rw[<- e];exact h3
    refine tG.intro st3 h3' λq vq G4 H4 u4 st4 r4 h4=>?_;cases e':f' y q with
    |none=>rw[e']at h4;exact h4.elim
    |some d'=>
     rw[e']at h4;refine hf' G4 H4 w vq y q d' _ st4.sub ((r2.mono u3.gg).mono u4.gg) r4 e' λz' G5 H5 u5 r5=>?_;have h5:=nc u5 h4;cases r5 with
     |bl k'=>exact⟨k',rfl,h5 k' G5 H5 (.refl u5.sub) rfl⟩
     |_=>exact h5.elim
  |_=>exact h3.elim
def DR(ha:PF X a ga)(hb:PF X b gb)(hc:PF X c gc)(hm:lastMarks [.LtE,.LtE] [b,c]=false:=by with_unfolding_all rfl):PB X (.Compare a [.LtE,.LtE] [b,c] pos) (λρ=>g3 leD leD ga gb gc ρ>>=asB):=BL mK mK (vK _) (vK _) ha hb hc hm
def AS(t u:Ev->R Bool):Ev->R Bool:=λρ=>t ρ>>=λk=>if k=true then u ρ else .ok false
def vJ(t u:Ev->R Bool):Ev->R Bool:=λρ=>t ρ>>=λk=>if k=true then .ok true else u ρ
def Bx(ha:PB X a gt):PBW X (.BoolOp .And [a] pos) gt:=Et ha
def im(ha:PB X a gt):PBW X (.BoolOp .Or [a] pos) gt:=Hv ha
def DA(ha:PB X a gt)(hb:PBW X (.BoolOp .And (b::bQ) pos) gu):PBW X (.BoolOp .And (a::b::bQ) pos) (AS gt gu):=by
 intro whole pins s σ H Q I h;refine FK ha hb whole pins s σ H Q I ?_;obtain⟨G,ρ,st,h⟩:=h;refine tG.intro st h λx v G1 H1 u1 st1 r1 h1=>?_;subst r1;cases v with
 |true=>rw[if_pos rfl]at h1⊢;exact tG.last st1 h1
 |false=>rw[if_neg sP]at h1⊢;exact h1 _ G1 H1 (.refl st1.sub) rfl
def kh(ha:PB X a gt)(hb:PBW X (.BoolOp .Or (b::bQ) pos) gu):PBW X (.BoolOp .Or (a::b::bQ) pos) (vJ gt gu):=by
 intro whole pins s σ H Q I h;refine JY ha hb whole pins s σ H Q I ?_;obtain⟨G,ρ,st,h⟩:=h;refine tG.intro st h λx v G1 H1 u1 st1 r1 h1=>?_;subst r1;cases v with
 |true=>rw[if_pos rfl]at h1⊢;exact h1 _ G1 H1 (.refl st1.sub) rfl
 |false=>rw[if_neg sP]at h1⊢;exact tG.last st1 h1
def Hf(ha:PB X a gt):PB X (.UnaryOp .Not a pos) (λρ=>gt ρ>>=λk=>.ok (!k)):=by intro pins s σ H Q I h;refine Fx ha pins s σ H Q I ?_;obtain⟨G,ρ,st,h⟩:=h;refine tG.intro st h λx v G1 H1 u1 st1 r1 h1=>?_;subst r1;exact h1 _ G1 H1 (.refl st1.sub) rfl
def gIf(gt:Ev->R Bool)(ga gb:Ev->R D):Ev->R D:=λρ=>gt ρ>>=λk=>if k=true then ga ρ else gb ρ
def sQ(hc:PB X c gt)(ha:PF X a ga)(hb:PF X b gb):PF X (.IfExp c a b pos) (gIf gt ga gb):=by
 intro pins s σ H Q I h;refine Ao hc ha hb pins s σ H Q I ?_;obtain⟨G,ρ,st,h⟩:=h;refine tG.intro st h λx v G1 H1 u1 st1 r1 h1=>?_;subst r1;cases v with
 |true=>rw[if_pos rfl]at h1⊢;exact tG.last st1 h1
 |false=>rw[if_neg sP]at h1⊢;exact tG.last st1 h1
def ae:PFA X [] (λ_=>.ok []):=by intro pos pins s σ H Q I h;obtain⟨G,ρ,st,h⟩:=h;exact gh pos pins s σ H Q I (h [] G H (.refl st.sub) .nil)
def zO(ha:PF X e ga)(hr:PFA X es gl)(hs:starEach (e::es) X.env=(false,eval e X.env)::starEach es X.env:=by rfl):PFA X (e::es) (λρ=>ga ρ>>=λx=>gl ρ>>=λxs=>.ok (x::xs)):=by intro pos pins s σ H Q I h;refine bT ha hr hs pos pins s σ H Q I ?_;obtain⟨G,ρ,st,h⟩:=h;refine tG.intro st h λx v G1 H1 u1 st1 r1 h1=>?_;refine tG.intro st1 h1 λy w G2 H2 u2 st2 r2 h2=>?_;exact h2 _ G2 H2 (.refl st2.sub) (.cons (r1.mono u2.gg) r2)
def mkT(ds:List D):R D:=if ds.length<=sizeLine then .ok (.tup ds)else .no
def FP(h:PFA X es gl):PF X (.Tuple es k pos) (λρ=>gl ρ>>=mkT):=by
 intro pins s σ H Q I hq;refine Hn h pins s σ H Q I ?_;obtain⟨G,ρ,st,hq⟩:=hq;refine tG.intro st hq λds vs G1 H1 u1 st1 r1 h1=>?_;unfold mkT at h1;split at h1;·rename_i hz;exact⟨by rw[r1.length];exact hz,λp hp=>h1 _ _ _ (.new st1.sub hp) (.tup (.of ay) (r1.mono (.into (st1.sub.free hp))))⟩
 ·exact h1.elim
def BN{c:Nat}:[c].length<=sizeLine:=by show 1<=sizeLine;decide
def ixD:D->D->Option D
 |.lst _ xs,.int i=>atI xs i
 |.tup xs,.int i=>atI xs i
 |.str x,.int i=>(atI x i).map λc=>.str [c]
 |_,_=>none
def Reps.atI{K:PySem.W.Frag}{G:Hp}{vs:List V}{ds:List D}{i:Int}{d:D}(r:Reps K G vs ds)(h:atI ds i=some d):∃v,atI vs i=some v/\Rep K G v d:=by
 unfold L2.atI at h⊢;rw[r.length];cases e:ixN ds.length i with
 |none=>rw[e]at h;cases h
 |some j=>rw[e]at h;exact r.get h
def JG(K:PySem.W.Frag):ROk K (rIx K) ixD:=by
 intro G H x y dx dy d Q s rx ry e q;unfold ixD at e;split at e;·obtain⟨a,vs,rfl,h,r⟩:=rx.seq_inv;obtain⟨v,e1,r1⟩:=r.atI e;exact .inl ⟨a,vs,_,v,rfl,ry.int_inv,h.mono s,e1,q v G H (.refl s) r1⟩
 ·obtain⟨a,vs,rfl,h,r⟩:=rx.tup_inv;obtain⟨v,e1,r1⟩:=r.atI e;exact .inr (.inl ⟨a,vs,_,v,rfl,ry.int_inv,h.mono s,e1,q v G H (.refl s) r1⟩)
 ·rename_i z i;obtain⟨y',rfl,ey,hy⟩:=rx.str_inv;subst ey;cases e1:L2.atI y'.cps.toList i with
  |none=>rw[e1]at e;cases e
  |some c=>rw[e1]at e;cases e;exact .inr (.inr ⟨y',i,c,rfl,ry.int_inv,hy,e1,q _ G H (.refl s) (.strL (by simp) BN)⟩)
 ·cases e
def aE(ha:PF X a ga)(hb:PF X b gb)(hs:td b:=by exact λ_ _=>rfl):PF X (.Subscript a b pos) (g2 ixD ga gb):=
 λpins s σ H Q I h=>zW Gf ha hb hs pins s σ H Q I (zG (JG _) h)
end
def lw{α:Type}(xs:List α)(lo hi:Option Int):List α:=(xs.drop (HT.sIx xs.length 0 lo)).take (HT.sIx xs.length xs.length hi - HT.sIx xs.length 0 lo)
def C7{α:Type}(xs:List α)(lo hi:Option Int):(lw xs lo hi).length<=xs.length:=by unfold lw;rw[u7,lM];omega
def Reps.cut{K:PySem.W.Frag}{ds:List D}(r:Reps K G vs ds)(lo hi:Option Int):Reps K G (Cd vs lo hi) (lw ds lo hi):=by unfold Cd lw;rw[r.length];exact(r.drop _).take _
section
variable{a b c e:Expr}{bQ:List Expr}{lo hi:Option Expr}{ga gc:Ev->R D}{go gp:Ev->R (Option Int)}{p2:Pos}
def Hr(K:PySem.W.Frag):V->Option Int->Option Int->Hp->VK->Prop:=λx lo hi H Q=>∃a xs,x=.ref a/\SqT K H a xs/\
 (HT.sIx xs.length 0 lo=0/\HT.sIx xs.length xs.length hi=xs.length)/\Q (.ref a) H
def sl_tup_whole:SlR X (Hr X.K):=by
 intro pins s σ H x v vl vu lo hi sl Q I rx hs pl pu h;obtain⟨a,xs,rfl,hx,⟨hw1,hw2⟩,q⟩:=h;cases rx;obtain⟨its,r,ht,hz⟩:=I.tuple hx;have hlen:its.toArray.size=xs.length:=by rw[wg];exact r.length.symm
 refine⟨"tuple",_,PyProof.Rows.slot_tuple_getitem.lookup,ht.typeIs,?_⟩;obtain⟨os,hos,hcs,hds⟩:=id hs;have hTs:s.TypeIs (.ref sl) "slice":=⟨os,hos,hcs⟩
 unfold getItem
 try with_reducible refine q9 ?_
 first|refine z5 (z7 ?_)|skip
 refine z5 (wpAny_sequenceKey ht.typeIs (by decide) ?_);refine z5 (m9 (name:=Str.ofString "__getitem__") ht.typeIs YG
  (r9 YG ht.typeIs entry_tuple_getitem ?_ (args_tuple_getitem _ _)));show wpAny _ _ (Builtin.Tuple.tupleItemsOf (.ref a)>>=_) _ _ s;refine z5 (Z5 ht ?_);refine z5 (iD hTs ?_);rw[if_pos (by decide)];refine z5 (HT.sliceApplied_gen hs pl pu ?_);rw[hlen,hw1,hw2];dsimp only;rw[if_pos (by simp)];have fin:EP X pins σ Q (.ref a) s:=⟨.ref a,H,I,rfl,q⟩
 obtain⟨o,ho,hc,n,hd⟩:=id ht;unfold Builtin.Tuple.tupleIsExact;refine z5 (z5 (iD ht.typeIs (z7 ?_)));rw[if_pos (by decide)];exact z5 (ji (z7 ⟨_,rfl,z7 fin⟩))
theorem Gs{α:Type}(xs:List α)(a:Nat):∀k:Nat,((List.range k).map (a + ·)).filterMap (λi:Nat=>xs[i]?)=(xs.drop a).take k
 | 0=>by simp
 |k+1=>by
  rw[Za,sN,List.filterMap_append,Gs xs a k,List.take_add_one,Zb]
  congr 1
  try (simp only[w8,oR,Zo,List.filterMap_nil];cases xs[a+k]? <;> rfl)
def tV(n d:Nat)(v:Option Int):(match v with|none=>(d:Int)|some i=>max 0 (min (if i<0 then i+(n:Int)else i) (n:Int)))=((HT.sIx n d v:Nat):Int):=by
 cases v with
 |none=>rfl
 |some i=>show max 0 (min (if i<0 then i+(n:Int)else i) (n:Int))=(((if i<0 then (i+(n:Int)).toNat else min i.toNat n):Nat):Int);split <;> omega
def EZ(lo hi:Option Int)(n:Nat):Builtin.Str.strSliceIndices lo hi 1 n=(List.range (HT.sIx n n hi - HT.sIx n 0 lo)).map (HT.sIx n 0 lo + ·):=by
 have e:Builtin.Str.strSliceIndices lo hi 1 n=sliceRange ((HT.sIx n 0 lo:Nat):Int) ((HT.sIx n n hi:Nat):Int) 1:=by rw[<- tV n 0 lo,<- tV n n hi];rfl
 rw[e];generalize HT.sIx n 0 lo=a;generalize HT.sIx n n hi=b;unfold sliceRange;have hc:(if (1:Int) > 0 then (if (a:Int)<(b:Int)then ((b:Int) - (a:Int)+1 - 1) / 1 else 0)else (if (a:Int) > (b:Int)then ((a:Int) - (b:Int) - 1 - 1) / (-1)else 0)).toNat=b - a:=by
  rw[if_pos (by decide)];split;·rw[Int.ediv_one];omega
  ·omega
 simp only[hc];apply l7;intro k _;omega
def xz(x:Str)(lo hi:Option Int):(Txt.slice x lo hi).cps.toList=lw x.cps.toList lo hi:=by
 have hn:x.cps.toList.length=x.length:=Str.len_list x;unfold Txt.slice lw;rw[hn,EZ];have hb:HT.sIx x.length x.length hi<=x.length:=HT.sIx_le _ _ (z8 _) hi;by_cases hc:((1:Int)==1 && ((List.range (HT.sIx x.length x.length hi - HT.sIx x.length 0 lo)).map (HT.sIx x.length 0 lo + ·)).length==x.length)=true
 ·rw[if_pos hc];have h2:HT.sIx x.length x.length hi - HT.sIx x.length 0 lo=x.length:=by simpa using hc
  have h3:HT.sIx x.length 0 lo=0\/x.length=0:=by omega
  rw[h2];rcases h3 with h3|h3;·rw[h3,List.drop_zero,<- hn,ZG]
  ·have:x.cps.toList=[]:=YH (by rw[hn];exact h3);rw[this];simp
 ·rw[if_neg hc];have e:(λi:Nat=>x.cps[i]?)=(λi:Nat=>x.cps.toList[i]?):=by funext i;simp
  show(List.filterMap (λi:Nat=>x.cps[i]?) _).toArray.toList=_;rw[List.toList_toArray,e,Gs]
def K8:V->Option Int->Option Int->Hp->VK->Prop:=λx lo hi H Q=>∃y:Str,x=.str y/\y.length<=sizeLine/\Q (.str (Txt.slice y lo hi)) H
theorem sl_str:SlR X K8:=by
 intro pins s σ H x v vl vu lo hi sl Q I rx hs pl pu h;obtain⟨y,rfl,hz,q⟩:=h;obtain⟨t,rfl⟩:=rx;refine⟨"str",_,F.slot_str_getitem.lookup,typeIs_str _ _ _,?_⟩;cases pl with
 |none=>
  cases pu with
  |none=>exact ZH (l:=none) (u:=none) (st:=none) hs rfl (ZI ⟨w6 (ZJ y _ _) hz,λt' k=>⟨.str _,H,I.tok k,⟨t',rfl⟩,q⟩⟩)
  |int j uj=>exact ZH (l:=none) (u:=some (j,uj)) (st:=none) hs rfl (ZI ⟨w6 (ZJ y _ _) hz,λt' k=>⟨.str _,H,I.tok k,⟨t',rfl⟩,q⟩⟩)
 |int i ui=>
  cases pu with
  |none=>exact ZH (l:=some (i,ui)) (u:=none) (st:=none) hs rfl (ZI ⟨w6 (ZJ y _ _) hz,λt' k=>⟨.str _,H,I.tok k,⟨t',rfl⟩,q⟩⟩)
  |int j uj=>exact ZH (l:=some (i,ui)) (u:=some (j,uj)) (st:=none) hs rfl (ZI ⟨w6 (ZJ y _ _) hz,λt' k=>⟨.str _,H,I.tok k,⟨t',rfl⟩,q⟩⟩)
def DN(lo hi:Option Int):D->Option D
 |.str x=>some (.str (lw x lo hi))
 |.tup xs=>some (.tup (lw xs lo hi))
 |.lst _ xs=>some (.lst false (lw xs lo hi))
 |_=>none
def rSl(K:PySem.W.Frag):V->Option Int->Option Int->Hp->VK->Prop:=λx lo hi H Q=>K8 x lo hi H Q\/Hr K x lo hi H Q\/K7 K x lo hi H Q\/Ls K x lo hi H Q
def F8:SlR X (rSl X.K):=sl_str.or (sl_tup_whole.or (sl_tup.or D2))
def PFO(X:Cx)(o:Option Expr)(g:Ev->R (Option Int)):Prop:=PO X o (tG X (λ_ b c=>b=c) g)
def gK:PFO X none (λ_=>.ok none):=by intro pins s σ H Q I h;obtain⟨G,ρ,st,h⟩:=h;exact Er pins s σ H Q I (h none G H (.refl st.sub) rfl)
def asI:D->R Int
 |.int i=>.ok i
 |_=>.no
def Bf(h:PF X e ga):PFO X (some e) (λρ=>ga ρ>>=λx=>asI x>>=λi=>.ok (some i)):=by
 intro pins s σ H Q I hq;refine Dm h pins s σ H Q I ?_;obtain⟨G,ρ,st,hq⟩:=hq;refine tG.intro st hq λx v G1 H1 u1 st1 r1 h1=>?_;cases r1 with
 |int i=>exact⟨i,rfl,h1 (some i) G1 H1 (.refl st1.sub) rfl⟩
 |_=>exact h1.elim
def gSl(ga:Ev->R D)(go gp:Ev->R (Option Int)):Ev->R D:=λρ=>ga ρ>>=λx=>go ρ>>=λl=>gp ρ>>=λu=>ofO (DN l u x)
def gC(ha:PF X a ga)(hl:PFO X lo go)(hu:PFO X hi gp):PF X (.Subscript a (.Slice lo hi none p2) pos) (gSl ga go gp):=by
 intro pins s σ H Q I h;refine zR F8 ha hl hu pins s σ H Q I ?_;obtain⟨G,ρ,st,h⟩:=h;refine tG.intro st h λx v G1 H1 u1 st1 r1 h1=>?_;refine tG.intro st1 h1 λl l' G2 H2 u2 st2 r2 h2=>?_;subst r2;refine tG.intro st2 h2 λu u' G3 H3 u3 st3 r3 h3=>?_;subst r3;obtain⟨d,e,q⟩:=ofO.ok h3;have r:=(r1.mono u2.gg).mono u3.gg;unfold DN at e;split at e;·cases e;obtain⟨y,rfl,ey,hy⟩:=r.str_inv;subst ey;exact .inl ⟨y,rfl,hy,q _ G3 H3 (.refl st3.sub) (.strL (xz y _ _) (w6 (C7 _ _ _) (by rw[Str.len_list];exact hy)))⟩
 ·rename_i xs0;cases e;obtain⟨a,vs,rfl,h,t⟩:=r.tup_inv;by_cases hw:HT.sIx vs.length 0 l'=0/\HT.sIx vs.length vs.length u'=vs.length
  ·refine .inr (.inl ⟨a,vs,rfl,h.mono st3.sub,hw,q _ G3 H3 (.refl st3.sub) ?_⟩);have e1:lw xs0 l' u'=xs0:=by unfold lw;rw[<- t.length,hw.1,hw.2,List.drop_zero,ZK,t.length,ZG]
   rw[e1];exact .tup h t
  ·exact .inr (.inr (.inl ⟨a,vs,rfl,h.mono st3.sub,hw,λp hp=>q _ _ _ (.new st3.sub hp) (.tup (.of ay) ((t.cut _ _).mono (.into (st3.sub.free hp))))⟩))
 ·cases e;obtain⟨a,vs,rfl,h,t⟩:=r.seq_inv;exact .inr (.inr (.inr ⟨a,vs,rfl,h.mono st3.sub,λp hp=>q _ _ _ (.new st3.sub hp) (.lst ay ((t.cut _ _).mono (.into (st3.sub.free hp))))⟩))
 ·cases e
def IQ(K:PySem.W.Frag)(r:List V->Hp->VK->Prop)(f:List D->Option D):Prop:=∀(G H:Hp)(xs:List V)(ds:List D)(d:D)(Q:VK),Same G H->Reps K G xs ds->f ds=some d->Fin G H (Rep K) Q d->r xs H Q
def nq{id:String}{r:List V->Hp->VK->Prop}{f:List D->Option D}(hc:jf X (.builtin id) r)(hf:IQ X.K r f)(hg:Gl X x)(hm:X.mg x=none)(hv:bootBuiltins x=some (.builtin id))(ha:PFA X (e::es) gl)(hn:x≠"__name__":=by decide)(hdb:(x==("__debug__":Str))=false:=by decide)(he:starEach (e::es) X.env=(false,eval e X.env)::starEach es X.env:=by rfl)(hpl:(backTo pos (starEach es X.env)).any (·.1)=false:=by rfl):PF X (.Call (.Name x p) (e::es) [] pos) (λρ=>gl ρ>>=λds=>ofO (f ds)):=by
 intro pins s σ H Q I h;refine nW hc hg hm hv ha hn hdb he hpl pins s σ H Q I ?_;obtain⟨G,ρ,st,h⟩:=h;refine tG.intro st h λds vs G1 H1 u1 st1 r1 h1=>?_;obtain⟨d,e,q⟩:=ofO.ok h1;exact hf G1 H1 vs ds d Q st1.sub r1 e q
def wT{T:String}{r:List V->Hp->VK->Prop}{f:List D->Option D}(hc:jf X (.type T) r)(hf:IQ X.K r f)(hg:Gl X x)(hm:X.mg x=none)(hv:bootBuiltins x=some (.type T))(ha:PFA X (e::es) gl)(hn:x≠"__name__":=by decide)(hdb:(x==("__debug__":Str))=false:=by decide)(he:starEach (e::es) X.env=(false,eval e X.env)::starEach es X.env:=by rfl)(hpl:(backTo pos (starEach es X.env)).any (·.1)=false:=by rfl):PF X (.Call (.Name x p) (e::es) [] pos) (λρ=>gl ρ>>=λds=>ofO (f ds)):=by
 intro pins s σ H Q I h;refine iV hc hg hm hv ha hn hdb he hpl pins s σ H Q I ?_;obtain⟨G,ρ,st,h⟩:=h;refine tG.intro st h λds vs G1 H1 u1 st1 r1 h1=>?_;obtain⟨d,e,q⟩:=ofO.ok h1;exact hf G1 H1 vs ds d Q st1.sub r1 e q
def Reps.one{K:PySem.W.Frag}{d:D}(r:Reps K G vs [d]):∃v,vs=[v]/\Rep K G v d:=by
 cases r with
 |cons r t=>cases t;exact⟨_,rfl,r⟩
def Reps.two{K:PySem.W.Frag}{d d':D}(r:Reps K G vs [d,d']):∃v w,vs=[v,w]/\Rep K G v d/\Rep K G w d':=by
 cases r with
 |cons r t=>obtain⟨w,rfl,r'⟩:=t.one;exact⟨_,w,rfl,r,r'⟩
def fm:List D->Option D
 | [.str x]=>some (.int x.length)
 | [.tup xs]=>some (.int xs.length)
 | [.lst _ xs]=>some (.int xs.length)
 |_=>none
def G8(hg:Gl X "len")(hm:X.mg "len"=none)(ha:PFA X [e] gl)(he:starEach [e] X.env=[(false,eval e X.env)]:=by rfl):PF X (.Call (.Name "len" p) [e] [] pos) (λρ=>gl ρ>>=λds=>ofO (fm ds)):=
 nq AU (by
  intro G H xs ds d Q s r e q;unfold fm at e;split at e;·cases e;obtain⟨v,rfl,r1⟩:=r.one;obtain⟨y,rfl,ey,hy⟩:=r1.str_inv;subst ey;exact⟨_,y.length,rfl,⟨hy,rfl⟩,by rw[<- Str.len_list];exact q _ G H (.refl s) (.int _)⟩
  ·cases e;obtain⟨v,rfl,r1⟩:=r.one;obtain⟨a,vs,rfl,h,t⟩:=r1.tup_inv;exact⟨_,vs.length,rfl,.inr ⟨vs,h.mono s,rfl⟩,by rw[t.length];exact q _ G H (.refl s) (.int _)⟩
  ·cases e;obtain⟨v,rfl,r1⟩:=r.one;obtain⟨a,vs,rfl,h,t⟩:=r1.seq_inv;exact⟨_,vs.length,rfl,.inl ⟨vs,h.mono s,rfl⟩,by rw[t.length];exact q _ G H (.refl s) (.int _)⟩
  ·cases e) hg hm PySem.boot_len ha (he:=by rw[he];rfl)
def mL:List D->Option D
 | [.lst _ xs]=>some (.tup xs)
 | [.tup xs]=>some (.tup xs)
 |_=>none
def Av(K:PySem.W.Frag):IQ K (λxs H Q=>∃p ys,xs=[.ref p]/\((SqL K H p ys/\∀l,H l=none->Q (.ref l) (upd H l (.tup ys)))\/(SqT K H p ys/\Q (.ref p) H))) mL:=by
 intro G H xs ds d Q s r e q;unfold mL at e;split at e;·cases e;obtain⟨v,rfl,r1⟩:=r.one;obtain⟨a,vs,rfl,h,t⟩:=r1.seq_inv;exact⟨a,vs,rfl,.inl ⟨h.mono s,λl hl=>q _ _ _ (.new s hl) (.tup (.of ay) (t.mono (.into (s.free hl))))⟩⟩
 ·cases e;obtain⟨v,rfl,r1⟩:=r.one;obtain⟨a,vs,rfl,h,t⟩:=r1.tup_inv;exact⟨a,vs,rfl,.inr ⟨h.mono s,q _ G H (.refl s) (.tup h t)⟩⟩
 ·cases e
end
def ItOk(K:PySem.W.Frag)(G₁:Hp)(J:It)(items:List D):Prop:=∀(i:Nat)(G H:Hp),Same G₁ G->Same G H->
 (∀d,items[i]?=some d->J.go i H/\∀x H',J.yld i H x H'->∃G',Up G H G' H'/\Rep K G' x d)/\(items.length<=i->J.stop i H)
def PIF(X:Cx)(tg iter:Expr)(g:Ev->R (List D)):Prop:=PI X tg iter (tG X (λG J items=>ItOk X.K G J items) g)
def Its(x:Str):It:=⟨λi _=>i<x.cps.size,λi H v H'=>H'=H/\∃c,x.cps[i]?=some c/\v=.str ⟨#[c]⟩,λi _=>x.cps.size<=i⟩
section
variable{tg a e:Expr}{ga:Ev->R D}
def zw{l:Addr}{Rr:It->Hp->Prop}(I:Inv X pins σ H s)(h:SqL X.K H l xs)(q:Rr (Itl X.K l) H):
  wpAny (model X.prog X.w) X.A (pyIter (.ref l)) (PIE X pins σ tg Rr) X.xe s:=by
 obtain⟨its,rv,p,hz⟩:=I.list h;refine Zs p.isList ?_;refine⟨s.heap.objs.size,[s.heap.objs.size],_,_,H,rfl,I.kept (t':=s.toks) λb o e=>z9 _ e,qt l _,⟨_,v7 _ rfl,rfl,rfl⟩,λb hb=>?_,q⟩;have e:b=s.heap.objs.size:=by simpa using hb
 subst e;exact I.fpOk (z8 _) (I.hok.fresh (z8 _))
def GF{l:Addr}{Rr:It->Hp->Prop}(I:Inv X pins σ H s)(h:SqT X.K H l xs)(q:Rr (Itt X.K l) H):
  wpAny (model X.prog X.w) X.A (pyIter (.ref l)) (PIE X pins σ tg Rr) X.xe s:=by
 obtain⟨its,rv,p,hz⟩:=I.tuple h;refine Yd (show s.heap.IsTuple l its.toArray from p) ?_;refine⟨s.heap.objs.size,[s.heap.objs.size],_,_,H,rfl,I.kept (t':=s.toks) λb o e=>z9 _ e,vP l _,⟨_,v7 _ rfl,rfl,rfl⟩,λb hb=>?_,q⟩;have e:b=s.heap.objs.size:=by simpa using hb
 subst e;exact I.fpOk (z8 _) (I.hok.fresh (z8 _))
def vF{w:World}{K:PySem.W.Frag}{tg:Expr}(it:Addr)(x:Str)(t:Tok):Turn P w K tg (Its x) [it] it (λi h=>h.IsStrIter it "str_ascii_iterator" x t i) where
 mem:=by simp
 obj:=λi h st b hb=>by
  have e:b=it:=by simpa using hb
  subst e;obtain⟨o,e,c,d⟩:=st;exact⟨o,e,λv z=>by rw[d]at z;cases z⟩
 keep:=λi h h' st k=>let⟨o,ho,r⟩:=st;⟨o,k it (by simp) o ho,r⟩
 item:=by intro X hP hw hK hc i pins s σ H E I hf st hg;subst hP hw hK;have hg':i<x.cps.size:=hg;obtain⟨f0,f1,f2,f3,f4,f5⟩:=hf it (by simp);refine wpAny_pyNext_ascii_item st (c:=x.cps[i]) (by simp[hg']) λh' st' sb=>?_;have I1:Inv X pins σ H { s with heap:=h',toks:=s.toks+1 }:=I.turned (t':=s.toks+1) (λb o hb e=>(sb.2 b hb).trans e) f0 f1 f3 f4 f5;obtain⟨o,e,c,d⟩:=id st';exact⟨_,rfl,wa (s:={ s with heap:=h',toks:=s.toks+1 }) e c d (by decide) ⟨.str ⟨#[x.cps[i]]⟩,H,I1,⟨_,rfl⟩,⟨rfl,_,by simp[hg'],rfl⟩,st',λb hb=>(hf b hb).1⟩⟩
 done:=by intro X hP hw hK hc i pins s σ H E I hf st hg;subst hP hw hK;obtain⟨f0,f1,f2,f3,f4,f5⟩:=hf it (by simp);have hg':x.cps.size<=i:=hg;exact wpAny_pyNext_ascii_end (I.ok.hd hc) st (by simp;omega) λh' eb=>⟨rfl,I.turned (t':=s.toks) (λb o hb e=>eb b o hb e) f0 f1 f3 f4 f5⟩
 self:=λ_ _ _ _ _ st h=>wpAny_pyIter_striter_ascii st h
def zv{w:World}{K:PySem.W.Frag}{tg:Expr}(it:Addr)(x:Str)(t:Tok):Turn P w K tg (Its x) [it] it (λi h=>h.IsStrIter it "str_iterator" x t i) where
 mem:=by simp
 obj:=λi h st b hb=>by
  have e:b=it:=by simpa using hb
  subst e;obtain⟨o,e,c,d⟩:=st;exact⟨o,e,λv z=>by rw[d]at z;cases z⟩
 keep:=λi h h' st k=>let⟨o,ho,r⟩:=st;⟨o,k it (by simp) o ho,r⟩
 item:=by intro X hP hw hK hc i pins s σ H E I hf st hg;subst hP hw hK;have hg':i<x.cps.size:=hg;obtain⟨f0,f1,f2,f3,f4,f5⟩:=hf it (by simp);refine wpAny_pyNext_wide_item st (c:=x.cps[i]) (by simp[hg']) λh' st' sb=>?_;have I1:Inv X pins σ H { s with heap:=h',toks:=s.toks+1 }:=I.turned (t':=s.toks+1) (λb o hb e=>(sb.2 b hb).trans e) f0 f1 f3 f4 f5;obtain⟨o,e,c,d⟩:=id st';exact⟨_,rfl,wa (s:={ s with heap:=h',toks:=s.toks+1 }) e c d (by decide) ⟨.str ⟨#[x.cps[i]]⟩,H,I1,⟨_,rfl⟩,⟨rfl,_,by simp[hg'],rfl⟩,st',λb hb=>(hf b hb).1⟩⟩
 done:=by intro X hP hw hK hc i pins s σ H E I hf st hg;subst hP hw hK;obtain⟨f0,f1,f2,f3,f4,f5⟩:=hf it (by simp);have hg':x.cps.size<=i:=hg;exact wpAny_pyNext_wide_end (I.ok.hd hc) st (by simp;omega) λh' eb=>⟨rfl,I.turned (t':=s.toks) (λb o hb e=>eb b o hb e) f0 f1 f3 f4 f5⟩
 self:=λ_ _ _ _ _ st h=>wpAny_pyIter_striter_wide st h
def FY{t:Tok}{Rr:It->Hp->Prop}(I:Inv X pins σ H s)(q:Rr (Its x) H):
  wpAny (model X.prog X.w) X.A (pyIter (.str x t)) (PIE X pins σ tg Rr) X.xe s:=by
 have fp:∀(o:Obj),∀b∈[s.heap.objs.size],lv X pins H b:=λo b hb=>by
  have e:b=s.heap.objs.size:=by simpa using hb
  subst e;exact I.fpOk (z8 _) (I.hok.fresh (z8 _))
 cases ha:x.cps.all (· < 128);·refine wpAny_pyIter_wide ha ⟨s.heap.objs.size,[s.heap.objs.size],_,_,H,rfl,I.kept (t':=s.toks) λb o e=>z9 _ e,zv _ x t,⟨_,v7 _ rfl,rfl,rfl⟩,fp default,q⟩
 ·refine wpAny_pyIter_ascii ha ⟨s.heap.objs.size,[s.heap.objs.size],_,_,H,rfl,I.kept (t':=s.toks) λb o e=>z9 _ e,vF _ x t,⟨_,v7 _ rfl,rfl,rfl⟩,fp default,q⟩
def bf:D->R (List D)
 |.lst _ xs=>.ok xs
 |.tup xs=>.ok xs
 |.str x=>.ok (x.map λc=>.str [c])
 |_=>.no
def ItOk.list{K:PySem.W.Frag}{l:Addr}{ds:List D}(h:SqL K G l vs)(r:Reps K G vs ds):ItOk K G (Itl K l) ds:=by intro i G1 H1 s1 s2;refine⟨λd e=>?_,λhl=>⟨vs,(h.mono s1).mono s2,by rw[r.length];exact hl⟩⟩;obtain⟨v,ev,rv⟩:=r.get e;refine⟨⟨vs,v,(h.mono s1).mono s2,ev⟩,λx H' y=>?_⟩;obtain⟨rfl,y⟩:=y;have:=y vs ((h.mono s1).mono s2);rw[ev]at this;cases this;exact⟨G1,.refl s2,rv.mono s1⟩
def ItOk.tup{K:PySem.W.Frag}{l:Addr}{ds:List D}(h:SqT K G l vs)(r:Reps K G vs ds):ItOk K G (Itt K l) ds:=by intro i G1 H1 s1 s2;refine⟨λd e=>?_,λhl=>⟨vs,(h.mono s1).mono s2,by rw[r.length];exact hl⟩⟩;obtain⟨v,ev,rv⟩:=r.get e;refine⟨⟨vs,v,(h.mono s1).mono s2,ev⟩,λx H' y=>?_⟩;obtain⟨rfl,y⟩:=y;have:=y vs ((h.mono s1).mono s2);rw[ev]at this;cases this;exact⟨G1,.refl s2,rv.mono s1⟩
def ItOk.str{K:PySem.W.Frag}(x:Str):ItOk K G (Its x) (x.cps.toList.map λc=>.str [c]):=by
 intro i G1 H1 s1 s2;refine⟨λd e=>?_,λhl=>show x.cps.size<=i by simpa using hl⟩;rw[u9]at e;cases ec:x.cps.toList[i]? with
 |none=>rw[ec]at e;cases e
 |some c=>
  rw[ec]at e;cases e;have hi:i<x.cps.size:=by have:=(tj.mp ec).1;simpa using this
  refine⟨hi,λv H' y=>?_⟩;obtain⟨rfl,c',e',rfl⟩:=y;have:c'=c:=by
   have h2:x.cps.toList[i]?=x.cps[i]?:=by simp
   rw[h2,e']at ec;exact vC ec
  subst this;exact⟨G1,.refl s2,.strL rfl BN⟩
def ItOk.range{K:PySem.W.Frag}(lo:Int)(n:Nat):ItOk K G (Itr lo n) ((List.range n).map λi=>.int (lo+(i:Nat))):=by
 intro i G1 H1 s1 s2;refine⟨λd e=>?_,λhl=>show n<=i by simpa using hl⟩;rw[u9]at e;by_cases hi:i<n;·rw[YI hi]at e;cases e;refine⟨hi,λv H' y=>?_⟩;obtain⟨rfl,rfl⟩:=y;exact⟨G1,.refl s2,.int _⟩
 ·rw[o8 (by simpa using hi)]at e;cases e
def EE(ha:PF X a ga):PIF X tg a (λρ=>ga ρ>>=bf):=by
 intro pins s σ H Rr I h;obtain⟨G,ρ,st,h⟩:=h;have t:tF X ga σ H (λx H1=>∃G1 d,Same G1 H1/\Rep X.K G1 x d/\(bf d).post (Fin G1 H1 (λG J items=>ItOk X.K G J items) Rr) (Exx X σ G1 H1)):=
  tG.intro st h λx v G1 H1 u1 st1 r1 h1=>⟨G1,x,st1.sub,r1,h1⟩
 refine thn (ha pins s σ H _ I t) λv s1 ⟨x,H1,I1,r1,G1,d,sub,rd,h1⟩=>?_;cases rd with
 |lst hh r=>cases r1;exact zw I1 (.of (sub _ _ hh)) (h1 _ G1 H1 (.refl sub) (.list (.of hh) r))
 |fls hh r=>cases r1;exact zw I1 (hh.mono sub) (h1 _ G1 H1 (.refl sub) (.list hh r))
 |tup hh r=>cases r1;exact GF I1 (hh.mono sub) (h1 _ G1 H1 (.refl sub) (.tup hh r))
 |str y hy=>obtain⟨t,rfl⟩:=r1;exact FY I1 (h1 _ G1 H1 (.refl sub) (.str y))
 |_=>exact h1.elim
def bX:List D->R (List D)
 | [.int j]=>if -(2 ^ 62)<=j/\j<2 ^ 62 then .ok ((List.range j.toNat).map λi=>.int (0+(i:Nat)))else .no
 |_=>.no
def hX:List D->R (List D)
 | [.int i,.int j]=>if -(2 ^ 62)<=i/\i<2 ^ 62/\-(2 ^ 62)<=j/\j<2 ^ 62 then .ok ((List.range (j - i).toNat).map λk=>.int (i+(k:Nat)))else .no
 |_=>.no
def vR(hg:Gl X "range")(hm:X.mg "range"=none)(ha:PFA X [a] gl)(hs:starEach [a] X.env=[(false,eval a X.env)]:=by rfl):PIF X tg (.Call (.Name "range" p) [a] [] pos) (λρ=>gl ρ>>=bX):=by
 intro pins s σ H Rr I h;refine xB hg hm ha hs pins s σ H Rr I ?_;obtain⟨G,ρ,st,h⟩:=h;refine tG.intro st h λds vs G1 H1 u1 st1 r1 h1=>?_;unfold bX at h1;split at h1
 ·split at h1;·rename_i hj;obtain⟨v,rfl,r⟩:=r1.one;obtain rfl:=r.int_inv;exact⟨_,rfl,hj.1,hj.2,h1 _ G1 H1 (.refl st1.sub) (.range 0 _)⟩
  ·exact h1.elim
 ·exact h1.elim
def va{b:Expr}(hg:Gl X "range")(hm:X.mg "range"=none)(ha:PFA X [a,b] gl)(hs:starEach [a,b] X.env=[(false,eval a X.env),(false,eval b X.env)]:=by rfl)(hs2:starEach [b] X.env=[(false,eval b X.env)]:=by rfl):
  PIF X tg (.Call (.Name "range" p) [a,b] [] pos) (λρ=>gl ρ>>=hX):=by
 intro pins s σ H Rr I h;refine wS hg hm ha hs hs2 pins s σ H Rr I ?_;obtain⟨G,ρ,st,h⟩:=h;refine tG.intro st h λds vs G1 H1 u1 st1 r1 h1=>?_;unfold hX at h1;split at h1
 ·split at h1;·rename_i hj;obtain⟨v,w,rfl,r,r'⟩:=r1.two;obtain rfl:=r.int_inv;obtain rfl:=r'.int_inv;exact⟨_,_,rfl,hj,h1 _ G1 H1 (.refl st1.sub) (.range _ _)⟩
  ·exact h1.elim
 ·exact h1.elim
end
noncomputable def ObSt(K:PySem.W.Frag)(H₀ G H:Hp)(σ:St)(ρ:Ev):Prop:=
 ∃ow:jb,(∀(i:Nat) ds l,ρ[i]?=some (some (.own ds))->σ[i]?=some (some (.ref l))->ow l=some (i,0))/\
  ∀(i:Nat) m C p fs,ρ[i]?=some (some (.obj m C p fs))->σ[i]?=some (some (.ref p))/\ObjAt K H₀ G H ow i m C p fs
def ObSt.rd{K:PySem.W.Frag}{H₀:Hp}(h:ObSt K H₀ G H σ ρ):∀(i:Nat) m C p fs,ρ[i]?=some (some (.obj m C p fs))->σ[i]?=some (some (.ref p))/\∃ow,ObjAt K (λ_=>none) G H ow i m C p fs:=λi m C p fs e=>by obtain⟨ow,_,o2⟩:=h;exact⟨(o2 i m C p fs e).1,ow,(o2 i m C p fs e).2.rd⟩
def NoOwn(ρ:Ev):Prop:=∀(j:Nat)(x:Sl),ρ[j]?=some (some x)->∃d,x=.val d
def NoOwn.own(h:NoOwn ρ)(j:Nat)(ds:List D):ρ[j]?≠some (some (.own ds)):=λe=>by obtain⟨d,z⟩:=h j _ e;cases z
def NoOwn.obj(h:NoOwn ρ)(j:Nat)(m:Bool)(C p:Addr)(fs:List (Nat×Fd)):ρ[j]?≠some (some (.obj m C p fs)):=λe=>by obtain⟨d,z⟩:=h j _ e;cases z
def NoOwn.ob{K:PySem.W.Frag}{H₀:Hp}(h:NoOwn ρ):ObSt K H₀ G H σ ρ:=
 ⟨λ_=>none,λi ds l e=>absurd e (h.own i ds),λi m C p fs e=>absurd e (h.obj i m C p fs)⟩
structure StR(K:PySem.W.Frag)(G₀ H₀ G H:Hp)(σ:St)(ρ:Ev):Prop where
 e:StE K G H σ ρ
 sub0:Same G₀ H₀
 up:Up G₀ H₀ G H
 own:∀(i:Nat) ds,ρ[i]?=some (some (.own ds))->∃l vs,σ[i]?=some (some (.ref l))/\H l=some (.lst vs)/\G l=none/\H₀ l=none/\Reps K G vs ds
 inj:∀(i j:Nat) ds es l,ρ[i]?=some (some (.own ds))->ρ[j]?=some (some (.own es))->σ[i]?=some (some (.ref l))->σ[j]?=some (some (.ref l))->i=j
 ob:ObSt K H₀ G H σ ρ
section
variable{K:PySem.W.Frag}{H₀ G':Hp}
def StR.ups(s:StR K G₀ H₀ G H σ ρ)(u:Up G H G' H'):StR K G₀ H₀ G' H' σ ρ:=⟨s.e.up u,s.sub0,s.up.trans u,(λi ds e=>by
 obtain⟨l,vs,h1,h2,h3,h4,h5⟩:=s.own i ds e;refine⟨l,vs,h1,u.hh _ _ h2,?_,h4,h5.mono u.gg⟩;cases q:G' l with
 |none=>rfl
 |some o=>
  rcases u.fr l o q with z|z;·rw[h3]at z;cases z
  ·rw[h2]at z;cases z),s.inj,by
 obtain⟨ow,o1,o2⟩:=s.ob;exact⟨ow,o1,λi m C p fs e=>⟨(o2 i m C p fs e).1,(o2 i m C p fs e).2.keep (.up u)⟩⟩⟩
def StR.set(s:StR K G₀ H₀ G H σ ρ){d:D}(r:Rep K G v d)(i:Nat):StR K G₀ H₀ G H (σ.set i (some v)) (ρ.set i (some (.val d))):=by
 have get:∀(j:Nat) x,(ρ.set i (some (.val d)))[j]?=some (some x)->(j=i/\x=.val d/\i<σ.length)\/(j≠i/\ρ[j]?=some (some x)/\(σ.set i (some v))[j]?=σ[j]?):=λj x h=>by
  by_cases e:i=j
  ·subst e;have hl:i<ρ.length:=by have:=(tj.mp h).1;simpa using this
   rw[su hl]at h;exact .inl ⟨rfl,by injection (vC h)with q;exact q.symm,by rw[s.e.len];exact hl⟩
  ·rw[rG e]at h;exact .inr ⟨λz=>e z.symm,h,rG e⟩
 have ob:ObSt K H₀ G H (σ.set i (some v)) (ρ.set i (some (.val d))):=by
  obtain⟨ow,o1,o2⟩:=s.ob;refine⟨ow,λj ds l h1 h2=>?_,λj m C p fs h1=>?_⟩
  ·rcases get j _ h1 with⟨_,e,_⟩|⟨_,e,e'⟩;·cases e
   ·exact o1 j ds l e (e'▸h2)
  ·rcases get j _ h1 with⟨_,e,_⟩|⟨_,e,e'⟩;·cases e
   ·rw[e'];exact o2 j m C p fs e
 refine⟨⟨s.e.sub,by simp[s.e.len],λj d' h=>?_,ob.rd⟩,s.sub0,s.up,λj ds h=>?_,λj k ds es l h1 h2 h3 h4=>?_,ob⟩
 ·rcases get j _ h with⟨rfl,e,hl⟩|⟨_,e,e'⟩;·cases e;exact⟨v,su hl,r⟩
  ·rw[e'];exact s.e.val j d' e
 ·rcases get j _ h with⟨_,e,_⟩|⟨_,e,e'⟩;·cases e
  ·rw[e'];exact s.own j ds e
 ·rcases get j _ h1 with⟨_,e,_⟩|⟨_,e,e'⟩;·cases e
  ·rcases get k _ h2 with⟨_,f,_⟩|⟨_,f,f'⟩;·cases f
   ·exact s.inj j k ds es l e f (e'▸h3) (f'▸h4)
end
def PGF(X:Cx)(tg:Expr)(asg:D->Ev->R Ev):Prop:=PG X tg (λv σ H Q=>∃G₀ H₀ G ρ d ρ',StR X.K G₀ H₀ G H σ ρ/\Rep X.K G v d/\asg d ρ=.ok ρ'/\∀σ',StR X.K G₀ H₀ G H σ' ρ'->Q σ' H)
section
def gO(i:Nat):D->Ev->R Ev:=λd ρ=>.ok (ρ.set i (some (.val d)))
def cU(i:Nat)(hN:X.N.Nodup)(hi:X.N[i]?=some x:=by rfl)(hx:Loc X.env.scope x:=by first|exact Or.inl rfl|exact Or.inr rfl)(hf:X.fn x=true\/X.env.scope.names.lookup x=some .local:=by first|exact .inl rfl|exact .inr rfl):PGF X (.Name x pos) (gO i):=by
 intro pins s σ H v u Q I r h;obtain⟨G₀,H₀,G,ρ,d,ρ',st,rd,e,q⟩:=h;cases e;exact ia hN hi hx hf pins s σ H v u Q I r (q _ (st.set rd i))
end
def oh(K:PySem.W.Frag)(G H:Hp)(Q:VK):List D->Prop:=λds=>∀l vs G' H',Up G H G' H'->H' l=none->Reps K G' vs ds->Q (.ref l) (upd H' l (.lst vs))
def tL(X:Cx)(g:Ev->R (List D)):TE:=λσ H Q=>∃G ρ,StE X.K G H σ ρ/\(g ρ).post (oh X.K G H Q) (Exx X σ G H)
def PFL(X:Cx)(e:Expr)(g:Ev->R (List D)):Prop:=PE X e (tL X g)
def tE{e:Expr}{g:Ev->R (List D)}(h:PFL X e g):PF X e (λρ=>g ρ>>=λds=>.ok (.lst false ds)):=by
 intro pins s σ H Q I hq;refine h pins s σ H Q I ?_;obtain⟨G,ρ,st,hq⟩:=hq
 try dsimp only at hq
 refine⟨G,ρ,st,?_⟩;cases e:g ρ with
 |ok ds=>rw[e]at hq;intro l vs G' H' u hl r;exact hq _ _ _ (u.trans (.new u.sub hl)) (.lst ay (r.mono (.into (u.sub.free hl))))
 |ex C=>rw[e]at hq;exact hq
 |no=>rw[e]at hq;exact hq
def E2(h:PFA X es gl):PFL X (.List es pos) (λρ=>gl ρ>>=λds=>if ds.length<=sizeLine then .ok ds else .no):=by
 intro pins s σ H Q I hq;refine CM h pins s σ H Q I ?_;obtain⟨G,ρ,st,hq⟩:=hq
 try dsimp only at hq
 refine⟨G,ρ,st,?_⟩;cases e:gl ρ with
 |ok ds=>
  rw[e]at hq;intro vs G' H' u r;simp only[R.ok_bind]at hq;split at hq;·rename_i hz;exact⟨by rw[r.length];exact hz,λp hp=>hq p vs G' H' u hp r⟩
  ·exact hq.elim
 |ex C=>rw[e]at hq;exact hq
 |no=>rw[e]at hq;exact hq
def mU(env:Env):List (Str×NameKind)->List (Str×Addr)->List (Str×Addr)
 | [],cs=>cs
 | (n,k)::r,cs=>mU env r (if (k==.free)=true then (match env.cells.lookup n with|some c=>(n,c)::cs|none=>cs)else cs)
theorem tQ{env:Env}{F:Str×NameKind->List (Str×Addr)->Sem (ForInStep (List (Str×Addr)))}(hF:∀n k r,(k=NameKind.free->∃c,env.cells.lookup n=some c)->F (n,k) r=pure (ForInStep.yield (if (k==.free)=true then (match env.cells.lookup n with|some c=>(n,c)::r|none=>r)else r))):
  ∀(l:List (Str×NameKind))(cs:List (Str×Addr)),(∀x∈l,x.2=.free->∃c,env.cells.lookup x.1=some c)->forIn l cs F=pure (mU env l cs)
 | [],cs,_=>rfl
 | (n,k)::l,cs,h=>by rw[Y8,hF n k cs (h (n,k) w5),pure_bind];exact tQ hF l _ λy hy=>h y (w9 _ hy)
def iE{env:Env}(h:∀x∈scope.names,x.2=.free->∃c,env.cells.lookup x.1=some c):closureFor scope env=pure (mU env scope.names []):=by
 simp only[closureFor];rw[tQ (env:=env) (λn k r hk=>?_) scope.names [] h];·rfl
 ·by_cases hf:(k==NameKind.free)=true;·obtain⟨c,hc⟩:=hk (by simpa using hf);simp only[hf,t8,cellOf,hc,pure_bind]
  ·simp only[hf,t5];rfl
theorem nP{env:Env}:∀(l:List (Str×NameKind))(cs:List (Str×Addr)),(∀x c,cs.lookup x=some c->env.cells.lookup x=some c)->∀x c,(mU env l cs).lookup x=some c->env.cells.lookup x=some c
 | [],cs,h,x,c,e=>h x c e
 | (n,k)::l,cs,h,x,c,e=>by
  unfold mU at e;refine nP l _ (λy d ed=>?_) x c e;split at ed
  ·split at ed
   ·rename_i c' hc';rw[s9]at ed;split at ed;·rename_i q;rw[j5 q];rw[<- vC ed];exact hc'
    ·exact h y d ed
   ·exact h y d ed
  ·exact h y d ed
theorem iR{env:Env}:∀(l:List (Str×NameKind))(cs:List (Str×Addr))(x:Str),((∃c,cs.lookup x=some c)\/((x,NameKind.free)∈l/\∃c,env.cells.lookup x=some c))->∃c,(mU env l cs).lookup x=some c
 | [],cs,x,h=>by
  rcases h with h|⟨h,_⟩;·exact h
  ·cases h
 | (n,k)::l,cs,x,h=>by
  unfold mU;refine iR l _ x ?_;rcases h with⟨c,h⟩|⟨h,c,hc⟩
  ·left;split
   ·split
    ·rename_i c' _;rw[s9];split;·exact⟨_,rfl⟩
     ·exact⟨c,h⟩
    ·exact⟨c,h⟩
   ·exact⟨c,h⟩
  ·rcases y9.mp h with e|h;·cases e;left;rw[if_pos (by rfl),hc];exact⟨c,by simp[s9]⟩
   ·exact .inr ⟨h,c,hc⟩
noncomputable def cg(X:Cx)(N':List Str)(scope:Scope)(C:Addr)(s₂:Shared)(H₂:Hp)(fp:List Addr):Cx:=
 { X with N:=N',s₀:=s₂,H₀:=H₂,env:=compEnvC scope (mU X.env scope.names []) C X.env,outer:=X.stack,stack:=X.stack,ex:=fp,fn:=λ_=>false,pn:=[],xe:=λ_ _=>False }
def eW{α:Type}:R α->R α
 |.ok a=>.ok a
 |_=>.no
def fI(ix:List Nat)(ρ:Ev):Ev:=none::ix.map λ(i:Nat)=>match ρ[i]? with
 |some (some (.val d))=>some (.val d)
 |_=>none
def dC(n:Nat)(ix:List Nat)(ρ:Ev):Ev:=List.replicate n none++ix.map λ(i:Nat)=>match ρ[i]? with
 |some (some (.val d))=>some (.val d)
 |_=>none
def cH(asg:D->Ev->R Ev)(gt:Ev->R Bool)(ge:Ev->R D):List D->Ev->R (List D)
 | [],_=>.ok []
 |d::ds,ρ=>eW (asg d ρ)>>=λρ1=>eW (gt ρ1)>>=λk=>if k=true then eW (ge ρ1)>>=λx=>cH asg gt ge ds ρ1>>=λxs=>.ok (x::xs)else cH asg gt ge ds ρ1
def eZ(gt:Ev->R Bool)(ge:Ev->R D):List D->Ev->R (List D):=cH (gO 0) gt ge
theorem gN{asg:D->Ev->R Ev}{gt:Ev->R Bool}{ge:Ev->R D}:∀(ds:List D)(ρ:Ev),(∃xs,cH asg gt ge ds ρ=.ok xs)\/cH asg gt ge ds ρ=.no
 | [],ρ=>.inl ⟨[],rfl⟩
 |d::ds,ρ=>by
  unfold cH;cases asg d ρ with
  |ok ρ1=>
   simp only[eW,R.ok_bind];cases gt ρ1 with
   |ok k=>
    simp only[eW,R.ok_bind];cases k with
    |true=>
     simp only[t8];cases ge ρ1 with
     |ok x=>
      simp only[eW,R.ok_bind];rcases gN (asg:=asg) ds ρ1 with⟨xs,e⟩|e;·rw[e];exact .inl ⟨_,rfl⟩
      ·rw[e];exact .inr rfl
     |ex C=>exact .inr rfl
     |no=>exact .inr rfl
    |false=>simp only[rW,t5];exact gN ds _
   |ex C=>exact .inr rfl
   |no=>exact .inr rfl
  |ex C=>exact .inr rfl
  |no=>exact .inr rfl
def eA(gi:Ev->R (List D))(ix:List Nat)(gt:Ev->R Bool)(ge:Ev->R D):Ev->R (List D):=λρ=>gi ρ>>=λitems=>eZ gt ge items (fI ix ρ)>>=λds=>if ds.length<=sizeLine then .ok ds else .no
def pf(n:Nat)(asg:D->Ev->R Ev)(gi:Ev->R (List D))(ix:List Nat)(gt:Ev->R Bool)(ge:Ev->R D):Ev->R (List D):=λρ=>gi ρ>>=λitems=>cH asg gt ge items (dC n ix ρ)>>=λds=>if ds.length<=sizeLine then .ok ds else .no
noncomputable def PTs(X:Cx)(ifs:List Expr)(gt:Ev->R Bool):Prop:=∀(pins:List (Addr×Obj))(s:Shared)(σ:St)(H:Hp)(Q:Bool->Hp->Prop),Inv X pins σ H s->tTF X gt σ H Q->
 wpAny (model X.prog X.w) X.A (forIn ifs true λc r=>if r=true then do let ok <- isTrue c X.env (eval c X.env);pure (ForInStep.yield ok)else pure (ForInStep.yield r)) (TP X pins σ Q) X.xe s
def eY:PTs X [] (λ_=>.ok true):=by intro pins s σ H Q I h;obtain⟨G,ρ,st,h⟩:=h;exact z7 ⟨H,I,h true G H (.refl st.sub) rfl⟩
def ze{c:Expr}{gt:Ev->R Bool}(h:PB X c gt):PTs X [c] gt:=λpins s σ H Q I q=>wpAny_tests_one (h pins s σ H Q I q)
def Un.sameBut{fs ex:List Addr}{h1 h2:Heap}(u:Un fs ex H H' h h1)(k:∀b o,b≠C->h1.get? b=some o->h2.get? b=some o)(hC:h.objs.size<=C):Un fs ex H H' h h2:=by have ne:∀b o,h.get? b=some o->b≠C:=λb o e=>t9 (rB (xi e) hC);exact⟨λb o e n hb hx=>k b o (ne b o e) (u.keep b o e n hb hx),λb o e n hb hx=>let⟨sl,q⟩:=u.slot b o e n hb hx;⟨sl,k b _ (ne b o e) q⟩,u.free,λb o e hx=>let⟨o',q⟩:=u.there b o e hx;⟨o',k b o' (ne b o e) q⟩,u.tups,u.frzs,u.tbls⟩
def HOk.sameBut{w:World}(x:HOk P w H h)(k:∀b o,b≠C->h.get? b=some o->h'.get? b=some o)(hC:H C=none):HOk P w H h':=λa o e=>by
 refine(x a o e).stay (λb u hb q=>k b u ?_ q) (λ_ z=>z) (λ_ _ z=>z);rcases hb with rfl|hb;·exact aj e hC
 ·exact aj hb hC
section
variable{elt:Expr}{ifs:List Expr}{px:Pos}{N':List Str}{gt:Ev->R Bool}
structure CompOk(X:Cx)(scope:Scope)(x:Str)(N':List Str)(ix:List Nat):Prop where
 kind:scope.kind=.function
 cell:∀y∈scope.names,y.2≠.cell
 names:∀y∈scope.names,y.2=.local->scope.names.lookup y.1=some .local
 loc:scope.names.lookup x=some .local
 fr:∀y∈scope.names,y.2=.free->X.env.kindOf y.1=some .cell
 nd:N'.Nodup
 hd:N'[0]?=some x
 tl:N'.tail=ix.map λ(i:Nat)=>X.N.getD i Str.empty
 lt:∀i∈ix,i<X.N.length
 fre:∀y∈N'.tail,scope.names.lookup y=some .free/\(y,NameKind.free)∈scope.names
structure CompOkT(X:Cx)(scope:Scope)(n:Nat)(N':List Str)(ix:List Nat):Prop where
 kind:scope.kind=.function
 cell:∀y∈scope.names,y.2≠.cell
 names:∀y∈scope.names,y.2=.local->scope.names.lookup y.1=some .local
 fr:∀y∈scope.names,y.2=.free->X.env.kindOf y.1=some .cell
 le:n<=N'.length
 tl:N'.drop n=ix.map λ(i:Nat)=>X.N.getD i Str.empty
 lt:∀i∈ix,i<X.N.length
 fre:∀y∈N'.drop n,scope.names.lookup y=some .free/\(y,NameKind.free)∈scope.names
def CompOk.t(ok:CompOk X scope x N' ix):CompOkT X scope 1 N' ix:=
 ⟨ok.kind,ok.cell,ok.names,ok.fr,(tj.mp ok.hd).1,List.drop_one▸ok.tl,ok.lt,List.drop_one▸ok.fre⟩
theorem fL{env:Env}(hk:env.scope.kind=.function):∀{names:List (Str×NameKind)}{x:Str},names.lookup x=some .free->env.kindOf x=some .cell->
  (names.map λ(n,k)=>if (k==NameKind.free && env.scope.kind==.function && env.kindOf n==some .cell)then (n,NameKind.cell)else (n,k)).lookup x=some .cell
 | [],_,h,_=>by simp at h
 | (n,k)::r,x,h,hc=>by
  have ih:=@fL env hk r x;show List.lookup x ((if (k==NameKind.free && env.scope.kind==.function && env.kindOf n==some .cell)=true then (n,NameKind.cell)else (n,k))::_)=_;cases hx:x==n with
  |true=>simp only[s9,hx]at h;cases h;have e:=j5 hx;subst e;rw[if_pos (by rw[hk,hc];rfl)];simp[s9]
  |false=>
   simp only[s9,hx]at h;by_cases hc':(k==NameKind.free && env.scope.kind==.function && env.kindOf n==some .cell)=true;·rw[if_pos hc'];simp only[s9,hx];exact ih h hc
   ·rw[if_neg hc'];simp only[s9,hx];exact ih h hc
def yA{n:Nat}{d:D}(h:(dC n ix ρ)[j]?=some (some (.val d))):∃k i,j=k+n/\ix[k]?=some i/\ρ[i]?=some (some (.val d)):=by
 unfold dC at h;by_cases hj:j<n;·rw[qq (by simpa using hj),lE,if_pos hj]at h;cases h
 ·rw[pT (by simpa using sT.1 hj),pV,u9]at h;cases e:ix[j - n]? with
  |none=>rw[e]at h;cases h
  |some i=>
   rw[e]at h;refine⟨j - n,i,by omega,e,?_⟩;simp only[q8,jA]at h;split at h;·rename_i d' e';cases h;exact e'
   ·cases h
def cq(n:Nat)(ix:List Nat)(σ:St):St:=List.replicate n none++ix.map λ(i:Nat)=>(σ[i]?).join
def fM{n:Nat}:NoOwn (dC n ix ρ):=λj x h=>by
 unfold dC at h;by_cases hj:j<n;·rw[qq (by simpa using hj),lE,if_pos hj]at h;cases h
 ·rw[pT (by simpa using sT.1 hj),pV,u9]at h;cases e:ix[j - n]? with
  |none=>rw[e]at h;cases h
  |some i=>
   rw[e]at h;simp only[q8,jA]at h;split at h;·cases h;exact⟨_,rfl⟩
   ·cases h
def jU{K:PySem.W.Frag}(st:StE K G H σ ρ)(n:Nat)(ix:List Nat):StE K G H (cq n ix σ) (dC n ix ρ):=by refine⟨st.sub,by simp[dC,cq],λj d h=>?_,λj m C p fs h=>absurd h (NoOwn.obj fM j m C p fs)⟩;obtain⟨k,i,rfl,e1,e2⟩:=yA h;obtain⟨v,h1,h2⟩:=st.val i d e2;refine⟨v,?_,h2⟩;unfold cq;rw[pT (by simp),pV,Nat.add_sub_cancel,u9,e1];simp[h1]
def AH{h₁:Heap}{tk:Nat}{m:Str->Option Value}{n:Nat}(ok:CompOkT X scope n N' ix)(hcalm:X.calm=true)(I:Inv X pins σ H s)(hf:∀b∈fp,lv X pins H b)(hfl:∀b∈fp,b<s.heap.objs.size)(hC:s.heap.objs.size<=C)(hn:h₁.Ns C m)(old:∀b o,s.heap.get? b=some o->h₁.get? b=some o)(un:Un (frs X.stack) fp H H' s.heap h₁)(hok:HOk X.prog X.w H' h₁)(hfC:H' C=none)(hfc:∀c:Addr,c<s.heap.objs.size->H c=none->H' c=none):
  Inv (cg X N' scope C s H fp) [] (cq n ix σ) H' { s with heap:=h₁,toks:=tk }:=by
 have cl:∀y c,(mU X.env scope.names []).lookup y=some c->X.env.cells.lookup y=some c:=nP scope.names [] (λy c h=>by simp at h);have nlt:N'.length=n+ix.length:=by have h1:=o9 List.length ok.tl;rw[lM,zV]at h1;have:=ok.le;omega
 refine⟨⟨I.ok.mod,by show(relabel scope X.env).kind=_;exact ok.kind,I.ok.glob,I.ok.blt,hC,?_,?_,?_,I.ok.hd,I.ok.frames,.inl rfl,?_,I.bs,w6 I.ok.bsz I.sz,?_,?_,I.stack,I.stkFree,I.ok.tabs.un I.base⟩,rfl,I.bare,un,?_,?_,hfC,?_,?_,hok,?_⟩;·intro y z c h1 h2;exact I.ok.inj y z c (cl y c h1) (cl z c h2)
 ·intro y hy;have h1:(y,NameKind.free)∈scope.names:=by
   have hy':(relabel scope X.env).names.lookup y=some .cell\/(relabel scope X.env).names.lookup y=some .free:=hy;have mem:∀k,(relabel scope X.env).names.lookup y=some k->(k=.cell\/k=.free)->(y,NameKind.free)∈scope.names:=λk e hk=>by
    have hm:=iq e;obtain⟨⟨n,k'⟩,hm1,hm2⟩:=s8.mp hm;dsimp only at hm2;split at hm2
    ·rename_i hc;cases hm2;have:k'=.free:=by have:=(u8 _ _▸(u8 _ _▸hc).1).1;simpa using this
     rw[<- this];exact hm1
    ·cases hm2;rcases hk with rfl|rfl;·exact absurd rfl (ok.cell _ hm1)
     ·exact hm1
   rcases hy' with h|h;·exact mem _ h (.inl rfl)
   ·exact mem _ h (.inr rfl)
  have hc:=I.ok.has y (.inl (ok.fr _ h1 rfl));exact iR scope.names [] y (.inr ⟨h1,hc⟩)
 ·intro y c hfn;cases hfn
 ·intro b hb;obtain⟨f0,f1,f2,f3,f4,f5⟩:=hf b hb;exact⟨λz=>absurd (hfl b hb) (by rw[z];exact sT.mpr hC),λy c h=>f4 y c (cl y c h)⟩
 ·intro b o e hb;obtain⟨f0,f1,f2,f3,f4,f5⟩:=hf b hb;rcases f3 with f3|f3;·exact I.ok.noex b o e f3
  ·exact absurd (xi (I.ok.bs b o e).1) (sT.mpr f3)
 ·intro b hb hb';obtain⟨f0,f1,f2,f3,f4,f5⟩:=hf b hb;rcases y9.mp (I.stkSub b hb')with e|e;·exact f1 e
  ·exact f2 e
 ·refine⟨m,hn,λi y v h1 h2 h3=>?_⟩;have h1:N'[i]?=some y:=h1;have h2:(cq n ix σ)[i]?=some (some v):=h2;by_cases hi:i<n;·unfold cq at h2;rw[qq (by simpa using hi),lE,if_pos hi]at h2;cases h2
  ·unfold cq at h2;rw[pT (by simpa using sT.1 hi),pV,u9]at h2;cases e:ix[i - n]? with
   |none=>rw[e]at h2;cases h2
   |some i0=>
    rw[e]at h2;have h2':σ[i0]?=some (some v):=by
     cases q:σ[i0]? with
     |none=>rw[q8,q]at h2;cases h2
     |some z=>rw[q8,q]at h2;have:=vC h2;rw[<- this];rfl
    have ht:(N'.drop n)[i - n]?=some y:=by rw[Zb,Nat.add_sub_cancel' (sT.1 hi)];exact h1
    have hy:X.N[i0]?=some y:=by have ht2:=ht;rw[ok.tl,u9,e]at ht2;have hl:=ok.lt i0 (nZ e);have q:=vC ht2;rw[vY hl];rw[<- q];show some X.N[i0]=some (X.N.getD i0 Str.empty);rw[v9,vY hl];rfl
    obtain⟨fr1,fr2⟩:=ok.fre y (nZ ht);have kc:=ok.fr _ fr2 rfl;obtain⟨m0,hn0,hl⟩:=I.loc;obtain⟨u,ru,lk⟩:=hl i0 y v hy h2' (.inr (.inl kc));refine⟨u,ru,.inr ⟨.inl (fL I.ok.kind fr1 kc),?_⟩⟩;rcases lk with⟨z,_⟩|⟨_,c,hc,hcell⟩;·rw[kc]at z;cases z
    ·obtain⟨c',hc'⟩:=iR scope.names [] y (.inr ⟨fr2,c,hc⟩);have:=cl y c' hc';rw[hc]at this;cases this;exact⟨c,hc',hcell.keeps old⟩
 ·intro y c h;obtain⟨v,q⟩:=I.cell y c (cl y c h);exact⟨v,q.keeps old⟩
 ·intro y c h;obtain⟨v,q⟩:=I.cell y c (cl y c h);exact hfc c q.lt (I.freeC y c (cl y c h))
 ·intro p hp;exact absurd (show p∈([]:List (Addr×Obj)) from hp) (by simp)
 ·show(cq n ix σ).length=N'.length;rw[nlt];simp[cq]
def mC{prog:Program}{w:World}{A:Around}{R':Result->Shared->Prop}{elt target:Expr}{ifs:List Expr}{it acc:Value}{env:Env}(I:Nat->Shared->Prop)(CO:∀n s,I n s->wpAny (model prog w) A (pyNext it) (λr s₁=>match r with
 |none=>R' (.ok .next) s₁
 |some v=>wpAny (model prog w) A (letOwnedTupleGo target it v) (λ_ s₁'=>wpAny (model prog w) A (assign target env v) (λ_ s₂=>
 wpAny (model prog w) A (forIn ifs true λc r=>if r=true then do let ok <- isTrue c env (eval c env);pure (ForInStep.yield ok)else pure (ForInStep.yield r)) (λok s₃=>
 if ok=true then wpAny (model prog w) A (eval elt env) (λx s₄=>
 wpAny (model prog w) A (call (.builtin "list.append") [acc,x]) (λ_ s₅=>∃m,m<n/\I m s₅) (λ_ _=>False) s₄) (λ_ _=>False) s₃
 else ∃m,m<n/\I m s₃) (λ_ _=>False) s₂) (λ_ _=>False) s₁') (λ_ _=>False) s₁) (λ_ _=>False) s)(n:Nat)(h:I n s):
  codeAny (model prog w) A (.compLoop (.ListComp elt [⟨target,iter,ifs,0⟩] scope pos) 0 it acc env) R' s:=by
 refine codeAny_loop rfl I (λn s hI=>?_) n h;show wpAny _ A ((compTurn (.ListComp elt [⟨target,iter,ifs,0⟩] scope pos) 0 it acc env).onRaise (λx=>do noteFrame x env;theTreesLotGoes x)) _ _ s;refine wpAny_noted ?_;rw[compTurn_list];refine z5 (Zq (z5 (t7 (CO n s hI) (λr s₁ h₁=>?_) λ_ _ z=>z.elim)));cases r with
 |none=>exact z7 h₁
 |some v=>
  refine z5 (t7 h₁ (λ_ s₁' h₁'=>?_) λ_ _ z=>z.elim);refine z5 (t7 h₁' (λ_ s₂ h₂=>z5 (t7 h₂ (λok s₃ h₃=>?_) λ_ _ z=>z.elim)) λ_ _ z=>z.elim);cases ok with
  |false=>exact z7 ⟨rfl,h₃⟩
  |true=>exact z5 (z5 (t7 h₃ (λx s₄ h₄=>z5 (t7 h₄ (λ_ s₅ h₅=>z7 (z7 ⟨rfl,h₅⟩)) λ_ _ z=>z.elim)) λ_ _ z=>z.elim))
def uA{i:Nat}:∀d ρ ρ',gO i d ρ=.ok ρ'->NoOwn ρ->NoOwn ρ':=by
 intro d ρ ρ' e h j x q;have e':ρ.set i (some (.val d))=ρ':=R.ok.inj e;rw[<- e',Ye]at q;split at q
 ·split at q;·cases q;exact⟨d,rfl⟩
  ·cases q
 ·exact h j x q
def sw{tgt : Expr}{n : Nat}{tn : Nat -> Heap -> Prop}{J : It}{Q : VK}{RR : Value -> Addr -> Result -> Shared -> Prop}{E : Value -> Shared -> Prop}(ok : CompOkT X scope n N' ix)(hcalm : X.calm = true)(hg : ∀C s₂ H₂ fp, PGF (cg X N' scope C s₂ H₂ fp) tgt asg)(hown : ∀d ρ ρ', asg d ρ = .ok ρ' -> (NoOwn ρ) -> NoOwn ρ')(he : ∀C s₂ H₂ fp, PF (cg X N' scope C s₂ H₂ fp) elt ge)(ht : ∀C s₂ H₂ fp, PTs (cg X N' scope C s₂ H₂ fp) ifs gt)(I : Inv X pins σ H s)(T : Turn X.prog X.w X.K tgt J fp it tn)(st0 : tn 0 s.heap)(hf : ∀b ∈ fp, lv X pins H b)(st : StE X.K G H σ ρ)(hi : ItOk X.K G J items)(h : (cH asg gt ge items (dC n ix ρ) >>= λds => if ds.length <= sizeLine then R.ok ds else .no).post (oh X.K G H Q) (Exx X σ G H))(hR : ∀(Dd C : Addr)(s' : Shared)(m : Str -> Option Value)(vs : List V)(G' H' : Hp), Up G H G' H' -> H' Dd = none -> C≠Dd -> (∀ds, Reps X.K G' vs ds -> True) -> Q (.ref Dd) (upd H' Dd (.lst vs)) -> s'.heap.Ns C m -> s'.os = s.os -> AllBare s'.gens -> H' C = none -> s.heap.objs.size <= C ->
 Un (frs X.stack) fp H (upd H' Dd (.lst vs)) s.heap s'.heap -> HOk X.prog X.w (upd H' Dd (.lst vs)) s'.heap -> RR (.ref Dd) C (.ok .next) s'):
    wpAny (model X.prog X.w) X.A (newList []) (λacc s₃ => wpAny (model X.prog X.w) X.A (newFunctionEnv scope X.env.globals (mU X.env scope.names []) [] X.env.qual none .none (some X.env)) (λcenv s₄ =>codeAny (model X.prog X.w) X.A (.compStart (.ListComp elt [⟨tgt, iter, ifs, 0⟩] scope pos) 0 (.ref it) acc { cenv with scope := relabel scope X.env }) (RR acc cenv.locals) s₄) E s₃) E s := by
  have hfl : ∀b ∈ fp, b < s.heap.objs.size := λb hb => let⟨o, e, _⟩ := T.obj 0 s.heap st0 b hb; xi e;refine o5 (wpAny_newFunctionEnv ok.cell (by intro y hy; simp at hy) (λh₁ hns₁ hsb₁ => ?_) ok.kind);dsimp only at hns₁ hsb₁⊢;generalize hH2 : s.heap.push { cls := .type "list", dict := none, data := .seq ([] : List Value).toArray } = Hq at hns₁ hsb₁⊢;have hC : Hq.objs.size = s.heap.objs.size + 1 := by rw[<- hH2, n4]
  have hDC : s.heap.objs.size≠Hq.objs.size := by rw[hC]; exact t9 (g8 _)
  have hCle : s.heap.objs.size <= Hq.objs.size := by rw[hC]; exact qO _
  have old : ∀b o, s.heap.get? b = some o -> h₁.get? b = some o := λb o e =>
    hsb₁.extBut b o (by rw[hC]; exact t9 (Zc (xi e))) (z9 _ (hH2▸z9 _ e));have hacc : h₁.get? s.heap.objs.size = some { cls := .type "list", data := .seq ([] : List Value).toArray } := hsb₁.extBut _ _ hDC (z9 _ (hH2▸v7 _ rfl));have hD0 : H s.heap.objs.size = none := I.fresh;have hC0 : H Hq.objs.size = none := I.hok.fresh hCle;have st0' : tn 0 h₁ := T.keep 0 _ _ st0 λb hb o e => old b o e;have I0 : ∀tk, Inv (cg X N' scope Hq.objs.size s H fp) [] (cq n ix σ) (upd H s.heap.objs.size (.lst [])) { s with heap := h₁, toks := tk } := λtk => by
    refine AH ok hcalm I hf hfl hCle hns₁ old (Un.laid old (z8 _) hD0) (I.hok.laid old (z8 _) ⟨v8 _, [], 0, .nil, hacc⟩) (by rw[au hDC.symm]; exact hC0) λc hc e => ?_;rw[au (t9 hc)]; exact e
  have loop : ∀tk, codeAny (model X.prog X.w) X.A (.compLoop (.ListComp elt [⟨tgt, iter, ifs, 0⟩] scope pos) 0 (.ref it) (.ref s.heap.objs.size) (compEnvC scope (mU X.env scope.names []) Hq.objs.size X.env))
      (RR (.ref s.heap.objs.size) Hq.objs.size) { s with heap := h₁, toks := tk } := λtk => by
    have fpk : ∀{pins' : List (Addr × Obj)}{σ' : St}{H' : Hp}{s' : Shared}, Inv (cg X N' scope Hq.objs.size s H fp) pins' σ' H' s' -> pins' = [] -> (∀b ∈ fp, H' b = none) -> ∀b ∈ fp, lv (cg X N' scope Hq.objs.size s H fp) pins' H' b := λI' e hn b hb =>⟨hn b hb, (I'.ok.exf b hb).1, I'.ok.exfs b hb, .inl hb, (I'.ok.exf b hb).2, by subst e; intro p hp; exact absurd (show p ∈ ([] : List (Addr × Obj)) from hp) (by simp)⟩
    refine mC (λnn s' => ∃(i : Nat)(σ' : St)(G' H' : Hp)(ρ' : Ev)(vs : List V)(ys : List D), nn = items.length - i /\ i <= items.length /\ Inv (cg X N' scope Hq.objs.size s H fp) [] σ' H' s' /\ tn i s'.heap /\ (∀b ∈ fp, H' b = none) /\
      H' s.heap.objs.size = some (.lst vs) /\ G' s.heap.objs.size = none /\ Up G H G' H' /\ StE X.K G' H' σ' ρ' /\ (NoOwn ρ') /\ Reps X.K G' vs ys /\
      (cH asg gt ge (items.drop i) ρ' >>= λzs => if (ys ++ zs).length <= sizeLine then R.ok (ys ++ zs)else .no).post (oh X.K G H Q) (Exx X σ G H)) ?_ items.length
      ⟨0, cq n ix σ, G, upd H s.heap.objs.size (.lst []), dC n ix ρ, [], [], by simp, v8 _, I0 tk, st0', λb hb => by rw[au (t9 (hfl b hb))]; exact(hf b hb).1, ay, st.sub.free hD0,
        ⟨λa o e => by rw[au (aj e (st.sub.free hD0))]; exact st.sub a o e, .refl _, .into hD0, λ_ _ e => .inl e⟩,
        ⟨λa o e => by rw[au (aj e (st.sub.free hD0))]; exact st.sub a o e, (jU st n ix).len, (jU st n ix).val, λj m C p fs h => absurd h (NoOwn.obj fM j m C p fs)⟩, fM, .nil, by simpa using h⟩;rintro nn s' ⟨i, σ', G', H', ρ', vs, ys, rfl, hil, I', tn', fr', hD', gD', up', st', no', rp', h'⟩;have hIt := hi i G' H' up'.gg st'.sub;by_cases hlt : i < items.length
    ·
      have hd : items.drop i = items[i] :: items.drop (i + 1) := Zd hlt;rw[hd]at h';obtain⟨go, yl⟩ := hIt.1 items[i] (by simp[hlt]);refine t7 (T.item (cg X N' scope Hq.objs.size s H fp) rfl rfl rfl hcalm i [] s' σ' H' (λ_ _ => False) I' (fpk I' rfl fr') tn' go) (λr s1 ⟨u, hr, h1⟩ => ?_) λ_ _ z => z;subst hr;refine t7 h1 (λ_ s2 ⟨x2, H2, I2, r2, y2, tn2, fr2⟩ => ?_) λ_ _ z => z;obtain⟨G2, up2, rep2⟩ := yl x2 H2 y2;have I2p := I2.pinned (fpk I2 rfl fr2) (T.obj _ _ tn2);have st2 : StE X.K G2 H2 σ' ρ' := st'.up up2;have sr2 : StR X.K G2 H2 G2 H2 σ' ρ' := ⟨st2, up2.sub, .refl up2.sub, λj ds e => absurd e (no'.own j ds), λj k ds es l e => absurd e (no'.own j ds), no'.ob⟩
      have ea : ∃ρ1, asg items[i] ρ' = .ok ρ1 := by
        unfold cH at h';cases q : asg items[i] ρ' with
        |ok k => exact⟨k, rfl⟩
        |_ => rw[q]at h'; exact h'.elim
      obtain⟨ρ1, ea⟩ := ea;unfold cH at h';rw[ea]at h';simp only[eW, R.ok_bind]at h';refine t7 (hg Hq.objs.size s H fp _ s2 σ' H2 x2 u (λσ3 H3 => H3 = H2 /\ StR X.K G2 H2 G2 H2 σ3 ρ1) I2p r2
        ⟨G2, H2, G2, ρ', items[i], _, sr2, rep2, ea, λσ3 q => ⟨rfl, q⟩⟩) (λ_ s3 ⟨σ3, H3, I3, e3, sr3⟩ => ?_) λ_ _ z => z;subst e3;have no3 := hown _ _ _ ea no';have hD2 : H3 s.heap.objs.size = some (.lst vs) := up2.hh _ _ hD';have gD2 : G2 s.heap.objs.size = none := by
        cases q : G2 s.heap.objs.size with
        |none => rfl
        |some o =>
          rcases up2.fr _ _ q with z|z;· rw[gD']at z; cases z
          · rw[hD']at z; cases z
      have ek : ∃k, gt ρ1 = .ok k := by
        cases q : gt ρ1 with
        |ok k => exact⟨k, rfl⟩
        |_ => rw[q]at h'; exact h'.elim
      obtain⟨k, ek⟩ := ek;rw[ek]at h';simp only[eW, R.ok_bind]at h';refine t7 (ht Hq.objs.size s H fp _ s3 σ3 H3 (λb H4 => b = k /\ ∃G4, Up G2 H3 G4 H4) I3 ⟨G2, _, sr3.e, by rw[ek]; exact λb G4 H4 u4 e4 => ⟨e4, G4, u4⟩⟩) (λb s4 ⟨H4, I4, eb, G4, up4⟩ => ?_) λ_ _ z => z;subst eb;have next : ∀{H7 : Hp}{s7 : Shared}{G7 : Hp}{vs7 : List V}{ys7 : List D}, Inv (cg X N' scope Hq.objs.size s H fp) ([] ++ mr fp s2.heap) σ3 H7 s7 -> H7 s.heap.objs.size = some (.lst vs7) -> G7 s.heap.objs.size = none -> Up G H G7 H7 -> StE X.K G7 H7 σ3 ρ1 -> Reps X.K G7 vs7 ys7 ->
          (cH asg gt ge (items.drop (i + 1)) ρ1 >>= λzs => if (ys7 ++ zs).length <= sizeLine then R.ok (ys7 ++ zs)else .no).post (oh X.K G H Q) (Exx X σ G H) ->
          ∃m, m < items.length - i /\ ∃(i : Nat)(σ' : St)(G' H' : Hp)(ρ' : Ev)(vs : List V)(ys : List D), m = items.length - i /\ i <= items.length /\ Inv (cg X N' scope Hq.objs.size s H fp) [] σ' H' s7 /\ tn i s7.heap /\ (∀b ∈ fp, H' b = none) /\
            H' s.heap.objs.size = some (.lst vs) /\ G' s.heap.objs.size = none /\ Up G H G' H' /\ StE X.K G' H' σ' ρ' /\ (NoOwn ρ') /\ Reps X.K G' vs ys /\
            (cH asg gt ge (items.drop i) ρ' >>= λzs => if (ys ++ zs).length <= sizeLine then R.ok (ys ++ zs)else .no).post (oh X.K G H Q) (Exx X σ G H) := λ{H7 s7 G7 vs7 ys7} I7 hD7 gD7 up7 st7 rp7 h7 => by
        have pin : ∀b ∈ fp, ∀o, s2.heap.get? b = some o -> s7.heap.get? b = some o /\ H7 b = none := λb hb o e => by have := I7.pin (b, o) (n8 _ (n8 _ (gF hb e)));exact⟨this.1, this.2.1⟩
        refine⟨items.length - (i + 1), by omega, i + 1, σ3, G7, H7, _, vs7, ys7, rfl, hlt, I7.unpinned, T.keep _ _ _ tn2 λb hb o e => (pin b hb o e).1, λb hb => ?_, hD7, gD7, up7, st7, no3, rp7, h7⟩;obtain⟨o, e, _⟩ := T.obj _ _ tn2 b hb;exact(pin b hb o e).2
      have hD4 : H4 s.heap.objs.size = some (.lst vs) := up4.hh _ _ hD2;have gD4 : G4 s.heap.objs.size = none := by
        cases q : G4 s.heap.objs.size with
        |none => rfl
        |some o =>
          rcases up4.fr _ _ q with z|z;· rw[gD2]at z; cases z
          · rw[hD2]at z; cases z
      cases b with
      |false =>simp only[rW, t5]at h'⊢;exact next I4 hD4 gD4 ((up'.trans up2).trans up4) (sr3.e.up up4) ((rp'.mono up2.gg).mono up4.gg) h'
      |true =>
        simp only[t8]at h'⊢;have ex : ∃y, ge ρ1 = .ok y := by
          cases q : ge ρ1 with
          |ok y => exact⟨y, rfl⟩
          |_ => rw[q]at h'; exact h'.elim
        obtain⟨y, ey⟩ := ex;rw[ey]at h';simp only[eW, R.ok_bind]at h';refine t7 (he Hq.objs.size s H fp _ s4 σ3 H4 (λv H5 => ∃G5, Up G4 H4 G5 H5 /\ Rep X.K G5 v y) I4 ⟨G4, _, sr3.e.up up4, by rw[ey]; exact λv G5 H5 u5 r5 => ⟨G5, u5, r5⟩⟩) (λu5 s5 ⟨v5, H5, I5, r5, G5, up5, rep5⟩ => ?_) λ_ _ z => z;have hD5 : H5 s.heap.objs.size = some (.lst vs) := up5.hh _ _ hD4;have gD5 : G5 s.heap.objs.size = none := by
          cases q : G5 s.heap.objs.size with
          |none => rfl
          |some o =>
            rcases up5.fr _ _ q with z|z;· rw[gD4]at z; cases z
            · rw[hD4]at z; cases z
        have ups := ((up'.trans up2).trans up4).trans up5;rcases gN (asg := asg) (gt := gt) (ge := ge) (items.drop (i + 1)) ρ1 with⟨zs, ez⟩|ez
        · rw[ez]at h';simp only[R.ok_bind]at h';have hz : (ys ++ y :: zs).length <= sizeLine := by
            by_cases hz : (ys ++ y :: zs).length <= sizeLine;· exact hz
            · rw[if_neg hz]at h'; exact h'.elim
          have hvl : vs.length < sizeLine := by rw[rp'.length];rw[v6, r6]at hz;omega
          refine t7 (iT (X := cg X N' scope Hq.objs.size s H fp) _ s5 σ3 H5 (.ref s.heap.objs.size) [v5] (.ref s.heap.objs.size) [u5] (λ_ H6 => H6 = upd H5 s.heap.objs.size (.lst (vs ++ [v5]))) I5 rfl (.cons r5 .nil)
            ⟨_, vs, v5, rfl, rfl, hD5, hvl, rfl⟩) (λ_ s6 ⟨_, H6, I6, _, e6⟩ => ?_) λ_ _ z => z;subst e6;have sub6 : Same G5 (upd H5 s.heap.objs.size (.lst (vs ++ [v5]))) := λa o e => by rw[au (aj e gD5)]; exact up5.sub a o e
          refine next I6 ay gD5 ⟨sub6, ups.gg, λa o e => ?_, ups.fr⟩ ?_ (ys7 := ys ++ [y]) ((((rp'.mono up2.gg).mono up4.gg).mono up5.gg).append (.cons rep5 .nil)) ?_
          · rw[au (aj e hD0)]; exact ups.hh a o e
          · exact⟨sub6, ((sr3.e.up up4).up up5).len, ((sr3.e.up up4).up up5).val, λj m C p fs h => absurd h (no3.obj j m C p fs)⟩
          · rw[ez];simp only[R.ok_bind, j6, List.singleton_append];exact h'
        · rw[ez]at h'; exact h'.elim
    ·
      have hie : i = items.length := by omega
      subst hie;rw[Ze]at h';unfold cH at h';simp only[R.ok_bind, qo]at h';refine t7 (T.done (cg X N' scope Hq.objs.size s H fp) rfl rfl rfl hcalm items.length [] s' σ' H' (λ_ _ => False) I' (fpk I' rfl fr') tn' (hIt.2 (z8 _))) (λr s1 ⟨hr, I1⟩ => ?_) λ_ _ z => z;subst hr;have hz : ys.length <= sizeLine := by
        by_cases hz : ys.length <= sizeLine;· exact hz
        · rw[if_neg hz]at h'; exact h'.elim
      rw[if_pos hz]at h';have eH : upd (λa => if a = s.heap.objs.size then none else H' a) s.heap.objs.size (.lst vs) = H' := by
        funext a
        unfold upd;by_cases e : a = s.heap.objs.size;· subst e; rw[if_pos rfl]; exact hD'.symm
        · rw[if_neg e];show(if a = s.heap.objs.size then none else H' a) = _;rw[if_neg e]
      have hn : (λa => if a = s.heap.objs.size then none else H' a) s.heap.objs.size = none := by simp
      have upn : Up G H G' (λa => if a = s.heap.objs.size then none else H' a) := by
        refine⟨λa o e => ?_, up'.gg, λa o e => ?_, up'.fr⟩;· have : a≠s.heap.objs.size := aj e gD';simp only[this, t5]; exact up'.sub a o e
        · have : a≠s.heap.objs.size := aj e hD0;simp only[this, t5]; exact up'.hh a o e
      obtain⟨m1, hm1, _⟩ := I1.loc;refine hR s.heap.objs.size Hq.objs.size s1 m1 vs G' _ upn hn hDC.symm (λ_ _ => trivial) (h' _ vs G' _ upn hn rp') hm1 I1.os I1.bare ?_ hCle (by rw[eH]; exact I1.base) (by rw[eH]; exact I1.hok);have := I1.free;show(if Hq.objs.size = s.heap.objs.size then none else H' Hq.objs.size) = none;rw[if_neg hDC.symm]; exact this
  exact codeAny_compStart_list (loop _) (T.self X.A 0 _ _ _ st0' (loop _))

def vc{tn:Nat->Heap->Prop}{J:It}{Q:VK}{RR:Value->Addr->Result->Shared->Prop}{E:Value->Shared->Prop}(ok:CompOk X scope x N' ix)(hcalm:X.calm=true)(he:∀C s₂ H₂ fp,PF (cg X N' scope C s₂ H₂ fp) elt ge)(ht:∀C s₂ H₂ fp,PTs (cg X N' scope C s₂ H₂ fp) ifs gt)(I:Inv X pins σ H s)(T:Turn X.prog X.w X.K (.Name x px) J fp it tn)(st0:tn 0 s.heap)(hf:∀b∈fp,lv X pins H b)(st:StE X.K G H σ ρ)(hi:ItOk X.K G J items)(h:(eZ gt ge items (fI ix ρ)>>=λds=>if ds.length<=sizeLine then R.ok ds else .no).post (oh X.K G H Q) (Exx X σ G H))(hR:∀(Dd C:Addr)(s':Shared)(m:Str->Option Value)(vs:List V)(G' H':Hp),Up G H G' H'->H' Dd=none->C≠Dd->(∀ds,Reps X.K G' vs ds->True)->Q (.ref Dd) (upd H' Dd (.lst vs))->s'.heap.Ns C m->s'.os=s.os->AllBare s'.gens->H' C=none->s.heap.objs.size<=C->
 Un (frs X.stack) fp H (upd H' Dd (.lst vs)) s.heap s'.heap->HOk X.prog X.w (upd H' Dd (.lst vs)) s'.heap->RR (.ref Dd) C (.ok .next) s'):
  wpAny (model X.prog X.w) X.A (newList []) (λacc s₃=>wpAny (model X.prog X.w) X.A (newFunctionEnv scope X.env.globals (mU X.env scope.names []) [] X.env.qual none .none (some X.env)) (λcenv s₄=>codeAny (model X.prog X.w) X.A (.compStart (.ListComp elt [⟨.Name x px,iter,ifs,0⟩] scope pos) 0 (.ref it) acc { cenv with scope:=relabel scope X.env }) (RR acc cenv.locals) s₄) E s₃) E s:=
 sw (n:=1) (asg:=gO 0) ok.t hcalm (λC s₂ H₂ fp=>cU (X:=cg X N' scope C s₂ H₂ fp) (pos:=px) 0 ok.nd ok.hd (.inl (lookup_relabel_local ok.loc)) (.inr (lookup_relabel_local ok.loc))) uA he ht I T st0 hf st hi h hR
def cE(ok:CompOk X scope x N' ix)(hcalm:X.calm=true)(hi:PIF X (.Name x px) iter gi)(he:∀C s₂ H₂ fp,PF (cg X N' scope C s₂ H₂ fp) elt ge)(ht:∀C s₂ H₂ fp,PTs (cg X N' scope C s₂ H₂ fp) ifs gt)(hs:∀x,foldedSetIterable iter X.env x=pure x:=by intro _;rfl):PFL X (.ListComp elt [⟨.Name x px,iter,ifs,0⟩] scope pos) (eA gi ix gt ge):=by
 intro pins s σ H Q I h;obtain⟨G,ρ,st,h⟩:=h;rw[eval_ListComp];refine wpAny_comprehension_free (use:=none) rfl hs (iE λy hy hy2=>I.ok.has y.1 (.inl (ok.fr y hy hy2))) ok.kind ok.names ?_;have t:tG X (λG J items=>ItOk X.K G J items) gi σ H (λJ H1=>∃G1 items,Up G H G1 H1/\StE X.K G1 H1 σ ρ/\ItOk X.K G1 J items/\(eZ gt ge items (fI ix ρ)>>=λds=>if ds.length<=sizeLine then R.ok ds else .no).post (oh X.K G H Q) (Exx X σ G H)):=by
  refine⟨G,ρ,st,?_⟩;unfold eA at h;cases e:gi ρ with
  |ok items=>rw[e]at h;exact λJ G1 H1 u r=>⟨G1,items,u,st.up u,r,h⟩
  |ex C=>rw[e]at h;exact h
  |no=>rw[e]at h;exact h
 refine thn (hi pins s σ H _ I t) λv s1 h1=>thn h1 λitv s2 h2=>?_;obtain⟨it,fp,tn,J,H2,e,I2,T,st2,f2,G2,items,u2,sE2,iok,h2⟩:=h2;subst e;have h2':(eZ gt ge items (fI ix ρ)>>=λds=>if ds.length<=sizeLine then R.ok ds else .no).post (oh X.K G2 H2 Q) (Exx X σ G2 H2):=
  h2.mono (λds q l vs G' H' u hl r=>q l vs G' H' (u2.trans u) hl r) λC q=>q.up u2;refine vc (iter:=iter) (pos:=pos) (RR:=λacc C=>compPost (model X.prog X.w) X.A X.xe none (EP X pins σ Q) acc C) ok hcalm he ht I2 T st2 f2 sE2 iok h2' ?_;intro Dd C s' m vs G' H' up hd hCD _ q hm hos hb hC hCl un hok;refine⟨m,hm,λh' hs'=>?_⟩;have I3:=I2.call' (H':=upd H' Dd (.lst vs)) (s':={ s' with heap:=h' }) (ch:=fp) hos (un.sameBut (λb o hbc e=>hs'.extBut b o hbc e) hCl) (hok.sameBut (λb o hbc e=>hs'.extBut b o hbc e) (by rw[au hCD];exact hC)) hb λb hb'=>by
  obtain⟨f0,f1,f2',f3,f4,f5⟩:=f2 b hb';exact⟨f3,f1,f4,f5⟩
 exact⟨.ref Dd,_,I3,rfl,q⟩
end
inductive O where
 |nx (ρ:Ev)|rt (d:D)|re (d:D) (ρ:Ev)|bk (ρ:Ev)|ct (ρ:Ev)|ex (C:Addr) (ρ:Ev)|no
noncomputable def FlyS(X:Cx)(G₀ H₀:Hp)(ρ:Ev)(C:Addr)(e:Value)(s':Shared):Prop:=∃σ H₁ pins s₁ a,e=.ref a/\Inv X pins σ H₁ s₁/\
 ((∃G₁ h' vs,StR X.K G₀ H₀ G₁ H₁ σ ρ/\Heap.MadeExcOf s₁.heap h' a (.ref C) vs/\s'={ s₁ with heap:=h' })\/(∃G' H',Dn X.prog X.w X.stack H₁ s₁ a C H' s'/\StR X.K G₀ H₀ G' H' σ ρ)\/
  ∃G' H' L,X.env.frame=some L/\CB X pins L H₁ s₁ a C H' s'/\StR X.K G₀ H₀ G' H' σ ρ)
def FlyS.of{H₀ G₁ H₁:Hp}{e:Value}(sr:StR X.K G₀ H₀ G₁ H₁ σ ρ)(f:La X σ G₁ H₁ C e s'):FlyS X G₀ H₀ ρ C e s':=by
 obtain⟨pins,s₁,a,e,I,way⟩:=f;refine⟨σ,H₁,pins,s₁,a,e,I,?_⟩;rcases way with⟨h',vs,m,z⟩|⟨G',H',fl,u⟩|⟨G',H',L,hL,fl,u⟩;·exact .inl ⟨G₁,h',vs,sr,m,z⟩
 ·exact .inr (.inl ⟨G',H',fl,sr.ups u⟩)
 ·exact .inr (.inr ⟨G',H',L,hL,fl,sr.ups u⟩)
def FlyS.map{A B A' B':Hp}{ρ':Ev}{e:Value}(f:FlyS X A B ρ C e s')(h:∀σ G H,StR X.K A B G H σ ρ->StR X.K A' B' G H σ ρ'):FlyS X A' B' ρ' C e s':=by
 obtain⟨σ,H₁,pins,s₁,a,e,I,way⟩:=f;refine⟨σ,H₁,pins,s₁,a,e,I,?_⟩;rcases way with⟨G₁,h',vs,sr,m,z⟩|⟨G',H',fl,sr⟩|⟨G',H',L,hL,fl,sr⟩;·exact .inl ⟨G₁,h',vs,h _ _ _ sr,m,z⟩
 ·exact .inr (.inl ⟨G',H',fl,h _ _ _ sr⟩)
 ·exact .inr (.inr ⟨G',H',L,hL,fl,h _ _ _ sr⟩)
noncomputable def jN(X:Cx)(G₀ H₀:Hp)(D:Ends)(o:O):Prop:=match o with
 |.nx ρ=>∀σ G H,StR X.K G₀ H₀ G H σ ρ->D.nx σ H
 |.rt d=>∀v G H,Up G₀ H₀ G H->Rep X.K G v d->D.rt v H
 |.re d ρ=>∀v σ G H,StR X.K G₀ H₀ G H σ ρ->Rep X.K G v d->D.rt v H
 |.bk ρ=>∀σ G H,StR X.K G₀ H₀ G H σ ρ->D.bk σ H
 |.ct ρ=>∀σ G H,StR X.K G₀ H₀ G H σ ρ->D.ct σ H
 |.ex C ρ=>∀e s',FlyS X G₀ H₀ ρ C e s'->X.xe e s'
 |.no=>False
def tS(X:Cx)(G₀ H₀:Hp)(g:Ev->O):TS:=λD σ H=>∃G ρ,StR X.K G₀ H₀ G H σ ρ/\jN X G₀ H₀ D (g ρ)
def PSF(X:Cx)(st:Stmt)(g:Ev->O):Prop:=∀G₀ H₀,PS X st (tS X G₀ H₀ g)
def lR(X:Cx)(st:List Stmt)(g:Ev->O):Prop:=∀G₀ H₀,PSs X st (tS X G₀ H₀ g)
def R.out{α:Type}(m:R α)(ρ:Ev)(k:α->O):O:=match m with
 |.ok a=>k a
 |.ex C=>.ex C ρ
 |.no=>.no
def O.seq(o:O)(k:Ev->O):O:=match o with
 |.nx ρ=>k ρ
 |o=>o
section
variable{st:Stmt}{bQ a b:List Stmt}{e c tg:Expr}{g g1 g2:Ev->O}{ga:Ev->R D}{gt:Ev->R Bool}
def Exx.of{H₀:Hp}{D:Ends}(sr:StR X.K G₀ H₀ G H σ ρ)(h:jN X G₀ H₀ D (.ex C ρ)):Exx X σ G H C:=λe s' ⟨G1,H1,u,f⟩=>h e s' (.of (sr.ups u) f)
def yB:lR X [] (λρ=>.nx ρ):=λG₀ H₀ pins s σ H D I h=>by
 obtain⟨G,ρ,sr,h⟩:=h
 try dsimp only at h
 exact sx pins s σ H D I (h σ G H sr)
def vh(h1:PSF X st g1)(h2:lR X bQ g2):lR X (st::bQ) (λρ=>(g1 ρ).seq g2):=λG₀ H₀ pins s σ H D I h=>by
 refine cF (h1 G₀ H₀) (h2 G₀ H₀) pins s σ H D I ?_;obtain⟨G,ρ,sr,h⟩:=h
 try dsimp only at h
 refine⟨G,ρ,sr,?_⟩;cases q:g1 ρ with
 |nx ρ'=>rw[q]at h;exact λσ' G' H' sr'=>⟨G',ρ',sr',h⟩
 |rt d=>rw[q]at h;exact h
 |re d ρ'=>rw[q]at h;exact h
 |bk ρ'=>rw[q]at h;exact h
 |ct ρ'=>rw[q]at h;exact h
 |ex C ρ'=>rw[q]at h;exact h
 |no=>rw[q]at h;exact h
def AY(he:PF X e ga):PSF X (.Return (some e) pos) (λρ=>(ga ρ).out ρ .rt):=λG₀ H₀ pins s σ H D I h=>by
 refine xR he pins s σ H D I ?_;obtain⟨G,ρ,sr,h⟩:=h
 try dsimp only at h
 refine⟨G,ρ,sr.e,?_⟩;cases q:ga ρ with
 |ok d=>rw[q]at h;exact λv G' H' u r=>h v G' H' (sr.up.trans u) r
 |ex C=>rw[q]at h;exact Exx.of sr h
 |no=>rw[q]at h;exact h
def xX(he:PF X e ga)(hs:swapsWith e none pos.line X.env=pure false:=by rfl):PSF X (.Expr e pos) (λρ=>(ga ρ).out ρ λ_=>.nx ρ):=λG₀ H₀ pins s σ H D I h=>by
 refine jh he hs pins s σ H D I ?_;obtain⟨G,ρ,sr,h⟩:=h
 try dsimp only at h
 refine⟨G,ρ,sr.e,?_⟩;cases q:ga ρ with
 |ok d=>rw[q]at h;exact λv G' H' u r=>h σ G' H' (sr.ups u)
 |ex C=>rw[q]at h;exact Exx.of sr h
 |no=>rw[q]at h;exact h
def Fa(hc:PB X c gt)(ha:lR X a g1)(hb:lR X b g2):PSF X (.If c a b pos) (λρ=>(gt ρ).out ρ λk=>if k=true then g1 ρ else g2 ρ):=λG₀ H₀ pins s σ H D I h=>by
 refine EY hc (ha G₀ H₀) (hb G₀ H₀) pins s σ H D I ?_;obtain⟨G,ρ,sr,h⟩:=h
 try dsimp only at h
 refine⟨G,ρ,sr.e,?_⟩;cases q:gt ρ with
 |ok k=>
  rw[q]at h;intro b' G' H' u r;subst r;cases b' with
  |true=>rw[if_pos rfl];exact⟨G',ρ,sr.ups u,by simpa[R.out]using h⟩
  |false=>rw[if_neg sP];exact⟨G',ρ,sr.ups u,by simpa[R.out]using h⟩
 |ex C=>rw[q]at h;exact Exx.of sr h
 |no=>rw[q]at h;exact h
def uf(he:PF X e ga)(hg:PGF X tg asg)(hs:swapsWithSole [tg] e pos.line X.env=pure false:=by rfl)(hw:swappedStores [tg] e X.env=pure none:=by rfl)(hn:∀d ρ C,asg d ρ≠.ex C:=by intro _ _ _ z;cases z)(h1:(assignEach [tg] X.env).map (·.2)=[assign tg X.env]:=by rfl):PSF X (.Assign [tg] e pos) (λρ=>(ga ρ).out ρ λd=>(asg d ρ).out ρ .nx):=λG₀ H₀ pins s σ H D I h=>by
 refine eU he hg hs hw h1 pins s σ H D I ?_;obtain⟨G,ρ,sr,h⟩:=h
 try dsimp only at h
 refine⟨G,ρ,sr.e,?_⟩;cases q:ga ρ with
 |ok d=>
  rw[q]at h;simp only[R.out]at h;intro v G' H' u r;cases q2:asg d ρ with
  |ok ρ'=>rw[q2]at h;exact⟨G₀,H₀,G',ρ,d,ρ',sr.ups u,r,q2,λσ' sr'=>h σ' G' H' sr'⟩
  |ex C=>exact absurd q2 (hn d ρ C)
  |no=>rw[q2]at h;exact h.elim
 |ex C=>rw[q]at h;exact Exx.of sr h
 |no=>rw[q]at h;exact h
def Be(i:Nat)(hN:X.N.Nodup)(he:PF X e ga)(hi:X.N[i]?=some x:=by rfl)(hx:Loc X.env.scope x:=by first|exact Or.inl rfl|exact Or.inr rfl)(hs:swapsWithSole [.Name x p] e pos.line X.env=pure false:=by rfl)(hw:swappedStores [.Name x p] e X.env=pure none:=by rfl)(hf:X.fn x=true\/X.env.scope.names.lookup x=some .local:=by first|exact .inl rfl|exact .inr rfl):
  PSF X (.Assign [.Name x p] e pos) (λρ=>(ga ρ).out ρ λd=>.nx (ρ.set i (some (.val d)))):=uf he (cU i hN hi hx hf) hs hw
def StR.setOwn{K:PySem.W.Frag}{H₀:Hp}(s:StR K G₀ H₀ G H σ ρ){l:Addr}{ds:List D}(hl:H l=none)(r:Reps K G vs ds)(i:Nat):
  StR K G₀ H₀ G (upd H l (.lst vs)) (σ.set i (some (.ref l))) (ρ.set i (some (.own ds))):=by
 have gl:G l=none:=s.e.sub.free hl;have sub:Same G (upd H l (.lst vs)):=λa o e=>by rw[au (aj e gl)];exact s.e.sub a o e
 have get:∀(j:Nat) x,(ρ.set i (some (.own ds)))[j]?=some (some x)->(j=i/\x=.own ds/\i<σ.length)\/(j≠i/\ρ[j]?=some (some x)/\(σ.set i (some (.ref l)))[j]?=σ[j]?):=λj x h=>by
  by_cases e:i=j
  ·subst e;have hl:i<ρ.length:=by have:=(tj.mp h).1;simpa using this
   rw[su hl]at h;exact .inl ⟨rfl,by injection (vC h)with q;exact q.symm,by rw[s.e.len];exact hl⟩
  ·rw[rG e]at h;exact .inr ⟨λz=>e z.symm,h,rG e⟩
 have ob:ObSt K H₀ G (upd H l (.lst vs)) (σ.set i (some (.ref l))) (ρ.set i (some (.own ds))):=by
  obtain⟨ow,o1,o2⟩:=s.ob;have nl:∀{a:Addr}{o:HO},H a=some o->a≠l:=λe z=>by rw[z,hl]at e;cases e
  refine⟨λa=>if a=l then some (i,0)else ow a,λj es l' h1 h2=>?_,λj m C p fs h1=>?_⟩
  ·rcases get j _ h1 with⟨rfl,e,hj⟩|⟨_,e,e'⟩;·rw[su hj]at h2;cases h2;exact if_pos rfl
   ·rw[e']at h2;obtain⟨l2,vs2,q1,q2,_⟩:=s.own j es e;rw[h2]at q1;cases q1;exact(if_neg (nl q2)).trans (o1 j es l' e h2)
  ·rcases get j _ h1 with⟨_,e,_⟩|⟨_,e,e'⟩;·cases e
   ·rw[e'];refine⟨(o2 j m C p fs e).1,(o2 j m C p fs e).2.keep ⟨λa t o _ q=>?_,.refl _,λa t o _ _ n=>n,λa t o q1 q2=>?_,λa o _ _ n=>n⟩⟩;·rw[au (nl q)];exact q
    ·exact(if_neg (nl q2)).trans q1
 refine⟨⟨sub,by simp[s.e.len],λj d' h=>?_,ob.rd⟩,s.sub0,⟨sub,s.up.gg,λa o e=>?_,s.up.fr⟩,λj es h=>?_,λj k es fs l' h1 h2 h3 h4=>?_,ob⟩
 ·rcases get j _ h with⟨_,e,_⟩|⟨_,e,e'⟩;·cases e
  ·rw[e'];exact s.e.val j d' e
 ·rw[au (aj (s.up.hh a o e) hl)];exact s.up.hh a o e
 ·rcases get j _ h with⟨rfl,e,hj⟩|⟨_,e,e'⟩;·cases e;exact⟨l,vs,su hj,ay,gl,s.up.hh.free hl,r⟩
  ·obtain⟨l',vs',h1,h2,h3,h4,h5⟩:=s.own j es e;exact⟨l',vs',by rw[e'];exact h1,by rw[au (aj h2 hl)];exact h2,h3,h4,h5⟩
 ·rcases get j _ h1 with⟨rfl,e,hj⟩|⟨nj,e,e'⟩
  ·rcases get k _ h2 with⟨rfl,f,_⟩|⟨nk,f,f'⟩;·rfl
   ·obtain⟨l2,vs2,q1,q2,_⟩:=s.own k fs f;rw[su hj]at h3;rw[f',q1]at h4;cases h3;cases h4;rw[hl]at q2;cases q2
  ·rcases get k _ h2 with⟨rfl,f,hk⟩|⟨nk,f,f'⟩;·obtain⟨l2,vs2,q1,q2,_⟩:=s.own j es e;rw[su hk]at h4;rw[e',q1]at h3;cases h3;cases h4;rw[hl]at q2;cases q2
   ·exact s.inj j k es fs l' e f (e'▸h3) (f'▸h4)
def Bm(i:Nat)(hN:X.N.Nodup)(he:PFL X e gl)(hi:X.N[i]?=some x:=by rfl)(hx:Loc X.env.scope x:=by first|exact Or.inl rfl|exact Or.inr rfl)(hs:swapsWithSole [.Name x p] e pos.line X.env=pure false:=by rfl)(hw:swappedStores [.Name x p] e X.env=pure none:=by rfl)(hf:X.fn x=true\/X.env.scope.names.lookup x=some .local:=by first|exact .inl rfl|exact .inr rfl):
  PSF X (.Assign [.Name x p] e pos) (λρ=>(gl ρ).out ρ λds=>.nx (ρ.set i (some (.own ds)))):=λG₀ H₀ pins s σ H D I h=>by
 refine eU he (ia (i:=i) hN hi hx hf) hs hw rfl pins s σ H D I ?_;obtain⟨G,ρ,sr,h⟩:=h
 try dsimp only at h
 refine⟨G,ρ,sr.e,?_⟩;cases q:gl ρ with
 |ok ds=>rw[q]at h;exact λl vs G' H' u hl r=>h _ G' _ ((sr.ups u).setOwn hl r i)
 |ex C=>rw[q]at h;exact Exx.of sr h
 |no=>rw[q]at h;exact h
def StR.mut{K:PySem.W.Frag}{H₀:Hp}(s:StR K G₀ H₀ G H σ ρ){i:Nat}{l:Addr}{ds es:List D}(e:ρ[i]?=some (some (.own ds)))(hs:σ[i]?=some (some (.ref l)))(r:Reps K G vs es):
  StR K G₀ H₀ G (upd H l (.lst vs)) σ (ρ.set i (some (.own es))):=by
 obtain⟨l0,vs0,h1,h2,h3,h4,h5⟩:=s.own i ds e;rw[hs]at h1;cases h1;have sub:Same G (upd H l (.lst vs)):=λa o e=>by rw[au (aj e h3)];exact s.e.sub a o e
 have hl:i<ρ.length:=(tj.mp e).1;have get:∀(j:Nat) x,(ρ.set i (some (.own es)))[j]?=some (some x)->(j=i/\x=.own es)\/(j≠i/\ρ[j]?=some (some x)):=λj x h=>by
  by_cases e:i=j;·subst e;rw[su hl]at h;exact .inl ⟨rfl,by injection (vC h)with q;exact q.symm⟩
  ·rw[rG e]at h;exact .inr ⟨λz=>e z.symm,h⟩
 have ob:ObSt K H₀ G (upd H l (.lst vs)) σ (ρ.set i (some (.own es))):=by
  obtain⟨ow,o1,o2⟩:=s.ob;have ol:=o1 i ds l e hs;refine⟨ow,λj fs l' q1 q2=>?_,λj m C p fs q1=>?_⟩
  ·rcases get j _ q1 with⟨rfl,_⟩|⟨nj,f1⟩;·exact o1 j ds l' e q2
   ·exact o1 j fs l' f1 q2
  ·rcases get j _ q1 with⟨_,e'⟩|⟨nj,f1⟩;·cases e'
   ·have ne:∀a t,ow a=some (j,t)->a≠l:=λa t q z=>by rw[z,ol]at q;cases q;exact nj rfl
    refine⟨(o2 j m C p fs f1).1,(o2 j m C p fs f1).2.keep ⟨λa t o q1 q=>?_,.refl _,λa t o _ _ n=>n,λa t o q1 _=>q1,λa o _ _ n=>n⟩⟩;·rw[au (ne a t q1)];exact q
 refine⟨⟨sub,by simp[s.e.len],λj d' h=>?_,ob.rd⟩,s.sub0,⟨sub,s.up.gg,λa o e=>?_,s.up.fr⟩,λj fs h=>?_,λj k fs gs l' q1 q2 q3 q4=>?_,ob⟩
 ·rcases get j _ h with⟨_,e⟩|⟨_,e⟩;·cases e
  ·exact s.e.val j d' e
 ·rw[au (aj e h4)];exact s.up.hh a o e
 ·rcases get j _ h with⟨rfl,e'⟩|⟨nj,e'⟩;·cases e';exact⟨l,vs,hs,ay,h3,h4,r⟩
  ·obtain⟨l',vs',p1,p2,p3,p4,p5⟩:=s.own j fs e';have:l'≠l:=λz=>by subst z;exact nj (s.inj j i fs ds l' e' e p1 hs)
   exact⟨l',vs',p1,by rw[au this];exact p2,p3,p4,p5⟩
 ·rcases get j _ q1 with⟨rfl,_⟩|⟨nj,f1⟩
  ·rcases get k _ q2 with⟨rfl,_⟩|⟨nk,f2⟩;·rfl
   ·exact s.inj j k ds gs l' e f2 q3 q4
  ·rcases get k _ q2 with⟨rfl,_⟩|⟨nk,f2⟩;·exact s.inj j k fs ds l' f1 e q3 q4
   ·exact s.inj j k fs gs l' f1 f2 q3 q4
def frz(i:Nat)(ρ:Ev):Ev:=match ρ[i]? with
 |some (some (.own ds))=>ρ.set i (some (.val (.lst false ds)))
 |_=>ρ
def StR.frzTo{K:PySem.W.Frag}{H₀:Hp}(s:StR K G₀ H₀ G H σ ρ)(i:Nat):∃G',StR K G₀ H₀ G' H σ (L2.frz i ρ)/\(G'=G\/∃l vs,G l=none/\G'=upd G l (.lst vs)):=by
 unfold L2.frz;split
 ·rename_i ds e;obtain⟨l,vs,h1,h2,h3,h4,h5⟩:=s.own i ds e;have hl:i<ρ.length:=(tj.mp e).1;have g0:G₀ l=none:=s.sub0.free h4;have into:Same G (upd G l (.lst vs)):=.into h3;have sub:Same (upd G l (.lst vs)) H:=λa o q=>by
   by_cases ea:a=l;·subst ea;rw[ay]at q;rw[<- q];exact h2
   ·rw[au ea]at q;exact s.e.sub a o q
  have get:∀(j:Nat) x,(ρ.set i (some (.val (.lst false ds))))[j]?=some (some x)->(j=i/\x=.val (.lst false ds))\/(j≠i/\ρ[j]?=some (some x)):=λj x h=>by
   by_cases e:i=j;·subst e;rw[su hl]at h;exact .inl ⟨rfl,by injection (vC h)with q;exact q.symm⟩
   ·rw[rG e]at h;exact .inr ⟨λz=>e z.symm,h⟩
  have ob:ObSt K H₀ (upd G l (.lst vs)) H σ (ρ.set i (some (.val (.lst false ds)))):=by
   obtain⟨ow,o1,o2⟩:=s.ob;have ol:=o1 i ds l e h1;refine⟨ow,λj fs l' q1 q2=>?_,λj m C p fs q1=>?_⟩
   ·rcases get j _ q1 with⟨_,e'⟩|⟨nj,f1⟩;·cases e'
    ·exact o1 j fs l' f1 q2
   ·rcases get j _ q1 with⟨_,e'⟩|⟨nj,f1⟩;·cases e'
    ·have ne:∀a t,ow a=some (j,t)->a≠l:=λa t q z=>by rw[z,ol]at q;cases q;exact nj rfl
     refine⟨(o2 j m C p fs f1).1,(o2 j m C p fs f1).2.keep ⟨λa t o _ q=>q,into,λa t o q1 _ n=>?_,λa t o q1 _=>q1,λa o _ _ n=>n⟩⟩;·rw[au (ne a t q1)];exact n
  refine⟨upd G l (.lst vs),⟨⟨sub,by simp[s.e.len],λj d' h=>?_,ob.rd⟩,s.sub0,⟨sub,s.up.gg.trans into,s.up.hh,λa o q=>?_⟩,λj fs h=>?_,λj k fs gs l' q1 q2 q3 q4=>?_,ob⟩,.inr ⟨l,vs,h3,rfl⟩⟩
  ·rcases get j _ h with⟨rfl,e'⟩|⟨_,e'⟩;·cases e';exact⟨.ref l,h1,.lst ay (h5.mono into)⟩
   ·obtain⟨v,p1,p2⟩:=s.e.val j d' e';exact⟨v,p1,p2.mono into⟩
  ·by_cases ea:a=l;·subst ea;exact .inr h4
   ·rw[au ea]at q;exact s.up.fr a o q
  ·rcases get j _ h with⟨_,e'⟩|⟨nj,e'⟩;·cases e'
   ·obtain⟨l',vs',p1,p2,p3,p4,p5⟩:=s.own j fs e';have:l'≠l:=λz=>by subst z;exact nj (s.inj j i fs ds l' e' e p1 h1)
    exact⟨l',vs',p1,p2,by rw[au this];exact p3,p4,p5.mono into⟩
  ·rcases get j _ q1 with⟨_,e'⟩|⟨nj,f1⟩;·cases e'
   ·rcases get k _ q2 with⟨_,e'⟩|⟨nk,f2⟩;·cases e'
    ·exact s.inj j k fs gs l' f1 f2 q3 q4
 ·exact⟨G,s,.inl rfl⟩
def StR.frz{K:PySem.W.Frag}{H₀:Hp}(s:StR K G₀ H₀ G H σ ρ)(i:Nat):∃G',StR K G₀ H₀ G' H σ (L2.frz i ρ):=
 let⟨G',h,_⟩:=s.frzTo i;⟨G',h⟩
def xG{sts:List Stmt}(i:Nat)(h:lR X sts g):lR X sts (λρ=>g (frz i ρ)):=λG₀ H₀ pins s σ H D I q=>by obtain⟨G,ρ,sr,q⟩:=q;obtain⟨G',sr'⟩:=sr.frz i;exact h G₀ H₀ pins s σ H D I ⟨G',_,sr',q⟩
def ownAt(ρ:Ev)(i:Nat):R (List D):=match ρ[i]? with
 |some (some (.own ds))=>.ok ds
 |_=>.no
def ownAt.ok{i:Nat}{k:List D->O}{D:Ends}{H₀:Hp}(h:jN X G₀ H₀ D ((ownAt ρ i).out ρ k)):∃ds,ρ[i]?=some (some (.own ds))/\jN X G₀ H₀ D (k ds):=by
 unfold ownAt at h;split at h;·rename_i ds e;exact⟨ds,e,h⟩
 ·exact h.elim
def rE(i:Nat){ap cp:Pos}(he:PF X e ga)(hi:X.N[i]?=some x:=by rfl)(hv:Vis X.env.scope x:=by first|exact Or.inl rfl|exact Or.inr (Or.inl rfl))(hd:(x==("__debug__":Str))=false:=by decide)(hcd:(x==("__classdict__":Str))=false:=by decide)(hs1:starEach [e] X.env=(false,eval e X.env)::starEach [] X.env:=by rfl)(hbase:attributeBase (.Name x p) "append" X.env (eval (.Name x p) X.env)=eval (.Name x p) X.env:=by rfl)(hfew:((backTo cp (starEach [e] X.env)).all (λx=>!x.1) && (backToKw cp (keywordEach [] X.env)).all (λx=>x.1.isSome)
 && decide ([e].length+([]:List Keyword).length+(if ([]:List Keyword).isEmpty then 0 else 1)<30))=true:=by rfl)(hline:(ap.endLine==cp.line)=true:=by rfl)(hs:swapsWith (.Call (.Attribute (.Name x p) "append" ap) [e] [] cp) none pos.line X.env=pure false:=by rfl):
  PSF X (.Expr (.Call (.Attribute (.Name x p) "append" ap) [e] [] cp) pos) (λρ=>(ownAt ρ i).out ρ λds=>(ga ρ).out ρ λd=>if ds.length<sizeLine then .nx (ρ.set i (some (.own (ds++[d]))))else .no):=λG₀ H₀ pins s σ H D I h=>by
 refine jh (wR ZL PySem.F.slot_list_append PySem.F.type_list_append iT (fD hi hv hd hcd) (bT he gh hs1) hbase hfew hline hs1 rfl) hs pins s σ H D I ?_;obtain⟨G,ρ,sr,h⟩:=h
 try dsimp only at h
 obtain⟨ds,e1,h⟩:=ownAt.ok h;obtain⟨l,vs,h1,h2,h3,h4,h5⟩:=sr.own i ds e1;refine⟨.ref l,h1,.inl ⟨rfl,vs,.of h2⟩,G,ρ,sr.e,?_⟩;cases q:ga ρ with
 |ok d=>
  rw[q]at h;simp only[R.out]at h;intro v G' H' u r;by_cases hz:ds.length<sizeLine;·rw[if_pos hz]at h;refine⟨l,vs,v,rfl,rfl,u.hh _ _ h2,by rw[h5.length];exact hz,h _ G' _ ?_⟩;exact(sr.ups u).mut e1 h1 ((h5.mono u.gg).append (.cons r .nil))
  ·rw[if_neg hz]at h;exact h.elim
 |ex C=>rw[q]at h;exact Exx.of sr h
 |no=>rw[q]at h;exact h
def asL:D->R (List D)
 |.lst false xs=>.ok xs
 |_=>.no
def rL(i:Nat){ap cp:Pos}(he:PF X e ga)(hi:X.N[i]?=some x:=by rfl)(hv:Vis X.env.scope x:=by first|exact Or.inl rfl|exact Or.inr (Or.inl rfl))(hd:(x==("__debug__":Str))=false:=by decide)(hcd:(x==("__classdict__":Str))=false:=by decide)(hs1:starEach [e] X.env=(false,eval e X.env)::starEach [] X.env:=by rfl)(hbase:attributeBase (.Name x p) "extend" X.env (eval (.Name x p) X.env)=eval (.Name x p) X.env:=by rfl)(hfew:((backTo cp (starEach [e] X.env)).all (λx=>!x.1) && (backToKw cp (keywordEach [] X.env)).all (λx=>x.1.isSome)
 && decide ([e].length+([]:List Keyword).length+(if ([]:List Keyword).isEmpty then 0 else 1)<30))=true:=by rfl)(hline:(ap.endLine==cp.line)=true:=by rfl)(hs:swapsWith (.Call (.Attribute (.Name x p) "extend" ap) [e] [] cp) none pos.line X.env=pure false:=by rfl):
  PSF X (.Expr (.Call (.Attribute (.Name x p) "extend" ap) [e] [] cp) pos) (λρ=>(ownAt ρ i).out ρ λds=>(ga ρ).out ρ λd=>(asL d).out ρ λes=>if ds.length+es.length<=sizeLine then .nx (ρ.set i (some (.own (ds++es))))else .no):=λG₀ H₀ pins s σ H D I h=>by
 refine jh (wR ZL PySem.F.slot_list_extend PySem.F.type_list_extend xL (fD hi hv hd hcd) (bT he gh hs1) hbase hfew hline hs1 rfl) hs pins s σ H D I ?_;obtain⟨G,ρ,sr,h⟩:=h
 try dsimp only at h
 obtain⟨ds,e1,h⟩:=ownAt.ok h;obtain⟨l,vs,h1,h2,h3,h4,h5⟩:=sr.own i ds e1;refine⟨.ref l,h1,.inl ⟨rfl,vs,.of h2⟩,G,ρ,sr.e,?_⟩;cases q:ga ρ with
 |ok d=>
  rw[q]at h;simp only[R.out]at h;intro v G' H' u r;cases r with
  |lst hb t=>
   rename_i b ws es;have h:jN X G₀ H₀ D (if ds.length+es.length<=sizeLine then .nx (ρ.set i (some (.own (ds++es))))else .no):=h;by_cases hz:ds.length+es.length<=sizeLine;·rw[if_pos hz]at h;refine⟨l,b,vs,ws,rfl,rfl,u.hh _ _ h2,u.sub _ _ hb,by rw[h5.length,t.length];exact hz,h _ G' _ ?_⟩;exact(sr.ups u).mut e1 h1 ((h5.mono u.gg).append t)
   ·rw[if_neg hz]at h;exact h.elim
  |_=>exact h.elim
 |ex C=>rw[q]at h;exact Exx.of sr h
 |no=>rw[q]at h;exact h
noncomputable def dc(asg:D->Ev->R Ev)(g:Ev->O):List D->Ev->O
 | [],ρ=>.nx ρ
 |d::ds,ρ=>(asg d ρ).out ρ λρ1=>match g ρ1 with
  |.nx ρ2=>dc asg g ds ρ2
  |.ct ρ2=>dc asg g ds ρ2
  |.bk ρ2=>.nx ρ2
  |.rt d=>.rt d
  |.re d ρ2=>.re d ρ2
  |.ex C ρ2=>.ex C ρ2
  |.no=>.no
def mix(H₀ G₁:Hp):Hp:=λa=>match G₁ a with
 |some o=>some o
 |none=>H₀ a
def ou{H₀ G₁:Hp}{a:Addr}(h:mix H₀ G₁ a=none):G₁ a=none/\H₀ a=none:=by
 unfold mix at h;cases q:G₁ a with
 |none=>rw[q]at h;exact⟨rfl,h⟩
 |some o=>rw[q]at h;cases h
section
variable{K:PySem.W.Frag}{H₀ G₁ H₁:Hp}
def StR.to(s:StR K G₀ H₀ G₁ H₁ σ ρ):StR K G₁ (mix H₀ G₁) G₁ H₁ σ ρ:=by
 refine⟨s.e,λa o e=>?_,⟨s.e.sub,.refl _,λa o e=>?_,λ_ _ e=>.inl e⟩,λi ds e=>?_,s.inj,?_⟩;·unfold mix;rw[e]
 ·unfold mix at e;cases q:G₁ a with
  |none=>rw[q]at e;exact s.up.hh a o e
  |some o'=>rw[q]at e;cases e;exact s.e.sub a o q
 ·obtain⟨l,vs,h1,h2,h3,h4,h5⟩:=s.own i ds e;exact⟨l,vs,h1,h2,h3,by unfold mix;rw[h3];exact h4,h5⟩
 ·obtain⟨ow,o1,o2⟩:=s.ob;exact⟨ow,o1,λi m C p fs e=>⟨(o2 i m C p fs e).1,(o2 i m C p fs e).2.keep ⟨λa t o _ q=>q,.refl _,λa t o _ _ n=>n,λa t o q1 _=>q1,λa o _ g n=>by unfold mix;rw[g];exact n⟩⟩⟩
def Up.back(u:Up G₀ H₀ G₁ H₁)(v:Up G₁ (mix H₀ G₁) G H):Up G₀ H₀ G H:=by
 refine⟨v.sub,u.gg.trans v.gg,λa o e=>?_,λa o e=>?_⟩
 ·cases q:G₁ a with
  |none=>exact v.hh a o (by unfold mix;rw[q];exact e)
  |some o'=>have h1:=u.sub a o' q;have h2:=u.hh a o e;rw[h1]at h2;cases h2;exact v.hh a o (by unfold mix;rw[q])
 ·rcases v.fr a o e with h|h;·exact u.fr a o h
  ·exact .inr (ou h).2
def StR.back(s0:Same G₀ H₀)(u:Up G₀ H₀ G₁ H₁)(s:StR K G₁ (mix H₀ G₁) G H σ ρ):StR K G₀ H₀ G H σ ρ:=
 ⟨s.e,s0,u.back s.up,λi ds e=>let⟨l,vs,h1,h2,h3,h4,h5⟩:=s.own i ds e;⟨l,vs,h1,h2,h3,(ou h4).2,h5⟩,s.inj,by
 obtain⟨ow,o1,o2⟩:=s.ob;exact⟨ow,o1,λi m C p fs e=>⟨(o2 i m C p fs e).1,(o2 i m C p fs e).2.keep ⟨λa t o _ q=>q,.refl _,λa t o _ _ n=>n,λa t o q1 _=>q1,λa o _ _ n=>(ou n).2⟩⟩⟩⟩
end
def AG(hp:PassesOwn (model X.prog X.w) X.A X.env X.xe)(hcalm:X.calm=true)(hi:PIF X tg iter gi)(hg:PGF X tg asg)(hb:lR X body g)(hs:∀x,foldedSetIterable iter X.env x=pure x:=by intro _;rfl)(hn:∀d ρ C,asg d ρ≠.ex C:=by intro _ _ _ z;cases z):PSF X (.For tg iter body [] pos) (λρ=>(gi ρ).out ρ λitems=>dc asg g items ρ):=λG₀ H₀ pins s σ H D I h=>by
 obtain⟨G,ρ,sr,h⟩:=h
 try dsimp only at h
 cases q:gi ρ with
 |ok items=>
  rw[q]at h;simp only[R.out]at h;have key:∀(J:It)(G1 H1:Hp),Up G H G1 H1->ItOk X.K G1 J items->∃W:Nat->Nat->St->Hp->Prop,(∃m,W 0 m σ H1)/\∀i m σ H,W i m σ H->
    (J.stop i H/\D.nx σ H)\/(J.go i H/\∃N:St->Hp->Prop,(∀σ' H',N σ' H'->∃m',m'<m/\W (i+1) m' σ' H')/\∀x H',J.yld i H x H'->(λv σ H Q=>∃G₀ H₀ G ρ d ρ',StR X.K G₀ H₀ G H σ ρ/\Rep X.K G v d/\asg d ρ=.ok ρ'/\∀σ',StR X.K G₀ H₀ G H σ' ρ'->Q σ' H) x σ H' λσ2 H2=>(λD σ H=>∃G₀ H₀,tS X G₀ H₀ g D σ H) { D with nx:=N,ct:=N,bk:=D.nx } σ2 H2):=by
   intro J G1 H1 u1 iok;have sr1:=sr.ups u1;refine⟨λi m σ' H'=>m=items.length - i/\i<=items.length/\∃G' ρ',StR X.K G1 (mix H₀ G1) G' H' σ' ρ'/\jN X G₀ H₀ D (dc asg g (items.drop i) ρ'),⟨items.length,by simp,v8 _,G1,ρ,sr1.to,by simpa using h⟩,?_⟩;rintro i m σ' H' ⟨rfl,hil,G',ρ',sr',h'⟩;have hIt:=iok i G' H' sr'.up.gg sr'.e.sub;by_cases hlt:i<items.length
   ·have hd:items.drop i=items[i]::items.drop (i+1):=Zd hlt;rw[hd]at h';obtain⟨go,yl⟩:=hIt.1 items[i] (by simp[hlt]);refine .inr ⟨go,λσ2 H2=>i+1<=items.length/\∃G2 ρ2,StR X.K G1 (mix H₀ G1) G2 H2 σ2 ρ2/\jN X G₀ H₀ D (dc asg g (items.drop (i+1)) ρ2),λσ2 H2 q2=>⟨items.length - (i+1),by omega,rfl,q2⟩,λx H2 y=>?_⟩;obtain⟨G2,up2,rep2⟩:=yl x H2 y;unfold dc at h';cases q2:asg items[i] ρ' with
    |ok ρ1=>
     rw[q2]at h';simp only[R.out]at h';refine⟨G1,mix H₀ G1,G2,ρ',items[i],ρ1,sr'.ups up2,rep2,q2,λσ3 sr3=>⟨G1,mix H₀ G1,G2,ρ1,sr3,?_⟩⟩;cases q3:g ρ1 with
     |nx ρ2=>rw[q3]at h';exact λσ4 G4 H4 sr4=>⟨hlt,G4,ρ2,sr4,h'⟩
     |ct ρ2=>rw[q3]at h';exact λσ4 G4 H4 sr4=>⟨hlt,G4,ρ2,sr4,h'⟩
     |bk ρ2=>rw[q3]at h';exact λσ4 G4 H4 sr4=>h' σ4 G4 H4 (sr4.back sr.sub0 sr1.up)
     |rt d=>rw[q3]at h';exact λv G4 H4 u4 r4=>h' v G4 H4 (sr1.up.back u4) r4
     |re d ρ2=>rw[q3]at h';exact λv σ4 G4 H4 sr4 r4=>h' v σ4 G4 H4 (sr4.back sr.sub0 sr1.up) r4
     |ex C ρ2=>rw[q3]at h';exact λe s' f4=>h' e s' (f4.map λσ4 G4 H4 sr4=>sr4.back sr.sub0 sr1.up)
     |no=>rw[q3]at h';exact h'
    |ex C=>exact absurd q2 (hn _ _ C)
    |no=>rw[q2]at h';exact h'.elim
   ·have hie:i=items.length:=by omega
    subst hie;rw[Ze]at h';exact .inl ⟨hIt.2 (z8 _),h' σ' G' H' (sr'.back sr.sub0 sr1.up)⟩
  have hb':PSs X body (λD σ H=>∃G₀ H₀,tS X G₀ H₀ g D σ H):=λpins s σ H D I ⟨G₀,H₀,q⟩=>hb G₀ H₀ pins s σ H D I q;refine tu hp hcalm hi hg hb' hs pins s σ H D I ⟨G,ρ,sr.e,?_⟩;rw[q];exact λJ G1 H1 u1 iok=>key J G1 H1 u1 iok
 |ex C=>rw[q]at h;have hb':PSs X body (λD σ H=>∃G₀ H₀,tS X G₀ H₀ g D σ H):=λpins s σ H D I ⟨G₀,H₀,q⟩=>hb G₀ H₀ pins s σ H D I q;refine tu hp hcalm hi hg hb' hs pins s σ H D I ⟨G,ρ,sr.e,?_⟩;rw[q];exact Exx.of sr h
 |no=>rw[q]at h;exact h.elim
end
def spF(K:PySem.W.Frag)(f:List D->R D):Sp:=λvs H Q E=>∃G ds,Same G H/\Reps K G vs ds/\(f ds).post (Fin G H (Rep K) Q) (λC=>∀G' H',Up G H G' H'->E (.ref C) none H')
abbrev FnF(P:Program)(w:World)(K:PySem.W.Frag)(mg:Str->Option Value)(base:Heap)(k:Nat)(f:Addr)(fd:FuncData)(ps:List Str)(g:List D->R D):Prop:=FnOk P w K mg base (CXo P w) k f fd ps (λvs H Q E=>vs.length=ps.length/\spF K g vs H Q E)
section
variable{e:Expr}{g:List D->R D}
def D8(F:FnF X.prog X.w X.K X.mg X.base k f fd ps g)(hr:Room k X.A)(hg:Gl X x)(hm:X.mg x=some (.ref f))(hk:PySem.W.keepIn X.K (.ref f)=true)(hb:Binds X.K fd ps [])(ha:PFA X (e::es) gl)(hdb:(x==("__debug__":Str))=false:=by decide)(he:starEach (e::es) X.env=(false,eval e X.env)::starEach es X.env:=by rfl)(hpl:(backTo pos (starEach es X.env)).any (·.1)=false:=by rfl):
  PF X (.Call (.Name x p) (e::es) [] pos) (λρ=>gl ρ>>=λds=>if ds.length=ps.length then g ds else .no):=by
 intro pins s σ H Q I h;obtain⟨G,ρ,st,h⟩:=h;have t:tAF X gl σ H (λvs H1=>∃G1 ds,Up G H G1 H1/\Same G1 H1/\Reps X.K G1 vs ds/\ds.length=ps.length/\(g ds).post (Fin G1 H1 (Rep X.K) Q) (Exx X σ G1 H1)):=by
  refine tG.intro st h λds vs G1 H1 u1 st1 r1 h1=>?_;by_cases hl:ds.length=ps.length;·rw[if_pos hl]at h1;exact⟨G1,ds,u1,st1.sub,r1,hl,h1⟩
  ·rw[if_neg hl]at h1;exact h1.elim
 refine Z4 (mW I hg hm ?_ hdb);refine PySem.W.callWith_K (h₀:=X.base) I.ok.mod.kin hk (thn (ha pos pins s σ H _ I t) λus s1 q=>⟨?_,?_⟩) he hpl;·obtain⟨vs,H1,I1,r,_⟩:=q;exact I1.kIn
 obtain⟨vs,H1,I1,r,G1,ds,u1,sub1,rp,hl,h1⟩:=q;have hvl:vs.length=ps.length:=by rw[rp.length];exact hl
 have hul:(us++[]).length=ps.length:=by rw[qo,<- r.length];exact hvl
 have hbb:=hb s1 us I1.kIn hul;rw[qo]at hbb;refine wpAny_call (j7 (F.run X.A X.stack s1 H1 ⟨us,[]⟩ us vs Q (λc _ H'=>∃C G',c=.ref C/\Up G1 H1 G' H'/\Exx X σ G1 H1 C) hr I1.env0 hbb r ⟨hvl,G1,ds,sub1,rp,h1.mono (λ_ q=>q) λC q G' H' u=>⟨C,G',rfl,u,q⟩⟩) λr' s' hq=>?_);cases r' with
 |error e'=>obtain⟨a,C,H',rfl,fl,C',G',ec,u,q⟩:=hq;cases ec;exact q _ _ ⟨G1,H1,.refl sub1,pins,s1,a,rfl,I1,.inr (.inl ⟨G',H',fl,u⟩)⟩
 |ok fl=>
  cases fl with
  |ret u=>exact I1.after hq
  |_=>exact False.elim hq
end
def ObjOk.there{w:World}{o:HO}(x:ObjOk P w H h a o):∃ob,h.get? a=some ob:=by
 cases o with
 |lst xs=>obtain⟨_,_,_,_,e⟩:=x;exact⟨_,e⟩
 |tup xs=>obtain⟨_,_,_,o,e,_⟩:=x;exact⟨_,e⟩
 |dK kvs=>obtain⟨_,_,_,_,o,_,_,e,_⟩:=x;exact⟨_,e⟩
 |dT kvs=>obtain⟨_,_,_,_,o,_,_,e,_⟩:=x;exact⟨_,e⟩
 |set S n=>obtain⟨o,_,_,_,e,_⟩:=x;exact⟨_,e⟩
 |ins C dx fs=>obtain⟨_,_,_,e,_⟩:=x;exact⟨_,e⟩
 |own y=>obtain⟨_,e⟩:=x;exact⟨_,e⟩
 |xd fs=>obtain⟨_,⟨_,_,_,e,_⟩,_⟩:=x;exact⟨_,e⟩
 |rng lo hi=>obtain⟨_,_,_,e⟩:=x;exact⟨_,e⟩
 |frz ob u=>obtain⟨e,_⟩:=x;exact⟨_,e⟩
 |tbl ps=>obtain⟨_,e,_⟩:=x;exact⟨_,e⟩
 |met f y=>exact⟨_,show h.get? a=some _ from x⟩
 |ext φ=>obtain⟨_,⟨_,e⟩,_⟩:=x;exact⟨_,e⟩
def Ae{env:Env}{outer:List Env}{L:Addr}(h:env.frame=some L):frs (env::outer)=L::frs outer:=by unfold frs;rw[Zo,h]
section
variable{w:World}{h1 h2 hm:Heap}{l l':List Addr}{B:Heap}
def HOk.flight(x:HOk P w H' h1)(hb:B.StaysIn h2)(hk:∀b o,b∉l->((∃o0,hm.get? b=some o0)\/∃u,H' b=some u)->h1.get? b=some o->B.get? b=some o)(hl:∀b∈l,H' b=none):HOk P w H' h2:=λa o e=>by
 refine(x a o e).stay (λb u hbb q=>hb b u (hk b u (λz=>?_) (.inr ?_) q)) (λ_ z=>z) (λ_ _ z=>z)
 ·rcases hbb with rfl|hbb;·rw[hl _ z]at e;cases e
  ·rw[hl _ z]at hbb;cases hbb
 ·rcases hbb with rfl|hbb;·exact⟨_,e⟩
  ·exact⟨_,hbb⟩
def Un.flight{ex:List Addr}(u:Un l' ex H H' h h1)(hb:B.StaysIn h2)(sm:h1.UpToSlots h2)(hk:∀b o,b∉l->((∃o0,hm.get? b=some o0)\/∃u,H' b=some u)->h1.get? b=some o->B.get? b=some o)(lt:∀b o,h.get? b=some o->∃o0,hm.get? b=some o0)(hl:∀b∈l,b∈l'\/h.objs.size<=b)(hd:∀b∈l,∀o,h1.get? b=some o->∀vs,o.data≠.fields vs):Un l' ex H H' h h2:=by
 refine⟨λb o e nn hb' hx=>?_,λb o e nn hb' hx=>?_,u.free,λb o e hx=>?_,u.tups,u.frzs,u.tbls⟩
 ·have q:=u.keep b o e nn hb' hx;refine hb b o (hk b o (λz=>?_) (.inl (lt b o e)) q);rcases hl b z with z|z;·exact hb' z
  ·exact absurd (xi e) (sT.mpr z)
 ·obtain⟨sl,q⟩:=u.slot b o e nn hb' hx;by_cases z:b∈l;·obtain⟨sl',q'⟩:=sm b _ q (hd b z _ q);exact⟨sl',q'⟩
  ·exact⟨sl,hb b _ (hk b _ z (.inl (lt b o e)) q)⟩
 ·obtain⟨o',q⟩:=u.there b o e hx;by_cases z:b∈l;·obtain⟨sl',q'⟩:=sm b _ q (hd b z _ q);exact⟨_,q'⟩
  ·exact⟨o',hb b _ (hk b _ z (.inl (lt b o e)) q)⟩
end
def FunFrames.data{base:Heap}:∀{l:List Env},h.FunFrames base l->∀b∈frs l,∃o,h.get? b=some o/\(∀vs,o.data≠.fields vs)/\base.get? b=none:=λ{l} hf b hb=>by obtain⟨h1,o,h2,h3⟩:=hf.mem hb;exact⟨o,h2,h3,h1⟩
noncomputable def gCx(P:Program)(w:World)(K:PySem.W.Frag)(mg:Str->Option Value)(base:Heap)(N:List Str)(env:Env)(fn:Str->Bool)(A:Around)(outer:List Env)(s:Shared)(H:Hp)(E:XK):Cx where
 prog:=P
 w:=w
 K:=K
 mg:=mg
 base:=base
 A:=A.deeper env
 N:=N
 s₀:=s
 H₀:=H
 env:=env
 outer:=outer
 stack:=env::outer
 ex:=[]
 calm:=true
 fn:=fn
 pn:=[]
 xe:=λe s'=>wpAny (model P w) (A.deeper env) (leaving env e) (λ_ s''=>CXo P w outer H s E e s'') (λe' s''=>CXo P w outer H s E e' s'') s'
def EO{w : World}{K : PySem.W.Frag}{mg : Str -> Option Value}{base : Heap}{N : List Str}{env : Env}{fn : Str -> Bool}{A : Around}{outer : List Env}{E : XK}{e : Value}(hloc : env.locals = s.heap.objs.size)(hf : env.frame = some s.heap.objs.size)(fl : FlyS (gCx P w K mg base N env fn A outer s H E) G H ρ C e s')(hE : ∀G' H', Up G H G' H' -> E (.ref C) none H'): (gCx P w K mg base N env fn A outer s H E).xe e s' := by
  obtain⟨σ, H₁, pins, s₁, a, rfl, I, way⟩ := fl;have hfr : (A.deeper (env)).frames = some (env :: outer) := I.ok.frames;have hst : frs (env :: outer) = s.heap.objs.size :: frs outer := Ae hf;have old : ∀b o, s.heap.get? b = some o -> ∃o0, s₁.heap.get? b = some o0 := λb o e => I.base.there b o e (by show b∉([] : List Addr); simp);show wpAny (model P w) (A.deeper (env)) (leaving (env) (.ref a)) (λ_ s'' => CXo P w outer H s E (.ref a) s'') (λe' s'' => CXo P w outer H s E e' s'') s';have fin : ∀{H' : Hp}{G' : Hp}{s' : Shared}{h'' B : Heap}{a0 : Value}, Inv (gCx P w K mg base N env fn A outer s H E) pins σ H' s' -> StR K G H G' H' σ ρ -> H' a = none -> Heap.FlyingW B outer a (.ref C) a0 h'' -> s'.heap.UpToSlots h'' ->
      (∀b o, b∉s.heap.objs.size :: frs outer -> ((∃o0, s₁.heap.get? b = some o0) \/ ∃u, H' b = some u) -> s'.heap.get? b = some o -> B.get? b = some o) -> CXo P w outer H s E (.ref a) { s' with heap := h'' } := by
    intro H' G' s' h'' B a0 J up ha fl sm hk;have J0 : H' s.heap.objs.size = none := by have q : H' env.locals = none := J.free; rw[hloc]at q; exact q
    have fr0 : ∀b ∈ frs outer, H' b = none := λb hb => J.stkFree b (by show b ∈ frs (env :: outer); rw[hst]; exact w9 _ hb);have frA : ∀b ∈ s.heap.objs.size :: frs outer, H' b = none := λb hb => by
      rcases y9.mp hb with rfl|hb;· exact J0
      · exact fr0 b hb
    have dat : ∀b ∈ s.heap.objs.size :: frs outer, ∀o, s'.heap.get? b = some o -> ∀vs, o.data≠.fields vs := λb hb o e => by obtain⟨o', e', d', _⟩ := FunFrames.data J.stack b (by show b ∈ frs (env :: outer); rw[hst]; exact hb);rw[e]at e'; cases e'; exact d'
    have hok : HOk P w H' h'' := J.hok.flight fl.1 hk frA;have un : Un (frs outer) [] H H' s.heap h'' := Un.flight J.base fl.1 sm hk old (λb hb => (y9.mp hb).elim (λz => .inr (by rw[z]; exact z8 _)) .inl) dat;refine⟨a, C, H', rfl, ⟨J.os, J.bare, un, hok, ha, B, a0, fl, λb o hb ho e => ?_⟩, hE G' H' up.up⟩;have nb : b∉s.heap.objs.size :: frs outer := λz => by
      rcases y9.mp z with z|z
      · rcases ho with⟨o0, ho⟩ | ⟨u, ho⟩;· rw[z]at ho; exact nV _ (xi ho)
        · rw[z, J0]at ho; cases ho
      · exact hb z
    have ho' : (∃o0, s₁.heap.get? b = some o0) \/ ∃u, H' b = some u := ho.imp (λ⟨o0, z⟩ => old b o0 z) id;have ex : ∃o', s'.heap.get? b = some o' := by
      rcases ho with⟨o0, ho⟩ | ⟨u, ho⟩;· exact J.base.there b o0 ho (by show b∉([] : List Addr); simp)
      · exact(J.hok b u ho).there
    obtain⟨o', e'⟩ := ex;have q := hk b o' nb ho' e';have q2 := fl.1 b o' q;have e2 : h''.get? b = some o := e;rw[q2]at e2;cases e2;exact q
  rcases way with⟨G₁, h', vs, sr, made, rfl⟩ | ⟨G', H', ⟨os, bare, un, hok, ha, B, a0, fl, hk⟩, up⟩ | ⟨G', H', L', hL, ⟨os, bare, ⟨ch, hch, un⟩, hok, ha, _, B, a0, fl, hk⟩, up⟩
  ·
    have J : Inv (gCx P w K mg base N env fn A outer s H E) pins σ H₁ { s₁ with heap := h' } := I.kept (t' := s₁.toks) made.keeps;have hin : ∀en ∈ (env :: outer), ∀b, en.frame = some b -> b ∈ s.heap.objs.size :: frs outer := λen he b hb => by rw[<- hst]; exact j4.mpr ⟨en, he, hb⟩
    refine wpAny_leaves_madeW (base := PySem.W.hideAll s₁.heap (s.heap.objs.size :: frs outer)) hfr hf (λb o q => PySem.W.of_hideAll _ q) (PySem.W.funFrames_hide I.stack hin) made λh'' t fl' _ _ sm => ?_;have ha : H₁ a = none := by
      cases q : H₁ a with
      |none => rfl
      |some u =>obtain⟨ob, e⟩ := (I.hok a u q).there;rw[made.new]at e; cases e
    refine fin J sr ha fl' sm λb o hb ho e => ?_;have e1 : s₁.heap.get? b = some o := by
      rcases ho with⟨o0, ho⟩ | ⟨u, ho⟩;· have q := made.keeps b o0 ho;have e' : h'.get? b = some o := e;rw[q]at e'; cases e'; exact ho
      · obtain⟨ob, ho⟩ := (I.hok b u ho).there;have q := made.keeps b ob ho;have e' : h'.get? b = some o := e;rw[q]at e'; cases e'; exact ho
    exact PySem.W.hideAll_get _ e1 hb
  · have J := I.call' (s' := s') (ch := []) os un hok bare (λb z => absurd z (by simp));exact wpAny_leaves_onW hfr hf fl λh'' fl' sm => fin J up ha fl' sm λb o hb ho e => hk b o (by show b∉frs (env :: outer); rw[hst]; exact hb) ho e
  · have J := I.call' (s' := s') (ch := ch) os un hok bare hch;have eL : s.heap.objs.size = L' := vC (hf.symm.trans hL);rw[<- eL]at fl;refine z5 (wpAny_noteFrame_againW hf fl.2.2.2 (wpAny_landsW fl λh'' fl' sm => ?_));obtain⟨k1, k2, ⟨_, _, k3⟩, k4⟩ := fl';exact fin J up ha ⟨k1, k2, k3, k4⟩ sm λb o hb ho e => hk b o (by show b∉frs (env :: outer); rw[hst]; exact hb) ho e

def oS{w:World}{K:PySem.W.Frag}{mg:Str->Option Value}{base:Heap}{N:List Str}{cd:Value}{A:Around}{outer:List Env}{E:XK}{e:Value}(fl:FlyS (fE (CXo P w) P w K mg base N qual scope f cd A outer s H E) G H ρ C e s')(hE:∀G' H',Up G H G' H'->E (.ref C) none H'):(fE (CXo P w) P w K mg base N qual scope f cd A outer s H E).xe e s':=
 EO (env:=envOfC qual scope s.heap.objs.size f cd) (fn:=λ_=>true) rfl rfl fl hE
def ak(n:Nat)(ds:List D):Ev:=ds.map (λd=>some (.val d))++List.replicate (n - ds.length) none
def ao(o:O):R D:=match o with
 |.rt d=>.ok d
 |.re d _=>.ok d
 |.nx _=>.ok .non
 |.ex C _=>.ex C
 |_=>.no
def uC{K:PySem.W.Frag}{N:List Str}{ds:List D}(sub:Same G H)(r:Reps K G vs ds):StR K G H G H (start N vs) (ak N.length ds):=by
 have hl:=r.length;have get:∀(i:Nat) x,(ak N.length ds)[i]?=some (some x)->∃d,ds[i]?=some d/\x=.val d:=λi x e=>by
  unfold ak at e;by_cases hi:i<ds.length
  ·rw[qq (by simpa using hi),u9]at e;cases q:ds[i]? with
   |none=>rw[q]at e;cases e
   |some d=>rw[q]at e;cases e;exact⟨d,rfl,rfl⟩
  ·rw[pT (by simpa using hi),lE]at e;split at e <;> cases e
 have no:NoOwn (ak N.length ds):=λi x e=>by obtain⟨d',_,q⟩:=get i _ e;exact⟨d',q⟩
 refine⟨⟨sub,by simp[start,ak,hl],λi d e=>?_,λi m C p fs e=>absurd e (no.obj i m C p fs)⟩,sub,.refl sub,λi es e=>?_,λi j es fs l e=>?_,no.ob⟩;·obtain⟨d',e',q⟩:=get i _ e;cases q;obtain⟨v,ev,rv⟩:=r.get e';refine⟨v,?_,rv⟩;unfold start;rw[qq (by have:=(tj.mp ev).1;simpa using this),u9,ev];rfl
 ·obtain⟨d',_,q⟩:=get i _ e;cases q
 ·obtain⟨d',_,q⟩:=get i _ e;cases q
def Fun.okF{w:World}{K:PySem.W.Frag}{mg:Str->Option Value}{base:Heap}{st:Stmt}{N:List Str}(F:Fun K x qual st f fd)(S:FnScope N ps (ah st)){g:Ev->O}(hbody:∀(cdv:Value)(A:Around)(outer:List Env)(s:Shared)(H:Hp)(E:XK),Room k (A.deeper (envOfC qual (ah st) s.heap.objs.size f cdv))->lR (fE (CXo P w) P w K mg base N qual (ah st) f cdv A outer s H E) (bu st) g):
  FnF P w K mg base (k+1) f fd ps (λds=>ao (g (ak N.length ds))):=by
 obtain⟨oc,od,kV,doc,pm,an,cdv,ct,osl,rfl,lk,hcd⟩:=F.ex;refine DB lk hcd S (λvs H Q E h=>h.1) λA outer s H vs Q E hr hsp=>?_;obtain⟨hl,G,ds,sub,r,h⟩:=hsp;refine⟨_,hbody cdv A outer s H E hr G H,G,ak N.length ds,uC sub r,?_⟩;dsimp only at h;cases q:g (ak N.length ds)with
 |nx ρ=>rw[q]at h;exact λσ G' H' sr=>h .non G' H' sr.up .non
 |rt d=>rw[q]at h;exact λv G' H' u rv=>h v G' H' u rv
 |re d ρ=>rw[q]at h;exact λv σ G' H' sr rv=>h v G' H' sr.up rv
 |bk ρ=>rw[q]at h;exact h.elim
 |ct ρ=>rw[q]at h;exact h.elim
 |ex C ρ=>rw[q]at h;exact λe s' fl=>oS fl h
 |no=>rw[q]at h;exact h.elim
theorem lV:fillsNumberSlot (.type "tuple") "mul"=pure false:=
 PySem.fillsNumberSlot_seq (id:="tuple.__mul__") (r:=some (.builtin "tuple.__rmul__")) F.slot_tuple_mul.lookup (by decide +kernel) F.slot_tuple_rmul.lookup (by decide +kernel)
theorem Fe:seqRepeat? (.type "tuple")=pure (some (.builtin "tuple.__mul__")):=by unfold seqRepeat?;rw[PySem.seqSlot_of (T:="tuple") (name:="__mul__") (id:="tuple.__mul__") F.slot_tuple_mul.lookup (by decide +kernel),PySem.seqSlot_of (T:="tuple") (name:="__rmul__") (id:="tuple.__rmul__") F.slot_tuple_rmul.lookup (by decide +kernel)];rfl
open Builtin in
def qL(a:Int)(t:Tok)(l:Addr)(items:Array Value)(n:Nat)(dd:Option Addr)(sl:Array (Option Value)):
  Meets (Builtin.«int.__rmul__» ⟨[.int a t,.ref l],[]⟩) (λ_ Rr s=>s.heap.get? l=some { cls:=.type "tuple",dict:=dd,data:=.seq items n,slots:=sl }/\Rr (.ok (.ret Value.notImplemented)) s):=
 .of_wp λprog w A Rr s h=>by obtain⟨hp,g,d,tk,os⟩:=s;obtain⟨hl,h⟩:=h;wp_walk;exact⟨_,rfl,h⟩
section
open Builtin AutoSeq1
variable(l:Addr)(items:Array Value)(n:Nat)(dd:Option Addr)(sl:Array (Option Value))(x:Int)(u:Tok)(h1:(decide (x < -(2 ^ 63)) || decide (x ≥ 2 ^ 63))=false)
include h1
def AB(hc:(items.isEmpty || x==1)=true):
  Meets (Builtin.«tuple.__mul__» ⟨[.ref l,.int x u],[]⟩) (λ_ Rr s=>s.heap.get? l=some { cls:=.type "tuple",dict:=dd,data:=.seq items n,slots:=sl }/\Rr (.ok (.ret (.ref l))) s):=
 .of_wp λprog w A Rr s h=>by
  obtain⟨hp,g,d,tk,os⟩:=s;obtain⟨hl,h⟩:=h;have f1:=idx_int
  wp_walk
  refine Yf (by rw[h1];rfl) ?_;refine z5 (Z5 (show IsTup hp l items from⟨_,hl,rfl,n,rfl⟩) ?_);dsimp only;rw[if_pos hc];unfold Tuple.tupleIsExact;refine z5 (z5 (iD ⟨_,hl,rfl⟩ (z7 ?_)));rw[if_pos (by decide)];exact z5 (ji (z7 ⟨_,rfl,h⟩))
def AN(hc : ¬ (items.isEmpty || x==1)=true)(h2:(decide (x<=0) || items.isEmpty)=true):
  Meets (Builtin.«tuple.__mul__» ⟨[.ref l,.int x u],[]⟩) (λ_ Rr s=>s.heap.get? l=some { cls:=.type "tuple",dict:=dd,data:=.seq items n,slots:=sl }/\Rr (.ok (.ret (.ref s.heap.objs.size))) { s with heap:=s.heap.push { cls:=.type "tuple",data:=.seq #[] } }):=
 .of_wp λprog w A Rr s h=>by
  obtain⟨hp,g,d,tk,os⟩:=s;obtain⟨hl,h⟩:=h;have f1:=idx_int
  wp_walk
  refine Yf (by rw[h1];rfl) ?_;refine z5 (Z5 (show IsTup hp l items from⟨_,hl,rfl,n,rfl⟩) ?_);dsimp only;rw[if_neg hc,if_pos h2];exact z5 (m:=Builtin.Tuple.tupleExact _) (o5 (z7 ⟨_,rfl,h⟩) (v8 _))
def Bg(hc : ¬ (items.isEmpty || x==1)=true)(h2 : ¬ (decide (x<=0) || items.isEmpty)=true)(hz:items.size * x.toNat<=sizeLine):
  Meets (Builtin.«tuple.__mul__» ⟨[.ref l,.int x u],[]⟩) (λ_ Rr s=>s.heap.get? l=some { cls:=.type "tuple",dict:=dd,data:=.seq items n,slots:=sl }/\
   Rr (.ok (.ret (.ref s.heap.objs.size))) { s with heap:=s.heap.push { cls:=.type "tuple",data:=.seq (List.foldl (λx1 x2=>x1++x2) #[] (List.replicate x.toNat items)) } }):=
 .of_wp λprog w A Rr s h=>by
  obtain⟨hp,g,d,tk,os⟩:=s;obtain⟨hl,h⟩:=h;have f1:=idx_int;have hx:0<x:=by
   cases q:decide (x<=0)with
   |true=>rw[q]at h2;exact absurd rfl h2
   |false=>exact Int.not_le.mp (of_decide_eq_false q)
  have ez:(items.size:Int) * x=((items.size * x.toNat:Nat):Int):=by rw[Int.natCast_mul,Yg (Int.le_of_lt hx)]
  have hlim:(sizeLine:Nat)<=(2 ^ 63 - 1) / 8:=by decide
  have h3 : ¬ ((items.size:Int) * x > (2 ^ 63 - 1) / 8):=by
   rw[ez];have:((sizeLine:Nat):Int)<=(2 ^ 63 - 1) / 8:=by decide
   omega
  have h4 : ¬ (Tuple.tupleTooMany ((items.size:Int) * x)=true):=by unfold Tuple.tupleTooMany;rw[ez];intro q;have:=g9 q;omega
  have hfz:(List.foldl (λx1 x2=>x1++x2) #[] (List.replicate x.toNat items)).size<=sizeLine:=by have e:=iQ items.toList x.toNat [];simp only[Z6,Zf]at e;rw[e,wg,om,qY,Z7];exact hz
  wp_walk
  refine Yf (by rw[h1];rfl) ?_;refine z5 (Z5 (show IsTup hp l items from⟨_,hl,rfl,n,rfl⟩) ?_);dsimp only;rw[if_neg hc,if_neg h2,if_neg h3,if_neg h4];exact z5 (m:=Builtin.Tuple.tupleExact _) (o5 (z7 ⟨_,rfl,h⟩) hfz)
end
section
noncomputable def FJ(K:PySem.W.Frag):R2:=λx y H Q=>∃l k xs,x=.ref l/\y=.int k/\SqT K H l xs/\-(2 ^ 63)<=k/\k<2 ^ 63/\xs.length * k.toNat<=sizeLine/\
 (xs=[]\/k=1->Q (.ref l) H)/\(xs≠[]->k≠1->∀p,H p=none->Q (.ref p) (upd H p (.tup (List.replicate k.toNat xs).flatten)))
theorem op_repT:OpR X (binaryOp .Mult) (FJ X.K):=by
 intro pins s σ H x y v u Q I rx ry h;obtain⟨l,k,xs,rfl,rfl,hH,h1,h2,hz,q0,q1⟩:=h;cases rx;obtain⟨t,rfl⟩:=ry;obtain⟨its,r,p,hzz⟩:=I.tuple hH;obtain⟨⟨cls,dd,data,sl⟩,ho,hc,n,hd⟩:=id p;simp only at hc hd;subst hc hd;have hlen:its.length=xs.length:=r.length.symm;have hin:(decide (k < -(2 ^ 63)) || decide (k ≥ 2 ^ 63))=false:=by rw[t6 (by omega),t6 (by omega)];rfl
 have emp:its.toArray.isEmpty=decide (xs=[]):=by
  cases its with
  |nil=>cases r;rfl
  |cons a b=>cases r;rfl
 refine wpAny_binaryOp_repeat_ref (T:="tuple") (U:="int") (by decide) ⟨_,ho,rfl⟩ (λs'=>iF s' k t) lV F.fills_int_mul Zv Fe F.slot_int_index.lookup
  (lT Zv (iF s k t) F.entry_int_rmul (F.args_int_rmul_2 _ _) (qL k t l its.toArray n dd sl) ⟨ho,rfl,⟨_,ho,rfl⟩,?_⟩);by_cases hc:(its.toArray.isEmpty || k==1)=true;·refine lT Yh ⟨_,ho,rfl⟩ Yi (Yj _ _) (AB l its.toArray n dd sl k t hin hc) ⟨ho,.ref l,H,I,rfl,q0 ?_⟩;rw[emp]at hc;simpa using hc
 ·have hne:xs≠[]/\k≠1:=by rw[emp]at hc;simpa using hc
  have fin:∀its',its'=(List.replicate k.toNat its).flatten->EP X pins σ Q (.ref s.heap.objs.size) { s with heap:=s.heap.push { cls:=.type "tuple",data:=.seq its'.toArray } }:=λits' e=>by subst e;refine⟨.ref s.heap.objs.size,_,I.laid (t':=s.toks) (o:=.tup (List.replicate k.toNat xs).flatten) (λb ob q=>z9 _ q) (z8 _) ?_,rfl,q1 hne.1 hne.2 _ I.fresh⟩;exact⟨by rw[om,Z7];exact hz,_,r.rep k.toNat,d3 _ _⟩
  by_cases h0:(decide (k<=0) || its.toArray.isEmpty)=true
  ·refine lT Yh ⟨_,ho,rfl⟩ Yi (Yj _ _) (AN l its.toArray n dd sl k t hin hc h0) ⟨ho,?_⟩;refine fin [] ?_;have:k<=0:=by rw[emp,t6 hne.1,d4]at h0;exact g9 h0
   rw[Int.toNat_of_nonpos this];rfl
  ·refine lT Yh ⟨_,ho,rfl⟩ Yi (Yj _ _) (Bg l its.toArray n dd sl k t hin hc h0 (by rw[wg,hlen];exact hz)) ⟨ho,?_⟩;have e:=iQ its k.toNat [];simp only[Z6]at e;rw[e];exact fin _ rfl
def Eb(x:Str)(n:Int):(Txt.mul x n).cps.toList=(List.replicate n.toNat x.cps.toList).flatten:=by
 unfold Txt.mul;by_cases h1:n<1;·rw[if_pos h1,Int.toNat_of_nonpos (by omega)];rfl
 ·rw[if_neg h1];by_cases h2:(n==1 || x.length==0)=true
  ·rw[if_pos h2];rcases Bool.or_eq_true_iff.mp h2 with h|h
   ·have:n=1:=by simpa using h
    subst this;show _=(List.replicate 1 x.cps.toList).flatten;simp
   ·have:x.cps.toList=[]:=YH (by rw[Str.len_list];simpa using h);rw[this];simp
  ·rw[if_neg h2];have:∀(m:Nat)(acc:Array Nat),((List.replicate m x.cps).foldl (·++·) acc).toList=acc.toList++(List.replicate m x.cps.toList).flatten:=by
    intro m;induction m with
    |zero=>intro acc;simp
    |succ m ih=>intro acc;rw[mP,d8,ih,mP,l5];simp
   simpa using this n.toNat #[]
def op_mul_str:OpR X (binaryOp .Mult) (λx y H Q=>∃(i:Str)(k:Int),x=.str i/\y=.int k/\-(2 ^ 63)<=k/\k<2 ^ 63/\i.length * k.toNat<=sizeLine/\Q (.str (Txt.mul i k)) H):=by
 intro pins s σ H x y v u Q I rx ry h;obtain⟨i,k,rfl,rfl,h1,h2,hz,q⟩:=h;obtain⟨t,rfl⟩:=rx;obtain⟨t',rfl⟩:=ry;refine SB.mul ⟨by rw[t6 (by omega),t6 (by omega)];rfl,λh3 h4=>?_,λh3 h4=>?_⟩ λt'' n=>⟨.str _,H,I.tok _,⟨_,rfl⟩,q⟩
 ·have hk:0<k:=by omega
  intro h5;have h6:(2 ^ 63 - 1) / k * k<=2 ^ 63 - 1:=Int.ediv_mul_le _ (by omega);have h7:(((i.length * k.toNat:Nat)):Int)=(i.length:Int) * k:=by rw[Int.natCast_mul,Yg (by omega)]
  have h8:((2 ^ 63 - 1) / k+1) * k<=(i.length:Int) * k:=Int.mul_le_mul_of_nonneg_right (by omega) (by omega);have h9:2 ^ 63 - 1<((2 ^ 63 - 1) / k+1) * k:=Int.lt_ediv_add_one_mul_self _ hk;have h10:((sizeLine:Nat):Int)<2 ^ 63 - 1:=by decide
  omega
 ·unfold Builtin.Str.tooLong;exact t6 (by omega)
noncomputable def ja:D->D->Option D
 |.int i,.int j=>if (-(2 ^ 64)<i/\i<2 ^ 64)\/(-(2 ^ 64)<j/\j<2 ^ 64)then some (.int (i * j))else none
 |.str x,.int k=>if -(2 ^ 63)<=k/\k<2 ^ 63/\x.length * k.toNat<=sizeLine then some (.str (List.replicate k.toNat x).flatten)else none
 |.tup xs,.int k=>if -(2 ^ 63)<=k/\k<2 ^ 63/\xs.length * k.toNat<=sizeLine then some (.tup (List.replicate k.toNat xs).flatten)else none
 |.lst false xs,.int k=>if -(2 ^ 63)<=k/\k<2 ^ 63/\xs.length * k.toNat<=sizeLine then some (.lst false (List.replicate k.toNat xs).flatten)else none
 |_,_=>none
def Ij(K:PySem.W.Frag):R2:=λx y H Q=>rI CMul (λi j=>.int (i * j)) x y H Q\/(∃(i:Str)(k:Int),x=.str i/\y=.int k/\-(2 ^ 63)<=k/\k<2 ^ 63/\i.length * k.toNat<=sizeLine/\Q (.str (Txt.mul i k)) H)\/FJ K x y H Q\/Ld x y H Q
def C3:OpR X (binaryOp .Mult) (Ij X.K):=op_mul.or (op_mul_str.or (op_repT.or Fz))
def Ix(K:PySem.W.Frag):ROk K (Ij K) ja:=by
 intro G H x y dx dy d Q s rx ry e q;unfold ja at e;split at e
 ·split at e;·rename_i hc;cases e;exact .inl ⟨_,_,rx.int_inv,ry.int_inv,hc,q _ G H (.refl s) (.int _)⟩
  ·cases e
 ·split at e;·rename_i hc;cases e;obtain⟨i,rfl,ei,hi⟩:=rx.str_inv;subst ei;rw[Str.len_list]at hc;exact .inr (.inl ⟨i,_,rfl,ry.int_inv,hc.1,hc.2.1,hc.2.2,q _ G H (.refl s) (.strL (Eb i _) (by rw[om,Str.len_list,Z7];exact hc.2.2))⟩)
  ·cases e
 ·split at e
  ·rename_i k hc;cases e;obtain⟨a,vs,rfl,ha,ra⟩:=rx.tup_inv;refine .inr (.inr (.inl ⟨a,_,vs,rfl,ry.int_inv,ha.mono s,hc.1,hc.2.1,by rw[ra.length];exact hc.2.2,λz=>?_,λ_ _ p hp=>q _ _ _ (.new s hp) (.tup (.of ay) ((ra.rep _).mono (.into (s.free hp))))⟩));rcases z with z|z
   ·subst z;cases ra;have e:(List.replicate k.toNat ([]:List D)).flatten=[]:=by simp
    rw[e]at q;exact q _ G H (.refl s) (.tup ha .nil)
   ·subst z;have e:∀l:List D,(List.replicate (1:Int).toNat l).flatten=l:=λl=>by show(List.replicate 1 l).flatten=l;simp
    rw[e]at q;exact q _ G H (.refl s) (.tup ha ra)
  ·cases e
 ·split at e;·rename_i hc;cases e;obtain⟨a,vs,rfl,ha,ra⟩:=rx.lst_inv;exact .inr (.inr (.inr ⟨a,_,vs,rfl,ry.int_inv,s _ _ ha,hc.1,hc.2.1,by rw[ra.length];exact hc.2.2,λp hp=>q _ _ _ (.new s hp) (.lst ay ((ra.rep _).mono (.into (s.free hp))))⟩))
  ·cases e
 ·cases e
def ju{a b:Expr}{ga:Ev->R D}(ha:PF X a ga)(hb:PF X b gb):PF X (.BinOp a .Mult b pos) (g2 ja ga gb):=pK C3 (Ix _) ha hb
end
end L2
namespace L2
open PySem PySem.W PySem.Spec PySem.Calls PyProof.Rows
structure ExcCls(K:Frag)(C:Addr):Prop where
 ga:findIn K (.ref C) "__getattribute__"=some (some (.builtin "BaseException.__getattribute__"))
 gt:findIn K (.ref C) "__getattr__"=some none
 cl:findIn K (.ref C) "__class__"=some (some (.builtin "object.__class__"))
 sp:specialIn K (.builtin "object.__class__") "__get__"=some (some (.builtin "getset_descriptor.__get__"))
 tk:takesIn K (.builtin "object.__class__")=some true
 mo:mroIn K C (.type "object")=some true
 be:subIn K (.ref C) (.type "BaseException")=some true
 some:(clsIn K C).isSome=true
section
variable{prog:Program}{w:World}{A:Around}{K:Frag}
section
open Builtin Builtin.ObjectAttr Builtin.Getset_descriptor
end
end
section
variable{A:Around}{Q:Value->Shared->Prop}
def tyN:D->Option String
 |.non=>some "NoneType"
 |.bl _=>some "bool"
 |.int _=>some "int"
 |.str _=>some "str"
 |.tup _=>some "tuple"
 |.lst _ _=>some "list"
 |.exc _=>none
 |.dct _ _=>none
def FQ{d:D}{x:V}{u c:Value}{T:String}{b:Bool}(I:Inv X pins σ H s)(sub:Same G H)(r:Rep X.K G x d)(ru:RelV x u)(ht:tyN d=some T)(e:kitOne X.K (.type T) c=some b)(h:∀tk,Q (.bool b) { s with toks:=tk }):
  wpAny (model X.prog X.w) A (call (.builtin "isinstance") [u,c]) Q E s:=by
 cases r with
 |non=>cases ht;cases ru;exact kia_one kitx_none I.kIn True.intro e (λz=>nomatch z) h
 |bl y=>cases ht;cases ru;exact kia_one kitx_bool I.kIn True.intro e (λz=>nomatch z) h
 |int i=>cases ht;obtain⟨t,rfl⟩:=ru;exact kia_one kitx_int I.kIn True.intro e (λz=>nomatch z) h
 |str y hy=>cases ht;obtain⟨t,rfl⟩:=ru;exact kia_one kitx_str I.kIn True.intro e (λz=>nomatch z) h
 |tup hh t=>cases ht;cases ru;obtain⟨its,rv,⟨o,h1,h2,_⟩,_⟩:=I.tuple (hh.mono sub);exact kia_one kitx_tuple I.kIn ⟨o,h1,h2⟩ e (λz=>nomatch z) h
 |lst hh t=>cases ht;cases ru;obtain⟨its,rv,⟨o,n,h1,h2,_⟩,_⟩:=I.list ((SqL.of hh:SqL X.K G _ _).mono sub);exact kia_one kitx_list I.kIn ⟨o,h1,h2⟩ e (λz=>nomatch z) h
 |fls hh t=>cases ht;cases ru;obtain⟨its,rv,⟨o,n,h1,h2,_⟩,_⟩:=I.list (hh.mono sub);exact kia_one kitx_list I.kIn ⟨o,h1,h2⟩ e (λz=>nomatch z) h
 |exc hh=>cases ht
 |dct _ _ _=>cases ht
end
section
variable{e:Expr}{ga:Ev->R D}{y:Str}{p2:Pos}
def iS(f:String->Bool)(d:D):R D:=match tyN d with
 |some t=>.ok (.bl (f t))
 |none=>.no
def kG{T:String}(f:String->Bool)(hf:∀K:Frag,∀t∈["NoneType","bool","int","str","tuple","list"],kitOne K (.type t) (.type T)=some (f t))(hg:Gl X "isinstance")(hm:X.mg "isinstance"=none)(hg2:Gl X y)(hm2:X.mg y=none)(hv:bootBuiltins y=some (.type T))(ha:PF X e ga)(hs1:starEach [e,.Name y p2] X.env=(false,eval e X.env)::starEach [.Name y p2] X.env:=by rfl)(hn:y≠"__name__":=by decide)(hdb:(y==("__debug__":Str))=false:=by decide):
  PF X (.Call (.Name "isinstance" p) [e,.Name y p2] [] pos) (λρ=>ga ρ>>=iS f):=by
 intro pins s σ H Q I h;have hc:jf X (.builtin "isinstance") (λxs H Q=>∃x G d,xs=[x,.ty T]/\Same G H/\Rep X.K G x d/\∃t,tyN d=some t/\Q (.bl (f t)) H):=by
  intro pins s σ H xs us Q I r ⟨x,G,d,ex,sub,rd,t,et,q⟩;subst ex;obtain⟨u,u2,rfl,r1,r2⟩:=r.two;cases r2;refine FQ I sub rd r1 et (hf X.K t ?_) λtk=>⟨.bl (f t),H,I.tok tk,rfl,q⟩
  cases d <;> cases et <;> simp
 refine nW hc hg hm PyProof.Rows.Boot.«isinstance» (bT ha (bT (CT (v:=.ty T) hg2 hm2 hv rfl hn hdb) gh) hs1) (by decide) (by decide) hs1 rfl pins s σ H Q I ?_;obtain⟨G,ρ,st,h⟩:=h;refine tG.intro st h λx v G1 H1 u1 st1 r1 h1=>?_;refine⟨v,G1,x,rfl,st1.sub,r1,?_⟩;unfold iS at h1;cases et:tyN x with
 |none=>rw[et]at h1;exact h1.elim
 |some t=>rw[et]at h1;exact⟨t,rfl,h1 _ G1 H1 (.refl st1.sub) (.bl _)⟩
end
end L2
namespace L2
open PySem PySem.Spec PyProof.Rows
def zD:List D->Option (List Bool)
 | []=>some []
 |.bl b::ds=>(zD ds).map (b::·)
 |_=>none
theorem Reps.bls{K:PySem.W.Frag}:∀{vs:List V}{ds:List D}{bs:List Bool},Reps K G vs ds->zD ds=some bs->vs=bs.map .bl
 |_,_,bs,.nil,e=>by cases e;rfl
 |_,_,bs,.cons r t,e=>by
  cases r with
  |bl b=>
   rename_i ds;unfold zD at e;cases q:zD ds with
   |none=>rw[q]at e;cases e
   |some cs=>rw[q]at e;cases e;rw[Reps.bls t q];rfl
  |_=>simp[zD]at e
theorem Vals.bls:∀{bs:List Bool}{us:List Value},Vals (bs.map V.bl) us->us=bs.map Value.bool
 | [],_,.nil=>rfl
 |b::bs,_,.cons r t=>by rw[Vals.bls t,show _=Value.bool b from r];rfl
section
variable{e o:Expr}{ga:Ev->R D}
def Mm(K:PySem.W.Frag)(f:List Bool->Bool):List V->Hp->VK->Prop:=λxs H Q=>∃p bs,xs=[.ref p]/\SqL K H p (bs.map V.bl)/\Q (.bl (f bs)) H
def wG(A:Around)(prog:Program)(w:World)(bs:List Bool):TruthOf prog w A (λi v=>(bs.map Value.bool).toArray[i]?=some v) (λi=>bs.getD i true):=by
 intro i v s Q E hP hQ;rw[Yk,u9]at hP;cases q:bs[i]? with
 |none=>rw[q]at hP;cases hP
 |some b=>
  rw[q]at hP;cases hP;have e:bs.getD i true=b:=by rw[v9,q];rfl
  have hQ:Q (bs.getD i true) s:=hQ;rw[e]at hQ;exact oQ hQ
def xH(hc:X.calm=true):jf X (.builtin "all") (Mm X.K λbs=>bs.all id):=by
 intro pins s σ H xs us Q I r ⟨p,bs,ex,hs,q⟩;subst ex;obtain⟨u,rfl,r1⟩:=r.one;cases r1;obtain⟨its,rv,pl,hz⟩:=I.list hs;obtain rfl:=rv.bls;have hh:X.A.in1.handled=none:=I.ok.hd hc;have hlt:p<s.heap.objs.size:=by obtain⟨o,n,e,_⟩:=id pl;exact xi e
 refine call_all_walk (Zs pl.isList ?_);refine⟨s.heap.objs.size,[s.heap.objs.size,p],[s.heap.objs.size],_,_,_,λi=>bs.getD i true,rfl,Walks.list hh s.heap.objs.size p (t9 hlt) (bs.map Value.bool).toArray,⟨⟨_,v7 _ rfl,rfl,rfl⟩,?_⟩,wG _ _ _ bs,λh' tk hk=>?_⟩;·obtain⟨o,n,e,c,_,d⟩:=id pl;exact⟨o,z9 _ e,c,n,d⟩
 ·have e:(List.range (bs.map Value.bool).toArray.size).all (λi=>bs.getD i true)=bs.all id:=by rw[wg,zV];exact lx rfl
  rw[e];refine⟨.bl _,H,I.kept (t':=tk) λb o eb=>hk b o (λz=>?_) (z9 _ eb),rfl,q⟩;have:b=s.heap.objs.size:=by simpa using z
  exact nV _ (this▸xi eb)
def A3:List D->Option D
 | [.lst _ ds]=>(zD ds).map λbs=>.bl (bs.all id)
 |_=>none
def Ip(hc:X.calm=true)(hg:Gl X "all")(hm:X.mg "all"=none)(ha:PFA X [e] gl)(he:starEach [e] X.env=[(false,eval e X.env)]:=by rfl):PF X (.Call (.Name "all" p) [e] [] pos) (λρ=>gl ρ>>=λds=>ofO (A3 ds)):=
 nq (xH hc) (by
  intro G H xs ds d Q s r e q;unfold A3 at e;split at e
  ·rename_i f ds;obtain⟨v,rfl,r1⟩:=r.one;obtain⟨a,vs,rfl,h,t⟩:=r1.seq_inv;cases eb:zD ds with
   |none=>rw[eb]at e;cases e
   |some bs=>rw[eb]at e;cases e;obtain rfl:=t.bls eb;exact⟨a,bs,rfl,h.mono s,q _ G H (.refl s) (.bl _)⟩
  ·cases e) hg hm PyProof.Rows.Boot.«all» ha (he:=by rw[he];rfl)
def IX(K:PySem.W.Frag)(T:String)(r:V->List V->Hp->VK->Prop)(f:D->List D->Option D):Prop:=∀(G H:Hp)(x:V)(xs:List V)(dx:D)(ds:List D)(d:D)(Q:VK),Same G H->Rep K G x dx->Reps K G xs ds->f dx ds=some d->Fin G H (Rep K) Q d->r x xs H Q
def mj(T:String):D->Bool
 |.str _=>T=="str"
 |.lst _ _=>T=="list"
 |_=>false
def sA{T id:String}{name:Str}{ap cp:Pos}{r:V->List V->Hp->VK->Prop}{f:D->List D->Option D}(pa:PlainAttrs T)(slot:PySem.Slot T name id)(hty:typeOf (.builtin id)=pure (.type "method_descriptor"))(hm:MtR X id r)(hf:IX X.K T r f)(ho:PF X o ga)(ha:PFA X (e::es) gl)(hbase:attributeBase o name X.env (eval o X.env)=eval o X.env:=by rfl)(hfew:((backTo cp (starEach (e::es) X.env)).all (λx=>!x.1) && (backToKw cp (keywordEach [] X.env)).all (λx=>x.1.isSome)
 && decide ((e::es).length+([]:List Keyword).length+(if ([]:List Keyword).isEmpty then 0 else 1)<30))=true:=by rfl)(hline:(ap.endLine==cp.line)=true:=by rfl)(hs:starEach (e::es) X.env=(false,eval e X.env)::starEach es X.env:=by rfl)(hplain:(backTo cp (starEach es X.env)).any (·.1)=false:=by rfl):
  PF X (.Call (.Attribute o name ap) (e::es) [] cp) (λρ=>ga ρ>>=λx=>if mj T x=true then gl ρ>>=λds=>ofO (f x ds)else .no):=by
 intro pins s σ H Q I h;refine wR pa slot hty hm ho ha hbase hfew hline hs hplain pins s σ H Q I ?_;obtain⟨G,ρ,st,h⟩:=h;refine tG.intro st h λx v G1 H1 u1 st1 r1 h1=>?_;by_cases hk:mj T x=true
 ·rw[if_pos hk]at h1;have ty:tyV X.K T v H1:=by
   cases r1 with
   |str y hy=>exact show T="str" by simpa[mj]using hk
   |lst hh t=>exact .inl ⟨by simpa[mj]using hk,_,.of (st1.sub _ _ hh)⟩
   |fls hh t=>exact .inl ⟨by simpa[mj]using hk,_,hh.mono st1.sub⟩
   |_=>cases hk
  refine⟨ty,tG.intro st1 h1 λds vs G2 H2 u2 st2 r2 h2=>?_⟩;obtain⟨d,e',q⟩:=ofO.ok h2;exact hf G2 H2 v vs x ds d Q st2.sub (r1.mono u2.gg) r2 e' q
 ·rw[if_neg hk]at h1;exact h1.elim
end
def oX:List Nat->List D->Ev->R Ev
 | [],[],ρ=>.ok ρ
 |i::is,d::ds,ρ=>oX is ds (ρ.set i (some (.val d)))
 |_,_,_=>.no
theorem mH:∀(is:List Nat)(ds:List D)(ρ:Ev)(C:Addr),oX is ds ρ≠.ex C
 | [],[],_,_=>by intro z;cases z
 | [],_::_,_,_=>by intro z;cases z
 |_::_,[],_,_=>by intro z;cases z
 |i::is,d::ds,ρ,C=>mH is ds _ C
section
variable{e:Expr}{ga:Ev->R D}
def Hz(X:Cx)(es:List Expr)(is:List Nat):Prop:=PGs X es (λvs σ H Q=>∃G₀ H₀ G ρ ds ρ',StR X.K G₀ H₀ G H σ ρ/\Reps X.K G vs ds/\oX is ds ρ=.ok ρ'/\∀σ',StR X.K G₀ H₀ G H σ' ρ'->Q σ' H)
def jQ:Hz X [] []:=by
 intro pins s σ H vs us Q I r h;obtain⟨G₀,H₀,G,ρ,ds,ρ',sr,rd,e,q⟩:=h;refine yy pins s σ H vs us Q I r ?_;cases rd with
 |nil=>cases e;exact⟨rfl,q σ sr⟩
 |cons _ _=>cases e
def cr(i:Nat)(hN:X.N.Nodup)(h2:Hz X es is)(hi:X.N[i]?=some x:=by rfl)(hx:Loc X.env.scope x:=by first|exact Or.inl rfl|exact Or.inr rfl)(hs:(assignEach (.Name x p::es) X.env).map (·.2)=assign (.Name x p) X.env::(assignEach es X.env).map (·.2):=by rfl)(hf:X.fn x=true\/X.env.scope.names.lookup x=some .local:=by first|exact .inl rfl|exact .inr rfl):
  Hz X (.Name x p::es) (i::is):=by
 intro pins s σ H vs us Q I r h;obtain⟨G₀,H₀,G,ρ,ds,ρ',sr,rd,e,q⟩:=h;refine oe (ia (i:=i) hN hi hx hf) h2 hs pins s σ H vs us Q I r ?_;cases rd with
 |nil=>cases e
 |cons r1 t1=>exact⟨_,_,rfl,G₀,H₀,G,_,_,ρ',sr.set r1 i,t1,e,q⟩
def vt(is:List Nat)(d:D)(ρ:Ev):R Ev:=match d with
 |.tup ds=>oX is ds ρ
 |_=>.no
theorem qd:∀(is:List Nat)(ds:List D)(ρ ρ':Ev),oX is ds ρ=.ok ρ'->ds.length=is.length
 | [],[],_,_,_=>rfl
 | [],_::_,_,_,e=>by cases e
 |_::_,[],_,_,e=>by cases e
 |i::is,d::ds,ρ,ρ',e=>by simp[qd is ds _ ρ' e]
def sL(hc:X.calm=true)(h:Hz X es is)(hn:(assignEach es X.env).length=is.length:=by rfl)(hst:(assignEach es X.env).findIdx? (·.1)=none:=by rfl):PGF X (.Tuple es k pos) (vt is):=by
 intro pins s σ H v u Q I r q;obtain⟨G₀,H₀,G,ρ,d,ρ',sr,rd,e,q⟩:=q;refine Ch hc h hn hst pins s σ H v u Q I r ?_;cases rd with
 |tup hh t=>rename_i ds;exact⟨_,_,rfl,hh.mono sr.e.sub,by rw[t.length];exact qd is ds ρ ρ' e,G₀,H₀,G,ρ,ds,ρ',sr,t,e,q⟩
 |_=>cases e
def kL(is:List Nat):∀(d:D)(ρ:Ev)(C:Addr),vt is d ρ≠.ex C:=λd ρ C=>by
 cases d with
 |tup ds=>exact mH is ds ρ C
 |_=>intro z;cases z
def vx{np cp:Pos}{bm:List Value}{B newId initId:String}(Oc:OwnCls x C bm newId X.mg X.base)(FB:ExcBaseFacts B newId initId bm)(hh:X.A.handled=none)(hg:Gl X x)(ha:PFA X [e] gl)(hdb:(x==("__debug__":Str))=false:=by decide)(hs:starEach [e] X.env=(false,eval e X.env)::starEach [] X.env:=by rfl)(hz:∀ρ ds,gl ρ=.ok ds->ds.length<=1:=by intro _ _ z;first|(cases z;decide)|skip):
  PSF X (.Raise (some (.Call (.Name x np) [e] [] cp)) none pos) (λρ=>(gl ρ).out ρ λ_=>.ex C ρ):=λG₀ H₀ pins s σ H D I h=>by
 obtain⟨G,ρ,sr,h⟩:=h;dsimp only at h;obtain⟨tl,N,nm,qn,bs,hdct,sn,sub,ab,col,dd,k0,k1,k2,k3,k5,mN,hC,hN,hni,T⟩:=Oc.obj;refine wpAny_Raise_call_subT (C:=C) (nm:=nm) (q:=qn) (N:=N) (bs:=bs) (bm:=tl) (hdct:=hdct) (sn:=sn) (sub:=sub) (ab:=ab) (col:=col) (dd:=dd) (k0:=k0) (k1:=k1) (k2:=k2) (k3:=k3) (k5:=k5)
  FB (mN:=mN) (T.hasType FB.hasBase) hh (by rw[hs];rfl) hni (mW I hg Oc.bound ⟨rfl,?_⟩ hdb);have t:tAF X gl σ H (λvs H1=>vs.length<=sizeLine/\∃G1,Up G H G1 H1/\jN X G₀ H₀ D (.ex C ρ)):=by
  refine⟨G,ρ,sr.e,?_⟩;cases q:gl ρ with
  |ok ds=>rw[q]at h;intro vs G1 H1 u r;exact⟨by rw[r.length];exact w6 (hz ρ ds q) (by decide),G1,u,h⟩
  |ex C'=>rw[q]at h;exact Exx.of sr h
  |no=>rw[q]at h;exact h
 have hA:=ha cp pins s σ H _ I t;rw[hs]at hA⊢;refine Calls.evalArgs_plain (t7 hA (λvs s₂ q=>?_) λ_ _ y=>y);obtain⟨vs',H1,I1,r,hz,G1,u,h⟩:=q;exact⟨rfl,by show vs.length<=sizeLine;rw[<- r.length];exact hz,I1.bk _ _ hC,hN.keeps I1.bk,T.keeps I1.bk,λh' a made=>h _ _ (.of (sr.ups u) ⟨pins,s₂,a,rfl,I1,.inl ⟨h',vs,made,rfl⟩⟩)⟩
end
section
def Inv.cx{A':Around}{calm':Bool}{pn' pins':List (Addr×Obj)}{xe':Value->Shared->Prop}(I:Inv X pins σ H s)(hp:∀p∈pn'++pins',p∈X.pn++pins)(hA:A'.frames=X.A.frames)(hd:calm'=true->A'.handled=none):
  Inv { X with A:=A',calm:=calm',pn:=pn',xe:=xe' } pins' σ H s:=
 ⟨⟨I.ok.mod,I.ok.kind,I.ok.glob,I.ok.blt,I.ok.above,I.ok.inj,I.ok.has,I.ok.cab,hd,hA.trans I.ok.frames,I.ok.stk,I.ok.exf,I.ok.bs,I.ok.bsz,I.ok.noex,I.ok.exfs,I.ok.funs,I.ok.frf,I.ok.tabs⟩,
  I.os,I.bare,I.base,I.loc,I.cell,I.free,I.freeC,λp q=>I.pin p (hp p q),I.hok,I.len⟩
end
noncomputable def Lk(gb gs:Ev->O)(f:Addr->Option Bool)(i:Nat):Ev->O:=λρ=>match gb ρ with
 |.ex C ρ'=>(match f C with
  |some true=>(match gs (ρ'.set i (some (.val (.exc C))))with
   |.nx ρ''=>.nx (ρ''.set i none)
   |.rt d=>.rt d
   |_=>.no)
  |_=>.no)
 |o=>o
structure Callee(P:Program)(w:World)(K:PySem.W.Frag)(mg:Str->Option Value)(base:Heap)(x:Str)(k n:Nat)(g:List D->R D):Prop where
 ex:∃f fd ps,FnF P w K mg base k f fd ps g/\mg x=some (.ref f)/\PySem.W.keepIn K (.ref f)=true/\Binds K fd ps []/\ps.length=n
def AJ{n:Nat}{g:List D->R D}{e:Expr}(c:Callee X.prog X.w X.K X.mg X.base x k n g)(hr:Room k X.A)(ha:PFA X (e::es) gl)(hg:Gl X x:=by rfl)(hdb:(x==("__debug__":Str))=false:=by decide)(he:starEach (e::es) X.env=(false,eval e X.env)::starEach es X.env:=by rfl)(hpl:(backTo pos (starEach es X.env)).any (·.1)=false:=by rfl):
  PF X (.Call (.Name x p) (e::es) [] pos) (λρ=>gl ρ>>=λds=>if ds.length=n then g ds else .no):=by
 obtain⟨f,fd,ps,F,hm,hk,hb,rfl⟩:=c.ex;exact D8 F hr hg hm hk hb ha hdb he hpl
def FnF.to{w:World}{K:PySem.W.Frag}{mg:Str->Option Value}{base:Heap}{g g':List D->R D}(F:FnF P w K mg base k f fd ps g)(h:∀ds,ds.length=ps.length->g' ds=.no\/g ds=g' ds):FnF P w K mg base k f fd ps g':=by
 refine F.imp λvs H Q E ⟨hl,G,ds,sub,r,q⟩=>⟨hl,G,ds,sub,r,?_⟩
 rcases h ds (by rw[<- r.length];exact hl)with z|z;·rw[z]at q;exact q.elim
 ·rw[z];exact q
def Fun.callee{w:World}{K:PySem.W.Frag}{mg:Str->Option Value}{base:Heap}{st:Stmt}{g:List D->R D}(F:Fun K x x st f fd)(hm:mg x=some (.ref f))(ok:FnF P w K mg base k f fd ps g)(h:∀(kV doc pm:Value)(an:Option Addr)(cdv ct:Value)(us:List Value),us.length=ps.length->bindArgs (PySem.W.fnOf x x (gY st) (bu st) (ah st) .none kV doc pm an cdv ct) ⟨us,[]⟩=pure (ps.zip us)):Callee P w K mg base x k ps.length g:=
 ⟨f,fd,ps,ok,hm,F.kp,F.binds h,rfl⟩
def fO{T:String}{f:String->Bool}(h:∀K:PySem.W.Frag,PySem.W.kitOne K (.type "NoneType") (.type T)=some (f "NoneType")/\PySem.W.kitOne K (.type "bool") (.type T)=some (f "bool")/\PySem.W.kitOne K (.type "int") (.type T)=some (f "int")/\
 PySem.W.kitOne K (.type "str") (.type T)=some (f "str")/\PySem.W.kitOne K (.type "tuple") (.type T)=some (f "tuple")/\PySem.W.kitOne K (.type "list") (.type T)=some (f "list")):
  ∀K:PySem.W.Frag,∀t∈["NoneType","bool","int","str","tuple","list"],PySem.W.kitOne K (.type t) (.type T)=some (f t):=λK t ht=>by
 obtain⟨h1,h2,h3,h4,h5,h6⟩:=h K;simp only[y9,gM,n5]at ht;rcases ht with rfl|rfl|rfl|rfl|rfl|rfl <;> assumption
def isInt(t:String):Bool:=t=="int" || t=="bool"
section
variable{e:Expr}{ga:Ev->R D}{p2:Pos}
def A1(hm:X.mg "isinstance"=none)(ha:PF X e ga)(hm2:X.mg "int"=none)(hg2:Gl X "int":=by rfl)(hg:Gl X "isinstance":=by rfl)(hs1:starEach [e,.Name "int" p2] X.env=(false,eval e X.env)::starEach [.Name "int" p2] X.env:=by rfl):PF X (.Call (.Name "isinstance" p) [e,.Name "int" p2] [] pos) (λρ=>ga ρ>>=iS isInt):=
 kG (T:="int") isInt (fO λK=>⟨rfl,rfl,rfl,rfl,rfl,rfl⟩) hg hm hg2 hm2 PyProof.Rows.Boot.«int» ha hs1
def zb(hm:X.mg "isinstance"=none)(ha:PF X e ga)(hm2:X.mg "bool"=none)(hg2:Gl X "bool":=by rfl)(hg:Gl X "isinstance":=by rfl)(hs1:starEach [e,.Name "bool" p2] X.env=(false,eval e X.env)::starEach [.Name "bool" p2] X.env:=by rfl):PF X (.Call (.Name "isinstance" p) [e,.Name "bool" p2] [] pos) (λρ=>ga ρ>>=iS (·=="bool")):=
 kG (T:="bool") (·=="bool") (fO λK=>⟨rfl,rfl,rfl,rfl,rfl,rfl⟩) hg hm hg2 hm2 PyProof.Rows.Boot.«bool» ha hs1
def Ab(hm:X.mg "isinstance"=none)(ha:PF X e ga)(hm2:X.mg "str"=none)(hg2:Gl X "str":=by rfl)(hg:Gl X "isinstance":=by rfl)(hs1:starEach [e,.Name "str" p2] X.env=(false,eval e X.env)::starEach [.Name "str" p2] X.env:=by rfl):PF X (.Call (.Name "isinstance" p) [e,.Name "str" p2] [] pos) (λρ=>ga ρ>>=iS (·=="str")):=
 kG (T:="str") (·=="str") (fO λK=>⟨rfl,rfl,rfl,rfl,rfl,rfl⟩) hg hm hg2 hm2 PyProof.Rows.Boot.«str» ha hs1
def vk(hm:X.mg "isinstance"=none)(ha:PF X e ga)(hm2:X.mg "tuple"=none)(hg2:Gl X "tuple":=by rfl)(hg:Gl X "isinstance":=by rfl)(hs1:starEach [e,.Name "tuple" p2] X.env=(false,eval e X.env)::starEach [.Name "tuple" p2] X.env:=by rfl):PF X (.Call (.Name "isinstance" p) [e,.Name "tuple" p2] [] pos) (λρ=>ga ρ>>=iS (·=="tuple")):=
 kG (T:="tuple") (·=="tuple") (fO λK=>⟨rfl,rfl,rfl,rfl,rfl,rfl⟩) hg hm hg2 hm2 PyProof.Rows.Boot.«tuple» ha hs1
def yk(hm:X.mg "isinstance"=none)(ha:PF X e ga)(hm2:X.mg "list"=none)(hg2:Gl X "list":=by rfl)(hg:Gl X "isinstance":=by rfl)(hs1:starEach [e,.Name "list" p2] X.env=(false,eval e X.env)::starEach [.Name "list" p2] X.env:=by rfl):PF X (.Call (.Name "isinstance" p) [e,.Name "list" p2] [] pos) (λρ=>ga ρ>>=iS (·=="list")):=
 kG (T:="list") (·=="list") (fO λK=>⟨rfl,rfl,rfl,rfl,rfl,rfl⟩) hg hm hg2 hm2 PyProof.Rows.Boot.«list» ha hs1
end
def cB(ga:Ev->R D):Ev->O:=λρ=>(ga ρ).out ρ .rt
def ax(g1 g2:Ev->O):Ev->O:=λρ=>(g1 ρ).seq g2
def oIf(gt:Ev->R Bool)(g1 g2:Ev->O):Ev->O:=λρ=>(gt ρ).out ρ λk=>if k=true then g1 ρ else g2 ρ
def oNx:Ev->O:=λρ=>.nx ρ
def hZ(i:Nat)(ga:Ev->R D):Ev->O:=λρ=>(ga ρ).out ρ λd=>.nx (ρ.set i (some (.val d)))
def Cy(i:Nat)(gl:Ev->R (List D)):Ev->O:=λρ=>(gl ρ).out ρ λds=>.nx (ρ.set i (some (.own ds)))
def sW(ga:Ev->R D):Ev->O:=λρ=>(ga ρ).out ρ λ_=>.nx ρ
def zC(asg:D->Ev->R Ev)(gi:Ev->R (List D))(g:Ev->O):Ev->O:=λρ=>(gi ρ).out ρ λitems=>dc asg g items ρ
def ka(C:Addr)(gl:Ev->R (List D)):Ev->O:=λρ=>(gl ρ).out ρ λ_=>.ex C ρ
def Go(asg:D->Ev->R Ev)(ga:Ev->R D):Ev->O:=λρ=>(ga ρ).out ρ λd=>(asg d ρ).out ρ .nx
def CP(i:Nat)(g:Ev->O):Ev->O:=λρ=>g (frz i ρ)
def aq{α β:Type}(f:α->R β)(ga:Ev->R α):Ev->R β:=λρ=>ga ρ>>=f
def gOf(f:List D->Option D)(gl:Ev->R (List D)):Ev->R D:=λρ=>gl ρ>>=λds=>ofO (f ds)
def aa(ga:Ev->R D)(gl:Ev->R (List D)):Ev->R (List D):=λρ=>ga ρ>>=λx=>gl ρ>>=λxs=>.ok (x::xs)
def aA(n:Nat)(g:List D->R D)(gl:Ev->R (List D)):Ev->R D:=λρ=>gl ρ>>=λds=>if ds.length=n then g ds else .no
def bA(gl:Ev->R (List D)):Ev->R D:=λρ=>gl ρ>>=λds=>.ok (.lst false ds)
def zy(gl:Ev->R (List D)):Ev->R (List D):=λρ=>gl ρ>>=λds=>if ds.length<=sizeLine then .ok ds else .no
def gB2(f:D->D->Option D)(ga gb:Ev->R D):Ev->R Bool:=λρ=>g2 f ga gb ρ>>=asB
def gB3(f f':D->D->Option D)(ga gb gc:Ev->R D):Ev->R Bool:=λρ=>g3 f f' ga gb gc ρ>>=asB
def gBn(gt:Ev->R Bool):Ev->R Bool:=λρ=>gt ρ>>=λk=>.ok (!k)
def pO(ga:Ev->R D):Ev->R (Option Int):=λρ=>ga ρ>>=λx=>asI x>>=λi=>.ok (some i)
def nr(T:String)(f:D->List D->Option D)(ga:Ev->R D)(gl:Ev->R (List D)):Ev->R D:=λρ=>ga ρ>>=λx=>if mj T x=true then gl ρ>>=λds=>ofO (f x ds)else .no
def Callee.mono{w:World}{K:PySem.W.Frag}{mg:Str->Option Value}{base:Heap}{n:Nat}{g:List D->R D}(c:Callee P w K mg base x k n g)(k':Nat)(h:k<=k':=by decide):Callee P w K mg base x k' n g:=by obtain⟨f,fd,ps,F,hm,hk,hb,e⟩:=c.ex;exact⟨f,fd,ps,{ F with run:=λA outer s H args us vs Q E hr=>F.run A outer s H args us vs Q E (hr.mono h) },hm,hk,hb,e⟩
section
variable{st:Stmt}{bQ sa sb:List Stmt}{e a b c o tg:Expr}{g gs1 gs2:Ev->O}{ga gc:Ev->R D}{gt:Ev->R Bool}{p2:Pos}
def ag(h1:PSF X st gs1)(h2:lR X bQ gs2):lR X (st::bQ) (ax gs1 gs2):=vh h1 h2
def aw:lR X [] oNx:=yB
def bq(he:PF X e ga):PSF X (.Return (some e) pos) (cB ga):=AY he
def jm(hc:PB X c gt)(ha:lR X sa gs1)(hb:lR X sb gs2):PSF X (.If c sa sb pos) (oIf gt gs1 gs2):=Fa hc ha hb
def Kp(i:Nat)(hN:X.N.Nodup)(he:PF X e ga)(hi:X.N[i]?=some x:=by rfl)(hx:Loc X.env.scope x:=by first|exact Or.inl rfl|exact Or.inr rfl)(hs:swapsWithSole [.Name x p] e pos.line X.env=pure false:=by rfl)(hw:swappedStores [.Name x p] e X.env=pure none:=by rfl)(hf:X.fn x=true\/X.env.scope.names.lookup x=some .local:=by first|exact .inl rfl|exact .inr rfl):
  PSF X (.Assign [.Name x p] e pos) (hZ i ga):=Be i hN he hi hx hs hw hf
def Bn(i:Nat)(hN:X.N.Nodup)(he:PFL X e gl)(hi:X.N[i]?=some x:=by rfl)(hx:Loc X.env.scope x:=by first|exact Or.inl rfl|exact Or.inr rfl)(hs:swapsWithSole [.Name x p] e pos.line X.env=pure false:=by rfl)(hw:swappedStores [.Name x p] e X.env=pure none:=by rfl)(hf:X.fn x=true\/X.env.scope.names.lookup x=some .local:=by first|exact .inl rfl|exact .inr rfl):
  PSF X (.Assign [.Name x p] e pos) (Cy i gl):=Bm i hN he hi hx hs hw hf
def qg(he:PF X e ga)(hs:swapsWith e none pos.line X.env=pure false:=by rfl):PSF X (.Expr e pos) (sW ga):=xX he hs
def qj(hp:PassesOwn (model X.prog X.w) X.A X.env X.xe)(hcalm:X.calm=true)(hi:PIF X tg iter gi)(hg:PGF X tg asg)(hb:lR X body g)(hs:∀x,foldedSetIterable iter X.env x=pure x:=by intro _;rfl)(hn:∀d ρ C,asg d ρ≠.ex C:=by intro _ _ _ z;cases z):PSF X (.For tg iter body [] pos) (zC asg gi g):=AG hp hcalm hi hg hb hs hn
def dz(hg:Gl X "len")(hm:X.mg "len"=none)(ha:PFA X [e] gl)(he:starEach [e] X.env=[(false,eval e X.env)]:=by rfl):PF X (.Call (.Name "len" p) [e] [] pos) (gOf fm gl):=G8 hg hm ha he
def DJ(hc:X.calm=true)(hg:Gl X "all")(hm:X.mg "all"=none)(ha:PFA X [e] gl)(he:starEach [e] X.env=[(false,eval e X.env)]:=by rfl):PF X (.Call (.Name "all" p) [e] [] pos) (gOf A3 gl):=Ip hc hg hm ha he
def ad(ha:PF X e ga)(hr:PFA X es gl)(hs:starEach (e::es) X.env=(false,eval e X.env)::starEach es X.env:=by rfl):PFA X (e::es) (aa ga gl):=zO ha hr hs
def az{n:Nat}{f:List D->R D}(c:Callee X.prog X.w X.K X.mg X.base x k n f)(hr:Room k X.A)(ha:PFA X (e::es) gl)(hg:Gl X x:=by rfl)(hdb:(x==("__debug__":Str))=false:=by decide)(he:starEach (e::es) X.env=(false,eval e X.env)::starEach es X.env:=by rfl)(hpl:(backTo pos (starEach es X.env)).any (·.1)=false:=by rfl):
  PF X (.Call (.Name x p) (e::es) [] pos) (aA n f gl):=AJ c hr ha hg hdb he hpl
def gT{gens:List Comprehension}{sc:Scope}(h:PFL X (.ListComp e gens sc pos) gl):PF X (.ListComp e gens sc pos) (bA gl):=tE h
def uK(h:PFL X (.List es pos) gl):PF X (.List es pos) (bA gl):=tE h
def sZ(h:PFA X es gl):PFL X (.List es pos) (zy gl):=E2 h
def bN(h:PFA X es gl):PF X (.Tuple es k pos) (aq mkT gl):=FP h
def Fr(ha:PF X a ga):PF X (.UnaryOp .USub a pos) (aq HS ga):=HD ha
def DG(hm:X.mg "isinstance"=none)(ha:PF X e ga)(hm2:X.mg "int"=none)(hg2:Gl X "int":=by rfl)(hg:Gl X "isinstance":=by rfl)(hs1:starEach [e,.Name "int" p2] X.env=(false,eval e X.env)::starEach [.Name "int" p2] X.env:=by rfl):PF X (.Call (.Name "isinstance" p) [e,.Name "int" p2] [] pos) (aq (iS isInt) ga):=A1 hm ha hm2 hg2 hg hs1
def Bl(hm:X.mg "isinstance"=none)(ha:PF X e ga)(hm2:X.mg "bool"=none)(hg2:Gl X "bool":=by rfl)(hg:Gl X "isinstance":=by rfl)(hs1:starEach [e,.Name "bool" p2] X.env=(false,eval e X.env)::starEach [.Name "bool" p2] X.env:=by rfl):PF X (.Call (.Name "isinstance" p) [e,.Name "bool" p2] [] pos) (aq (iS (·=="bool")) ga):=zb hm ha hm2 hg2 hg hs1
def Ee(hm:X.mg "isinstance"=none)(ha:PF X e ga)(hm2:X.mg "str"=none)(hg2:Gl X "str":=by rfl)(hg:Gl X "isinstance":=by rfl)(hs1:starEach [e,.Name "str" p2] X.env=(false,eval e X.env)::starEach [.Name "str" p2] X.env:=by rfl):PF X (.Call (.Name "isinstance" p) [e,.Name "str" p2] [] pos) (aq (iS (·=="str")) ga):=Ab hm ha hm2 hg2 hg hs1
def iI(hm:X.mg "isinstance"=none)(ha:PF X e ga)(hm2:X.mg "tuple"=none)(hg2:Gl X "tuple":=by rfl)(hg:Gl X "isinstance":=by rfl)(hs1:starEach [e,.Name "tuple" p2] X.env=(false,eval e X.env)::starEach [.Name "tuple" p2] X.env:=by rfl):PF X (.Call (.Name "isinstance" p) [e,.Name "tuple" p2] [] pos) (aq (iS (·=="tuple")) ga):=vk hm ha hm2 hg2 hg hs1
def mT(h:PF X e ga):PFO X (some e) (pO ga):=Bf h
def EJ(ha:PF X a ga)(hb:PF X b gb):PB X (.Compare a [.Lt] [b] pos) (gB2 ltD ga gb):=JV ha hb
def Kn(ha:PF X a ga)(hb:PF X b gb):PB X (.Compare a [.LtE] [b] pos) (gB2 leD ga gb):=Kf ha hb
def Ec(ha:PF X a ga)(hb:PF X b gb):PB X (.Compare a [.Gt] [b] pos) (gB2 gtD ga gb):=Kk ha hb
def oq(hu:X.A.units+64<cLine)(ha:PF X a ga)(hb:PF X b gb):PB X (.Compare a [.Eq] [b] pos) (gB2 eqF ga gb):=KU hu ha hb
def qe(hu:X.A.units+64<cLine)(ha:PF X a ga)(hb:PF X b gb):PB X (.Compare a [.NotEq] [b] pos) (gB2 neF ga gb):=Jt hu ha hb
def J9(ha:PF X a ga)(hb:PF X b gb):PB X (.Compare a [.Is] [b] pos) (gB2 isF ga gb):=KF ha hb
def EU(ha:PF X a ga)(hb:PF X b gb)(hc:PF X c gc)(hm:lastMarks [.LtE,.LtE] [b,c]=false:=by with_unfolding_all rfl):PB X (.Compare a [.LtE,.LtE] [b,c] pos) (gB3 leD leD ga gb gc):=DR ha hb hc hm
def fC(ha:PB X a gt):PB X (.UnaryOp .Not a pos) (gBn gt):=Hf ha
def fK(h:PF X (.Call a es [] pos) ga):PB X (.Call a es [] pos) (aq jy ga):=xY h
def qb{op:BoolOp}(h:PBW X (.BoolOp op es pos) gt):PB X (.BoolOp op es pos) gt:=λpins s σ H Q I q=>h _ pins s σ H Q I q
def fB(ha:PF X a ga):PIF X tg a (aq bf ga):=EE ha
def jM(hg:Gl X "range")(hm:X.mg "range"=none)(ha:PFA X [a] gl)(hs:starEach [a] X.env=[(false,eval a X.env)]:=by rfl):PIF X tg (.Call (.Name "range" p) [a] [] pos) (aq bX gl):=vR hg hm ha hs
end
@[simp] theorem R.ok_out{α:Type}(a:α)(ρ:Ev)(k:α->O):(R.ok a).out ρ k=k a:=rfl
@[simp] theorem R.ex_out{α:Type}(C:Addr)(ρ:Ev)(k:α->O):(R.ex C:R α).out ρ k=.ex C ρ:=rfl
@[simp] theorem kE{α:Type}(a:α):eW (R.ok a)=R.ok a:=rfl
theorem lJ{gt:Ev->R Bool}{ge:Ev->R D}(p:D->Bool)(h:D->D)(tl:Ev):∀(ds:List D)(a:Option Sl),(∀d∈ds,gt (some (.val d)::tl)=.ok (p d)/\(p d=true->ge (some (.val d)::tl)=.ok (h d)))->eZ gt ge ds (a::tl)=.ok ((ds.filter p).map h)
 | [],a,_=>rfl
 |d::ds,a,H=>by
  have ih:=lJ p h tl ds (some (.val d)) λx m=>H x (w9 _ m);obtain⟨e1,e2⟩:=H d (w5 ..);show(eW (gt (some (.val d)::tl))>>=λk=>if k=true then eW (ge (some (.val d)::tl))>>=λx=>eZ gt ge ds (some (.val d)::tl)>>=λxs=>.ok (x::xs)else eZ gt ge ds (some (.val d)::tl))=_;rw[e1,kE,R.ok_bind,ih];cases q:p d with
  |true=>rw[if_pos rfl,e2 q,kE,R.ok_bind,R.ok_bind,List.filter_cons_of_pos q];rfl
  |false=>rw[if_neg sP,List.filter_cons_of_neg (by rw[q];exact sP)]
def qT{gt:Ev->R Bool}(h:D->D)(tl:Ev)(ds:List D)(a:Option Sl)(H:∀d∈ds,gt (some (.val d)::tl)=.ok true/\ge (some (.val d)::tl)=.ok (h d)):eZ gt ge ds (a::tl)=.ok (ds.map h):=by rw[lJ (λ_=>true) h tl ds a λd m=>⟨(H d m).1,λ_=>(H d m).2⟩,List.filter_eq_self.2 λ_ _=>rfl]
theorem uS(f:D->Bool):∀ds:List D,zD (ds.map λd=>.bl (f d))=some (ds.map f)
 | []=>rfl
 |d::ds=>by
  have ih:=uS f ds;rw[w8,w8];unfold zD
  first|(rw[ih];rfl)|(simp only[ih];rfl)|simp[ih]
def jL(f:D->Bool)(k:Bool)(ds:List D):A3 [.lst k (ds.map λd=>.bl (f d))]=some (.bl (ds.all f)):=by show(zD (ds.map λd=>.bl (f d))).map _=_;rw[uS];show some (D.bl ((ds.map f).all id))=_;rw[List.all_map];rfl
def zj(a b:Nat):(!decide (([b]:List Nat)<[a]))=decide (a<=b):=by
 have:(([b]:List Nat)<[a]) ↔ b<a:=by
  constructor
  ·intro h;cases h with
   |rel h=>exact h
   |cons h=>cases h
  ·intro h;exact .rel h
 by_cases h:a<=b
 ·have h2 : ¬ ([b]:List Nat)<[a]:=λq=>by have:=this.1 q;omega
  simp[h,h2]
 ·have h2:([b]:List Nat)<[a]:=this.2 (by omega);simp[h,h2]
def er{N':List Str}(hk:scope.kind=.function:=by rfl)(h1:(∀y∈scope.names,y.2≠.cell)/\(∀y∈scope.names,y.2=.local->scope.names.lookup y.1=some .local)/\scope.names.lookup x=some .local/\(∀y∈scope.names,y.2=.free->y.1∈N'.tail)/\N'.Nodup/\N'[0]?=some x/\
 ∀y∈N'.tail,scope.names.lookup y=some .free/\(y,NameKind.free)∈scope.names:=by decide +kernel)(h2:N'.tail.map X.env.kindOf=N'.tail.map λ_=>some NameKind.cell:=by rfl)(h3:N'.tail=ix.map (λ(i:Nat)=>X.N.getD i Str.empty):=by rfl)(h4:ix.all (λi=>decide (i<X.N.length))=true:=by rfl):CompOk X scope x N' ix:=by
 obtain⟨a,b,c,d,e,f,g⟩:=h1;refine⟨hk,a,b,c,λy hy h=>?_,e,f,h3,λi hi=>?_,g⟩;·exact List.map_inj_left.1 h2 _ (d y hy h)
 ·exact g9 (sI.1 h4 i hi)
def rd0(d:D)(ρ:Ev):rdV (some (.val d)::ρ) 0=.ok d:=rfl
def rd1(a0:Option Sl)(d:D)(ρ:Ev):rdV (a0::some (.val d)::ρ) 1=.ok d:=rfl
def rd2(a0 a1:Option Sl)(d:D)(ρ:Ev):rdV (a0::a1::some (.val d)::ρ) 2=.ok d:=rfl
def rd3(a0 a1 a2:Option Sl)(d:D)(ρ:Ev):rdV (a0::a1::a2::some (.val d)::ρ) 3=.ok d:=rfl
def rd4(a0 a1 a2 a3:Option Sl)(d:D)(ρ:Ev):rdV (a0::a1::a2::a3::some (.val d)::ρ) 4=.ok d:=rfl
def rd5(a0 a1 a2 a3 a4:Option Sl)(d:D)(ρ:Ev):rdV (a0::a1::a2::a3::a4::some (.val d)::ρ) 5=.ok d:=rfl
def rd6(a0 a1 a2 a3 a4 a5:Option Sl)(d:D)(ρ:Ev):rdV (a0::a1::a2::a3::a4::a5::some (.val d)::ρ) 6=.ok d:=rfl
section
variable{f:List D->R D}{ga gc gd:Ev->R D}
def BX:aA 1 f (aa ga λ_=>.ok []) ρ=ga ρ>>=λx=>f [x]:=by unfold aA aa;cases ga ρ <;> rfl
def wQ:aA 2 f (aa ga (aa gb λ_=>.ok [])) ρ=ga ρ>>=λx=>gb ρ>>=λy=>f [x,y]:=by
 unfold aA aa;cases ga ρ <;> try rfl
 simp only[aa,R.ok_bind];cases gb ρ <;> rfl
def Cu:aA 3 f (aa ga (aa gb (aa gc λ_=>.ok []))) ρ=ga ρ>>=λx=>gb ρ>>=λy=>gc ρ>>=λz=>f [x,y,z]:=by
 unfold aA aa;cases ga ρ <;> try rfl
 simp only[aa,R.ok_bind];cases gb ρ <;> try rfl
 simp only[R.ok_bind];cases gc ρ <;> rfl
end
def At(N:List Str)(i:Nat)(x:Str):Prop:=N[i]?=some x
def at0{l:List Str}:At (x::l) 0 x:=rfl
def at1{l:List Str}:At (y0::x::l) 1 x:=rfl
def at2{l:List Str}:At (y0::y1::x::l) 2 x:=rfl
def at3{l:List Str}:At (y0::y1::y2::x::l) 3 x:=rfl
def at4{l:List Str}{y3:Str}:At (y0::y1::y2::y3::x::l) 4 x:=rfl
def at5{l:List Str}{y3 y4:Str}:At (y0::y1::y2::y3::y4::x::l) 5 x:=rfl
def at6{l:List Str}{y3 y4 y5:Str}:At (y0::y1::y2::y3::y4::y5::x::l) 6 x:=rfl
def at7{l:List Str}{y3 y4 y5 y6:Str}:At (y0::y1::y2::y3::y4::y5::y6::x::l) 7 x:=rfl
def at8{l:List Str}{y3 y4 y5 y6 y7:Str}:At (y0::y1::y2::y3::y4::y5::y6::y7::x::l) 8 x:=rfl
def at9{l:List Str}{y3 y4 y5 y6 y7 y8:Str}:At (y0::y1::y2::y3::y4::y5::y6::y7::y8::x::l) 9 x:=rfl
section
variable{N:List Str}{i:Nat}
def af{w:World}{K:PySem.W.Frag}{mg:Str->Option Value}{base:Heap}{A:Around}{outer:List Env}{E:XK}(h:At N i x)(hv:Vis (fE CX P w K mg base N qual scope f cdv A outer s H E).env.scope x:=by first|exact Or.inl rfl|exact Or.inr (Or.inl rfl)|exact Or.inr (Or.inr rfl))(hd:(x==("__debug__":Str))=false:=by decide)(hcd:(x==("__classdict__":Str))=false:=by decide):PF (fE CX P w K mg base N qual scope f cdv A outer s H E) (.Name x pos) (λρ=>rdV ρ i):=xD i h hv hd hcd
def bI{s₂:Shared}{H₂:Hp}(h:At N i x)(hv:Vis (cg X N scope C s₂ H₂ fp).env.scope x:=by first|exact Or.inl rfl|exact Or.inr (Or.inl rfl)|exact Or.inr (Or.inr rfl))(hd:(x==("__debug__":Str))=false:=by decide)(hcd:(x==("__classdict__":Str))=false:=by decide):PF (cg X N scope C s₂ H₂ fp) (.Name x pos) (λρ=>rdV ρ i):=xD i h hv hd hcd
def cL{w:World}{K:PySem.W.Frag}{mg:Str->Option Value}{base:Heap}{A:Around}{outer:List Env}{E:XK}{e:Expr}{ga:Ev->R D}(h:At N i x)(hN:N.Nodup)(he:PF (fE CX P w K mg base N qual scope f cdv A outer s H E) e ga)(hx:Loc (fE CX P w K mg base N qual scope f cdv A outer s H E).env.scope x:=by first|exact Or.inl rfl|exact Or.inr rfl)(hs:swapsWithSole [.Name x p] e pos.line (fE CX P w K mg base N qual scope f cdv A outer s H E).env=pure false:=by rfl)(hw:swappedStores [.Name x p] e (fE CX P w K mg base N qual scope f cdv A outer s H E).env=pure none:=by rfl)(hf:(fE CX P w K mg base N qual scope f cdv A outer s H E).fn x=true\/(fE CX P w K mg base N qual scope f cdv A outer s H E).env.scope.names.lookup x=some .local:=by first|exact .inl rfl|exact .inr rfl):
  PSF (fE CX P w K mg base N qual scope f cdv A outer s H E) (.Assign [.Name x p] e pos) (hZ i ga):=Kp i hN he h hx hs hw hf
end
def CL{e:Expr}{ga:Ev->R D}{pt:Pos}(he:PF X e ga)(hc:X.calm=true)(h:Hz X es is)(hn:(assignEach es X.env).length=is.length:=by rfl)(hst:(assignEach es X.env).findIdx? (·.1)=none:=by rfl)(hs:swapsWithSole [.Tuple es k pt] e pos.line X.env=pure false:=by rfl)(hw:swappedStores [.Tuple es k pt] e X.env=pure none:=by rfl)(h1:(assignEach [.Tuple es k pt] X.env).map (·.2)=[assign (.Tuple es k pt) X.env]:=by rfl):
  PSF X (.Assign [.Tuple es k pt] e pos) (Go (vt is) ga):=uf he (sL hc h hn hst) hs hw (kL is) h1
def D6{ga:Ev->R D}{ds:List D}(h:aa ga (λ_=>.ok []) ρ=.ok ds):ds.length<=1:=by
 unfold aa at h;cases e:ga ρ with
 |ok x=>rw[e]at h;cases h;exact z8 _
 |ex C=>rw[e]at h;cases h
 |no=>rw[e]at h;cases h
structure Ref(x:Str)(C:Addr)(mg:Str->Option Value)(base:Heap):Prop where
 ex:∃bm B newId initId,OwnCls x C bm newId mg base/\ExcBaseFacts B newId initId bm
def nG{e:Expr}{ga:Ev->R D}{np cp:Pos}(r:Ref x C X.mg X.base)(hh:X.A.handled=none)(ha:PF X e ga)(hg:Gl X x:=by rfl)(hdb:(x==("__debug__":Str))=false:=by decide)(hs:starEach [e] X.env=(false,eval e X.env)::starEach [] X.env:=by rfl):
  PSF X (.Raise (some (.Call (.Name x np) [e] [] cp)) none pos) (ka C (aa ga λ_=>.ok [])):=by
 obtain⟨bm,B,newId,initId,Oc,FB⟩:=r.ex;exact vx Oc FB hh hg (ad ha ae hs) hdb hs (λρ ds h=>D6 h)
def Un.but{fs:List Addr}(hs:Heap.SameBut C h h'):Un fs [C] H H h h':=by have ne:∀b,b∉[C]->b≠C:=λb hb z=>hb (by rw[z];exact wc.2 rfl);exact⟨λb o e _ _ hx=>(hs.2 b (ne b hx)).trans e,λb o e _ _ hx=>⟨o.slots,(hs.2 b (ne b hx)).trans e⟩,λ_ _ _ n _=>n,λb o e hx=>⟨o,(hs.2 b (ne b hx)).trans e⟩,λ_ _ e=>e,λ_ _ _ e=>e,λ_ ps e=>⟨#[],by rw[Array.append_empty];exact e⟩⟩
def KZ(i:Nat)(ga:Ev->R D):Ev->O:=λρ=>(ownAt ρ i).out ρ λds=>(ga ρ).out ρ λd=>(asL d).out ρ λes=>if ds.length+es.length<=sizeLine then .nx (ρ.set i (some (.own (ds++es))))else .no
def Hj(i:Nat)(ga:Ev->R D):Ev->O:=λρ=>(ownAt ρ i).out ρ λds=>(ga ρ).out ρ λd=>if ds.length<sizeLine then .nx (ρ.set i (some (.own (ds++[d]))))else .no
def MJ(i j:Nat)(gl:Ev->R (List D)):Ev->O:=λρ=>(gl ρ).out ρ λds=>(oX [i,j] ds ρ).out ρ .nx
section
variable{st:Stmt}{bQ:List Stmt}{e c o:Expr}{g:Ev->O}{ga:Ev->R D}{p2:Pos}
def AK(i:Nat){ap cp:Pos}(he:PF X e ga)(hi:X.N[i]?=some x:=by rfl)(hv:Vis X.env.scope x:=by first|exact Or.inl rfl|exact Or.inr (Or.inl rfl))(hd:(x==("__debug__":Str))=false:=by decide)(hcd:(x==("__classdict__":Str))=false:=by decide)(hs1:starEach [e] X.env=(false,eval e X.env)::starEach [] X.env:=by rfl)(hbase:attributeBase (.Name x p) "extend" X.env (eval (.Name x p) X.env)=eval (.Name x p) X.env:=by rfl)(hfew:((backTo cp (starEach [e] X.env)).all (λx=>!x.1) && (backToKw cp (keywordEach [] X.env)).all (λx=>x.1.isSome)
 && decide ([e].length+([]:List Keyword).length+(if ([]:List Keyword).isEmpty then 0 else 1)<30))=true:=by rfl)(hline:(ap.endLine==cp.line)=true:=by rfl)(hs:swapsWith (.Call (.Attribute (.Name x p) "extend" ap) [e] [] cp) none pos.line X.env=pure false:=by rfl):
  PSF X (.Expr (.Call (.Attribute (.Name x p) "extend" ap) [e] [] cp) pos) (KZ i ga):=rL i he hi hv hd hcd hs1 hbase hfew hline hs
def oK(i:Nat){ap cp:Pos}(he:PF X e ga)(hi:X.N[i]?=some x:=by rfl)(hv:Vis X.env.scope x:=by first|exact Or.inl rfl|exact Or.inr (Or.inl rfl))(hd:(x==("__debug__":Str))=false:=by decide)(hcd:(x==("__classdict__":Str))=false:=by decide)(hs1:starEach [e] X.env=(false,eval e X.env)::starEach [] X.env:=by rfl)(hbase:attributeBase (.Name x p) "append" X.env (eval (.Name x p) X.env)=eval (.Name x p) X.env:=by rfl)(hfew:((backTo cp (starEach [e] X.env)).all (λx=>!x.1) && (backToKw cp (keywordEach [] X.env)).all (λx=>x.1.isSome)
 && decide ([e].length+([]:List Keyword).length+(if ([]:List Keyword).isEmpty then 0 else 1)<30))=true:=by rfl)(hline:(ap.endLine==cp.line)=true:=by rfl)(hs:swapsWith (.Call (.Attribute (.Name x p) "append" ap) [e] [] cp) none pos.line X.env=pure false:=by rfl):
  PSF X (.Expr (.Call (.Attribute (.Name x p) "append" ap) [e] [] cp) pos) (Hj i ga):=rE i he hi hv hd hcd hs1 hbase hfew hline hs
def xk(h:PF X (.Name x pos) ga):PB X (.Name x pos) (aq jy ga):=xY h
def wM{sts:List Stmt}(i:Nat)(h:lR X sts g):lR X sts (CP i g):=xG i h
end
structure Errs(K:PySem.W.Frag)(mg:Str->Option Value)(rs:List Addr)(ts:List (Str×Addr)):Prop where
 na:∀t∈ts,mg t.1=some (.ref t.2)
 ec:∀r∈rs,ExcCls K r
 kit:∀r∈rs,∀t∈ts,PySem.W.kitOne K (.ref r) (.ref t.2)=some (r==t.2)
 ve:∀r∈rs,PySem.W.kitOne K (.ref r) (.type "ValueError")=some true
 le:∃L,mg "LineError"=some (.ref L)/\∀r∈rs,PySem.W.exmOne K (.ref r) (.ref L)=some true
def fl:Nat->D->Bool
 | 0,_=>false
 |n+1,.tup xs=>xs.all (fl n)
 |_+1,.lst _ _=>false
 |_+1,.exc _=>false
 |_+1,.dct _ _=>false
 |_+1,_=>true
theorem ym{K:PySem.W.Frag}{G G2:Hp}{n:Nat}(ih:∀v d,fl n d=true->Rep K G v d->Rep K G2 v d):∀{vs:List V}{ds:List D},ds.all (fl n)=true->Reps K G vs ds->Reps K G2 vs ds
 |_,_,_,.nil=>.nil
 |_,_,h,.cons r t=>by rw[ca,u8]at h;exact .cons (ih _ _ h.1 r) (ym ih h.2 t)
theorem zc{K:PySem.W.Frag}{G G2:Hp}(h:∀a o,G a=some o->(∀vs,o≠HO.lst vs)->G2 a=some o):∀(n:Nat)(v:V)(d:D),fl n d=true->Rep K G v d->Rep K G2 v d
 | 0,_,_,hf,_=>by simp[fl]at hf
 |n+1,v,d,hf,r=>by
  cases r with
  |non=>exact .non
  |bl b=>exact .bl b
  |int i=>exact .int i
  |str x hx=>exact .str x hx
  |tup hs t=>
   refine .tup ?_ (ym (λv d=>zc h n v d) hf t);rcases hs with (q|⟨o,q⟩)|q;·exact .inl (.inl (h _ _ q λvs z=>by cases z))
   ·exact .inl (.inr ⟨o,h _ _ q λvs z=>by cases z⟩)
   ·exact .inr q
  |lst hs t=>simp[fl]at hf
  |fls hs t=>simp[fl]at hf
  |exc hs=>simp[fl]at hf
  |dct _ _ _=>simp[fl]at hf
def StR.peek{K:PySem.W.Frag}{H₀:Hp}(s:StR K G₀ H₀ G H σ ρ)(i:Nat):∃G1,StE K G1 H σ (L2.frz i ρ)/\
  ∀G' H',Up G1 H G' H'->∃G2,Up G H G2 H'/\∀a o,G' a=some o->(∀vs,o≠HO.lst vs)->G2 a=some o:=by
 obtain⟨G1,sr,e|⟨l,vs,hl,e⟩⟩:=s.frzTo i;·subst e;exact⟨G1,sr.e,λG' H' u=>⟨G',u,λa o q _=>q⟩⟩
 ·subst e;refine⟨_,sr.e,λG' H' u=>⟨λa=>if a=l then none else G' a,⟨λa o q=>?_,λa o q=>?_,u.hh,λa o q=>?_⟩,λa o q hq=>?_⟩⟩
  ·have q:(if a=l then none else G' a)=some o:=q;split at q;·cases q
   ·exact u.sub a o q
  ·have ne:a≠l:=λz=>by subst z;rw[hl]at q;cases q
   show(if a=l then none else G' a)=some o;rw[if_neg ne];exact u.gg a o (by rw[au ne];exact q)
  ·have q:(if a=l then none else G' a)=some o:=q;split at q;·cases q
   ·rename_i ne;rcases u.fr a o q with z|z;·rw[au ne]at z;exact .inl z
    ·exact .inr z
  ·have ne:a≠l:=λz=>by subst z;have:=u.gg a _ ay;rw[q]at this;cases this;exact hq vs rfl
   show(if a=l then none else G' a)=some o;rw[if_neg ne];exact q
section
variable{st:Stmt}{bQ a b:List Stmt}{e c tg:Expr}{g g1 g2:Ev->O}{ga:Ev->R D}{gt:Ev->R Bool}
def LQ(i:Nat)(gt:Ev->R Bool)(g1 g2:Ev->O):Ev->O:=λρ=>(eW (gt (frz i ρ))).out ρ λk=>if k=true then g1 ρ else g2 ρ
def C5(j i:Nat)(ga:Ev->R D):Ev->O:=λρ=>(eW (ga (frz j ρ))).out ρ λd=>if fl 10 d=true then .nx (ρ.set i (some (.val d)))else .no
def Gm(j i:Nat)(hN:X.N.Nodup)(he:PF X e ga)(hi:X.N[i]?=some x:=by rfl)(hx:Loc X.env.scope x:=by first|exact Or.inl rfl|exact Or.inr rfl)(hs:swapsWithSole [.Name x p] e pos.line X.env=pure false:=by rfl)(hw:swappedStores [.Name x p] e X.env=pure none:=by rfl)(hf:X.fn x=true\/X.env.scope.names.lookup x=some .local:=by first|exact .inl rfl|exact .inr rfl):
  PSF X (.Assign [.Name x p] e pos) (C5 j i ga):=λG₀ H₀ pins s σ H D I h=>by
 refine eU he (ia (i:=i) hN hi hx hf) hs hw rfl pins s σ H D I ?_;obtain⟨G,ρ,sr,h⟩:=h;have h:jN X G₀ H₀ D ((eW (ga (frz j ρ))).out ρ λd=>if fl 10 d=true then .nx (ρ.set i (some (.val d)))else .no):=h;obtain⟨G1,st1,pk⟩:=sr.peek j;refine⟨G1,_,st1,?_⟩;cases q:ga (frz j ρ)with
 |ok d=>
  rw[q]at h;intro v G' H' u r;obtain⟨G2,u2,tr⟩:=pk G' H' u;have h:jN X G₀ H₀ D (if fl 10 d=true then .nx (ρ.set i (some (.val d)))else .no):=h;by_cases hfl:fl 10 d=true;·rw[if_pos hfl]at h;exact h _ G2 _ ((sr.ups u2).set (zc tr 10 v d hfl r) i)
  ·rw[if_neg hfl]at h;exact h.elim
 |_=>rw[q]at h;exact h.elim
def J2(j i:Nat)(ga:Ev->R D):Ev->O:=λρ=>(ownAt ρ i).out ρ λds=>(eW (ga (frz j ρ))).out ρ λd=>if ds.length<sizeLine/\fl 10 d=true then .nx (ρ.set i (some (.own (ds++[d]))))else .no
noncomputable def DP(i:Nat)(gk ga:Ev->R D):Ev->O:=λρ=>(ownAt ρ i).out ρ λds=>(eW (ga (frz i ρ))).out ρ λd=>(eW (gk (frz i ρ)>>=asI)).out ρ λk=>match ixN ds.length k with
 |some n=>if fl 10 d=true then .nx (ρ.set i (some (.own (ds.set n d))))else .no
 |none=>.no
def Fq(i:Nat){tp:Pos}{ix:Expr}{gk:Ev->R D}(he:PF X e ga)(hk:PF X ix gk)(hi:X.N[i]?=some x:=by rfl)(hv:Vis X.env.scope x:=by first|exact Or.inl rfl|exact Or.inr (Or.inl rfl))(hd:(x==("__debug__":Str))=false:=by decide)(hcd:(x==("__classdict__":Str))=false:=by decide)(hs:swapsWithSole [.Subscript (.Name x p) ix tp] e pos.line X.env=pure false:=by rfl)(hw:swappedStores [.Subscript (.Name x p) ix tp] e X.env=pure none:=by rfl)(h1':(assignEach [.Subscript (.Name x p) ix tp] X.env).map (·.2)=[assign (.Subscript (.Name x p) ix tp) X.env]:=by rfl)(ha:∀v,assign (.Subscript (.Name x p) ix tp) X.env v=(do
 let ov <- holding [v] (eval (.Name x p) X.env);let iv <- holding [v,ov] (eval ix X.env)
 standAt tp
 holding [v,ov,iv] (setItem ov iv v)
 release [v,ov,iv] []):=by intro _;rfl):
  PSF X (.Assign [.Subscript (.Name x p) ix tp] e pos) (DP i gk ga):=λG₀ H₀ pins s σ H D I h=>by
 refine eU he (uT (fD hi hv hd hcd) hk Br ha) hs hw h1' pins s σ H D I ?_;obtain⟨G,ρ,sr,h⟩:=h;have h:jN X G₀ H₀ D ((ownAt ρ i).out ρ λds=>(eW (ga (frz i ρ))).out ρ λd=>(eW (gk (frz i ρ)>>=asI)).out ρ λk=>match ixN ds.length k with
  |some n=>if fl 10 d=true then .nx (ρ.set i (some (.own (ds.set n d))))else .no
  |none=>.no):=h;obtain⟨ds,e1,h⟩:=ownAt.ok h;obtain⟨l,vs,h1,h2,h3,h4,h5⟩:=sr.own i ds e1;obtain⟨G1,st1,pk⟩:=sr.peek i;refine⟨G1,_,st1,?_⟩;cases q:ga (frz i ρ)with
 |ok d=>
  rw[q]at h;intro v G' H' u r;have h:jN X G₀ H₀ D ((eW (gk (frz i ρ)>>=asI)).out ρ λk=>match ixN ds.length k with
   |some n=>if fl 10 d=true then .nx (ρ.set i (some (.own (ds.set n d))))else .no
   |none=>.no):=h;show GN _ _ _ v σ H' _;refine⟨.ref l,h1,G',_,st1.up u,?_⟩;cases q2:gk (frz i ρ)with
  |ok kd=>
   rw[q2]at h;intro kv G'' H'' u' rk;cases rk with
   |int k=>
    have h:jN X G₀ H₀ D (match ixN ds.length k with
     |some n=>if fl 10 d=true then .nx (ρ.set i (some (.own (ds.set n d))))else .no
     |none=>.no):=h;obtain⟨G2,u2,tr⟩:=pk G'' H'' (u.trans u');cases q3:ixN ds.length k with
    |none=>rw[q3]at h;exact h.elim
    |some n=>
     rw[q3]at h;have h:jN X G₀ H₀ D (if fl 10 d=true then .nx (ρ.set i (some (.own (ds.set n d))))else .no):=h;by_cases hz:fl 10 d=true;·rw[if_pos hz]at h;refine⟨l,vs,k,n,rfl,rfl,(u.trans u').hh _ _ h2,by rw[h5.length];exact q3,h _ G2 _ ?_⟩;exact(sr.ups u2).mut e1 h1 (.set (zc tr 10 v d hz (r.mono u'.gg)) n (h5.mono u2.gg))
     ·rw[if_neg hz]at h;exact h.elim
   |_=>exact h.elim
  |_=>rw[q2]at h;exact h.elim
 |_=>rw[q]at h;exact h.elim
def LX:D->R (List D)
 |.lst _ xs=>.ok xs
 |.tup xs=>.ok xs
 |_=>.no
def Dy:List D->R (List D)
 | [d]=>LX d
 |_=>.no
def Dw(gl:Ev->R (List D)):Ev->R (List D):=λρ=>gl ρ>>=Dy
def vp(hg:Gl X "list")(hm:X.mg "list"=none)(ha:PFA X [e] gl)(he:starEach [e] X.env=(false,eval e X.env)::starEach [] X.env:=by rfl):PFL X (.Call (.Name "list" p) [e] [] pos) (Dw gl):=by
 intro pins s σ H Q I hq;refine iV pN hg hm PyProof.Rows.Boot.«list» ha (by decide) (by decide) he rfl pins s σ H Q I ?_;obtain⟨G,ρ,st,hq⟩:=hq;have hq:(gl ρ>>=Dy).post (oh X.K G H Q) (Exx X σ G H):=hq;refine⟨G,ρ,st,?_⟩;cases q:gl ρ with
 |ok ds=>
  rw[q]at hq;intro vs G' H' u r;have hq:(Dy ds).post (oh X.K G H Q) (Exx X σ G H):=hq;unfold Dy at hq;split at hq
  ·obtain⟨v,rfl,rv⟩:=r.one;cases rv with
   |lst hs t=>exact⟨_,_,rfl,.inl (.of (u.sub _ _ hs)),λl hl=>hq l _ G' H' u hl t⟩
   |fls hs t=>exact⟨_,_,rfl,.inl (hs.mono u.sub),λl hl=>hq l _ G' H' u hl t⟩
   |tup hs t=>exact⟨_,_,rfl,.inr (hs.mono u.sub),λl hl=>hq l _ G' H' u hl t⟩
   |_=>exact hq.elim
  ·exact hq.elim
 |ex C=>rw[q]at hq;exact hq
 |no=>rw[q]at hq;exact hq
def zk{a b:Expr}(hg:Gl X "range")(hm:X.mg "range"=none)(ha:PFA X [a,b] gl)(hs:starEach [a,b] X.env=[(false,eval a X.env),(false,eval b X.env)]:=by rfl)(hs2:starEach [b] X.env=[(false,eval b X.env)]:=by rfl):PIF X tg (.Call (.Name "range" p) [a,b] [] pos) (aq hX gl):=va hg hm ha hs hs2
end
end L2
namespace L2
open PySem PySem.Spec PyProof.Rows PySem.W
def lX:List D->Option (List (List Nat))
 | []=>some []
 |.str x::ds=>(lX ds).map (x::·)
 |_=>none
def jF(sep:List Nat):List (List Nat)->List Nat
 | []=>[]
 | [x]=>x
 |x::y::r=>x++sep++jF sep (y::r)
def qJ:D->List D->Option D
 |.str s,[.lst _ ds]=>match lX ds with
  |some xs=>if (xs.map List.length).sum+xs.length * s.length<=sizeLine then some (.str (jF s xs))else none
  |none=>none
 |_,_=>none
theorem Reps.strs{K:PySem.W.Frag}:∀{vs:List V}{ds:List D}{xs:List (List Nat)},Reps K G vs ds->lX ds=some xs->∃ys:List Str,vs=ys.map V.str/\ys.map (λy=>y.cps.toList)=xs
 |_,_,_,.nil,h=>by cases h;exact⟨[],rfl,rfl⟩
 |_,_,xs,.cons (d:=d) r t,h=>by
  cases d <;> first|(cases h;done)|skip
  rename_i x;rename_i ds';cases q:lX ds' with
  |none=>simp[lX,q]at h
  |some zs=>simp[lX,q]at h;obtain⟨ys,e1,e2⟩:=Reps.strs t q;obtain⟨y,rfl,ey,_⟩:=r.str_inv;exact⟨y::ys,by rw[e1];rfl,by rw[w8,e2,ey];exact h⟩
theorem Vals.strs:∀{ys:List Str}{us:List Value},Vals (ys.map V.str) us->StrsAre us ys
 | [],_,h=>by cases h;exact .nil
 |y::ys,_,h=>by
  cases h with
  |cons a b=>obtain⟨t,rfl⟩:=a;exact .cons y t (Vals.strs b)
def jx(s:Str):∀ys:List Str,(Txt.join s ys).cps.toList=jF s.cps.toList (ys.map λy=>y.cps.toList):=by
 intro ys;show(Builtin.Str.glued s ys).cps.toList=_;rw[StrLaws.glued_eq_join];induction ys with
 |nil=>rfl
 |cons y r ih=>
  cases r with
  |nil=>rfl
  |cons z r=>show(y++s++Str.join s (z::r)).cps.toList=_;rw[Str.app_list,Str.app_list,ih];rfl
theorem fJ(s:List Nat):∀xs:List (List Nat),(jF s xs).length<=(xs.map List.length).sum+xs.length * s.length
 | []=>by simp[jF]
 | [x]=>by simp[jF]
 |x::y::r=>by have:=fJ s (y::r);simp only[jF,v6,w8,nT,r6,Nat.succ_mul]at this⊢;omega
def Iz(K:PySem.W.Frag):V->List V->Hp->VK->Prop:=λx vs H Q=>∃(y:Str)(p:Addr)(ys:List Str),x=.str y/\vs=[.ref p]/\SqL K H p (ys.map V.str)/\(ys.map (·.length)).sum+ys.length * y.length<=16777216/\Q (.str (Txt.join y ys)) H
def Ep:MtR X "str.join" (Iz X.K):=by intro pins s σ H x xs v us Q I rx rv ⟨y,p,ys,ex,exs,hl,hz,q⟩;subst ex exs;obtain⟨t,rfl⟩:=rx;obtain⟨u,rfl,r1⟩:=rv.one;cases r1;obtain⟨its,rvs,pl,_⟩:=I.list hl;exact join_list pl.isList (Vals.strs (by simpa using rvs)) hz λt' k=>⟨.str _,H,I.tok _,⟨_,rfl⟩,q⟩
def C6(K:PySem.W.Frag):IX K "str" (Iz K) qJ:=by
 intro G H x xs dx ds d Q s rx rs e q;unfold qJ at e;split at e
 ·split at e
  ·rename_i zs hz;split at e
   ·rename_i hle;cases e;obtain⟨v,rfl,r1⟩:=rs.one;obtain⟨y,rfl,ey,hy⟩:=rx.str_inv;obtain⟨a,vs,rfl,hs,rr⟩:=r1.seq_inv;obtain⟨ys,e1,e2⟩:=rr.strs hz;subst e1;subst e2;subst ey;have hle':(ys.map (·.length)).sum+ys.length * y.length<=16777216:=by
     have e3:(ys.map λy=>y.cps.toList).map List.length=ys.map (·.length):=by rw[p7];exact l7 λz _=>Str.len_list z
     rw[e3,zV,Str.len_list]at hle;exact hle
    refine⟨y,a,ys,rfl,rfl,hs.mono s,hle',q _ G H (.refl s) (.strL (jx y ys) ?_)⟩;exact w6 (fJ _ _) hle
   ·cases e
  ·cases e
 ·cases e
def FC{o e:Expr}{ga:Ev->R D}{ap cp:Pos}(ho:PF X o ga)(ha:PFA X [e] gl)(hbase:attributeBase o "join" X.env (eval o X.env)=eval o X.env:=by rfl)(hfew:((backTo cp (starEach [e] X.env)).all (λx=>!x.1) && (backToKw cp (keywordEach [] X.env)).all (λx=>x.1.isSome)
 && decide ([e].length+([]:List Keyword).length+(if ([]:List Keyword).isEmpty then 0 else 1)<30))=true:=by rfl)(hline:(ap.endLine==cp.line)=true:=by rfl)(hs:starEach [e] X.env=(false,eval e X.env)::starEach [] X.env:=by rfl):
  PF X (.Call (.Attribute o "join" ap) [e] [] cp) (nr "str" qJ ga gl):=sA Yl PySem.F.slot_str_join PySem.F.type_str_join Ep (C6 _) ho ha hbase hfew hline hs rfl
def nv:List D->Option (List Int)
 | []=>some []
 |.int i::ds=>(nv ds).map (i::·)
 |_=>none
theorem Reps.nums{K:PySem.W.Frag}:∀{vs:List V}{ds:List D}{ns:List Int},Reps K G vs ds->nv ds=some ns->vs=ns.map V.int
 |_,_,_,.nil,h=>by cases h;rfl
 |_,_,ns,.cons (d:=d) r t,h=>by
  cases d <;> first|(cases h;done)|skip
  rename_i x;rename_i ds';cases q:nv ds' with
  |none=>simp[nv,q]at h
  |some zs=>simp[nv,q]at h;subst h;rw[Reps.nums t q,r.int_inv];rfl
section
def ua{e:Expr}{ga:Ev->R D}{p2:Pos}(hm:X.mg "isinstance"=none)(ha:PF X e ga)(hm2:X.mg "list"=none)(hg2:Gl X "list":=by rfl)(hg:Gl X "isinstance":=by rfl)(hs1:starEach [e,.Name "list" p2] X.env=(false,eval e X.env)::starEach [.Name "list" p2] X.env:=by rfl):PF X (.Call (.Name "isinstance" p) [e,.Name "list" p2] [] pos) (aq (iS (·=="list")) ga):=yk hm ha hm2 hg2 hg hs1
end
end L2
namespace L2
open PySem PySem.Spec PyProof.Rows
open Sem (wp)
open AutoSeq1 (wpAny_loadPart')
def HW:isSubtype (.type "enumerate") (.type "enumerate")=pure true:=PySem.sub_enumerate
def E1(l:Addr)(its:Array Value)(n:Nat)(dct:Option Addr)(sl:Array (Option Value)):
  Meets (Builtin.«enumerate.__new__» ⟨[.type "enumerate",.ref l],[]⟩) (λ_ Rr s=>s.heap.get? l=some { cls:=.type "tuple",dict:=dct,data:=.seq its n,slots:=sl }/\
   Rr (.ok (.ret (.ref (s.heap.push { cls:=.type "tuple_iterator",data:=.fields #[.ref l,.int 0 0] }).objs.size)))
    { s with heap:=(s.heap.push { cls:=.type "tuple_iterator",data:=.fields #[.ref l,.int 0 0] }).push { cls:=.type "enumerate",data:=.fields #[.none,.bool false,.ref s.heap.objs.size,rawInt 0,.none,.none] } }):=
 .of_wp λprog w A Rr s h=>by
  obtain⟨hp,g,d,tk,os⟩:=s;obtain⟨hl,h⟩:=h;have hsub:=HW;have hT:Heap.IsTuple (Shared.heap ⟨hp,g,d,tk,os⟩) l its:=⟨_,hl,rfl,n,rfl⟩
  wp_walk using Ym hl
  refine wpAny_stack_any λst=>z7 ?_;split;·rename_i c _ _ _ _ _;cases (c==Value.type "enumerate") <;> (wp_walk using Ym hl,Yd hT;exact⟨_,rfl,h⟩)
  ·wp_walk using Ym hl,Yd hT
   exact⟨_,rfl,h⟩
section
variable{prog:Program}{w:World}{A:Around}
def EW{itT:String}{l:Addr}{c:Int}{Q:Value->Shared->Prop}(h:∀h',IsEnum h' (s.heap.objs.size+1) s.heap.objs.size c .none->h'.get? s.heap.objs.size=some { cls:=.type itT,data:=.fields #[.ref l,.int 0 0] }->h'.objs.size=s.heap.objs.size+2->
 (∀b o,s.heap.get? b=some o->h'.get? b=some o)->Q (.ref (s.heap.objs.size+1)) { s with heap:=h' }):
  wants (λobj s₁=>s₁.TypeIs obj "enumerate"/\Q obj s₁) E (.ok (.ret (.ref (s.heap.push { cls:=.type itT,data:=.fields #[.ref l,.int 0 0] }).objs.size)))
   { s with heap:=(s.heap.push { cls:=.type itT,data:=.fields #[.ref l,.int 0 0] }).push { cls:=.type "enumerate",data:=.fields #[.none,.bool false,.ref s.heap.objs.size,rawInt c,.none,.none] } }:=by
 have hz:(s.heap.push { cls:=.type itT,data:=.fields #[.ref l,.int 0 0] }).objs.size=s.heap.objs.size+1:=n4 ..;have he:IsEnum ((s.heap.push { cls:=.type itT,data:=.fields #[.ref l,.int 0 0] }).push { cls:=.type "enumerate",data:=.fields #[.none,.bool false,.ref s.heap.objs.size,rawInt c,.none,.none] }) (s.heap.objs.size+1) s.heap.objs.size c .none:=by have q:=v7 (s.heap.push { cls:=.type itT,data:=.fields #[.ref l,.int 0 0] }) (o:={ cls:=.type "enumerate",data:=.fields #[.none,.bool false,.ref s.heap.objs.size,rawInt c,.none,.none] }) rfl;rw[hz]at q;exact q
 show _/\_;rw[hz];exact⟨⟨_,he,rfl⟩,h _ he (z9 _ (v7 _ rfl)) (by rw[n4,hz]) λb o x=>z9 _ (z9 _ x)⟩
theorem A9{l:Addr}{its:Array Value}{n:Nat}{dct:Option Addr}{sl:Array (Option Value)}{Q:Value->Shared->Prop}(hl:s.heap.get? l=some { cls:=.type "tuple",dict:=dct,data:=.seq its n,slots:=sl })(h:∀h',IsEnum h' (s.heap.objs.size+1) s.heap.objs.size 0 .none->h'.get? s.heap.objs.size=some { cls:=.type "tuple_iterator",data:=.fields #[.ref l,.int 0 0] }->h'.objs.size=s.heap.objs.size+2->
 (∀b o,s.heap.get? b=some o->h'.get? b=some o)->Q (.ref (s.heap.objs.size+1)) { s with heap:=h' }):
  wpAny (model prog w) A (call (.type "enumerate") [.ref l]) Q E s:=
 callType_new F.called_enumerate (by decide) (F.typeCall_enumerate_1 _) (F.newCall_enumerate_1 _) (λobj=>F.args_object_init_2 obj _) F.entry_enumerate_new (E1 l its n dct sl) ⟨hl,EW h⟩
def ES{t:Addr}{i:Nat}{its:Array Value}{x:Value}{Q:Value->Shared->Prop}(hit:s.heap.IsTupleIter it t i)(ht:s.heap.IsTuple t its)(hx:its[i]?=some x)(hQ:∀h',h'.IsTupleIter it t (i+1)->Heap.SameBut it s.heap h'->Q x { s with heap:=h' }):wpAny (model prog w) A (Builtin.SmallTypes.nextOf (.ref it)) Q E s:=by
 obtain⟨ob,h1,h2,h3⟩:=id hit;obtain⟨ot,k1,_,m,k2⟩:=ht;unfold Builtin.SmallTypes.nextOf;refine z5 (m9 (name:=Str.ofString "__next__") hit.typeIs ZM (r9 ZM hit.typeIs YJ ?_ (YK _)));refine z5 (m:=field (.ref it) 0) (n9 h1 h3 (x:=.ref t) rfl ?_);show wpAny _ _ (if (Value.ref t==Value.none)=true then _ else _) _ _ s;rw[if_neg (by exact sP)];refine z5 (m:=field (.ref it) 1) (n9 h1 h3 (x:=.int i 0) rfl (z5 (m:=seqItems? (.ref t)) (jK k1 k2 ?_)));simp only[si,hx];refine z5 (l8 h1 h3 (by simp) (z7 ⟨x,rfl,z7 (hQ _ ⟨_,mf _ h1 (ZN (i9 h3 _)),(ZO ..).trans h2,?_⟩ (p8 ..))⟩));rw[i9 h3];simp[rawInt]
def CK{t:Addr}{i:Nat}{its:Array Value}{Q:Value->Shared->Prop}(hh:A.handled=none)(hit:s.heap.IsTupleIter it t i)(ht:s.heap.IsTuple t its)(hx:its[i]?=none)(hE:∀h' e,Heap.ExtBut it s.heap h'->(∃o,h'.get? e=some o/\o.cls=.type "StopIteration")->E (.ref e) { s with heap:=h' }):wpAny (model prog w) A (Builtin.SmallTypes.nextOf (.ref it)) Q E s:=by
 obtain⟨ob,h1,h2,h3⟩:=id hit;obtain⟨ot,k1,_,m,k2⟩:=ht;unfold Builtin.SmallTypes.nextOf;refine z5 (m9 (name:=Str.ofString "__next__") hit.typeIs ZM (r9 ZM hit.typeIs YJ ?_ (YK _)));refine z5 (m:=field (.ref it) 0) (n9 h1 h3 (x:=.ref t) rfl ?_);show wpAny _ _ (if (Value.ref t==Value.none)=true then _ else _) _ _ s;rw[if_neg (by exact sP)];refine z5 (m:=field (.ref it) 1) (n9 h1 h3 (x:=.int i 0) rfl (z5 (m:=seqItems? (.ref t)) (jK k1 k2 ?_)));simp only[si,hx];refine z5 (ji (z5 (l8 h1 h3 (by simp) (z5 (m:=newExc (.type "StopIteration") []) ?_))));simp only[newExc,newTuple];refine z5 (o5 (z5 (m:=firstArgMember _ _) (Zg (a:=Value.none) (by first|rfl|(simp only[firstArgMember];rfl)) (o5 ?_ (by size_fits)))) (by size_fits));simp only[raiseNew];refine z5 (wpAny_handled ?_)
 first|rw[show A.in1.handled=none from hh]|rw[hh]
 exact z5 (z7 (wpAny_throw (hE _ _ (((p8 ..).extBut.push _).push _) ⟨_,v7 _ rfl,rfl⟩)))
end
def FM{prog:Program}{w:World}{A:Around}(hh:A.handled=none)(it l:Addr)(hne:l≠it)(its:Array Value)(c:Nat):
  Draws prog w A it [it,l] (c+its.size) (λi v=>∃k,i=c+k/\its[k]?=some v) (λi h=>∃k,i=c+k/\h.IsTupleIter it l k/\h.IsTuple l its) where
 live:=λ_ _ ⟨_,_,st,_⟩=>let⟨o,ho,_⟩:=st;⟨o,ho⟩
 frame:=λ_ _ _ ⟨k,e,st,t⟩ hk=>⟨k,e,st.at λo e=>hk it (by simp) o e,let⟨o,ho,r⟩:=t;⟨o,hk l (by simp) o ho,r⟩⟩
 item:=λi s Q E hi ⟨k,e,st,t⟩ hQ=>by
  have hk:k<its.size:=by omega
  refine ES st t (x:=its[k]) (by simp[hk]) λh' st' sb=>hQ _ h' s.toks ⟨k,e,by simp[hk]⟩ ⟨k+1,by omega,st',?_⟩ sb;obtain⟨o,ho,r⟩:=t;exact⟨o,(sb.2 l hne).trans ho,r⟩
 done:=λs Q E ⟨k,e,st,t⟩ hE=>CK hh st t (Z9 (by omega)) hE
def Hu{prog:Program}{w:World}{A:Around}(hh:A.handled=none)(it l:Addr)(hne:l≠it)(its:Array Value)(c:Nat):
  Draws prog w A it [it,l] (c+its.size) (λi v=>∃k,i=c+k/\its[k]?=some v) (λi h=>∃k,i=c+k/\h.IsListIter it l k/\h.IsList l its) where
 live:=λ_ _ ⟨_,_,st,_⟩=>let⟨o,ho,_⟩:=st;⟨o,ho⟩
 frame:=λ_ _ _ ⟨k,e,st,t⟩ hk=>⟨k,e,st.at λo e=>hk it (by simp) o e,t.at λo e=>hk l (by simp) o e⟩
 item:=λi s Q E hi ⟨k,e,st,t⟩ hQ=>by
  have hk:k<its.size:=by omega
  exact wpAny_nextOf_list_item st t (x:=its[k]) (by simp[hk]) λh' st' sb=>hQ _ h' s.toks ⟨k,e,by simp[hk]⟩ ⟨k+1,by omega,st',t.extBut sb.extBut hne⟩ sb
 done:=λs Q E ⟨k,e,st,t⟩ hE=>wpAny_nextOf_list_end hh st t (Z9 (by omega)) hE
def Inv.turned2{σ:List (Option V)}{t':Nat}{e:Addr}(I:Inv X pins σ H s)(k:∀b o,b≠it->b≠e->s.heap.get? b=some o->h'.get? b=some o)(f1:lv X pins H it)(f2:lv X pins H e):
  Inv X pins σ H { s with heap:=h',toks:=t' }:=by
 obtain⟨a0,a1,a2,a3,a4,a5⟩:=f1;obtain⟨b0,b1,b2,b3,b4,b5⟩:=f2;have n1:∀b u,H b=some u->b≠it:=λb u q z=>by rw[z,a0]at q;cases q
 have n2:∀b u,H b=some u->b≠e:=λb u q z=>by rw[z,b0]at q;cases q
 have kk:∀b o,b∉[it,e]->s.heap.get? b=some o->h'.get? b=some o:=λb o hb q=>k b o (λz=>hb (by simp[z])) (λz=>hb (by simp[z])) q;refine I.step (g':=s.gens) (d':=s.drawn) (ch:=[it,e]) (λb hb=>?_) (λb o _ _ hc q _=>kk b o hc q) (λb o _ _ hc q _=>⟨o.slots,kk b o hc q⟩) (λ_ _ _ _ n=>n) (λb o hc q=>⟨o,kk b o hc q⟩) (λ_ _ q=>q) (λ_ _ _ q=>q) (λb ps q=>⟨#[],by rw[q];simp⟩) (λm hm=>?_) (λb u q=>?_) I.bare
 ·simp only[y9,gM,n5]at hb;rcases hb with rfl|rfl;·exact⟨a3,a1,a4,a5⟩
  ·exact⟨b3,b1,b4,b5⟩
 ·obtain⟨o,es,ep,ho,r⟩:=hm;exact⟨o,es,ep,k _ o (sj a1) (sj b1) ho,r⟩
 ·refine(I.hok b u q).stay (λc v hc q'=>k c v ?_ ?_ q') (λ_ q'=>q') λ_ _ q'=>q'
  ·rcases hc with z|z;·rw[z];exact n1 b u q
   ·exact n1 c _ z
  ·rcases hc with z|z;·rw[z];exact n2 b u q
   ·exact n2 c _ z
def Ite(sq:Hp->List V->Prop)(c:Nat):It:=⟨λi H=>∃xs x,sq H xs/\xs[i]?=some x,
 λi H v H'=>∃p x,v=.ref p/\H p=none/\H'=upd H p (.tup [.int ((c+i:Nat):Int),x])/\∀xs,sq H xs->xs[i]?=some x,λi H=>∃xs,sq H xs/\xs.length<=i⟩
section
variable{w:World}{K:PySem.W.Frag}{kt:Nat}{tp:Pos}
structure Inner(P:Program)(w:World)(K:PySem.W.Frag)(sq:Hp->List V->Prop)(a it:Addr)(iter:Nat->Heap->Prop):Prop where
 obj:∀i h,iter i h->∃o,h.get? it=some o/\∀v,o.data≠.cell v
 at_:∀i h h',iter i h->(∀o,h.get? it=some o->h'.get? it=some o)->iter i h'
 inj:∀(X:Cx),X.K=K->∀(pins:List (Addr×Obj))(σ:St)(H:Hp)(s:Shared) xs ys,Inv X pins σ H s->sq H xs->sq H ys->xs=ys
 dr:∀(X:Cx),X.prog=P->X.w=w->X.K=K->X.calm=true->∀(pins:List (Addr×Obj))(σ:St)(H:Hp)(s:Shared)(xs:List V)(c:Nat),Inv X pins σ H s->sq H xs->(∀i,iter i s.heap->a≠it)->
  ∃its:List Value,Vals xs its/\xs.length<=sizeLine/\∃(Pd:Nat->Value->Prop)(St:Nat->Heap->Prop),Draws P w X.A.in1 it [it,a] (c+its.length) Pd St/\(∀k v,Pd (c+k) v->its[k]?=some v)/\
   (∀k h,iter k h->(∀o,s.heap.get? a=some o->h.get? a=some o)->a≠it->St (c+k) h)/\∀k h,St (c+k) h->iter k h
 fin:∀(X:Cx),X.prog=P->X.w=w->X.K=K->X.calm=true->∀(pins:List (Addr×Obj))(σ:St)(H:Hp)(s:Shared)(xs:List V)(i:Nat)(Q:Value->Shared->Prop)(E:Value->Shared->Prop),Inv X pins σ H s->sq H xs->xs.length<=i->iter i s.heap->
  (∀h' x,Heap.ExtBut it s.heap h'->(∃o,h'.get? x=some o/\o.cls=.type "StopIteration")->E (.ref x) { s with heap:=h' })->wpAny (model P w) X.A.in1 (Builtin.SmallTypes.nextOf (.ref it)) Q E s
def zu{b:Addr}{ob o:Obj}(hb:b<h.objs.size)(q:(h.push ob).get? b=some o):h.get? b=some o:=by unfold Heap.get? Heap.push at *;simpa[Array.getElem?_push,t9 hb]using q
theorem GD{prog:Program}{A:Around}{e:Addr}{c:Int}{old:Value}{Q:Option Value->Shared->Prop}(he:IsEnum s.heap e it c old)(hn:∀(Q':Value->Shared->Prop)(E':Value->Shared->Prop),(∀h' x,Heap.ExtBut it s.heap h'->(∃o,h'.get? x=some o/\o.cls=.type "StopIteration")->E' (.ref x) { s with heap:=h' })->wpAny (model prog w) A.in1 (Builtin.SmallTypes.nextOf (.ref it)) Q' E' s)(hQ:∀h',Heap.ExtBut it s.heap h'->Q none { s with heap:=h' }):wpAny (model prog w) A (pyNext (.ref e)) Q E s:=by
 have ht:s.TypeIs (.ref e) "enumerate":=⟨_,he,rfl⟩
 unfold pyNext;refine z5 (c8 (m9 (name:=Str.ofString "__next__") ht F.slot_enumerate_next (r9 F.slot_enumerate_next ht F.entry_enumerate_next ?_ (F.args_enumerate_next_1 _))));refine z5 (m:=field (.ref e) 2) (n9 he rfl (x:=.ref it) rfl (z5 (hn _ _ λh' x hb hx=>?_)));obtain⟨o,ho,hc⟩:=hx;exact z5 (ZP (T:="StopIteration") (b:=true) ⟨o,ho,hc⟩ ZE (z7 (hQ _ hb)))
def yJ{e:Addr}{iter:Nat->Heap->Prop}(N:Inner P w K sq a it iter)(c:Nat)(hei:e≠it)(hea:e≠a)(hai:a≠it):
  Turn P w K (.Tuple elts kt tp) (Ite sq c) [e,it] e (λi h=>(∃old,IsEnum h e it ((c+i:Nat):Int) old)/\iter i h) where
 mem:=by simp
 obj:=λi h st b hb=>by
  simp only[y9,gM,n5]at hb;rcases hb with rfl|rfl
  ·obtain⟨old,q⟩:=st.1;exact⟨_,q,λv z=>by cases z⟩
  ·exact N.obj i h st.2
 keep:=λi h h' st k=>⟨st.1.imp λold q=>k e (by simp) _ q,N.at_ i h h' st.2 λo q=>k it (by simp) o q⟩
 item:=by
  intro X hP hw hK hc i pins s σ H E I hf st hg;obtain⟨xs,x,hq,hx⟩:=hg;obtain⟨⟨old,he⟩,hi⟩:=st;obtain⟨its,rv,hz,Pd,St,Dr,p1,p2,p3⟩:=N.dr X hP hw hK hc pins σ H s xs c I hq λ_ _=>hai;obtain⟨u,hu,ru⟩:=rv.get hx;have hil:i<its.length:=(tj.mp hu).1;have fe:=hf e (by simp);have fi:=hf it (by simp);subst hP hw;refine wpAny_pyNext_enum_itemD Dr he (p2 i _ hi (λ_ q=>q) hai) (by omega) hei (by simp only[y9,gM,n5,not_or];exact⟨hei,hea⟩) λy h1 tk hy ho hs1 ht hsz hk=>?_;have ey:y=u:=by have q:=p1 i y hy;rw[hu]at q;exact(vC q).symm
  subst ey;refine⟨_,rfl,wpAny_letOwnedTupleGo_enum ho λh2 he2 sb=>?_⟩;have helt:e<s.heap.objs.size:=xi he;have hpe:s.heap.objs.size≠e:=pZ helt;obtain⟨oi,hoi,_⟩:=N.obj i _ hi;have hpi:s.heap.objs.size≠it:=pZ (xi hoi);have hp:H s.heap.objs.size=none:=I.hok.fresh (z8 _);have Ia:Inv X pins σ (upd H s.heap.objs.size (.tup [.int ((c+i:Nat):Int),x])) { s with heap:=s.heap.push { cls:=.type "tuple",data:=.seq #[.int ((c+i:Nat):Int) tk,y] } }:=by refine I.laid (t':=s.toks) (λb o q=>z9 _ q) (z8 _) ?_;exact⟨by show 2<=sizeLine;decide,[.int ((c+i:Nat):Int) tk,y],.cons ⟨tk,rfl⟩ (.cons ru .nil),d3 _ _⟩
  have fe':lv X pins (upd H s.heap.objs.size (.tup [.int ((c+i:Nat):Int),x])) e:=⟨by rw[au (sj hpe)];exact fe.1,fe.2⟩
  have fi':lv X pins (upd H s.heap.objs.size (.tup [.int ((c+i:Nat):Int),x])) it:=⟨by rw[au (sj hpi)];exact fi.1,fi.2⟩
  have ht2:h2.get? s.heap.objs.size=some { cls:=.type "tuple",data:=.seq #[.int ((c+i:Nat):Int) tk,y] }:=(sb.2 _ hpe).trans ht;have Ib:Inv X pins σ (upd H s.heap.objs.size (.tup [.int ((c+i:Nat):Int),x])) { s with heap:=h2,toks:=tk+1 }:=by
   refine Ia.turned2 (t':=tk+1) (λb o n1 n2 q=>?_) fi' fe';by_cases z:b=s.heap.objs.size;·subst z;have q':=v7 s.heap (o:={ cls:=.type "tuple",data:=.seq #[.int ((c+i:Nat):Int) tk,y] }) rfl;have q:(s.heap.push { cls:=.type "tuple",data:=.seq #[.int ((c+i:Nat):Int) tk,y] }).get? s.heap.objs.size=some o:=q;rw[q']at q;rw[ht2];exact q
   ·have q:(s.heap.push { cls:=.type "tuple",data:=.seq #[.int ((c+i:Nat):Int) tk,y] }).get? b=some o:=q;have q2:s.heap.get? b=some o:=by
     rcases Nat.lt_or_ge b s.heap.objs.size with hb|hb;·exact zu hb q
     ·have hlt:b<(s.heap.push { cls:=.type "tuple",data:=.seq #[.int ((c+i:Nat):Int) tk,y] }).objs.size:=xi q;rw[n4]at hlt;exact absurd (Nat.le_antisymm (Nat.le_of_lt_succ hlt) hb) z
    exact(sb.2 b n2).trans (hk b o n2 n1 q2)
  refine⟨.ref s.heap.objs.size,_,Ib,rfl,⟨_,x,rfl,hp,rfl,λys hy'=>by rw[N.inj X hK pins σ H s ys xs I hy' hq];exact hx⟩,⟨⟨y,by have q:=he2;rw[show((c+(i+1):Nat):Int)=((c+i:Nat):Int)+1 by omega];exact q⟩,?_⟩,λb hb=>?_⟩;·refine N.at_ (i+1) h1 h2 (p3 (i+1) h1 hs1) λo q=>(sb.2 it (sj hei)).trans q
  ·simp only[y9,gM,n5]at hb;rcases hb with rfl|rfl;·exact fe'.1
   ·exact fi'.1
 done:=by intro X hP hw hK hc i pins s σ H E I hf st hg;obtain⟨xs,hq,hx⟩:=hg;obtain⟨⟨old,he⟩,hi⟩:=st;have fi:=hf it (by simp);have fin:=N.fin X hP hw hK hc pins σ H s xs i;subst hP hw;exact GD he (λQ' E' hE=>fin Q' E' I hq hx hi hE) λh' hb=>⟨rfl,I.turned (t':=s.toks) (λb o n q=>hb b o n q) fi.1 fi.2.1 fi.2.2.2.1 fi.2.2.2.2.1 fi.2.2.2.2.2⟩
 self:=λA i s Q E st h=>by obtain⟨⟨old,he⟩,_⟩:=st;exact ZQ he h
def yR(a it:Addr):Inner P w K (λH xs=>SqT K H a xs) a it (λi h=>h.IsTupleIter it a i) where
 obj:=λi h st=>let⟨o,q,c,d⟩:=st;⟨o,q,λv z=>by rw[d]at z;cases z⟩
 at_:=λi h h' st k=>st.at k
 inj:=λX hK pins σ H s xs ys I h1 h2=>by subst hK;exact I.tuple_inj h1 h2
 dr:=λX hP hw hK hc pins σ H s xs c I hq hne=>by
  subst hP hw hK;obtain⟨its,rv,p,hz⟩:=I.tuple hq;have hh:X.A.in1.handled=none:=I.ok.hd hc;by_cases hai:a=it;·exact⟨its,rv,hz,λ_ _=>False,λ_ _=>False,⟨λ_ _ z=>z.elim,λ_ _ _ z _=>z,λ_ _ _ _ _ z _=>z.elim,λ_ _ _ z _=>z.elim⟩,λ_ _ z=>z.elim,λ_ _ _ _ z=>absurd hai z,λ_ _ z=>z.elim⟩
  ·have Dq:=FM (prog:=X.prog) (w:=X.w) hh it a hai its.toArray c;rw[wg]at Dq;refine⟨its,rv,hz,λi v=>∃k,i=c+k/\its.toArray[k]?=some v,λi h=>∃k,i=c+k/\h.IsTupleIter it a k/\h.IsTuple a its.toArray,Dq,λk v q=>?_,λk h st kp _=>⟨k,rfl,st,?_⟩,λk h q=>?_⟩
   ·obtain⟨k',e,q⟩:=q;have:k=k':=by omega
    subst this;simpa using q
   ·obtain⟨o,ho,r⟩:=p;exact⟨o,kp o ho,r⟩
   ·obtain⟨k',e,st,_⟩:=q;have:k=k':=by omega
    subst this;exact st
 fin:=λX hP hw hK hc pins σ H s xs i Q E I hq hx st hE=>by subst hP hw hK;obtain⟨its,rv,p,hz⟩:=I.tuple hq;have hl:=rv.length;exact CK (I.ok.hd hc) st (show s.heap.IsTuple a its.toArray from p) (by simp;omega) hE
def qc(a it:Addr):Inner P w K (λH xs=>SqL K H a xs) a it (λi h=>h.IsListIter it a i) where
 obj:=λi h st=>let⟨o,q,c,d⟩:=st;⟨o,q,λv z=>by rw[d]at z;cases z⟩
 at_:=λi h h' st k=>st.at k
 inj:=λX hK pins σ H s xs ys I h1 h2=>by subst hK;exact I.list_inj h1 h2
 dr:=λX hP hw hK hc pins σ H s xs c I hq hne=>by
  subst hP hw hK;obtain⟨its,rv,p,hz⟩:=I.list hq;have hh:X.A.in1.handled=none:=I.ok.hd hc;by_cases hai:a=it;·exact⟨its,rv,hz,λ_ _=>False,λ_ _=>False,⟨λ_ _ z=>z.elim,λ_ _ _ z _=>z,λ_ _ _ _ _ z _=>z.elim,λ_ _ _ z _=>z.elim⟩,λ_ _ z=>z.elim,λ_ _ _ _ z=>absurd hai z,λ_ _ z=>z.elim⟩
  ·have Dq:=Hu (prog:=X.prog) (w:=X.w) hh it a hai its.toArray c;rw[wg]at Dq;refine⟨its,rv,hz,λi v=>∃k,i=c+k/\its.toArray[k]?=some v,λi h=>∃k,i=c+k/\h.IsListIter it a k/\h.IsList a its.toArray,Dq,λk v q=>?_,λk h st kp _=>⟨k,rfl,st,?_⟩,λk h q=>?_⟩
   ·obtain⟨k',e,q⟩:=q;have:k=k':=by omega
    subst this;simpa using q
   ·obtain⟨o,ho,r⟩:=p.isList;exact⟨o,kp o ho,r⟩
   ·obtain⟨k',e,st,_⟩:=q;have:k=k':=by omega
    subst this;exact st
 fin:=λX hP hw hK hc pins σ H s xs i Q E I hq hx st hE=>by subst hP hw hK;obtain⟨its,rv,p,hz⟩:=I.list hq;have hl:=rv.length;exact wpAny_nextOf_list_end (I.ok.hd hc) st p.isList (by simp;omega) hE
end
end L2
namespace L2
open PySem PySem.Spec PyProof.Rows
def cy(c:Nat)(xs:List D):List D:=(List.range xs.length).map λi=>.tup [.int ((c+i:Nat):Int),xs.getD i .non]
def pH{c:Nat}{xs:List D}{i:Nat}{d:D}(h:(cy c xs)[i]?=some d):∃x,xs[i]?=some x/\d=.tup [.int ((c+i:Nat):Int),x]:=by
 unfold cy at h;rw[u9]at h;by_cases hi:i<xs.length
 ·rw[YI hi]at h;refine⟨xs[i],vY hi,?_⟩;have e:xs.getD i .non=xs[i]:=by rw[v9,vY hi];rfl
  rw[<- e];exact(vC h).symm
 ·rw[o8 (by simp;omega)]at h;cases h
def lG(c:Nat)(xs:List D):(cy c xs).length=xs.length:=by simp[cy]
def ItOk.enum{K:PySem.W.Frag}{ds:List D}{c:Nat}(hs:∀G1 H1,Same G G1->Same G1 H1->sq H1 vs)(r:Reps K G vs ds):ItOk K G (Ite sq c) (cy c ds):=by intro i G1 H1 s1 s2;refine⟨λd e=>?_,λhl=>⟨vs,hs G1 H1 s1 s2,by rw[lG]at hl;rw[r.length];exact hl⟩⟩;obtain⟨dx,ex,rfl⟩:=pH e;obtain⟨v,ev,rv⟩:=r.get ex;refine⟨⟨vs,v,hs G1 H1 s1 s2,ev⟩,λx H' y=>?_⟩;obtain⟨p,x',rfl,hp,rfl,y⟩:=y;have z:=y vs (hs G1 H1 s1 s2);rw[ev]at z;cases z;refine⟨upd G1 p (.tup [.int ((c+i:Nat):Int),v]),.new s2 hp,.tup (.of ay) (.cons (.int _) (.cons ((rv.mono s1).mono (.into (s2.free hp))) .nil))⟩
section
variable{kt:Nat}{tp:Pos}{Rr:It->Hp->Prop}
def nF{l:Addr}{iter:Nat->Heap->Prop}{c:Nat}(I:Inv X pins σ H s)(N:Inner X.prog X.w X.K sq l (s.heap.objs.size) iter)(hl:l<s.heap.objs.size)(he:IsEnum h' (s.heap.objs.size+1) s.heap.objs.size (c:Int) .none)(hi:iter 0 h')(hk:∀b o,s.heap.get? b=some o->h'.get? b=some o)(q:Rr (Ite sq c) H):PIE X pins σ (.Tuple elts kt tp) Rr (.ref (s.heap.objs.size+1)) { s with heap:=h' }:=by
 have hlt:s.heap.objs.size<=s.heap.objs.size+1:=qO _;refine⟨_,_,_,_,H,rfl,I.kept (t':=s.toks) hk,yJ N c (pZ (g8 _)) (pZ (Zc hl)) (t9 hl),⟨⟨_,he⟩,hi⟩,λb hb=>?_,q⟩;simp only[y9,gM,n5]at hb;rcases hb with rfl|rfl;·exact I.fpOk hlt (I.hok.fresh hlt)
 ·exact I.fpOk (z8 _) (I.hok.fresh (z8 _))
def SqT.lt'(I:Inv X pins σ H s)(h:SqT X.K H a xs):a<s.heap.objs.size:=by obtain⟨its,rv,⟨o,q,_⟩,_⟩:=I.tuple h;exact xi q
def SqL.lt'(I:Inv X pins σ H s)(h:SqL X.K H a xs):a<s.heap.objs.size:=by obtain⟨its,rv,p,_⟩:=I.list h;obtain⟨o,q,_⟩:=p.isList;exact xi q
end
def yN:D->R (List D)
 |.lst _ xs=>.ok (cy 0 xs)
 |.tup xs=>.ok (cy 0 xs)
 |_=>.no
def BV:D->D->R (List D)
 |.tup xs,.int c=>if 0<=c/\c<1073741824 then .ok (cy c.toNat xs)else .no
 |_,_=>.no
section
variable{a b:Expr}{ga:Ev->R D}{kt:Nat}{tp kp:Pos}
def EL(hg:Gl X "enumerate")(hm:X.mg "enumerate"=none)(ha:PF X a ga)(hs:starEach [a] X.env=(false,eval a X.env)::starEach [] X.env:=by rfl):
  PIF X (.Tuple elts kt tp) (.Call (.Name "enumerate" p) [a] [] pos) (aq yN ga):=by
 intro pins s σ H Rr I h;obtain⟨G,ρ,st,h⟩:=h;have ta:mZ (tF X ga) Fj σ H (λvs H1=>∃v,vs=[v]/\∃G1 d,Up G H G1 H1/\Rep X.K G1 v d/\Same G1 H1/\(yN d).post (Fin G1 H1 (λG J items=>ItOk X.K G J items) Rr) (Exx X σ G1 H1)):=
  tG.intro st h λd v G1 H1 u1 st1 r1 h1=>⟨v,rfl,G1,d,u1,r1,st1.sub,h1⟩
 refine Call_ (kC I hg hm PyProof.Rows.Boot.«enumerate» (PyProof.Rows.callWith_type1 (thn ((bT ha gh hs) pos pins s σ H _ I ta) λus s1 ⟨vs,H1,I1,r1,q1⟩=>?_) hs rfl));obtain⟨v,hv,G1,d,u1,rd,sub,h1⟩:∃v,vs=[v]/\∃G1 d,Up G H G1 H1/\Rep X.K G1 v d/\Same G1 H1/\(yN d).post (Fin G1 H1 (λG J items=>ItOk X.K G J items) Rr) (Exx X σ G1 H1):=q1;subst hv;obtain⟨u,rfl,rv⟩:=r1.one;cases rd with
 |lst hq t=>cases rv;have hq':SqL X.K G1 _ _:=.of hq;obtain⟨its,rvs,p,hz⟩:=I1.list (hq'.mono sub);exact call_enumerate_list p.isList λh' he hi hsz hk=>ZQ he (nF (c:=0) I1 (qc _ _) (SqL.lt' I1 (hq'.mono sub)) he hi hk (h1 _ G1 H1 (.refl sub) (ItOk.enum (λG2 H2 s1 s2=>(hq'.mono s1).mono s2) t)))
 |fls hq t=>cases rv;obtain⟨its,rvs,p,hz⟩:=I1.list (hq.mono sub);exact call_enumerate_list p.isList λh' he hi hsz hk=>ZQ he (nF (c:=0) I1 (qc _ _) (SqL.lt' I1 (hq.mono sub)) he hi hk (h1 _ G1 H1 (.refl sub) (ItOk.enum (λG2 H2 s1 s2=>(hq.mono s1).mono s2) t)))
 |tup hq t=>cases rv;obtain⟨its,rvs,⟨⟨cls,dd,data,sl⟩,ho,hc,n,hd⟩,hz⟩:=I1.tuple (hq.mono sub);simp only at hc hd;subst hc hd;exact A9 ho λh' he hi hsz hk=>ZQ he (nF (c:=0) I1 (yR _ _) (SqT.lt' I1 (hq.mono sub)) he ⟨_,hi,rfl,rfl⟩ hk (h1 _ G1 H1 (.refl sub) (ItOk.enum (λG2 H2 s1 s2=>(hq.mono s1).mono s2) t)))
 |_=>exact h1.elim
def Gk(ga gb:Ev->R D):Ev->R (List D):=λρ=>ga ρ>>=λx=>gb ρ>>=λc=>BV x c
end
def Fi:List D->Option D
 | [.lst _ ds]=>match nv ds with
  |some ns=>some (.int ns.sum)
  |none=>none
 | [.tup ds]=>match nv ds with
  |some ns=>some (.int ns.sum)
  |none=>none
 |_=>none
theorem Vals.ints:∀{ns:List Int}{its:List Value},Vals (ns.map V.int) its->IntsAre its ns
 | [],_,.nil=>.nil
 |n::ns,_,.cons r t=>by obtain⟨tk,rfl⟩:=r;exact .cons n tk (Vals.ints t)
section
def qz{ns:List Int}(rv:Vals (ns.map V.int) its):∃xs:Array (Int×Tok),its.toArray=intItems xs/\preSum (numAt xs) xs.size=ns.sum:=by
 have hi:=Vals.ints rv;obtain⟨xs,hx⟩:=hi.allInts.items;have e1:ns=xs.toList.map (·.1):=by rw[<- nums_intItems,<- hx];exact(show numsOf its.toArray.toList=ns from hi.numsOf).symm
 exact⟨xs,hx,by rw[preSum_eq,ZR (by simp),e1]⟩
def xV(hc:X.calm=true):jf X (.builtin "sum") (λxs H Q=>∃p,∃ns:List Int,xs=[.ref p]/\(SqL X.K H p (ns.map V.int)\/SqT X.K H p (ns.map V.int))/\Q (.int ns.sum) H):=by
 intro pins s σ H xs us Q I r ⟨p,ns,ex,hs,q⟩;subst ex;obtain⟨u,rfl,r1⟩:=r.one;cases r1;rcases hs with hs|hs
 ·obtain⟨its,rv,pl,hz⟩:=I.list hs;obtain⟨xs,hx,e2⟩:=qz rv;refine sum_intListG (I.ok.hd hc) (hx▸pl.isList) λh' tk t' hk=>?_;rw[e2];exact⟨.int _,H,I.kept (t':=tk) hk,⟨_,rfl⟩,q⟩
 ·obtain⟨its,rv,pl,hz⟩:=I.tuple hs;obtain⟨xs,hx,e2⟩:=qz rv;have ht:s.heap.IsTuple p its.toArray:=pl;refine PySem.W.ktm_sumG (I.ok.hd hc) (hx▸ht) λh' tk t' hk=>?_;rw[e2];exact⟨.int _,H,I.kept (t':=tk) hk,⟨_,rfl⟩,q⟩
def DM(K:PySem.W.Frag):IQ K (λxs H Q=>∃p,∃ns:List Int,xs=[.ref p]/\(SqL K H p (ns.map V.int)\/SqT K H p (ns.map V.int))/\Q (.int ns.sum) H) Fi:=by
 intro G H xs ds d Q s r e q;unfold Fi at e;split at e
 ·split at e;·rename_i ns hn;cases e;obtain⟨v,rfl,r1⟩:=r.one;obtain⟨a,vs,rfl,hs,rr⟩:=r1.seq_inv;obtain rfl:=rr.nums hn;exact⟨a,ns,rfl,.inl (hs.mono s),q _ G H (.refl s) (.int _)⟩
  ·cases e
 ·split at e;·rename_i ns hn;cases e;obtain⟨v,rfl,r1⟩:=r.one;obtain⟨a,vs,rfl,hs,rr⟩:=r1.tup_inv;obtain rfl:=rr.nums hn;exact⟨a,ns,rfl,.inr (hs.mono s),q _ G H (.refl s) (.int _)⟩
  ·cases e
 ·cases e
def KW{e:Expr}(hc:X.calm=true)(hg:Gl X "sum")(hm:X.mg "sum"=none)(ha:PFA X [e] gl)(he:starEach [e] X.env=(false,eval e X.env)::starEach [] X.env:=by rfl):
  PF X (.Call (.Name "sum" p) [e] [] pos) (gOf Fi gl):=nq (xV hc) (DM _) hg hm PyProof.Rows.Boot.«sum» ha (by decide) (by decide) he rfl
end
def J1(i j:Nat)(ga:Ev->R D)(gl:Ev->R (List D)):Ev->O:=λρ=>(ga ρ).out ρ λd=>(gl ρ).out ρ λds=>.nx ((ρ.set i (some (.val d))).set j (some (.own ds)))
def Inv.turnedL{σ:List (Option V)}{t':Nat}(I:Inv X pins σ H s)(k:∀b o,b∉ch->s.heap.get? b=some o->h'.get? b=some o)(f:∀b∈ch,lv X pins H b):
  Inv X pins σ H { s with heap:=h',toks:=t' }:=by
 have n1:∀b u,H b=some u->b∉ch:=λb u q z=>by rw[(f b z).1]at q;cases q
 refine I.step (g':=s.gens) (d':=s.drawn) (ch:=ch) (λb hb=>?_) (λb o _ _ hc q _=>k b o hc q) (λb o _ _ hc q _=>⟨o.slots,k b o hc q⟩) (λ_ _ _ _ n=>n) (λb o hc q=>⟨o,k b o hc q⟩) (λ_ _ q=>q) (λ_ _ _ q=>q) (λb ps q=>⟨#[],by rw[q];simp⟩) (λm hm=>?_) (λb u q=>?_) I.bare;·obtain⟨a0,a1,a2,a3,a4,a5⟩:=f b hb;exact⟨a3,a1,a4,a5⟩
 ·obtain⟨o,es,ep,ho,r⟩:=hm;exact⟨o,es,ep,k _ o (λz=>(f _ z).2.1 rfl) ho,r⟩
 ·refine(I.hok b u q).stay (λc v hc q'=>k c v ?_ q') (λ_ q'=>q') λ_ _ q'=>q';rcases hc with z|z;·rw[z];exact n1 b u q
  ·exact n1 c _ z
def IY:D->D->R D
 |.str x,.int k=>if k = -1 then .ok (.str x.reverse)else .no
 |.lst _ xs,.int k=>if k = -1 then .ok (.lst false xs.reverse)else .no
 |_,_=>.no
def Mc(ga gs:Ev->R D):Ev->R D:=λρ=>ga ρ>>=λx=>gs ρ>>=λk=>IY x k
noncomputable def uG(gt:Ev->R Bool)(g:Ev->O):Nat->Ev->O
 | 0,_=>.no
 |n+1,ρ=>(gt ρ).out ρ λk=>if k=true then (match g ρ with
  |.nx ρ2=>uG gt g n ρ2
  |.ct ρ2=>uG gt g n ρ2
  |.bk ρ2=>.nx ρ2
  |.rt d=>.rt d
  |.re d ρ2=>.re d ρ2
  |.ex C ρ2=>.ex C ρ2
  |.no=>.no)else .nx ρ
def FO(n:Nat)(gt:Ev->R Bool)(g:Ev->O):Ev->O:=λρ=>uG gt g n ρ
def wW(gs:List (Ev->R D))(ρ:Ev):D->R D
 |.int i=>if 0<=i then (match gs[i.toNat]? with
  |some g=>g ρ
  |none=>.no)else .no
 |_=>.no
def Jl(gs:List (Ev->R D))(gi:Ev->R D):Ev->R D:=λρ=>gi ρ>>=wW gs ρ
def HY{gs:List (Ev->R D)}{gi:Ev->R D}:Jl gs gi ρ=gi ρ>>=wW gs ρ:=rfl
def GJ{g:Ev->R D}{gs:List (Ev->R D)}:wW (g::gs) ρ (.int 0)=g ρ:=rfl
def Iw{f g:Ev->R D}{gs:List (Ev->R D)}:wW (f::g::gs) ρ (.int 1)=g ρ:=rfl
section
variable{a b:Expr}{ga:Ev->R D}
structure KTup(K:PySem.W.Frag)(c:Addr)(ls:List (List Nat)):Prop where
 ex:∃(o:Obj)(its:Array Value)(n:Nat)(vs:List V),K.lookup c=some o/\o.cls=.type "tuple"/\o.data=.seq its n/\its.size<=sizeLine/\Vals vs its.toList/\∀G,Reps K G vs (ls.map .str)
end
def MH(n:Nat):List Nat:=(Nat.toDigits 10 n).map Char.toNat
section
variable{a b c e e1 e2 e3 e4 e5:Expr}{ga gc g1 g2' g3' g4 g5:Ev->R D}
def MO:D->R D
 |.int i=>if 0<=i/\i<10000000000 then .ok (.str (MH i.toNat))else .no
 |.str x=>.ok (.str x)
 |_=>.no
def rZ:List (Ev->R D)->List Nat->Ev->R D
 | [],out=>λ_=>.ok (.str out)
 |g::gs,out=>λρ=>g ρ>>=λd=>match d with
  |.str x=>if (out++x).length<=sizeLine then rZ gs (out++x) ρ else .no
  |_=>.no
def Kl(gs:List (Ev->R D)):Ev->R D:=rZ gs []
end
def Ko(j i:Nat)(gl:Ev->R (List D)):Ev->O:=λρ=>(eW (gl (frz j ρ))).out ρ λds=>if ds.all (fl 10)=true then .nx (ρ.set i (some (.own ds)))else .no
section
variable{prog:Program}{w:World}{A:Around}
structure Z3(z TI TO i1 i2 i3 l1 l2 l3:Addr):Prop where
 nd:[z,TI,TO,i1,i2,i3].Nodup
 ap:∀l∈[l1,l2,l3],l∉[z,TO,i1,i2,i3]
end
def uJ(asg:D->Ev->R Ev)(gt:Ev->R Bool)(ge:Ev->R D):List D->Ev->R (List D)
 | [],_=>.ok []
 |d::ds,ρ=>eW (asg d ρ)>>=λρ1=>eW (gt ρ1)>>=λk=>if k=true then ge ρ1>>=λx=>uJ asg gt ge ds ρ1>>=λxs=>.ok (x::xs)else uJ asg gt ge ds ρ1
def H8(gi:Ev->R (List D))(ix:List Nat)(gt:Ev->R Bool)(ge:Ev->R D):Ev->R (List D):=λρ=>gi ρ>>=λitems=>if items.length<=sizeLine then uJ (gO 0) gt ge items (fI ix ρ)else .no
section
variable{a b c e ix:Expr}{ga gi:Ev->R D}{p1 p2 p3 pl sp:Pos}
def GK(c:Nat):List Nat->Option (List Nat×List Nat)
 | []=>none
 |d::r=>if d=c then some ([],r)else (GK c r).map λp=>(d::p.1,p.2)
def Eg(c:Nat)(x:List Nat):List Nat×List Nat×List Nat:=match GK c x with
 |some (p,q)=>(p,[c],q)
 |none=>(x,[],[])
def KS:D->List D->Option D
 |.str x,[.str [c]]=>if x.length<=10000 then some (.tup [.str (Eg c x).1,.str (Eg c x).2.1,.str (Eg c x).2.2])else none
 |_,_=>none
def Fs{f g h:Ev->R D}{gs:List (Ev->R D)}:wW (f::g::h::gs) ρ (.int 2)=h ρ:=rfl
end
structure ClOk(N:List Str)(scope:Scope)(cl:List (Str×Addr))(σ:St)(H:Hp)(h:Heap):Prop where
 kind:scope.kind=.function
 nocell:∀y∈scope.names,y.2≠.cell
 inj:∀y z c,cl.lookup y=some c->cl.lookup z=some c->y=z
 has:∀y,scope.names.lookup y=some .free->∃c,cl.lookup y=some c
 cell:∀y c,cl.lookup y=some c->H c=none/\∃v,h.IsCell c v
 val:∀(i:Nat) y v,N[i]?=some y->σ[i]?=some (some v)->∃u c,RelV v u/\scope.names.lookup y=some .free/\cl.lookup y=some c/\h.IsCell c (some u)
 len:σ.length=N.length
section
variable{params:Arguments}{body:Expr}{c P:Addr}{ps:Array Value}{Q:Value->Shared->Prop}
structure Lam(X:Cx)(pins:List (Addr×Obj))(σ:St)(H:Hp)(s:Shared)(params:Arguments)(body:Expr)(scope:Scope)(f:Addr)(cd ctv pm:Value)(H1:Hp)(s1:Shared):Prop where
 inv:Inv X pins σ H1 s1
 hh:Same H H1
 new:∀a,H a=none->H1 a=none\/s.heap.objs.size<=a
 free:H1 f=none
 fn:s1.heap.get? f=some { cls:=.type "function",data:=.func (PySem.W.kla_fn "<lambda>" (X.env.qual++"<lambda>") params body scope (mU X.env scope.names []) pm cd ctv) }
 codeH:∃c o vs t u,cd=.ref c/\H1 c=some (.frz o u)/\o.data=.fields vs/\vs[1]?=some (.str (X.env.qual++"<lambda>") t)
end
structure FnFH(P:Program)(w:World)(K:PySem.W.Frag)(mg:Str->Option Value)(base:Heap)(k:Nat)(f:Addr)(fd:FuncData)(ps:List Str)(g:List D->R D):Prop where
 run:∀(A:Around)(x:Addr)(outer:List Env)(s:Shared)(H:Hp)(args:Args)(us:List Value)(vs:List V)(Q:VK)(E:XK),Room k A->Env0 P w K mg base A outer s H->BindsTo s fd args (ps.zip us)->Vals vs us->(vs.length=ps.length/\spF K g vs H Q E)->
  codeAny (model P w) (A.mark (some (.ref x))) (.call (.ref f) args) (CR (CXo P w) outer P w H s Q E) s
structure CalleeH(P:Program)(w:World)(K:PySem.W.Frag)(mg:Str->Option Value)(base:Heap)(x:Str)(k n:Nat)(g:List D->R D):Prop where
 ex:∃f fd ps,FnFH P w K mg base k f fd ps g/\mg x=some (.ref f)/\PySem.W.keepIn K (.ref f)=true/\Binds K fd ps []/\ps.length=n
noncomputable def Hx(P:Program)(w:World)(K:PySem.W.Frag)(mg:Str->Option Value)(base:Heap)(k:Nat)(s1:Shared)(G1 H1:Hp)(f:Addr)(m:R D):Prop:=
 ∀(Y:Cx)(pins:List (Addr×Obj))(σY:St)(G2 H2:Hp)(s2:Shared)(fs:List Addr)(Q:VK),Y.prog=P->Y.w=w->Y.K=K->Y.mg=mg->Y.base=base->Inv Y pins σY H2 s2->Room k Y.A->Un fs [] H1 H2 s1.heap s2.heap->Up G1 H1 G2 H2->
  m.post (Fin G2 H2 (Rep Y.K) Q) (Exx Y σY G2 H2)->(∃o fd,s2.heap.get? f=some o/\o.data=.func fd)/\wpAny (model Y.prog Y.w) Y.A (call (.ref f) []) (EP Y pins σY Q) Y.xe s2
structure Told(P:Program)(w:World)(K:PySem.W.Frag)(mg:Str->Option Value)(base:Heap)(x:Str)(k j:Nat)(g:R D->R D):Prop where
 ex:∃ft,mg x=some (.ref ft)/\PySem.W.keepIn K (.ref ft)=true/\∀(A:Around)(outer:List Env)(s1:Shared)(G1 H1:Hp)(f:Addr)(m:R D)(Q:VK)(E:XK),Room k A->Env0 P w K mg base A outer s1 H1->Same G1 H1->Hx P w K mg base j s1 G1 H1 f m->
  (g m).post (Fin G1 H1 (Rep K) Q) (λC=>∀G' H',Up G1 H1 G' H'->E (.ref C) none H')->codeAny (model P w) A (.call (.ref ft) ⟨[.ref f],[]⟩) (CR (CXo P w) outer P w H1 s1 Q E) s1
structure LamAt(X:Cx):Prop where
 ex:∃c P q,X.env.code=.ref c/\(∀h,X.K.In h->PySem.W.CodeHd h c P)/\IU X.base P q/\q=X.env.qual++"<lambda>"/\X.base.BuiltinsAt X.mg P/\mainGlobals≠P
structure LamOk(X:Cx)(scope:Scope)(N':List Str)(ix:List Nat):Prop where
 kind:scope.kind=.function
 co:scope.isCoroutine=false
 gen:scope.isGenerator=false
 cell:∀y∈scope.names,y.2≠.cell
 fr:∀y∈scope.names,y.2=.free->X.env.kindOf y.1=some .cell
 tl:N'=ix.map λ(i:Nat)=>X.N.getD i Str.empty
 lt:∀i∈ix,i<X.N.length
 fre:∀y∈N',scope.names.lookup y=some .free/\(y,NameKind.free)∈scope.names
structure LamDef(K:PySem.W.Frag)(mg:Str->Option Value)(fd:FuncData)(Pt:Addr):Prop where
 ex:∃c,fd.code=.ref c/\∀h,K.In h->PySem.W.CodeHd h c Pt
 ne:mainGlobals≠Pt
structure LamB(K:PySem.W.Frag)(mg:Str->Option Value)(base:Heap)(qual:Str)(fd:FuncData)(Pt:Addr):Prop where
 ld:LamDef K mg fd Pt
 tb:IU base Pt (qual++".<locals>."++"<lambda>")
 bm:base.BuiltinsAt mg Pt
def hid(H:Hp)(ow:jb):Hp:=λa=>if (ow a).isSome=true then none else H a
def Au{o:HO}(h:hid H ow a=some o):H a=some o/\ow a=none:=by
 unfold hid at h;split at h;·cases h
 ·rename_i q;exact⟨h,by cases e:ow a with|none=>rfl|some t=>rw[e]at q;exact absurd rfl q⟩
def iz{t:Nat×Nat}(h:ow a=some t):hid H ow a=none:=by unfold hid;rw[h];exact if_pos rfl
def ig(h:ow a=none):hid H ow a=H a:=by unfold hid;rw[h];exact if_neg (by simp)
def DF(H:Hp)(ow:jb):Same (hid H ow) H:=λa o e=>(Au e).1
def rK(i j:Nat)(ow:jb):jb:=λa=>match ow a with
 |some (i',t)=>if i'=i then some (j,t)else none
 |none=>none
def oH{i:Nat}{t:Nat}(h:ow a=some (i,t)):rK i j ow a=some (j,t):=by unfold rK;rw[h];exact if_pos rfl
def Ac{i:Nat}{t:Nat×Nat}(h:rK i j ow a=some t):ow a=some (i,t.2)/\t.1=j:=by
 unfold rK at h;split at h
 ·rename_i i' t' e;split at h;·rename_i z;subst z;cases h;exact⟨e,rfl⟩
  ·cases h
 ·cases h
section
variable{K:PySem.W.Frag}{H₀:Hp}{i:Nat}{m:Bool}{p:Addr}{fs:List (Nat×Fd)}
def FdAt.hid{m':Bool}:∀{fd:Fd}{v:V},FdAt K H₀ G H ow i m k fd v->FdAt K (L2.hid H ow) G H ow i m' k fd v
 |.val d,v,r=>r
 |.own ds,v,⟨l,ws,e,h1,h2,h3,h4,h5⟩=>⟨l,ws,e,h1,h2,λ_=>iz h5,h4,h5⟩
 |.dic _,v,⟨l,ws,e,h1,h2,h3,h4,h5⟩=>⟨l,ws,e,h1,h2,λ_=>iz h5,h4,h5⟩
theorem FdsAt.hid{m':Bool}:∀{fs:List (Nat×Fd)}{vs:List (Str×V)},FdsAt K H₀ G H ow i m fs vs->FdsAt K (L2.hid H ow) G H ow i m' fs vs
 |_,_,.nil=>.nil
 |_,_,.cons h nk r t=>.cons h nk (FdAt.hid r) (FdsAt.hid t)
def InsAt.hid(h:InsAt K H₀ G H ow i m C p fs)(m':Bool):InsAt K (L2.hid H ow) G H ow i m' C p fs:=by obtain⟨dx,vs,h1,h2,h3,h4,h5,h6,h7,h8⟩:=h;exact⟨dx,vs,h1,h2,h3,h4,λ_=>⟨iz h6,iz h7⟩,h6,h7,h8.hid⟩
def DcoAt.hid(h:DcoAt K H₀ G H ow i m p fs)(m':Bool):DcoAt K (L2.hid H ow) G H ow i m' p fs:=
 let⟨o,xs,ks,ds,h1,h2,h3,h4,h5,h6,h7⟩:=h
 ⟨o,xs,ks,ds,h1,h2,λ_=>iz h4,h4,h5,h6,h7⟩
def ObjAt.hid(h:ObjAt K H₀ G H ow i m C p fs)(m':Bool):ObjAt K (L2.hid H ow) G H ow i m' C p fs:=h.imp (λz=>⟨z.1,z.2.hid m'⟩) λz=>⟨z.1,z.2.hid m'⟩
def FdAt.ro{H₀':Hp}:∀{fd:Fd}{v:V},FdAt K H₀ G H ow i m k fd v->FdAt K H₀' G H ow i false k fd v
 |.val d,v,r=>r
 |.own ds,v,⟨l,ws,e,h1,h2,h3,h4,h5⟩=>⟨l,ws,e,h1,h2,λz=>absurd z (by decide),h4,h5⟩
 |.dic _,v,⟨l,ws,e,h1,h2,h3,h4,h5⟩=>⟨l,ws,e,h1,h2,λz=>absurd z (by decide),h4,h5⟩
theorem FdsAt.ro{H₀':Hp}:∀{fs:List (Nat×Fd)}{vs:List (Str×V)},FdsAt K H₀ G H ow i m fs vs->FdsAt K H₀' G H ow i false fs vs
 |_,_,.nil=>.nil
 |_,_,.cons h nk r t=>.cons h nk (FdAt.ro r) (FdsAt.ro t)
def InsAt.ro(h:InsAt K H₀ G H ow i m C p fs)(H₀':Hp):InsAt K H₀' G H ow i false C p fs:=by obtain⟨dx,vs,h1,h2,h3,h4,h5,h6,h7,h8⟩:=h;exact⟨dx,vs,h1,h2,h3,h4,λz=>absurd z (by decide),h6,h7,h8.ro⟩
def DcoAt.ro(h:DcoAt K H₀ G H ow i m p fs)(H₀':Hp):DcoAt K H₀' G H ow i false p fs:=
 let⟨o,xs,ks,ds,h1,h2,h3,h4,h5,h6,h7⟩:=h
 ⟨o,xs,ks,ds,h1,h2,λz=>(nomatch z),h4,h5,h6,h7⟩
def ObjAt.ro(h:ObjAt K H₀ G H ow i m C p fs)(H₀':Hp):ObjAt K H₀' G H ow i false C p fs:=h.imp (λz=>⟨z.1,z.2.ro H₀'⟩) λz=>⟨z.1,z.2.ro H₀'⟩
end
def dL(m:Bool)(C p:Addr)(fs:List (Nat×Fd))(n:Nat)(ds:List D):Ev:=some (.obj m C p fs)::(ds.map (λd=>some (.val d))++List.replicate (n - (ds.length+1)) none)
def qk{K:PySem.W.Frag}{H₀:Hp}{m:Bool}{p:Addr}{fs:List (Nat×Fd)}{N:List Str}{us:List V}{ds:List D}(sub0:Same G H₀)(up:Up G H₀ G H)(r:Reps K G us ds)(ob:ObjAt K H₀ G H ow 0 m C p fs):
  StR K G H₀ G H (start N (.ref p::us)) (dL m C p fs N.length ds):=by
 have hl:=r.length;have get:∀(i:Nat) x,(dL m C p fs N.length ds)[i]?=some (some x)->(i=0/\x=.obj m C p fs)\/∃k d,i=k+1/\ds[k]?=some d/\x=.val d:=λi x e=>by
  cases i with
  |zero=>left;cases e;exact⟨rfl,rfl⟩
  |succ k=>
   right;unfold dL at e;rw[List.getElem?_cons_succ]at e;by_cases hi:k<ds.length
   ·rw[qq (by simpa using hi),u9]at e;cases q:ds[k]? with
    |none=>rw[q]at e;cases e
    |some d=>rw[q]at e;cases e;exact⟨k,d,rfl,q,rfl⟩
   ·rw[pT (by simpa using hi),lE]at e;split at e <;> cases e
 have obs:ObSt K H₀ G H (start N (.ref p::us)) (dL m C p fs N.length ds):=by
  refine⟨ow,λi es l e=>?_,λi m' C' p' fs' e=>?_⟩;·rcases get i _ e with⟨_,z⟩|⟨k,d,_,_,z⟩ <;> cases z
  ·rcases get i _ e with⟨rfl,z⟩|⟨k,d,_,_,z⟩;·cases z;exact⟨rfl,ob⟩
   ·cases z
 refine⟨⟨up.sub,?_,λi d e=>?_,obs.rd⟩,sub0,up,λi es e=>?_,λi j es fs l e=>?_,obs⟩;·simp[start,dL,hl]
 ·rcases get i _ e with⟨_,z⟩|⟨k,d',rfl,e',z⟩;·cases z
  ·cases z;obtain⟨v,ev,rv⟩:=r.get e';refine⟨v,?_,rv⟩;unfold start;rw[w8,Yn,List.getElem?_cons_succ,qq (by have:=(tj.mp ev).1;simpa using this),u9,ev];rfl
 ·rcases get i _ e with⟨_,z⟩|⟨k,d,_,_,z⟩ <;> cases z
 ·rcases get i _ e with⟨_,z⟩|⟨k,d,_,_,z⟩ <;> cases z
inductive RM where
 |ok (d:D) (fs:List (Nat×Fd))|rd (d:D)|ex (C:Addr)|no
abbrev MF:=List (Nat×Fd)->List D->RM
noncomputable def qE(C:Addr)(g:Ev->O)(n:Nat)(F:MF):Prop:=∀p fs ds,match F fs ds with
 |.ok d fs'=>∃ρ',ρ'[0]?=some (some (.obj true C p fs'))/\(g (dL true C p fs n ds)=.re d ρ'\/(g (dL true C p fs n ds)=.nx ρ'/\d=.non))
 |.rd d=>g (dL false C p fs n ds)=.rt d
 |.ex E=>∃ρ',g (dL false C p fs n ds)=.ex E ρ'
 |.no=>True
noncomputable def spM(K:PySem.W.Frag)(C:Addr)(F:MF):Sp:=λvs H Q E=>∃G p us ds fs ow,vs=.ref p::us/\Reps K G us ds/\Same G H/\(∀a t,ow a=some t->G a=none)/\ObjAt K (λ_=>none) G H ow 0 true C p fs/\match F fs ds with
 |.ok d fs'=>∀v G' H' ow',Up G (hid H ow) G' H'->ObjAt K (hid H ow) G' H' ow' 0 true C p fs'->Rep K G' v d->Q v H'
 |.rd d=>∀v G' H',Up G H G' H'->Rep K G' v d->Q v H'
 |.ex C'=>∀G' H',Up G H G' H'->E (.ref C') none H'
 |.no=>False
abbrev FnM(P:Program)(w:World)(K:PySem.W.Frag)(mg:Str->Option Value)(base:Heap)(k:Nat)(f:Addr)(fd:FuncData)(ps:List Str)(C:Addr)(F:MF):Prop:=FnOk P w K mg base (CXo P w) k f fd ps (λvs H Q E=>vs.length=ps.length/\spM K C F vs H Q E)
def GP(sub:Same G H)(hg:∀a t,ow a=some t->G a=none):Same G (hid H ow)/\Up G (hid H ow) G H:=by
 have s:Same G (hid H ow):=λa o e=>by
  cases q:ow a with
  |none=>rw[ig q];exact sub a o e
  |some t=>rw[hg a t q]at e;cases e
 exact⟨s,sub,.refl _,DF H ow,λ_ _ e=>.inl e⟩
def Fun.okM{w:World}{K:PySem.W.Frag}{mg:Str->Option Value}{base:Heap}{st:Stmt}{N:List Str}{F:MF}(Fn:Fun K x qual st f fd)(S:FnScope N ps (ah st)){g:Ev->O}(ok:qE C g N.length F)(hbody:∀(cdv:Value)(A:Around)(outer:List Env)(s:Shared)(H:Hp)(E:XK),Room k (A.deeper (envOfC qual (ah st) s.heap.objs.size f cdv))->lR (fE (CXo P w) P w K mg base N qual (ah st) f cdv A outer s H E) (bu st) g):
  FnM P w K mg base (k+1) f fd ps C F:=by
 obtain⟨oc,od,kV,doc,pm,an,cdv,ct,osl,rfl,lk,hcd⟩:=Fn.ex;refine DB lk hcd S (λvs H Q E h=>h.1) λA outer s H vs Q E hr hsp=>?_;obtain⟨hl,G,p,us,ds,fs,ow,rfl,r,sub,og,ob,h⟩:=hsp;have o:=ok p fs ds;have rdo:StR K G H G H (start N (.ref p::us)) (dL false C p fs N.length ds):=qk sub (.refl sub) r (ob.ro H);cases q:F fs ds with
 |no=>rw[q]at h;exact h.elim
 |rd d=>rw[q]at h o;refine⟨_,hbody cdv A outer s H E hr G H,G,_,rdo,?_⟩;have o:g (dL false C p fs N.length ds)=.rt d:=o;rw[o];exact λv G' H' u rv=>h v G' H' u rv
 |ex C'=>rw[q]at h o;obtain⟨ρ',o⟩:=o;refine⟨_,hbody cdv A outer s H E hr G H,G,_,rdo,?_⟩;rw[o];exact λe s' fl=>oS fl h
 |ok d fs'=>
  rw[q]at h o;obtain⟨ρ',e0,o⟩:=o;obtain⟨s0,u0⟩:=GP sub og;refine⟨_,hbody cdv A outer s H E hr G (hid H ow),G,dL true C p fs N.length ds,qk s0 u0 r (ob.hid true),?_⟩;have fin:∀σ G' H',StR K G (hid H ow) G' H' σ ρ'->∃ow',ObjAt K (hid H ow) G' H' ow' 0 true C p fs':=λσ G' H' sr=>by obtain⟨ow',_,o2⟩:=sr.ob;exact⟨ow',(o2 0 true C p fs' e0).2⟩
  rcases o with o|⟨o,rfl⟩;·rw[o];intro v σ G' H' sr rv;obtain⟨ow',z⟩:=fin σ G' H' sr;exact h v G' H' ow' sr.up z rv
  ·rw[o];intro σ G' H' sr;obtain⟨ow',z⟩:=fin σ G' H' sr;exact h .non G' H' ow' sr.up z .non
def lO(i:Nat)(m:Bool)(H₀ G H:Hp)(ow:jb):jb:=λa=>open Classical in if (∃o,H a=some o)/\G a=none/\(m=true->H₀ a=none)then rK i 0 ow a else none
section
variable{K:PySem.W.Frag}{H₀:Hp}{i:Nat}{m:Bool}{p:Addr}{fs:List (Nat×Fd)}
def kU{t:Nat}{o:HO}(h:ow a=some (i,t))(e:H a=some o)(g:G a=none)(z:m=true->H₀ a=none):lO i m H₀ G H ow a=some (0,t):=by unfold lO;rw[if_pos ⟨⟨o,e⟩,g,z⟩];exact oH h
def lg{t:Nat×Nat}(h:lO i m H₀ G H ow a=some t):ow a=some (i,t.2)/\(∃o,H a=some o)/\G a=none/\(m=true->H₀ a=none):=by
 unfold lO at h;split at h;·rename_i q;exact⟨(Ac h).1,q⟩
 ·cases h
def FdAt.cut:∀{fd:Fd}{v:V},FdAt K H₀ G H ow i m k fd v->FdAt K (λ_=>none) G H (lO i m H₀ G H ow) 0 true k fd v
 |.val d,v,r=>r
 |.own ds,v,⟨l,ws,e,h1,h2,h3,h4,h5⟩=>⟨l,ws,e,h1,h2,λ_=>rfl,h4,kU h5 h1 h2 h3⟩
 |.dic _,v,⟨l,ws,e,h1,h2,h3,h4,h5⟩=>⟨l,ws,e,h1,h2,λ_=>rfl,h4,kU h5 h1 h2 h3⟩
theorem FdsAt.cut:∀{fs:List (Nat×Fd)}{vs:List (Str×V)},FdsAt K H₀ G H ow i m fs vs->FdsAt K (λ_=>none) G H (lO i m H₀ G H ow) 0 true fs vs
 |_,_,.nil=>.nil
 |_,_,.cons h nk r t=>.cons h nk (FdAt.cut r) (FdsAt.cut t)
def InsAt.cut(h:InsAt K H₀ G H ow i m C p fs):InsAt K (λ_=>none) G H (lO i m H₀ G H ow) 0 true C p fs:=by obtain⟨dx,vs,h1,h2,h3,h4,h5,h6,h7,h8⟩:=h;exact⟨dx,vs,h1,h2,h3,h4,λ_=>⟨rfl,rfl⟩,kU h6 h1 h3 λz=>(h5 z).1,kU h7 h2 h4 λz=>(h5 z).2,h8.cut⟩
def DcoAt.cut(h:DcoAt K H₀ G H ow i m p fs):DcoAt K (λ_=>none) G H (lO i m H₀ G H ow) 0 true p fs:=
 let⟨o,xs,ks,ds,h1,h2,h3,h4,h5,h6,h7⟩:=h
 ⟨o,xs,ks,ds,h1,h2,λ_=>rfl,kU h4 h1 h2 h3,h5,h6,h7⟩
def ObjAt.cut(h:ObjAt K H₀ G H ow i m C p fs):ObjAt K (λ_=>none) G H (lO i m H₀ G H ow) 0 true C p fs:=h.imp (λz=>⟨z.1,z.2.cut⟩) λz=>⟨z.1,z.2.cut⟩
end
section
variable{K:PySem.W.Frag}{H₀ H₀':Hp}{ow2:jb}{i:Nat}{p:Addr}
def FdAt.newtag(h:∀a t,ow a=some (0,t)->H₀ a=none->ow2 a=some (i,t))(z:∀a,H₀ a=none->H₀' a=none):∀{fd:Fd}{v:V},FdAt K H₀ G H ow 0 true k fd v->FdAt K H₀' G H ow2 i true k fd v
 |.val d,v,r=>r
 |.own ds,v,⟨l,ws,e,h1,h2,h3,h4,h5⟩=>⟨l,ws,e,h1,h2,λ_=>z l (h3 rfl),h4,h l _ h5 (h3 rfl)⟩
 |.dic _,v,⟨l,ws,e,h1,h2,h3,h4,h5⟩=>⟨l,ws,e,h1,h2,λ_=>z l (h3 rfl),h4,h l _ h5 (h3 rfl)⟩
theorem FdsAt.newtag(h:∀a t,ow a=some (0,t)->H₀ a=none->ow2 a=some (i,t))(z:∀a,H₀ a=none->H₀' a=none):∀{fs:List (Nat×Fd)}{vs:List (Str×V)},FdsAt K H₀ G H ow 0 true fs vs->FdsAt K H₀' G H ow2 i true fs vs
 |_,_,.nil=>.nil
 |_,_,.cons k nk r t=>.cons k nk (FdAt.newtag h z r) (FdsAt.newtag h z t)
def InsAt.newtag{fs:List (Nat×Fd)}(h:∀a t,ow a=some (0,t)->H₀ a=none->ow2 a=some (i,t))(z:∀a,H₀ a=none->H₀' a=none)(o:InsAt K H₀ G H ow 0 true C p fs):InsAt K H₀' G H ow2 i true C p fs:=by obtain⟨dx,vs,h1,h2,h3,h4,h5,h6,h7,h8⟩:=o;exact⟨dx,vs,h1,h2,h3,h4,λ_=>⟨z p (h5 rfl).1,z dx (h5 rfl).2⟩,h p _ h6 (h5 rfl).1,h dx _ h7 (h5 rfl).2,h8.newtag h z⟩
def DcoAt.newtag{fs:List (Nat×Fd)}(h:∀a t,ow a=some (0,t)->H₀ a=none->ow2 a=some (i,t))(z:∀a,H₀ a=none->H₀' a=none)(o:DcoAt K H₀ G H ow 0 true p fs):DcoAt K H₀' G H ow2 i true p fs:=
 let⟨o,xs,ks,ds,h1,h2,h3,h4,h5,h6,h7⟩:=o
 ⟨o,xs,ks,ds,h1,h2,λ_=>z p (h3 rfl),h p 0 h4 (h3 rfl),h5,h6,h7⟩
def ObjAt.newtag{fs:List (Nat×Fd)}(h:∀a t,ow a=some (0,t)->H₀ a=none->ow2 a=some (i,t))(z:∀a,H₀ a=none->H₀' a=none)(o:ObjAt K H₀ G H ow 0 true C p fs):ObjAt K H₀' G H ow2 i true C p fs:=o.imp (λy=>⟨y.1,y.2.newtag h z⟩) λy=>⟨y.1,y.2.newtag h z⟩
end
def StR.meth{K:PySem.W.Frag}{H₀ G':Hp}{i:Nat}{p:Addr}{fs:List (Nat×Fd)}{ow':jb}(s:StR K G₀ H₀ G H σ ρ)(e:ρ[i]?=some (some (.obj true C p fs)))(o1:∀(j:Nat) ds l,ρ[j]?=some (some (.own ds))->σ[j]?=some (some (.ref l))->ow l=some (j,0))(o2:∀(j:Nat) m C p fs,ρ[j]?=some (some (.obj m C p fs))->σ[j]?=some (some (.ref p))/\ObjAt K H₀ G H ow j m C p fs)(u:Up G (hid H (lO i true H₀ G H ow)) G' H')(ob:ObjAt K (hid H (lO i true H₀ G H ow)) G' H' ow' 0 true C p fs'):StR K G₀ H₀ G' H' σ (ρ.set i (some (.obj true C p fs'))):=by
 have hl:i<ρ.length:=(tj.mp e).1;have get:∀(j:Nat) x,(ρ.set i (some (.obj true C p fs')))[j]?=some (some x)->(j=i/\x=.obj true C p fs')\/(j≠i/\ρ[j]?=some (some x)):=λj x h=>by
  by_cases z:i=j;·subst z;rw[su hl]at h;exact .inl ⟨rfl,by injection (vC h)with q;exact q.symm⟩
  ·rw[rG z]at h;exact .inr ⟨λq=>z q.symm,h⟩
 have keep:∀a o,H a=some o->lO i true H₀ G H ow a=none->H' a=some o:=λa o q n=>u.hh a o (by rw[ig n];exact q);have out0:∀a,H₀ a≠none->lO i true H₀ G H ow a=none:=λa q=>by
  cases z:lO i true H₀ G H ow a with
  |none=>rfl
  |some t=>exact absurd ((lg z).2.2.2 rfl) q
 have outT:∀a j t,j≠i->ow a=some (j,t)->lO i true H₀ G H ow a=none:=λa j t nj q=>by
  cases z:lO i true H₀ G H ow a with
  |none=>rfl
  |some t'=>have:=(lg z).1;rw[q]at this;cases this;exact absurd rfl nj
 have gn:∀a o,H a=some o->G a=none->lO i true H₀ G H ow a=none->G' a=none:=λa o q g n=>by
  cases z:G' a with
  |none=>rfl
  |some o'=>
   rcases u.fr a o' z with z|z;·rw[g]at z;cases z
   ·rw[ig n,q]at z;cases z
 have up:Up G₀ H₀ G' H':=by
  refine⟨u.sub,s.up.gg.trans u.gg,λa o q=>keep a o (s.up.hh a o q) (out0 a (by rw[q];simp)),λa o q=>?_⟩;rcases u.fr a o q with z|z;·exact s.up.fr a o z
  ·by_cases n:lO i true H₀ G H ow a=none;·rw[ig n]at z;exact .inr (s.up.hh.free z)
   ·cases y:lO i true H₀ G H ow a with
    |none=>exact absurd y n
    |some t=>exact .inr ((lg y).2.2.2 rfl)
 have ob':ObSt K H₀ G' H' σ (ρ.set i (some (.obj true C p fs'))):=by
  refine⟨λa=>open Classical in if hid H (lO i true H₀ G H ow) a=none then rK 0 i ow' a else ow a,λj ds l h1 h2=>?_,λj m' C' p' fs'' h1=>?_⟩
  ·rcases get j _ h1 with⟨_,z⟩|⟨nj,f1⟩;·cases z
   ·have ol:=o1 j ds l f1 h2;obtain⟨l2,vs,q1,q2,_⟩:=s.own j ds f1;rw[h2]at q1;cases q1;have n:=outT l j 0 nj ol;refine(if_neg ?_).trans ol;rw[ig n,q2];simp
  ·rcases get j _ h1 with⟨rfl,z⟩|⟨nj,f1⟩
   ·cases z;refine⟨(o2 j true C p fs e).1,?_⟩;refine ob.newtag (λa t q n=>(if_pos n).trans (oH q)) λa n=>?_;by_cases y:lO j true H₀ G H ow a=none;·rw[ig y]at n;exact s.up.hh.free n
    ·cases y':lO j true H₀ G H ow a with
     |none=>exact absurd y' y
     |some t=>exact(lg y').2.2.2 rfl
   ·refine⟨(o2 j m' C' p' fs'' f1).1,(o2 j m' C' p' fs'' f1).2.keep ⟨λa t o q1 q=>keep a o q (outT a j t nj q1),u.gg,λa t o q1 q n=>gn a o q n (outT a j t nj q1),λa t o q1 q=>?_,λa o _ _ n=>n⟩⟩;refine(if_neg ?_).trans q1;rw[ig (outT a j t nj q1),q];simp
 refine⟨⟨u.sub,by simp[s.e.len],λj d h=>?_,ob'.rd⟩,s.sub0,up,λj ds h=>?_,λj k ds es l q1 q2 q3 q4=>?_,ob'⟩
 ·rcases get j _ h with⟨_,z⟩|⟨_,f1⟩;·cases z
  ·obtain⟨v,p1,p2⟩:=s.e.val j d f1;exact⟨v,p1,p2.mono u.gg⟩
 ·rcases get j _ h with⟨_,z⟩|⟨nj,f1⟩;·cases z
  ·obtain⟨l,vs,p1,p2,p3,p4,p5⟩:=s.own j ds f1;have n:=outT l j 0 nj (o1 j ds l f1 p1);exact⟨l,vs,p1,keep l _ p2 n,gn l _ p2 p3 n,p4,p5.mono u.gg⟩
 ·rcases get j _ q1 with⟨_,z⟩|⟨nj,f1⟩;·cases z
  ·rcases get k _ q2 with⟨_,z⟩|⟨nk,f2⟩;·cases z
   ·exact s.inj j k ds es l f1 f2 q3 q4
end L2
variable{I_offer_with_order:L2.MF}
namespace L2
open PySem PySem.Spec PyProof.Rows
def qV(k:Nat)(fd:Fd):List (Nat×Fd)->List (Nat×Fd)
 | []=>[(k,fd)]
 | (j,x)::r=>if j=k then (j,fd)::r else (j,x)::qV k fd r
def StR.objTo{K:PySem.W.Frag}{H₀:Hp}{i:Nat}{p:Addr}{fs:List (Nat×Fd)}{ow2:jb}(s:StR K G₀ H₀ G H σ ρ)(e:ρ[i]?=some (some (.obj true C p fs)))(o1:∀(j:Nat) ds l,ρ[j]?=some (some (.own ds))->σ[j]?=some (some (.ref l))->ow l=some (j,0))(o2:∀(j:Nat) m C p fs,ρ[j]?=some (some (.obj m C p fs))->σ[j]?=some (some (.ref p))/\ObjAt K H₀ G H ow j m C p fs)(hh:∀a o,H a=some o->(∀t,ow a≠some (i,t))->H' a=some o)(h0:Same H₀ H')(sub:Same G H')(oo:∀a j t o,j≠i->ow a=some (j,t)->H a=some o->ow2 a=some (j,t))(ob:ObjAt K H₀ G H' ow2 i true C p fs'):StR K G₀ H₀ G H' σ (ρ.set i (some (.obj true C p fs'))):=by
 have hl:i<ρ.length:=(tj.mp e).1;have get:∀(j:Nat) x,(ρ.set i (some (.obj true C p fs')))[j]?=some (some x)->(j=i/\x=.obj true C p fs')\/(j≠i/\ρ[j]?=some (some x)):=λj x h=>by
  by_cases z:i=j;·subst z;rw[su hl]at h;exact .inl ⟨rfl,by injection (vC h)with q;exact q.symm⟩
  ·rw[rG z]at h;exact .inr ⟨λq=>z q.symm,h⟩
 have ob':ObSt K H₀ G H' σ (ρ.set i (some (.obj true C p fs'))):=by
  refine⟨ow2,λj ds l h1 h2=>?_,λj m' C' p' fs'' h1=>?_⟩
  ·rcases get j _ h1 with⟨_,z⟩|⟨nj,f1⟩;·cases z
   ·obtain⟨l2,vs,q1,q2,_⟩:=s.own j ds f1;rw[h2]at q1;cases q1;exact oo l j 0 _ nj (o1 j ds l f1 h2) q2
  ·rcases get j _ h1 with⟨rfl,z⟩|⟨nj,f1⟩;·cases z;exact⟨(o2 j true C p fs e).1,ob⟩
   ·exact⟨(o2 j m' C' p' fs'' f1).1,(o2 j m' C' p' fs'' f1).2.keep ⟨λa t o q1 q=>hh a o q (λt' z=>by rw[q1]at z;cases z;exact nj rfl),.refl _,λa t o _ _ n=>n,λa t o q1 q=>oo a j t o nj q1 q,λa o _ _ n=>n⟩⟩
 refine⟨⟨sub,by simp[s.e.len],λj d h=>?_,ob'.rd⟩,s.sub0,⟨sub,s.up.gg,h0,s.up.fr⟩,λj ds h=>?_,λj k ds es l q1 q2 q3 q4=>?_,ob'⟩
 ·rcases get j _ h with⟨_,z⟩|⟨_,f1⟩;·cases z
  ·exact s.e.val j d f1
 ·rcases get j _ h with⟨_,z⟩|⟨nj,f1⟩;·cases z
  ·obtain⟨l,vs,p1,p2,p3,p4,p5⟩:=s.own j ds f1;exact⟨l,vs,p1,hh l _ p2 (λt z=>by rw[o1 j ds l f1 p1]at z;cases z;exact nj rfl),p3,p4,p5⟩
 ·rcases get j _ q1 with⟨_,z⟩|⟨nj,f1⟩;·cases z
  ·rcases get k _ q2 with⟨_,z⟩|⟨nk,f2⟩;·cases z
   ·exact s.inj j k ds es l f1 f2 q3 q4
def Cl(C:Addr)(ρ:Ev)(i:Nat):R (List (Nat×Fd)):=match ρ[i]? with
 |some (some (.obj _ C' _ fs))=>if C'=C then .ok fs else .no
 |_=>.no
def vQ(C:Addr)(ρ:Ev)(i:Nat):R (Addr×List (Nat×Fd)):=match ρ[i]? with
 |some (some (.obj true C' p fs))=>if C'=C then .ok (p,fs)else .no
 |_=>.no
def DY(fs:List (Nat×Fd))(k:Nat):R (List D):=match fs.lookup k with
 |some (.own ds)=>.ok ds
 |_=>.no
def GX(C:Addr)(i k:Nat)(gb:Ev->R D):Ev->R D:=λρ=>Cl C ρ i>>=λfs=>DY fs k>>=λds=>gb ρ>>=λd=>ofO (ixD (.lst false ds) d)
def DD(C:Addr)(i k:Nat):Ev->R D:=λρ=>Cl C ρ i>>=λfs=>DY fs k>>=λds=>.ok (.int ds.length)
def Jr(C:Addr)(i k:Nat)(ga:Ev->R D):Ev->O:=λρ=>(vQ C ρ i).out ρ λo=>(DY o.2 k).out ρ λds=>(ga ρ).out ρ λd=>if ds.length<sizeLine then .nx (ρ.set i (some (.obj true C o.1 (qV k (.own (ds++[d])) o.2))))else .no
def Jz(C:Addr)(i k:Nat)(gl:Ev->R (List D)):Ev->O:=λρ=>(vQ C ρ i).out ρ λo=>(gl ρ).out ρ λds=>if o.2.length<900 then .nx (ρ.set i (some (.obj true C o.1 (qV k (.own ds) o.2))))else .no
def Kx(ga:Ev->R D):Ev->O:=λρ=>(ga ρ).out ρ λd=>.re d ρ
structure CF(K:PySem.W.Frag)(C:Addr)(ks:List Nat):Prop where
 cl:Cls K C
 ne:C≠DC
 na:∀k∈ks,k<fnames.length/\IC K C (IL k)
def E3{H₀:Hp}{D:Ends}{i:Nat}{k:Addr×List (Nat×Fd)->O}(h:jN X G₀ H₀ D ((vQ C ρ i).out ρ k)):∃p fs,ρ[i]?=some (some (.obj true C p fs))/\jN X G₀ H₀ D (k (p,fs)):=by
 unfold vQ at h;split at h
 ·rename_i C' p fs e;by_cases z:C'=C;·subst z;rw[if_pos rfl]at h;exact⟨p,fs,e,h⟩
  ·rw[if_neg z]at h;exact h.elim
 ·exact h.elim
structure MCallee(P:Program)(w:World)(K:PySem.W.Frag)(mg:Str->Option Value)(base:Heap)(C:Addr)(mn:Str)(k n:Nat)(F:MF):Prop where
 ex:∃f fd ps,FnM P w K mg base k f fd ps C F/\Meth K C mn f/\Binds K fd ps []/\ps.length=n+1
section
variable{n:Nat}{p:Addr}{F:MF}{ds:List D}{fs:List (Nat×Fd)}{Q:VK}
def A4(M:FnM X.prog X.w X.K X.mg X.base k f fd ps C F)(hr:Room k X.A)(hb:Binds X.K fd ps [])(hl:ps.length=n+1)(I:Inv X pins σ H s)(r:Vals vs us)(rp:Reps X.K G vs ds)(hn:ds.length=n)(sub:Same G H)(og:∀a t,ow a=some t->G a=none)(ob:ObjAt X.K (λ_=>none) G H ow 0 true C p fs)(h:match F fs ds with
 |.ok d fs'=>∀v G' H' ow',Up G (hid H ow) G' H'->ObjAt X.K (hid H ow) G' H' ow' 0 true C p fs'->Rep X.K G' v d->Q v H'
 |.rd d=>∀v G' H',Up G H G' H'->Rep X.K G' v d->Q v H'
 |.ex C'=>Exx X σ G H C'
 |.no=>False):wpAny (model X.prog X.w) X.A (call (.ref f) (.ref p::us)) (EP X pins σ Q) X.xe s:=by
 have hvl:(V.ref p::vs).length=ps.length:=by rw[hl,r6,rp.length,hn]
 have hul:(Value.ref p::us++[]).length=ps.length:=by rw[qo,r6,<- r.length,<- r6 (a:=V.ref p)];exact hvl
 have hbb:=hb s (.ref p::us) I.kIn hul;rw[qo]at hbb;refine wpAny_call (j7 (M.run X.A X.stack s H ⟨.ref p::us,[]⟩ (.ref p::us) (.ref p::vs) Q (λc _ H'=>∃C G',c=.ref C/\Up G H G' H'/\Exx X σ G H C) hr I.env0 hbb (.cons rfl r) ⟨hvl,G,p,vs,ds,fs,ow,rfl,rp,sub,og,ob,?_⟩) λr' s' hq=>?_)
 ·cases q:F fs ds with
  |ok d fs'=>rw[q]at h;exact h
  |rd d=>rw[q]at h;exact h
  |ex C'=>rw[q]at h;exact λG' H' u=>⟨C',G',rfl,u,h⟩
  |no=>rw[q]at h;exact h.elim
 ·cases r' with
  |error e'=>obtain⟨a,C,H',rfl,fl,C',G',ec,u,q⟩:=hq;cases ec;exact q _ _ ⟨G,H,.refl sub,pins,s,a,rfl,I,.inr (.inl ⟨G',H',fl,u⟩)⟩
  |ok fl=>
   cases fl with
   |ret u=>exact I.after hq
   |_=>exact False.elim hq
end
def RM.read:RM->R D
 |.rd d=>.ok d
 |.ex C=>.ex C
 |_=>.no
def Hl(C:Addr)(i n:Nat)(F:MF)(gl:Ev->R (List D)):Ev->R D:=λρ=>Cl C ρ i>>=λfs=>gl ρ>>=λds=>if ds.length=n then (F fs ds).read else .no
def CS(C:Addr)(i:Nat)(F:MF):Ev->R D:=λρ=>Cl C ρ i>>=λfs=>(F fs []).read
def RM.out(r:RM)(C p:Addr)(i:Nat)(ρ:Ev):O:=match r with
 |.ok _ fs'=>.nx (ρ.set i (some (.obj true C p fs')))
 |.rd _=>.nx ρ
 |.ex E=>.ex E ρ
 |.no=>.no
def JQ(C:Addr)(i n:Nat)(F:MF)(gl:Ev->R (List D)):Ev->O:=λρ=>(vQ C ρ i).out ρ λo=>(gl ρ).out ρ λds=>if ds.length=n then (F o.2 ds).out C o.1 i ρ else .no
def He(C:Addr)(i:Nat)(F:MF):Ev->O:=λρ=>(vQ C ρ i).out ρ λo=>(F o.2 []).out C o.1 i ρ
structure MkC(P:Program)(w:World)(K:PySem.W.Frag)(mg:Str->Option Value)(base:Heap)(C:Addr)(cn:Str)(k n:Nat)(F:MF):Prop where
 ex:∃f fd ps,FnM P w K mg base k f fd ps C F/\Mk K C f/\mg cn=some (.ref C)/\Binds K fd ps []/\ps.length=n+1
 ne:C≠DC
def StR.setObj{K:PySem.W.Frag}{H₀ G':Hp}{x:Addr}{fs:List (Nat×Fd)}{ow':jb}(s:StR K G₀ H₀ G H σ ρ)(u:Up G H G' H')(ob:ObjAt K H G' H' ow' 0 true C x fs)(i:Nat):StR K G₀ H₀ G' H' (σ.set i (some (.ref x))) (ρ.set i (some (.obj true C x fs))):=by
 have get:∀(j:Nat) y,(ρ.set i (some (.obj true C x fs)))[j]?=some (some y)->(j=i/\y=.obj true C x fs/\i<σ.length)\/(j≠i/\ρ[j]?=some (some y)/\(σ.set i (some (.ref x)))[j]?=σ[j]?):=λj y h=>by
  by_cases e:i=j
  ·subst e;have hl:i<ρ.length:=by have:=(tj.mp h).1;simpa using this
   rw[su hl]at h;exact .inl ⟨rfl,by injection (vC h)with q;exact q.symm,by rw[s.e.len];exact hl⟩
  ·rw[rG e]at h;exact .inr ⟨λz=>e z.symm,h,rG e⟩
 have s1:=s.ups u;have ob':ObSt K H₀ G' H' (σ.set i (some (.ref x))) (ρ.set i (some (.obj true C x fs))):=by
  obtain⟨ow,o1,o2⟩:=s.ob;refine⟨λa=>open Classical in if H a=none then rK 0 i ow' a else ow a,λj ds l h1 h2=>?_,λj m' C' p' fs' h1=>?_⟩
  ·rcases get j _ h1 with⟨_,z,_⟩|⟨nj,f1,f2⟩;·cases z
   ·rw[f2]at h2;obtain⟨l2,vs,q1,q2,_⟩:=s.own j ds f1;rw[h2]at q1;cases q1;exact(if_neg (by rw[q2];simp)).trans (o1 j ds l f1 h2)
  ·rcases get j _ h1 with⟨rfl,z,hj⟩|⟨nj,f1,f2⟩;·cases z;exact⟨su hj,ob.newtag (λa t q n=>(if_pos n).trans (oH q)) λa n=>s.up.hh.free n⟩
   ·rw[f2];have ku:ObKeep H₀ H₀ G H G' H' ow ow j:=.up u;exact⟨(o2 j m' C' p' fs' f1).1,(o2 j m' C' p' fs' f1).2.keep ⟨ku.hh,ku.gg,ku.gn,λa t o q1 q2=>(if_neg (by rw[q2];simp)).trans q1,ku.h0⟩⟩
 refine⟨⟨s1.e.sub,by simp[s1.e.len],λj d h=>?_,ob'.rd⟩,s1.sub0,s1.up,λj ds h=>?_,λj k ds es l q1 q2 q3 q4=>?_,ob'⟩
 ·rcases get j _ h with⟨_,z,_⟩|⟨_,f1,f2⟩;·cases z
  ·rw[f2];exact s1.e.val j d f1
 ·rcases get j _ h with⟨_,z,_⟩|⟨nj,f1,f2⟩;·cases z
  ·rw[f2];exact s1.own j ds f1
 ·rcases get j _ q1 with⟨_,z,_⟩|⟨nj,f1,f2⟩;·cases z
  ·rcases get k _ q2 with⟨_,z,_⟩|⟨nk,f3,f4⟩;·cases z
   ·exact s1.inj j k ds es l f1 f3 (f2▸q3) (f4▸q4)
def Fm{α:Type}(X:Cx)(sts:List Stmt)(g:α->Ev->O):Prop:=∀G₀ H₀,PSs X sts (λD σ H=>∃G ρ,StR X.K G₀ H₀ G H σ ρ/\∀q,jN X G₀ H₀ D (g q ρ))
section
variable{st:Stmt}{bQ:List Stmt}{g1:Ev->O}{gs:Ev->O}{α:Type}{g2:α->Ev->O}{e:Expr}{gl':Ev->R (List D)}{cn:Str}{n:Nat}{F:MF}
def Db(g:Ev->O):Unit->Ev->O:=λ_=>g
def yW(h:lR X bQ gs):Fm X bQ (Db gs):=λG₀ H₀ pins s σ H D I ⟨G,ρ,sr,q⟩=>h G₀ H₀ pins s σ H D I ⟨G,ρ,sr,q ()⟩
end
def Fun.okA{w:World}{K:PySem.W.Frag}{mg:Str->Option Value}{base:Heap}{st:Stmt}{N:List Str}{α:Type}(F:Fun K x qual st f fd)(S:FnScope N ps (ah st)){g:α->Ev->O}(hg:∀ds,ds.length=ps.length->gr ds=.no\/∀q,ao (g q (ak N.length ds))=gr ds)(hbody:∀(cdv:Value)(A:Around)(outer:List Env)(s:Shared)(H:Hp)(E:XK),Room k (A.deeper (envOfC qual (ah st) s.heap.objs.size f cdv))->Fm (fE (CXo P w) P w K mg base N qual (ah st) f cdv A outer s H E) (bu st) g):
  FnF P w K mg base (k+1) f fd ps gr:=by
 obtain⟨oc,od,kV,doc,pm,an,cdv,ct,osl,rfl,lk,hcd⟩:=F.ex;refine DB lk hcd S (λvs H Q E h=>h.1) λA outer s H vs Q E hr hsp=>?_;obtain⟨hl,G,ds,sub,r,h⟩:=hsp;refine⟨_,hbody cdv A outer s H E hr G H,G,ak N.length ds,uC sub r,λq0=>?_⟩;rcases hg ds (by rw[<- r.length];exact hl)with z|z;·rw[z]at h;exact h.elim
 ·rw[<- z q0]at h;cases q:g q0 (ak N.length ds)with
  |nx ρ=>rw[q]at h;exact λσ G' H' sr=>h .non G' H' sr.up .non
  |rt d=>rw[q]at h;exact λv G' H' u rv=>h v G' H' u rv
  |re d ρ=>rw[q]at h;exact λv σ G' H' sr rv=>h v G' H' sr.up rv
  |bk ρ=>rw[q]at h;exact h.elim
  |ct ρ=>rw[q]at h;exact h.elim
  |ex C ρ=>rw[q]at h;exact λe s' fl=>oS fl h
  |no=>rw[q]at h;exact h.elim
def Cg(X:Cx)(G₀ H₀:Hp)(σ:St)(Q:VK)(o:O):Prop:=match o with
 |.re d ρ=>∀v G H,StR X.K G₀ H₀ G H σ ρ->Rep X.K G v d->Q v H
 |.ex C ρ=>∀e s',FlyS X G₀ H₀ ρ C e s'->X.xe e s'
 |_=>False
def tX(X:Cx)(G₀ H₀:Hp)(g:Ev->O):TE:=λσ H Q=>∃G ρ,StR X.K G₀ H₀ G H σ ρ/\Cg X G₀ H₀ σ Q (g ρ)
def PFX(X:Cx)(e:Expr)(g:Ev->O):Prop:=∀G₀ H₀,PE X e (tX X G₀ H₀ g)
def O.thenX(o:O)(k:D->Ev->O):O:=match o with
 |.re d ρ=>k d ρ
 |.ex C ρ=>.ex C ρ
 |_=>.no
section
variable{e a b c:Expr}{bQ:List Expr}{g g1 g2:Ev->O}{ga:Ev->R D}{gt:Ev->R Bool}{s1 s2:List Stmt}{h1 h2:Ev->O}
def Exx.fly{H₀:Hp}(sr:StR X.K G₀ H₀ G H σ ρ)(h:∀e s',FlyS X G₀ H₀ ρ C e s'->X.xe e s'):Exx X σ G H C:=λe s' ⟨G1,H1,u,f⟩=>h e s' (.of (sr.ups u) f)
def tX.read{α β:Type}{rep:Hp->β->α->Prop}{H₀:Hp}{m:Ev->R α}{Q:β->Hp->Prop}(sr:StR X.K G₀ H₀ G H σ ρ)(hk:∀a,m ρ=.ok a->∀v G1 H1,Up G H G1 H1->StR X.K G₀ H₀ G1 H1 σ ρ->rep G1 v a->Q v H1)(he:∀C,m ρ=.ex C->∀e s',FlyS X G₀ H₀ ρ C e s'->X.xe e s')(hn:m ρ≠.no):tG X rep m σ H Q:=by
 refine⟨G,ρ,sr.e,?_⟩;cases q:m ρ with
 |ok a=>exact λv G' H' u r=>hk a q v G' H' u (sr.ups u) r
 |ex C=>exact Exx.fly sr (he C q)
 |no=>exact absurd q hn
end
def IT(C:Addr)(ρ:Ev)(i:Nat):R (Bool×Addr×List (Nat×Fd)):=match ρ[i]? with
 |some (some (.obj m C' p fs))=>if C'=C then .ok (m,p,fs)else .no
 |_=>.no
def RM.outX(r:RM)(m:Bool)(C p:Addr)(i:Nat)(ρ:Ev):O:=match r with
 |.ok d fs'=>if m=true then .re d (ρ.set i (some (.obj true C p fs')))else .no
 |.rd d=>.re d ρ
 |.ex E=>.ex E ρ
 |.no=>.no
def iW(C:Addr)(i n:Nat)(F:MF)(gl:Ev->R (List D)):Ev->O:=λρ=>(IT C ρ i).out ρ λo=>(gl ρ).out ρ λds=>if ds.length=n then (F o.2.2 ds).outX o.1 C o.2.1 i ρ else .no
def EN{H₀:Hp}{Q:VK}{i:Nat}{k:Bool×Addr×List (Nat×Fd)->O}(h:Cg X G₀ H₀ σ Q ((IT C ρ i).out ρ k)):∃m p fs,ρ[i]?=some (some (.obj m C p fs))/\Cg X G₀ H₀ σ Q (k (m,p,fs)):=by
 unfold IT at h;split at h
 ·rename_i m C' p fs e;by_cases z:C'=C;·subst z;rw[if_pos rfl]at h;exact⟨m,p,fs,e,h⟩
  ·rw[if_neg z]at h;exact h.elim
 ·exact h.elim
section
variable{e:Expr}{y mn:Str}{i n:Nat}{F:MF}{p1 ap ep:Pos}
def IJ{H₀:Hp}{Q:VK}{Q':List V->Hp->Prop}{r:List D->O}(sr:StR X.K G₀ H₀ G H σ ρ)(h:Cg X G₀ H₀ σ Q ((gl ρ).out ρ λds=>if ds.length=n then r ds else .no))(hk:∀vs G1 H1 ds,StR X.K G₀ H₀ G1 H1 σ ρ->Reps X.K G1 vs ds->ds.length=n->Cg X G₀ H₀ σ Q (r ds)->Q' vs H1):tAF X gl σ H Q':=by
 refine tX.read sr (λds e vs G1 H1 u s1 rr=>?_) (λC e=>?_) λe=>?_
 ·rw[e]at h;have h:Cg X G₀ H₀ σ Q (if ds.length=n then r ds else .no):=h;by_cases hz:ds.length=n;·rw[if_pos hz]at h;exact hk vs G1 H1 ds s1 rr hz h
  ·rw[if_neg hz]at h;exact h.elim
 ·rw[e]at h;exact h
 ·rw[e]at h;exact h
def vZ{H₀:Hp}{p:Addr}{ds:List D}{fs:List (Nat×Fd)}{Q:VK}{mm:Bool}(M:FnM X.prog X.w X.K X.mg X.base k f fd ps C F)(hr:Room k X.A)(hb:Binds X.K fd ps [])(hl:ps.length=n+1)(I:Inv X pins σ H s)(r:Vals vs us)(rp:Reps X.K G vs ds)(hz:ds.length=n)(sr:StR X.K G₀ H₀ G H σ ρ)(e1:ρ[i]?=some (some (.obj mm C p fs)))(h:Cg X G₀ H₀ σ Q ((F fs ds).outX mm C p i ρ)):wpAny (model X.prog X.w) X.A (call (.ref f) (.ref p::us)) (EP X pins σ Q) X.xe s:=by
 obtain⟨ow1,o1,o2⟩:=sr.ob;obtain⟨_,ob1⟩:=o2 i mm C p fs e1;refine A4 M hr hb hl I r rp hz sr.e.sub (λa t q=>(lg q).2.2.1) ob1.cut ?_;cases q:F fs ds with
 |ok d fs'=>
  rw[q]at h;cases mm with
  |false=>exact h.elim
  |true=>exact λv G' H' ow' u ob rv=>h v G' H' (sr.meth e1 o1 o2 u ob) rv
 |rd d=>rw[q]at h;exact λv G' H' u rv=>h v G' H' (sr.ups u) rv
 |ex C'=>rw[q]at h;exact Exx.fly sr h
 |no=>rw[q]at h;exact h.elim
end
structure CalleeM(P:Program)(w:World)(K:PySem.W.Frag)(mg:Str->Option Value)(base:Heap)(C:Addr)(x:Str)(k n:Nat)(F:MF):Prop where
 ex:∃f fd ps,FnM P w K mg base k f fd ps C F/\mg x=some (.ref f)/\PySem.W.keepIn K (.ref f)=true/\Binds K fd ps []/\ps.length=n+1
def CalleeM.mono{w:World}{K:PySem.W.Frag}{mg:Str->Option Value}{base:Heap}{n:Nat}{F:MF}(c:CalleeM P w K mg base C x k n F)(k':Nat)(h:k<=k':=by decide):CalleeM P w K mg base C x k' n F:=by obtain⟨f,fd,ps,M,hm,hk,hb,e⟩:=c.ex;exact⟨f,fd,ps,{ M with run:=λA outer s H args us vs Q E hr=>M.run A outer s H args us vs Q E (hr.mono h) },hm,hk,hb,e⟩
section
variable{y:Str}{i n:Nat}{F:MF}{p1 py:Pos}
def mq(i:Nat)(c:CalleeM X.prog X.w X.K X.mg X.base C x k n F)(hr:Room k X.A)(ha:PFA X es gl)(hi:X.N[i]?=some y:=by rfl)(hv:Vis X.env.scope y:=by first|exact Or.inl rfl|exact Or.inr (Or.inl rfl)|exact Or.inr (Or.inr rfl))(hd:(y==("__debug__":Str))=false:=by decide)(hcd:(y==("__classdict__":Str))=false:=by decide)(hg:Gl X x:=by rfl)(hdb:(x==("__debug__":Str))=false:=by decide)(hst:starEach (.Name y py::es) X.env=(false,eval (.Name y py) X.env)::starEach es X.env:=by rfl)(hpl:(backTo pos (starEach es X.env)).any (·.1)=false:=by rfl):
  PFX X (.Call (.Name x p1) (.Name y py::es) [] pos) (iW C i n F gl):=λG₀ H₀ pins s σ H Q I h=>by
 obtain⟨f,fd,ps,M,hm,hk,hb,hl⟩:=c.ex;obtain⟨G,ρ,sr,h⟩:=h;obtain⟨mm,p,fs,e1,h⟩:=EN h;obtain⟨h1,_⟩:=sr.e.obs i mm C p fs e1;have v:PE X (.Name y py) (nX i):=fD hi hv hd hcd;refine Z4 (mW I hg hm ?_ hdb);have t:mZ (nX i) (tAF X gl) σ H (λvs H1=>∃ws G1 ds,vs=.ref p::ws/\StR X.K G₀ H₀ G1 H1 σ ρ/\Reps X.K G1 ws ds/\ds.length=n/\Cg X G₀ H₀ σ Q ((F fs ds).outX mm C p i ρ)):=
  ⟨_,h1,IJ sr h λvs G1 H1 ds s1 r hz h=>⟨vs,G1,ds,rfl,s1,r,hz,h⟩⟩
 refine PySem.W.callWith_K (h₀:=X.base) I.ok.mod.kin hk (thn (bT v ha hst pos pins s σ H _ I t) λus s2 q=>⟨?_,?_⟩) hst hpl;·obtain⟨vs,H1,I1,r,_⟩:=q;exact I1.kIn
 obtain⟨vs,H1,I1,r,ws,G1,ds,rfl,s2,rp,hz,h2⟩:=q;cases r with
 |cons ru r=>obtain rfl:=ru;exact vZ M hr hb hl I1 r rp hz s2 e1 h2
end
noncomputable def IE(P:Program)(w:World)(K:PySem.W.Frag)(mg:Str->Option Value)(base:Heap)(k:Nat)(s1:Shared)(G1 H1:Hp)(f:Addr)(Q:VK):Prop:=
 ∀(Y:Cx)(pins:List (Addr×Obj))(σY:St)(G2 H2:Hp)(s2:Shared)(fs:List Addr),Y.prog=P->Y.w=w->Y.K=K->Y.mg=mg->Y.base=base->Inv Y pins σY H2 s2->Room k Y.A->Un fs [] H1 H2 s1.heap s2.heap->Up G1 H1 G2 H2->
  (∃o fd,s2.heap.get? f=some o/\o.data=.func fd)/\wpAny (model Y.prog Y.w) Y.A (call (.ref f) []) (EP Y pins σY Q) Y.xe s2
structure ToldOk(P:Program)(w:World)(K:PySem.W.Frag)(mg:Str->Option Value)(base:Heap)(x:Str)(k j:Nat):Prop where
 ex:∃ft,mg x=some (.ref ft)/\PySem.W.keepIn K (.ref ft)=true/\∀(A:Around)(outer:List Env)(s1:Shared)(G1 H1:Hp)(f:Addr)(Q:VK)(E:XK),Room k A->Env0 P w K mg base A outer s1 H1->Same G1 H1->IE P w K mg base j s1 G1 H1 f Q->
  codeAny (model P w) A (.call (.ref ft) ⟨[.ref f],[]⟩) (CR (CXo P w) outer P w H1 s1 Q E) s1
def dA(g:Ev->O):Ev->O:=λρ=>(g ρ).thenX λ_ ρ'=>.nx ρ'
def mG{e:Expr}{g:Ev->O}(h:PFX X e g)(hs:swapsWith e none pos.line X.env=pure false:=by rfl):PSF X (.Expr e pos) (dA g):=λG₀ H₀ pins s σ H D I ⟨G,ρ,sr,q⟩=>by
 refine jh (h G₀ H₀) hs pins s σ H D I ⟨G,ρ,sr,?_⟩;unfold dA at q;cases e:g ρ with
 |re d ρ'=>rw[e]at q;exact λv G' H' s' r=>q σ G' H' s'
 |ex C ρ'=>rw[e]at q;exact q
 |_=>rw[e]at q;exact q.elim
end L2
namespace L2
open PySem PySem.Spec PyProof.Rows
open PySem.AutoSeq1 (wpAny_loadPart')
open PySem.MeetsSeq PySem.MeetsSeq2 PySem.MeetsSeq3
inductive NumPairs:List (Value×Value)->List Int->List Int->Prop
 |nil:NumPairs [] [] []
 |cons {zs:List (Value×Value)} {xs ys:List Int} (i:Int) (t:Addr) (j:Int) (u:Addr) (r:NumPairs zs xs ys):NumPairs ((.int i t,.int j u)::zs) (i::xs) (j::ys)
end L2
namespace L2
open PySem PySem.Spec PyProof.Rows
section
variable{elt:Expr}{ifs:List Expr}{px:Pos}{gt:Ev->R Bool}
structure CompOkC(X:Cx)(scope:Scope)(x:Str):Prop where
 kind:scope.kind=.function
 names:∀y∈scope.names,y.2=.local->scope.names.lookup y.1=some .local
 nofree:∀y∈scope.names,y.2≠.free
 cells:∀L,cellsFrom L scope.names []=[(x,L)]
 lk:scope.names.lookup x=some .cell
 only:∀y,scope.names.lookup y=some .cell->y=x
end
abbrev TF:=List (Nat×Fd)->Option (List (Nat×Fd))
noncomputable def spT(K:PySem.W.Frag)(C:Addr)(F:TF):Sp:=λvs H Q E=>∃G p fs ow,vs=[.ref p]/\Same G H/\(∀a t,ow a=some t->G a=none)/\ObjAt K (λ_=>none) G H ow 0 true C p fs/\
 ∃fs',F fs=some fs'/\∀x G' H' ow',Up G H G' H'->ObjAt K H G' H' ow' 0 true C x fs'->Q (.ref x) H'
abbrev FnT(P:Program)(w:World)(K:PySem.W.Frag)(mg:Str->Option Value)(base:Heap)(k:Nat)(f:Addr)(fd:FuncData)(ps:List Str)(C:Addr)(F:TF):Prop:=FnOk P w K mg base (CXo P w) k f fd ps (λvs H Q E=>vs.length=ps.length/\spT K C F vs H Q E)
structure TCallee(P:Program)(w:World)(K:PySem.W.Frag)(mg:Str->Option Value)(base:Heap)(C:Addr)(mn:Str)(k:Nat)(F:TF):Prop where
 ex:∃f fd ps,FnT P w K mg base k f fd ps C F/\Meth K C mn f/\Binds K fd ps []/\ps.length=1
def qU:D->Option Nat
 |.tup [.bl a,.bl b]=>some (code a b)
 |_=>none
def fvs:List (Nat×Fd)->Option (List (Nat×D))
 | []=>some []
 | (k,.val d)::r=>(fvs r).map ((k,d)::·)
 | (_,_)::_=>none
def qr(ρ:Ev)(i:Nat):R (List (Nat×D)):=match ρ[i]? with
 |some (some (.val (.dct ks ds)))=>.ok (ks.zip ds)
 |some (some (.obj _ C _ fs))=>if C=DC then ofO (fvs fs)else .no
 |_=>.no
def xa{i:Nat}(e:qr ρ i=.ex C):False:=by
 unfold qr at e;split at e;·cases e
 ·split at e;·revert e;unfold ofO;split <;> exact λz=>nomatch z
  ·cases e
 ·cases e
theorem sK:∀(ks:List Nat)(ds:List D),fvs (ks.zip (ds.map Fd.val))=some (ks.zip ds)
 | [],_=>rfl
 |_::_,[]=>rfl
 |k::ks,d::ds=>by simp only[w8,b6,fvs,sK ks ds,q8]
def uu:∀a b c d:Bool,code a b=code c d->a=c/\b=d:=by decide
section
variable{K:PySem.W.Frag}
theorem KeysAt.inH(s:Same G H):∀{xs:DX}{ks:List Nat},KeysAt K G xs ks->gm K H xs
 |_,_,.nil,x,hx=>nomatch hx
 |_,_,.cons h t,x,hx=>by
  rcases y9.1 hx with rfl|hx;·exact h.mono s
  ·exact KeysAt.inH s t x hx
theorem KeysAt.twos:∀{xs:DX}{ks:List Nat},KeysAt K G xs ks->K4 xs
 |_,_,.nil,x,hx=>nomatch hx
 |_,_,.cons h t,x,hx=>by
  rcases y9.1 hx with rfl|hx;·exact⟨_,_,rfl⟩
  ·exact KeysAt.twos t x hx
def KeysAt.length:∀{xs:DX}{ks:List Nat},KeysAt K G xs ks->xs.length=ks.length
 |_,_,.nil=>rfl
 |_,_,.cons _ t=>by simp[t.length]
def KeysAt.look{a b:Bool}:∀{xs:DX}{ks:List Nat}{ds:List D},KeysAt K G xs ks->Reps K G (xs.map (·.2.2)) ds->
  ((ks.zip ds).lookup (code a b)=none/\lQ xs [a,b]=none)\/∃d v,(ks.zip ds).lookup (code a b)=some d/\lQ xs [a,b]=some v/\Rep K G v d
 |_,_,_,.nil,.nil=>.inl ⟨rfl,rfl⟩
 |_,_,_,.cons (a:=c) (b:=e) h t,.cons r q=>by
  by_cases z:[c,e]=[a,b]
  ·cases z;exact .inr ⟨_,_,by simp[s9],by simp[lQ,Zw],r⟩
  ·have z':(code a b==code c e)=false:=p9.2 λy=>z (by obtain⟨rfl,rfl⟩:=uu _ _ _ _ y;rfl);rcases t.look q with⟨e1,e2⟩|⟨d,v,e1,e2,e3⟩;·exact .inl ⟨by simp only[b6,s9,z'];exact e1,by unfold lQ at e2⊢;simp only[List.find?_cons,z,decide_false];exact e2⟩
   ·exact .inr ⟨d,v,by simp only[b6,s9,z'];exact e1,by unfold lQ at e2⊢;simp only[List.find?_cons,z,decide_false];exact e2,e3⟩
def jT{d:D}{n:Nat}(e:qU d=some n)(r:Rep K G v d):∃q a b,v=.ref q/\n=code a b/\SqT K G q [.bl a,.bl b]:=by
 unfold qU at e;split at e
 ·rename_i a b;cases e;obtain⟨q,vs,rfl,hq,rs⟩:=r.tup_inv;cases rs with
  |cons r1 t=>
   cases t with
   |cons r2 t=>cases t;obtain rfl:=r1.bl_inv;obtain rfl:=r2.bl_inv;exact⟨q,a,b,rfl,rfl,hq⟩
 ·cases e
def StE.dct{σ:St}{ρ:Ev}{i:Nat}{kv:List (Nat×D)}(st:StE K G H σ ρ)(e:qr ρ i=.ok kv):
  ∃a o xs ks ds,σ[i]?=some (some (.ref a))/\H a=some (DctO a o xs)/\KeysAt K G xs ks/\Reps K G (xs.map (·.2.2)) ds/\kv=ks.zip ds:=by
 unfold qr at e;split at e
 ·rename_i ks ds q;cases e;obtain⟨v,h1,r⟩:=st.val i _ q;cases r with
  |dct h k r=>exact⟨_,_,_,ks,ds,h1,st.sub _ _ h,k,r,rfl⟩
 ·rename_i m C p fs q;split at e;·rename_i z;obtain⟨h1,ow,ob⟩:=st.obs i m C p fs q;rw[z]at ob;obtain⟨o,xs,ks,ds,g1,g2,g3,g4,g5,g6,g7⟩:=ob.dco;rw[g7,sK]at e;cases e;exact⟨p,o,xs,ks,ds,h1,g1,g5,g6,rfl⟩
  ·cases e
 ·cases e
end
section
variable{e:Expr}{ga:Ev->R D}
def Jo(K:PySem.W.Frag)(neg:Bool):R2:=λx y H Q=>∃q k a o xs,x=.ref q/\y=.ref a/\H a=some (DctO a o xs)/\gm K H xs/\SqT K H q (k.map V.bl)/\Q (.bl (if neg then !(lQ xs k).isSome else (lQ xs k).isSome)) H
def Ir(hu:X.A.units+64<cLine):OpR X (compareOp .In) (Jo X.K false):=by intro pins s σ H x y v u Q I rx ry ⟨q,k,a,o,xs,ex,ey,h1,h2,h3,h4⟩;subst ex ey;cases rx;cases ry;exact IA (by omega) I h1 h2 h3 λs' I'=>⟨.bl _,H,I',rfl,h4⟩
def Fc(hu:X.A.units+64<cLine):OpR X (compareOp .NotIn) (Jo X.K true):=by intro pins s σ H x y v u Q I rx ry ⟨q,k,a,o,xs,ex,ey,h1,h2,h3,h4⟩;subst ex ey;cases rx;cases ry;exact xg (by omega) I h1 h2 h3 λs' I'=>⟨.bl _,H,I',rfl,h4⟩
def oV(neg:Bool)(i:Nat)(ge:Ev->R D):Ev->R Bool:=λρ=>ge ρ>>=λd=>ofO (qU d)>>=λn=>qr ρ i>>=λkv=>.ok (if neg then !(kv.lookup n).isSome else (kv.lookup n).isSome)
def uy{i:Nat}{Q:Bool->Hp->Prop}(h:tTF X (oV neg i ge) σ H Q):Dz (tOp (Jo X.K neg) (tF X ge) (nX i)) σ H Q:=by
 obtain⟨G,ρ,st,h⟩:=h;refine tG.intro st h λd v G1 H1 u1 st1 r1 h1=>?_;obtain⟨n,e1,h1⟩:∃n,qU d=some n/\(qr ρ i>>=λkv=>R.ok (if neg then !(kv.lookup n).isSome else (kv.lookup n).isSome)).post (Fin G1 H1 (λ_ b c=>b=c) Q) (Exx X σ G1 H1):=by
  cases q:qU d with
  |none=>rw[q]at h1;exact h1.elim
  |some n=>rw[q]at h1;exact⟨n,rfl,h1⟩
 cases q0:qr ρ i with
 |ok kv=>
  rw[q0]at h1;obtain⟨q,a,b,rfl,rfl,hq⟩:=jT e1 r1;obtain⟨c,o,xs,ks,ds,g1,g2,g3,g4,rfl⟩:=st1.dct q0;refine⟨.ref c,g1,q,[a,b],c,o,xs,rfl,rfl,g2,g3.inH st1.sub,hq.mono st1.sub,_,rfl,?_⟩;have e2:(lQ xs [a,b]).isSome=((ks.zip ds).lookup (code a b)).isSome:=by rcases g3.look g4 with⟨y1,y2⟩|⟨d,v,y1,y2,_⟩ <;> rw[y1,y2] <;> rfl
  rw[e2];exact h1 _ G1 H1 (.refl st1.sub) rfl
 |ex C=>exact(xa q0).elim
 |no=>rw[q0]at h1;exact h1.elim
def BA(i:Nat)(hu:X.A.units+64<cLine)(he:PF X e ge)(hi:X.N[i]?=some x:=by rfl)(hv:Vis X.env.scope x:=by first|exact Or.inl rfl|exact Or.inr (Or.inl rfl)|exact Or.inr (Or.inr rfl))(hd:(x==("__debug__":Str))=false:=by decide)(hcd:(x==("__classdict__":Str))=false:=by decide)(hm:behindInMarks .In (.Name x p)=false:=by rfl):PB X (.Compare e [.In] [.Name x p] pos) (oV false i ge):=λpins s σ H Q I h=>
 rj (Ir hu) he (fD hi hv hd hcd) hm pins s σ H Q I (uy h)
def FL(i:Nat)(hu:X.A.units+64<cLine)(he:PF X e ge)(hi:X.N[i]?=some x:=by rfl)(hv:Vis X.env.scope x:=by first|exact Or.inl rfl|exact Or.inr (Or.inl rfl)|exact Or.inr (Or.inr rfl))(hd:(x==("__debug__":Str))=false:=by decide)(hcd:(x==("__classdict__":Str))=false:=by decide)(hm:behindInMarks .NotIn (.Name x p)=false:=by rfl):PB X (.Compare e [.NotIn] [.Name x p] pos) (oV true i ge):=λpins s σ H Q I h=>
 rj (Fc hu) he (fD hi hv hd hcd) hm pins s σ H Q I (uy h)
def Ku(K:PySem.W.Frag):R2:=λx y H Q=>∃a o xs q k v,x=.ref a/\y=.ref q/\H a=some (DctO a o xs)/\gm K H xs/\SqT K H q (k.map V.bl)/\lQ xs k=some v/\Q v H
def Fy(hu:X.A.units+64<cLine):IxR X (Ku X.K):=by intro value slice pins s σ H x y v u Q I rx ry ⟨a,o,xs,q,k,w,ex,ey,h1,h2,h3,h4,h5⟩ hs;subst ex ey;cases rx;cases ry;obtain⟨g1,_,_,g2,_⟩:=kq I h1;exact tail_any (T:="dict") ⟨o,g1,g2.1⟩ PySem.F.slot_dict_getitem.lookup (Ej (by omega) I h1 h2 h3 h4 λw' s' I' r=>⟨w,H,I',r,h5⟩) hs
def gj(i:Nat)(ge:Ev->R D):Ev->R D:=λρ=>qr ρ i>>=λkv=>ge ρ>>=λd=>ofO ((qU d).bind λn=>kv.lookup n)
def ql(i:Nat)(hu:X.A.units+64<cLine)(he:PF X e ge)(hi:X.N[i]?=some x:=by rfl)(hv:Vis X.env.scope x:=by first|exact Or.inl rfl|exact Or.inr (Or.inl rfl)|exact Or.inr (Or.inr rfl))(hd:(x==("__debug__":Str))=false:=by decide)(hcd:(x==("__classdict__":Str))=false:=by decide)(hs:td e:=by intro _ _;rfl):PF X (.Subscript (.Name x p) e pos) (gj i ge):=λpins s σ H Q I h=>by
 refine zW (Fy hu) (fD hi hv hd hcd) he hs pins s σ H Q I ?_;obtain⟨G,ρ,st,h⟩:=h;have h:(qr ρ i>>=λkv=>ge ρ>>=λd=>ofO ((qU d).bind λn=>kv.lookup n)).post (Fin G H (Rep X.K) Q) (Exx X σ G H):=h;cases q:qr ρ i with
 |ok kv=>
  rw[q]at h;obtain⟨c,o,xs,ks,ds,g1,g2,g3,g4,rfl⟩:=st.dct q;refine⟨.ref c,g1,tG.intro st h λd v G1 H1 u1 st1 r1 h1=>?_⟩;obtain⟨w,e2,h1⟩:=ofO.ok h1;cases e1:qU d with
  |none=>rw[e1]at e2;cases e2
  |some n=>
   rw[e1]at e2;have e2:(ks.zip ds).lookup n=some w:=e2;obtain⟨q,a,b,rfl,rfl,hq⟩:=jT e1 r1;rcases g3.look g4 with⟨y1,_⟩|⟨d',v',y1,y2,y3⟩;·rw[y1]at e2;cases e2
   ·rw[y1]at e2;cases e2;exact⟨c,o,xs,q,[a,b],v',rfl,rfl,u1.hh _ _ g2,λz hz=>(g3.inH st.sub z hz).mono u1.hh,hq.mono st1.sub,y2,h1 v' G1 H1 (.refl st1.sub) (y3.mono u1.gg)⟩
 |ex C=>exact(xa q).elim
 |no=>rw[q]at h;exact h.elim
end
section
variable{K:PySem.W.Frag}{a b:Bool}{d:D}
def KeysAt.same:∀{xs:DX}{ks:List Nat},KeysAt K G xs ks->[a,b]∉xs.map (·.1)->xs.map (λx=>if x.1=[a,b]then (x.1,x.2.1,v)else x)=xs
 |_,_,.nil,_=>rfl
 |_,_,.cons (a:=c) (b:=e) h t,n=>by rw[w8,y9,not_or]at n;rw[w8,if_neg (λz=>n.1 z.symm),t.same n.2]
theorem zo{n:Nat}{fd:Fd}:∀{fs:List (Nat×Fd)},fs.lookup n=none->qV n fd fs=fs++[(n,fd)]
 | [],_=>rfl
 | (k,f)::fs,h=>by
  have ne:(n==k)=false:=by
   cases z:n==k with
   |false=>rfl
   |true=>simp only[s9,z]at h;cases h
  simp only[s9,ne]at h;unfold qV;rw[if_neg (λz=>by rw[z]at ne;simp at ne),zo h];rfl
def KeysAt.snoc:∀{xs:DX}{ks:List Nat},KeysAt K G xs ks->SqT K G q [.bl a,.bl b]->KeysAt K G (xs++[([a,b],q,v)]) (ks++[code a b])
 |_,_,.nil,h=>.cons h .nil
 |_,_,.cons h t,z=>.cons h (t.snoc z)
theorem kg{n:Nat}:∀{ks:List Nat}{ds:List D},(ks.zip ds).lookup n=none->(ks.zip (ds.map Fd.val)).lookup n=none
 | [],_,_=>rfl
 |_::_,[],_=>rfl
 |k::ks,d::ds,h=>by
  rw[b6,s9]at h;rw[w8,b6,s9];cases z:n==k with
  |true=>rw[z]at h;cases h
  |false=>rw[z]at h;exact kg h
def KeysAt.over:∀{xs:DX}{ks:List Nat}{ds:List D},KeysAt K G xs ks->Reps K G (xs.map (·.2.2)) ds->(xs.map (·.1)).Nodup->(lQ xs [a,b]).isSome=true->Rep K G v d->
  KeysAt K G (xs.map λx=>if x.1=[a,b]then (x.1,x.2.1,v)else x) ks/\∃ds',Reps K G ((xs.map λx=>if x.1=[a,b]then (x.1,x.2.1,v)else x).map (·.2.2)) ds'/\qV (code a b) (.val d) (ks.zip (ds.map Fd.val))=ks.zip (ds'.map Fd.val)
 |_,_,_,.nil,.nil,_,h,_=>by cases h
 |_,_,_,.cons (a:=c) (b:=e) (ks:=ks) (xs:=ys) h t,.cons (ds:=ds) r1 r2,n,hv,r=>by
  rw[w8,qZ]at n;by_cases z:[c,e]=[a,b]
  ·cases z;rw[w8,if_pos rfl,t.same n.1];exact⟨.cons h t,d::ds,.cons r r2,by simp[qV]⟩
  ·have z':code c e≠code a b:=λy=>z (by obtain⟨rfl,rfl⟩:=uu _ _ _ _ y;rfl);have hv':(lQ ys [a,b]).isSome=true:=by unfold lQ at hv⊢;simpa only[List.find?_cons,z,decide_false]using hv
   obtain⟨k1,ds',k2,k3⟩:=t.over r2 n.2 hv' r;rw[w8,if_neg z];refine⟨.cons h k1,_::ds',.cons r1 k2,?_⟩;simp only[w8,b6,qV,if_neg z',k3]
def KeysAt.put{xs:DX}{ds:List D}(k:KeysAt K G xs ks)(rs:Reps K G (xs.map (·.2.2)) ds)(n:(xs.map (·.1)).Nodup)(hq:SqT K G q [.bl a,.bl b])(r:Rep K G v d):
  ∃ks' ds',KeysAt K G (Al xs [a,b] q v) ks'/\Reps K G ((Al xs [a,b] q v).map (·.2.2)) ds'/\qV (code a b) (.val d) (ks.zip (ds.map Fd.val))=ks'.zip (ds'.map Fd.val):=by
 unfold Al;by_cases z:(lQ xs [a,b]).isSome=true;·rw[if_pos z];obtain⟨k1,ds',k2,k3⟩:=k.over rs n z r;exact⟨ks,ds',k1,k2,k3⟩
 ·rw[if_neg z];refine⟨ks++[code a b],ds++[d],k.snoc hq,?_,?_⟩;·rw[sN];exact rs.append (.cons r .nil)
  ·rcases k.look (a:=a) (b:=b) rs with⟨y1,_⟩|⟨_,_,_,y2,_⟩
   ·have ln:ks.length=(ds.map Fd.val).length:=by rw[zV,<- rs.length,zV,k.length]
    rw[zo (kg y1),sN,List.zip_append ln];rfl
   ·rw[y2]at z;exact absurd rfl z
end
theorem DRel.keys:∀{xs:DX}{us:DU},DRel xs us->xs.map (·.1)=us.map (·.1)
 |_,_,.nil=>rfl
 |_,_,.cons h t=>by rw[w8,w8,h.1,DRel.keys t]
def JP(K:PySem.W.Frag):FF:=λx y v H Q=>∃a o xs q k,x=.ref a/\y=.ref q/\H a=some (DctO a o xs)/\gm K H xs/\SqT K H q (k.map V.bl)/\xs.length<sizeLine/\((xs.map (·.1)).Nodup->∀o',Q (upd H a (DctO a o' (Al xs k q v))))
section
variable{e ix:Expr}{ga gk:Ev->R D}{tp:Pos}
def EB(hu:X.A.units+64<cLine):IV X (JP X.K):=by intro pins s σ H o i v ov iv u Q I ro ri rv ⟨a,ob,xs,q,k,eo,ei,h1,h2,h3,h4,h5⟩;subst eo ei;cases ro;cases ri;obtain⟨_,_,_,_,us,r,_,_,_,_,n⟩:=kq I h1;rw[<- DRel.keys r]at n;exact D3 (by omega) I h1 h2 h3 h4 rv λo' s' I'=>⟨_,I',h5 n o'⟩
def An(i:Nat)(gk ga:Ev->R D):Ev->O:=λρ=>(vQ DC ρ i).out ρ λo=>(eW (ga ρ)).out ρ λd=>(eW (gk ρ)).out ρ λk=>match qU k with
 |some n=>if o.2.length<900 then .nx (ρ.set i (some (.obj true DC o.1 (qV n (.val d) o.2))))else .no
 |none=>.no
def Fv(i:Nat)(hu:X.A.units+64<cLine)(he:PF X e ga)(hk:PF X ix gk)(hi:X.N[i]?=some x:=by rfl)(hv:Vis X.env.scope x:=by first|exact Or.inl rfl|exact Or.inr (Or.inl rfl))(hd:(x==("__debug__":Str))=false:=by decide)(hcd:(x==("__classdict__":Str))=false:=by decide)(hs:swapsWithSole [.Subscript (.Name x p) ix tp] e pos.line X.env=pure false:=by rfl)(hw:swappedStores [.Subscript (.Name x p) ix tp] e X.env=pure none:=by rfl)(h1':(assignEach [.Subscript (.Name x p) ix tp] X.env).map (·.2)=[assign (.Subscript (.Name x p) ix tp) X.env]:=by rfl)(ha:∀v,assign (.Subscript (.Name x p) ix tp) X.env v=(do
 let ov <- holding [v] (eval (.Name x p) X.env);let iv <- holding [v,ov] (eval ix X.env)
 standAt tp
 holding [v,ov,iv] (setItem ov iv v)
 release [v,ov,iv] []):=by intro _;rfl):
  PSF X (.Assign [.Subscript (.Name x p) ix tp] e pos) (An i gk ga):=λG₀ H₀ pins s σ H D I ⟨G,ρ,sr,h⟩=>by
 refine eU he (uT (fD hi hv hd hcd) hk (EB hu) ha) hs hw h1' pins s σ H D I ⟨G,ρ,sr.e,?_⟩;obtain⟨pp,fs,e1,h⟩:=E3 h;obtain⟨hσ,_⟩:=sr.e.obs i true DC pp fs e1;cases q1:ga ρ with
 |ok d=>
  rw[q1]at h;intro v G1 H1 u1 r1;show GN _ _ _ v σ H1 _;refine⟨.ref pp,hσ,G1,ρ,(sr.ups u1).e,?_⟩;cases q2:gk ρ with
  |ok k=>
   rw[q2]at h;intro kv G2 H2 u2 r2;have sr2:=(sr.ups u1).ups u2;obtain⟨ow,o1,o2⟩:=sr2.ob;obtain⟨ob,xs,ks,ds,g1,g2,g3,g4,g5,g6,g7⟩:=(o2 i true DC pp fs e1).2.dco;have h:jN X G₀ H₀ D (match qU k with
    |some n=>if fs.length<900 then .nx (ρ.set i (some (.obj true DC pp (qV n (.val d) fs))))else .no
    |none=>.no):=h;cases q3:qU k with
   |none=>rw[q3]at h;exact h.elim
   |some n=>
    rw[q3]at h;have h:jN X G₀ H₀ D (if fs.length<900 then .nx (ρ.set i (some (.obj true DC pp (qV n (.val d) fs))))else .no):=h;by_cases hz:fs.length<900
    ·rw[if_pos hz]at h;obtain⟨q,a,b,rfl,rfl,hq⟩:=jT q3 r2;have xl:xs.length=fs.length:=by have l1:=g5.length;have l2:=g6.length;rw[zV]at l2;rw[g7,List.length_zip,zV];omega
     have lb:900<sizeLine:=by decide
     refine⟨pp,ob,xs,q,[a,b],rfl,rfl,g1,g5.inH sr2.e.sub,hq.mono sr2.e.sub,by omega,λnd o'=>h σ G2 _ ?_⟩;obtain⟨ks',ds',k1,k2,k3⟩:=g5.put g6 nd hq (r1.mono u2.gg);have np:∀c o,H₀ c=some o->c≠pp:=λc o z=>aj z (g3 rfl);refine sr2.objTo e1 o1 o2 (ow2:=ow) (λc o z nt=>?_) (λc o z=>?_) (λc o z=>?_) (λ_ _ _ _ _ z _=>z) (.inr ⟨rfl,o',_,ks',ds',ay,g2,g3,g4,k1,k2,by rw[g7];exact k3⟩);·rw[au (λy=>nt 0 (by rw[y];exact g4))];exact z
     ·rw[au (np c o z)];exact sr2.up.hh c o z
     ·rw[au (aj z g2)];exact sr2.e.sub c o z
    ·rw[if_neg hz]at h;exact h.elim
  |_=>rw[q2]at h;exact h.elim
 |_=>rw[q1]at h;exact h.elim
end
section
variable{bQ:List Stmt}{α:Type}{g2:α->Ev->O}{y:Str}{e:Expr}{ga:Ev->R D}{py pos':Pos}
def xN{K:PySem.W.Frag}{p:Addr}{o:Obj}{xs:DX}{ds:List D}(s:Same G H)(hp:H p=none)(k:KeysAt K G xs ks)(r:Reps K G (xs.map (·.2.2)) ds):
  Up G H G (upd H p (DctO p o xs))/\ObjAt K H G (upd H p (DctO p o xs)) (λa=>if a=p then some (0,0)else none) 0 true DC p (ks.zip (ds.map Fd.val)):=
 ⟨⟨λa u q=>by rw[au (aj q (s.free hp))];exact s a u q,.refl _,.into hp,λ_ _ q=>.inl q⟩,.inr ⟨rfl,o,xs,ks,ds,ay,s.free hp,λ_=>hp,if_pos rfl,k,r,rfl⟩⟩
def Ci(i:Nat)(g2:α->Ev->O):Addr×α->Ev->O:=λq ρ=>g2 q.2 (ρ.set i (some (.obj true DC q.1 [])))
def Ed(i:Nat)(hN:X.N.Nodup)(h2:Fm X bQ g2)(hi:X.N[i]?=some y:=by rfl)(hx:Loc X.env.scope y:=by first|exact Or.inl rfl|exact Or.inr rfl)(hw:swappedStores [.Name y py] (.Dict [] [] pos) X.env=pure none:=by rfl)(hf:X.fn y=true\/X.env.scope.names.lookup y=some .local:=by first|exact .inl rfl|exact .inr rfl)(hs:swapsWithSole [.Name y py] (.Dict [] [] pos) pos'.line X.env=pure false:=by rfl):Fm X (.Assign [.Name y py] (.Dict [] [] pos) pos'::bQ) (Ci i g2):=λG₀ H₀ pins s σ H D I ⟨G,ρ,sr,h⟩=>by
 refine cF (eU EM (ia (i:=i) hN hi hx hf) hs hw rfl) (h2 G₀ H₀) pins s σ H D I λq o hq=>?_;obtain⟨u,ob⟩:=xN (o:=o) sr.e.sub hq (.nil:KeysAt X.K G [] []) (.nil:Reps X.K G [] []);exact⟨G,_,sr.setObj u ob i,λq2=>h (q,q2)⟩
def xZ(i:Nat)(ga:Ev->R D)(g2:α->Ev->O):Addr×α->Ev->O:=λq ρ=>(eW (ga ρ)).out ρ λd=>match d with
 |.dct (k::ks) ds=>g2 q.2 (ρ.set i (some (.obj true DC q.1 ((k::ks).zip (ds.map Fd.val)))))
 |_=>.no
def A6[Inhabited α](i:Nat)(hN:X.N.Nodup)(hg:Gl X "dict")(hm:X.mg "dict"=none)(he:PF X e ga)(h2:Fm X bQ g2)(hi:X.N[i]?=some y:=by rfl)(hx:Loc X.env.scope y:=by first|exact Or.inl rfl|exact Or.inr rfl)(hse:starEach [e] X.env=(false,eval e X.env)::starEach [] X.env:=by rfl)(hw:swappedStores [.Name y py] (.Call (.Name "dict" p) [e] [] pos) X.env=pure none:=by rfl)(hf:X.fn y=true\/X.env.scope.names.lookup y=some .local:=by first|exact .inl rfl|exact .inr rfl)(hs:swapsWithSole [.Name y py] (.Call (.Name "dict" p) [e] [] pos) pos'.line X.env=pure false:=by rfl):Fm X (.Assign [.Name y py] (.Call (.Name "dict" p) [e] [] pos) pos'::bQ) (xZ i ga g2):=λG₀ H₀ pins s σ H D I ⟨G,ρ,sr,h⟩=>by
 refine cF (eU (iV qv hg hm PyProof.Rows.Boot.«dict» (bT he gh hse) (by decide) (by decide) hse rfl) (ia (i:=i) hN hi hx hf) hs hw rfl) (h2 G₀ H₀) pins s σ H D I ⟨G,ρ,sr.e,?_⟩;have h:∀q:Addr×α,jN X G₀ H₀ D ((eW (ga ρ)).out ρ λd=>match d with
  |.dct (k::ks) ds=>g2 q.2 (ρ.set i (some (.obj true DC q.1 ((k::ks).zip (ds.map Fd.val)))))
  |_=>.no):=h;cases q1:ga ρ with
 |ok d=>
  rw[q1]at h;intro v G1 H1 u1 r1;cases r1 with
  | @dct c o xs ks ds hc hk hr=>
   have sr1:=sr.ups u1;cases ks with
   |nil=>exact(h (0,default)).elim
   |cons k ks=>refine⟨c,o,xs,rfl,u1.sub _ _ hc,hk.inH u1.sub,hk.twos,λz=>by have:=hk.length;rw[z]at this;simp at this,λq o' hq=>?_⟩;obtain⟨u,ob⟩:=xN (o:=o') u1.sub hq hk hr;exact⟨G1,_,sr1.setObj u ob i,λq2=>h (q,q2)⟩
  |_=>exact(h (0,default)).elim
 |_=>rw[q1]at h;exact(h (0,default)).elim
def pE(i:Nat):Ev->O:=λρ=>match ρ[i]? with
 |some (some (.obj true C _ fs))=>if C=DC then (match fvs fs with
  |some kv=>.rt (.dct (kv.map (·.1)) (kv.map (·.2)))
  |none=>.no)else .no
 |_=>.no
def Cv(i:Nat)(hi:X.N[i]?=some x:=by rfl)(hv:Vis X.env.scope x:=by first|exact Or.inl rfl|exact Or.inr (Or.inl rfl)|exact Or.inr (Or.inr rfl))(hd:(x==("__debug__":Str))=false:=by decide)(hcd:(x==("__classdict__":Str))=false:=by decide):PSF X (.Return (some (.Name x p)) pos) (pE i):=λG₀ H₀ pins s σ H D I ⟨G,ρ,sr,h⟩=>by
 unfold pE at h;split at h
 ·rename_i C q fs e1;split at h
  ·rename_i z;subst z;obtain⟨ow,_,o2⟩:=sr.ob;obtain⟨hσ,ob⟩:=o2 i true DC q fs e1;obtain⟨o,xs,ks,ds,g1,g2,g3,g4,g5,g6,g7⟩:=ob.dco;rw[g7,sK]at h;have l1:=g5.length;have l2:=g6.length;rw[zV]at l2;have e2:(ks.zip ds).map (·.1)=ks:=List.map_fst_zip (by omega);have e3:(ks.zip ds).map (·.2)=ds:=List.map_snd_zip (by omega);have h:jN X G₀ H₀ D (.rt (.dct ((ks.zip ds).map (·.1)) ((ks.zip ds).map (·.2)))):=h;rw[e2,e3]at h;have into:Same G (upd G q (DctO q o xs)):=.into g2;refine xR (fD hi hv hd hcd) pins s σ H D I ⟨_,hσ,h (.ref q) (upd G q (DctO q o xs)) H ⟨λa u y=>?_,sr.up.gg.trans into,sr.up.hh,λa u y=>?_⟩ (.dct ay (g5.mono into) (g6.mono into))⟩
   ·by_cases ea:a=q;·subst ea;rw[ay]at y;rw[<- y];exact g1
    ·rw[au ea]at y;exact sr.e.sub a u y
   ·by_cases ea:a=q;·subst ea;exact .inr (g3 rfl)
    ·rw[au ea]at y;exact sr.up.fr a u y
  ·exact h.elim
 ·exact h.elim
def d1F:D->D->Option D:=λk v=>(qU k).map λn=>.dct [n] [v]
def gD1(gk gv:Ev->R D):Ev->R D:=λρ=>gk ρ>>=λk=>gv ρ>>=λv=>ofO (d1F k v)
def Jj{k v:Expr}{gk gv:Ev->R D}(hu:X.A.units+64<cLine)(hk:PF X k gk)(hv:PF X v gv):PF X (.Dict [some k] [v] pos) (gD1 gk gv):=λpins s σ H Q I ⟨G,ρ,st,h⟩=>by
 refine DL (by omega) hk hv pins s σ H Q I λq o hq=>?_;have u0:Up G H G (upd H q (DctO q o [])):=⟨λa u y=>by rw[au (aj y (st.sub.free hq))];exact st.sub a u y,.refl _,.into hq,λ_ _ y=>.inl y⟩
 have h:(gk ρ>>=λk=>gv ρ>>=λv=>ofO (d1F k v)).post (Fin G H (Rep X.K) Q) (Exx X σ G H):=h;have st0:=st.up u0;refine⟨G,ρ,st0,?_⟩;cases q1:gk ρ with
 |ok kd=>
  rw[q1]at h;intro kv G1 H1 u1 r1;refine⟨G1,ρ,st0.up u1,?_⟩;have h:(gv ρ>>=λv=>ofO (d1F kd v)).post (Fin G H (Rep X.K) Q) (Exx X σ G H):=h;cases q2:gv ρ with
  |ok vd=>
   rw[q2]at h;intro vv G2 H2 u2 r2;obtain⟨w,e1,h⟩:=ofO.ok (show(ofO (d1F kd vd)).post (Fin G H (Rep X.K) Q) (Exx X σ G H) from h);unfold d1F at e1;cases e2:qU kd with
   |none=>rw[e2]at e1;cases e1
   |some n=>
    rw[e2]at e1;cases e1;obtain⟨c,a,b,rfl,rfl,hc⟩:=jT e2 r1;have u:=u1.trans u2;have gq:G2 q=none:=by
     cases z:G2 q with
     |none=>rfl
     |some o'=>
      rcases u.fr q o' z with y|y;·rw[st.sub.free hq]at y;cases y
      ·rw[ay]at y;cases y
    refine⟨u.hh _ _ ay,c,[a,b],rfl,(hc.mono u2.gg).mono u2.sub,λo'=>h (.ref q) (upd G2 q (DctO q o' [([a,b],c,vv)])) _ ⟨u2.sub.both,u.gg.trans (.into gq),λx o'' y=>?_,λx o'' y=>?_⟩ (.dct ay (.cons ((hc.mono u2.gg).mono (.into gq)) .nil) (.cons (r2.mono (.into gq)) .nil))⟩;·have nx:=aj y hq;rw[au nx];exact u.hh x o'' (by rw[au nx];exact y)
    ·by_cases ex:x=q;·subst ex;exact .inr hq
     ·rw[au ex]at y;rcases u.fr x o'' y with z|z;·exact .inl z
      ·rw[au ex]at z;exact .inr z
  |ex C=>rw[q2]at h;exact Exx.up (u0.trans u1) h
  |no=>rw[q2]at h;exact h.elim
 |ex C=>rw[q1]at h;exact Exx.up u0 h
 |no=>rw[q1]at h;exact h.elim
def Cf(n:Nat):D:=.tup [.bl (n % 2==1),.bl (n / 2==1)]
def zl:D->R (List D)
 |.dct ks ds=>.ok ((ks.zip ds).map λz=>.tup [Cf z.1,z.2])
 |_=>.no
def qQ:∀a b:Bool,Cf (code a b)=.tup [.bl a,.bl b]:=by intro a b;cases a <;> cases b <;> rfl
theorem KeysAt.item{K:PySem.W.Frag}:∀{xs:DX}{ks:List Nat}{ds:List D}{i:Nat}{y:List Bool×Addr×V},KeysAt K G xs ks->Reps K G (xs.map (·.2.2)) ds->xs[i]?=some y->∃n d,(ks.zip ds)[i]?=some (n,d)/\Rep K G (.ref y.2.1) (Cf n)/\Rep K G y.2.2 d
 |_,_,_,_,_,.nil,_,e=>by simp at e
 |_,_,_,0,_,.cons (a:=a) (b:=b) h t,.cons r1 r2,e=>by simp at e;subst e;exact⟨_,_,rfl,by rw[qQ];exact .tup h (.cons (.bl a) (.cons (.bl b) .nil)),r1⟩
 |_,_,_,i+1,_,.cons h t,.cons r1 r2,e=>by obtain⟨n,d,h1,h2⟩:=KeysAt.item (i:=i) t r2 (by simpa using e);exact⟨n,d,by simpa using h1,h2⟩
def ItOk.dct{K:PySem.W.Frag}{o:Obj}{xs:DX}{ds:List D}(h:G a=some (DctO a o xs))(k:KeysAt K G xs ks)(r:Reps K G (xs.map (·.2.2)) ds):ItOk K G (Itd a o xs) ((ks.zip ds).map λz=>.tup [Cf z.1,z.2]):=by
 intro i G1 H1 s1 s2;have l1:=k.length;have l2:=r.length;rw[zV]at l2;have lz:((ks.zip ds).map λz=>D.tup [Cf z.1,z.2]).length=xs.length:=by rw[zV,List.length_zip];omega
 have hH:=s2 _ _ (s1 _ _ h);refine⟨λd e=>?_,λhl=>⟨hH,by rw[lz]at hl;exact hl⟩⟩;have hi:i<xs.length:=by rw[<- lz];exact(tj.1 e).1
 refine⟨⟨hH,hi⟩,λx H' ⟨p,y,ex,hp,hy,eH⟩=>?_⟩;subst ex eH;obtain⟨n,d',e1,e2,e3⟩:=k.item r hy;rw[u9,e1]at e;cases e;have gp:=s2.free hp;exact⟨upd G1 p (.tup [.ref y.2.1,y.2.2]),.new s2 hp,.tup (.of ay) (.cons ((e2.mono s1).mono (.into gp)) (.cons ((e3.mono s1).mono (.into gp)) .nil))⟩
def xF{kt:Nat}{tp ap:Pos}(he:PF X e ga)(hbase:attributeBase e "items" X.env (eval e X.env)=eval e X.env:=by rfl)(hline:(ap.endLine==pos.line)=true:=by rfl):
  PIF X (.Tuple elts kt tp) (.Call (.Attribute e "items" ap) [] [] pos) (λρ=>ga ρ>>=zl):=λpins s σ H Rr I ⟨G,ρ,st,h⟩=>by
 refine Bk he hbase hline pins s σ H Rr I (tG.intro st h λd v G1 H1 u1 st1 r1 h1=>?_);cases r1 with
 |dct hh k r=>exact⟨_,_,_,rfl,st1.sub _ _ hh,h1 _ G1 H1 (.refl st1.sub) (.dct hh k r)⟩
 |_=>exact h1.elim
end
def qN(key:D->R D):D->Int->List D->R D
 |b,_,[]=>.ok b
 |b,kb,x::xs=>match key x with
  |.ok (.int kx)=>if kx<kb then qN key x kx xs else qN key b kb xs
  |_=>.no
def nN(key:D->R D):List D->R D
 |x::xs=>(match key x with
  |.ok (.int kx)=>qN key x kx xs
  |_=>.no)
 | []=>.no
section
variable{g:List D->R D}{u:Value}{d:D}{n:Int}
def uo(F:FnF X.prog X.w X.K X.mg X.base k f fd ps g)(hr:Room k X.A.in1)(hh:X.A.handled=none)(hb:Binds X.K fd ps [])(hl:ps.length=1)(I:Inv X pins σ H s)(ru:RelV v u)(sub:Same G H)(rd:Rep X.K G v d)(e:g [d]=.ok (.int n)):
  wpAny (model X.prog X.w) X.A.in1 (call (.ref f) [u]) (λy s4=>∃H4 t,y=.int n t/\Inv X pins σ H4 s4/\Same H H4/\Un (frs X.stack) [] H H4 s.heap s4.heap) E s:=by
 have J:Inv { X with A:=X.A.in1 } pins σ H s:=I.cx (A':=X.A.in1) (calm':=X.calm) (pn':=X.pn) (pins':=pins) (xe':=X.xe) (λp q=>q) rfl (λ_=>hh);have hbb:=hb s [u] J.kIn (by rw[hl];rfl);refine wpAny_call (j7 (F.run X.A.in1 X.stack s H ⟨[u],[]⟩ [u] [v] (λw H4=>w=.int n/\Same H H4) (λ_ _ _=>False) hr J.env0 hbb (.cons ru .nil) ⟨by rw[hl];rfl,G,[d],sub,.cons rd .nil,?_⟩) λr s' hq=>?_);·rw[e];exact λw G' H' up rw'=>⟨rw'.int_inv,up.hh⟩
 ·cases r with
  |error z=>obtain⟨_,_,_,_,_,z⟩:=hq;exact z.elim
  |ok fl=>
   cases fl with
   |ret y=>obtain⟨w,H4,os4,bare4,un4,hok4,rk4,rfl,sm⟩:=hq;obtain⟨t,rfl⟩:=rk4;exact⟨H4,t,rfl,I.call' (s':=s') (ch:=[]) os4 un4 hok4 bare4 (λb z=>absurd z (by simp)),sm,un4⟩
   |_=>exact False.elim hq
end
section
variable{H0:Hp}{Ii S l:Addr}{g:List D->R D}{dd:D}{Rr:Result->Shared->Prop}
def Hg{prog:Program}{w:World}{A:Around}{i j:Int}{t u:Tok}{Q:Value->Shared->Prop}(h:Q (.bool (decide (i<j))) s):wpAny (model prog w) A (richCompare .Lt (.int i t) (.int j u)) Q E s:=
 richCompare_gives (op:=.Lt) (iF s _ t) (iF s _ u) PySem.F.slot_int_lt PySem.F.entry_int_lt (PySem.F.args_int_lt_2 _ _) (gives_int_lt _ _ t u) (λx=>nomatch x) h
def wD(F:FnF X.prog X.w X.K X.mg X.base k f fd ps g)(hr:Room k X.A.in1)(hh:X.A.handled=none)(hb:Binds X.K fd ps [])(hl1:ps.length=1)(hG:Same G H0)(hq:SqL X.K G l vs)(hlI:l≠Ii)(hSI:S≠Ii)(fpI:∀H',H' Ii=none->lv X pins H' Ii)(fpS:∀H',H' S=none->lv X pins H' S)(nfI:Ii∉frs X.stack)(nfS:S∉frs X.stack)(hR:∀v u H' s',Inv X pins σ H' s'->Same H0 H'->RelV v u->Rep X.K G v dd->Rr (.ok (.ret u)) s'):
  ∀(bQ:List D)(vrest:List V)(p:Nat)(b:D)(vb:V)(kb:Int)(s:Shared)(H:Hp)(ub:Value)(t:Tok)(c:Nat),p<=vs.length->vs.drop p=vrest->Reps X.K G vrest bQ->qN (λd=>g [d]) b kb bQ=.ok dd->
   Inv X pins σ H s->Same H0 H->s.heap.get? S=some (seqObj "list" #[ub,.int kb t] c)->s.heap.IsListIter Ii l p->H Ii=none->H S=none->RelV vb ub->Rep X.K G vb b->
   codeAny (model X.prog X.w) X.A (.builtin "min.loop" ⟨[.ref Ii,.ref f,.ref S],[]⟩) Rr s:=by
 intro bQ;have nm:(toString "min"++toString ".loop":String)="min.loop":=by decide
 induction bQ with
 |nil=>
  intro vrest p b vb kb s H ub t c hpl hd hrs hm I hs gS hit nI nS rb rpb;cases hm;cases hrs;obtain⟨its,rvs,pl,hz⟩:=I.list ((hq.mono hG).mono hs);have W:=Walks.list (prog:=X.prog) (w:=X.w) (A:=X.A.in1) hh Ii l hlI its.toArray;obtain rfl:p=its.toArray.size:=by have h1:=rvs.length;have h2:=List.drop_eq_nil_iff.1 hd;simp;omega
  refine k8 Yo ?_;rw[ib gR _];refine z5 (m:=seqItems? (.ref S)) (jK gS rfl (z5 (m:=tryCatch (pyNext (.ref Ii)) _) (b9 (W.done _ _ _ ⟨hit,pl.isList⟩ λh6 tk6 hk6=>?_))));have I6:Inv X pins σ H { s with heap:=h6,toks:=tk6 }:=Inv.turnedL (s:=s) (h':=h6) (t':=tk6) (ch:=[Ii]) I (λb ob hb e=>hk6 b ob hb e) (λb hb=>by rw[wc.1 hb];exact fpI H nI);have s7:=p8 h6 S (Obj.mapSeq λ_=>(#[]:Array Value));refine z5 (m:=updateSeq S λ_=>#[]) (bH (hk6 S _ (by simpa using hSI) gS) rfl (z5 (Z8 (z7 ?_))));exact hR vb ub H _ (Inv.turnedL (s:={ s with heap:=h6,toks:=tk6 }) (t':=tk6) (ch:=[S]) I6 (λb ob hb e=>(s7.2 b (by simpa using hb)).trans e) (λb hb=>by rw[wc.1 hb];exact fpS H nS)) hs rb rpb
 |cons d bQ ih=>
  intro vrest p b vb kb s H ub t c hpl hd hrs hm I hs gS hit nI nS rb rpb;cases hrs with
  |cons rd rrest=>
  rename_i v vrest;obtain⟨its,rvs,pl,hz⟩:=I.list ((hq.mono hG).mono hs);have W:=Walks.list (prog:=X.prog) (w:=X.w) (A:=X.A.in1) hh Ii l hlI its.toArray;have hvp:vs[p]?=some v:=by simpa[List.head?_drop]using o9 List.head? hd
  have hdr:vs.drop (p+1)=vrest:=by simpa[List.tail_drop]using o9 List.tail hd
  have hpl':p+1<=vs.length:=(tj.1 hvp).1;obtain⟨u,hu,ru⟩:=rvs.get hvp;obtain⟨kx,eg⟩:∃kx,g [d]=.ok (.int kx):=by
   unfold qN at hm;split at hm;·rename_i kx e;exact⟨kx,e⟩
   ·cases hm
  simp only[qN,eg]at hm;refine k8 Yo ?_;rw[ib gR _];refine z5 (m:=seqItems? (.ref S)) (jK gS rfl (z5 (m:=tryCatch (pyNext (.ref Ii)) _) (b9 (W.item p _ _ _ (by simpa using (tj.1 hu).1) ⟨hit,pl.isList⟩ λv' h3 tk3 hP hst3 hk3=>?_))));obtain rfl:v'=u:=by
   have:its[p]?=some v':=by simpa using hP
   rw[hu]at this;cases this;rfl
  obtain⟨oI,hoI,hoc,hod⟩:=id hst3.1;have I3:Inv X pins σ H { s with heap:=h3,toks:=tk3 }:=Inv.turnedL (s:=s) (h':=h3) (t':=tk3) (ch:=[Ii]) I (λb ob hb e=>hk3 b ob hb e) (λb hb=>by rw[wc.1 hb];exact fpI H nI);have gS3:h3.get? S=some (seqObj "list" #[ub,.int kb t] c):=hk3 _ _ (by simpa using hSI) gS;refine z5 (m:=tryCatch (holding [v'] (call (.ref f) [v'])) _) (b9 (q9 (t7 (uo (E:=λ_ _=>False) F hr hh hb hl1 I3 ru (hG.trans hs) rd eg) (λy s4 ⟨H4,tx,ey,I4,sm4,un4⟩=>?_) λ_ _ z=>z.elim)));subst ey;have gS4:=un4.keep _ _ gS3 nS nfS (by simp);have gI4:=un4.keep _ _ hoI nI nfI (by simp);have nI4:H4 Ii=none:=un4.free _ _ hoI nI (by simp);have nS4:H4 S=none:=un4.free _ _ gS3 nS (by simp);refine z5 (m:=tryCatch (holding [v',.int kx tx] (richCompare .Lt (.int kx tx) (.int kb t)>>=_)) _) (b9 (q9 (z5 (Hg (z5 (q9 (oQ (z5 (Z8 (z7 ?_))))))))));by_cases hlt:kx<kb
  ·rw[if_pos hlt]at hm;rw[sS hlt];have s1:=p8 s4.heap S (Obj.mapSeq λ_=>#[v',.int kx tx]);obtain⟨c2,hc2⟩:∃c2,(s4.heap.update S (Obj.mapSeq λ_=>#[v',.int kx tx])).get? S=some (seqObj "list" #[v',.int kx tx] c2):=⟨_,get?_update_seq gS4 λ_=>#[v',.int kx tx]⟩
   simp only[t8];refine z5 (bH gS4 rfl (z5 (Z8 ?_)));rw[nm];exact z7 ⟨k9 gR _,ih vrest (p+1) d v kx _ H4 v' tx c2 hpl' hdr rrest hm (Inv.turnedL (s:=s4) (t':=s4.toks) (ch:=[S]) I4 (λb ob hb e=>(s1.2 b (by simpa using hb)).trans e) (λb hb=>by rw[wc.1 hb];exact fpS H4 nS4)) (hs.trans sm4) hc2 ⟨oI,(s1.2 Ii hSI.symm).trans gI4,hoc,hod⟩ nI4 nS4 ru rd⟩
  ·rw[if_neg hlt]at hm;rw[t6 hlt];simp only[rW,t5];refine z5 (Z8 ?_);rw[nm];exact z7 ⟨k9 gR _,ih vrest (p+1) b vb kb s4 H4 ub t c hpl' hdr rrest hm I4 (hs.trans sm4) gS4 ⟨oI,gI4,hoc,hod⟩ nI4 nS4 rb rpb⟩
def za{v0:V}{vr:List V}{d0:D}{ds:List D}{kb:Int}{Q:VK}(F:FnF X.prog X.w X.K X.mg X.base k f fd ps g)(hr:Room k X.A.in1)(hh:X.A.handled=none)(hb:Binds X.K fd ps [])(hl1:ps.length=1)(I:Inv X pins σ H s)(hG:Same G H)(hq:SqL X.K G l (v0::vr))(r0:Rep X.K G v0 d0)(rr:Reps X.K G vr ds)(eg:g [d0]=.ok (.int kb))(em:qN (λd=>g [d]) d0 kb ds=.ok dd)(hQ:∀v H',Same H H'->Rep X.K G v dd->Q v H'):
  wpAny (model X.prog X.w) X.A (call (.builtin "min") [.ref l] [(Str.ofString "key",.ref f)]) (EP X pins σ Q) X.xe s:=by
 have nm:(toString "min"++toString ".loop":String)="min.loop":=by decide
 obtain⟨its,rvs,pl,hz⟩:=I.list (hq.mono hG);have hl:=pl.isList;obtain⟨ol,hol,_⟩:=id hl;have ll:l<s.heap.objs.size:=xi hol;refine kmk_tree PySem.F.kind_min PySem.F.plain_min PySem.F.entry_min (kmk_min_key _ _) ?_;refine z5 (m:=Builtin.Builtins.bindParams "min" ["key","default"] 0 ⟨[],[(Str.ofString "key",.ref f)]⟩) (Zg (a:=[some (.ref f),none]) rfl (z5 (z7 (z5 (Zs hl (z5 (wpAny_newList ?_ (v8 _))))))));rw[nm];generalize hI:s.heap.objs.size=Ii at *;have hS:(s.heap.push { cls:=.type "list_iterator",data:=.fields #[.ref l,.int 0 0] }).objs.size=Ii+1:=by rw[<- hI];exact size_push' ..
 rw[hS];have hlI:l≠Ii:=t9 ll;have hSI:Ii+1≠Ii:=pZ (g8 _);refine z7 ⟨k9 gR _,?_⟩;generalize hh2:(s.heap.push { cls:=.type "list_iterator",data:=.fields #[.ref l,.int 0 0] }).push (seqObj "list" #[] 0)=h2;have k2:∀b ob,s.heap.get? b=some ob->h2.get? b=some ob:=λb ob e=>by rw[<- hh2];exact z9 _ (z9 _ e)
 have gI:h2.get? Ii=some { cls:=.type "list_iterator",data:=.fields #[.ref l,.int 0 0] }:=by rw[<- hh2,<- hI];exact z9 _ (v7 _ rfl)
 have gS:h2.get? (Ii+1)=some (seqObj "list" #[] 0):=by rw[<- hh2,<- hS];exact v7 _ rfl
 have fpI:∀H',H' Ii=none->lv X pins H' Ii:=λH' n=>I.fpOk (by rw[hI];exact z8 _) n;have fpS:∀H',H' (Ii+1)=none->lv X pins H' (Ii+1):=λH' n=>I.fpOk (by rw[hI];exact qO _) n;have nI:H Ii=none:=I.hok.fresh (by rw[hI];exact z8 _);have nS:H (Ii+1)=none:=I.hok.fresh (by rw[hI];exact qO _);have noF:∀b,s.heap.objs.size<=b->b∉frs X.stack:=λb hb z=>by
  rcases y9.1 (I.stkSub b z)with rfl|z;·exact absurd I.lt (sT.2 hb)
  ·exact I.nofs hb z
 have nfI:Ii∉frs X.stack:=noF _ (by rw[hI];exact z8 _);have nfS:(Ii+1)∉frs X.stack:=noF _ (by rw[hI];exact qO _);have W:=Walks.list (prog:=X.prog) (w:=X.w) (A:=X.A.in1) hh Ii l hlI its.toArray;obtain⟨u0,hu0,ru⟩:=rvs.get (i:=0) (x:=v0) rfl;refine k8 Yo ?_;rw[ib gR _];refine z5 (m:=seqItems? (.ref _)) (jK gS rfl (z5 (m:=tryCatch (pyNext (.ref Ii)) _) (b9 (W.item 0 _ _ _ (by simpa using (tj.1 hu0).1) ⟨⟨_,gI,rfl,rfl⟩,hl.at λo e=>k2 _ _ e⟩ λv h3 tk3 hP hst3 hk3=>?_))));obtain rfl:v=u0:=by
  have:its[0]?=some v:=by simpa using hP
  rw[hu0]at this;cases this;rfl
 obtain⟨oI,hoI,hoc,hod⟩:=id hst3.1;have I3:Inv X pins σ H { s with heap:=h3,toks:=tk3 }:=Inv.turnedL (s:={ s with heap:=h2,toks:=s.toks }) (h':=h3) (t':=tk3) (ch:=[Ii]) (I.kept k2) (λb ob hb e=>hk3 b ob hb e) (λb hb=>by rw[wc.1 hb];exact fpI H nI);have gS3:h3.get? (Ii+1)=some (seqObj "list" #[] 0):=hk3 _ _ (by simp) gS;refine z5 (m:=tryCatch (holding [v] (call (.ref f) [v])) _) (b9 (q9 (t7 (uo (E:=λ_ _=>False) F hr hh hb hl1 I3 ru hG r0 eg) (λy s4 ⟨H4,tx,ey,I4,sm4,un4⟩=>?_) λ_ _ z=>z.elim)));subst ey;have gS4:=un4.keep _ _ gS3 nS nfS (by simp);have gI4:=un4.keep _ _ hoI nI nfI (by simp);have nI4:H4 Ii=none:=un4.free _ _ hoI nI (by simp);have nS4:H4 (Ii+1)=none:=un4.free _ _ gS3 nS (by simp);have s5:=p8 s4.heap (Ii+1) (Obj.mapSeq λ_=>#[v,.int kb tx]);obtain⟨c5,hc5⟩:∃c5,(s4.heap.update (Ii+1) (Obj.mapSeq λ_=>#[v,.int kb tx])).get? (Ii+1)=some (seqObj "list" #[v,.int kb tx] c5):=⟨_,get?_update_seq gS4 λ_=>#[v,.int kb tx]⟩
 refine z5 (m:=updateSeq (Ii+1) λ_=>#[v,.int kb tx]) (bH gS4 rfl ?_);rw[nm];refine z7 ⟨k9 gR _,?_⟩;exact wD (H0:=H) (G:=G) (vs:=v0::vr) F hr hh hb hl1 hG hq hlI hSI fpI fpS nfI nfS (λv u H' s' I' sm' rv' rp'=>⟨v,H',I',rv',hQ v H' sm' rp'⟩) ds vr 1 d0 v0 kb _ H4 v tx c5 (by simp) rfl rr em (Inv.turnedL (s:=s4) (t':=s4.toks) (ch:=[Ii+1]) I4 (λb ob hb e=>(s5.2 b (by simpa using hb)).trans e) (λb hb=>by rw[wc.1 hb];exact fpS H4 nS4)) sm4 hc5 ⟨oI,(s5.2 Ii (sj hSI)).trans gI4,hoc,hod⟩ nI4 nS4 ru r0
end
theorem rD{key:D->R D}:∀{xs:List D}{b:D}{kb:Int},(∃d,qN key b kb xs=.ok d)\/qN key b kb xs=.no
 | [],b,kb=>.inl ⟨_,rfl⟩
 |x::xs,b,kb=>by
  unfold qN;split
  ·split;·exact rD
   ·exact rD
  ·exact .inr rfl
def yc{key:D->R D}{x:D}{xs:List D}:(∃kb d,key x=.ok (.int kb)/\qN key x kb xs=.ok d/\nN key (x::xs)=.ok d)\/nN key (x::xs)=.no:=by
 show _\/(match key x with
  |.ok (.int kx)=>qN key x kx xs
  |_=>.no)=.no;have e0:nN key (x::xs)=(match key x with
  |.ok (.int kx)=>qN key x kx xs
  |_=>.no):=rfl;rw[e0];cases e:key x with
 |ok d=>
  cases d with
  |int kb=>
   rcases rD (key:=key) (xs:=xs) (b:=x) (kb:=kb)with⟨d,h⟩|h;·exact .inl ⟨kb,d,rfl,h,h⟩
   ·exact .inr h
  |_=>exact .inr rfl
 |_=>exact .inr rfl
def rO(ga:Ev->R D)(g:List D->R D):Ev->R D:=λρ=>ga ρ>>=λd=>match d with
 |.lst _ xs=>nN (λd=>g [d]) xs
 |_=>.no
def BS{a:Expr}{ga:Ev->R D}{fn:Str}{g:List D->R D}{fp kp:Pos}(hc:X.calm=true)(hg:Gl X "min")(hm:X.mg "min"=none)(c:Callee X.prog X.w X.K X.mg X.base fn k 1 g)(hr:Room k X.A.in1)(ha:PF X a ga)(hgf:Gl X fn:=by rfl)(hdb:(fn==("__debug__":Str))=false:=by decide)(hs:starEach [a] X.env=(false,eval a X.env)::starEach [] X.env:=by rfl)(hall:(backToKw pos (keywordEach [⟨some "key",.Name fn fp,kp⟩] X.env)).all (·.1.isSome)=true:=by rfl)(hks:(backToKw pos (keywordEach [⟨some "key",.Name fn fp,kp⟩] X.env)).filterMap (·.1)=[("key":Str)]:=by rfl)(hpl:((backTo pos (starEach [a] X.env)).any (·.1) || (backToKw pos (keywordEach [⟨some "key",.Name fn fp,kp⟩] X.env)).any (·.1.isNone))=false:=by rfl):
  PF X (.Call (.Name "min" p) [a] [⟨some "key",.Name fn fp,kp⟩] pos) (rO ga g):=λpins s σ H Q I ⟨G,ρ,st,h⟩=>by
 obtain⟨f,fd,ps,F,hmf,hkp,hb,hl1⟩:=c.ex;have ta:mZ (tF X ga) Fj σ H (λvs H1=>∃v,vs=[v]/\∃G1 d,Up G H G1 H1/\Rep X.K G1 v d/\(match d with|.lst _ xs=>nN (λd=>g [d]) xs|_=>.no:R D).post (Fin G1 H1 (Rep X.K) Q) (Exx X σ G1 H1)):=
  tG.intro st h λd v G1 H1 u1 st1 r1 h1=>⟨v,rfl,G1,d,u1,r1,h1⟩
 refine Z4 (kC I hg hm PyProof.Rows.Boot.«min» ?_ (by decide) (by decide));refine PySem.W.callWith_of (P:=λ_=>True) hpl (λh _=>by first|exact⟨_,.inl rfl,Yp rfl⟩|exact⟨_,.inr (.inl rfl),Yp rfl⟩|exact⟨_,.inr (.inr rfl),Yp rfl⟩) (evalArgs_kw2 hall (thn ((bT ha gh hs) pos pins s σ H _ I ta) λus s1 ⟨vs,H1,I1,r1,q1⟩=>?_) hs);obtain⟨v,hv,G1,d,u1,rd,h1⟩:∃v,vs=[v]/\∃G1 d,Up G H G1 H1/\Rep X.K G1 v d/\(match d with|.lst _ xs=>nN (λd=>g [d]) xs|_=>.no:R D).post (Fin G1 H1 (Rep X.K) Q) (Exx X σ G1 H1):=q1;subst hv;obtain⟨u,rfl,rv⟩:=r1.one;show wpAny _ _ (evalAll ((do let v <- eval (.Name fn fp) X.env;standAt pos;pure v)::(backToKw pos (keywordEach [] X.env)).map (·.2))) _ _ s1;refine wpAny_evalAll_cons (z5 (thn (rz (v:=.ref f) hgf hmf rfl hdb pins s1 σ H1 (λw H2=>w=.ref f/\H2=H1) I1 ⟨rfl,rfl⟩) λfv s2 ⟨w,H2,I2,rw2,ew,eh⟩=>z5 (Zq (z7 (wpAny_evalAll_nil ⟨trivial,?_⟩)))));subst ew eh;cases rw2;rw[hks];have fin:∀{l:Addr}{v0:V}{vr:List V}{x0:D}{ds:List D},u=.ref l->SqL X.K G1 l (v0::vr)->Rep X.K G1 v0 x0->Reps X.K G1 vr ds->(nN (λd=>g [d]) (x0::ds)).post (Fin G1 H2 (Rep X.K) Q) (Exx X σ G1 H2)->
   wpAny (model X.prog X.w) X.A (call (.builtin "min") [u] [(Str.ofString "key",.ref f)]) (EP X pins σ Q) X.xe s2:=by
  intro l v0 vr x0 ds eu hq r0 rr h0;subst eu;rcases yc (key:=λd=>g [d]) (x:=x0) (xs:=ds)with⟨kb,dd,eg,em,e1⟩|e1
  ·rw[e1]at h0;exact za F hr (I2.ok.hd hc) hb hl1 I2 u1.sub hq r0 rr eg em λv H' sm rp=>h0 v G1 H' ⟨u1.sub.trans sm,.refl _,sm,λa o h=>.inl h⟩ rp
  ·rw[e1]at h0;exact h0.elim
 cases rd with
 |lst hq t=>
  cases rv;cases t with
  |nil=>exact h1.elim
  |cons r0 t=>exact fin rfl (.of hq) r0 t h1
 |fls hq t=>
  cases rv;cases t with
  |nil=>exact h1.elim
  |cons r0 t=>exact fin rfl hq r0 t h1
 |_=>exact h1.elim
def jR(K:PySem.W.Frag)(c:Addr)(d:D):Prop:=∀G,Rep K G (.ref c) d
def aL{c:Addr}{d:D}(hg:Gl X x)(hm:X.mg x=some (.ref c))(hk:jR X.K c d)(hd:(x==("__debug__":Str))=false:=by decide):PF X (.Name x pos) (λ_=>.ok d):=λpins s σ H Q I ⟨G,ρ,st,q⟩=>rz (v:=.ref c) hg hm rfl hd pins s σ H Q I (q _ G H (.refl st.sub) (hk G))
def A5{K:PySem.W.Frag}{c:Addr}{o:Obj}{its:Array Value}{n:Nat}{ds:List D}(h1:K.lookup c=some o)(h2:o.cls=.type "tuple")(h3:o.data=.seq its n)(h4:its.size<=sizeLine)(h5:Vals vs its.toList)(h6:∀G,Reps K G vs ds):jR K c (.tup ds):=λG=>.tup (.inr ⟨o,its,n,h1,h2,h3,h4,h5⟩) (h6 G)
def Ih{a b:Expr}{ga:Ev->R D}(h:PF X (.Subscript a b pos) ga):PB X (.Subscript a b pos) (aq jy ga):=xY h
def DV(l:Addr)(items:Array Value)(n:Nat)(b:Addr)(items2:Array Value)(hs1:items.size+items2.size<=sizeLine):
  Meets (Builtin.«list.extend» { pos:=[.ref l,.ref b] }) λ_ R s=>s.heap.get? l=some { cls:=.type "list",data:=.seq items n }/\IsTup s.heap b items2/\R (.ok (.ret .none)) { s with heap:=s.heap.update l (Obj.mapSeq λx=>x++items2) }:=by
 intro prog w A R s ⟨hl,⟨o,e2,hc,n2,hd⟩,h⟩;show wpAny _ _ (selfAndOne "list.extend" { pos:=[.ref l,.ref b] }>>=_) _ _ s;refine z5 (Zg (a:=(.ref l,.ref b)) rfl ?_);show wpAny _ _ (Builtin.List.listExtendWith (.ref l) (.ref b) .none) _ _ s;unfold Builtin.List.listExtendWith;refine z5 (iD (T:="tuple") ⟨o,e2,hc⟩ ?_);rw[if_pos (by rw[Bool.or_eq_true];exact .inr (by decide))];unfold Builtin.List.listItems;refine z5 (z5 (jK e2 hd (z7 ?_)));refine z5 (z5 (jK hl rfl (z7 ?_)));dsimp only;rw[nQ hs1,d9,if_neg (by decide)];show wpAny _ _ (updateSeq l (λx=>x++items2)>>=_) _ _ s;refine z5 (bH (hz:=w6 (Nat.le_add_right _ _) hs1) (_hz':=?_) hl rfl ?_);·exact z7 (a:=Fin.done (.ret .none)) h
 ·rw[Array.size_append];omega
def KP(K:PySem.W.Frag):V->List V->Hp->VK->Prop:=λx vs H Q=>∃l b xs zs,x=.ref l/\vs=[.ref b]/\H l=some (.lst xs)/\SqT K H b zs/\xs.length+zs.length<=sizeLine/\Q .non (upd H l (.lst (xs++zs)))
theorem ED:MtM X "list.extend" (KP X.K):=by
 intro pins s σ H x vs v us Q I rx rv h;obtain⟨l,b,xs,zs,rfl,rfl,hH,hB,hz,q⟩:=h;cases rx;obtain⟨u,rfl,ru⟩:=rv.one;cases ru;obtain⟨z,its,n,r,hl,e⟩:=I.lstM hH;obtain⟨its2,r2,it2,z2⟩:=I.tuple hB;have hl2:=r2.length;have hsz:its.toArray.size+its2.toArray.size<=sizeLine:=by rw[wg,wg];omega
 refine lT F.slot_list_extend ⟨_,e,rfl⟩ F.entry_list_extend (F.args_list_extend_2 _ _) (DV l its.toArray n b its2.toArray hsz) ⟨e,it2,?_⟩;refine⟨.non,_,I.lset (its':=its++its2) hH e (by simp) (r.append r2) ?_,rfl,q⟩;rw[v6];omega
def asT:D->R (List D)
 |.tup xs=>.ok xs
 |_=>.no
def Ew(i:Nat)(ga:Ev->R D):Ev->O:=λρ=>(ownAt ρ i).out ρ λds=>(ga ρ).out ρ λd=>(asT d).out ρ λes=>if ds.length+es.length<=sizeLine then .nx (ρ.set i (some (.own (ds++es))))else .no
def HG{e:Expr}{ga:Ev->R D}(i:Nat){ap cp:Pos}(he:PF X e ga)(hi:X.N[i]?=some x:=by rfl)(hv:Vis X.env.scope x:=by first|exact Or.inl rfl|exact Or.inr (Or.inl rfl))(hd:(x==("__debug__":Str))=false:=by decide)(hcd:(x==("__classdict__":Str))=false:=by decide)(hs1:starEach [e] X.env=(false,eval e X.env)::starEach [] X.env:=by rfl)(hbase:attributeBase (.Name x p) "extend" X.env (eval (.Name x p) X.env)=eval (.Name x p) X.env:=by rfl)(hfew:((backTo cp (starEach [e] X.env)).all (λx=>!x.1) && (backToKw cp (keywordEach [] X.env)).all (λx=>x.1.isSome)
 && decide ([e].length+([]:List Keyword).length+(if ([]:List Keyword).isEmpty then 0 else 1)<30))=true:=by rfl)(hline:(ap.endLine==cp.line)=true:=by rfl)(hs:swapsWith (.Call (.Attribute (.Name x p) "extend" ap) [e] [] cp) none pos.line X.env=pure false:=by rfl):
  PSF X (.Expr (.Call (.Attribute (.Name x p) "extend" ap) [e] [] cp) pos) (Ew i ga):=λG₀ H₀ pins s σ H D I h=>by
 refine jh (wR ZL PySem.F.slot_list_extend PySem.F.type_list_extend ED (fD hi hv hd hcd) (bT he gh hs1) hbase hfew hline hs1 rfl) hs pins s σ H D I ?_;obtain⟨G,ρ,sr,h⟩:=h;have h:jN X G₀ H₀ D ((ownAt ρ i).out ρ λds=>(ga ρ).out ρ λd=>(asT d).out ρ λes=>if ds.length+es.length<=sizeLine then .nx (ρ.set i (some (.own (ds++es))))else .no):=h;obtain⟨ds,e1,h⟩:=ownAt.ok h;obtain⟨l,vs,h1,h2,h3,h4,h5⟩:=sr.own i ds e1;refine⟨.ref l,h1,.inl ⟨rfl,vs,.of h2⟩,G,ρ,sr.e,?_⟩;cases q:ga ρ with
 |ok d=>
  rw[q]at h;simp only[R.out]at h;intro v G' H' u r;cases r with
  |tup hb t=>
   rename_i b ws es;have h:jN X G₀ H₀ D (if ds.length+es.length<=sizeLine then .nx (ρ.set i (some (.own (ds++es))))else .no):=h;by_cases hz:ds.length+es.length<=sizeLine;·rw[if_pos hz]at h;refine⟨l,b,vs,ws,rfl,rfl,u.hh _ _ h2,hb.mono u.sub,by rw[h5.length,t.length];exact hz,h _ G' _ ?_⟩;exact(sr.ups u).mut e1 h1 ((h5.mono u.gg).append t)
   ·rw[if_neg hz]at h;exact h.elim
  |_=>exact h.elim
 |ex C=>rw[q]at h;exact Exx.of sr h
 |no=>rw[q]at h;exact h
section
variable{prog:Program}{w:World}{A:Around}{a₀:Array Keyed}{κ:KeyKind}{kd:SortKind}{st:SortSt}{π:Nat->Nat}{n:Nat}
structure SB(kd:SortKind)(a₀:Array Keyed)(st:SortSt):Prop where
 perm:(arrOf st).Perm a₀
 kind:kindOf st=kd
 failed:failedOf st=none
 pend:pendingOf st = #[]
def Bef(κ:KeyKind)(a₀:Array Keyed)(i j:Nat):Prop:=κ.blt (KK κ a₀ j) (KK κ a₀ i)=false/\(i<j\/κ.blt (KK κ a₀ i) (KK κ a₀ j)=true)
structure Pr(kd:SortKind)(a₀:Array Keyed)(st:SortSt)(π:Nat->Nat)(k:Nat):Prop where
 b:SB kd a₀ st
 g:∀i,(arrOf st)[i]?=a₀[π i]?
 hi:∀i,k<=i->π i=i
 lo:∀i,i<k->π i<k
structure Ds(κ:KeyKind)(kd:SortKind)(a₀:Array Keyed)(st:SortSt)(π:Nat->Nat)(p n:Nat):Prop where
 b:SB kd a₀ st
 g:∀i,(arrOf st)[i]?=a₀[π i]?
 pn:p<=n
 hi:∀i,p<=i->π i=i
 lo:∀i,i<p->π i<p
 r:∀i j,i<j->j<p->Bef κ a₀ (π j) (π i)
 t:∀i j,p<=i->i<n->p<=j->j<n->KK κ a₀ i=KK κ a₀ j
 u:∀i j,i<p->p<=j->j<n->κ.blt (KK κ a₀ j) (KK κ a₀ (π i))=true
def CO(π:Nat->Nat)(p n i:Nat):Nat:=if p<=i/\i<n then p+n - 1 - i else π i
structure Rv(κ:KeyKind)(kd:SortKind)(a₀:Array Keyed)(st:SortSt)(π:Nat->Nat)(n:Nat):Prop where
 b:SB kd a₀ st
 g:∀i,(arrOf st)[i]?=a₀[π i]?
 hi:∀i,n<=i->π i=i
 lo:∀i,i<n->π i<n
 r:∀i j,i<j->j<n->Bef κ a₀ (π j) (π i)
end
section
variable{elt:Expr}{ifs:List Expr}{N':List Str}{px:Pos}{gt:Ev->R Bool}
noncomputable def bD(X:Cx)(N':List Str)(x:Str)(scope:Scope)(C:Addr)(s₂:Shared)(H₂:Hp)(fp:List Addr):Cx:=
 { X with N:=N',s₀:=s₂,H₀:=H₂,env:=compEnvC scope ((x,C+1)::mU X.env scope.names []) C X.env,outer:=X.stack,stack:=X.stack,ex:=fp,fn:=λy=>y==x,pn:=[],xe:=λ_ _=>False }
structure CompOkD(X:Cx)(scope:Scope)(x:Str)(N':List Str)(ix:List Nat):Prop where
 kind:scope.kind=.function
 names:∀y∈scope.names,y.2=.local->scope.names.lookup y.1=some .local
 cells:∀L cs,cellsFrom L scope.names cs=(x,L)::cs
 lkx:(relabel scope X.env).names.lookup x=some .cell
 cel:∀y∈scope.names,y.2=.cell->y.1=x
 fr:∀y∈scope.names,y.2=.free->X.env.kindOf y.1=some .cell
 nd:N'.Nodup
 hd:N'[0]?=some x
 tl:N'.drop 1=ix.map λ(i:Nat)=>X.N.getD i Str.empty
 lt:∀i∈ix,i<X.N.length
 fre:∀y∈N'.drop 1,scope.names.lookup y=some .free/\(y,NameKind.free)∈scope.names
 nx:∀y∈N'.drop 1,y≠x
def Es{M:Model}{A:Around}{globals:Addr}{env:Env}{Q:Env->Shared->Prop}{cl:List (Str×Addr)}(hc:∀L cs,cellsFrom L scope.names cs=(x,L)::cs)(hQ:∀h',h'.Ns s.heap.objs.size (λ_=>none)->h'.IsCell (s.heap.objs.size+1) none->(∀b o,s.heap.get? b=some o->h'.get? b=some o)->
 Q (newEnv scope s.heap.objs.size globals ((x,s.heap.objs.size+1)::cl) qual none .none (some env) builtinsNs) { s with heap:=h' }):
  wpAny M A (newFunctionEnv scope globals cl [] qual none .none (some env)) Q E s:=by
 simp only[newFunctionEnv,Option.isSome_some,t8];refine z5 (wpAny_alloc ?_);refine z5 (wpAny_layCells _ (λname kind cells=>by cases hkc:kind==NameKind.cell <;> simp[hkc]) _ _ _ _ ?_);have ok:=cellsFrom_ok scope.names (s.heap.push { cls:=.type "dict",data:=.dict #[] }) (s.heap.objs.size+1) [] ⟨λ_ _ hm=>(nomatch hm),List.Pairwise.nil⟩ (by rw[n4];exact z8 _);rw[n4,hc]at ok;rw[show({ s with heap:=s.heap.push { cls:=.type "dict",data:=.dict #[] } }:Shared).heap.objs.size=s.heap.objs.size+1 from n4 ..,hc];rw[List.forIn_nil];refine z5 (z7 (z7 ?_));exact hQ _ ((Heap.Ns.new s.heap (.type "dict")).keeps (pushCells_keeps _ _)) (ok.empty x _ (wc.2 rfl)).1 λb o e=>pushCells_keeps _ _ b o (z9 _ e)
def xh{h₁:Heap}{tk:Nat}{m:Str->Option Value}(ok:CompOkD X scope x N' ix)(hcalm:X.calm=true)(I:Inv X pins σ H s)(hf:∀b∈fp,lv X pins H b)(hfl:∀b∈fp,b<s.heap.objs.size)(hC:s.heap.objs.size<=C)(hn:h₁.Ns C m)(hcc:h₁.IsCell (C+1) none)(old:∀b o,s.heap.get? b=some o->h₁.get? b=some o)(un:Un (frs X.stack) fp H H' s.heap h₁)(hok:HOk X.prog X.w H' h₁)(hfC:H' C=none)(hfC1:H' (C+1)=none)(hfc:∀c:Addr,c<s.heap.objs.size->H c=none->H' c=none):
  Inv (bD X N' x scope C s H fp) [] (cq 1 ix σ) H' { s with heap:=h₁,toks:=tk }:=by
 have clx:∀y c,(mU X.env scope.names []).lookup y=some c->X.env.cells.lookup y=some c:=nP scope.names [] (λy c h=>by simp at h);have cl:∀y c,((x,C+1)::mU X.env scope.names []).lookup y=some c->(y=x/\c=C+1)\/(y≠x/\X.env.cells.lookup y=some c):=λy c h=>by
  rw[s9]at h;split at h;·rename_i q;cases h;exact .inl ⟨j5 q,rfl⟩
  ·rename_i q;exact .inr ⟨λz=>by rw[z]at q;simp at q,clx y c h⟩
 have old_lt:∀y c,X.env.cells.lookup y=some c->c<s.heap.objs.size:=λy c h=>by obtain⟨v,q⟩:=I.cell y c h;exact q.lt
 have nlt:N'.length=1+ix.length:=by have h1:=o9 List.length ok.tl;rw[lM,zV]at h1;have:=(tj.1 ok.hd).1;omega
 refine⟨⟨I.ok.mod,by show(relabel scope X.env).kind=_;exact ok.kind,I.ok.glob,I.ok.blt,hC,?_,?_,?_,I.ok.hd,I.ok.frames,.inl rfl,?_,I.bs,w6 I.ok.bsz I.sz,?_,?_,I.stack,I.stkFree,I.ok.tabs.un I.base⟩,rfl,I.bare,un,?_,?_,hfC,?_,?_,hok,?_⟩
 ·intro y z c h1 h2;rcases cl y c h1 with⟨a,b⟩|⟨a,b⟩
  ·rcases cl z c h2 with⟨a',b'⟩|⟨a',b'⟩;·rw[a,a']
   ·have:=old_lt z c b';rw[b]at this;exact absurd this (sT.2 (fH hC))
  ·rcases cl z c h2 with⟨a',b'⟩|⟨a',b'⟩;·have:=old_lt y c b;rw[b']at this;exact absurd this (sT.2 (fH hC))
   ·exact I.ok.inj y z c b b'
 ·intro y hy;by_cases yx:y=x;·subst yx;exact⟨C+1,by show List.lookup y ((y,C+1)::_)=_;rw[s9];simp⟩
  have h1:(y,NameKind.free)∈scope.names:=by
   have hy':(relabel scope X.env).names.lookup y=some .cell\/(relabel scope X.env).names.lookup y=some .free:=hy;have mem:∀k,(relabel scope X.env).names.lookup y=some k->(k=.cell\/k=.free)->(y,NameKind.free)∈scope.names:=λk e hk=>by
    have hm:=iq e;obtain⟨⟨n,k'⟩,hm1,hm2⟩:=s8.mp hm;dsimp only at hm2;split at hm2
    ·rename_i hc;cases hm2;have:k'=.free:=by have:=(u8 _ _▸(u8 _ _▸hc).1).1;simpa using this
     rw[<- this];exact hm1
    ·cases hm2;rcases hk with rfl|rfl;·exact absurd (ok.cel _ hm1 rfl) yx
     ·exact hm1
   rcases hy' with h|h;·exact mem _ h (.inl rfl)
   ·exact mem _ h (.inr rfl)
  have hc:=I.ok.has y (.inl (ok.fr _ h1 rfl));obtain⟨c,hc⟩:=iR scope.names [] y (.inr ⟨h1,hc⟩);refine⟨c,?_⟩;show List.lookup y ((x,C+1)::mU X.env scope.names [])=_;rw[s9,show(y==x)=false from p9.2 yx];exact hc
 ·intro y c hfn h;rcases cl y c h with⟨a,b⟩|⟨a,b⟩;·rw[b];exact fH hC
  ·exact absurd (j5 hfn) a
 ·intro b hb;obtain⟨f0,f1,f2,f3,f4,f5⟩:=hf b hb;refine⟨λz=>absurd (hfl b hb) (by rw[z];exact sT.mpr hC),λy c h z=>?_⟩;rcases cl y c h with⟨a,e⟩|⟨a,e⟩
  ·rw[e]at z;exact absurd (hfl b hb) (by rw[<- z];exact sT.mpr (fH hC))
  ·exact f4 y c e z
 ·intro b o e hb;obtain⟨f0,f1,f2,f3,f4,f5⟩:=hf b hb;rcases f3 with f3|f3;·exact I.ok.noex b o e f3
  ·exact absurd (xi (I.ok.bs b o e).1) (sT.mpr f3)
 ·intro b hb hb';obtain⟨f0,f1,f2,f3,f4,f5⟩:=hf b hb;rcases y9.mp (I.stkSub b hb')with e|e;·exact f1 e
  ·exact f2 e
 ·refine⟨m,hn,λi y v h1 h2 h3=>?_⟩;have h1:N'[i]?=some y:=h1;have h2:(cq 1 ix σ)[i]?=some (some v):=h2;by_cases hi:i<1;·unfold cq at h2;rw[qq (by simpa using hi),lE,if_pos hi]at h2;cases h2
  ·unfold cq at h2;rw[pT (by simpa using sT.1 hi),pV,u9]at h2;cases e:ix[i - 1]? with
   |none=>rw[e]at h2;cases h2
   |some i0=>
    rw[e]at h2;have h2':σ[i0]?=some (some v):=by
     cases q:σ[i0]? with
     |none=>rw[q8,q]at h2;cases h2
     |some z=>rw[q8,q]at h2;have:=vC h2;rw[<- this];rfl
    have ht:(N'.drop 1)[i - 1]?=some y:=by rw[Zb,Nat.add_sub_cancel' (sT.1 hi)];exact h1
    have hy:X.N[i0]?=some y:=by have ht2:=ht;rw[ok.tl,u9,e]at ht2;have hl:=ok.lt i0 (nZ e);have q:=vC ht2;rw[vY hl];rw[<- q];show some X.N[i0]=some (X.N.getD i0 Str.empty);rw[v9,vY hl];rfl
    obtain⟨fr1,fr2⟩:=ok.fre y (nZ ht);have kc:=ok.fr _ fr2 rfl;obtain⟨m0,hn0,hl⟩:=I.loc;obtain⟨u,ru,lk⟩:=hl i0 y v hy h2' (.inr (.inl kc));refine⟨u,ru,.inr ⟨.inl (fL I.ok.kind fr1 kc),?_⟩⟩;rcases lk with⟨z,_⟩|⟨_,c,hc,hcell⟩;·rw[kc]at z;cases z
    ·obtain⟨c',hc'⟩:=iR scope.names [] y (.inr ⟨fr2,c,hc⟩);have:=clx y c' hc';rw[hc]at this;cases this;refine⟨c,?_,hcell.keeps old⟩;show List.lookup y ((x,C+1)::mU X.env scope.names [])=_;rw[s9,show(y==x)=false from p9.2 (ok.nx y (nZ ht))];exact hc'
 ·intro y c h;rcases cl y c h with⟨a,e⟩|⟨a,e⟩;·rw[e];exact⟨none,hcc⟩
  ·obtain⟨v,q⟩:=I.cell y c e;exact⟨v,q.keeps old⟩
 ·intro y c h;rcases cl y c h with⟨a,e⟩|⟨a,e⟩;·rw[e];exact hfC1
  ·obtain⟨v,q⟩:=I.cell y c e;exact hfc c q.lt (I.freeC y c e)
 ·intro p hp;exact absurd (show p∈([]:List (Addr×Obj)) from hp) (by simp)
 ·show(cq 1 ix σ).length=N'.length;rw[nlt];simp[cq];omega
def sX{tn : Nat -> Heap -> Prop}{J : It}{Q : VK}{RR : Value -> Addr -> Result -> Shared -> Prop}{E : Value -> Shared -> Prop}(ok : CompOkD X scope x N' ix)(hcalm : X.calm = true)(he : ∀C s₂ H₂ fp, PF (bD X N' x scope C s₂ H₂ fp) elt ge)(ht : ∀C s₂ H₂ fp, PTs (bD X N' x scope C s₂ H₂ fp) ifs gt)(I : Inv X pins σ H s)(T : Turn X.prog X.w X.K (.Name x px) J fp it tn)(st0 : tn 0 s.heap)(hf : ∀b ∈ fp, lv X pins H b)(st : StE X.K G H σ ρ)(hi : ItOk X.K G J items)(h : (cH (gO 0) gt ge items (dC 1 ix ρ) >>= λds => if ds.length <= sizeLine then R.ok ds else .no).post (oh X.K G H Q) (Exx X σ G H))(hR : ∀(Dd C : Addr)(s' : Shared)(m : Str -> Option Value)(vs : List V)(G' H' : Hp), Up G H G' H' -> H' Dd = none -> C≠Dd -> (∀ds, Reps X.K G' vs ds -> True) -> Q (.ref Dd) (upd H' Dd (.lst vs)) -> s'.heap.Ns C m -> s'.os = s.os -> AllBare s'.gens -> H' C = none -> s.heap.objs.size <= C ->
 Un (frs X.stack) fp H (upd H' Dd (.lst vs)) s.heap s'.heap -> HOk X.prog X.w (upd H' Dd (.lst vs)) s'.heap -> RR (.ref Dd) C (.ok .next) s'):
    wpAny (model X.prog X.w) X.A (newList []) (λacc s₃ => wpAny (model X.prog X.w) X.A (newFunctionEnv scope X.env.globals (mU X.env scope.names []) [] X.env.qual none .none (some X.env)) (λcenv s₄ =>codeAny (model X.prog X.w) X.A (.compStart (.ListComp elt [⟨.Name x px, iter, ifs, 0⟩] scope pos) 0 (.ref it) acc { cenv with scope := relabel scope X.env }) (RR acc cenv.locals) s₄) E s₃) E s := by
  have hown : ∀d ρ ρ', gO 0 d ρ = .ok ρ' -> NoOwn ρ -> NoOwn ρ' := uA;have lkx := ok.lkx;have hg : ∀C s₂ H₂ fp, PGF (bD X N' x scope C s₂ H₂ fp) (.Name x px) (gO 0) := λC s₂ H₂ fp => cU (X := bD X N' x scope C s₂ H₂ fp) (pos := px) 0 ok.nd ok.hd (.inr lkx) (.inl (by show(x == x) = true; simp));have hfl : ∀b ∈ fp, b < s.heap.objs.size := λb hb => let⟨o, e, _⟩ := T.obj 0 s.heap st0 b hb; xi e;refine o5 (Es ok.cells λh₁ hns₁ hcc₁ old₁ => ?_);dsimp only at hns₁ hcc₁ old₁⊢;generalize hH2 : s.heap.push { cls := .type "list", dict := none, data := .seq ([] : List Value).toArray } = Hq at hns₁ hcc₁ old₁⊢;have hC : Hq.objs.size = s.heap.objs.size + 1 := by rw[<- hH2, n4]
  have hDC : s.heap.objs.size≠Hq.objs.size := by rw[hC]; exact t9 (g8 _)
  have hCle : s.heap.objs.size <= Hq.objs.size := by rw[hC]; exact qO _
  have old : ∀b o, s.heap.get? b = some o -> h₁.get? b = some o := λb o e => old₁ b o (hH2▸z9 _ e);have hacc : h₁.get? s.heap.objs.size = some { cls := .type "list", data := .seq ([] : List Value).toArray } := old₁ _ _ (hH2▸v7 _ rfl);have hD0 : H s.heap.objs.size = none := I.fresh;have hC0 : H Hq.objs.size = none := I.hok.fresh hCle;have hC1 : H (Hq.objs.size + 1) = none := I.hok.fresh (fH hCle);have st0' : tn 0 h₁ := T.keep 0 _ _ st0 λb hb o e => old b o e;have I0 : ∀tk, Inv (bD X N' x scope Hq.objs.size s H fp) [] (cq 1 ix σ) (upd H s.heap.objs.size (.lst [])) { s with heap := h₁, toks := tk } := λtk =>
    xh ok hcalm I hf hfl hCle hns₁ hcc₁ old (Un.laid old (z8 _) hD0) (I.hok.laid old (z8 _) ⟨v8 _, [], 0, .nil, hacc⟩) (by rw[au hDC.symm]; exact hC0) (by rw[au (by rw[hC]; exact pZ (Zc (g8 _)))]; exact hC1) (λc hc n => by rw[au (t9 hc)]; exact n);have loop : ∀tk, codeAny (model X.prog X.w) X.A (.compLoop (.ListComp elt [⟨.Name x px, iter, ifs, 0⟩] scope pos) 0 (.ref it) (.ref s.heap.objs.size) (compEnvC scope ((x, Hq.objs.size + 1) :: mU X.env scope.names []) Hq.objs.size X.env))
      (RR (.ref s.heap.objs.size) Hq.objs.size) { s with heap := h₁, toks := tk } := λtk => by
    have fpk : ∀{pins' : List (Addr × Obj)}{σ' : St}{H' : Hp}{s' : Shared}, Inv (bD X N' x scope Hq.objs.size s H fp) pins' σ' H' s' -> pins' = [] -> (∀b ∈ fp, H' b = none) -> ∀b ∈ fp, lv (bD X N' x scope Hq.objs.size s H fp) pins' H' b := λI' e hn b hb =>⟨hn b hb, (I'.ok.exf b hb).1, I'.ok.exfs b hb, .inl hb, (I'.ok.exf b hb).2, by subst e; intro p hp; exact absurd (show p ∈ ([] : List (Addr × Obj)) from hp) (by simp)⟩
    refine mC (λnn s' => ∃(i : Nat)(σ' : St)(G' H' : Hp)(ρ' : Ev)(vs : List V)(ys : List D), nn = items.length - i /\ i <= items.length /\ Inv (bD X N' x scope Hq.objs.size s H fp) [] σ' H' s' /\ tn i s'.heap /\ (∀b ∈ fp, H' b = none) /\
      H' s.heap.objs.size = some (.lst vs) /\ G' s.heap.objs.size = none /\ Up G H G' H' /\ StE X.K G' H' σ' ρ' /\ (NoOwn ρ') /\ Reps X.K G' vs ys /\
      (cH (gO 0) gt ge (items.drop i) ρ' >>= λzs => if (ys ++ zs).length <= sizeLine then R.ok (ys ++ zs)else .no).post (oh X.K G H Q) (Exx X σ G H)) ?_ items.length
      ⟨0, cq 1 ix σ, G, upd H s.heap.objs.size (.lst []), dC 1 ix ρ, [], [], by simp, v8 _, I0 tk, st0', λb hb => by rw[au (t9 (hfl b hb))]; exact(hf b hb).1, ay, st.sub.free hD0,
        ⟨λa o e => by rw[au (aj e (st.sub.free hD0))]; exact st.sub a o e, .refl _, .into hD0, λ_ _ e => .inl e⟩,
        ⟨λa o e => by rw[au (aj e (st.sub.free hD0))]; exact st.sub a o e, (jU st 1 ix).len, (jU st 1 ix).val, λj m C p fs h => absurd h (NoOwn.obj fM j m C p fs)⟩, fM, .nil, by simpa using h⟩;rintro nn s' ⟨i, σ', G', H', ρ', vs, ys, rfl, hil, I', tn', fr', hD', gD', up', st', no', rp', h'⟩;have hIt := hi i G' H' up'.gg st'.sub;by_cases hlt : i < items.length
    ·
      have hd : items.drop i = items[i] :: items.drop (i + 1) := Zd hlt;rw[hd]at h';obtain⟨go, yl⟩ := hIt.1 items[i] (by simp[hlt]);refine t7 (T.item (bD X N' x scope Hq.objs.size s H fp) rfl rfl rfl hcalm i [] s' σ' H' (λ_ _ => False) I' (fpk I' rfl fr') tn' go) (λr s1 ⟨u, hr, h1⟩ => ?_) λ_ _ z => z;subst hr;refine t7 h1 (λ_ s2 ⟨x2, H2, I2, r2, y2, tn2, fr2⟩ => ?_) λ_ _ z => z;obtain⟨G2, up2, rep2⟩ := yl x2 H2 y2;have I2p := I2.pinned (fpk I2 rfl fr2) (T.obj _ _ tn2);have st2 : StE X.K G2 H2 σ' ρ' := st'.up up2;have sr2 : StR X.K G2 H2 G2 H2 σ' ρ' := ⟨st2, up2.sub, .refl up2.sub, λj ds e => absurd e (no'.own j ds), λj k ds es l e => absurd e (no'.own j ds), no'.ob⟩
      have ea : ∃ρ1, gO 0 items[i] ρ' = .ok ρ1 := by
        unfold cH at h';cases q : gO 0 items[i] ρ' with
        |ok k => exact⟨k, rfl⟩
        |_ => rw[q]at h'; exact h'.elim
      obtain⟨ρ1, ea⟩ := ea;unfold cH at h';rw[ea]at h';simp only[eW, R.ok_bind]at h';refine t7 (hg Hq.objs.size s H fp _ s2 σ' H2 x2 u (λσ3 H3 => H3 = H2 /\ StR X.K G2 H2 G2 H2 σ3 ρ1) I2p r2
        ⟨G2, H2, G2, ρ', items[i], _, sr2, rep2, ea, λσ3 q => ⟨rfl, q⟩⟩) (λ_ s3 ⟨σ3, H3, I3, e3, sr3⟩ => ?_) λ_ _ z => z;subst e3;have no3 := hown _ _ _ ea no';have hD2 : H3 s.heap.objs.size = some (.lst vs) := up2.hh _ _ hD';have gD2 : G2 s.heap.objs.size = none := by
        cases q : G2 s.heap.objs.size with
        |none => rfl
        |some o =>
          rcases up2.fr _ _ q with z|z;· rw[gD']at z; cases z
          · rw[hD']at z; cases z
      have ek : ∃k, gt ρ1 = .ok k := by
        cases q : gt ρ1 with
        |ok k => exact⟨k, rfl⟩
        |_ => rw[q]at h'; exact h'.elim
      obtain⟨k, ek⟩ := ek;rw[ek]at h';simp only[eW, R.ok_bind]at h';refine t7 (ht Hq.objs.size s H fp _ s3 σ3 H3 (λb H4 => b = k /\ ∃G4, Up G2 H3 G4 H4) I3 ⟨G2, _, sr3.e, by rw[ek]; exact λb G4 H4 u4 e4 => ⟨e4, G4, u4⟩⟩) (λb s4 ⟨H4, I4, eb, G4, up4⟩ => ?_) λ_ _ z => z;subst eb;have next : ∀{H7 : Hp}{s7 : Shared}{G7 : Hp}{vs7 : List V}{ys7 : List D}, Inv (bD X N' x scope Hq.objs.size s H fp) ([] ++ mr fp s2.heap) σ3 H7 s7 -> H7 s.heap.objs.size = some (.lst vs7) -> G7 s.heap.objs.size = none -> Up G H G7 H7 -> StE X.K G7 H7 σ3 ρ1 -> Reps X.K G7 vs7 ys7 ->
          (cH (gO 0) gt ge (items.drop (i + 1)) ρ1 >>= λzs => if (ys7 ++ zs).length <= sizeLine then R.ok (ys7 ++ zs)else .no).post (oh X.K G H Q) (Exx X σ G H) ->
          ∃m, m < items.length - i /\ ∃(i : Nat)(σ' : St)(G' H' : Hp)(ρ' : Ev)(vs : List V)(ys : List D), m = items.length - i /\ i <= items.length /\ Inv (bD X N' x scope Hq.objs.size s H fp) [] σ' H' s7 /\ tn i s7.heap /\ (∀b ∈ fp, H' b = none) /\
            H' s.heap.objs.size = some (.lst vs) /\ G' s.heap.objs.size = none /\ Up G H G' H' /\ StE X.K G' H' σ' ρ' /\ (NoOwn ρ') /\ Reps X.K G' vs ys /\
            (cH (gO 0) gt ge (items.drop i) ρ' >>= λzs => if (ys ++ zs).length <= sizeLine then R.ok (ys ++ zs)else .no).post (oh X.K G H Q) (Exx X σ G H) := λ{H7 s7 G7 vs7 ys7} I7 hD7 gD7 up7 st7 rp7 h7 => by
        have pin : ∀b ∈ fp, ∀o, s2.heap.get? b = some o -> s7.heap.get? b = some o /\ H7 b = none := λb hb o e => by have := I7.pin (b, o) (n8 _ (n8 _ (gF hb e)));exact⟨this.1, this.2.1⟩
        refine⟨items.length - (i + 1), by omega, i + 1, σ3, G7, H7, _, vs7, ys7, rfl, hlt, I7.unpinned, T.keep _ _ _ tn2 λb hb o e => (pin b hb o e).1, λb hb => ?_, hD7, gD7, up7, st7, no3, rp7, h7⟩;obtain⟨o, e, _⟩ := T.obj _ _ tn2 b hb;exact(pin b hb o e).2
      have hD4 : H4 s.heap.objs.size = some (.lst vs) := up4.hh _ _ hD2;have gD4 : G4 s.heap.objs.size = none := by
        cases q : G4 s.heap.objs.size with
        |none => rfl
        |some o =>
          rcases up4.fr _ _ q with z|z;· rw[gD2]at z; cases z
          · rw[hD2]at z; cases z
      cases b with
      |false =>simp only[rW, t5]at h'⊢;exact next I4 hD4 gD4 ((up'.trans up2).trans up4) (sr3.e.up up4) ((rp'.mono up2.gg).mono up4.gg) h'
      |true =>
        simp only[t8]at h'⊢;have ex : ∃y, ge ρ1 = .ok y := by
          cases q : ge ρ1 with
          |ok y => exact⟨y, rfl⟩
          |_ => rw[q]at h'; exact h'.elim
        obtain⟨y, ey⟩ := ex;rw[ey]at h';simp only[eW, R.ok_bind]at h';refine t7 (he Hq.objs.size s H fp _ s4 σ3 H4 (λv H5 => ∃G5, Up G4 H4 G5 H5 /\ Rep X.K G5 v y) I4 ⟨G4, _, sr3.e.up up4, by rw[ey]; exact λv G5 H5 u5 r5 => ⟨G5, u5, r5⟩⟩) (λu5 s5 ⟨v5, H5, I5, r5, G5, up5, rep5⟩ => ?_) λ_ _ z => z;have hD5 : H5 s.heap.objs.size = some (.lst vs) := up5.hh _ _ hD4;have gD5 : G5 s.heap.objs.size = none := by
          cases q : G5 s.heap.objs.size with
          |none => rfl
          |some o =>
            rcases up5.fr _ _ q with z|z;· rw[gD4]at z; cases z
            · rw[hD4]at z; cases z
        have ups := ((up'.trans up2).trans up4).trans up5;rcases gN (asg := gO 0) (gt := gt) (ge := ge) (items.drop (i + 1)) ρ1 with⟨zs, ez⟩|ez
        · rw[ez]at h';simp only[R.ok_bind]at h';have hz : (ys ++ y :: zs).length <= sizeLine := by
            by_cases hz : (ys ++ y :: zs).length <= sizeLine;· exact hz
            · rw[if_neg hz]at h'; exact h'.elim
          have hvl : vs.length < sizeLine := by rw[rp'.length];rw[v6, r6]at hz;omega
          refine t7 (iT (X := bD X N' x scope Hq.objs.size s H fp) _ s5 σ3 H5 (.ref s.heap.objs.size) [v5] (.ref s.heap.objs.size) [u5] (λ_ H6 => H6 = upd H5 s.heap.objs.size (.lst (vs ++ [v5]))) I5 rfl (.cons r5 .nil)
            ⟨_, vs, v5, rfl, rfl, hD5, hvl, rfl⟩) (λ_ s6 ⟨_, H6, I6, _, e6⟩ => ?_) λ_ _ z => z;subst e6;have sub6 : Same G5 (upd H5 s.heap.objs.size (.lst (vs ++ [v5]))) := λa o e => by rw[au (aj e gD5)]; exact up5.sub a o e
          refine next I6 ay gD5 ⟨sub6, ups.gg, λa o e => ?_, ups.fr⟩ ?_ (ys7 := ys ++ [y]) ((((rp'.mono up2.gg).mono up4.gg).mono up5.gg).append (.cons rep5 .nil)) ?_
          · rw[au (aj e hD0)]; exact ups.hh a o e
          · exact⟨sub6, ((sr3.e.up up4).up up5).len, ((sr3.e.up up4).up up5).val, λj m C p fs h => absurd h (no3.obj j m C p fs)⟩
          · rw[ez];simp only[R.ok_bind, j6, List.singleton_append];exact h'
        · rw[ez]at h'; exact h'.elim
    ·
      have hie : i = items.length := by omega
      subst hie;rw[Ze]at h';unfold cH at h';simp only[R.ok_bind, qo]at h';refine t7 (T.done (bD X N' x scope Hq.objs.size s H fp) rfl rfl rfl hcalm items.length [] s' σ' H' (λ_ _ => False) I' (fpk I' rfl fr') tn' (hIt.2 (z8 _))) (λr s1 ⟨hr, I1⟩ => ?_) λ_ _ z => z;subst hr;have hz : ys.length <= sizeLine := by
        by_cases hz : ys.length <= sizeLine;· exact hz
        · rw[if_neg hz]at h'; exact h'.elim
      rw[if_pos hz]at h';have eH : upd (λa => if a = s.heap.objs.size then none else H' a) s.heap.objs.size (.lst vs) = H' := by
        funext a
        unfold upd;by_cases e : a = s.heap.objs.size;· subst e; rw[if_pos rfl]; exact hD'.symm
        · rw[if_neg e];show(if a = s.heap.objs.size then none else H' a) = _;rw[if_neg e]
      have hn : (λa => if a = s.heap.objs.size then none else H' a) s.heap.objs.size = none := by simp
      have upn : Up G H G' (λa => if a = s.heap.objs.size then none else H' a) := by
        refine⟨λa o e => ?_, up'.gg, λa o e => ?_, up'.fr⟩;· have : a≠s.heap.objs.size := aj e gD';simp only[this, t5]; exact up'.sub a o e
        · have : a≠s.heap.objs.size := aj e hD0;simp only[this, t5]; exact up'.hh a o e
      obtain⟨m1, hm1, _⟩ := I1.loc;refine hR s.heap.objs.size Hq.objs.size s1 m1 vs G' _ upn hn hDC.symm (λ_ _ => trivial) (h' _ vs G' _ upn hn rp') hm1 I1.os I1.bare ?_ hCle (by rw[eH]; exact I1.base) (by rw[eH]; exact I1.hok);have := I1.free;show(if Hq.objs.size = s.heap.objs.size then none else H' Hq.objs.size) = none;rw[if_neg hDC.symm]; exact this
  exact codeAny_compStart_list (loop _) (T.self X.A 0 _ _ _ st0' (loop _))

def Ai(i:Nat){y:Str}{py spos:Pos}(hN:X.N.Nodup)(ok:CompOkD X scope x N' ix)(hcalm:X.calm=true)(hi:PIF X (.Name x px) iter gi)(he:∀C s₂ H₂ fp,PF (bD X N' x scope C s₂ H₂ fp) elt ge)(ht:∀C s₂ H₂ fp,PTs (bD X N' x scope C s₂ H₂ fp) ifs gt)(hni:X.N[i]?=some y:=by rfl)(hy:X.env.scope.names.lookup y=some .local:=by rfl)(hs:∀x,foldedSetIterable iter X.env x=pure x:=by intro _;rfl)(hsw:swapsWith (.ListComp elt [⟨.Name x px,iter,ifs,0⟩] scope pos) (some (.Name y py)) spos.line X.env=pure true:=by rfl):
  PSF X (.Assign [.Name y py] (.ListComp elt [⟨.Name x px,iter,ifs,0⟩] scope pos) spos) (Cy i (eA gi ix gt ge)):=λG₀ H₀ pins s σ H D I h=>by
 obtain⟨G,ρ,sr,h⟩:=h;have h:jN X G₀ H₀ D ((pf 1 (gO 0) gi ix gt ge ρ).out ρ λds=>.nx (ρ.set i (some (.own ds)))):=h;have sE:=sr.e;have hq:(pf 1 (gO 0) gi ix gt ge ρ).post (oh X.K G H λv H1=>D.nx (σ.set i (some v)) H1) (Exx X σ G H):=by
  cases q:pf 1 (gO 0) gi ix gt ge ρ with
  |ok ds=>rw[q]at h;exact λl vs G' H' u hl r=>h _ G' _ ((sr.ups u).setOwn hl r i)
  |ex C=>rw[q]at h;exact Exx.of sr h
  |no=>rw[q]at h;exact h
 rw[exec_Assign_Name_used _ _ _ _ hsw];refine z5 (Zq (z5 ?_));show wpAny _ X.A (do let _ <- comprehension (.ListComp elt [⟨.Name x px,iter,ifs,0⟩] scope pos) scope X.env _ (newList []) false (eval iter X.env) (some (assign (.Name y py) X.env))) _ _ s;refine z5 (t7 (wpAny_comprehension_free (use:=some (assign (.Name y py) X.env)) (Q:=λ_ s'=>SP X pins D .next s') rfl hs (iE λz hz hz2=>I.ok.has z.1 (.inl (ok.fr z hz hz2))) ok.kind ok.names ?_) (λ_ s' hq=>z7 (z7 hq)) λ_ _ e=>e);have t:tG X (λG J items=>ItOk X.K G J items) gi σ H (λJ H1=>∃G1 items,Up G H G1 H1/\StE X.K G1 H1 σ ρ/\ItOk X.K G1 J items/\(cH (gO 0) gt ge items (dC 1 ix ρ)>>=λds=>if ds.length<=sizeLine then R.ok ds else .no).post (oh X.K G H λv H1=>D.nx (σ.set i (some v)) H1) (Exx X σ G H)):=by
  refine⟨G,ρ,sE,?_⟩;unfold pf at hq;cases e:gi ρ with
  |ok items=>rw[e]at hq;exact λJ G1 H1 u r=>⟨G1,items,u,sE.up u,r,hq⟩
  |ex C=>rw[e]at hq;exact hq
  |no=>rw[e]at hq;exact hq
 refine thn (hi pins s σ H _ I t) λv s1 h1=>thn h1 λitv s2 h2=>?_;obtain⟨it,fp,tn,J,H2,e,I2,T,st2,f2,G2,items,u2,sE2,iok,h2⟩:=h2;subst e;have h2':(cH (gO 0) gt ge items (dC 1 ix ρ)>>=λds=>if ds.length<=sizeLine then R.ok ds else .no).post (oh X.K G2 H2 λv H1=>D.nx (σ.set i (some v)) H1) (Exx X σ G2 H2):=
  h2.mono (λds q l vs G' H' u hl r=>q l vs G' H' (u2.trans u) hl r) λC q=>q.up u2;refine sX (iter:=iter) (pos:=pos) (RR:=λacc C=>compPost (model X.prog X.w) X.A X.xe (some (assign (.Name y py) X.env)) (λ_ s'=>SP X pins D .next s') acc C) ok hcalm he ht I2 T st2 f2 sE2 iok h2' ?_;intro Dd C s' m vs G' H' up hd hCD _ q hm hos hb hC hCl un hok;have I3:Inv X pins σ (upd H' Dd (.lst vs)) s':=I2.call' (ch:=fp) hos un hok hb λb hb'=>by
  obtain⟨f0,f1,f2',f3,f4,f5⟩:=f2 b hb';exact⟨f3,f1,f4,f5⟩
 have lc:X.env.locals≠C:=t9 (rB I2.lt hCl);have cc:∀z c,X.env.cells.lookup z=some c->c≠C:=λz c e=>by obtain⟨v,q⟩:=I2.cell z c e;exact t9 (rB q.lt hCl)
 show wpAny (model X.prog X.w) X.A (assign (.Name y py) X.env (.ref Dd)) _ X.xe s';refine wpAny_assign_Name (pG I3 hN hni (.inl hy) (v:=.ref Dd) rfl (λs'' I4 ⟨a,hsb,ha⟩=>?_) (.inr hy));have na:C≠a:=by
  rcases ha with rfl|ha;·exact lc.symm
  ·exact(cc _ _ ha).symm
 refine⟨m,hm.sameBut hsb na,λh' hs'=>?_⟩;have I5:=I4.call' (s':={ s'' with heap:=h' }) (H':=upd H' Dd (.lst vs)) (ch:=[C]) rfl (Un.but hs') (I4.hok.sameBut (λb o hbc e=>(hs'.2 b hbc).trans e) (by rw[au hCD];exact hC)) I4.bare λb hb'=>by rw[wc.1 hb'];exact⟨.inr (w6 I2.sz hCl),lc.symm,cc,λp hp z=>nV _ (rB (z▸xi (I2.pin p hp).1) hCl)⟩
 exact⟨_,_,I5,q⟩
def zT{N':List Str}(h1:scope.kind=.function:=by rfl)(h2:(∀y∈scope.names,y.2=.local->scope.names.lookup y.1=some .local)/\(∀y∈scope.names,y.2=.cell->y.1=x)/\(∀y∈scope.names,y.2=.free->y.1∈N'.drop 1)/\N'.Nodup/\N'[0]?=some x/\(∀y∈N'.drop 1,scope.names.lookup y=some .free/\(y,NameKind.free)∈scope.names)/\∀y∈N'.drop 1,y≠x:=by decide +kernel)(h3:∀L cs,cellsFrom L scope.names cs=(x,L)::cs:=by intro _ _;rfl)(h4:(relabel scope X.env).names.lookup x=some .cell:=by rfl)(h5:(N'.drop 1).map X.env.kindOf=(N'.drop 1).map λ_=>some NameKind.cell:=by rfl)(h6:N'.drop 1=ix.map (λ(i:Nat)=>X.N.getD i Str.empty):=by rfl)(h7:ix.all (λi=>decide (i<X.N.length))=true:=by rfl):CompOkD X scope x N' ix:=by
 obtain⟨a,b,c,d,e,f,g⟩:=h2;refine⟨h1,a,h3,h4,b,λy hy hf=>?_,d,e,h6,λi hi=>by simpa using sI.1 h7 i hi,f,g⟩;have:=List.map_inj_left.1 h5 y.1 (c y hy hf);exact this
def HF{N:List Str}{i:Nat}{y z:Str}{s₂:Shared}{H₂:Hp}(h:At N i y)(hv:Vis (bD X N z scope C s₂ H₂ fp).env.scope y:=by first|exact Or.inl rfl|exact Or.inr (Or.inl rfl)|exact Or.inr (Or.inr rfl))(hd:(y==("__debug__":Str))=false:=by decide)(hcd:(y==("__classdict__":Str))=false:=by decide):PF (bD X N z scope C s₂ H₂ fp) (.Name y p) (λρ=>rdV ρ i):=xD i h hv hd hcd
end
def spN(K:PySem.W.Frag)(f:List D->R (List D)):Sp:=λvs H Q E=>∃G ds,Same G H/\Reps K G vs ds/\(f ds).post (oh K G H Q) (λC=>∀G' H',Up G H G' H'->E (.ref C) none H')
abbrev FnN(P:Program)(w:World)(K:PySem.W.Frag)(mg:Str->Option Value)(base:Heap)(k:Nat)(f:Addr)(fd:FuncData)(ps:List Str)(g:List D->R (List D)):Prop:=FnOk P w K mg base (CXo P w) k f fd ps (λvs H Q E=>vs.length=ps.length/\spN K g vs H Q E)
structure CalleeN(P:Program)(w:World)(K:PySem.W.Frag)(mg:Str->Option Value)(base:Heap)(x:Str)(k n:Nat)(g:List D->R (List D)):Prop where
 ex:∃f fd ps,FnN P w K mg base k f fd ps g/\mg x=some (.ref f)/\PySem.W.keepIn K (.ref f)=true/\Binds K fd ps []/\ps.length=n
noncomputable def Kd(P:Program)(w:World)(K:PySem.W.Frag)(mg:Str->Option Value)(base:Heap)(k:Nat)(s1:Shared)(G1 H1:Hp)(f:Addr)(m:R (List D)):Prop:=
 ∀(Y:Cx)(pins:List (Addr×Obj))(σY:St)(G2 H2:Hp)(s2:Shared)(fs:List Addr)(Q:VK),Y.prog=P->Y.w=w->Y.K=K->Y.mg=mg->Y.base=base->Inv Y pins σY H2 s2->Room k Y.A->Un fs [] H1 H2 s1.heap s2.heap->Up G1 H1 G2 H2->
  m.post (oh Y.K G2 H2 Q) (Exx Y σY G2 H2)->(∃o fd,s2.heap.get? f=some o/\o.data=.func fd)/\wpAny (model Y.prog Y.w) Y.A (call (.ref f) []) (EP Y pins σY Q) Y.xe s2
def Jn(m:R (List D)):R D:=match m with
 |.ok ds=>if ds.length<sizeLine then ofO (eqF (.lst false ds) (.lst false ds))else .no
 |_=>.no
structure Stays(P:Program)(w:World)(K:PySem.W.Frag)(mg:Str->Option Value)(base:Heap)(x:Str)(k j:Nat):Prop where
 ex:∃ft,mg x=some (.ref ft)/\PySem.W.keepIn K (.ref ft)=true/\∀(A:Around)(outer:List Env)(s1:Shared)(G1 H1:Hp)(f:Addr)(m:R (List D))(Q:VK)(E:XK),Room k A->Env0 P w K mg base A outer s1 H1->Same G1 H1->Kd P w K mg base j s1 G1 H1 f m->
  (Jn m).post (Fin G1 H1 (Rep K) Q) (λC=>∀G' H',Up G1 H1 G' H'->E (.ref C) none H')->codeAny (model P w) A (.call (.ref ft) ⟨[.ref f],[]⟩) (CR (CXo P w) outer P w H1 s1 Q E) s1
def kvD(kds:List (Int×D))(ws:List V):List (Key×V):=(kds.map λx=>(Sum.inl x.1:Key)).zip ws
def tVs:List V->TA
 | []=>Fj
 |v::vs=>mZ (tC v) (tVs vs)
structure PickAt(X:Cx)(k n:Nat)(gl:Ev->R (List D))(es:List Expr)(gs:List (Ev->R D)):Prop where
 ex:∃vs,PA X es (tVs vs)/\vs.length=es.length/\∀(j:Nat) g,gs[j]?=some g->∃a fd ps f,vs[j]?=some (.ref a)/\FnF X.prog X.w X.K X.mg X.base k a fd ps f/\PySem.W.keepIn X.K (.ref a)=true/\Binds X.K fd ps []/\ps.length=n/\g=aA n f gl
section
variable{g g1 g2':Ev->O}{gt gu:Ev->R Bool}{ga gc:Ev->R D}{go gp:Ev->R (Option Int)}{i n:Nat}{f f':D->D->Option D}
def JK:ax g1 g2' ρ=(g1 ρ).seq g2':=rfl
def Mt:oIf gt g1 g2' ρ=(gt ρ).out ρ λk=>if k=true then g1 ρ else g2' ρ:=rfl
def IM:hZ i ga ρ=(ga ρ).out ρ λd=>.nx (ρ.set i (some (.val d))):=rfl
def KM:cB ga ρ=(ga ρ).out ρ .rt:=rfl
def Mq:oNx ρ=.nx ρ:=rfl
def JW:Cy i gl ρ=(gl ρ).out ρ λds=>.nx (ρ.set i (some (.own ds))):=rfl
def FT:sW ga ρ=(ga ρ).out ρ λ_=>.nx ρ:=rfl
def KN:zC asg gl g ρ=(gl ρ).out ρ λitems=>dc asg g items ρ:=rfl
def Ea:ka C gl ρ=(gl ρ).out ρ λ_=>.ex C ρ:=rfl
def JN:Go asg ga ρ=(ga ρ).out ρ λd=>(asg d ρ).out ρ .nx:=rfl
def Jk:CP i g ρ=g (frz i ρ):=rfl
def IG{α β:Type}{h:α->R β}{gx:Ev->R α}:aq h gx ρ=gx ρ>>=h:=rfl
def MT{h:List D->Option D}:gOf h gl ρ=gl ρ>>=λds=>ofO (h ds):=rfl
def CQ:aa ga gl ρ=ga ρ>>=λx=>gl ρ>>=λxs=>.ok (x::xs):=rfl
def En:bA gl ρ=gl ρ>>=λds=>.ok (.lst false ds):=rfl
def Js:zy gl ρ=gl ρ>>=λds=>if ds.length<=sizeLine then .ok ds else .no:=rfl
def ML:gB2 f ga gb ρ=g2 f ga gb ρ>>=asB:=rfl
def LI:gB3 f f' ga gb gc ρ=g3 f f' ga gb gc ρ>>=asB:=rfl
def Mh:gBn gt ρ=gt ρ>>=λk=>.ok (!k):=rfl
def FI:pO ga ρ=ga ρ>>=λx=>asI x>>=λi=>.ok (some i):=rfl
def GE{T:String}{h:D->List D->Option D}:nr T h ga gl ρ=ga ρ>>=λx=>if mj T x=true then gl ρ>>=λds=>ofO (h x ds)else .no:=rfl
def L4:g2 f ga gb ρ=ga ρ>>=λx=>gb ρ>>=λy=>ofO (f x y):=rfl
def JZ:mM ga gb ρ=ga ρ>>=λx=>asB x>>=λk=>if k=true then gb ρ else .ok (.bl false):=rfl
def L3:gOr ga gb ρ=ga ρ>>=λx=>asB x>>=λk=>if k=true then .ok (.bl true)else gb ρ:=rfl
def JS:KJ ga ρ=ga ρ>>=λx=>asB x>>=λk=>.ok (.bl (!k)):=rfl
def HA:AS gt gu ρ=gt ρ>>=λk=>if k=true then gu ρ else .ok false:=rfl
def J3:vJ gt gu ρ=gt ρ>>=λk=>if k=true then .ok true else gu ρ:=rfl
def Jp:gIf gt ga gb ρ=gt ρ>>=λk=>if k=true then ga ρ else gb ρ:=rfl
def Mf:gSl ga go gp ρ=ga ρ>>=λx=>go ρ>>=λl=>gp ρ>>=λu=>ofO (DN l u x):=rfl
def Gc:eA gl ix gt ga ρ=gl ρ>>=λitems=>eZ gt ga items (fI ix ρ)>>=λds=>if ds.length<=sizeLine then .ok ds else .no:=rfl
def zg{h:List D->R D}:aA 1 h (aa ga λ_=>.ok []) ρ=ga ρ>>=λx=>h [x]:=BX
def DT{h:List D->R D}:aA 2 h (aa ga (aa gb λ_=>.ok [])) ρ=ga ρ>>=λx=>gb ρ>>=λy=>h [x,y]:=wQ
def CY{h:List D->R D}:aA 3 h (aa ga (aa gb (aa gc λ_=>.ok []))) ρ=ga ρ>>=λx=>gb ρ>>=λy=>gc ρ>>=λz=>h [x,y,z]:=Cu
def E8{h:List D->R D}{gd:Ev->R D}:aA 4 h (aa ga (aa gb (aa gc (aa gd λ_=>.ok [])))) ρ=ga ρ>>=λx=>gb ρ>>=λy=>gc ρ>>=λz=>gd ρ>>=λu=>h [x,y,z,u]:=by
 unfold aA;simp only[CQ];cases ga ρ <;> try rfl
 simp only[R.ok_bind];cases gb ρ <;> try rfl
 simp only[R.ok_bind];cases gc ρ <;> try rfl
 simp only[R.ok_bind];cases gd ρ <;> rfl
end
def Ka(i:Nat)(ga:Ev->R D)(ρ:Ev):KZ i ga ρ=(ownAt ρ i).out ρ λds=>(ga ρ).out ρ λd=>(asL d).out ρ λes=>if ds.length+es.length<=sizeLine then .nx (ρ.set i (some (.own (ds++es))))else .no:=rfl
def Jf(i:Nat)(ga:Ev->R D)(ρ:Ev):Hj i ga ρ=(ownAt ρ i).out ρ λds=>(ga ρ).out ρ λd=>if ds.length<sizeLine then .nx (ρ.set i (some (.own (ds++[d]))))else .no:=rfl
def Kb(i j:Nat)(gl:Ev->R (List D))(ρ:Ev):MJ i j gl ρ=(gl ρ).out ρ λds=>(oX [i,j] ds ρ).out ρ .nx:=rfl
def LY(ds:List D)(ρ:Ev):ownAt (some (.own ds)::ρ) 0=.ok ds:=rfl
def MG(a0:Option Sl)(ds:List D)(ρ:Ev):ownAt (a0::some (.own ds)::ρ) 1=.ok ds:=rfl
def LH(a0 a1:Option Sl)(ds:List D)(ρ:Ev):ownAt (a0::a1::some (.own ds)::ρ) 2=.ok ds:=rfl
def asl(ds:List D):asL (.lst false ds)=.ok ds:=rfl
def LW(a0:Option Sl)(ds:List D)(ρ:Ev):frz 1 (a0::some (.own ds)::ρ)=a0::some (.val (.lst false ds))::ρ:=rfl
def g3k(f':D->D->Option D)(r:R D)(y:D):D->R D
 |.bl true=>r>>=λw=>ofO (f' y w)
 |.bl false=>.ok (.bl false)
 |_=>.no
def MB(f f':D->D->Option D)(ga gb gc:Ev->R D)(ρ:Ev):g3 f f' ga gb gc ρ=ga ρ>>=λx=>gb ρ>>=λy=>ofO (f x y)>>=g3k f' (gc ρ) y:=rfl
def Ja(f':D->D->Option D)(r:R D)(y:D)(b:Bool):g3k f' r y (.bl b)=if b=true then (r>>=λw=>ofO (f' y w))else .ok (.bl false):=by cases b <;> rfl
def sv2(i j:Nat)(x y:D)(ρ:Ev):oX [i,j] [x,y] ρ=.ok ((ρ.set i (some (.val x))).set j (some (.val y))):=rfl
def Mw(a0 a1 a2 a3:Option Sl)(ds:List D)(ρ:Ev):frz 4 (a0::a1::a2::a3::some (.own ds)::ρ)=a0::a1::a2::a3::some (.val (.lst false ds))::ρ:=rfl
def LM(ρ:Ev)(k:Ev->O):(O.nx ρ).seq k=k ρ:=rfl
def MQ(d:D)(k:Ev->O):(O.rt d).seq k=.rt d:=rfl
def LR(C:Addr)(ρ:Ev)(k:Ev->O):(O.ex C ρ).seq k=.ex C ρ:=rfl
def MM(k:Ev->O):(O.no).seq k=.no:=rfl
def L0(d:D):ao (.rt d)=.ok d:=rfl
def LG(ρ:Ev):ao (.nx ρ)=.ok .non:=rfl
def MR(C:Addr)(ρ:Ev):ao (.ex C ρ)=.ex C:=rfl
def L5(k:Bool):asB (.bl k)=.ok k:=rfl
def rA(i:Int):asI (.int i)=.ok i:=rfl
def LL(k:Bool):jy (.bl k)=.ok k:=rfl
def rd7(a0 a1 a2 a3 a4 a5 a6:Option Sl)(d:D)(ρ:Ev):rdV (a0::a1::a2::a3::a4::a5::a6::some (.val d)::ρ) 7=.ok d:=rfl
def rd8(a0 a1 a2 a3 a4 a5 a6 a7:Option Sl)(d:D)(ρ:Ev):rdV (a0::a1::a2::a3::a4::a5::a6::a7::some (.val d)::ρ) 8=.ok d:=rfl
def rd9(a0 a1 a2 a3 a4 a5 a6 a7 a8:Option Sl)(d:D)(ρ:Ev):rdV (a0::a1::a2::a3::a4::a5::a6::a7::a8::some (.val d)::ρ) 9=.ok d:=rfl
def Mi(a0 a1 a2 a3 a4 a5 a6 a7 a8 a9:Option Sl)(d:D)(ρ:Ev):rdV (a0::a1::a2::a3::a4::a5::a6::a7::a8::a9::some (.val d)::ρ) 10=.ok d:=rfl
def MN(a0 a1 a2 a3 a4 a5 a6 a7 a8 a9 a10:Option Sl)(d:D)(ρ:Ev):rdV (a0::a1::a2::a3::a4::a5::a6::a7::a8::a9::a10::some (.val d)::ρ) 11=.ok d:=rfl
def MS(a0 a1 a2 a3 a4 a5 a6 a7 a8 a9 a10 a11:Option Sl)(d:D)(ρ:Ev):rdV (a0::a1::a2::a3::a4::a5::a6::a7::a8::a9::a10::a11::some (.val d)::ρ) 12=.ok d:=rfl
section
variable(i j:Int)
def Jc:cP (.int i) (.int j)=some (.int (i+j)):=by simp only[cP]
def Je:Bv (.int i) (.int j)=some (.int (i - j)):=by simp only[Bv]
def Mu:leD (.int i) (.int j)=some (.bl (decide (i<=j))):=by simp only[leD]
def Me:ltD (.int i) (.int j)=some (.bl (decide (i<j))):=by simp only[ltD]
def LS:gtD (.int i) (.int j)=some (.bl (decide (j<i))):=by simp only[gtD]
def Mr:geD (.int i) (.int j)=some (.bl (decide (j<=i))):=by simp only[geD]
def LN:eqF (.int i) (.int j)=some (.bl (i==j)):=by simp only[eqF,eqD,q8]
def Lb:neF (.int i) (.int j)=some (.bl (!(i==j))):=by simp only[neF,eqD,q8]
end
def FU{i j:Int}(h : -(2 ^ 64)<i/\i<2 ^ 64):ja (.int i) (.int j)=some (.int (i * j)):=by simp only[ja];rw[if_pos (Or.inl h)]
def xy{x y:List Nat}(h:x.length+y.length<=sizeLine):cP (.str x) (.str y)=some (.str (x++y)):=by simp only[cP];rw[if_pos h]
def Hi{x y:List D}(h:x.length+y.length<=sizeLine):cP (.tup x) (.tup y)=some (.tup (x++y)):=by simp only[cP];rw[if_pos h]
def Lr(x y:List Nat):eqF (.str x) (.str y)=some (.bl (x==y)):=by simp only[eqF,eqD,q8]
def Mx(x y:List Nat):neF (.str x) (.str y)=some (.bl (!(x==y))):=by simp only[neF,eqD,q8]
def uk{α:Type}(n:Nat)(x:α):(List.replicate n [x]).flatten=List.replicate n x:=by
 induction n with
 |zero=>rfl
 |succ n ih=>rw[mP,l5,ih];rfl
def bg:(1000:Nat)<=sizeLine:=by decide
def JH{c n:Nat}(h:n<=1000):ja (.str [c]) (.int (n:Int))=some (.str (List.replicate n c)):=by have:=bg;simp only[ja];rw[if_pos (by refine⟨by omega,by omega,?_⟩;simp;omega),si,uk]
def IZ{c:D}{n:Nat}(h:n<=1000):ja (.lst false [c]) (.int (n:Int))=some (.lst false (List.replicate n c)):=by have:=bg;simp only[ja];rw[if_pos (by refine⟨by omega,by omega,?_⟩;simp;omega),si,uk]
def Fh{xs:List D}{d:D}(h:xs[k]?=some d):ixD (.tup xs) (.int (k:Int))=some d:=by simp only[ixD];exact kA h
def Lg{xs:List D}{d:D}(h:xs[k]?=some d):ixD (.lst fz xs) (.int (k:Int))=some d:=by simp only[ixD];exact kA h
def K1{x:List Nat}{c:Nat}(h:x[k]?=some c):ixD (.str x) (.int (k:Int))=some (.str [c]):=by simp only[ixD];rw[kA h];rfl
def Eo{α:Type}(xs:List α)(k:Nat):lw xs none (some (k:Int))=xs.take k:=by
 unfold lw;rw[HT.sIx_none,HT.sIx_nat,List.drop_zero,ZK];by_cases h:k<=xs.length;·rw[Nat.min_eq_left h]
 ·rw[Nat.min_eq_right (by omega),ZG,ZR (by omega)]
def rQ{α:Type}(xs:List α)(k:Nat):lw xs (some (k:Int)) none=xs.drop k:=by
 unfold lw;rw[HT.sIx_none,HT.sIx_nat];by_cases h:k<=xs.length;·rw[Nat.min_eq_left h,ZR (by simp)]
 ·rw[Nat.min_eq_right (by omega),Ze,List.take_nil,List.drop_of_length_le (by omega)]
def JA(lo hi:Option Int)(x:List Nat):DN lo hi (.str x)=some (.str (lw x lo hi)):=rfl
def Kt(lo hi:Option Int)(x:List D):DN lo hi (.tup x)=some (.tup (lw x lo hi)):=rfl
def Kw(fz:Bool)(x:List D):fm [.lst fz x]=some (.int x.length):=rfl
def JU(x:List D):fm [.tup x]=some (.int x.length):=rfl
def Jm(x:List Nat):fm [.str x]=some (.int x.length):=rfl
def m_t{ds:List D}(h:ds.length<=1000):mkT ds=.ok (.tup ds):=if_pos (w6 h bg)
def jO{n:Nat}(h:n<=1000):bX [.int (n:Int)]=.ok ((List.range n).map λ(i:Nat)=>D.int (i:Int)):=by
 have e:bX [.int (n:Int)]=if -(2 ^ 62)<=(n:Int)/\(n:Int)<2 ^ 62 then .ok ((List.range (n:Int).toNat).map λi=>D.int (0+(i:Nat)))else .no:=by simp only[bX]
 rw[e,if_pos (by constructor <;> omega),si];simp only[Int.zero_add]
def L8{α:Type}(a v:α)(l:List α):(a::l).set 0 v=v::l:=rfl
def zP(asg:D->Ev->R Ev)(g:Ev->O)(ρ:Ev):dc asg g [] ρ=.nx ρ:=rfl
def fw{g:Ev->O}{d:D}{ds:List D}{ρ1 ρ2:Ev}(h1:asg d ρ=.ok ρ1)(h2:g ρ1=.nx ρ2):dc asg g (d::ds) ρ=dc asg g ds ρ2:=by
 rw[dc,h1];show(match g ρ1 with
  |.nx ρ2=>dc asg g ds ρ2
  |.ct ρ2=>dc asg g ds ρ2
  |.bk ρ2=>O.nx ρ2
  |.rt d=>O.rt d
  |.re d ρ2=>.re d ρ2
  |.ex C ρ2=>O.ex C ρ2
  |.no=>O.no)=_;rw[h2]
def qB{e:Expr}(hg:Gl X "tuple")(hm:X.mg "tuple"=none)(ha:PFA X [e] gl)(he:starEach [e] X.env=(false,eval e X.env)::starEach [] X.env:=by rfl):
  PF X (.Call (.Name "tuple" p) [e] [] pos) (gOf mL gl):=wT oJ (Av _) hg hm PyProof.Rows.Boot.«tuple» ha (by decide) (by decide) he rfl
def kM:D->List D->Option D
 |.str x,[.int i]=>if -1000<=i/\i<=1000 then some (.str (x++List.replicate (i.toNat - x.length) 32))else none
 |_,_=>none
def Cj:V->List V->Hp->VK->Prop:=λx vs H Q=>∃(y:Str)(i:Int),x=.str y/\vs=[.int i]/\-1000<=i/\i<=1000/\Q (.str (Txt.ljust y i)) H
def AI:MtR X "str.ljust" Cj:=by intro pins s σ H x xs v us Q I rx rv ⟨y,i,ex,exs,h1,h2,q⟩;subst ex exs;obtain⟨t,rfl⟩:=rx;obtain⟨u,rfl,r1⟩:=rv.one;obtain⟨t',rfl⟩:=r1;exact SC.ljust (padOk_of (by omega) (by omega)) (λt'' k=>⟨.str _,H,I.tok _,⟨_,rfl⟩,q⟩)
def oZ(y:Str)(i:Int):(Txt.ljust y i).cps.toList=y.cps.toList++List.replicate (i.toNat - y.cps.toList.length) 32:=by
 unfold Txt.ljust;have hl:y.length=y.cps.toList.length:=by simp[Str.length]
 split
 ·rename_i h;have:i.toNat - y.cps.toList.length=0:=by omega
  rw[this];simp
 ·simp[Builtin.Str.padded,Str.length]
def BG(K:PySem.W.Frag):IX K "str" Cj kM:=by
 intro G H x xs dx ds d Q s rx rs e q;unfold kM at e;split at e
 ·split at e
  ·rename_i hi;cases e;obtain⟨v,rfl,r1⟩:=rs.one;obtain⟨y,rfl,ey,hy⟩:=rx.str_inv;obtain rfl:=r1.int_inv;refine⟨y,_,rfl,rfl,hi.1,hi.2,q _ G H (.refl s) (.strL (by rw[oZ,ey]) ?_)⟩;have h1:y.length=y.cps.toList.length:=by simp[Str.length]
   have:=bg;rw[h1,ey]at hy;simp;omega
  ·cases e
 ·cases e
def DI{o e:Expr}{ga:Ev->R D}{ap cp:Pos}(ho:PF X o ga)(ha:PFA X [e] gl)(hbase:attributeBase o "ljust" X.env (eval o X.env)=eval o X.env:=by rfl)(hfew:((backTo cp (starEach [e] X.env)).all (λx=>!x.1) && (backToKw cp (keywordEach [] X.env)).all (λx=>x.1.isSome)
 && decide ([e].length+([]:List Keyword).length+(if ([]:List Keyword).isEmpty then 0 else 1)<30))=true:=by rfl)(hline:(ap.endLine==cp.line)=true:=by rfl)(hs:starEach [e] X.env=(false,eval e X.env)::starEach [] X.env:=by rfl):
  PF X (.Call (.Attribute o "ljust" ap) [e] [] cp) (nr "str" kM ga gl):=sA Yl PySem.F.slot_str_ljust PySem.F.type_str_ljust AI (BG _) ho ha hbase hfew hline hs rfl
def Ms(a0 a1 a2 a3 a4 a5 a6 a7 a8 a9 a10 a11 a12:Option Sl)(d:D)(ρ:Ev):rdV (a0::a1::a2::a3::a4::a5::a6::a7::a8::a9::a10::a11::a12::some (.val d)::ρ) 13=.ok d:=rfl
def L6(a0 a1 a2 a3 a4 a5 a6 a7 a8 a9 a10 a11 a12 a13:Option Sl)(d:D)(ρ:Ev):rdV (a0::a1::a2::a3::a4::a5::a6::a7::a8::a9::a10::a11::a12::a13::some (.val d)::ρ) 14=.ok d:=rfl
def J8(i:Nat)(gt:Ev->R Bool)(g1 g2:Ev->O)(ρ:Ev):LQ i gt g1 g2 ρ=(eW (gt (frz i ρ))).out ρ λk=>if k=true then g1 ρ else g2 ρ:=rfl
def Fu(j i:Nat)(ga:Ev->R D)(ρ:Ev):C5 j i ga ρ=(eW (ga (frz j ρ))).out ρ λd=>if fl 10 d=true then .nx (ρ.set i (some (.val d)))else .no:=rfl
def IK(j i:Nat)(ga:Ev->R D)(ρ:Ev):J2 j i ga ρ=(ownAt ρ i).out ρ λds=>(eW (ga (frz j ρ))).out ρ λd=>if ds.length<sizeLine/\fl 10 d=true then .nx (ρ.set i (some (.own (ds++[d]))))else .no:=rfl
def FD(i:Nat)(ρ:Ev)(ds:List D)(d:D):Option Nat->O
 |some n=>if fl 10 d=true then .nx (ρ.set i (some (.own (ds.set n d))))else .no
 |none=>.no
def Hk(i:Nat)(gk ga:Ev->R D)(ρ:Ev):DP i gk ga ρ=(ownAt ρ i).out ρ λds=>(eW (ga (frz i ρ))).out ρ λd=>(eW (gk (frz i ρ)>>=asI)).out ρ λk=>FD i ρ ds d (ixN ds.length k):=rfl
def vT(i:Nat)(ρ:Ev)(ds:List D)(d:D)(n:Nat):FD i ρ ds d (some n)=if fl 10 d=true then .nx (ρ.set i (some (.own (ds.set n d))))else .no:=rfl
def Hm(gl:Ev->R (List D))(ρ:Ev):Dw gl ρ=gl ρ>>=Dy:=rfl
def JC(xs:List D):Dy [.tup xs]=.ok xs:=rfl
def Dc(ga gb:Ev->R D)(ρ:Ev):Gk ga gb ρ=ga ρ>>=λx=>gb ρ>>=λc=>BV x c:=rfl
def Dg(n:Nat)(asg:D->Ev->R Ev)(gl:Ev->R (List D))(ix:List Nat)(gt:Ev->R Bool)(ga:Ev->R D)(ρ:Ev):pf n asg gl ix gt ga ρ=gl ρ>>=λitems=>cH asg gt ga items (dC n ix ρ)>>=λds=>if ds.length<=sizeLine then .ok ds else .no:=rfl
def GR(i j:Nat)(ga:Ev->R D)(gl:Ev->R (List D))(ρ:Ev):J1 i j ga gl ρ=(ga ρ).out ρ λd=>(gl ρ).out ρ λds=>.nx ((ρ.set i (some (.val d))).set j (some (.own ds))):=rfl
def I8(f:Bool)(lo hi:Option Int)(x:List D):DN lo hi (.lst f x)=some (.lst false (lw x lo hi)):=rfl
def KO(ga gs:Ev->R D)(ρ:Ev):Mc ga gs ρ=ga ρ>>=λx=>gs ρ>>=λk=>IY x k:=rfl
def Ji(x:List Nat):IY (.str x) (.int (-1))=.ok (.str x.reverse):=rfl
def KC(f:Bool)(x:List D):IY (.lst f x) (.int (-1))=.ok (.lst false x.reverse):=rfl
def JM(f:Bool)(xs:List D):Dy [.lst f xs]=.ok xs:=rfl
def JE(i:Nat):O->O
 |.nx ρ=>.nx (ρ.set i none)
 |.rt d=>.rt d
 |_=>.no
def Gb(gs:Ev->O)(f:Addr->Option Bool)(i:Nat):O->O
 |.ex C ρ=>(match f C with
  |some true=>JE i (gs (ρ.set i (some (.val (.exc C)))))
  |_=>.no)
 |o=>o
def Kc(gb gs:Ev->O)(f:Addr->Option Bool)(i:Nat)(ρ:Ev):Lk gb gs f i ρ=Gb gs f i (gb ρ):=by unfold Lk Gb;cases gb ρ <;> rfl
def DE(gs:Ev->O)(f:Addr->Option Bool)(i:Nat)(ρ:Ev):Gb gs f i (.nx ρ)=.nx ρ:=rfl
def DK{gs:Ev->O}{f:Addr->Option Bool}{i:Nat}(h:f C=some true):Gb gs f i (.ex C ρ)=JE i (gs (ρ.set i (some (.val (.exc C))))):=by simp only[Gb,h]
def C8(i:Nat)(ρ:Ev):JE i (.nx ρ)=.nx (ρ.set i none):=rfl
def Iq(gs:List (Ev->R D))(out:List Nat)(ρ:Ev):D->R D
 |.str x=>if (out++x).length<=sizeLine then rZ gs (out++x) ρ else .no
 |_=>.no
def HZ(gs:List (Ev->R D))(ρ:Ev):Kl gs ρ=rZ gs [] ρ:=rfl
def CV(out:List Nat)(ρ:Ev):rZ [] out ρ=.ok (.str out):=rfl
def C9(g:Ev->R D)(gs:List (Ev->R D))(out:List Nat)(ρ:Ev):rZ (g::gs) out ρ=g ρ>>=Iq gs out ρ:=rfl
def Ez(gs:List (Ev->R D))(out:List Nat)(ρ:Ev)(x:List Nat):Iq gs out ρ (.str x)=if (out++x).length<=sizeLine then rZ gs (out++x) ρ else .no:=rfl
def Kj(x:List Nat):MO (.str x)=.ok (.str x):=rfl
def Ge(j i:Nat)(gl:Ev->R (List D))(ρ:Ev):Ko j i gl ρ=(eW (gl (frz j ρ))).out ρ λds=>if ds.all (fl 10)=true then .nx (ρ.set i (some (.own ds)))else .no:=rfl
def Jv(n:Nat)(gt:Ev->R Bool)(g:Ev->O)(ρ:Ev):FO n gt g ρ=uG gt g n ρ:=rfl
def Dh(gi:Ev->R (List D))(ix:List Nat)(gt:Ev->R Bool)(ge:Ev->R D)(ρ:Ev):H8 gi ix gt ge ρ=gi ρ>>=λitems=>if items.length<=sizeLine then uJ (gO 0) gt ge items (fI ix ρ)else .no:=rfl
def Dx(C:Addr)(i k:Nat)(gb:Ev->R D)(ρ:Ev):GX C i k gb ρ=(Cl C ρ i>>=λfs=>DY fs k>>=λds=>gb ρ>>=λd=>ofO (ixD (.lst false ds) d)):=rfl
def Ax(C:Addr)(i k:Nat)(ρ:Ev):DD C i k ρ=(Cl C ρ i>>=λfs=>DY fs k>>=λds=>.ok (.int ds.length)):=rfl
def HV(C:Addr)(i k:Nat)(ga:Ev->R D)(ρ:Ev):Jr C i k ga ρ=(vQ C ρ i).out ρ λo=>(DY o.2 k).out ρ λds=>(ga ρ).out ρ λd=>if ds.length<sizeLine then .nx (ρ.set i (some (.obj true C o.1 (qV k (.own (ds++[d])) o.2))))else .no:=rfl
def HQ(C:Addr)(i k:Nat)(gl:Ev->R (List D))(ρ:Ev):Jz C i k gl ρ=(vQ C ρ i).out ρ λo=>(gl ρ).out ρ λds=>if o.2.length<900 then .nx (ρ.set i (some (.obj true C o.1 (qV k (.own ds) o.2))))else .no:=rfl
def HN(ga:Ev->R D)(ρ:Ev):Kx ga ρ=(ga ρ).out ρ λd=>.re d ρ:=rfl
def DZ(C:Addr)(i n:Nat)(F:MF)(gl:Ev->R (List D))(ρ:Ev):Hl C i n F gl ρ=(Cl C ρ i>>=λfs=>gl ρ>>=λds=>if ds.length=n then (F fs ds).read else .no):=rfl
def AO(C:Addr)(i:Nat)(F:MF)(ρ:Ev):CS C i F ρ=(Cl C ρ i>>=λfs=>(F fs []).read):=rfl
def D1(C:Addr)(i n:Nat)(F:MF)(gl:Ev->R (List D))(ρ:Ev):JQ C i n F gl ρ=(vQ C ρ i).out ρ λo=>(gl ρ).out ρ λds=>if ds.length=n then (F o.2 ds).out C o.1 i ρ else .no:=rfl
def Dp(C:Addr)(i:Nat)(F:MF)(ρ:Ev):He C i F ρ=(vQ C ρ i).out ρ λo=>(F o.2 []).out C o.1 i ρ:=rfl
def Md(d:D)(ρ:Ev)(k:Ev->O):(O.re d ρ).seq k=.re d ρ:=rfl
def JL(d:D):RM.read (.rd d)=.ok d:=rfl
def Ki(C:Addr):RM.read (.ex C)=.ex C:=rfl
def FG(d:D)(fs:List (Nat×Fd))(C p:Addr)(i:Nat)(ρ:Ev):RM.out (.ok d fs) C p i ρ=.nx (ρ.set i (some (.obj true C p fs))):=rfl
def GA(d:D)(C p:Addr)(i:Nat)(ρ:Ev):RM.out (.rd d) C p i ρ=.nx ρ:=rfl
def Gr(E C p:Addr)(i:Nat)(ρ:Ev):RM.out (.ex E) C p i ρ=.ex E ρ:=rfl
end L2
section
open L2
set_option compiler.extract_closed false in
local macro_rules | `(tactic| walk_at "run")=>`(tactic| simp -implicitDefEqProofs only[rvz,ciz,nlz,csz,HY,GJ,Iw,Fs,Dh,↓zg,↓DT,↓CY,↓E8,JK,Mt,IM,KM,Mq,JW,FT,KN,Ea,JN,Jk,IG,MT,CQ,En,Js,ML,LI,Mh,FI,GE,L4,JZ,L3,JS,HA,J3,Jp,Mf,Gc,Ka,Jf,IK,J8,Fu,Hk,kE,Hm,Dc,Dg,GR,I8,KO,Ji,KC,vT,JC,JM,Ms,L6,and_self,Kb,LY,MG,LH,asl,LW,Mw,MB,Ja,sv2,LM,MQ,LR,MM,L0,LG,MR,L5,rA,LL,rd0,rd1,rd2,rd3,rd4,rd5,rd6,rd7,rd8,rd9,Mi,MN,MS,R.ok_bind,R.ok_out,R.ex_bind,R.ex_out,bR,Jc,Je,Mu,Me,LS,Mr,LN,Lb,Lr,Mx,Kw,JU,Jm,JA,Kt,L8,List.set_cons_succ,km,r6,Yn,Z6,Nat.reduceAdd,Nat.reduceBEq,kY,Zz,rW,t5,t8,Ge,Jv,Kc,DE,DK,C8,HZ,CV,C9,Ez,Kj,Int.reduceLT,Int.reduceLE,Int.reduceBEq,decide_true,Zx,Dx,Ax,HV,HQ,HN,DZ,AO,D1,Dp,Md,JL,Ki,FG,GA,Gr, *])
namespace Q
open L2
open PySem (sizeLine Addr)
def Lc:D->Bool
 |.int _=>true
 |_=>false
def zU:List D->R D
 | [.exc _]=>.no
 | [.dct _ _]=>.no
 | [d]=>.ok (.bl (Lc d))
 |_=>.no
def dX:Ev->O:=(ax (cB (mM (aq (iS isInt) (rvz 0)) (KJ (aq (iS (·=="bool")) (rvz 0))))) oNx)
def sM:∀ds:List D,ds.length=1->zU ds=.no\/ao (dX  (ak 1 ds))=zU ds:=by
 intro ds hl;unfold dX
 match ds,hl with
 | [d],_=>cases d <;> first|exact Or.inr rfl|exact Or.inl rfl
def inB(d:D)(lo hi:Int):Bool:=match d with
 |.int i=>decide (lo<=i) && decide (i<=hi)
 |_=>false
def zB:List D->R D
 | [.exc _,_,_]=>.no
 | [.dct _ _,_,_]=>.no
 | [d,.int lo,.int hi]=>.ok (.bl (inB d lo hi))
 |_=>.no
def cT(eF:List D->R D):Ev->O:=(ax (cB (mM (aA 1 eF (aa (rvz 0) nlz)) (g3 leD leD (rvz 1) (rvz 0) (rvz 2)))) oNx)
def pA:∀ds:List D,ds.length=3->zB ds=.no\/ao (cT zU (ak 3 ds))=zB ds:=by
 intro ds hl;unfold cT
 match ds,hl with
 | [d,l,h],_=>
  cases d <;> first|exact Or.inl rfl|skip
  all_goals (cases l <;> first|exact Or.inl rfl|skip)
  all_goals (cases h <;> first|exact Or.inl rfl|skip)
  all_goals first|exact Or.inr rfl|skip
  rename_i i lo hi hl;refine Or.inr ?_;show ao (ax _ oNx [some (.val (.int i)),some (.val (.int lo)),some (.val (.int hi))])=R.ok (D.bl (inB (.int i) lo hi));by_cases h1:lo<=i <;> simp[ax,cB,mM,aA,aa,g3,rdV,zU,Lc,asB,leD,inB,ao,O.seq,h1]
def plain(x:List Nat):Bool:=x.all λc=>decide (32<=c) && decide (c<=126)
def L1:D->Bool
 |.str x=>plain x
 |_=>false
def jG:List D->R D
 | [.exc _]=>.no
 | [.dct _ _]=>.no
 | [.str x]=>if x.length<=sizeLine then .ok (.bl (plain x))else .no
 | [d]=>.ok (.bl false)
 |_=>.no
def dR:Ev->O:=(ax (cB (mM (aq (iS (·=="str")) (rvz 0)) (gOf A3 (aa (bA (eA (aq bf (rvz 0)) [] (λ_=>R.ok true) (g3 leD leD (csz [32]) (rvz 0) (csz [126])))) nlz)))) oNx)
def sU:∀ds:List D,ds.length=1->jG ds=.no\/ao (dR  (ak 1 ds))=jG ds:=by
 intro ds hl;unfold dR
 match ds,hl with
 | [d],_=>
  cases d <;> first|exact Or.inl rfl|exact Or.inr rfl|skip
  rename_i x hl;by_cases hx:x.length<=sizeLine
  ·refine Or.inr ?_;have e:eZ (λ_=>R.ok true) (g3 leD leD (λ_=>.ok (.str [32])) (rvz 0) (λ_=>.ok (.str [126]))) (x.map λc=>D.str [c]) [none]=.ok ((x.map λc=>D.str [c]).map λd=>.bl (match d with|.str [c]=>decide (32<=c) && decide (c<=126)|_=>false)):=by
    refine qT _ [] _ none λd m=>⟨rfl,?_⟩
    obtain⟨c,_,rfl⟩:=s8.1 m;show(ofO (some (D.bl (!decide (([c]:List Nat)<[32]))))>>=λz=>match z with
     |.bl true=>ofO (some (D.bl (!decide (([126]:List Nat)<[c]))))
     |.bl false=>R.ok (D.bl false)
     |_=>R.no:R D)=_;rw[zj,zj,bR,R.ok_bind];cases h1:decide (32<=c) <;> simp[h1]
   have e2:jG [.str x]=.ok (.bl (plain x)):=if_pos hx;rw[e2];show ao (ax _ oNx [some (.val (.str x))])=_;simp only[ax,cB,mM,aq,gOf,aa,bA,eA,rd0,iS,tyN,asB,fI,bf,R.ok_bind,oR];simp only[l9,t8,e,R.ok_bind];simp only[zV,hx,t8,R.ok_bind,jL,bR,R.ok_out,ao,O.seq,List.all_map,plain];rfl
  ·exact Or.inl (if_neg hx)
def Gp:D->Bool
 |.exc _=>false
 |.dct _ _=>false
 |.str x=>decide (x.length<=sizeLine)
 |_=>true
def zN(d:D)(wd:Int):Bool:=match d with
 |.str x=>plain x && ((x.length:Int)==wd)
 |_=>false
def wk(d:D)(wd:Int):Bool:=match d with
 |.tup xs=>decide (1<=xs.length) && decide (xs.length<=12) && xs.all λr=>zN r wd
 |_=>false
def yu:List D->R D
 | [.exc _,_]=>.no
 | [.dct _ _,_]=>.no
 | [.tup xs,.int wd]=>if xs.all Gp=true then .ok (.bl (wk (.tup xs) wd))else .no
 | [d,.int wd]=>.ok (.bl false)
 |_=>.no
def vM{d:D}(h:Gp d=true):jG [d]=.ok (.bl (L1 d)):=by
 cases d <;> first|rfl|(cases h;done)|skip
 exact if_pos (g9 h)
noncomputable def bO(aR:List D->R D):Ev->O:=(ax (oIf (vJ (gBn (aq jy (aq (iS (·=="tuple")) (rvz 0)))) (gBn (gB3 leD leD (ciz 1) (gOf fm (aa (rvz 0) nlz)) (ciz 12)))) (ax (cB (λ_=>R.ok (D.bl false))) oNx) oNx) (ax (cB (gOf A3 (aa (bA (eA (aq bf (rvz 0)) [1] (λ_=>R.ok true) (mM (aA 1 aR (aa (rvz 0) nlz)) (g2 eqF (gOf fm (aa (rvz 0) nlz)) (rvz 1))))) nlz))) oNx))
def jI:∀ds:List D,ds.length=2->yu ds=.no\/ao (bO jG (ak 2 ds))=yu ds:=by
 intro ds hl;unfold bO
 match ds,hl with
 | [d,l],_=>
  cases d <;> first|exact Or.inl rfl|skip
  all_goals (cases l <;> first|exact Or.inl rfl|exact Or.inr rfl|skip)
  rename_i xs wd hl;by_cases hf:xs.all Gp=true
  ·refine Or.inr ?_;have e2:yu [.tup xs,.int wd]=.ok (.bl (wk (.tup xs) wd)):=if_pos hf;rw[e2];have e:eZ (λ_=>R.ok true) (mM (aA 1 jG (aa (rvz 0) λx=>R.ok [])) (g2 eqF (gOf fm (aa (rvz 0) λx=>R.ok [])) λρ=>rdV ρ 1)) xs [none,some (.val (.int wd))]=.ok (xs.map λd=>.bl (zN d wd)):=by
    refine qT _ [some (.val (.int wd))] xs none λd m=>⟨rfl,?_⟩
    have hd:=sI.1 hf d m;simp only[mM,aA,aa,rd0,R.ok_bind,Zu,t8,vM hd,asB];cases d <;> first|rfl|skip
    rename_i x;show(if plain x=true then R.ok (D.bl ((x.length:Int)==wd))else R.ok (.bl false))=R.ok (.bl (plain x && ((x.length:Int)==wd)));cases plain x <;> rfl
   show ao (ax _ _ [some (.val (.tup xs)),some (.val (.int wd))])=_;have i2:fI [1] [some (.val (.tup xs)),some (.val (.int wd))]=[none,some (.val (.int wd))]:=rfl;have t1:iS (λx=>x=="tuple") (.tup xs)=.ok (.bl true):=rfl;have t2:jy (.bl true)=.ok true:=rfl;have t3:fm [.tup xs]=some (.int xs.length):=rfl;simp only[ax,oIf,vJ,gBn,aq,gB3,g3,cB,gOf,aa,bA,eA,rd0,R.ok_bind,R.ok_out,bf,i2,e,t1,t2,t3,bR,leD,kY,rW,t5];by_cases h1:1<=xs.length
   ·have h1':(1:Int)<=(xs.length:Int):=by omega
    by_cases h2:xs.length<=12
    ·have h2':(xs.length:Int)<=12:=by omega
     have h3:xs.length<=sizeLine:=w6 h2 (by decide);simp[h1,h1',h2,h2',h3,asB,oNx,O.seq,jL,ao,wk];simp only[ax,cB,gOf,aa,bA,eA,aq,rd0,R.ok_bind,bf,i2,e,zV,h3,t8,jL,bR,R.ok_out,O.seq]
    ·have h2' : ¬ (xs.length:Int)<=12:=by omega
     simp[h1,h1',h2,h2',asB,oNx,O.seq,ao,wk]
   ·have h1' : ¬ (1:Int)<=(xs.length:Int):=by omega
    simp[h1,h1',asB,oNx,O.seq,ao,wk]
  ·exact Or.inl (if_neg hf)
def place(d:D)(wd m:Int):Bool:=match d with
 |.tup [a,b]=>inB a 0 (m - 1) && inB b 0 wd
 |_=>false
def qF:D->Bool
 |.exc _=>false
 |.dct _ _=>false
 |_=>true
def my:List D->R D
 | [.exc _,_,_]=>.no
 | [.dct _ _,_,_]=>.no
 | [.tup xs,.int wd,.int m]=>if xs.all qF=true then .ok (.bl (place (.tup xs) wd m))else .no
 | [d,.int wd,.int m]=>.ok (.bl false)
 |_=>.no
def jl{d:D}{lo hi:Int}(h:qF d=true):zB [d,.int lo,.int hi]=.ok (.bl (inB d lo hi)):=by cases d <;> first|rfl|(cases h;done)
noncomputable def dH(aI:List D->R D):Ev->O:=(ax (oIf (vJ (gBn (aq jy (aq (iS (·=="tuple")) (rvz 0)))) (gB2 neF (gOf fm (aa (rvz 0) nlz)) (ciz 2))) (ax (cB (λ_=>R.ok (D.bl false))) oNx) oNx) (ax (cB (mM (aA 3 aI (aa (g2 ixD (rvz 0) (ciz 0)) (aa (ciz 0) (aa (g2 Bv (rvz 2) (ciz 1)) nlz)))) (aA 3 aI (aa (g2 ixD (rvz 0) (ciz 1)) (aa (ciz 0) (aa (rvz 1) nlz)))))) oNx))
def sf:∀ds:List D,ds.length=3->my ds=.no\/ao (dH zB (ak 3 ds))=my ds:=by
 intro ds hl;unfold dH
 match ds,hl with
 | [d,l,h],_=>
  cases d <;> first|exact Or.inl rfl|skip
  all_goals (cases l <;> first|exact Or.inl rfl|skip)
  all_goals (cases h <;> first|exact Or.inl rfl|exact Or.inr rfl|skip)
  rename_i xs wd m hl;by_cases hf:xs.all qF=true
  ·refine Or.inr ?_;have e2:my [.tup xs,.int wd,.int m]=.ok (.bl (place (.tup xs) wd m)):=if_pos hf;rw[e2]
   match xs,hf with
   | [],_=>rfl
   | [_],_=>rfl
   | [a,b],hf=>have ha:qF a=true:=sI.1 hf a (by simp);have hb:qF b=true:=sI.1 hf b (by simp);show ao ((mM (λ_=>zB [a,.int 0,.int (m - 1)]) (λ_=>zB [b,.int 0,.int wd]) []).out _ .rt |>.seq oNx)=_;rw[mM,jl ha,jl hb];show ao ((if inB a 0 (m - 1)=true then R.ok (D.bl (inB b 0 wd))else R.ok (D.bl false)).out _ .rt |>.seq oNx)=R.ok (D.bl (inB a 0 (m - 1) && inB b 0 wd));cases inB a 0 (m - 1) <;> rfl
   |a::b::c::l,_=>
    show ao (ax _ _ [some (.val (.tup (a::b::c::l))),some (.val (.int wd)),some (.val (.int m))])=_;have t1:iS (λx=>x=="tuple") (.tup (a::b::c::l))=.ok (.bl true):=rfl;have t2:jy (.bl true)=.ok true:=rfl;have t3:fm [.tup (a::b::c::l)]=some (.int (a::b::c::l).length):=rfl;have t4:neF (.int (a::b::c::l).length) (.int 2)=some (.bl true):=by
     have:(((a::b::c::l).length:Int)==2)=false:=by simp;omega
     show some (D.bl (!(((a::b::c::l).length:Int)==2)))=_;rw[this];rfl
    simp only[ax,oIf,vJ,gBn,aq,gB2,g2,cB,gOf,aa,rd0,R.ok_bind,R.ok_out,t1,t2,t3,t4,bR,kY,rW,t5];rfl
  ·exact Or.inl (if_neg hf)
def qD:D->Bool
 |.exc _=>false
 |.dct _ _=>false
 |.tup [w,r,p]=>qF w && (match r with|.exc _=>false|.dct _ _=>false|.tup xs=>xs.all Gp|_=>true) && (match p with|.exc _=>false|.dct _ _=>false|.tup xs=>xs.all qF|_=>true)
 |_=>true
def screen:D->Bool
 |.tup [a,r,p]=>match a with
  |.int wd=>inB (.int wd) 1 40 && wk r wd && (match r with|.tup rows=>place p wd rows.length|_=>false)
  |_=>false
 |_=>false
def kQ:List D->R D
 | [d]=>if qD d=true then .ok (.bl (screen d))else .no
 |_=>.no
noncomputable def cX(aI bK eM:List D->R D):Ev->O:=(ax (oIf (vJ (gBn (aq jy (aq (iS (·=="tuple")) (rvz 0)))) (gB2 neF (gOf fm (aa (rvz 0) nlz)) (ciz 3))) (ax (cB (λ_=>R.ok (D.bl false))) oNx) oNx) (ax (hZ 1 (g2 ixD (rvz 0) (ciz 0))) (ax (oIf (vJ (gBn (aq jy (aA 3 aI (aa (rvz 1) (aa (ciz 1) (aa (ciz 40) nlz)))))) (gBn (aq jy (aA 2 bK (aa (g2 ixD (rvz 0) (ciz 1)) (aa (rvz 1) nlz)))))) (ax (cB (λ_=>R.ok (D.bl false))) oNx) oNx) (ax (cB (aA 3 eM (aa (g2 ixD (rvz 0) (ciz 2)) (aa (rvz 1) (aa (gOf fm (aa (g2 ixD (rvz 0) (ciz 1)) nlz)) nlz))))) oNx))))
def pX:∀ds:List D,ds.length=1->kQ ds=.no\/ao (cX zB yu my (ak 2 ds))=kQ ds:=by
 intro ds hl;unfold cX
 match ds,hl with
 | [d],_=>
  cases d <;> first|exact Or.inl rfl|exact Or.inr rfl|skip
  rename_i xs hl
  match xs with
  | []=>exact Or.inr rfl
  | [_]=>exact Or.inr rfl
  | [_,_]=>exact Or.inr rfl
  |a::b::c::e::l=>
   refine Or.inr ?_;show ao (ax _ _ [some (.val (.tup (a::b::c::e::l))),none])=_;have t1:iS (λx=>x=="tuple") (.tup (a::b::c::e::l))=.ok (.bl true):=rfl;have t2:jy (.bl true)=.ok true:=rfl;have t3:fm [.tup (a::b::c::e::l)]=some (.int (a::b::c::e::l).length):=rfl;have t4:neF (.int (a::b::c::e::l).length) (.int 3)=some (.bl true):=by
    have:(((a::b::c::e::l).length:Int)==3)=false:=by simp;omega
    show some (D.bl (!(((a::b::c::e::l).length:Int)==3)))=_;rw[this];rfl
   simp only[ax,oIf,vJ,gBn,aq,gB2,g2,cB,gOf,aa,rd0,R.ok_bind,R.ok_out,t1,t2,t3,t4,bR,kY,rW,t5];rfl
  | [a,r,p]=>
   by_cases hf:qD (.tup [a,r,p])=true
   ·refine Or.inr ?_;have e2:kQ [.tup [a,r,p]]=.ok (.bl (screen (.tup [a,r,p]))):=if_pos hf;rw[e2];simp only[qD,u8]at hf;obtain⟨⟨ha,hr⟩,hp⟩:=hf;show ao (ax _ _ [some (.val (.tup [a,r,p])),none])=_;have t1:iS (λx=>x=="tuple") (.tup [a,r,p])=.ok (.bl true):=rfl;have t2:∀k,jy (.bl k)=.ok k:=λ_=>rfl;have t3:fm [.tup [a,r,p]]=some (.int 3):=rfl;have t4:neF (.int 3) (.int 3)=some (.bl false):=rfl;have x0:ixD (.tup [a,r,p]) (.int 0)=some a:=rfl;have x1:ixD (.tup [a,r,p]) (.int 1)=some r:=rfl;have x2:ixD (.tup [a,r,p]) (.int 2)=some p:=rfl;have s1:([some (.val (.tup [a,r,p])),none]:Ev).set 1 (some (.val a))=[some (.val (.tup [a,r,p])),some (.val a)]:=rfl;simp only[ax,oIf,hZ,vJ,gBn,aq,gB2,g2,cB,gOf,aa,rd0,rd1,R.ok_bind,R.ok_out,t1,t2,t3,t4,x0,x1,x2,s1,wQ,Cu,bR,asB,oNx,O.seq,kY,rW,t5,jl ha];cases hi:inB a 1 40 with
    |false=>
     have:screen (.tup [a,r,p])=false:=by
      cases a <;> first|rfl|skip
      simp only[screen,hi,Zr]
     rw[this];rfl
    |true=>
     cases a <;> first|(cases hi;done)|skip
     rename_i i;have e3:yu [r,.int i]=.ok (.bl (wk r i)):=by cases r <;> first|rfl|(cases hr;done)|exact if_pos hr
     cases hq:wk r i with
     |false=>
      have:screen (.tup [.int i,r,p])=false:=by simp only[screen,hi,hq,d9,Zr]
      rw[e3,hq,this];rfl
     |true=>
      cases r <;> first|(cases hq;done)|skip
      rename_i rows;have e4:my [p,.int i,.int rows.length]=.ok (.bl (place p i rows.length)):=by cases p <;> first|rfl|(cases hp;done)|exact if_pos hp
      have e5:screen (.tup [.int i,.tup rows,p])=place p i rows.length:=by simp only[screen,hi,hq,ZS,ZF]
      rw[e3,hq,e5];show ao ((my [p,.int i,.int rows.length]).out _ .rt |>.seq _)=_;rw[e4];rfl
   ·exact Or.inl (if_neg hf)
def oG:List D->Option (List Int)
 | []=>some []
 |.int i::ds=>(oG ds).map (i::·)
 |_=>none
theorem tH:∀{ds:List D}{ns:List Int},oG ds=some ns->ds=ns.map .int
 | [],ns,h=>by cases h;rfl
 |d::ds,ns,h=>by
  cases d <;> first|(cases h;done)|skip
  rename_i i;cases q:oG ds with
  |none=>simp[oG,q]at h
  |some ms=>simp[oG,q]at h;subst h;rw[tH q];rfl
theorem qP:∀ns:List Int,oG (ns.map .int)=some ns
 | []=>rfl
 |i::ns=>by simp[oG,qP ns]
def cell(ns:List Int)(k:Nat):Int:=if k<ns.length then ns.getD k 0 else if ns.length=0 then 0 else ns.getD (k % ns.length) 0 * 31+k
def tZ{ns:List Int}(h:k<ns.length):atI (ns.map D.int) (k:Int)=some (.int (ns.getD k 0)):=by
 have e:ixN (ns.map D.int).length (k:Int)=some k:=by
  rw[zV];simp[ixN]
  try omega
 rw[atI,e];simp[List.getD,h]
def tfr{n:Nat}:∀ds:List D,ds.length=n->F ds=.no\/F ds=F ds:=λ_ _=>.inr rfl
noncomputable def cM:Ev->O:=(ax (oIf (gB2 ltD (rvz 1) (gOf fm (aa (rvz 0) nlz))) (ax (cB (g2 ixD (rvz 0) (rvz 1))) oNx) oNx) (ax (oIf (gB2 eqF (rvz 0) (bA (zy nlz))) (ax (cB (ciz 0)) oNx) oNx) (ax (cB (g2 cP (g2 ja (g2 ixD (rvz 0) (g2 xK (rvz 1) (gOf fm (aa (rvz 0) nlz)))) (ciz 31)) (rvz 1))) oNx)))
def AQ:List D->R D:=λds=>ao (cM (ak 2 ds))
def wH{ns:List Int}{n:Nat}:AQ [.lst fz (ns.map .int),.int n]=.ok (.int (cell ns n)):=by
 show ao (cM [some (.val (.lst fz (ns.map .int))),some (.val (.int n))])=_;unfold cM;have t3:fm [.lst fz (ns.map .int)]=some (.int ns.length):=by simp[fm]
 by_cases h1:n<ns.length
 ·have h1':(n:Int)<(ns.length:Int):=by omega
  have x1:ixD (.lst fz (ns.map .int)) (.int n)=some (.int (ns.getD n 0)):=tZ h1;simp only[ax,oIf,gB2,g2,cB,gOf,aa,rd0,rd1,R.ok_bind,R.ok_out,t3,x1,bR,ltD,asB,h1',decide_true,t8,O.seq,ao,cell,h1]
 ·have h1' : ¬ (n:Int)<(ns.length:Int):=by omega
  cases ns with
  |nil=>rfl
  |cons a as=>
   have t4:eqF (.lst fz ((a::as).map .int)) (.lst false [])=some (.bl false):=rfl;have h2:n % (a::as).length<(a::as).length:=Nat.mod_lt _ (by simp);have x1:ixD (.lst fz ((a::as).map .int)) (.int ((n % (a::as).length:Nat):Int))=some (.int ((a::as).getD (n % (a::as).length) 0)):=tZ h2;have m1:xK (.int n) (.int (a::as).length)=some (.int ((n % (a::as).length:Nat):Int)):=by
    have:(0:Int)<((a::as).length:Int):=by simp
    simp only[xK,this,t8];rw[Int.natCast_emod]
   have m2:∀z:Int,ja (.int z) (.int 31)=some (.int (z * 31)):=λz=>if_pos (Or.inr (by decide));have z1:(0:Nat)<=sizeLine:=v8 _;have z2 : ¬ (a::as).length=0:=by simp
   simp only[ax,oIf,gB2,g2,cB,gOf,aa,bA,zy,rd0,rd1,R.ok_bind,R.ok_out,t3,t4,x1,m1,m2,bR,ltD,cP,asB,h1',Zx,rW,t5,O.seq,oNx,ao,cell,h1,km,z1,t8,z2]
def drawn(ns:List Int)(k:Nat):Int:=(cell ns k+6151 * ((k:Int)+1)) * 40692 % 2147483399
def oU(ns:List Int)(k:Nat)(m:Int):Int:=(drawn ns k * drawn ns k+drawn ns k / 31) % 2147483629 % m
def uY(ns:List Int)(k:Nat){m:Int}(h:0<m):0<=oU ns k m/\oU ns k m<m:=⟨Int.emod_nonneg _ (by omega),Int.emod_lt_of_pos _ h⟩
noncomputable def cN(du:List D->R D):Ev->O:=(ax (hZ 3 (g2 xK (g2 ja (g2 cP (aA 2 du (aa (rvz 0) (aa (rvz 1) nlz))) (g2 ja (ciz 6151) (g2 cP (rvz 1) (ciz 1)))) (ciz 40692)) (ciz 2147483399))) (ax (cB (g2 xK (g2 xK (g2 cP (g2 ja (rvz 3) (rvz 3)) (g2 zI (rvz 3) (ciz 31))) (ciz 2147483629)) (rvz 2))) oNx))
def jE:List D->R D:=λds=>ao (cN AQ (ak 4 ds))
def yI{ns:List Int}{n:Nat}{m:Int}(hm:0<m):jE [.lst fz (ns.map .int),.int n,.int m]=.ok (.int (oU ns n m)):=by
 show ao (cN AQ [some (.val (.lst fz (ns.map .int))),some (.val (.int n)),some (.val (.int m)),none])=_;unfold cN;have m1:∀z:Int,ja (.int 6151) (.int z)=some (.int (6151 * z)):=λz=>by show(if ((-(2 ^ 64):Int)<6151/\(6151:Int)<2 ^ 64)\/((-(2 ^ 64):Int)<z/\z<2 ^ 64)then some (D.int (6151 * z))else none)=_;exact if_pos (Or.inl (by decide))
 have m2:∀z:Int,ja (.int z) (.int 40692)=some (.int (z * 40692)):=λz=>if_pos (Or.inr (by decide));have m3:∀z:Int,xK (.int z) (.int 2147483399)=some (.int (z % 2147483399)):=λz=>by show(if (0:Int)<2147483399 then some (D.int (z % 2147483399))else none)=_;exact if_pos (by decide)
 have m4:∀z:Int,xK (.int z) (.int 2147483629)=some (.int (z % 2147483629)):=λz=>by show(if (0:Int)<2147483629 then some (D.int (z % 2147483629))else none)=_;exact if_pos (by decide)
 have m5:∀z:Int,xK (.int z) (.int m)=some (.int (z % m)):=λz=>if_pos hm;have m6:∀z:Int,zI (.int z) (.int 31)=some (.int (z / 31)):=λz=>by show(if (0:Int)<31/\(31:Int)<1073741824 then some (D.int (z / 31))else none)=_;exact if_pos (by decide)
 have m7:∀i j:Int,cP (.int i) (.int j)=some (.int (i+j)):=λ_ _=>rfl;have hd:0<=drawn ns n/\drawn ns n<2147483399:=⟨Int.emod_nonneg _ (by decide),Int.emod_lt_of_pos _ (by decide)⟩
 have m8:ja (.int (drawn ns n)) (.int (drawn ns n))=some (.int (drawn ns n * drawn ns n)):=if_pos (Or.inl (by omega));have s1:∀v,([some (.val (.lst fz (ns.map .int))),some (.val (.int n)),some (.val (.int m)),none]:Ev).set 3 v=[some (.val (.lst fz (ns.map .int))),some (.val (.int n)),some (.val (.int m)),v]:=λ_=>rfl;have q1:(cell ns n+6151 * ((n:Int)+1)) * 40692 % 2147483399=drawn ns n:=rfl;simp only[ax,hZ,cB,g2,wQ,rd0,rd1,rd2,rd3,R.ok_bind,R.ok_out,wH,m1,m2,m3,m4,m5,m6,m7,bR,O.seq,s1,q1,m8,ao,oU]
def pY(C:Addr):List D->R D
 | [d]=>if qD d=true then (if screen d=true then .ok .non else .ex C)else .no
 |_=>.no
def bS(dj:List D->R D)(bb:Addr):Ev->O:=(ax (oIf (gBn (aq jy (aA 1 dj (aa (rvz 0) nlz)))) (ax (ka bb (aa (csz [116,104,105,115,32,105,115,32,110,111,32,115,99,114,101,101,110]) nlz)) oNx) oNx) oNx)
def kK:∀ds:List D,ds.length=1->pY C ds=.no\/ao (bS kQ C (ak 1 ds))=pY C ds:=by
 intro ds hl;unfold bS
 match ds,hl with
 | [d],_=>
  by_cases hf:qD d=true;·refine Or.inr ?_;have e1:kQ [d]=.ok (.bl (screen d)):=if_pos hf;have e2:pY C [d]=if screen d=true then .ok .non else .ex C:=if_pos hf;rw[e2];show ao (ax _ _ [some (.val d)])=_;have t2:∀k,jy (.bl k)=.ok k:=λ_=>rfl;simp only[ax,oIf,ka,gBn,aq,BX,rd0,R.ok_bind,R.ok_out,e1,t2];cases screen d <;> rfl
  ·exact Or.inl (if_neg hf)
def D0{α:Type}(n:Nat)(x:α):(List.replicate n [x]).flatten=List.replicate n x:=by
 induction n with
 |zero=>rfl
 |succ n ih=>rw[mP,l5,ih];rfl
def AR{α:Type}(xs:List α)(l:Nat)(h:l<=xs.length):lw xs none (some (l:Int))=xs.take l:=by
 have h1:HT.sIx xs.length 0 none=0:=rfl;have h2:HT.sIx xs.length xs.length (some (l:Int))=l:=by
  simp only[HT.sIx]
  first|omega|(split <;> omega)
 unfold lw;rw[h1,h2];simp
def xI{n:Nat}(h:n<=100):ja (.str [32]) (.int (n:Int))=some (.str (List.replicate n 32)):=by
 have hz:(100:Nat)<=sizeLine:=by decide
 have e:[32]=[32]:=rfl;rw[e,<- D0 n 32];simp only[ja];rw[if_pos (by refine⟨by omega,by omega,?_⟩;simp;omega),si]
def cl:Nat->D->Bool
 | 0,_=>false
 |_+1,.exc _=>false
 |_+1,.dct _ _=>false
 |n+1,.tup xs=>xs.all (cl n)
 |n+1,.lst _ xs=>xs.all (cl n)
 |_+1,_=>true
theorem nA{f:D->D->Option Bool}:∀xs:List D,(∀x∈xs,f x x=some true)->eqZ f xs xs=some (xs.map λ_=>true)
 | [],_=>rfl
 |x::xs,h=>by rw[eqZ,h x (w5 ..),nA xs λy hy=>h y (w9 _ hy)];rfl
theorem mX{α:Type}:∀xs:List α,(xs.map λ_=>true).all id=true
 | []=>rfl
 |_::xs=>by rw[w8,ca,mX xs];rfl
theorem oE:∀(n m:Nat)(d:D),n<=m->cl n d=true->eqD m d d=some true
 | 0,_,_,_,h=>by simp[cl]at h
 |n+1,0,_,h,_=>by omega
 |n+1,m+1,d,hm,h=>by
  cases d <;> first|(simp[cl]at h;done)|(simp[eqD];done)|skip
  ·rename_i xs;simp only[cl,sI]at h;have:=nA (f:=eqD m) xs λx hx=>oE n m x (by omega) (h x hx);simp only[eqD,this,q8,mX,l9,ZS]
  ·rename_i fz xs;simp only[cl,sI]at h;have:=nA (f:=eqD m) xs λx hx=>oE n m x (by omega) (h x hx);simp only[eqD,t8,this,q8,mX]
def Bu{d:D}(h:cl 10 d=true):eqF d d=some (.bl true):=by unfold eqF;rw[oE 10 40 d (by omega) h];rfl
end Q
namespace Q21
open L2
open PySem (sizeLine Addr)
section
variable{α:Type}[DecidableEq α]
def put(xs:List α)(a:α):List α:=if a∈xs then xs else xs++[a]
def jC(t:Nat)(ls:List (List α))(ns:List (Nat×α)):List (List α):=ns.foldl (λls p=>ls.set (t+p.1) (put (ls.getD (t+p.1) []) p.2)) ls
noncomputable def jg(next:α->List (Nat×α))(goal:α->Bool)(t:Nat):List α->List (List α)->List α->Option (List (List α)×List α)
 | [],ls,kn=>some (ls,kn)
 |h::hs,ls,kn=>if h∈kn then jg next goal t hs ls kn else if goal h=true then none else jg next goal t hs (jC t ls (next h)) (kn++[h])
def hV(next:α->List (Nat×α))(goal:α->Bool):Nat->Nat->List (List α)->List α->Option Nat
 | 0,_,_,_=>none
 |n+1,t,ls,kn=>match jg next goal t (ls.getD t []) ls kn with
  |none=>some t
  |some (ls',kn')=>hV next goal n (t+1) (ls'++[[]]) kn'
def mem_put{xs:List α}{a b:α}:b∈put xs a ↔ b∈xs\/b=a:=by
 unfold put;split;·exact⟨.inl,λh=>h.elim id λe=>e▸‹_›⟩
 ·simp
variable{next:α->List (Nat×α)}{goal:α->Bool}{t:Nat}
def yP(ns:List (Nat×α)):∀ls:List (List α),(jC t ls ns).length=ls.length:=by
 induction ns with
 |nil=>intro ls;rfl
 |cons p ns ih=>intro ls;show(jC t _ ns).length=_;rw[ih,p6]
def tY{ls:List (List α)}{i:Nat}{x:List α}:(ls.set i x).getD j []=if i=j/\i<ls.length then x else ls.getD j []:=by
 simp only[v9,Ye];by_cases h:i=j
 ·subst h;by_cases q:i<ls.length;·simp[q]
  ·simp[q,o8 (iN q)]
 ·simp[h]
def fR(ns:List (Nat×α)):∀(ls:List (List α))(j:Nat)(b:α),(∀p∈ns,t+p.1<ls.length)->(b∈(jC t ls ns).getD j [] ↔ b∈ls.getD j []\/∃p∈ns,t+p.1=j/\p.2=b):=by
 induction ns with
 |nil=>intro ls j b _;simp[jC]
 |cons p ns ih=>
  intro ls j b hl;show b∈(jC t (ls.set (t+p.1) (put (ls.getD (t+p.1) []) p.2)) ns).getD j [] ↔ _;rw[ih _ j b (λq m=>by rw[p6];exact hl q (w9 _ m)),tY];have hp:=hl p (w5 ..);constructor
  ·rintro (h|⟨q,m,e1,e2⟩)
   ·split at h
    ·rename_i z;rcases mem_put.1 h with h|h;·exact .inl (by rw[<- z.1];exact h)
     ·exact .inr ⟨p,w5 ..,z.1,h.symm⟩
    ·exact .inl h
   ·exact .inr ⟨q,w9 _ m,e1,e2⟩
  ·rintro (h|⟨q,m,e1,e2⟩)
   ·refine .inl ?_;split;·rename_i z;exact mem_put.2 (.inl (by rw[z.1];exact h))
    ·exact h
   ·rcases y9.1 m with rfl|m;·refine .inl ?_;rw[if_pos ⟨e1,hp⟩];exact mem_put.2 (.inr e2.symm)
    ·exact .inr ⟨q,m,e1,e2⟩
def Ex(next:α->List (Nat×α))(goal:α->Bool)(ls:List (List α))(a:α)(d:Nat):Prop:=goal a=false/\∀p∈next a,p.2∈ls.getD (d+p.1) []
structure Lv(next:α->List (Nat×α))(goal:α->Bool)(s:α)(Pth:Nat->α->Prop)(t:Nat)(ls:List (List α))(kn:List α):Prop where
 len:ls.length=t+3
 st:s∈ls.getD 0 []
 pth:∀j a,a∈ls.getD j []->Pth j a
 kn:∀a∈kn,∃d,d<=t/\Ex next goal ls a d
 done:∀j,j<t->∀a∈ls.getD j [],∃d,d<=j/\Ex next goal ls a d
variable{Pth:Nat->α->Prop}{s:α}
theorem rC(hc:∀a,∀p∈next a,p.1=1\/p.1=2)(hP:∀j a,Pth j a->∀p∈next a,Pth (j+p.1) p.2):∀(hs:List α)(ls:List (List α))(kn:List α),Lv next goal s Pth t ls kn->(∀a∈hs,a∈ls.getD t [])->(∀a∈ls.getD t [],a∈hs\/∃d,d<=t/\Ex next goal ls a d)->
  match jg next goal t hs ls kn with
  |none=>∃a,Pth t a/\goal a=true
  |some r=>Lv next goal s Pth t r.1 r.2/\∀a∈r.1.getD t [],∃d,d<=t/\Ex next goal r.1 a d
 | [],ls,kn,I,_,h2=>⟨I,λa m=>(h2 a m).elim (λz=>nomatch z) id⟩
 |h::hs,ls,kn,I,h1,h2=>by
  unfold jg;by_cases k:h∈kn
  ·rw[if_pos k];refine rC hc hP hs ls kn I (λa m=>h1 a (w9 _ m)) λa m=>?_;rcases h2 a m with z|z
   ·rcases y9.1 z with rfl|z;·exact .inr (I.kn _ k)
    ·exact .inl z
   ·exact .inr z
  ·rw[if_neg k];by_cases g:goal h=true;·rw[if_pos g];exact⟨h,I.pth t h (h1 h (w5 ..)),g⟩
   ·rw[if_neg g];have hl:∀p∈next h,t+p.1<ls.length:=λp m=>by rw[I.len];rcases hc h p m with e|e <;> omega
    have same:∀j,j<=t->∀b,b∈(jC t ls (next h)).getD j [] ↔ b∈ls.getD j []:=λj hj b=>by rw[fR _ _ _ _ hl];exact⟨λz=>z.elim id λ⟨p,m,e,_⟩=>by rcases hc h p m with q|q <;> omega,.inl⟩
    have mono:∀a d,Ex next goal ls a d->Ex next goal (jC t ls (next h)) a d:=λa d ⟨x,y⟩=>⟨x,λp m=>(fR _ _ _ _ hl).2 (.inl (y p m))⟩
    have eh:Ex next goal (jC t ls (next h)) h t:=⟨by simpa using g,λp m=>(fR _ _ _ _ hl).2 (.inr ⟨p,m,rfl,rfl⟩)⟩
    have hh:=I.pth t h (h1 h (w5 ..));refine rC hc hP hs _ _ ⟨(yP _ _).trans I.len,(fR _ _ _ _ hl).2 (.inl I.st),λj a m=>?_,λa m=>?_,λj hj a m=>?_⟩ (λa m=>(same t (z8 _) a).2 (h1 a (w9 _ m))) λa m=>?_
    ·rcases (fR _ _ _ _ hl).1 m with z|⟨p,m,e1,e2⟩;·exact I.pth j a z
     ·rw[<- e1,<- e2];exact hP t h hh p m
    ·rcases r8.1 m with z|z;·obtain⟨d,x,y⟩:=I.kn a z;exact⟨d,x,mono a d y⟩
     ·rw[wc]at z;subst z;exact⟨t,z8 _,eh⟩
    ·obtain⟨d,x,y⟩:=I.done j hj a ((same j (ik hj) a).1 m);exact⟨d,x,mono a d y⟩
    ·rcases h2 a ((same t (z8 _) a).1 m)with z|⟨d,x,y⟩
     ·rcases y9.1 z with rfl|z;·exact .inr ⟨t,z8 _,eh⟩
      ·exact .inl z
     ·exact .inr ⟨d,x,mono a d y⟩
def gy(ls:List (List α))(j:Nat):(ls++[[]]).getD j []=ls.getD j []:=by
 simp only[v9];by_cases h:j<ls.length;·rw[qq h]
 ·rw[pT (iN h),o8 (iN h)];cases j - ls.length <;> simp
inductive Way(next:α->List (Nat×α)):α->Nat->α->Prop
 |here {a:α}:Way next a 0 a
 |step {a:α} {c:Nat} {b:α} {p:Nat×α} (h:Way next a c b) (m:p∈next b):Way next a (c+p.1) p.2
theorem Ca{ls:List (List α)}{t m:Nat}(h0:s∈ls.getD 0 [])(hd:∀j,j<t->∀a∈ls.getD j [],∃d,d<=j/\Ex next goal ls a d):∀{c:Nat}{b:α},Way next s c b->c<t->∃d,d<=c/\Ex next goal ls b d
 |_,_,.here,h=>hd 0 h s h0
 |_,_,.step (c:=c) (p:=p) w mm,h=>by obtain⟨d,x,y⟩:=Ca (m:=m) h0 hd w (by omega);obtain⟨e,u,v⟩:=hd (d+p.1) (by omega) p.2 (y.2 p mm);exact⟨e,by omega,v⟩
theorem pF{x:α}{m:Nat}(hc:∀a,∀p∈next a,p.1=1\/p.1=2)(hP:∀j a,Pth j a->∀p∈next a,Pth (j+p.1) p.2)(w:Way next s m x)(gx:goal x=true):∀(n t:Nat)(ls:List (List α))(kn:List α),m<t+n->t<=m->Lv next goal s Pth t ls kn->
  ∃r a,hV next goal n t ls kn=some r/\r<=m/\Pth r a/\goal a=true
 | 0,t,ls,kn,h1,h2,_=>by omega
 |n+1,t,ls,kn,h1,h2,I=>by
  have sc:=rC (next:=next) (goal:=goal) hc hP (ls.getD t []) ls kn I (λ_ m=>m) λa m=>.inl m;unfold hV;cases q:jg next goal t (ls.getD t []) ls kn with
  |none=>rw[q]at sc;obtain⟨a,pa,ga⟩:=sc;exact⟨t,a,rfl,h2,pa,ga⟩
  |some r=>
   rw[q]at sc;obtain⟨I',dn⟩:=sc;have hd:∀j,j<t+1->∀a∈r.1.getD j [],∃d,d<=j/\Ex next goal r.1 a d:=λj hj a m=>by
    rcases Nat.lt_succ_iff_lt_or_eq.1 hj with z|z;·exact I'.done j z a m
    ·subst z;exact dn a m
   have h0':=I'.st;have ex:∀a d,Ex next goal r.1 a d->Ex next goal (r.1++[[]]) a d:=λa d ⟨u,v⟩=>⟨u,λp m=>by rw[gy];exact v p m⟩
   by_cases z:m<t+1;·obtain⟨d,_,y⟩:=Ca (m:=m) h0' hd w z;rw[y.1]at gx;cases gx
   ·refine pF hc hP w gx n (t+1) _ _ (by omega) (by omega) ⟨by rw[v6,I'.len];rfl,by rw[gy];exact h0',λj a m=>by rw[gy]at m;exact I'.pth j a m,λa m=>?_,λj hj a m=>?_⟩;·obtain⟨d,u,v⟩:=I'.kn a m;exact⟨d,by omega,ex a d v⟩
    ·rw[gy]at m;obtain⟨d,u,v⟩:=hd j hj a m;exact⟨d,u,ex a d v⟩
end
abbrev LK:=Int×List (List Nat)×Int×Int
def lkD(k:LK):D:=.tup [.int k.1,.tup (k.2.1.map .str),.tup [.int k.2.2.1,.int k.2.2.2]]
def pD(p:Nat×LK):D:=.tup [.int p.1,lkD p.2]
structure FewOk(Fn:List D->R D)(d0 d1:D)(n:Nat)(All:List LK)(next:LK->List (Nat×LK))(gl:LK->Bool)(s:LK)(fuel:Nat):Prop where
 all:All.length<sizeLine
 d0:d0=lkD s
 ss:s∈All
 eq:∀k∈All,eqF (.tup (k.2.1.map .str)) d1=some (.bl (gl k))
 nx:∀k∈All,Fn [lkD k,d1]=.ok (.lst false ((next k).map pD))
 st:∀k∈All,∀p∈next k,p.2∈All/\1<=p.1/\p.1<=2
 fu:fuel<1000000
 run:hV next gl fuel 0 [[s],[],[]] []=some n
def GV(F:List D->R D):Ev->O:=λρ=>if ρ.length=8 then (match rdV ρ 0,rdV ρ 1 with
 |.ok d0,.ok d1=>(F [d0,d1]).out ρ .rt
 |_,_=>.no)else .no
theorem wJ:∀{ks All:List LK},ks.Nodup->(∀k∈ks,k∈All)->ks.length<=All.length
 | [],_,_,_=>v8 _
 |a::ks,All,n,h=>by have m:=h a (w5 ..);have:=wJ (ks:=ks) (All:=All.erase a) (qZ.1 n).2 λk hk=>(List.mem_erase_of_ne (λ(e:k=a)=>(qZ.1 n).1 (e▸hk))).2 (h k (w9 _ hk));rw[List.length_erase_of_mem m]at this;have:=List.length_pos_of_mem m;simp only[r6];omega
def iZ{ks:List LK}{k:LK}(n:ks.Nodup):(put ks k).Nodup:=by
 unfold put;split;·exact n
 ·rename_i h;exact ZT.2 ⟨n,by simp,λa ha b hb=>by rw[wc]at hb;subst hb;exact λe=>h (e▸ha)⟩
def wl(c:Nat):List Nat->List Nat
 | []=>[c]
 |d::l=>if c<d then c::d::l else if c=d then d::l else d::wl c l
def aH(x:List Nat):List Nat:=x.foldr wl []
def jV:List D->Option D
 | [.str x]=>if 0<x.length/\x.length<=60 then some (.lst false ((aH x).map λc=>.str [c]))else none
 |_=>none
theorem mem_ins{c d:Nat}:∀{l:List Nat},d∈wl c l ↔ d=c\/d∈l
 | []=>by simp[wl]
 |e::l=>by
  unfold wl;split;·simp
  ·split;·rename_i h;subst h;simp
   ·rw[y9,mem_ins (l:=l),y9];exact⟨λh=>by rcases h with h|h|h <;> simp[h],λh=>by rcases h with h|h|h <;> simp[h]⟩
theorem mem_sort{d:Nat}:∀{x:List Nat},d∈aH x ↔ d∈x
 | []=>Iff.rfl
 |c::x=>by show d∈wl c (aH x) ↔ _;rw[mem_ins,mem_sort,y9]
def pS:D->List D->Option D
 |.str s,[.tup ds]=>qJ (.str s) [.lst false ds]
 |_,_=>none
end Q21
namespace PySem
open Sem (wp)
section
variable{prog:Program}{w:World}
inductive Hashes(prog:Program)(w:World)(A:Around)(E:Value->Shared->Prop)(hp:Heap):List Value->List (Int×Nat)->Prop
 |nil:Hashes prog w A E hp [] []
 |cons {v:Value} {i:Int} {d:Nat} {vs:List Value} {ps:List (Int×Nat)} (h:∀{Q:Int->Shared->Prop}{s:Shared},s.heap=hp->Q i { s with toks:=s.toks+d }->wpAny (model prog w) A (PySem.pyHash v) Q E s) (t:Hashes prog w A E hp vs ps):Hashes prog w A E hp (v::vs) ((i,d)::ps)
variable{A:Around}
def iA{o:Obj} {items n} {hs:List (Int×Nat)} {Q:Int->Shared->Prop} (hu:A.units<cLine)
 (ho:s.heap.get? a=some o) (hc:o.cls=.type "tuple") (hd:o.data=.seq items n)
 (hi:∀E',Hashes prog w A.in1 E' s.heap items.toList hs)
 (h:Q (reduceHash (Builtin.Tuple.tupleHashOf (hs.map (·.1)))) { s with toks:=s.toks+((hs.map (·.2)).sum+1) }) :
  wpAny (model prog w) A (pyHash (.ref a)) Q E s:=by
 have hT:s.TypeIs (.ref a) "tuple":=⟨o,ho,hc⟩
 unfold pyHash
 first|unfold pyHashByItsType|skip
 first|refine z5 (wpAny_cRoomFor_or (.inr hu) ?_)|skip
 refine z5 (j8 hT PySem.F.slot_tuple_hash.lookup ?_);show wpAny _ _ (if (some (Value.builtin "tuple.__hash__")==some Value.none)=true then _ else _) Q E s;rw[if_neg (by rw[beq_builtin_none];exact sP)];refine z5 (j8 hT PySem.F.slot_tuple_hash.lookup ?_);show wpAny _ _ (callSpecialIfBoundUnlessNone? (.ref a) "__hash__" _>>=_) Q E s;refine z5 (YC hT PySem.F.slot_tuple_hash (r9 PySem.F.slot_tuple_hash hT PySem.F.entry_tuple_hash ?_ (PySem.F.args_tuple_hash_1 _)));show wpAny _ _ (Builtin.Tuple.tupleItemsOf (.ref a)>>=_) _ _ s;refine z5 (Yq ho hd ?_);refine z5 ?_;rw[<- Y9];refine ZA _
  (λbQ (b:Array Int) s'=>∃done left,hs=done++left/\(∀E',Hashes prog w A.in1 E' s.heap bQ left)/\b.toList=done.map (·.1)/\s'={ s with toks:=s.toks+(done.map (·.2)).sum })
  _ ?_ ?_ _ _ ⟨[],hs,rfl,hi,rfl,rfl⟩
 ·rintro x bQ b s' ⟨done,left,rfl,hl,hb,rfl⟩;cases left with
  |nil=>cases hl E
  |cons p ps=>
   obtain⟨i,d⟩:=p;have hl':∀E',Hashes prog w A.in1 E' s.heap bQ ps:=λE'=>by cases hl E' with|cons _ t=>exact t
   cases hl _ with
   |cons h1 _=>
    refine z5 (h1 rfl ?_)
    first
     |exact z7 ⟨done++[(i,d)],ps,by simp,hl',by simp[hb],by simp[fN]⟩
     |exact z5 (z7 (z7 ⟨done++[(i,d)],ps,by simp,hl',by simp[hb],by simp[fN]⟩))
 ·rintro b s' ⟨done,left,rfl,hl,hb,rfl⟩;cases hl E;rw[qo]at h;show wpAny _ _ (retInt (Builtin.Tuple.tupleHashOf b.toList)) _ _ _;rw[hb];refine wpAny_ret_mkInt ?_;show wpAny _ _ (if (decide (-(2:Int) ^ 63<=Builtin.Tuple.tupleHashOf (done.map (·.1))) && decide (Builtin.Tuple.tupleHashOf (done.map (·.1))<2 ^ 63))=true then _ else _) Q E _;unfold reduceHash at h;by_cases hr:(decide (-(2:Int) ^ 63<=Builtin.Tuple.tupleHashOf (done.map (·.1))) && decide (Builtin.Tuple.tupleHashOf (done.map (·.1))<2 ^ 63))=true;·rw[if_pos hr];rw[if_pos hr]at h;exact z7 (by simpa[fN]using h)
  ·rw[if_neg hr];rw[if_neg hr]at h;exact z5 (ji (z7 (by simpa[fN]using h)))
inductive Eqs(prog:Program)(w:World)(A:Around)(E:Value->Shared->Prop)(hp:Heap):List (Value×Value)->List Bool->Prop
 |nil:Eqs prog w A E hp [] []
 |cons {u v:Value} {b:Bool} {vs:List (Value×Value)} {bs:List Bool} (h:∀{Q:Bool->Shared->Prop}{s:Shared},s.heap=hp->Q b s->wpAny (model prog w) A (eqBool u v) Q E s) (t:Eqs prog w A E hp vs bs):Eqs prog w A E hp ((u,v)::vs) (b::bs)
def lW{b:Addr}{oa ob:Obj} {xs ys na nb} {bs:List Bool} {P:Fin->Shared->Prop}
 (hoa:s.heap.get? a=some oa) (hda:oa.data=.seq xs na) (hob:s.heap.get? b=some ob) (hcb:ob.cls=.type "tuple") (hdb:ob.data=.seq ys nb)
 (he:Eqs prog w A E s.heap (List.zip xs.toList ys.toList) bs) (h:P (.done (.ret (.bool (bs.all id && (xs.size==ys.size))))) s) :
  wpAny (model prog w) A (Builtin.«tuple.__eq__» ⟨[.ref a,.ref b],[]⟩) P E s:=by
 have hTb:s.TypeIs (.ref b) "tuple":=⟨ob,hob,hcb⟩
 show wpAny _ _ (isInstance (.ref b) (.type "tuple")>>=_) _ _ s;refine z5 (ZP hTb isSubtype_tuple_tuple ?_);simp only[kY,rW,t5];refine z5 (Yq hoa hda ?_);refine z5 (Yq hob hdb ?_);refine z5 ?_;refine ZA _
  (λbQ r s'=>r.1=none/\s'=s/\∃bs',Eqs prog w A E s.heap bQ bs'/\bs'.all id=bs.all id)
  _ ?_ ?_ _ _ ⟨rfl,rfl,bs,he,rfl⟩
 ·rintro ⟨u,v⟩ bQ r s' ⟨hr,rfl,bs',h1,h2⟩;cases h1 with
  | @cons _ _ c _ cs hc ht=>
   refine z5 (hc rfl ?_);cases c with
   |true=>simp only[kY,rW,t5];exact z7 ⟨rfl,rfl,cs,ht,by simpa using h2⟩
   |false=>
    simp only[Zz,t8];have hf:bs.all id=false:=by rw[<- h2];rfl
    rw[hf,Zr]at h;exact z5 (z7 (z7 (z7 h)))
 ·rintro ⟨r1,r2⟩ s' ⟨hr,rfl,bs',h1,h2⟩;simp only at hr;subst hr;cases h1;refine z7 ?_;show P (.done (.ret (.bool (xs.size==ys.size)))) s';rw[<- h2,show([]:List Bool).all id=true from rfl,ZF]at h;exact h
def dw{n m:Nat}{o:Obj}{items:Array Value}{Q:Bool->Shared->Prop}(ho:s.heap.get? a=some o)(hc:o.cls=.type "tuple")(hd:o.data=.seq items m)(hi:∀v∈items.toList,∀{Q:Bool->Shared->Prop},Q true s->wpAny (model prog w) A (eqIsQuiet n v) Q E s)(h:Q true s):wpAny (model prog w) A (eqIsQuiet (n+1) (.ref a)) Q E s:=by
 have hT:s.TypeIs (.ref a) "tuple":=⟨o,ho,hc⟩
 unfold eqIsQuiet;refine z5 (j8 hT PySem.F.slot_tuple_eq.lookup ?_);show wpAny _ _ (isInstance (.ref a) (.type "tuple")>>=_) _ _ s;refine z5 (ZP hT isSubtype_tuple_tuple ?_);simp only[kY,rW,t5];refine z5 (jK ho hd ?_);refine z5 ?_;show wpAny _ _ (forIn items _ _) _ _ s;rw[<- Y9];refine ZA _ (λbQ r s'=>r.1=none/\s'=s/\∀v∈bQ,v∈items.toList) _ ?_ ?_ _ _ ⟨rfl,rfl,λ_ h=>h⟩;·rintro v bQ r s' ⟨hr,rfl,hall⟩;refine z5 (hi v (hall v w5) ?_);simp only[kY,rW,t5];exact z7 ⟨rfl,rfl,λu hu'=>hall u (w9 _ hu')⟩
 ·rintro ⟨r1,r2⟩ s' ⟨hr,rfl,_⟩;simp only at hr;subst hr;exact z7 h
abbrev SK:=Int×List Str×Int×Int
noncomputable def ScrAt(prog:Program)(w:World)(h:Heap)(k:SK)(a:Addr):Prop:=∃o items n v b c,h.get? a=some o/\o.cls=.type "tuple"/\o.data=.seq items n/\items.toList=[v,.ref b,.ref c]/\(intKind prog w).is k.1 v=true/\IsTupleKey (strKind prog w) h k.2.1 b/\IsTupleKey (intKind prog w) h [k.2.2.1,k.2.2.2] c
def yd(prog:Program)(w:World)(k:SK):Int:=reduceHash (Builtin.Tuple.tupleHashOf [(intKind prog w).hash k.1,tupleKeyHash (strKind prog w) k.2.1,tupleKeyHash (intKind prog w) [k.2.2.1,k.2.2.2]])
def ScrAt.inj{x y:SK}(hx:ScrAt prog w h x a)(hy:ScrAt prog w h y a):x=y:=by obtain⟨o,items,n,v,b,c,ho,_,hd,hi,h1,h2,h3⟩:=hx;obtain⟨o',items',n',v',b',c',ho',_,hd',hi',h1',h2',h3'⟩:=hy;obtain rfl:o=o':=vC (ho.symm.trans ho');rw[hd]at hd';injection hd' with e1 _;subst e1;rw[hi]at hi';simp only[Zh,Value.ref.injEq,and_true]at hi';obtain⟨rfl,rfl,rfl⟩:=hi';obtain⟨x1,x2,x3,x4⟩:=x;obtain⟨y1,y2,y3,y4⟩:=y;have e1:=(intKind prog w).inj _ _ _ h1 h1';have e2:=h2.inj h2';have e3:=h3.inj h3';simp only[Zh,and_true]at e1 e2 e3;obtain⟨e3,e4⟩:=e3;rw[e1,e2,e3,e4]
def ScrAt.keeps{k:SK}{d:Addr}{o:Obj} {es ep} (x:ScrAt prog w h k a) (ho:h.get? d=some o) (hd:o.data=.dict es ep) (hs:Heap.SameBut d h h'):ScrAt prog w h' k a:=by
 obtain⟨o',items,n,v,b,c,ho',hc,hd',hi,h1,h2,h3⟩:=x;have hne:a≠d:=by rintro rfl;obtain rfl:o'=o:=vC (ho'.symm.trans ho);rw[hd]at hd';exact nomatch hd'
 exact⟨o',items,n,v,b,c,(hs.2 a hne).trans ho',hc,hd',hi,h1,h2.keeps ho hd hs,h3.keeps ho hd hs⟩
noncomputable def rP(prog:Program)(w:World):HeapKind prog w SK where
 is:=ScrAt prog w
 hash:=yd prog w
 draws:=λk=>1+((k.2.1.length+1)+(3+0))+1
 room:=λA=>A.units+1<cLine
 inj:=λhx hy=>hx.inj hy
 keeps:=λx ho hd hs=>x.keeps ho hd hs
 pyHash:=λ{A E s k a Q} hu hk h=>by obtain⟨o,items,n,v,b,c,ho,hc,hd,hi,h1,h2,h3⟩:=hk;refine iA (hs:=[((intKind prog w).hash k.1,1),(tupleKeyHash (strKind prog w) k.2.1,k.2.1.length+1),(tupleKeyHash (intKind prog w) [k.2.2.1,k.2.2.2],3)]) (Nat.lt_of_succ_lt hu) ho hc hd (λE'=>?_) h;rw[hi];exact .cons (λe q=>(intKind prog w).pyHash h1 q) (.cons (λe q=>wpAny_pyHash_tuple hu (by rw[e];exact h2) q) (.cons (λe q=>wpAny_pyHash_tuple hu (by rw[e];exact h3) q) .nil))
 eqBool:=λ{A E s x y a b Q} hu hx hy h=>by
  have hx':=hx;have hy':=hy;obtain⟨oa,xs,na,v1,b1,c1,hoa,hca,hda,hia,p1,p2,p3⟩:=hx;obtain⟨ob,ys,nb,v2,b2,c2,hob,hcb,hdb,hib,q1,q2,q3⟩:=hy;unfold eqBool
  try with_reducible refine q9 ?_
  show wpAny _ _ (if (Value.ref a==Value.ref b)=true then _ else _) Q E s;by_cases hab:(Value.ref a==Value.ref b)=true
  ·rw[if_pos hab];have e:a=b:=by have:=j5 hab;injection this
   subst e;obtain rfl:=hx'.inj hy';exact z5 (ji (z7 (by simpa using h)))
  ·rw[if_neg hab];refine z5 (wpAny_richCompare_same_room (op:=.Eq) (show s.TypeIs (.ref a) "tuple" from⟨oa,hoa,hca⟩) (show s.TypeIs (.ref b) "tuple" from⟨ob,hob,hcb⟩) PySem.F.slot_tuple_eq
    (r9 PySem.F.slot_tuple_eq (show s.TypeIs (.ref a) "tuple" from⟨oa,hoa,hca⟩) PySem.F.entry_tuple_eq (lW (bs:=[decide (x.1=y.1),decide (x.2.1=y.2.1),decide ([x.2.2.1,x.2.2.2]=[y.2.2.1,y.2.2.2])]) hoa hda hob hcb hdb ?_ ⟨_,rfl,(λe=>nomatch e),oQ ?_⟩) (PySem.F.args_tuple_eq_2 _ _)) (Nat.lt_of_succ_lt hu));·rw[hia,hib];exact .cons (λe q=>(intKind prog w).eqBool p1 q1 q) (.cons (λe q=>wpAny_eqBool_tuple hu (by rw[e];exact p2) (by rw[e];exact q2) q) (.cons (λe q=>wpAny_eqBool_tuple hu (by rw[e];exact p3) (by rw[e];exact q3) q) .nil))
   ·have hz:(xs.size==ys.size)=true:=by rw[<- qY,<- qY,hia,hib];rfl
    have e:(([decide (x.1=y.1),decide (x.2.1=y.2.1),decide ([x.2.2.1,x.2.2.2]=[y.2.2.1,y.2.2.2])].all id) && (xs.size==ys.size))=decide (x=y):=by rw[hz];obtain⟨x1,x2,x3,x4⟩:=x;obtain⟨y1,y2,y3,y4⟩:=y;simp only[ca,List.all_nil,id,ZS,Prod.mk.injEq,Zh,and_true,Bool.decide_and]
    rw[e];exact h
 quiet:=λ{A E s k a Q} hk h=>by
  obtain⟨o,items,n,v,b,c,ho,hc,hd,hi,h1,⟨o2,i2,n2,ho2,hc2,hd2,hi2⟩,⟨o3,i3,n3,ho3,hc3,hd3,hi3⟩⟩:=hk;refine dw (n:=7) ho hc hd (λu hu=>?_) h;rw[hi]at hu;simp only[y9,gM,n5]at hu;rcases hu with rfl|rfl|rfl;·intro Q q;rw[Yr _ ((intKind prog w).byValue _ _ h1)];exact z7 q
  ·intro Q q;exact dw (n:=6) ho2 hc2 hd2 (λu hu Q q=>by rw[Yr _ (hi2.byValue u hu)];exact z7 q) q
  ·intro Q q;exact dw (n:=6) ho3 hc3 hd3 (λu hu Q q=>by rw[Yr _ (hi3.byValue u hu)];exact z7 q) q
end
end PySem
namespace PySem
def Heap.RawAt(h:Heap)(a:Addr)(es:Array DictEntry)(ep:Nat):Prop:=∃o,h.get? a=some o/\o.ExactDict/\o.data=.dict es ep
end PySem
namespace L2
open PySem PySem.Spec PyProof.Rows
section
variable{prog:Program}{w:World}{A:Around}{d:Addr}{es:Array DictEntry}{i:Nat}
def xp{Q:Value->Shared->Prop}(hs:(d==sysModules)=false)(hm:s.heap.RawAt d es ep)(h:Q (.ref s.heap.objs.size) { s with heap:=s.heap.push { cls:=.type "dict_keyiterator",data:=.fields #[.ref d,.int 0 0,.int es.size 0,.int ep 0] } }):wpAny (model prog w) A (pyIter (.ref d)) Q E s:=by
 obtain⟨o,ho,hx,hd⟩:=hm;have t:s.TypeIs (.ref d) "dict":=⟨o,ho,hx.1⟩
 refine ZB t PySem.F.slot_dict_iter (r9 PySem.F.slot_dict_iter t PySem.F.entry_dict_iter ?_ (PySem.F.args_dict_iter_1 _));unfold Builtin.«dict.__iter__» Builtin.Dict.dictSlotNone Builtin.Dict.showsAll
 wp_walk using Ya t,lZ ho hd,c7 ho hd
 refine⟨_,rfl,"dict_keyiterator",_,⟨_,v7 _ rfl,rfl⟩,PySem.F.slot_dict_keyiterator_next.lookup,?_⟩;simpa[rawInt]using h
def wA{Q:Option Value->Shared->Prop}(hi:s.heap.IsKeyIter it d i es.size ep)(hm:s.heap.RawAt d es ep)(hl:i<es.size)(h:∀h',h'.IsKeyIter it d (i+1) es.size ep->(∀b ob,b≠it->s.heap.get? b=some ob->h'.get? b=some ob)->Q (some es[i].key) { s with heap:=h' }):wpAny (model prog w) A (pyNext (.ref it)) Q E s:=by
 obtain⟨o,ho,hx,hd⟩:=hm;obtain⟨r,hr,hc,hf⟩:=id hi;have t:=hi.typeIs;have own:Builtin.Dict_items.ownsTuple "dict_keyiterator"=false:=by decide
 unfold pyNext;refine z5 (c8 (m9 (name:=Str.ofString "__next__") t ZU (r9 ZU t YL ?_ (YM _))));unfold Builtin.«dict_keyiterator.__next__»
 wp_walk using ZV t,j9 hr hf,lZ ho hd,c7 ho hd
 have i0:(if (i:Int)<0 then none else es[(i:Int).toNat]?)=some es[i]:=by rw[if_neg (by omega),si,je hl]
 rw[i0];refine z5 (z5 (ZV t (z7 (z5 (wpAny_isOneOf_keyiter t ?_)))));refine z5 (l8 hr hf (by simp[own]) ?_);have e1:(s.heap.update it (Obj.mapFields (·.setIfInBounds 1 (rawInt ((i:Int)+1))))).IsKeyIter it d (i+1) es.size ep:=
  ⟨_,mf _ hr (ZN (i9 hf _)),(ZO ..).trans hc,by rw[i9 hf];simp[rawInt]⟩
 refine z5 (q9 (z5 (wpAny_isOneOf_keyiter (s:={ s with heap:=s.heap.update it (Obj.mapFields (·.setIfInBounds 1 (rawInt ((i:Int)+1)))) }) e1.typeIs ?_)));exact z7 (z7 ⟨_,rfl,z7 (h _ e1 λb ob n q=>(p8 ..).extBut b ob n q)⟩)
def BC{Q:Option Value->Shared->Prop}(hh:A.handled=none)(hi:s.heap.IsKeyIter it d i es.size ep)(hm:s.heap.RawAt d es ep)(hl:es.size<=i)(h:∀h',(∀b ob,b≠it->s.heap.get? b=some ob->h'.get? b=some ob)->Q none { s with heap:=h' }):wpAny (model prog w) A (pyNext (.ref it)) Q E s:=by
 obtain⟨o,ho,hx,hd⟩:=hm;obtain⟨r,hr,hc,hf⟩:=id hi;have t:=hi.typeIs;unfold pyNext;refine z5 (c8 (m9 (name:=Str.ofString "__next__") t ZU (r9 ZU t YL ?_ (YM _))));unfold Builtin.«dict_keyiterator.__next__»
 wp_walk using ZV t,j9 hr hf,lZ ho hd,c7 ho hd
 have i0:(if (i:Int)<0 then none else es[(i:Int).toNat]?)=none:=by rw[if_neg (by omega),si,Z9 hl]
 rw[i0];refine z5 (z5 (ZV t (z7 ?_)));refine z5 (l8 hr hf (by simp[show Builtin.Dict_items.ownsTuple "dict_keyiterator"=false by decide]) ?_);have sub:=ZE;have hh1:A.in1.handled=none:=hh;clear i0 t hi;simp only[newExc,raiseNew]
 wp_walk
 exact h _ λb ob n q=>z9 _ (z9 _ ((p8 ..).extBut b ob n q))
end
def BP(P:Program)(w:World)(x:SK×Addr):DictEntry:=⟨yd P w x.1,.ref x.2,.bool true⟩
def dl(P:Program)(w:World)(a:Addr)(xs:List (SK×Addr))(ep:Nat):Heap->Prop:=λh=>h.RawAt a (xs.map (BP P w)).toArray ep/\(xs.map (·.1)).Nodup/\xs.length<=sizeLine/\(a==sysModules)=false
def yH(P:Program)(w:World)(a:Addr)(xs:List (SK×Addr))(ep:Nat):It:=
 ⟨λi H=>H a=some (.ext (dl P w a xs ep))/\i<xs.length,λi H x H'=>H'=H/\∃k b,xs[i]?=some (k,b)/\x=.ref b,λi H=>H a=some (.ext (dl P w a xs ep))/\xs.length<=i⟩
def Inv.scr{σ:St}(I:Inv X pins σ H s){xs:List (SK×Addr)}(h:H a=some (.ext (dl X.prog X.w a xs ep))):s.heap.RawAt a (xs.map (BP X.prog X.w)).toArray ep:=(I.hok a _ h).1.1
def Bz{w:World}{K:PySem.W.Frag}{tg:Expr}(a it:Addr)(xs:List (SK×Addr))(ep:Nat):Turn P w K tg (yH P w a xs ep) [it] it (λi h=>h.IsKeyIter it a i xs.length ep) where
 mem:=by simp
 obj:=λi h st b hb=>by
  have e:b=it:=by simpa using hb
  subst e;obtain⟨o,e,c,d⟩:=st;exact⟨o,e,λv z=>by rw[d]at z;cases z⟩
 keep:=λi h h' st k=>st.at λo e=>k it (by simp) o e
 item:=by
  intro X hP hw hK hc i pins s σ H E I hf st hg;subst hP hw hK;obtain⟨hd,hi⟩:=hg;have hz:(xs.map (BP X.prog X.w)).toArray.size=xs.length:=by simp
  obtain⟨f0,f1,f2,f3,f4,f5⟩:=hf it (by simp);rw[<- hz]at st;refine wA st (I.scr hd) (by rw[hz];exact hi) λh' st' sb=>?_;rw[hz]at st';have I1:Inv X pins σ H { s with heap:=h' }:=I.turned (t':=s.toks) (λb o hb e=>sb b o hb e) f0 f1 f3 f4 f5;obtain⟨o,e,c,d⟩:=id st';refine⟨_,rfl,wa (s:={ s with heap:=h' }) e c d (by decide) ⟨.ref xs[i].2,H,I1,?_,⟨rfl,_,_,vY hi,rfl⟩,st',λb hb=>(hf b hb).1⟩⟩;simp only[List.getElem_toArray,List.getElem_map,BP];exact rfl
 done:=by
  intro X hP hw hK hc i pins s σ H E I hf st hg;subst hP hw hK;obtain⟨hd,hi⟩:=hg;have hz:(xs.map (BP X.prog X.w)).toArray.size=xs.length:=by simp
  obtain⟨f0,f1,f2,f3,f4,f5⟩:=hf it (by simp);rw[<- hz]at st;exact BC (I.ok.hd hc) st (I.scr hd) (by rw[hz];exact hi) λh' eb=>⟨rfl,I.turned (t':=s.toks) (λb o hb e=>eb b o hb e) f0 f1 f3 f4 f5⟩
 self:=λ_ _ _ _ _ st h=>wpAny_pyIter_keyiter st h
section
variable{tg:Expr}
def Lm(P:Program)(w:World)(tl:TE):TI:=λσ H R=>tl σ H λx H1=>∃a xs ep,x=.ref a/\H1 a=some (.ext (dl P w a xs ep))/\R (yH P w a xs ep) H1
def GB{l:Expr}{tl:TE}(hl:PE X l tl):PI X tg l (Lm X.prog X.w tl):=by
 intro pins s σ H R I h;refine thn (hl pins s σ H _ I h) λv s1 ⟨x,H1,I1,r1,q1⟩=>?_;obtain⟨a,xs,ep,e,hq,q⟩:=q1;subst e;cases r1;refine xp (I1.hok a _ hq).1.2.2.2 (I1.scr hq) ?_;refine⟨s1.heap.objs.size,[s1.heap.objs.size],_,_,H1,rfl,I1.kept (t':=s1.toks) λb o e=>z9 _ e,Bz a _ xs ep,⟨_,v7 _ rfl,rfl,by simp⟩,λb hb=>?_,q⟩;have e:b=s1.heap.objs.size:=by simpa using hb
 subst e;exact I1.fpOk (z8 _) (I1.hok.fresh (z8 _))
end
def eR(K:PySem.W.Frag)(H:Hp)(k:SK)(b:Addr):Prop:=∃b1 b2,SqT K H b [.int k.1,.ref b1,.ref b2]/\SqT K H b1 (k.2.1.map .str)/\SqT K H b2 [.int k.2.2.1,.int k.2.2.2]
section
theorem yn:∀{rows:List Str}{vs:List Value},Vals (rows.map .str) vs->ItemsAre (PySem.strKind X.prog X.w) rows vs
 | [],_,h=>by cases h;exact .nil
 |x::rows,_,h=>by
  cases h with
  |cons h1 t=>obtain⟨t0,rfl⟩:=h1;exact .cons (by simp[PySem.strKind,Value.isStrOf]) (yn t)
theorem xm:∀{is:List Int}{vs:List Value},Vals (is.map .int) vs->ItemsAre (PySem.intKind X.prog X.w) is vs
 | [],_,h=>by cases h;exact .nil
 |x::rows,_,h=>by
  cases h with
  |cons h1 t=>obtain⟨t0,rfl⟩:=h1;exact .cons (by simp[PySem.intKind,Value.isInt]) (xm t)
def Inv.key(I:Inv X pins σ H s){k:SK}{b:Addr}(h:eR X.K H k b):ScrAt X.prog X.w s.heap k b:=by
 obtain⟨b1,b2,h0,h1,h2⟩:=h;obtain⟨i0,v0,⟨o0,e0,c0,n0,d0⟩,_⟩:=I.tuple h0;obtain⟨i1,v1,⟨o1,e1,c1,n1,d1⟩,_⟩:=I.tuple h1;obtain⟨i2,v2,⟨o2,e2,c2,n2,d2⟩,_⟩:=I.tuple (xs:=[k.2.2.1,k.2.2.2].map .int) h2;cases v0 with
 |cons r0 t0=>
  obtain⟨t,rfl⟩:=r0;cases t0 with
  |cons r1 t1=>
   cases r1;cases t1 with
   |cons r2 t2=>cases r2;cases t2;exact⟨o0,_,n0,_,b1,b2,e0,c0,d0,rfl,by simp[PySem.intKind,Value.isInt],⟨o1,_,n1,e1,c1,d1,by simpa using yn v1⟩,⟨o2,_,n2,e2,c2,d2,by simpa using xm v2⟩⟩
def yM{w:World}(xs:List (SK×Addr)):xs.map (BP P w)=(xs.map λx=>(x.1,x.2,Value.bool true)).map (entryOfKey (rP P w)):=by rw[p7];rfl
def Inv.dictH(I:Inv X pins σ H s){xs:List (SK×Addr)}(h:H a=some (.ext (dl X.prog X.w a xs ep)))(hk:∀x∈xs,eR X.K H x.1 x.2):s.heap.DictOfH (rP X.prog X.w) a (xs.map λx=>(x.1,x.2,Value.bool true)):=by obtain⟨⟨⟨o,e,c,d⟩,nd,_,_⟩,_⟩:=I.hok a _ h;refine⟨o,_,ep,e,c,d,by rw[List.toList_toArray,yM],λx hx=>?_,by rw[p7];exact nd⟩;obtain⟨y,hy,rfl⟩:=s8.1 hx;exact I.key (hk y hy)
def qR(xs:List (SK×Addr))(k:SK):(atKey (xs.map λx=>(x.1,x.2,Value.bool true)) k).isSome=xs.any λx=>decide (x.1=k):=by
 induction xs with
 |nil=>rfl
 |cons x xs ih=>
  unfold atKey at ih⊢;rw[w8,Zw,List.any_cons];by_cases h:x.1=k;·simp[h]
  ·simp only[h,Zx,Bool.false_or];simpa using ih
def qX(xs:List (SK×Addr))(k:SK)(b:Addr):List (SK×Addr):=if xs.any (λx=>decide (x.1=k))then xs else xs++[(k,b)]
def vV(xs:List (SK×Addr))(k:SK)(b:Addr):storedH (xs.map λx=>(x.1,x.2,Value.bool true)) k b (.bool true)=(qX xs k b).map λx=>(x.1,x.2,Value.bool true):=by
 have e:=qR xs k;unfold qX;cases q:atKey (xs.map λx=>(x.1,x.2,Value.bool true)) k with
 |none=>rw[q]at e;rw[storedH_new q,if_neg (by rw[<- e];exact sP),sN];rfl
 |some p=>rw[q]at e;rw[storedH_old q,if_pos (show(xs.any λx=>decide (x.1=k))=true from e.symm),p7];refine l7 λx _=>?_;show putAt k (.bool true) (x.1,x.2,.bool true)=_;unfold putAt;split <;> rfl
noncomputable def Km(P:Program)(w:World)(K:PySem.W.Frag):FF:=λx y v H Q=>∃a xs ep k b,x=.ref a/\y=.ref b/\v=.bl true/\H a=some (.ext (dl P w a xs ep))/\(∀x∈xs,eR K H x.1 x.2)/\eR K H k b/\xs.length<sizeLine/\∀ep',Q (upd H a (.ext (dl P w a (qX xs k b) ep')))
def zr(hu:X.A.in1.units+1<cLine):IV X (Km X.prog X.w X.K):=by
 intro pins s σ H o i v ov iv u Q I ro ri rv ⟨a,xs,ep,k,b,eo,ei,ev,h1,h2,h3,h4,h5⟩;subst eo ei ev;cases ro;cases ri;cases rv;have hx:=(I.hok a _ h1).1.2;refine wpAny_setItem_heap (hsz:=by rw[zV];exact ik h4) hu (I.key h3) (I.dictH h1 h2) λh' dd hb=>?_;rw[vV]at dd;obtain⟨o,es,ep',e,c,d,es1,_,nd⟩:=dd;have hl:(qX xs k b).length<=sizeLine:=by unfold qX;split;exact Nat.le_of_lt h4;rw[List.length_append];exact h4
 have hn:((qX xs k b).map (·.1)).Nodup:=by rw[p7]at nd;exact nd
 have hr:h'.RawAt a ((qX xs k b).map (BP X.prog X.w)).toArray ep':=⟨o,e,c,by rw[d,<- Zf (xs:=es),es1,yM]⟩
 exact⟨_,I.write (x:=a) (e:=a) (o:=.ext (dl X.prog X.w a (qX xs k b) ep')) (by rw[h1];exact True.intro) (.inl rfl) (λb q ne e=>(hb.2 b ne).trans e) ⟨o,e⟩ ⟨⟨hr,hn,hl,hx.2.2⟩,⟨o,e⟩,λg1 g2 ⟨⟨o1,e1,r1⟩,r2⟩ k=>⟨⟨o1,k _ e1,r1⟩,r2⟩⟩,h5 ep'⟩
end
section
def B7{w:World}{xs:List (SK×Addr)}(x:dl P w a xs ep h):ObjOk P w H h a (.ext (dl P w a xs ep)):=
 ⟨x,let⟨⟨o,e,_⟩,_⟩:=x;⟨o,e⟩,λg1 g2 ⟨⟨o1,e1,r1⟩,r2⟩ k=>⟨⟨o1,k _ e1,r1⟩,r2⟩⟩
def tS0(P:Program)(w:World):TE:=λ_ H Q=>∀p ep,H p=none->Q (.ref p) (upd H p (.ext (dl P w p [] ep)))
def Inv.newS{σ:St}(I:Inv X pins σ H s):Inv X pins σ (upd H s.heap.objs.size (.ext (dl X.prog X.w s.heap.objs.size [] 0))) { s with heap:=s.heap.push { cls:=.type "dict",data:=.dict #[] } }:=
 I.laid (t':=s.toks) (λ_ _ q=>z9 _ q) (z8 _) (B7 ⟨⟨_,v7 _ rfl,⟨rfl,rfl,rfl⟩,rfl⟩,iO,v8 _,I.big0⟩)
def BF:PE X (.Dict [] [] pos) (tS0 X.prog X.w):=λpins s σ H Q I h=>wpAny_Dict_empty ⟨.ref s.heap.objs.size,_,I.newS,rfl,h _ _ (I.hok.fresh (z8 _))⟩
noncomputable def tS1(P:Program)(w:World)(K:PySem.W.Frag)(tk tv:TE):TE:=λσ H Q=>∀p ep,H p=none->tk σ (upd H p (.ext (dl P w p [] ep))) λx H1=>tv σ H1 λy H2=>H2 p=some (.ext (dl P w p [] ep))/\∃b k,x=.ref b/\y=.bl true/\eR K H2 k b/\∀ep',Q (.ref p) (upd H2 p (.ext (dl P w p [(k,b)] ep')))
def Kg{k v:Expr}{tk tv:TE}(hu:X.A.units+1<cLine)(hk:PE X k tk)(hv:PE X v tv):PE X (.Dict [some k] [v] pos) (tS1 X.prog X.w X.K tk tv):=λpins s σ H Q I h=>by
 have hn:=I.hok.fresh (z8 s.heap.objs.size);refine wpAny_Dict_any rfl rfl (by simp) (by show 1<=15;decide) (pairTrees_cons_walk (thn (hk pins _ σ _ _ I.newS (h _ _ hn)) λu s1 ⟨x,H1,I2,rx,q1⟩=>thn (hv pins s1 σ H1 _ I2 q1) λw s2 ⟨y,H2,I3,ry,hp,b,kk,ex,ey,hq,q2⟩=>pairTrees_nil_walk ?_));subst ex ey;cases rx;cases ry;have hx:=(I3.hok _ _ hp).1.2;unfold storeAll;rw[Y8];refine z5 (z5 (wpAny_dictSet_heap (hsz:=v8 _) hu (I3.key hq) (I3.dictH hp (λ_ hx=>nomatch hx)) λh' dd' hs=>?_));refine z7 ?_;show wpAny _ _ (forIn [] PUnit.unit _) _ _ _;rw[List.forIn_nil];obtain⟨o,es,ep,h1,h2,h3,h4,_,h5⟩:=dd';have hr:h'.RawAt s.heap.objs.size ([(kk,b)].map (BP X.prog X.w)).toArray ep:=⟨o,h1,h2,by rw[h3,<- Zf (xs:=es),h4];rfl⟩
 exact z7 ⟨.ref _,_,I3.write (x:=s.heap.objs.size) (e:=s.heap.objs.size) (by rw[hp];trivial) (.inl rfl) (λb y hb z=>(hs.2 b hb).trans z) ⟨o,h1⟩ (B7 ⟨hr,h5,by show 1<=sizeLine;decide,hx.2.2⟩),rfl,q2 ep⟩
noncomputable def GZ(P:Program)(w:World)(K:PySem.W.Frag)(ta tb:TE):TE:=λσ H Q=>ta σ H λx H1=>tb σ H1 λy H2=>∃a xs ep k b,x=.ref b/\y=.ref a/\H2 a=some (.ext (dl P w a xs ep))/\(∀x∈xs,eR K H2 x.1 x.2)/\eR K H2 k b/\Q (.bl (!xs.any λx=>decide (x.1=k))) H2
def D4{a b:Expr}{ta tb:TE}(hu:X.A.in1.units+1<cLine)(ha:PE X a ta)(hb:PE X b tb):PC X .NotIn a b (GZ X.prog X.w X.K ta tb):=λpins s σ H Q I h=>by refine thn (ha pins s σ H _ I h) λv s1 ⟨x,H1,I1,r1,q1⟩=>thn (hb pins s1 σ H1 _ I1 q1) λu s2 ⟨y,H2,I2,r2,a,xs,ep,k,b,ex,ey,h1,h2,h3,q2⟩=>?_;subst ex ey;cases r1;cases r2;refine wpAny_notIn_heap hu (I2.key h3) (I2.hok a _ h1).1.2.2.2 (I2.dictH h1 h2) ⟨_,H2,I2.kept (t':=s2.toks+(rP X.prog X.w).draws k) λ_ _ e=>e,?_,q2⟩;rw[qR];exact rfl
end
end L2
namespace L2
open PySem PySem.Spec PyProof.Rows Q21
def cK(k:SK):LK:=(k.1,k.2.1.map (λx=>x.cps.toList),k.2.2)
def CU{a b:Str}(h:a.cps.toList=b.cps.toList):a=b:=by cases a;cases b;simp only[Str.mk.injEq];exact Array.toList_inj.1 h
theorem tt:∀{a b:List Str},a.map (λx=>x.cps.toList)=b.map (λx=>x.cps.toList)->a=b
 | [],[],_=>rfl
 |x::a,y::b,h=>by simp only[w8,Zh]at h;rw[CU h.1,tt h.2]
def Ce{a b:SK}(h:cK a=cK b):a=b:=by obtain⟨a1,a2,a3⟩:=a;obtain⟨b1,b2,b3⟩:=b;simp only[cK,Prod.mk.injEq]at h;rw[h.1,tt h.2.1,h.2.2]
section
variable{w:World}{K:PySem.W.Frag}{G' H₀:Hp}
def Sht(k:SK):Prop:=∀x∈k.2.1,x.length<=sizeLine
def kI{k:SK}{b:Addr}(e:Same G G')(h:eR K G k b):eR K G' k b:=
 let⟨b1,b2,h0,h1,h2⟩:=h;⟨b1,b2,h0.mono e,h1.mono e,h2.mono e⟩
theorem mD:∀{rows:List Str},(∀x∈rows,x.length<=sizeLine)->Reps K G (rows.map .str) ((rows.map λx=>x.cps.toList).map .str)
 | [],_=>.nil
 |x::rows,h=>.cons (.str x (h x (w5 ..))) (mD λy m=>h y (w9 _ m))
def yb{k:SK}{b:Addr}(h:eR K G k b)(z:Sht k):Rep K G (.ref b) (lkD (cK k)):=
 let⟨_,_,h0,h1,h2⟩:=h
 .tup h0 (.cons (.int _) (.cons (.tup h1 (mD z)) (.cons (.tup h2 (.cons (.int _) (.cons (.int _) .nil))) .nil)))
theorem tU:∀{ls:List (List Nat)}{vs:List V},Reps K G vs (ls.map .str)->∃rows:List Str,vs=rows.map .str/\rows.map (λx=>x.cps.toList)=ls/\∀x∈rows,x.length<=sizeLine
 | [],_,.nil=>⟨[],rfl,rfl,λ_ h=>nomatch h⟩
 |l::ls,_,.cons r t=>by
  obtain⟨rows,e1,e2,e3⟩:=tU t;obtain⟨y,rfl,e,hz⟩:=r.str_inv;refine⟨y::rows,by rw[e1];rfl,by rw[w8,e,e2],λx m=>?_⟩;rcases y9.1 m with rfl|m;·exact hz
  ·exact e3 x m
def xr{k:LK}(r:Rep K G v (lkD k)):∃k' b,v=.ref b/\eR K G k' b/\cK k'=k/\Sht k':=by
 obtain⟨a,vs,rfl,h0,t⟩:=r.tup_inv;cases t with
 |cons r0 t=>
  cases t with
  |cons r1 t=>
   cases t with
   |cons r2 t=>
    cases t;cases r0.int_inv;obtain⟨b1,ws,rfl,h1,t1⟩:=r1.tup_inv;obtain⟨b2,us,rfl,h2,t2⟩:=r2.tup_inv;obtain⟨rows,rfl,e2,e3⟩:=tU t1;cases t2 with
    |cons q0 t2=>
     cases t2 with
     |cons q1 t2=>cases t2;cases q0.int_inv;cases q1.int_inv;exact⟨(k.1,rows,k.2.2.1,k.2.2.2),a,rfl,⟨b1,b2,h0,h1,h2⟩,by simp only[cK,e2],e3⟩
def ET(xs:List (SK×Addr))(k:SK)(b:Addr):(qX xs k b).map (λx=>cK x.1)=put (xs.map λx=>cK x.1) (cK k):=by
 have e:(xs.any λx=>decide (x.1=k))=true ↔ cK k∈xs.map λx=>cK x.1:=by rw[ZW,s8];exact⟨λ⟨x,m,q⟩=>⟨x,m,by rw[g9 q]⟩,λ⟨x,m,q⟩=>⟨x,m,sS (Ce q)⟩⟩
 unfold qX put;by_cases h:cK k∈xs.map λx=>cK x.1;·rw[if_pos h,if_pos (e.2 h)]
 ·rw[if_neg h,if_neg (λz=>h (e.1 z)),sN];rfl
structure DictS(P:Program)(w:World)(K:PySem.W.Frag)(All:List LK)(H₀ G H:Hp)(a:Addr)(ks:List LK):Prop where
 ex:∃xs ep,H a=some (.ext (dl P w a xs ep))/\(∀x∈xs,eR K G x.1 x.2/\Sht x.1)/\xs.map (λx=>cK x.1)=ks
 g:G a=none
 h0:H₀ a=none
 nd:ks.Nodup
 al:∀k∈ks,k∈All
variable{All:List LK}{b:Addr}{ks:List LK}
def CN(u:Up G H G' H'){o:HO}(h:H a=some o)(g:G a=none):G' a=none:=by
 cases q:G' a with
 |none=>rfl
 |some o'=>
  rcases u.fr a o' q with z|z;·rw[g]at z;cases z
  ·rw[h]at z;cases z
def DictS.up(d:DictS P w K All H₀ G H a ks)(u:Up G H G' H'):DictS P w K All H₀ G' H' a ks:=
 let⟨xs,ep,h1,h2,h3⟩:=d.ex
 ⟨⟨xs,ep,u.hh _ _ h1,λx m=>⟨kI u.gg (h2 x m).1,(h2 x m).2⟩,h3⟩,CN u h1 d.g,d.h0,d.nd,d.al⟩
def DictS.ne{o:HO}(d:DictS P w K All H₀ G H a ks)(n:a≠b):DictS P w K All H₀ G (upd H b o) a ks:=
 let⟨xs,ep,h1,h2,h3⟩:=d.ex
 ⟨⟨xs,ep,by rw[au n];exact h1,h2,h3⟩,d.g,d.h0,d.nd,d.al⟩
def DictS.size(d:DictS P w K All H₀ G H a ks)(z:All.length<sizeLine):ks.length<sizeLine:=ZX (wJ d.nd d.al) z
def nD(u:Up G₀ H₀ G H){o:HO}(g:G a=none)(h:H₀ a=none):Up G₀ H₀ G (upd H a o):=
 ⟨λb x e=>by rw[au (aj e g)];exact u.sub b x e,u.gg,λb x e=>by rw[au (aj e h)];exact u.hh b x e,u.fr⟩
def DictS.new(u:Up G₀ H₀ G H)(n:H a=none)(ep:Nat):DictS P w K All H₀ G (upd H a (.ext (dl P w a [] ep))) a []:=
 ⟨⟨[],ep,ay,⟨λ_ h=>(ic h).elim,rfl⟩⟩,u.sub.free n,u.hh.free n,iO,λ_ h=>(ic h).elim⟩
def DictS.put(d:DictS P w K All H₀ G H a ks)(s:Same G H)(z:All.length<sizeLine){k:SK}(hk:eR K G k b)(sh:Sht k)(m:cK k∈All):
  ∃xs ep,H a=some (.ext (dl P w a xs ep))/\(∀x∈xs,eR K H x.1 x.2)/\xs.length<sizeLine/\∀ep',DictS P w K All H₀ G (upd H a (.ext (dl P w a (qX xs k b) ep'))) a (put ks (cK k)):=by
 obtain⟨xs,ep,h1,h2,h3⟩:=d.ex;refine⟨xs,ep,h1,λx m=>kI s (h2 x m).1,?_,λep'=>⟨⟨_,ep',ay,λx mx=>?_,by rw[ET,h3]⟩,d.g,d.h0,iZ d.nd,λx mx=>?_⟩⟩;·have:=d.size z;rw[<- h3,zV]at this;exact this
 ·unfold qX at mx;split at mx;·exact h2 x mx
  ·rcases r8.1 mx with q|q;·exact h2 x q
   ·rw[wc]at q;subst q;exact⟨hk,sh⟩
 ·rcases mem_put.1 mx with q|rfl;·exact d.al x q
  ·exact m
structure FS(P:Program)(w:World)(K:PySem.W.Frag)(All:List LK)(d1:D)(G₀ H₀ G H:Hp)(σ:St)(L kd:Addr)(as:List Addr)(t:Nat)(ls:List (List LK))(kn:List LK):Prop where
 up:Up G₀ H₀ G H
 len:σ.length=8
 v1:∃v,σ[1]?=some (some v)/\Rep K G v d1
 s2:σ[2]?=some (some (.ref L))
 s3:σ[3]?=some (some (.ref kd))
 s4:σ[4]?=some (some (.int t))
 hL:H L=some (.lst (as.map .ref))
 gL:G L=none
 h0L:H₀ L=none
 nd:(kd::as).Nodup
 dk:DictS P w K All H₀ G H kd kn
 ds:∀(i:Nat) a,as[i]?=some a->DictS P w K All H₀ G H a (ls.getD i [])
 la:as.length=t+3
 ll:ls.length=t+3
variable{d1:D}{L kd:Addr}{as:List Addr}{t:Nat}{ls:List (List LK)}{kn:List LK}
def xo{L:Addr}{xs:List (SK×Addr)}(h:H L=some (.lst vs))(h':H a=some (.ext (dl P w a xs ep))):a≠L:=λe=>by subst e;rw[h]at h';cases h'
def FS.ups(f:FS P w K All d1 G₀ H₀ G H σ L kd as t ls kn)(u:Up G H G' H'):FS P w K All d1 G₀ H₀ G' H' σ L kd as t ls kn:=
 ⟨f.up.trans u,f.len,let⟨v,e,r⟩:=f.v1;⟨v,e,r.mono u.gg⟩,f.s2,f.s3,f.s4,u.hh _ _ f.hL,CN u f.hL f.gL,f.h0L,f.nd,f.dk.up u,λi a e=>(f.ds i a e).up u,f.la,f.ll⟩
def FS.set(f:FS P w K All d1 G₀ H₀ G H σ L kd as t ls kn)(i:Nat)(v:V)(hi:5<=i):FS P w K All d1 G₀ H₀ G H (σ.set i (some v)) L kd as t ls kn:=by have g:∀j,j<5->(σ.set i (some v))[j]?=σ[j]?:=λj h=>rG (by omega);exact⟨f.up,by rw[p6];exact f.len,let⟨v,e,r⟩:=f.v1;⟨v,by rw[g 1 (by omega)];exact e,r⟩,by rw[g 2 (by omega)];exact f.s2,by rw[g 3 (by omega)];exact f.s3,by rw[g 4 (by omega)];exact f.s4,f.hL,f.gL,f.h0L,f.nd,f.dk,f.ds,f.la,f.ll⟩
def FS.known(f:FS P w K All d1 G₀ H₀ G H σ L kd as t ls kn)(z:All.length<sizeLine){k:SK}(hk:eR K G k b)(sh:Sht k)(m:cK k∈All):
  ∃xs ep,H kd=some (.ext (dl P w kd xs ep))/\(∀x∈xs,eR K H x.1 x.2)/\xs.length<sizeLine/\∀ep',FS P w K All d1 G₀ H₀ G (upd H kd (.ext (dl P w kd (qX xs k b) ep'))) σ L kd as t ls (put kn (cK k)):=by
 obtain⟨xs,ep,h1,h2,h3,h4⟩:=f.dk.put f.up.sub z hk sh m;refine⟨xs,ep,h1,h2,h3,λep'=>⟨nD f.up f.dk.g f.dk.h0,f.len,f.v1,f.s2,f.s3,f.s4,?_,f.gL,f.h0L,f.nd,h4 ep',λi a e=>?_,f.la,f.ll⟩⟩;·rw[au (sj (xo f.hL h1))];exact f.hL
 ·exact(f.ds i a e).ne λq=>(qZ.1 f.nd).1 (q▸nZ e)
def FS.level(f:FS P w K All d1 G₀ H₀ G H σ L kd as t ls kn)(z:All.length<sizeLine){k:SK}(ha:as[j]?=some a)(hk:eR K G k b)(sh:Sht k)(m:cK k∈All):
  ∃xs ep,H a=some (.ext (dl P w a xs ep))/\(∀x∈xs,eR K H x.1 x.2)/\xs.length<sizeLine/\∀ep',FS P w K All d1 G₀ H₀ G (upd H a (.ext (dl P w a (qX xs k b) ep'))) σ L kd as t (ls.set j (put (ls.getD j []) (cK k))) kn:=by
 have da:=f.ds j a ha;obtain⟨xs,ep,h1,h2,h3,h4⟩:=da.put f.up.sub z hk sh m;have hj:j<ls.length:=by rw[f.ll,<- f.la];exact(tj.mp ha).1
 refine⟨xs,ep,h1,h2,h3,λep'=>⟨nD f.up da.g da.h0,f.len,f.v1,f.s2,f.s3,f.s4,?_,f.gL,f.h0L,f.nd,f.dk.ne λq=>(qZ.1 f.nd).1 (q▸nZ ha),λi c e=>?_,f.la,by rw[p6];exact f.ll⟩⟩;·rw[au (sj (xo f.hL h1))];exact f.hL
 ·rw[tY];by_cases q:j=i;·subst q;rw[ha]at e;cases e;rw[if_pos ⟨rfl,hj⟩];exact h4 ep'
  ·rw[if_neg (λx=>q x.1)];refine(f.ds i c e).ne λx=>q ?_;subst x;obtain⟨i1,e1⟩:=tj.mp ha;obtain⟨i2,e2⟩:=tj.mp e;have pw:=List.pairwise_iff_getElem.1 (qZ.1 f.nd).2;rcases Nat.lt_trichotomy j i with l|l|l;·exact(pw j i i1 i2 l (e1.trans e2.symm)).elim
   ·exact l
   ·exact(pw i j i2 i1 l (e2.trans e1.symm)).elim
def FS.next(f:FS P w K All d1 G₀ H₀ G H σ L kd as t ls kn){p:Addr}(n:H p=none):
  FS P w K All d1 G₀ H₀ G (upd (upd H p (.ext (dl P w p [] ep))) L (.lst ((as++[p]).map .ref))) (σ.set 4 (some (.int (t+1:Nat)))) L kd (as++[p]) (t+1) (ls++[[]]) kn:=by
 have pL:p≠L:=(aj f.hL n).symm;have u1:Up G₀ H₀ G (upd H p (.ext (dl P w p [] ep))):=nD f.up (f.up.sub.free n) (f.up.hh.free n);have g:∀j,j≠4->(σ.set 4 (some (.int (t+1:Nat))))[j]?=σ[j]?:=λj h=>rG (sj h);have np:∀{a ks},DictS P w K All H₀ G H a ks->a≠p:=λd=>let⟨xs,ep,h1,_⟩:=d.ex;aj h1 n;have nL:∀{a ks},DictS P w K All H₀ G H a ks->a≠L:=λd=>let⟨xs,ep,h1,_⟩:=d.ex;xo f.hL h1;refine⟨nD u1 f.gL f.h0L,by rw[p6];exact f.len,let⟨v,e,r⟩:=f.v1;⟨v,by rw[g 1 (by omega)];exact e,r⟩,by rw[g 2 (by omega)];exact f.s2,by rw[g 3 (by omega)];exact f.s3,su (by rw[f.len];omega),ay,f.gL,f.h0L,?_,(f.dk.ne (np f.dk)).ne (nL f.dk),λi a e=>?_,by rw[v6,f.la];rfl,by rw[v6,f.ll];rfl⟩
 ·rw[<- Yn];refine ZT.2 ⟨f.nd,by simp,λa ha b hb=>?_⟩;rw[wc]at hb;subst hb;rcases y9.1 ha with rfl|ha;·exact np f.dk
  ·obtain⟨i,e⟩:=List.getElem?_of_mem ha;exact np (f.ds i a e)
 ·rw[gy];by_cases q:i<as.length;·rw[qq q]at e;exact((f.ds i a e).ne (np (f.ds i a e))).ne (nL (f.ds i a e))
  ·rw[pT (iN q)]at e;have:a=p:=by
    cases z:i - as.length with
    |zero=>rw[z]at e;simpa using e.symm
    |succ m=>rw[z]at e;simp at e
   subst this;have:ls.getD i []=[]:=by rw[v9,o8 (by rw[f.ll,<- f.la];exact iN q)];rfl
   rw[this];exact(DictS.new f.up n ep).ne pL
end
def Lf:Ev->R Bool:=gB2 eqF (g2 ixD (rvz 5) (ciz 1)) (rvz 1)
def CA(Fn:List D->R D):Ev->R D:=aA 2 Fn (aa (rvz 5) (aa (rvz 1) nlz))
def ev5(d1 dh:D):Ev:=[none,some (.val d1),none,none,none,some (.val dh),none,none]
def Ik(P:Program)(w:World)(K:PySem.W.Frag):TS:=EK (tC (.bl true)) (GN (tOp (IS K) (nX 2) (JI (nX 4) (nX 6))) (nX 7) (Km P w K))
def Cz(K:PySem.W.Frag):TG:=Lo K 2 (EV (lU 6) (EV (lU 7) Lj))
def yg(X:Cx)(Fn:List D->R D):TS:=JT (tB (GZ X.prog X.w X.K (nX 5) (nX 3))) (B2 (JT (tTF X Lf) (Lp (nX 4)) Fb) (B2 (EK (tC (.bl true)) (GN (nX 3) (nX 5) (Km X.prog X.w X.K))) (Jy (IH X.K (tF X (CA Fn))) (Cz X.K) (Ik X.prog X.w X.K)))) Fb
noncomputable def LA(X:Cx)(Fn:List D->R D):TS:=B2 (EK (Ln (mZ (tS1 X.prog X.w X.K (nX 0) (tC (.bl true))) (mZ (tS0 X.prog X.w) (mZ (tS0 X.prog X.w) Fj)))) (lU 2)) (B2 (EK (tS0 X.prog X.w) (lU 3)) (B2 (EK (tC (.int 0)) (lU 4)) (xt (tB (tC (.bl true)))
 (B2 (Jy (Lm X.prog X.w (tOp (IS X.K) (nX 2) (nX 4))) (lU 5) (yg X Fn)) (B2 (Hh (tBM X.K "list" wC (nX 2) (mZ (tS0 X.prog X.w) Fj))) (EK (JI (nX 4) (tC (.int 1))) (lU 4)))))))
section
variable{w:World}{K:PySem.W.Frag}{H₀:Hp}{All:List LK}{d1:D}{L kd:Addr}{as:List Addr}{t:Nat}{ls:List (List LK)}{kn:List LK}
def FS.st(f:FS P w K All d1 G₀ H₀ G H σ L kd as t ls kn){d:D}(h5:σ[5]?=some (some v))(r:Rep K G v d):StE K G H σ (ev5 d1 d):=by
 refine⟨f.up.sub,f.len,λi x e=>?_,λi m C p fs e=>?_⟩
 ·match i,e with
  | 1,e=>cases e;exact f.v1
  | 5,e=>cases e;exact⟨v,h5,r⟩
  | 0,e=>cases e
  | 2,e=>cases e
  | 3,e=>cases e
  | 4,e=>cases e
  | 6,e=>cases e
  | 7,e=>cases e
  |n+8,e=>cases e
 ·match i,e with
  | 0,e=>cases e
  | 1,e=>cases e
  | 2,e=>cases e
  | 3,e=>cases e
  | 4,e=>cases e
  | 5,e=>cases e
  | 6,e=>cases e
  | 7,e=>cases e
  |n+8,e=>cases e
def GT{D:Ends}{ps:List (Nat×LK)}(f:FS P w K All d1 G₀ H₀ G H σ L kd as t ls kn)(z:All.length<sizeLine){la:Addr}(hl:G la=some (.lst vs))(rs:Reps K G vs (ps.map pD))(hp:∀p∈ps,p.2∈All/\1<=p.1/\p.1<=2){a0:Addr}(h0:as[t]?=some a0)(out:∀H' σ',FS P w K All d1 G₀ H₀ G H' σ' L kd as t (jC t ls ps) kn->H' a0=H a0->D.nx σ' H'):
  ∃W:Nat->Nat->St->Hp->Prop,(∃m,W 0 m σ H)/\∀i m σ H,W i m σ H->((Itl K la).stop i H/\D.nx σ H)\/((Itl K la).go i H/\∃N:St->Hp->Prop,(∀σ' H',N σ' H'->∃m',m'<m/\W (i+1) m' σ' H')/\
   ∀x H',(Itl K la).yld i H x H'->Cz K x σ H' λσ2 H2=>Ik P w K { D with nx:=N,ct:=N,bk:=D.nx } σ2 H2):=by
 refine⟨λi m σ' H'=>m=ps.length - i/\i<=ps.length/\H' a0=H a0/\∃ls',FS P w K All d1 G₀ H₀ G H' σ' L kd as t ls' kn/\jC t ls' (ps.drop i)=jC t ls ps,⟨_,rfl,v8 _,rfl,ls,f,rfl⟩,?_⟩;rintro i m σ1 H1 ⟨rfl,hi,ha,ls1,f1,e1⟩;have hq:SqL K H1 la vs:=.of (f1.up.sub _ _ hl);have hn:vs.length=ps.length:=by rw[rs.length,zV]
 by_cases q:i<ps.length
 ·right;have hx:(ps.map pD)[i]?=some (pD ps[i]):=by rw[u9,vY q];rfl
  obtain⟨v,ev,rv⟩:=rs.get hx;obtain⟨hA,hc1,hc2⟩:=hp _ (l6 q);obtain⟨ta,us,rfl,ht,tr⟩:=rv.tup_inv;cases tr with
  |cons r0 tr=>
   cases tr with
   |cons r1 tr=>
    cases tr;cases r0.int_inv;obtain⟨k,b,rfl,hk,ek,sh⟩:=xr r1;have hj:t+ps[i].1<as.length:=by rw[f1.la];omega
    obtain⟨xs,ep,g1,g2,g3,g4⟩:=f1.level z (a:=as[t+ps[i].1]) (vY hj) hk sh (ek▸hA);refine⟨⟨vs,_,hq,ev⟩,λσ' H'=>H' a0=H a0/\FS P w K All d1 G₀ H₀ G H' σ' L kd as t (ls1.set (t+ps[i].1) (put (ls1.getD (t+ps[i].1) []) ps[i].2)) kn,λσ' H' hN=>⟨_,by omega,rfl,q,hN.1,_,hN.2,?_⟩,?_⟩;·rw[<- e1,Zd q];rfl
    ·rintro x H' ⟨rfl,hy⟩;have:=hy vs hq;rw[ev]at this;cases this;have l1:σ1.length=8:=f1.len;refine⟨ta,_,rfl,ht.mono f1.up.sub,rfl,_,_,rfl,_,_,rfl,rfl,?_⟩;have f2:=(f1.set 6 (.int ps[i].1) (by omega)).set 7 (.ref b) (by omega);have s6:((σ1.set 6 (some (.int ps[i].1))).set 7 (some (.ref b)))[6]?=some (some (.int ps[i].1)):=by rw[rG (by omega),su (by omega)]
     have s7:((σ1.set 6 (some (.int ps[i].1))).set 7 (some (.ref b)))[7]?=some (some (.ref b)):=su (by rw[p6];omega);obtain⟨xs,ep,g1,g2,g3,g4⟩:=f2.level z (a:=as[t+ps[i].1]) (vY hj) hk sh (ek▸hA);refine⟨_,f2.s2,_,f2.s4,_,s6,_,_,rfl,rfl,L,as.map .ref,_,.ref as[t+ps[i].1],rfl,rfl,.of f2.hL,?_,_,s7,_,xs,ep,k,b,rfl,rfl,rfl,g1,g2,kI f2.up.sub hk,g3,λep'=>⟨?_,?_⟩⟩
     ·have:((t:Int)+(ps[i].1:Int))=((t+ps[i].1:Nat):Int):=by omega
      rw[this];exact kA (by rw[u9,vY hj];rfl)
     ·rw[au];exact ha;intro e;obtain⟨i1,e1⟩:=tj.mp h0;have pw:=List.pairwise_iff_getElem.1 (qZ.1 f.nd).2;exact pw t (t+ps[i].1) i1 hj (by omega) (e1.trans e)
     ·have:=g4 ep';rw[ek]at this;exact this
 ·left;have:i=ps.length:=by omega
  subst this;refine⟨⟨vs,hq,by omega⟩,out _ _ ?_ ha⟩;rw[Ze]at e1;exact(show ls1=_ from e1)▸f1
end
section
variable{H₀:Hp}{All:List LK}{d1:D}{L kd:Addr}{as:List Addr}{t:Nat}{ls:List (List LK)}{kn:List LK}{Fn:List D->R D}{next:LK->List (Nat×LK)}{gl:LK->Bool}
def GQ{k:LK}(h:eqF (.tup (k.2.1.map .str)) d1=some (.bl (gl k))):Lf (ev5 d1 (lkD k))=.ok (gl k):=by show(ofO (eqF (.tup (k.2.1.map .str)) d1)>>=asB)=_;rw[h];rfl
def Bd{k:LK}{r:R D}(h:Fn [lkD k,d1]=r):CA Fn (ev5 d1 (lkD k))=r:=h
def Bq{D:Ends}(z:All.length<sizeLine)(heq:∀k∈All,eqF (.tup (k.2.1.map .str)) d1=some (.bl (gl k)))(hnx:∀k∈All,Fn [lkD k,d1]=.ok (.lst false ((next k).map pD)))(hst:∀k∈All,∀p∈next k,p.2∈All/\1<=p.1/\p.1<=2)(f:FS X.prog X.w X.K All d1 G₀ H₀ G H σ L kd as t ls kn){a0:Addr}(h0:as[t]?=some a0){xs:List (SK×Addr)}(hx:H a0=some (.ext (dl X.prog X.w a0 xs ep)))(hk:∀x∈xs,eR X.K G x.1 x.2/\Sht x.1)(hall:∀x∈xs,cK x.1∈All)(ret:jg next gl t (xs.map λx=>cK x.1) ls kn=none->∀G' H',Up G₀ H₀ G' H'->D.rt (.int t) H')(out:∀ls' kn',jg next gl t (xs.map λx=>cK x.1) ls kn=some (ls',kn')->∀G' H' σ',FS X.prog X.w X.K All d1 G₀ H₀ G' H' σ' L kd as t ls' kn'->D.nx σ' H'):
  ∃W:Nat->Nat->St->Hp->Prop,(∃m,W 0 m σ H)/\∀i m σ H,W i m σ H->((yH X.prog X.w a0 xs ep).stop i H/\D.nx σ H)\/((yH X.prog X.w a0 xs ep).go i H/\∃N:St->Hp->Prop,(∀σ' H',N σ' H'->∃m',m'<m/\W (i+1) m' σ' H')/\
   ∀x H',(yH X.prog X.w a0 xs ep).yld i H x H'->lU 5 x σ H' λσ2 H2=>yg X Fn { D with nx:=N,ct:=N,bk:=D.nx } σ2 H2):=by
 generalize hS:jg next gl t (xs.map λx=>cK x.1) ls kn=S at ret out
 refine⟨λi m σ' H'=>m=xs.length - i/\i<=xs.length/\H' a0=some (.ext (dl X.prog X.w a0 xs ep))/\∃G' ls' kn',FS X.prog X.w X.K All d1 G₀ H₀ G' H' σ' L kd as t ls' kn'/\Same G G'/\jg next gl t ((xs.map λx=>cK x.1).drop i) ls' kn'=S,⟨_,rfl,v8 _,hx,G,ls,kn,f,.refl _,hS⟩,?_⟩;rintro i m σ1 H1 ⟨rfl,hi,ha,G1,ls1,kn1,f1,gg,e1⟩;by_cases q:i<xs.length
 ·right;obtain⟨⟨k,b⟩,hxi⟩:∃x,xs[i]=x:=⟨_,rfl⟩
  have mi:(k,b)∈xs:=hxi▸l6 q;have hkb:eR X.K G1 k b:=kI gg (hk _ mi).1;have sh:Sht k:=(hk _ mi).2;have hA:cK k∈All:=hall _ mi;have ed:(xs.map λx=>cK x.1).drop i=cK k::(xs.map λx=>cK x.1).drop (i+1):=by rw[Zd (by rw[zV];exact q),List.getElem_map,hxi]
  rw[ed,jg]at e1;refine⟨⟨ha,q⟩,λσ' H'=>H' a0=some (.ext (dl X.prog X.w a0 xs ep))/\∃G' ls' kn',FS X.prog X.w X.K All d1 G₀ H₀ G' H' σ' L kd as t ls' kn'/\Same G G'/\jg next gl t ((xs.map λx=>cK x.1).drop (i+1)) ls' kn'=S,λσ' H' hN=>⟨_,by omega,rfl,q,hN⟩,?_⟩;rintro x H' ⟨rfl,k',b',ex,rfl⟩;rw[vY q,hxi]at ex;cases ex;have s5:(σ1.set 5 (some (.ref b)))[5]?=some (some (.ref b)):=su (by rw[f1.len];omega);have f2:=f1.set 5 (.ref b) (by omega);show yg X Fn _ (σ1.set 5 (some (.ref b))) _;generalize hσ:σ1.set 5 (some (.ref b))=σ2 at f2 s5;obtain⟨ys,eq,y1,y2,y3⟩:=f2.dk.ex;refine⟨_,s5,_,f2.s3,kd,ys,eq,k,b,rfl,rfl,y1,λx m=>kI f2.up.sub (y2 x m).1,kI f2.up.sub hkb,_,rfl,?_⟩;dsimp only;have any:(ys.any λx=>decide (x.1=k))=true ↔ cK k∈kn1:=by rw[<- y3,ZW,s8];exact⟨λ⟨x,m,q⟩=>⟨x,m,by rw[g9 q]⟩,λ⟨x,m,q⟩=>⟨x,m,sS (Ce q)⟩⟩
  by_cases c:cK k∈kn1;·rw[if_pos c]at e1;rw[any.2 c,if_neg (show ¬ ((!true)=true) by decide)];exact⟨ha,G1,ls1,kn1,f2,gg,e1⟩
  ·rw[if_neg c]at e1;rw[show(ys.any λx=>decide (x.1=k))=false from Bool.eq_false_iff.2 λy=>c (any.1 y),if_pos (show(!false)=true by decide)];refine⟨G1,_,f2.st s5 (yb hkb sh),?_⟩;rw[GQ (heq _ hA)];intro v G3 H3 u hv;have hv:v=gl (cK k):=hv;subst hv;have f3:=f2.ups u;have ha3:=u.hh _ _ ha;dsimp only;by_cases g:gl (cK k)=true;·rw[if_pos g]at e1⊢;exact⟨_,f3.s4,ret e1.symm G3 H3 f3.up⟩
   ·rw[if_neg g]at e1⊢;obtain⟨zs,eq',z1,z2,z3,z4⟩:=f3.known z (kI u.gg hkb) sh hA;refine⟨_,f3.s3,_,s5,kd,zs,eq',k,b,rfl,rfl,rfl,z1,z2,kI f3.up.sub (kI u.gg hkb),z3,λep'=>?_⟩;have f4:=z4 ep';have n0:a0≠kd:=λe=>(qZ.1 f.nd).1 (e▸nZ h0);have ha4:upd H3 kd (.ext (dl X.prog X.w kd (qX zs k b) ep')) a0=some (.ext (dl X.prog X.w a0 xs ep)):=by rw[au n0];exact ha3
    generalize upd H3 kd (.ext (dl X.prog X.w kd (qX zs k b) ep'))=H4 at f4 ha4;have ek:put kn1 (cK k)=kn1++[cK k]:=if_neg c;rw[ek]at f4;refine⟨G3,_,f4.st s5 (yb (kI u.gg hkb) sh),?_⟩;rw[Bd (hnx _ hA)];intro v G5 H5 u5 rv;obtain⟨la,vs,rfl,hl,rs⟩:=rv.lst_inv;have f5:=f4.ups u5;refine⟨la,rfl,⟨vs,.of (u5.sub _ _ hl)⟩,?_⟩;refine GT f5 z hl rs (hst _ hA) h0 λH6 σ6 f6 e6=>⟨by rw[e6];exact u5.hh _ _ ha4,G5,_,_,f6,gg.trans (u.gg.trans u5.gg),e1⟩
 ·left;have:i=xs.length:=by omega
  subst this;rw[show(xs.map λx=>cK x.1).drop xs.length=[] by rw[List.drop_eq_nil_of_le (by rw[zV];exact z8 _)],jg]at e1;exact⟨⟨ha,z8 _⟩,out _ _ e1.symm _ _ _ f1⟩
def Ei(hF:∀d0 d1,F [d0,d1]=.no\/∃n All next gl s fuel,FewOk Fn d0 d1 n All next gl s fuel/\F [d0,d1]=.ok (.int n)){D:Ends}(h:tS X G₀ H₀ (GV F) D σ H):LA X Fn D σ H:=by
 obtain⟨G,ρ,sr,h⟩:=h;unfold GV at h;by_cases hl:ρ.length=8
 ·rw[if_pos hl]at h;cases e0:rdV ρ 0 with
  |no=>rw[e0]at h;exact h.elim
  |ex C=>rw[e0]at h;exact h.elim
  |ok d0=>
   cases e1:rdV ρ 1 with
   |no=>rw[e0,e1]at h;exact h.elim
   |ex C=>rw[e0,e1]at h;exact h.elim
   |ok d1=>
    rw[e0,e1]at h;dsimp only at h;have get:∀i d,rdV ρ i=.ok d->ρ[i]?=some (some (.val d)):=λi d e=>by
     unfold rdV at e;split at e;·rename_i q;cases e;exact q
     ·cases e
    obtain⟨v0,s0,r0⟩:=sr.e.val 0 d0 (get 0 d0 e0);obtain⟨v1,s1,r1⟩:=sr.e.val 1 d1 (get 1 d1 e1);rcases hF d0 d1 with e|⟨n,All,next,gl,s,fuel,ok,e⟩;·rw[e]at h;exact h.elim
    rw[e]at h;have h:∀v G H,Up G₀ H₀ G H->Rep X.K G v (.int n)->D.rt v H:=h;have len:σ.length=8:=by rw[sr.e.len,hl]
    rw[ok.d0]at r0;obtain⟨k0,b0,rfl,hk0,ek0,sh0⟩:=xr r0;have u:=sr.up;intro p0 ep0 n0;refine⟨_,s0,ay,b0,k0,rfl,rfl,kI (u.sub.trans (.into n0)) hk0,λep0'=>?_⟩;rw[De];have u0:Up G₀ H₀ G (upd H p0 (.ext (dl X.prog X.w p0 [(k0,b0)] ep0'))):=nD u (u.sub.free n0) (u.hh.free n0);have d0':DictS X.prog X.w X.K All H₀ G (upd H p0 (.ext (dl X.prog X.w p0 [(k0,b0)] ep0'))) p0 [s]:=⟨⟨_,_,ay,λx m=>by rw[wc]at m;subst m;exact⟨hk0,sh0⟩,by rw[<- ek0];rfl⟩,u.sub.free n0,u.hh.free n0,by simp,λk m=>by rw[wc]at m;subst m;exact ok.ss⟩
    generalize upd H p0 (.ext (dl X.prog X.w p0 [(k0,b0)] ep0'))=H1 at u0 d0';intro p1 ep1 n1;have u1:Up G₀ H₀ G (upd H1 p1 (.ext (dl X.prog X.w p1 [] ep1))):=nD u0 (u0.sub.free n1) (u0.hh.free n1);have ne1:∀{a ks},DictS X.prog X.w X.K All H₀ G H1 a ks->a≠p1:=λd=>let⟨xs,ep,h1,_⟩:=d.ex;aj h1 n1;have c0:=d0'.ne (o:=.ext (dl X.prog X.w p1 [] ep1)) (ne1 d0');have c1:=DictS.new (P:=X.prog) (w:=X.w) (K:=X.K) (All:=All) u0 n1 ep1;have m01:=ne1 d0';generalize upd H1 p1 (.ext (dl X.prog X.w p1 [] ep1))=H2 at u1 c0 c1;intro p2 ep2 n2;have u2:Up G₀ H₀ G (upd H2 p2 (.ext (dl X.prog X.w p2 [] ep2))):=nD u1 (u1.sub.free n2) (u1.hh.free n2);have ne2:∀{a ks},DictS X.prog X.w X.K All H₀ G H2 a ks->a≠p2:=λd=>let⟨xs,ep,h1,_⟩:=d.ex;aj h1 n2;have b0':=c0.ne (o:=.ext (dl X.prog X.w p2 [] ep2)) (ne2 c0);have b1':=c1.ne (o:=.ext (dl X.prog X.w p2 [] ep2)) (ne2 c1);have b2':=DictS.new (P:=X.prog) (w:=X.w) (K:=X.K) (All:=All) u1 n2 ep2;have m02:=ne2 c0;have m12:=ne2 c1;generalize upd H2 p2 (.ext (dl X.prog X.w p2 [] ep2))=H3 at u2 b0' b1' b2';refine⟨by show 3<=sizeLine;decide,λL nL=>?_⟩;have u3:Up G₀ H₀ G (upd H3 L (.lst [.ref p0,.ref p1,.ref p2])):=nD u2 (u2.sub.free nL) (u2.hh.free nL);have ne3:∀{a ks},DictS X.prog X.w X.K All H₀ G H3 a ks->a≠L:=λd=>let⟨xs,ep,h1,_⟩:=d.ex;aj h1 nL;have a0':=b0'.ne (o:=.lst [.ref p0,.ref p1,.ref p2]) (ne3 b0');have a1':=b1'.ne (o:=.lst [.ref p0,.ref p1,.ref p2]) (ne3 b1');have a2':=b2'.ne (o:=.lst [.ref p0,.ref p1,.ref p2]) (ne3 b2');have hL:upd H3 L (.lst [.ref p0,.ref p1,.ref p2]) L=some (.lst [.ref p0,.ref p1,.ref p2]):=ay;have gL:=u2.sub.free nL;have h0L:=u2.hh.free nL;generalize upd H3 L (.lst [.ref p0,.ref p1,.ref p2])=H4 at u3 a0' a1' a2' hL;intro kd epk nk;have u4:Up G₀ H₀ G (upd H4 kd (.ext (dl X.prog X.w kd [] epk))):=nD u3 (u3.sub.free nk) (u3.hh.free nk);have ne4:∀{a ks},DictS X.prog X.w X.K All H₀ G H4 a ks->a≠kd:=λd=>let⟨xs,ep,h1,_⟩:=d.ex;aj h1 nk;have f:FS X.prog X.w X.K All d1 G₀ H₀ G (upd H4 kd (.ext (dl X.prog X.w kd [] epk))) (((σ.set 2 (some (.ref L))).set 3 (some (.ref kd))).set 4 (some (.int 0))) L kd [p0,p1,p2] 0 [[s],[],[]] []:=by
     refine⟨u4,by simp[len],⟨v1,by simpa using s1,r1⟩,?_,?_,?_,?_,gL,h0L,?_,DictS.new u3 nk epk,λi a e=>?_,rfl,rfl⟩;·rw[rG (by omega),rG (by omega),su (by omega)]
     ·rw[rG (by omega),su (by rw[p6];omega)]
     ·exact su (by rw[p6,p6];omega)
     ·rw[au (aj hL nk)];exact hL
     ·simp only[qZ,y9,ic,n5,not_or,iO,and_true,not_false_eq_true];exact⟨⟨(ne4 a0').symm,(ne4 a1').symm,(ne4 a2').symm⟩,⟨m01,m02⟩,m12⟩
     ·match i,e with
      | 0,e=>cases e;exact a0'.ne (ne4 a0')
      | 1,e=>cases e;exact a1'.ne (ne4 a1')
      | 2,e=>cases e;exact a2'.ne (ne4 a2')
      |n+3,e=>cases e
    show xt _ _ _ (((σ.set 2 (some (.ref L))).set 3 (some (.ref kd))).set 4 (some (.int 0))) (upd H4 kd (.ext (dl X.prog X.w kd [] epk)));generalize upd H4 kd (.ext (dl X.prog X.w kd [] epk))=H5 at f;generalize ((σ.set 2 (some (.ref L))).set 3 (some (.ref kd))).set 4 (some (.int 0))=σ5 at f;refine⟨λm σ' H'=>∃G' as t ls kn,FS X.prog X.w X.K All d1 G₀ H₀ G' H' σ' L kd as t ls kn/\t+m=fuel/\hV next gl m t ls kn=some n,⟨fuel,G,_,_,_,_,f,eB _,ok.run⟩,?_⟩;rintro m σ6 H6 ⟨G6,as,t,ls,kn,f6,tm,run⟩;refine⟨true,rfl,?_⟩;dsimp only;rw[if_pos rfl];cases m with
    |zero=>cases run
    |succ m=>
     refine⟨λσ' H'=>∃G' as t ls kn,FS X.prog X.w X.K All d1 G₀ H₀ G' H' σ' L kd as t ls kn/\t+m=fuel/\hV next gl m t ls kn=some n,λσ' H' hN=>⟨m,g8 _,hN⟩,?_⟩;have ht:t<as.length:=by rw[f6.la];omega
     have h0:as[t]?=some as[t]:=vY ht;obtain⟨xs,ep,x1,x2,x3⟩:=(f6.ds t _ h0).ex;unfold hV at run;refine⟨_,f6.s2,_,f6.s4,L,as.map .ref,t,.ref as[t],rfl,rfl,.of f6.hL,kA (by rw[u9,h0];rfl),as[t],xs,ep,rfl,x1,?_⟩;refine Bq ok.all ok.eq ok.nx ok.st f6 h0 x1 x2 (λx mx=>(f6.ds t _ h0).al _ (by rw[<- x3];exact List.mem_map_of_mem mx)) (λhn G' H' u'=>?_) λls' kn' hn G' H' σ' f7=>?_;·rw[x3]at hn;rw[hn]at run;have:n=t:=(vC run).symm;subst this;exact h _ G' H' u' (.int _)
     ·rw[x3]at hn;rw[hn]at run;refine⟨_,f7.s2,.inl ⟨rfl,_,.of f7.hL⟩,λp ep np=>?_⟩;refine⟨L,as.map .ref,.ref p,rfl,rfl,by rw[au (aj f7.hL np)];exact f7.hL,?_,?_⟩
      ·rw[zV,f7.la];have:=ok.fu;have:(1000003:Nat)<sizeLine:=by decide
       omega
      ·have f8:=f7.next (ep:=ep) np;refine⟨_,f7.s4,_,_,rfl,rfl,G',as++[p],t+1,_,_,?_,by omega,run⟩;have e9:(as++[p]).map V.ref=as.map .ref++[.ref p]:=by simp
       rw[e9]at f8;exact f8
 ·rw[if_neg hl]at h;exact h.elim
end
end L2
namespace L2
open PySem PySem.Spec PyProof.Rows
section
variable{prog:Program}{w:World}{A:Around}{led:Bool}
def nmS(es:Array (Int×Value)):List Str:=es.toList.map λe=>strOf e.2
def B6(ns:List Str)(x:Str):List Str:=if x∈ns then ns else ns++[x]
structure SetJ(prog:Program)(w:World)(led:Bool)(es:Array (Int×Value))(t:SetTable)(ns:List Str):Prop where
 el:ElemsOf (PySem.strKind prog w) es.toList
 nm:(nmS es).Perm ns
 nd:ns.Nodup
 fit:t.fits es.size=true
 ld:t.led=led
 pl:0<es.size->t.plain=false
def E0(t:SetTable)(es:Array (Int×Value))(h:Int)(x:Value):(layNew t es h x).2.1.led=t.led:=by
 unfold layNew;split;·dsimp only;unfold SetTable.orStandIn;split <;> rfl
 ·rfl
def yv(t:SetTable)(es:Array (Int×Value))(n:Nat):(relayAll t es n).2.1.led=t.led/\(relayAll t es n).2.1.plain=(relayAll t es n).2.1.plain/\(t.plain=false->(relayAll t es n).2.1.plain=false):=by
 unfold relayAll;split
 ·rename_i t' order e;have:t'.led=t.led/\t'.plain=t.plain:=by
   unfold SetTable.relaid SetTable.laid at e;cases q:SetTable.layClean (SetTable.sizeAbove n - 1) (es.map (·.1))with
   |none=>rw[q]at e;cases e
   |some ow=>rw[q]at e;cases e;exact⟨rfl,rfl⟩
  dsimp only;split;·exact⟨this.1,rfl,λh=>this.2.trans h⟩
  ·exact⟨rfl,rfl,λ_=>rfl⟩
 ·exact⟨rfl,rfl,λ_=>rfl⟩
def ye{es:List (Int×Value)}(h:ElemsOf (PySem.strKind prog w) es){e:Int×Value}(m:e∈es):∃x t,e.2=.str x t:=by
 obtain⟨⟨k,hk,_⟩,_⟩:=h e m;cases q:e.2 with
 |str x t=>exact⟨x,t,rfl⟩
 |_=>rw[q]at hk;simp[PySem.strKind,Value.isStrOf]at hk
def is_str{y:Str}{t:Tok}:(PySem.strKind prog w).is x (.str y t)=true ↔ x=y:=by show(decide (y=x))=true ↔ _;rw[se];exact⟨Eq.symm,Eq.symm⟩
def CW{o:Obj}{es:Array (Int×Value)}{t:SetTable}{ns:List Str}{tk:Tok}{Q:Bool->Shared->Prop}(ho:s.heap.get? a=some o)(hd:o.data=.set es ep t)(J:SetJ prog w led es t ns)(hb:ns.length+1<scanBound)(h:∀b h' es' ep' t',Heap.SameBut a s.heap h'->h'.get? a=some { o with data:=.set es' ep' t' }->SetJ prog w led es' t' (B6 ns x)->Q b { s with heap:=h',toks:=s.toks+1 }):
  wpAny (model prog w) A (setAdd a (.str x tk)) Q E s:=by
 have hk:(PySem.strKind prog w).is x (.str x tk)=true:=is_str.2 rfl;have sz:es.size=ns.length:=by rw[<- J.nm.length_eq];simp[nmS]
 unfold setAdd;refine q9 (z5 ((PySem.strKind prog w).pyHash (k:=x) hk ?_));unfold setAddHashed setAddHashedIn;refine q9 (z5 (bY (s:={ s with toks:=s.toks+1 }) ho hd J.fit ?_));dsimp only;rw[byScan_of (x:=.str x tk) rfl (by omega) J.el,if_pos rfl];unfold setAddByScan;refine z5 (z5 (ji (z5 (wpAny_setScan_of hk ho hd J.fit J.el ?_))));have gw:∀(b:Bool){s₁:Shared}{Q':Unit->Shared->Prop},Q' () s₁->wpAny (model prog w) A (match b with|true=>rule "set.scan.the-table-gave-way" | false=>pure ()) Q' E s₁:=
  λb s₁ Q' q=>by cases b;exact z7 q;exact ji q
 cases hr:List.findIdx? (λe=>(PySem.strKind prog w).is x e.2) es.toList with
 |some j=>
  dsimp only;obtain⟨hj,hpj,_⟩:=List.findIdx?_eq_some_iff_getElem.mp hr;have m:x∈ns:=by rw[<- J.nm.mem_iff];obtain⟨y,t',ey⟩:=ye J.el (l6 hj);rw[ey,is_str]at hpj;exact s8.2 ⟨_,l6 hj,by rw[ey,hpj];rfl⟩
  refine z7 (z7 ?_);refine h _ s.heap es ep t (Heap.SameBut.refl a s.heap) ?_ (by unfold B6;rw[if_pos m];exact J);rw[ho,<- hd]
 |none=>
  dsimp only;have m:x∉ns:=λm=>by rw[<- J.nm.mem_iff]at m;obtain⟨e,he,q⟩:=s8.1 m;obtain⟨y,t',ey⟩:=ye J.el he;have:=List.findIdx?_eq_none_iff.mp hr e he;rw[ey]at q this;have:(PySem.strKind prog w).is x (.str y t')=true:=is_str.2 q.symm;simp_all
  have lp:=layNew_perm t es ((PySem.strKind prog w).hash x) (.str x tk);have lf:=layNew_fits t es ((PySem.strKind prog w).hash x) (.str x tk);have ll:=E0 t es ((PySem.strKind prog w).hash x) (.str x tk);generalize layNew t es ((PySem.strKind prog w).hash x) (.str x tk)=L at lp lf ll⊢;obtain⟨es1,t1,wd,gv⟩:=L;dsimp only at lp lf ll⊢;rw[Array.toList_push]at lp;have el1:=(J.el.push hk rfl).perm lp;have sz1:es1.size=es.size+1:=by rw[<- qY,lp.length_eq];simp
  have nm1:(nmS es1).Perm (ns++[x]):=(lp.map _).trans (by rw[sN];exact List.Perm.append_right _ J.nm);have fin:∀{h':Heap}{es':Array (Int×Value)}{ep':Nat}{t':SetTable},Heap.SameBut a s.heap h'->h'.get? a=some { o with data:=.set es' ep' t' }->es'.toList.Perm es1.toList->t'.fits es'.size=true->t'.led=led->t'.plain=false->Q true { s with heap:=h',toks:=s.toks+1 }:=λsb g p f l pl=>by refine h _ _ _ _ _ sb g ?_;have e:B6 ns x=ns++[x]:=if_neg m;rw[e];exact⟨el1.perm p,(p.map _).trans nm1,ZT.2 ⟨J.nd,by simp,λa ha b hb=>by rw[wc]at hb;subst hb;exact λe=>m (e▸ha)⟩,f,l,λ_=>pl⟩
  refine z5 (gw _ ?_);have tail:∀t2:SetTable,t2.fits es1.size=true->t2.led=led->t2.plain=false->wpAny (model prog w) A (do
    storeSet a es1 t2
    if (!wd && t2.tooFull)=true then do
      (match (relayAll t2 es1 (SetTable.grown es1.size)).2.2 with|true=>rule "set.scan.the-table-gave-way" | false=>pure ())
      storeSet a (relayAll t2 es1 (SetTable.grown es1.size)).1 (relayAll t2 es1 (SetTable.grown es1.size)).2.1
      pure (some true)
     else pure (some true)) (λr s'=>wpAny (model prog w) A (match r with|some added=>pure added|none=>setAddHashedIn a (.str x tk) ((PySem.strKind prog w).hash x) 99999) Q E s') E { s with toks:=s.toks+1 }:=λt2 f2 l2 p2=>by
   have z1:es1.size<=sizeLine:=fits_of_scanBound (by omega);refine z5 (wpAny_storeSet_of (s:={ s with toks:=s.toks+1 }) ho hd ?_ z1);have g1:(s.heap.update a (Obj.putSet es1 t2)).get? a=some { o with data:=.set es1 (ep+1) t2 }:=by have:=mf (Obj.putSet es1 t2) ho (by rw[putSet_of es1 t2 hd];rfl);rw[putSet_of es1 t2 hd]at this;exact this
   split
   ·have rp:=relayAll_perm t2 es1 (SetTable.grown es1.size);have rf:=relayAll_fits t2 es1 (SetTable.grown es1.size);have rl:=yv t2 es1 (SetTable.grown es1.size);generalize relayAll t2 es1 (SetTable.grown es1.size)=Rl at rp rf rl⊢;obtain⟨es2,t3,gv2⟩:=Rl;dsimp only at rp rf rl⊢;have z2:es2.size=es1.size:=by rw[<- qY,rp.length_eq,qY]
    refine z5 (gw _ (z5 (wpAny_storeSet_of (s:={ s with heap:=s.heap.update a (Obj.putSet es1 t2),toks:=s.toks+1 }) g1 rfl ?_ (by omega))));refine z7 (z7 (fin (ep':=ep+1+1) ((p8 ..).trans (p8 ..)) ?_ rp rf (rl.1.trans l2) (rl.2.2 p2)));have:=mf (Obj.putSet es2 t3) g1 (by rw[putSet_of es2 t3 rfl];rfl);rw[putSet_of es2 t3 rfl]at this;exact this
   ·exact z7 (z7 (fin (p8 ..) g1 (ZY _) f2 l2 p2))
  split;·refine z5 ?_;rw[hashByValue_scannable 8 (x:=.str x tk) rfl];refine z7 ?_;exact tail { t1 with plain:=false } (SetTable.fits_plain_off lf) (ll.trans J.ld) rfl
  ·rename_i np;refine z5 (z7 ?_);exact tail t1 lf (ll.trans J.ld) (by simpa using np)
end
def gP(val:Nat->Str):Nat->List Str
 | 0=>[]
 |i+1=>B6 (gP val i) (val i)
theorem ny(val:Nat->Str):∀i,(gP val i).length<=i
 | 0=>z8 _
 |i+1=>by
  have:=ny val i;show(B6 _ _).length<=_;unfold B6;split;·omega
  ·rw[v6];show _+1<=_;omega
theorem oF(val:Nat->Str){x:Str}:∀i,x∈gP val i ↔ ∃j,j<i/\val j=x
 | 0=>⟨λh=>(nomatch h),λ⟨j,h,_⟩=>by omega⟩
 |i+1=>by
  have e:x∈gP val (i+1) ↔ x∈gP val i\/val i=x:=by
   show x∈B6 _ _ ↔ _;unfold B6;split;·exact⟨.inl,λh=>h.elim id λe=>e▸‹_›⟩
   ·rw[r8,wc];exact⟨λh=>h.imp id Eq.symm,λh=>h.imp id Eq.symm⟩
  rw[e,oF val i];exact⟨λh=>h.elim (λ⟨j,a,b⟩=>⟨j,by omega,b⟩) λb=>⟨i,by omega,b⟩,λ⟨j,a,b⟩=>(Nat.lt_succ_iff_lt_or_eq.1 a).elim (λa=>.inl ⟨j,a,b⟩) λa=>.inr (a▸b)⟩
section
variable{prog:Program}{w:World}{A:Around}{R:Result->Shared->Prop}{I:Addr}{wr:List Addr}{G:Array GenState->Array GenState->Prop}{n:Nat}{P:Nat->Value->Prop}{St:Nat->Shared->Prop}{led:Bool}
def Fk(prog:Program)(w:World)(led:Bool)(S:Addr)(o:Obj)(ns:List Str)(h:Heap):Prop:=∃es ep t,h.get? S=some { o with data:=.set es ep t }/\SetJ prog w led es t ns
def uh(W:WalksS prog w A.in1 I fp wr G n P St)(S:Addr)(o:Obj)(hSf:S∉fp)(val:Nat->Str)(hval:∀i v,P i v->∃t,v=.str (val i) t)(hb:n+1<scanBound):
  ∀(k i:Nat)(s:Shared),n - i=k->i<=n->St i s->Fk prog w led S o (gP val i) s.heap->
   (∀s',Moved (S::wr) G s s'->Fk prog w led S o (gP val n) s'.heap->R (.ok (.ret .none)) s')->codeAny (model prog w) A (.builtin "set.update.loop" ⟨[.ref S,.ref I],[]⟩) R s:=by
 have nw:S∉wr:=λh=>hSf (W.sub _ h);have sub:∀b∈wr,b∈S::wr:=λb hb=>w9 _ hb;intro k;induction k with
 |zero=>
  intro i s hk hi st ⟨es,ep,t,g,J⟩ hR;have:i=n:=by omega
  subst this;refine k8 YN ?_;rw[ib Ys _];show wpAny _ A.in1 (pyNext (.ref I)>>=_) _ _ s;exact z5 (W.done s _ _ st λs' m=>z7 (hR s' (m.mono sub) ⟨es,ep,t,m.heap S _ nw g,J⟩))
 |succ k ih=>
  intro i s hk hi st ⟨es,ep,t,g,J⟩ hR;have lt:i<n:=by omega
  refine k8 YN ?_;rw[ib Ys _];show wpAny _ A.in1 (pyNext (.ref I)>>=_) _ _ s;refine z5 (W.item i s _ _ lt st λv s' hP st' m=>?_);obtain⟨tk,rfl⟩:=hval i v hP;show wpAny _ A.in1 (holding [Value.str (val i) tk] (setAdd S (.str (val i) tk))>>=_) _ _ s';have:=ny val i;refine z5 (q9 (CW (m.heap S _ nw g) rfl J (by omega) λb h' es' ep' t' sb g' J'=>?_));refine z7 ⟨k9 Ys _,ih (i+1) _ (by omega) lt (W.frame _ s' _ _ st' (qO _) λb hb o' e=>?_) ⟨es',ep',t',g',J'⟩ λs'' m'' T=>?_⟩;·rw[sb.2 b (λh:b=S=>hSf (by rw[<- h];exact hb))];exact e
  ·refine hR s'' (Moved.trans W.gtrans ((m.mono sub).then_heap (qO _) λb o' hb e=>?_) m'') T;rw[sb.2 b (λh:b=S=>hb (by rw[h];exact w5))];exact e
end
section
variable{prog:Program}{w:World}{A:Around}
def lP(w:World):Bool:=!w.params.followText "set-order"
def newS(w:World):Obj:={ cls:=.type "set",dict:=none,data:=.set #[] 0 (.fresh 0 0 (lP w)) }
def AF(a:Value){Q₁:Value->Shared->Prop}(h:Q₁ (.ref s.heap.objs.size) { s with heap:=s.heap.push (newS w) }):
  codeAny (model prog w) A (.call (.builtin "set.__new__") ⟨[.type "set",a],[]⟩) (wants Q₁ E) s:=by
 refine codeAny_of_tree ?_;show wpAny _ A.in1 (do checkBuiltinCall "set.__new__" ⟨[.type "set",a],[]⟩;again (.builtin "set.__new__" ⟨[.type "set",a],[]⟩)) _ _ s;refine z5 (Zg (PySem.F.newCall_set_1 a) (z7 ⟨k9 PySem.F.plain_set_new _,k8 PySem.F.entry_set_new ?_⟩));rw[ib PySem.F.plain_set_new _];unfold Builtin.«set.__new__» Builtin.Frozenset.newClass;have hsub:=sub_set_self;obtain⟨hp,g,d,tk,os⟩:=s;dsimp only
 wp_walk
 refine Yt (z7 ?_);dsimp only;simp only[newObj];exact z5 (wpAny_alloc (z7 (z7 h)))
def fF(x:Str)(i:Nat):Str:=⟨#[x.cps.getD i 0]⟩
def nH{tk:Tok}{Q:Value->Shared->Prop}(hh:A.handled=none)(hb:x.cps.size+1<scanBound)(h:∀(h':Heap)(t':Nat),Fk prog w (lP w) s.heap.objs.size (newS w) (gP (fF x) x.cps.size) h'->(∀b o,b<s.heap.objs.size->s.heap.get? b=some o->h'.get? b=some o)->Q (.ref s.heap.objs.size) { s with heap:=h',toks:=t' }):
  wpAny (model prog w) A (call (.type "set") [.str x tk]) Q E s:=by
 obtain⟨c,tl,hmro⟩:=PySem.F.called_set.mro;have hmade:=PySem.F.called_set.made;have hsub:=PySem.F.called_set.sub;refine wpAny_call (codeAny_of_tree ?_);show wpAny _ _ (callAny (.type "set") _) _ _ _;refine z7 ⟨Code.quiet_builtin _ (by decide +kernel),k8 PySem.F.entry_type_call ?_⟩;rw[Around.under_plain (weight_type_call_type "set" [.str x tk] []) rfl];have h1:=PySem.F.called_set.notType;have h2:=PySem.F.called_set.canCreate;have hct:=PySem.F.typeCall_set_1 (.str x tk)
 repeat (any_goals (first|assumption|wp_step))
 refine j7 (AF (.str x tk) (E:=E) (Q₁:=λobj s₁=>obj=.ref s.heap.objs.size/\s₁={ s with heap:=s.heap.push (newS w) }) ⟨rfl,rfl⟩) λr s₁ hr=>?_;cases r with
 |error e=>exact hr
 |ok fl=>
  cases fl with
  |ret obj=>
   obtain⟨rfl,rfl⟩:=hr;have hS:(s.heap.push (newS w)).get? s.heap.objs.size=some (newS w):=v7 _ rfl;have hT:Shared.TypeIs { s with heap:=s.heap.push (newS w) } (.ref s.heap.objs.size) "set":=⟨_,hS,rfl⟩
   have hli:=PySem.F.called_set.init.lookup;have hbi:=PySem.F.called_set.init.bind (.ref s.heap.objs.size)
   repeat (any_goals (first|assumption|wp_step))
   refine j7 (codeAny_call_builtin (R:=wants (λr s₂=>r=.none/\∃h' t',s₂={ s with heap:=h',toks:=t' }/\Fk prog w (lP w) s.heap.objs.size (newS w) (gP (fF x) x.cps.size) h'/\
     (∀b o,b<s.heap.objs.size->s.heap.get? b=some o->h'.get? b=some o)) E) PySem.F.called_set.init.plain PySem.F.entry_set_init (check_set_init_1 hT ?_)) λr₂ s₂ hr₂=>?_
   ·have s1:=PySem.F.sub_str_set;have s2:=PySem.F.sub_str_frozenset;have ne:(Value.type "str"==Value.type "dict")=false:=by decide
    unfold Builtin.«set.__init__» noKeywords Builtin.Frozenset.updateFrom;generalize hPI:pyIter=PI
    wp_walk
    subst hPI;have hh3:A.in1.in1.in1.handled=none:=by simp[hh]
    have nf:s.heap.objs.size∉[(s.heap.push (newS w)).objs.size]:=by rw[n4];simp
    have sv:∀i v,SignAt x i v->∃t,v=.str (fF x i) t:=λi v ⟨c,t,e,ev⟩=>⟨t,by rw[ev];unfold fF;rw[Array.getD_eq_getD_getElem?,e];rfl⟩
    have j0:SetJ prog w (lP w) #[] (.fresh 0 0 (lP w)) (gP (fF x) 0):=⟨λ_ h=>(by simp at h),ZY _,iO,rfl,rfl,λh=>absurd h (by simp)⟩
    cases ha:x.cps.all (· < 128)with
    |false=>
     refine wpAny_pyIter_wide ha ?_;refine z5 (wpAny_runValue ?_);refine uh (led:=lP w) ((Walks.strWide hh3 _ x tk).toS) s.heap.objs.size (newS w) nf (fF x) sv hb (x.cps.size - 0) 0 _ rfl (v8 _) ⟨_,v7 _ rfl,rfl,rfl⟩ ⟨#[],0,_,z9 _ hS,j0⟩ λs' m T=>?_;obtain⟨h',g',d',t',os'⟩:=s';have eg:g'=s.gens:=m.gens;have ed:d'=s.drawn:=m.drawn;have eo:os'=s.os:=m.os;subst eg;subst ed;subst eo;refine z7 (z7 ⟨rfl,h',t',rfl,T,λb o hb e=>m.heap b o (λz=>?_) (z9 _ (z9 _ e))⟩);simp only[y9,ic,n5,n4]at z;rcases z with z|z;·exact absurd hb (by rw[z];exact nV _)
     ·exact absurd hb (by rw[z];exact sT.2 (qO _))
    |true=>
     refine wpAny_pyIter_ascii ha ?_;refine z5 (wpAny_runValue ?_);refine uh (led:=lP w) ((Walks.strAscii hh3 _ x tk).toS) s.heap.objs.size (newS w) nf (fF x) sv hb (x.cps.size - 0) 0 _ rfl (v8 _) ⟨_,v7 _ rfl,rfl,rfl⟩ ⟨#[],0,_,z9 _ hS,j0⟩ λs' m T=>?_;obtain⟨h',g',d',t',os'⟩:=s';have eg:g'=s.gens:=m.gens;have ed:d'=s.drawn:=m.drawn;have eo:os'=s.os:=m.os;subst eg;subst ed;subst eo;refine z7 (z7 ⟨rfl,h',t',rfl,T,λb o hb e=>m.heap b o (λz=>?_) (z9 _ (z9 _ e))⟩);simp only[y9,ic,n5,n4]at z;rcases z with z|z;·exact absurd hb (by rw[z];exact nV _)
     ·exact absurd hb (by rw[z];exact sT.2 (qO _))
   ·cases r₂ with
    |error e=>exact hr₂
    |ok fl₂=>
     cases fl₂ with
     |ret r=>
      obtain⟨rfl,h',t',rfl,hS',hk'⟩:=hr₂
      repeat (any_goals (first|assumption|wp_step))
      exact h _ _ hS' hk'
     |_=>exact hr₂.elim
  |_=>exact hr.elim
end
end L2
namespace L2
open PySem PySem.Spec PyProof.Rows PySem.W
def slot_sit:Slot "set_iterator" "__next__" "set_iterator.__next__":=
 .of (owner:="set_iterator") (n:="__next__") (by rw[typeLookup_type,builtinLookup_eq_fast];kernel_rfl) (by decide +kernel) (by decide +kernel) (by decide +kernel)
  (by first|exact .inl (by decide +kernel)|exact .inr (by decide +kernel)) (by rw[isSubtype_type];kernel_rfl)
def xj:entryFor table "set_iterator.__next__"=some Builtin.«set_iterator.__next__»:=entryFor_of_tree (by kernel_rfl)
def pP:entryFor table "set.__iter__"=some Builtin.«frozenset.__iter__»:=entryFor_alias (id':="frozenset.__iter__") (by kernel_rfl) rfl (by decide +kernel) (by kernel_rfl)
def zQ(a:Value):argsOk "set_iterator.__next__" ⟨[a],[]⟩:=by unfold argsOk;kernel_rfl
section
variable{prog:Program}{w:World}{A:Around}{S I T:Addr}
def iY(h:Heap)(I:Addr)(fst:Value)(i:Nat)(S:Addr)(n ep:Nat):Prop:=∃o,h.get? I=some o/\o.cls=.type "set_iterator"/\o.data=.fields #[fst,.int i 0,.ref S,.int n 0,.int ep 0]
def wZ{i n:Nat}(hi:iY h I fst i S n ep):iY (h.update I (Obj.mapFields (·.setIfInBounds 1 (rawInt ((i:Int)+1))))) I fst (i+1) S n ep:=by obtain⟨r,hr,hc,hf⟩:=hi;exact⟨_,mf _ hr (ZN (i9 hf _)),(ZO ..).trans hc,by rw[i9 hf];simp[rawInt]⟩
def wt{i n:Nat}(j:Int)(hi:iY h I fst i S n ep):iY (h.update I (Obj.mapFields (·.setIfInBounds 0 (rawInt j)))) I (rawInt j) i S n ep:=by obtain⟨r,hr,hc,hf⟩:=hi;exact⟨_,mf _ hr (ZN (i9 hf _)),(ZO ..).trans hc,by rw[i9 hf];simp[rawInt]⟩
def jP{i n:Nat}{Q:Option Value->Shared->Prop}(hi:iY s.heap I fst i S n ep)(h:wpAny (model prog w) A.in1 (Builtin.«set_iterator.__next__» ⟨[.ref I],[]⟩)
 (λfin s'=>∃v,fin=.done (.ret v)/\Q (some v) s') (λe s'=>wpAny (model prog w) A (do if <- isInstance e (.type "StopIteration")then pure none else throw e) Q E s') s):wpAny (model prog w) A (pyNext (.ref I)) Q E s:=by
 obtain⟨r,hr,hc,_⟩:=hi;have ty:s.TypeIs (.ref I) "set_iterator":=⟨r,hr,hc⟩
 unfold pyNext;refine z5 (c8 (m9 (name:=Str.ofString "__next__") ty slot_sit (r9 slot_sit ty xj ?_ (zQ _))));exact t7 h (λ_ _ ⟨v,e,q⟩=>⟨v,e,z7 q⟩) λ_ _ q=>q
def ug{B:Around}{Q:Option Value->Shared->Prop}(hh:A.handled=none)(h:∀h',(∀b ob,hp.get? b=some ob->h'.get? b=some ob)->Q none { s with heap:=h' }):
  wpAny (model prog w) A.in1 (do raiseNew (<- newExc (.type "StopIteration") []):Sem PySem.Fin) (λfin s'=>∃v,fin=.done (.ret v)/\Q (some v) s')
   (λe s'=>wpAny (model prog w) A (do if <- isInstance e (.type "StopIteration")then pure none else throw e) Q E s') { s with heap:=hp }:=by
 have sub:=ZE;have hh1:A.in1.handled=none:=hh;simp only[newExc,raiseNew]
 wp_walk
 exact h _ λb ob q=>z9 _ (z9 _ q)
variable{o:Obj}{es:Array (Int×Value)}{i:Nat}{t:SetTable}
def F9{pl:List Nat}{p:Nat}{Q:Option Value->Shared->Prop}(hi:iY s.heap I (.ref T) i S es.size ep)(hs:s.heap.get? S=some o)(hd:o.data=.set es ep t)(hf:t.fits es.size=true)(ht:IsTup s.heap T (pl.map λ(j:Nat)=>rawInt j).toArray)(hp:pl[i]?=some p)(hl:p<es.size)(h:∀h',iY h' I (.ref T) (i+1) S es.size ep->(∀b ob,b≠I->s.heap.get? b=some ob->h'.get? b=some ob)->Q (some es[p].2) { s with heap:=h' }):wpAny (model prog w) A (pyNext (.ref I)) Q E s:=by
 obtain⟨r,hr,hc,hfd⟩:=id hi;obtain⟨ot,hot,hct,nt,hdt⟩:=ht;refine jP hi ?_;unfold Builtin.«set_iterator.__next__»
 wp_walk using j9 hr hfd,Zi hs hd hf
 rw[hdt];dsimp only;refine z7 ?_;have e1:(pl.map λ(j:Nat)=>rawInt j).toArray[(i:Int).toNat]?=some (.int (p:Int) 0):=by rw[si,Yk,u9,hp];rfl
 dsimp only;rw[e1];dsimp only;unfold setNextDrawn;refine z5 (z5 (bY hs hd hf ?_));dsimp only;rw[si,si,if_neg (by simp),je hl];refine z7 (z5 (l8 hr hfd (by simp) ?_));exact z7 ⟨_,rfl,h _ (wZ hi) λb ob n q=>(p8 ..).extBut b ob n q⟩
def I9{pl:List Nat}{Q:Option Value->Shared->Prop}(hh:A.handled=none)(hi:iY s.heap I (.ref T) i S es.size ep)(hs:s.heap.get? S=some o)(hd:o.data=.set es ep t)(hf:t.fits es.size=true)(ht:IsTup s.heap T (pl.map λ(j:Nat)=>rawInt j).toArray)(hp:pl[i]?=none)(h:∀h',(∀b ob,b≠I->s.heap.get? b=some ob->h'.get? b=some ob)->Q none { s with heap:=h' }):wpAny (model prog w) A (pyNext (.ref I)) Q E s:=by
 obtain⟨r,hr,hc,hfd⟩:=id hi;obtain⟨ot,hot,hct,nt,hdt⟩:=ht;refine jP hi ?_;unfold Builtin.«set_iterator.__next__»
 wp_walk using j9 hr hfd,Zi hs hd hf
 rw[hdt];dsimp only;refine z7 ?_;have e1:(pl.map λ(j:Nat)=>rawInt j).toArray[(i:Int).toNat]?=none:=by rw[si,Yk,u9,hp];rfl
 dsimp only;rw[e1];dsimp only;refine z5 (l8 hr hfd (by simp) ?_);obtain⟨r1,hr1,hc1,hfd1⟩:=wt (S:=S) 0 hi;refine z5 (l8 hr1 hfd1 (by simp) ?_);exact ug (B:=A) hh λh' k=>h h' λb ob n q=>k b ob ((p8 ..).extBut b ob n ((p8 ..).extBut b ob n q))
def Ie{fst:Int}{x:Value}{Q:Option Value->Shared->Prop}(hi:iY s.heap I (.int fst 0) i S es.size ep)(hs:s.heap.get? S=some o)(hd:o.data=.set es ep t)(hf:t.fits es.size=true)(hn:∀{B:Around}{E:Value->Shared->Prop}{Q:Option (Value×Nat)->Shared->Prop},Q (some (x,j)) s->wpAny (model prog w) B (setNext S fst.toNat i ep) Q E s)(h:∀h',iY h' I (.int (j:Int) 0) (i+1) S es.size ep->(∀b ob,b≠I->s.heap.get? b=some ob->h'.get? b=some ob)->Q (some x) { s with heap:=h' }):wpAny (model prog w) A (pyNext (.ref I)) Q E s:=by
 obtain⟨r,hr,hc,hfd⟩:=id hi;refine jP hi ?_;unfold Builtin.«set_iterator.__next__»;generalize hSN:setNext=SN
 wp_walk using j9 hr hfd,Zi hs hd hf
 subst hSN;rw[si,si];refine hn ?_;dsimp only;refine z5 (l8 hr hfd (by simp) ?_);have i1:=wt (S:=S) (j:Int) hi;obtain⟨r1,hr1,hc1,hfd1⟩:=id i1;refine z5 (l8 hr1 hfd1 (by simp) ?_);exact z7 ⟨_,rfl,h _ (wZ i1) λb ob n q=>(p8 ..).extBut b ob n ((p8 ..).extBut b ob n q)⟩
def Jw{fst:Int}{Q:Option Value->Shared->Prop}(hh:A.handled=none)(hi:iY s.heap I (.int fst 0) i S es.size ep)(hs:s.heap.get? S=some o)(hd:o.data=.set es ep t)(hf:t.fits es.size=true)(hn:∀{B:Around}{E:Value->Shared->Prop}{Q:Option (Value×Nat)->Shared->Prop},Q none s->wpAny (model prog w) B (setNext S fst.toNat i ep) Q E s)(h:∀h',(∀b ob,b≠I->s.heap.get? b=some ob->h'.get? b=some ob)->Q none { s with heap:=h' }):wpAny (model prog w) A (pyNext (.ref I)) Q E s:=by
 obtain⟨r,hr,hc,hfd⟩:=id hi;refine jP hi ?_;unfold Builtin.«set_iterator.__next__»;generalize hSN:setNext=SN
 wp_walk using j9 hr hfd,Zi hs hd hf
 subst hSN;rw[si,si];refine hn ?_;dsimp only;refine z5 (l8 hr hfd (by simp) ?_);exact ug (B:=A) hh λh' k=>h h' λb ob n q=>k b ob ((p8 ..).extBut b ob n q)
end
def mS{α:Type}{l:List α}{i:Nat}{x:α}(h:l[i]?=some x):(x::l.eraseIdx i).Perm l:=by obtain⟨hi,e⟩:=tj.1 h;subst e;rw[List.eraseIdx_eq_take_drop_succ];refine List.perm_middle.symm.trans ?_;rw[List.getElem_cons_drop hi,List.take_append_drop]
theorem xx{α:Type}(f:Nat->Nat):∀(n k:Nat)(l:List α)(out:Array α),l.length=n->∃l':List α,l'.Perm l/\pickOrder.go f n k l out=out++l'.toArray
 | 0,k,l,out,h=>⟨[],by rw[List.length_eq_zero_iff.1 h],by show out=_;simp⟩
 |n+1,k,l,out,h=>by have hl:f k % l.length<l.length:=Nat.mod_lt _ (by omega);have e:=vY hl;obtain⟨l',p,q⟩:=xx f n (k+1) (l.eraseIdx (f k % l.length)) (out.push l[f k % l.length]) (by rw[List.length_eraseIdx,if_pos hl];omega);refine⟨l[f k % l.length]::l',(List.Perm.cons _ p).trans (mS e),?_⟩;unfold pickOrder.go;rw[e];dsimp only;rw[q];simp
def xw{α:Type}(f:Nat->Nat)(xs:Array α):(pickOrder f xs).toList.Perm xs.toList:=by obtain⟨l',p,q⟩:=xx f xs.size 0 xs.toList #[] (by simp);unfold pickOrder;rw[q];simpa using p
section
variable{prog:Program}{w:World}{A:Around}{S I T:Addr}
def vj{M:Model}{src:Source}{n:Nat}{Q:Nat->Shared->Prop}(hn:n≠0)(h:∀i d,i<n->Q i { s with drawn:=d }):wpAny M A (choose src n) Q E s:=λΓ p _=>by unfold choose;rw[Sem.wp_choose];refine⟨hn,?_⟩;have:=h (M.w.draws src (s.drawn.get src) % n) (s.drawn.bump src) (Nat.mod_lt _ (by omega));simpa using this
theorem wK{α:Type}:∀(n:Nat)(xs:List α){s:Shared}{Q:List α->Shared->Prop},xs.length=n->(∀ys d,ys.Perm xs->Q ys { s with drawn:=d })->wpAny (model prog w) A (drawOrder n xs) Q E s
 | 0,xs,s,Q,hl,h=>by have:xs=[]:=List.length_eq_zero_iff.1 hl;subst this;exact z7 (h [] s.drawn (ZY _))
 |n+1,[],s,Q,hl,h=>by cases hl
 |n+1,x::xs,s,Q,hl,h=>by unfold drawOrder;refine z5 (vj (by simp) λi d hi=>?_);have e:=vY hi;rw[e];dsimp only;refine z5 (wK n ((x::xs).eraseIdx i) (by rw[List.length_eraseIdx,if_pos hi];simpa using hl) λys d' p=>?_);exact z7 (h _ d' ((List.Perm.cons _ p).trans (mS e)))
noncomputable def LF(prog:Program)(w:World)(s:Shared)(S:Addr)(vs:List Value)(I:Addr)(h':Heap):Prop:=
 ∃(fp:List Addr)(St:Nat->Heap->Prop),(∀b∈fp,b=S\/s.heap.objs.size<=b)/\s.heap.objs.size<=I/\(∀b ob,s.heap.get? b=some ob->h'.get? b=some ob)/\(∀B:Around,B.handled=none->Walks prog w B I fp [I] vs.length (λi v=>vs[i]?=some v) St)/\St 0 h'
variable{o:Obj}{es:Array (Int×Value)}{t:SetTable}{ns:List Str}
def iH{Q:Bool->Shared->Prop}(h:Q (!lP w) s):wpAny (model prog w) A setsByText Q E s:=by unfold setsByText;refine z5 (Yt (z7 ?_));unfold lP at h;rw[Bool.not_not]at h;exact h
def qK:Slot "set_iterator" "__iter__" "set_iterator.__iter__":=
 .of (owner:="set_iterator") (n:="__iter__") (by rw[typeLookup_type,builtinLookup_eq_fast];kernel_rfl) (by decide +kernel) (by decide +kernel) (by decide +kernel)
  (by first|exact .inl (by decide +kernel)|exact .inr (by decide +kernel)) (by rw[isSubtype_type];kernel_rfl)
def vy:entryFor table "set_iterator.__iter__"=some Builtin.«dict_keyiterator.__iter__»:=entryFor_alias (id':="dict_keyiterator.__iter__") (by kernel_rfl) rfl (by decide +kernel) (by kernel_rfl)
def yF(a:Value):argsOk "set_iterator.__iter__" ⟨[a],[]⟩:=by unfold argsOk;kernel_rfl
def tz{i n:Nat}{Q:Value->Shared->Prop}(hi:iY s.heap I fst i S n ep)(h:Q (.ref I) s):wpAny (model prog w) A (pyIter (.ref I)) Q E s:=by
 obtain⟨r,hr,hc,_⟩:=hi;have ty:s.TypeIs (.ref I) "set_iterator":=⟨r,hr,hc⟩
 refine ZB ty qK (r9 qK ty vy ?_ (yF _));show wpAny _ _ (ret (.ref I)) _ _ s;exact z7 ⟨_,rfl,"set_iterator",_,ty,slot_sit.lookup,h⟩
def EC{pl:List Nat}(hd:o.data=.set es ep t)(hf:t.fits es.size=true)(hp:pl.Perm (List.range es.size))(B:Around)(hh:B.handled=none)(I T S:Addr)(hIT:I≠T)(hIS:I≠S):
  Walks prog w B I [I,T,S] [I] (pl.map λj=>(es.toList.map (·.2)).getD j .none).length (λi v=>(pl.map λj=>(es.toList.map (·.2)).getD j .none)[i]?=some v) (λi h=>iY h I (.ref T) i S es.size ep/\h.get? S=some o/\IsTup h T (pl.map λ(j:Nat)=>rawInt j).toArray) where
 sub:=λb hb=>by rw[wc.1 hb];exact w5 ..
 frame:=λi h h' ⟨⟨r,a,b⟩,c,⟨ot,d,e⟩⟩ k=>⟨⟨r,k I (by simp) _ a,b⟩,k S (by simp) _ c,⟨ot,k T (by simp) _ d,e⟩⟩
 item:=λi s Q E hi ⟨a,b,c⟩ hQ=>by rw[zV]at hi;have hm:pl[i]∈List.range es.size:=hp.mem_iff.1 (l6 hi);have hl:pl[i]<es.size:=nE.1 hm;refine F9 a b hd hf c (vY hi) hl λh' a' k=>hQ _ h' s.toks ?_ ⟨a',k S _ (sj hIS) b,let⟨ot,d,e⟩:=c;⟨ot,k T _ (sj hIT) d,e⟩⟩ λb ob nb q=>k b ob (λz=>nb (by rw[z];exact wc.2 rfl)) q;rw[u9,vY hi];show some (List.getD _ _ _)=_;rw[v9,u9,ZZ,je hl];rfl
 done:=λs Q E ⟨a,b,c⟩ hQ=>by rw[zV]at a;exact I9 hh a b hd hf c (o8 (z8 _)) λh' k=>hQ h' s.toks λb ob nb q=>k b ob (λz=>nb (by rw[z];exact wc.2 rfl)) q
 self:=λi s Q E ⟨a,_⟩ hQ=>tz a hQ
def xQ{vs:List Value}{fs:Nat->Nat}(hd:o.data=.set es ep t)(hf:t.fits es.size=true)(hl:vs.length=es.size)(S:Addr)(hn:∀(i:Nat)(v:Value)(s:Shared)(B:Around)(E:Value->Shared->Prop)(Q:Option (Value×Nat)->Shared->Prop),s.heap.get? S=some o->vs[i]?=some v->Q (some (v,fs (i+1))) s->wpAny (model prog w) B (setNext S (fs i) i ep) Q E s)(he:∀(s:Shared)(B:Around)(E:Value->Shared->Prop)(Q:Option (Value×Nat)->Shared->Prop),s.heap.get? S=some o->Q none s->wpAny (model prog w) B (setNext S (fs vs.length) vs.length ep) Q E s)(B:Around)(hh:B.handled=none)(I:Addr)(hIS:I≠S):
  Walks prog w B I [I,S] [I] vs.length (λi v=>vs[i]?=some v) (λi h=>iY h I (.int (fs i:Nat) 0) i S es.size ep/\h.get? S=some o) where
 sub:=λb hb=>by rw[wc.1 hb];exact w5 ..
 frame:=λi h h' ⟨⟨r,a,b⟩,c⟩ k=>⟨⟨r,k I (by simp) _ a,b⟩,k S (by simp) _ c⟩
 item:=λi s Q E hi ⟨a,b⟩ hQ=>by have e:=vY hi;refine Ie (x:=vs[i]) (j:=fs (i+1)) a b hd hf (λ{B E Q} q=>by rw[si];exact hn i _ s B E Q b e q) λh' a' k=>hQ _ h' s.toks e ⟨a',k S _ (sj hIS) b⟩ λb ob nb q=>k b ob (λz=>nb (by rw[z];exact wc.2 rfl)) q
 done:=λs Q E ⟨a,b⟩ hQ=>Jw hh a b hd hf (λ{B E Q} q=>by rw[si];exact he s B E Q b q) λh' k=>hQ h' s.toks λb ob nb q=>k b ob (λz=>nb (by rw[z];exact wc.2 rfl)) q
 self:=λi s Q E ⟨a,_⟩ hQ=>tz a hQ
def qw{i f:Nat}{Q:Option (Value×Nat)->Shared->Prop}(hL:lP w=false)(hs:s.heap.get? S=some o)(hd:o.data=.set es ep t)(hf:t.fits es.size=true)(h:Q ((((pickOrder (w.params.setOrder S ep) es).toList.map (·.2))[i]?).map λv=>(v,f)) s):wpAny (model prog w) A (setNext S f i ep) Q E s:=by
 unfold setNext;refine z5 (bY hs hd hf ?_);dsimp only;refine z5 (iH ?_);rw[hL,if_pos (by rfl),if_neg (by simp)];unfold setWalk;refine z5 (z5 (bY hs hd hf ?_));dsimp only;refine z5 (iH ?_);rw[hL,if_pos (by rfl)];refine z5 (Yt (z7 (z7 ?_)));rw[u9,ZZ,Option.map_map]at h;exact h
def ud{i f:Nat}{Q:Option (Value×Nat)->Shared->Prop}(hL:lP w=true)(hs:s.heap.get? S=some o)(hd:o.data=.set es ep t)(hf:t.fits es.size=true)(hz:es.size<=1)(ld:t.led=true)(h:Q (match es[SetTable.below t.place f]?,t.place[SetTable.below t.place f]? with|some (_,x),some j=>some (x,j+1)|_,_=>none) s):wpAny (model prog w) A (setNext S f i ep) Q E s:=by
 unfold setNext;refine z5 (bY hs hd hf ?_);dsimp only;refine z5 (iH ?_);rw[hL,if_neg (by decide)];have d0:(!t.plain && decide (es.size > 1))=false:=by rw[t6 (by omega),d9]
 refine Y0 (λz=>absurd (show(!t.plain && decide (es.size > 1))=true from z) (by rw[d0];decide)) λ_=>?_;have l0:(!t.led && !es.isEmpty)=false:=by rw[ld];rfl
 refine z5 ?_;show wpAny _ _ (if (!t.led && !es.isEmpty)=true then _ else _) _ _ _;rw[l0,if_neg (by decide)];exact z7 (z7 h)
end
section
variable{prog:Program}{w:World}{A:Around}{S I T:Addr}{o:Obj}{es:Array (Int×Value)}{t:SetTable}{ns:List Str}
def GW(xs:Array Nat):SetTable.below xs 0=0:=by
 unfold SetTable.below;have:∀n hi,SetTable.below.go xs 0 n 0 hi=0:=λn=>by
  induction n with
  |zero=>intro hi;rfl
  |succ n ih=>
   intro hi;unfold SetTable.below.go;split;·dsimp only;rw[if_neg (by omega)];exact ih _
   ·rfl
 exact this _ _
def Ht(p:Nat):SetTable.below #[p] (p+1)=1:=by unfold SetTable.below;simp[SetTable.below.go]
def AL{Q:Value->Shared->Prop}(hs:s.heap.get? S=some o)(hc:o.cls=.type "set")(hd:o.data=.set es ep t)(J:SetJ prog w (lP w) es t ns)(h0:0<es.size)(hz:es.size<=1000)(h:∀vs I h' d',vs.Perm (es.toList.map (·.2))->LF prog w s S vs I h'->Q (.ref I) { s with heap:=h',drawn:=d' }):wpAny (model prog w) A (pyIter (.ref S)) Q E s:=by
 have ty:s.TypeIs (.ref S) "set":=⟨o,hs,hc⟩
 have hSl:=xi hs;refine ZB ty PySem.F.slot_set_iter (r9 PySem.F.slot_set_iter ty pP ?_ (PySem.F.args_set_iter_1 _));unfold Builtin.«frozenset.__iter__» Builtin.Frozenset.slot0 Builtin.Frozenset.sizeOf;generalize hSD:setDrawn=SD;generalize hSE:setEpoch=SE
 wp_walk using Zi hs hd J.fit
 subst hSD hSE;have pl0:=J.pl h0;unfold setDrawn;refine z5 (bY hs hd J.fit ?_);dsimp only;refine z5 (iH (z7 ?_));have vl:(es.toList.map (·.2)).length=es.size:=by simp
 have push2:∀{a b:Obj}{c:Addr}{ob:Obj},s.heap.get? c=some ob->((s.heap.push a).push b).get? c=some ob:=λe=>z9 _ (z9 _ e);by_cases c:lP w=true/\1<es.size
 ·have e1:(!(!lP w) && (!t.plain && decide (es.size > 1)))=true:=by rw[c.1,pl0,sS c.2];rfl
  show wpAny _ _ (if (!(!lP w) && (!t.plain && decide (es.size > 1)))=true then _ else _) _ _ _;rw[e1,if_pos rfl];refine z5 (wK es.size (List.range es.size) (by simp) λpl d p=>?_);have pz:pl.length=es.size:=by rw[p.length_eq];simp
  refine z5 (wpAny_newTuple ?_ (by rw[zV,pz];exact w6 hz (by decide)));refine z5 (wpAny_setEpoch_of (z9 _ hs) hd J.fit ?_);refine z5 (o5 (z7 ⟨_,rfl,"set_iterator",_,⟨_,v7 _ rfl,rfl⟩,slot_sit.lookup,h (pl.map λj=>(es.toList.map (·.2)).getD j .none) _ _ d ?_ ?_⟩));·refine(p.map _).trans (List.Perm.of_eq ?_);refine List.ext_getElem (by simp) λi h1 h2=>?_;simp at h1;simp[h1]
  ·have sz:(s.heap.push { cls:=.type "tuple",data:=.seq (pl.map λ(i:Nat)=>rawInt i).toArray }).objs.size=s.heap.objs.size+1:=n4 ..;have n1:(s.heap.push { cls:=.type "tuple",data:=.seq (pl.map λ(i:Nat)=>rawInt i).toArray }).objs.size≠s.heap.objs.size:=by rw[sz];exact pZ (g8 _)
   have n2:(s.heap.push { cls:=.type "tuple",data:=.seq (pl.map λ(i:Nat)=>rawInt i).toArray }).objs.size≠S:=by rw[sz];exact pZ (Zc hSl)
   refine⟨[_,s.heap.objs.size,S],_,λb hb=>?_,?_,λb ob e=>push2 e,λB hh=>EC hd J.fit p B hh _ s.heap.objs.size S n1 n2,⟨_,v7 _ rfl,rfl,rfl⟩,push2 hs,⟨_,z9 _ (v7 _ rfl),rfl,_,rfl⟩⟩
   ·simp only[y9,ic,n5]at hb;rcases hb with rfl|rfl|rfl;·right;rw[sz];exact qO _
    ·exact .inr (z8 _)
    ·exact .inl rfl
   ·rw[sz];exact qO _
 ·have e1:(!(!lP w) && (!t.plain && decide (es.size > 1)))=false:=by
   cases q:lP w with
   |false=>rfl
   |true=>rw[t6 (λz=>c ⟨q,z⟩),d9];rfl
  show wpAny _ _ (if (!(!lP w) && (!t.plain && decide (es.size > 1)))=true then _ else _) _ _ _;rw[e1,if_neg sP];refine z5 (z7 (z5 (wpAny_setEpoch_of hs hd J.fit ?_)));have n2:s.heap.objs.size≠S:=pZ hSl;have fpk:∀b∈[s.heap.objs.size,S],b=S\/s.heap.objs.size<=b:=λb hb=>by
   simp only[y9,ic,n5]at hb;rcases hb with rfl|rfl;·exact .inr (z8 _)
   ·exact .inl rfl
  cases q:lP w with
  |false=>have pv:((pickOrder (w.params.setOrder S ep) es).toList.map (·.2)).Perm (es.toList.map (·.2)):=(xw _ es).map _;refine z5 (o5 (z7 ⟨_,rfl,"set_iterator",_,⟨_,v7 _ rfl,rfl⟩,slot_sit.lookup,h ((pickOrder (w.params.setOrder S ep) es).toList.map (·.2)) _ _ s.drawn pv ?_⟩));refine⟨[s.heap.objs.size,S],_,fpk,z8 _,λb ob e=>z9 _ e,λB hh=>xQ (fs:=λ_=>0) hd J.fit (by rw[pv.length_eq];exact vl) S (λi v s B E Q g e hq=>qw q g hd J.fit (by rw[e];exact hq)) (λs B E Q g hq=>qw q g hd J.fit (by rw[o8 (z8 _)];exact hq)) B hh _ n2,⟨_,v7 _ rfl,rfl,rfl⟩,z9 _ hs⟩
  |true=>
   have z1:es.size=1:=by have : ¬ 1<es.size:=λz=>c ⟨q,z⟩;omega
   have ld:t.led=true:=by rw[J.ld];exact q
   obtain⟨p0,hp0⟩:∃p0,t.place = #[p0]:=by have f:=J.fit;simp only[SetTable.fits,u8,Zj,se]at f;exact Array.size_eq_one_iff.1 (by rw[f.1,z1])
   refine z5 (o5 (z7 ⟨_,rfl,"set_iterator",_,⟨_,v7 _ rfl,rfl⟩,slot_sit.lookup,h (es.toList.map (·.2)) _ _ s.drawn (ZY _) ?_⟩));refine⟨[s.heap.objs.size,S],_,fpk,z8 _,λb ob e=>z9 _ e,λB hh=>xQ (fs:=λi=>match i with|0=>0|_+1=>p0+1) hd J.fit vl S (λi v s B E Q g e hq=>?_) (λs B E Q g hq=>?_) B hh _ n2,⟨_,v7 _ rfl,rfl,rfl⟩,z9 _ hs⟩
   ·have i0:i=0:=by have:=(tj.1 e).1;rw[vl,z1]at this;omega
    subst i0;refine ud q g hd J.fit (by omega) ld ?_;dsimp only;rw[GW,hp0];rw[u9,ZZ]at e;cases e0:es[0]? with
    |none=>rw[e0]at e;cases e
    |some y=>rw[e0]at e;cases e;exact hq
   ·rw[vl,z1];refine ud q g hd J.fit (by omega) ld ?_;dsimp only;rw[hp0,Ht,Z9 (by omega)];exact hq
end
section
variable{prog:Program}{w:World}{A:Around}{S:Addr}{o:Obj}{es:Array (Int×Value)}{t:SetTable}{ns:List Str}
def BE{Q:Bool->Shared->Prop}(hT:s.TypeIs (.ref S) "set")(h:Q false s):wpAny (model prog w) A (Builtin.List.listLengthHint (.ref S)) Q E s:=by
 unfold Builtin.List.listLengthHint;refine z5 (j8 hT PySem.F.slot_set_len.lookup ?_);generalize hid:("set.__len__":String)=id0
 wp_delta
 rw[show splitId id0=some ("set","__len__") from by subst hid;decide +kernel];subst hid;refine z5 (ZP (T:="set") (b:=true) hT (by rw[isSubtype_type];kernel_rfl) ?_);refine Y0 (λhab=>absurd hab (by decide)) (λ_=>?_);refine Y0 (λ_=>?_) (λhab=>absurd (by decide +kernel) hab);exact z5 (iD hT (z7 h))
def vf{R:Result->Shared->Prop}(hh:A.handled=none)(hs:s.heap.get? S=some o)(hc:o.cls=.type "set")(hd:o.data=.set es ep t)(J:SetJ prog w (lP w) es t ns)(h0:0<es.size)(hz:es.size<=1000){L:Addr}(hLS:L≠S)(res:Value)(hL:s.heap.get? L=some { cls:=.type "list",data:=.seq #[] })(hR:∀h' tk d' (vs:List Value) c',vs.Perm (es.toList.map (·.2))->(∀b ob,b≠L->s.heap.get? b=some ob->h'.get? b=some ob)->h'.get? L=some { cls:=.type "list",dict:=none,data:=.seq vs.toArray c',slots:=#[] }->R (.ok (.ret res)) { s with heap:=h',toks:=tk,drawn:=d' }):
  wpAny (model prog w) A.in1 (Builtin.List.listExtendWith (.ref L) (.ref S) res)
   (λfin s'=>match fin with|.done f=>R (.ok f) s'|.again c'=>c'.quiet=true/\codeAny (model prog w) A c' R s') (λe s'=>R (.error e) s') s:=by
 have vl:(es.toList.map (·.2)).length=es.size:=by simp
 unfold Builtin.List.listExtendWith;refine z5 (iD (T:="set") ⟨o,hs,hc⟩ ?_);have h1:Builtin.List.listSameRef (.ref L) (.ref S)=false:=by simp[Builtin.List.listSameRef,hLS]
 have h2:(Value.type "set"==Value.type "list")=false:=by decide
 have h3:(Value.type "set"==Value.type "tuple")=false:=by decide
 simp only[h1,h2,h3,d4,rW,t5];refine z5 (AL hs hc hd J h0 hz λvs I h' d' pv ⟨fp,St,fk,hI,kp,W,st⟩=>?_);have pl:vs.length=es.size:=by rw[pv.length_eq];exact vl
 have hLl:=xi hL;have hLf:L∉fp:=λhm=>by
  rcases fk L hm with z|z;·exact hLS z
  ·exact absurd hLl (sT.2 z)
 have hh2:A.in1.handled=none:=hh;have key:∀(h2:Heap)(c₁ tk:Nat),St 0 h2->(∀b ob,b≠L->h'.get? b=some ob->h2.get? b=some ob)->h2.get? L=some { cls:=.type "list",data:=.seq #[] c₁ }->
   codeAny (model prog w) A (.builtin "list.extend.loop" ⟨[.ref L,.ref I,res],[]⟩) R { s with heap:=h2,toks:=tk,drawn:=d' }:=λh2 c₁ tk st2 k2 g2=>by
  refine codeAny_extend_loopS (W A.in1 hh2).toS (by rw[pl];exact w6 hz (by decide)) L hLf res vs.length 0 _ #[] c₁ rfl (v8 _) st2 g2 (ItemsOf.nil _) λs' acc' c' m g' ac=>?_;rw[Moved.eq_with m];have e:acc'=vs.toArray:=by
   have el:acc'.toList=vs:=Yu λi=>by
    by_cases hi:i<acc'.size;·have:=ac.2 i acc'[i] (je hi);rw[this,ZZ,je hi]
    ·have z:=ac.1;rw[o8 (by rw[qY];omega),o8 (by omega)]
   rw[<- el,Zf]
  rw[e]at g';refine hR s'.heap s'.toks d' vs c' pv (λb ob nb q=>m.heap b ob (λhm=>?_) (k2 b ob nb (kp b ob q))) g';rcases y9.1 hm with z|z;·exact nb z
  ·rw[wc.1 z]at q;exact absurd (xi q) (sT.2 hI)
 have gL:=kp L _ hL;refine z5 (q9 (BE ⟨o,kp S _ hs,hc⟩ ?_));refine Y0 (λ_=>?_) λ_=>z7 ⟨k9 PySem.F.plain_extend_loop _,key _ _ _ st (λb ob _ e=>e) gL⟩;refine z5 (ji (z5 ?_));show wpAny _ _ (updateSeq L (·.push .none)>>=λ_=>updateSeq L (·.pop)) _ _ _;refine z5 (bH gL rfl ?_);have g2:=mf (Obj.mapSeq (·.push Value.none)) gL rfl;refine bH (hz:=by seq_fits) g2 rfl ?_;have g3:=mf (Obj.mapSeq (·.pop)) g2 rfl;have oth:∀b ob,b≠L->h'.get? b=some ob->((h'.update L (Obj.mapSeq (·.push Value.none))).update L (Obj.mapSeq (·.pop))).get? b=some ob:=λb ob nb e=>(Zt _ _ (sj nb)).trans ((Zt _ _ (sj nb)).trans e);exact z7 ⟨k9 PySem.F.plain_extend_loop _,key _ _ _ ((W A.in1 hh2).frame 0 _ _ st λb hb ob e=>oth b ob (λz=>hLf (z▸hb)) e) oth g3⟩
end
end L2
namespace L2
open PySem PySem.Spec PyProof.Rows PySem.W Q21
theorem uE:∀{a b:List Nat},a.Pairwise (· < ·)->b.Pairwise (· < ·)->(∀c,c∈a ↔ c∈b)->a=b
 | [],[],_,_,_=>rfl
 | [],y::b,_,_,h=>(nomatch (h y).2 (w5 ..))
 |x::a,[],_,_,h=>(nomatch (h x).1 (w5 ..))
 |x::a,y::b,ha,hb,h=>by
  rw[Zk]at ha hb;have e:x=y:=by
   rcases y9.1 ((h x).1 (w5 ..))with q|q;·exact q
   ·rcases y9.1 ((h y).2 (w5 ..))with r|r;·exact r.symm
    ·have:=hb.1 x q;have:=ha.1 y r;omega
  subst e;rw[uE ha.2 hb.2 λc=>?_];constructor
  ·intro m;rcases y9.1 ((h c).1 (w9 _ m))with q|q;·have:=ha.1 c m;omega
   ·exact q
  ·intro m;rcases y9.1 ((h c).2 (w9 _ m))with q|q;·have:=hb.1 c m;omega
   ·exact q
theorem yC{c:Nat}:∀{l:List Nat},l.Pairwise (· < ·)->(wl c l).Pairwise (· < ·)
 | [],_=>List.pairwise_singleton ..
 |d::l,h=>by
  have h':=Zk.1 h;unfold wl;split;·rename_i q;exact Zk.2 ⟨λe m=>(y9.1 m).elim (λz=>z▸q) λz=>Nat.lt_trans q (h'.1 e z),h⟩
  ·split;·exact h
   ·exact Zk.2 ⟨λe m=>(mem_ins.1 m).elim (λz=>by omega) (h'.1 e),yC h'.2⟩
theorem uL:∀x:List Nat,(aH x).Pairwise (· < ·)
 | []=>.nil
 |c::x=>yC (uL x)
def one(c:Nat):Str:=⟨#[c]⟩
theorem yp:∀{p:Nat}{cs:List Nat},risingS (one p) (cs.map one)=true->∀c∈cs,p<=c
 |p,[],_,c,m=>(nomatch m)
 |p,d::cs,h,c,m=>by
  have h:(!ltCps [d] [p] && risingS (one d) (cs.map one))=true:=h;rw[u8,ltCps_eq]at h;have pd:p<=d:=by have:=h.1;simp only[Bool.not_eq_true',Yv]at this;exact iN λz=>this (List.Lex.rel z)
  rcases y9.1 m with rfl|m;·exact pd
  ·exact w6 pd (yp h.2 c m)
theorem BU:∀{cs:List Nat},sortedS (cs.map one)=true->cs.Nodup->cs.Pairwise (· < ·)
 | [],_,_=>.nil
 |p::cs,h,n=>by
  have n:=qZ.1 n;refine Zk.2 ⟨λc m=>Nat.lt_of_le_of_ne (yp h c m) λz=>n.1 (z▸m),BU ?_ n.2⟩;cases cs with
  |nil=>rfl
  |cons d cs=>have h:(!ltCps [d] [p] && risingS (one d) (cs.map one))=true:=h;rw[u8]at h;exact h.2
def xP{ss:List Str}(hp:ss.Perm (gP (fF x) x.cps.size))(nd:(gP (fF x) x.cps.size).Nodup)(so:sortedS ss=true):ss=(aH x.cps.toList).map one:=by
 have mem:∀y,y∈ss ↔ ∃j,j<x.cps.size/\fF x j=y:=λy=>hp.mem_iff.trans (oF _ _);obtain⟨cs,e⟩:∃cs:List Nat,ss=cs.map one:=⟨ss.map λy=>y.cps.getD 0 0,by rw[p7];refine(List.map_id ss).symm.trans (l7 λy m=>?_);obtain⟨j,_,rfl⟩:=(mem y).1 m;rfl⟩
 subst e
 congr 1
 refine uE (BU so ?_) (uL _) λc=>?_;·have:=(hp.nodup_iff).2 nd;exact(List.pairwise_map.1 this).imp λ{a b} h (e:a=b)=>h (e▸rfl)
 ·rw[mem_sort];have q:c∈cs ↔ one c∈cs.map one:=⟨λm=>s8.2 ⟨c,m,rfl⟩,λm=>by
   obtain⟨d,md,e⟩:=s8.1 m;have:d=c:=by simpa[one]using e
   exact this▸md⟩
  rw[q,mem];constructor
  ·rintro ⟨j,hj,e⟩;have:x.cps.getD j 0=c:=by simpa[fF,one]using e
   rw[<- this,YO,je hj];exact Array.getElem_mem_toList hj
  ·intro m;obtain⟨j,hj,e⟩:=List.getElem_of_mem m;rw[qY]at hj;refine⟨j,hj,?_⟩;unfold fF one;rw[YO,je hj];simp only[Array.getElem_toList]at e;rw[e];rfl
section
variable{prog:Program}{w:World}{A:Around}{S:Addr}
def AM{Q:Value->Shared->Prop}(hh:A.handled=none)(h0:0<x.cps.size)(hz:x.cps.size<=60)(hT:Fk prog w (lP w) S (newS w) (gP (fF x) x.cps.size) s.heap)(h:∀D h' tk d' (out:Array Value) c,s.heap.objs.size<=D->(∀b ob,s.heap.get? b=some ob->h'.get? b=some ob)->h'.get? D=some (seqObj "list" out c)->StrsAre out.toList ((aH x.cps.toList).map one)->Q (.ref D) { s with heap:=h',toks:=tk,drawn:=d' }):
  wpAny (model prog w) A (call (.builtin "sorted") [.ref S]) Q E s:=by
 obtain⟨es,ep,t,g,J⟩:=hT;have sz:es.size=(gP (fF x) x.cps.size).length:=by rw[<- J.nm.length_eq];simp[nmS]
 have sl:=ny (fF x) x.cps.size;have s0:0<es.size:=by rw[sz];exact List.length_pos_of_mem ((oF (fF x) x.cps.size).2 ⟨0,h0,rfl⟩)
 refine Calls.call_function_entry kind_sorted plain_sorted entry_sorted (args_sorted1 _) ?_;unfold Builtin.sorted;refine z5 (Zg (show checkCount "sorted" 1 1 1=pure () from rfl) ?_);have hS:=xi g;refine z5 ?_;unfold collect;refine z5 (wpAny_runValue (k8 entry_proto_collect' ?_));rw[ib PySem.F.plain_proto_collect _];show wpAny _ A.in1.in1 (newList []>>=λl=>again (.builtin "list.__iadd__" ⟨[l,.ref S],[]⟩)) _ _ s;refine z5 (o5 (z7 ⟨k9 PySem.F.plain_list_iadd _,k8 entry_list_iadd' ?_⟩));rw[ib PySem.F.plain_list_iadd _];show wpAny _ A.in1.in1 (Builtin.List.listExtendWith (.ref s.heap.objs.size) (.ref S) (.ref s.heap.objs.size)) _ _ _;have key:=vf (A:=A.in1) (s:={ s with heap:=s.heap.push { cls:=.type "list",data:=.seq ([]:List Value).toArray } })
  (R:=λ(q:Result) (s':Shared)=>∃(h':Heap)(tk:Nat)(d':Drawn)(vs:List Value)(c':Nat),q=.ok (.ret (.ref s.heap.objs.size))/\s'={ s with heap:=h',toks:=tk,drawn:=d' }/\vs.Perm (es.toList.map (·.2))/\
   (∀b ob,s.heap.get? b=some ob->h'.get? b=some ob)/\h'.get? s.heap.objs.size=some { cls:=.type "list",dict:=none,data:=.seq vs.toArray c',slots:=#[] })
  hh (z9 _ g) rfl rfl J s0 (by omega) (pZ hS) (.ref s.heap.objs.size) (v7 _ rfl)
  (λh' tk d' vs c' pv k g'=>⟨h',tk,d',vs,c',rfl,rfl,pv,λb ob e=>k b ob (t9 (xi e)) (z9 _ e),g'⟩);have fin:∀(h':Heap)(tk:Nat)(d':Drawn)(vs:List Value)(c':Nat),vs.Perm (es.toList.map (·.2))->(∀b ob,s.heap.get? b=some ob->h'.get? b=some ob)->h'.get? s.heap.objs.size=some { cls:=.type "list",dict:=none,data:=.seq vs.toArray c',slots:=#[] }->
   wpAny (model prog w) A.in1 (newList vs>>=λl=>holding [l] (call (.builtin "list.sort") [l])>>=λ_=>ret l) (λfin s'=>∃v,fin=.done (.ret v)/\Q v s') E { s with heap:=h',toks:=tk,drawn:=d' }:=λh' tk d' vs c' pv k g'=>by
  have vl:vs.length=es.size:=by rw[pv.length_eq];simp
  refine z5 (wpAny_newList ?_ (by rw[vl];exact w6 (show es.size<=60 by omega) (by decide)));have st:StrsAre vs (vs.map strOf):=strsAre_map vs λv m=>by obtain⟨e,me,rfl⟩:=s8.1 (pv.mem_iff.1 m);exact ye J.el me
  have gD:(h'.push (seqObj "list" vs.toArray 0)).get? h'.objs.size=some (seqObj "list" vs.toArray 0):=v7 _ rfl;refine z5 (q9 (r9 slot_list_sort ⟨_,gD,rfl⟩ entry_list_sort (list_sort_treeK strKind_oneLt gD st.keysOf (λv₁ v₂ bQ e=>keyKind_strs (by rw[<- e];exact st)) (by omega) λst' a1 a2=>⟨_,rfl,?_⟩) (args_list_sort _)));obtain⟨ss,h1,h2,h3⟩:=sorted_out_str st a1 a2;have hp:ss.Perm (gP (fF x) x.cps.size):=by refine h2.trans ((pv.map strOf).trans ?_);rw[p7];exact J.nm
  have e:=xP hp J.nd h3;subst e;obtain⟨c,gc⟩:=sortedHeap_at (out:=(arrOf st').map (·.2)) gD;refine z7 ⟨_,rfl,h h'.objs.size _ tk d' _ c ?_ (λb ob q=>?_) gc h1⟩;·exact ik (xi g')
  ·have q2:=k b ob q;rw[sortedHeap_old (t9 (xi q2)) (by rw[size_push'];exact Zc (xi q2))];exact z9 _ q2
 refine t7 key (λf s' q=>?_) λe s' q=>?_
 ·cases f with
  |done f=>obtain⟨h',tk,d',vs,c',e,rfl,pv,k,g'⟩:=q;cases e;show wpAny _ A.in1 (load s.heap.objs.size>>=_) _ _ _;exact z5 (wpAny_load g' (z7 (fin h' tk d' vs c' pv k g')))
  |again c₁=>refine⟨q.1,j7 q.2 λr s₂ y=>?_⟩;obtain⟨h',tk,d',vs,c',rfl,rfl,pv,k,g'⟩:=y;show wpAny _ A.in1 (load s.heap.objs.size>>=_) _ _ _;exact z5 (wpAny_load g' (z7 (fin h' tk d' vs c' pv k g')))
 ·obtain⟨_,_,_,_,_,e,_⟩:=q;cases e
end
def BQ(K:PySem.W.Frag):ROk K (IW K false) eqF:=by
 intro G H x y dx dy d Q s rx ry e q;unfold eqF at e;cases e1:eqD 40 dx dy with
 |none=>rw[e1]at e;cases e
 |some k=>rw[e1]at e;cases e;exact⟨G,dx,dy,k,s,rx,ry,e1,q _ G H (.refl s) (.bl k)⟩
def D7{a b c:Expr}{ga gc:Ev->R D}(hu:X.A.units+64<cLine)(ha:PF X a ga)(hb:PF X b gb)(hc:PF X c gc)(hm:lastMarks [.Eq,.Eq] [b,c]=false:=by with_unfolding_all rfl):PF X (.Compare a [.Eq,.Eq] [b,c] pos) (g3 eqF eqF ga gb gc):=ul (tI hu) (tI hu) (BQ _) (BQ _) ha hb hc hm
def B5(K:PySem.W.Frag):V->List V->Hp->VK->Prop:=λx vs H Q=>∃(y:Str)(p:Addr)(ys:List Str),x=.str y/\vs=[.ref p]/\SqT K H p (ys.map V.str)/\(ys.map (·.length)).sum+ys.length * y.length<=16777216/\Q (.str (Txt.join y ys)) H
def BH:MtR X "str.join" (B5 X.K):=by intro pins s σ H x xs v us Q I rx rv ⟨y,p,ys,ex,exs,hl,hz,q⟩;subst ex exs;obtain⟨t,rfl⟩:=rx;obtain⟨u,rfl,r1⟩:=rv.one;cases r1;obtain⟨its,rvs,pl,_⟩:=I.tuple hl;exact join_tuple pl (Vals.strs (by simpa using rvs)) hz λt' k=>⟨.str _,H,I.tok _,⟨_,rfl⟩,q⟩
def zL(K:PySem.W.Frag):IX K "str" (B5 K) pS:=by
 intro G H x xs dx ds d Q s rx rs e q;unfold pS at e;split at e
 ·unfold qJ at e;dsimp only at e;split at e
  ·rename_i zs hz;split at e
   ·rename_i hle;cases e;obtain⟨v,rfl,r1⟩:=rs.one;obtain⟨y,rfl,ey,hy⟩:=rx.str_inv;obtain⟨a,vs,rfl,hs,rr⟩:=r1.tup_inv;obtain⟨ys,e1,e2⟩:=rr.strs hz;subst e1;subst e2;subst ey;have hle':(ys.map (·.length)).sum+ys.length * y.length<=16777216:=by
     have e3:(ys.map λy=>y.cps.toList).map List.length=ys.map (·.length):=by rw[p7];exact l7 λz _=>Str.len_list z
     rw[e3,zV,Str.len_list]at hle;exact hle
    refine⟨y,a,ys,rfl,rfl,hs.mono s,hle',q _ G H (.refl s) (.strL (jx y ys) ?_)⟩;exact w6 (fJ _ _) hle
   ·cases e
  ·cases e
 ·cases e
def El{o e:Expr}{ga:Ev->R D}{ap cp:Pos}(ho:PF X o ga)(ha:PFA X [e] gl)(hbase:attributeBase o "join" X.env (eval o X.env)=eval o X.env:=by rfl)(hfew:((backTo cp (starEach [e] X.env)).all (λx=>!x.1) && (backToKw cp (keywordEach [] X.env)).all (λx=>x.1.isSome)
 && decide ([e].length+([]:List Keyword).length+(if ([]:List Keyword).isEmpty then 0 else 1)<30))=true:=by rfl)(hline:(ap.endLine==cp.line)=true:=by rfl)(hs:starEach [e] X.env=(false,eval e X.env)::starEach [] X.env:=by rfl):
  PF X (.Call (.Attribute o "join" ap) [e] [] cp) (nr "str" pS ga gl):=sA Yl PySem.F.slot_str_join PySem.F.type_str_join BH (zL _) ho ha hbase hfew hline hs rfl
section
def F0(P:Program)(w:World)(l:Addr)(x:Str):Heap->Prop:=Fk P w (lP w) l (newS w) (gP (fF x) x.cps.size)
def JO(X:Cx):List V->Hp->VK->Prop:=λxs H Q=>∃x:Str,xs=[.str x]/\x.cps.size<=60/\∀l,H l=none->Q (.ref l) (upd H l (.ext (F0 X.prog X.w l x)))
def xM(hc:X.calm=true):jf X (.type "set") (JO X):=by intro pins s σ H xs us Q I r ⟨x,ex,hz,hQ⟩;subst ex;obtain⟨u,rfl,rx⟩:=uX r;obtain⟨t,rfl⟩:=rx;refine nH (I.ok.hd hc) (by show x.cps.size+1<4096;omega) λh' tk T hk=>?_;refine⟨.ref s.heap.objs.size,_,I.laid (t':=tk) (o:=.ext (F0 X.prog X.w s.heap.objs.size x)) (λb ob e=>hk b ob (xi e) e) (z8 _) ⟨T,let⟨_,_,_,g,_⟩:=T;⟨_,g⟩,λg1 g2 ⟨es,ep,t,g,J⟩ k=>⟨es,ep,t,k _ g,J⟩⟩,rfl,hQ _ (I.hok.fresh (z8 _))⟩
def GI(X:Cx):List V->Hp->VK->Prop:=λxs H Q=>∃l x,xs=[.ref l]/\H l=some (.ext (F0 X.prog X.w l x))/\0<x.cps.size/\x.cps.size<=60/\∀p,H p=none->Q (.ref p) (upd H p (.lst (((aH x.cps.toList).map one).map .str)))
theorem pM:∀{vs:List Value}{ss:List Str},StrsAre vs ss->Vals (ss.map .str) vs
 |_,_,.nil=>.nil
 |_,_,.cons y t h=>.cons ⟨t,rfl⟩ (pM h)
theorem uc:∀x:List Nat,(aH x).length<=x.length
 | []=>z8 _
 |c::x=>by
  have ins:∀(c:Nat)(l:List Nat),(wl c l).length<=l.length+1:=λc l=>by
   induction l with
   |nil=>exact z8 _
   |cons d l ih=>
    unfold wl;split;·exact z8 _
    ·split;·exact qO _
     ·exact Zl ih
  exact w6 (ins c (aH x)) (Zl (uc x))
def vm(hc:X.calm=true):jf X (.builtin "sorted") (GI X):=by
 intro pins s σ H xs us Q I r ⟨l,x,ex,hl,h0,hz,hQ⟩;subst ex;obtain⟨u,rfl,rx⟩:=uX r;cases rx;refine AM (I.ok.hd hc) h0 hz (I.hok l _ hl).1 λD h' tk d' out c hD hk gD st=>?_;have hn:=I.hok.fresh hD;have ln:(((aH x.cps.toList).map one).map V.str).length<=sizeLine:=by rw[zV,zV];have:=uc x.cps.toList;rw[qY]at this;exact w6 (w6 this hz) (by decide)
 have new:ObjOk X.prog X.w (upd H D (.lst (((aH x.cps.toList).map one).map .str))) h' D (.lst (((aH x.cps.toList).map one).map .str)):=⟨ln,out.toList,c,pM st,by rw[Zf];exact gD⟩
 exact⟨.ref D,_,I.call' (s':={ s with heap:=h',toks:=tk,drawn:=d' }) (ch:=[]) rfl (Un.laid hk hD hn) (I.hok.laid hk hD new) I.bare (λb hb=>(nomatch hb)),rfl,hQ D hn⟩
theorem tO{K:PySem.W.Frag}{G:Hp}:∀cs:List Nat,Reps K G ((cs.map one).map .str) (cs.map λc=>.str [c])
 | []=>.nil
 |c::cs=>.cons (.str (one c) (by show 1<=sizeLine;decide)) (tO cs)
def yt{e:Expr}{p2 pos2:Pos}(hc:X.calm=true)(hm:X.mg "sorted"=none)(hm2:X.mg "set"=none)(ha:PFA X [e] gl)(hg:Gl X "sorted":=by rfl)(hg2:Gl X "set":=by rfl)(he:starEach [e] X.env=(false,eval e X.env)::starEach [] X.env:=by rfl)(he2:starEach [.Call (.Name "set" p2) [e] [] pos2] X.env=(false,eval (.Call (.Name "set" p2) [e] [] pos2) X.env)::starEach [] X.env:=by rfl):
  PF X (.Call (.Name "sorted" p) [.Call (.Name "set" p2) [e] [] pos2] [] pos) (gOf jV gl):=by
 intro pins s σ H Q I h;refine nW (vm hc) hg hm PyProof.Rows.Boot.«sorted» (bT (iV (xM hc) hg2 hm2 PyProof.Rows.Boot.«set» ha (by decide) (by decide) he rfl) gh he2) (by decide) (by decide) he2 rfl pins s σ H Q I ?_;obtain⟨G,ρ,st,h⟩:=h;refine tG.intro st h λds vs G1 H1 u1 st1 r1 h1=>?_;unfold jV at h1;split at h1
 ·split at h1
  ·rename_i x hx;obtain⟨v,rfl,r2⟩:=r1.one;obtain⟨y,rfl,ey,hy⟩:=r2.str_inv;subst ey;rw[qY]at hx;refine⟨y,rfl,hx.2,λl hl=>?_⟩;have sub:Same G1 (upd H1 l (.ext (F0 X.prog X.w l y))):=λa o q=>by rw[au (aj (st1.sub a o q) hl)];exact st1.sub a o q
   refine⟨l,y,rfl,ay,hx.1,hx.2,λp hp=>?_⟩;have u2:Up G1 H1 G1 (upd H1 l (.ext (F0 X.prog X.w l y))):=⟨sub,.refl _,.into hl,λ_ _ z=>.inl z⟩
   refine h1 _ _ _ (u2.trans (.new sub hp)) (.lst ay (tO _))
  ·exact h1.elim
 ·exact h1.elim
end
def Fun.okF2{w:World}{K:PySem.W.Frag}{mg:Str->Option Value}{base:Heap}{st:Stmt}{N:List Str}(F:Fun K x qual st f fd)(S:FnScope N ps (ah st)){g:Ev->O}(hd:bu st=body)(hb:∀(cdv:Value)(A:Around)(outer:List Env)(s:Shared)(H:Hp)(E:XK),Room k (A.deeper (envOfC qual (ah st) s.heap.objs.size f cdv))->lR (fE (CXo P w) P w K mg base N qual (ah st) f cdv A outer s H E) body g):
  FnF P w K mg base (k+1) f fd ps (λds=>ao (g (ak N.length ds))):=by subst hd;exact F.okF S hb
end L2
namespace Q
open L2
open PySem (sizeLine Addr)
def Ll:List Nat->D->D->Option D
 | [],_,v=>some v
 |k::ks,.tup xs,v=>match xs[k]? with
  |some x=>if xs.length<=1000 then (Ll ks x v).map λy=>.tup (xs.take k++[y]++xs.drop (k+1))else none
  |none=>none
 |_,_,_=>none
def GY:List D->Option (List Nat)
 | []=>some []
 |.int i::ds=>if 0<=i then (GY ds).map (i.toNat::·)else none
 |_::_=>none
def Lh(n:Nat):List D->R D
 | [d,.tup p,v]=>match GY p with
  |some ks=>if ks.length<n/\n<=500 then ofO (Ll ks d v)else .no
  |none=>.no
 |_=>.no
def pt:Nat->D->Bool
 | 0,_=>false
 |_+1,.int _=>true
 |_+1,.str x=>decide (x.length<=900)
 |n+1,.tup xs=>xs.all (pt n) && decide (xs.length<=900)
 |_+1,_=>false
def Lx:Nat->D->Bool
 | 0,_=>true
 |_+1,.exc _=>false
 |_+1,.dct _ _=>false
 |_+1,.str x=>decide (x.length<=1000)
 |n+1,.tup xs=>xs.all (Lx n)
 |n+1,.lst _ xs=>xs.all (Lx n)
 |_+1,_=>true
noncomputable def jp(aR:List D->R D):Ev->O:=(ax (cB (mM (g2 eqF (gOf fm (aa (rvz 0) nlz)) (ciz 2)) (mM (g2 eqF (g2 ixD (rvz 0) (ciz 0)) (csz [115,97,121])) (mM (aA 1 aR (aa (g2 ixD (rvz 0) (ciz 1)) nlz)) (g3 leD leD (ciz 1) (gOf fm (aa (g2 ixD (rvz 0) (ciz 1)) nlz)) (ciz 40)))))) oNx)
noncomputable def lI(aI:List D->R D):Ev->O:=(ax (oIf (vJ (gB2 neF (gOf fm (aa (rvz 0) nlz)) (ciz 3)) (gB2 neF (g2 ixD (rvz 0) (ciz 0)) (csz [103,111]))) (ax (cB (λ_=>R.ok (D.bl false))) oNx) oNx) (ax (cB (mM (aA 3 aI (aa (g2 ixD (rvz 0) (ciz 1)) (aa (ciz 0) (aa (g2 Bv (ciz 12) (ciz 1)) nlz)))) (aA 3 aI (aa (g2 ixD (rvz 0) (ciz 2)) (aa (ciz 0) (aa (ciz 40) nlz)))))) oNx))
noncomputable def gz(iM kr:List D->R D):Ev->O:=(ax (oIf (gBn (aq jy (aq (iS (·=="tuple")) (rvz 0)))) (ax (cB (λ_=>R.ok (D.bl false))) oNx) oNx) (ax (cB (gOr (aA 1 iM (aa (rvz 0) nlz)) (gOr (aA 1 kr (aa (rvz 0) nlz)) (g2 eqF (rvz 0) (aq mkT (aa (csz [119,105,112,101]) nlz)))))) oNx))
def db(eN:List D->R D)(bd:Addr):Ev->O:=(ax (oIf (gBn (aq jy (aA 1 eN (aa (rvz 0) nlz)))) (ax (ka bd (aa (csz [116,104,105,115,32,105,115,32,110,111,32,111,114,100,101,114]) nlz)) oNx) oNx) oNx)
def scr(wd:Nat)(rows:List (List Nat))(r c:Nat):D:=.tup [.int (wd:Int),.tup (rows.map .str),.tup [.int (r:Int),.int (c:Int)]]
def Af:List D->Option (List (List Nat))
 | []=>some []
 |.str x::ds=>(Af ds).map (x::·)
 |_::_=>none
theorem pe:∀rows:List (List Nat),Af (rows.map .str)=some rows
 | []=>rfl
 |x::rows=>by simp[Af,pe rows]
noncomputable def wI:D->Option (Nat×List (List Nat)×Nat×Nat)
 |.tup [.int wd,.tup rows,.tup [.int r,.int c]]=>(Af rows).bind λrs=>if (0<=wd/\wd<=100)/\0<=r/\(0<=c/\c<=wd)/\r.toNat<rs.length/\rs.length<=100/\(rs.all λx=>decide (x.length=wd.toNat))=true then some (wd.toNat,rs,r.toNat,c.toNat)else none
 |_=>none
structure SOk(wd:Nat)(rows:List (List Nat))(r c:Nat):Prop where
 w:wd<=100
 c:c<=wd
 r:r<rows.length
 m:rows.length<=100
 l:∀x∈rows,x.length=wd
def AD{wd:Nat}{rows:List (List Nat)}{r c:Nat}(h:SOk wd rows r c):wI (scr wd rows r c)=some (wd,rows,r,c):=by
 obtain⟨h1,h2,h3,h4,h5⟩:=h;have h6:(rows.all λx=>decide (x.length=wd))=true:=by rw[sI];intro x hx;simp[h5 x hx]
 simp only[wI,scr,pe,Option.bind_some,si];rw[if_pos (by refine⟨⟨by omega,by omega⟩,by omega,⟨by omega,by omega⟩,h3,h4,h6⟩)]
def GH{wd:Nat}{rows:List (List Nat)}{r c:Nat}(h:SOk wd rows r c):(rows.map D.str)[r]?=some (.str (rows.getD r []))/\(rows.getD r []).length=wd:=by
 have g:rows[r]?=some (rows.getD r []):=by rw[vY h.r];simp[List.getD,h.r]
 refine⟨by rw[u9,g];rfl,h.l _ (nZ g)⟩
def Aj(rows:List (List Nat))(r:Nat)(x:List Nat)(h:r<rows.length):(rows.map D.str).take r++[D.str x]++(rows.map D.str).drop (r+1)=(rows.set r x).map D.str:=by rw[List.set_eq_take_append_cons_drop,if_pos h];simp[List.map_take,List.map_drop]
def dq(bx:List D->R D)(bd:Addr):Ev->O:=(ax (sW (aA 1 bx (aa (rvz 1) nlz))) oNx)
noncomputable def cO(bx:List D->R D)(bd:Addr):Ev->O:=(ax (oIf (gBn (aq jy (aq (iS (·=="list")) (rvz 0)))) (ax (ka bd (aa (csz [116,104,105,115,32,105,115,32,110,111,32,108,105,115,116,32,111,102,32,111,114,100,101,114,115]) nlz)) oNx) oNx) (ax (zC (gO 1) (aq bf (rvz 0)) (dq bx bd)) oNx))
def dZ:Ev->O:=(ax (oIf (gB2 eqF (g2 ixD (rvz 0) (ciz 0)) (csz [115,97,121])) (ax (cB (gOf fm (aa (g2 ixD (rvz 0) (ciz 1)) nlz))) oNx) oNx) (ax (oIf (gB2 eqF (g2 ixD (rvz 0) (ciz 0)) (csz [103,111])) (ax (cB (ciz 2)) oNx) oNx) (ax (cB (ciz 1)) oNx)))
def nJ(aJ bc:List D->R D):Ev->O:=(ax (sW (aA 1 aJ (aa (rvz 0) nlz))) (ax (cB (gOf Fi (aa (bA (eA (aq bf (rvz 0)) [] (λ_=>R.ok true) (aA 1 bc (aa (rvz 0) nlz)))) nlz))) oNx))
noncomputable def cw:Ev->O:=(ax (oIf (gB2 neF (g2 ixD (rvz 0) (ciz 0)) (g2 ixD (rvz 1) (ciz 0))) (ax (cB (λ_=>R.ok D.non)) oNx) oNx) (ax (oIf (gB2 neF (g2 ixD (rvz 0) (ciz 0)) (csz [115,97,121])) (ax (cB (rvz 1)) oNx) oNx) (ax (hZ 2 (g2 cP (g2 ixD (rvz 0) (ciz 1)) (g2 ixD (rvz 1) (ciz 1)))) (ax (cB (gIf (gB2 leD (gOf fm (aa (rvz 2) nlz)) (ciz 40)) (aq mkT (aa (csz [115,97,121]) (aa (rvz 2) nlz))) (λ_=>R.ok D.non))) oNx))))
noncomputable def dM(aJ aV:List D->R D):Ev->O:=(ax (C5 1 3 (gIf (gB2 gtD (gOf fm (aa (rvz 1) nlz)) (ciz 0)) (aA 2 aV (aa (g2 ixD (rvz 1) (aq HS (ciz 1))) (aa (rvz 2) nlz))) (λ_=>R.ok D.non))) (ax (oIf (gB2 isF (rvz 3) (λ_=>R.ok D.non)) (ax (Hj 1 (rvz 2)) oNx) (ax (DP 1 (aq HS (ciz 1)) (rvz 3)) oNx)) oNx))
def fo(aJ aV:List D->R D):Ev->O:=(ax (sW (aA 1 aJ (aa (rvz 0) nlz))) (ax (Cy 1 (zy nlz)) (ax (zC (gO 2) (aq bf (rvz 0)) (dM aJ aV)) (CP 1 (ax (cB (rvz 1)) oNx)))))
inductive Od where
 |say (x:List Nat)
 |go (r c:Nat)
 |wipe
def oD:Od->D
 |.say x=>.tup [.str [115,97,121],.str x]
 |.go r c=>.tup [.str [103,111],.int (r:Int),.int (c:Int)]
 |.wipe=>.tup [.str [119,105,112,101]]
def okO:Od->Bool
 |.say x=>plain x && (decide (1<=x.length) && decide (x.length<=40))
 |.go r c=>decide (r<=11) && decide (c<=40)
 |.wipe=>true
def aO:Od->Nat
 |.say x=>x.length
 |.go _ _=>2
 |.wipe=>1
def eD:Od->Od->Option Od
 |.say x,.say y=>if x.length+y.length<=40 then some (.say (x++y))else none
 |.go _ _,.go r c=>some (.go r c)
 |.wipe,.wipe=>some .wipe
 |_,_=>none
def sayL:Od->Nat
 |.say x=>x.length
 |_=>0
def jD:Option Od->D
 |some o=>oD o
 |none=>.non
def di(acc:List Od)(o:Od):List Od:=match acc.getLast? with
 |none=>[o]
 |some l=>match eD l o with
  |some j=>acc.dropLast++[j]
  |none=>acc++[o]
def qu(o:Od):di [] o=[o]:=rfl
def gH{acc:List Od}{l o j:Od}(h:eD l o=some j):di (acc++[l]) o=acc++[j]:=by simp[di,h]
def iu{acc:List Od}{l o:Od}(h:eD l o=none):di (acc++[l]) o=acc++[l]++[o]:=by simp[di,h]
def shO(os:List Od):List Od:=os.foldl di []
def BB(l:List Od):l=[]\/∃l' b,l=l'++[b]:=by
 rcases List.eq_nil_or_concat l with h|⟨l',b,h⟩;·exact .inl h
 ·exact .inr ⟨l',b,by rw[h,List.concat_eq_append]⟩
def Jb(o:Od):fl 10 (oD o)=true:=by cases o <;> rfl
def Hy(os:List Od):Nat:=(os.map sayL).sum
def Ad{l o j:Od}(h:eD l o=some j):sayL j=sayL l+sayL o/\aO j<=aO l+aO o:=by
 cases l <;> cases o <;> simp[eD]at h;·obtain⟨_,rfl⟩:=h;simp[sayL,aO]
 ·subst h;simp[sayL,aO]
 ·subst h;simp[sayL,aO]
def uN(acc:List Od)(o:Od):Hy (di acc o)=Hy acc+sayL o/\(di acc o).length<=acc.length+1/\((di acc o).map aO).sum<=(acc.map aO).sum+aO o:=by
 rcases BB acc with rfl|⟨a,l,rfl⟩;·rw[qu];simp[Hy]
 ·cases hj:eD l o with
  |none=>rw[iu hj];simp[Hy,n6];omega
  |some j=>obtain⟨h1,h2⟩:=Ad hj;rw[gH hj];simp[Hy,n6];omega
def DH{p:Addr}{fs:List (Nat×Fd)}{i:Nat}(h:ρ[i]?=some (some (.obj true C p fs))):vQ C ρ i=.ok (p,fs):=by unfold vQ;rw[h];exact if_pos rfl
def Ma(sts tk:List D):List (Nat×Fd):=[(0,.own sts),(1,.own tk)]
def st3(a b:D)(c:Int):D:=.tup [a,b,.int c]
section
variable{Cs Co Cr Cb Cp:Addr}
def fl1(sts tk:List D):DY (Ma sts tk) 1=.ok tk:=rfl
end
def Ly(f:Bool)(x:List D):bf (.lst f x)=.ok x:=rfl
def rq{d:D}(h:screen d=true):qD d=true:=by
 cases d <;> first|(cases h;done)|skip
 rename_i xs
 match xs,h with
 | [],h=>cases h
 | [_],h=>cases h
 | [_,_],h=>cases h
 |a::b::c::e::l,h=>cases h
 | [a,r,p],h=>
  cases a <;> first|(cases h;done)|skip
  rename_i i;cases r <;> first|(simp[screen,wk]at h;done)|skip
  rename_i rows;simp only[screen,u8]at h;obtain⟨⟨h1,h2⟩,h3⟩:=h;simp only[wk,u8,sI]at h2;simp only[inB,u8,se]at h1;simp only[qD,u8,sI];refine⟨⟨rfl,λr hr=>?_⟩,?_⟩
  ·have q:=h2.2 r hr;cases r <;> first|rfl|(cases q;done)|skip
   rename_i x;simp only[zN,u8,Zj]at q;simp only[Gp,se];have:=bg;omega
  ·cases p <;> first|(cases h3;done)|skip
   rename_i ps
   match ps,h3 with
   | [a,b],h3=>
    simp only[place,u8]at h3;show [a,b].all qF=true;rw[sI];intro x hx;rcases y9.1 hx with rfl|hx;·cases x <;> first|rfl|exact absurd h3.1 (by simp[inB])
    ·rcases y9.1 hx with rfl|hx;·cases x <;> first|rfl|exact absurd h3.2 (by simp[inB])
     ·cases hx
def wo{d:D}(h:screen d=true):pY C [d]=.ok .non:=by show(if qD d=true then (if screen d=true then R.ok D.non else .ex C)else .no)=_;rw[if_pos (rq h),if_pos h]
def xu(b m r:Int):Bool:=decide (0<=b) && decide (b<=r - 1) && (decide (1<=m) && decide (m<=r - b))
def IB(l w:Nat):D->D
 |.str x=>.str ((x.drop l).take w)
 |d=>d
noncomputable def KS:List D->R D
 | [.tup [.int wd,.tup rows,p],.int t,.int l,.int h,.int w]=>if screen (.tup [.int wd,.tup rows,p])=true/\xu t h rows.length=true/\xu l w wd=true then .ok (.tup [.int w,.tup (((rows.drop t.toNat).take h.toNat).map (IB l.toNat w.toNat)),.tup [.int 0,.int 0]])else .no
 |_=>.no
def pl(ns:List Int)(a:Nat)(wd m:Nat):D:=.tup [.int (oU ns (a+400) m),.int (oU ns (a+401) (wd+1))]
abbrev St:=Nat×List (List Nat)×Nat×Nat
def sD(s:St):D:=scr s.1 s.2.1 s.2.2.1 s.2.2.2
noncomputable def aF:St->Od->Option St
 | (wd,rows,r,c),.say x=>if wd<c+x.length then none else some (wd,rows.set r ((rows.getD r []).take c++x++(rows.getD r []).drop (c+x.length)),r,c+x.length)
 | (wd,rows,r,c),.go n k=>if rows.length<=n\/wd<k then none else some (wd,rows,n,k)
 | (wd,rows,r,c),.wipe=>some (wd,rows.set r ((rows.getD r []).take c++List.replicate (wd - c) 32),r,c)
structure GS(s:St):Prop where
 w1:1<=s.1
 w2:s.1<=40
 m:s.2.1.length<=12
 r:s.2.2.1<s.2.1.length
 c:s.2.2.2<=s.1
 l:∀x∈s.2.1,x.length=s.1/\plain x=true
def GS.ok{s:St}(h:GS s):SOk s.1 s.2.1 s.2.2.1 s.2.2.2:=⟨by have:=h.w2;omega,h.c,h.r,by have:=h.m;omega,λx hx=>(h.l x hx).1⟩
def GS.un{s:St}(h:GS s):wI (sD s)=some s:=AD h.ok
def GS.screen{s:St}(h:GS s):screen (sD s)=true:=by
 obtain⟨wd,rows,r,c⟩:=s;have h1:=h.w1;have h2:=h.w2;have h3:=h.m;have h4:=h.r;have h5:=h.c;have h6:=h.l;dsimp only at h1 h2 h3 h4 h5 h6;have hf:wk (.tup (rows.map .str)) (wd:Int)=true:=by simp only[wk,zV,u8,se,sI];refine⟨⟨by omega,by omega⟩,λd hd=>?_⟩;obtain⟨x,hx,rfl⟩:=s8.1 hd;obtain⟨q1,q2⟩:=h6 x hx;simp[zN,q1,q2]
 simp only[sD,scr,Q.screen,hf,place,inB,zV,u8,se];refine⟨⟨⟨by omega,by omega⟩,trivial⟩,?_⟩;omega
def eG{x y:List Nat}(h1:plain x=true)(h2:plain y=true):plain (x++y)=true:=by simp only[plain,List.all_append,u8]at *;exact⟨h1,h2⟩
def kJ{x y:List Nat}(h:plain x=true)(hs:∀c∈y,c∈x):plain y=true:=by simp only[plain,sI]at h⊢;exact λc hc=>h c (hs c hc)
def tM{α:Type}{l:List α}{i:Nat}{a x:α}(h:x∈l.set i a):x=a\/x∈l:=by
 rcases List.mem_or_eq_of_mem_set h with h|h;·exact .inr h
 ·exact .inl h
def dP{rows:List (List Nat)}{r:Nat}(h:r<rows.length):rows.getD r []∈rows:=by rw[v9,vY h];exact l6 h
def lr{s s':St}{o:Od}(h:GS s)(ho:okO o=true)(e:aF s o=some s'):GS s':=by
 obtain⟨wd,rows,r,c⟩:=s;have h1:=h.w1;have h2:=h.w2;have h3:=h.m;have h4:=h.r;have h5:=h.c;have h6:=h.l;dsimp only at h1 h2 h3 h4 h5 h6;obtain⟨g1,g2⟩:=h6 _ (dP h4);cases o with
 |say x=>
  simp only[okO,u8,se]at ho;by_cases hn:wd<c+x.length;·simp only[aF,hn,t8]at e;cases e
  ·simp only[aF,hn,t5]at e;cases e;refine⟨h1,h2,by simpa using h3,by simpa using h4,by dsimp only;omega,λy hy=>?_⟩;rcases tM hy with rfl|hy;·refine⟨by simp only[v6,u7,lM,pV];omega,eG (eG (kJ g2 λc hc=>aT hc) ho.1) (kJ g2 λc hc=>List.mem_of_mem_drop hc)⟩
   ·exact h6 y hy
 |go n k=>
  by_cases hn:rows.length<=n\/wd<k;·simp only[aF,hn,t8]at e;cases e
  ·simp only[aF,hn,t5]at e;cases e;exact⟨h1,h2,h3,by dsimp only;omega,by dsimp only;omega,h6⟩
 |wipe=>
  simp only[aF]at e;cases e;refine⟨h1,h2,by simpa using h3,by simpa using h4,h5,λy hy=>?_⟩;rcases tM hy with rfl|hy
  ·refine⟨by simp only[v6,u7,lM,pV];omega,eG (kJ g2 λc hc=>aT hc) ?_⟩;simp only[plain,sI];intro z hz;rw[(Y1.1 hz).2];decide
  ·exact h6 y hy
def rn(a:Option St)(os:List Od):Option St:=os.foldl (λa o=>a.bind λs=>aF s o) a
def hU(a:Option St)(o:Od)(os:List Od):rn a (o::os)=rn (a.bind λs=>aF s o) os:=rfl
def fS(a:Option St)(os ps:List Od):rn a (os++ps)=rn (rn a os) ps:=Yw ..
theorem fY:∀os:List Od,rn none os=none
 | []=>rfl
 |_::os=>fY os
theorem EH:∀(os:List Od){s s':St},GS s->(∀o∈os,okO o=true)->rn (some s) os=some s'->GS s'
 | [],s,s',h,_,e=>by cases e;exact h
 |o::os,s,s',h,ho,e=>by
  rw[hU,Option.bind_some]at e;cases q:aF s o with
  |none=>rw[q,fY]at e;cases e
  |some s1=>rw[q]at e;exact EH os (lr h (ho o (w5 ..)) q) (λp hp=>ho p (w9 _ hp)) e
def Mb(os:List Od):Int:=((os.map aO).sum:Nat)
section
variable{Cs Co Cr Cp:Addr}
inductive Dd where
 |scroll (z:Int)
 |ord (o:Od)
end
section
variable{L7 Cs Co Cr:Addr}
def Bw{i n:Nat}{F:MF}{p:Addr}{fs:List (Nat×Fd)}{ds:List D}{d:D}(ho:ρ[i]?=some (some (.obj true C p fs)))(ha:gl ρ=.ok ds)(hl:ds.length=n)(hF:F fs ds=.ok d fs'):iW C i n F gl ρ=.re d (ρ.set i (some (.obj true C p fs'))):=by unfold iW IT;rw[ho];dsimp only;rw[if_pos rfl,R.ok_out,ha,R.ok_out];dsimp only;rw[if_pos hl,hF];rfl
end
noncomputable def fW(bP aR:List D->R D):Ev->O:=(ax (sW (aA 1 bP (aa (rvz 0) nlz))) (ax (oIf (vJ (gBn (aq jy (aq (iS (·=="list")) (rvz 1)))) (gB2 gtD (gOf fm (aa (rvz 1) nlz)) (gOf fm (aa (g2 ixD (rvz 0) (ciz 1)) nlz)))) (ax (cB (λ_=>R.ok (D.bl false))) oNx) oNx) (ax (cB (gOf A3 (aa (bA (eA (aq bf (rvz 1)) [0] (λ_=>R.ok true) (mM (aA 1 aR (aa (rvz 0) nlz)) (g2 leD (gOf fm (aa (rvz 0) nlz)) (g2 ixD (rvz 1) (ciz 0)))))) nlz))) oNx)))
def txt(m:Nat)(x:List Nat):Bool:=plain x && decide (x.length<=m)
def qM{x:List Nat}(h:x.length<=1000):jG [.str x]=.ok (.bl (plain x)):=if_pos (w6 h bg)
def H9(f:Bool)(ds:List D):A3 [.lst f (ds.map λ_=>D.bl true)]=some (.bl true):=by have:=jL (λ_=>true) f ds;rw[this];simp
def KR{x y:List D}(h:x.length+y.length<=sizeLine):cP (.lst false x) (.lst false y)=some (.lst false (x++y)):=by simp only[cP];rw[if_pos h]
def cu(n wd:Nat)(xs:List (List Nat)):Bool:=decide (xs.length<=n) && xs.all (txt wd)
noncomputable def cG(eJ:List D->R D)(bb:Addr):Ev->O:=(ax (oIf (gBn (aq jy (aA 2 eJ (aa (rvz 0) (aa (rvz 1) nlz))))) (ax (ka bb (aa (csz [116,104,101,115,101,32,97,114,101,32,110,111,32,114,111,119,115,32,116,104,97,116,32,116,104,101,32,115,99,114,101,101,110,32,99,97,110,32,115,104,111,119]) nlz)) oNx) oNx) oNx)
noncomputable def fx:Ev->O:=(ax (hZ 2 (g2 ixD (rvz 0) (ciz 0))) (ax (hZ 3 (g2 Bv (gOf fm (aa (g2 ixD (rvz 0) (ciz 1)) nlz)) (gOf fm (aa (rvz 1) nlz)))) (ax (cB (g2 cP (bA (eA (aq bf (rvz 1)) [2] (λ_=>R.ok true) (nr "str" kM (rvz 0) (aa (rvz 1) nlz)))) (g2 ja (bA (zy (aa (g2 ja (csz [32]) (rvz 2)) nlz))) (rvz 3)))) oNx)))
def xO{gt:Ev->R Bool}(p:D->Bool)(h:D->D)(tl:Ev)(ds:List D)(a:Option Sl)(H:∀d∈ds,gt (some (.val d)::tl)=.ok (p d)/\ge (some (.val d)::tl)=.ok (h d)):eZ gt ge ds (a::tl)=.ok ((ds.filter p).map h):=
 lJ p h tl ds a λd m=>⟨(H d m).1,λ_=>(H d m).2⟩
def CJ(wd:Nat)(x:List Nat):List Nat:=x++List.replicate (wd - x.length) 32
def we(n c:Nat)(h:(decide (32<=c) && decide (c<=126))=true):plain (List.replicate n c)=true:=by simp only[plain,sI];intro x hx;rw[(Y1.1 hx).2];exact h
abbrev vL(f:Bool)(n:List Int):Option Sl:=some (.val (.lst f (n.map .int)))
abbrev vI(n:Nat):Option Sl:=some (.val (.int (n:Int)))
abbrev vD(d:D):Option Sl:=some (.val d)
abbrev vS(x:List Nat):Option Sl:=some (.val (.str x))
abbrev vO(c p:Addr)(f:List (Nat×Fd)):Option Sl:=some (.obj true c p f)
def JB:List D->R D:=λds=>ao (jp jG (ak 1 ds))
def goG:List D->R D:=λds=>ao (lI zB (ak 1 ds))
def Kv:List D->R D:=λds=>ao (gz JB goG (ak 1 ds))
def ckG(C:Addr):List D->R D:=λds=>ao (db Kv C (ak 1 ds))
def HE(C:Addr):List D->R D:=λds=>ao (cO (ckG C) C (ak 2 ds))
def isS:Od->Bool
 |.say _=>true
 |_=>false
def isG:Od->Bool
 |.go _ _=>true
 |_=>false
def KT{o:Od}(h:okO o=true):JB [oD o]=.ok (.bl (isS o)):=by
 cases o with
 |say x=>
  simp only[okO,u8,se]at h;have i1:jG [.str x]=.ok (.bl true):=by rw[qM (by omega),h.1]
  have d1:decide ((1:Int)<=(x.length:Int))=true:=by rw[se];omega
  have d2:decide ((x.length:Int)<=40)=true:=by rw[se];omega
  have e1:fm [oD (.say x)]=some (.int 2):=rfl;have e2:ixD (oD (.say x)) (.int 0)=some (.str [115,97,121]):=rfl;have e3:ixD (oD (.say x)) (.int 1)=some (.str x):=rfl;have q0:eqF (.str [115,97,121]) (.str [115,97,121])=some (.bl true):=rfl;have q1:eqF (.int 2) (.int 2)=some (.bl true):=rfl;show ao (ax _ _ [vD (oD (.say x))])=.ok (.bl true);clear h;generalize oD (.say x)=u at *
  walk_at "run"
 |go r c=>rfl
 |wipe=>rfl
def MD{o:Od}(h:okO o=true):goG [oD o]=.ok (.bl (isG o)):=by
 cases o with
 |go r c=>
  simp only[okO,u8,se]at h;have i1:zB [.int (r:Int),.int 0,.int 11]=.ok (.bl true):=by show R.ok (D.bl (decide (0<=(r:Int)) && decide ((r:Int)<=11)))=_;rw[sS (by omega),sS (by omega)];rfl
  have i2:zB [.int (c:Int),.int 0,.int 40]=.ok (.bl true):=by show R.ok (D.bl (decide (0<=(c:Int)) && decide ((c:Int)<=40)))=_;rw[sS (by omega),sS (by omega)];rfl
  have e1:fm [oD (.go r c)]=some (.int 3):=rfl;have e2:ixD (oD (.go r c)) (.int 0)=some (.str [103,111]):=rfl;have e3:ixD (oD (.go r c)) (.int 1)=some (.int (r:Int)):=rfl;have e4:ixD (oD (.go r c)) (.int 2)=some (.int (c:Int)):=rfl;have q0:neF (.str [103,111]) (.str [103,111])=some (.bl false):=rfl;have q1:neF (.int 3) (.int 3)=some (.bl false):=rfl;have q2:Bv (.int 12) (.int 1)=some (.int 11):=rfl;show ao (ax _ _ [vD (oD (.go r c))])=.ok (.bl true);clear h;generalize oD (.go r c)=u at *
  walk_at "run"
 |say x=>rfl
 |wipe=>rfl
def KH{o:Od}(h:okO o=true):Kv [oD o]=.ok (.bl true):=by
 have h1:=KT h;have h2:=MD h;have e1:iS (·=="tuple") (oD o)=.ok (.bl true):=by cases o <;> rfl
 have e2:mkT [.str [119,105,112,101]]=.ok (oD .wipe):=rfl;have e3:eqF (oD .wipe) (oD .wipe)=some (.bl true):=rfl;show ao (ax _ _ [vD (oD o)])=_;clear h;cases o with
 |say x=>change _=R.ok (D.bl true)at h1;generalize oD (.say x)=u at *;walk_at "run"
 |go r c=>change _=R.ok (D.bl false)at h1;change _=R.ok (D.bl true)at h2;generalize oD (.go r c)=u at *;walk_at "run"
 |wipe=>change _=R.ok (D.bl false)at h1;change _=R.ok (D.bl false)at h2;generalize oD .wipe=u at *;walk_at "run"
def Mz{o:Od}(h:okO o=true):ckG C [oD o]=.ok .non:=by
 have h1:=KH h;show ao (ax _ _ [vD (oD o)])=_;generalize oD o=u at *
 walk_at "run"
def FR{f:Bool}{os:List Od}(h:∀o∈os,okO o=true):HE C [.lst f (os.map oD)]=.ok .non:=by
 have lp:∀(os:List Od)(x1:Option Sl),(∀o∈os,okO o=true)->∃y1,dc (gO 1) (dq (ckG C) C) (os.map oD) [vD (.lst f (os.map oD)),x1]=.nx [vD (.lst f (os.map oD)),y1]:=λos=>by
  generalize vD (.lst f (os.map oD))=x0;induction os with
  |nil=>exact λx1 _=>⟨x1,rfl⟩
  |cons o os ih=>
   intro x1 h;obtain⟨y1,e⟩:=ih (vD (oD o)) λo ho=>h o (w9 _ ho);refine⟨y1,(fw (ρ2:=[x0,vD (oD o)]) rfl ?_).trans e⟩;have h1:=Mz (C:=C) (h o (w5 ..));unfold dq;generalize oD o=u at *;clear h ih e
   walk_at "run"
 obtain⟨y1,e⟩:=lp os none h;have e1:iS (·=="list") (.lst f (os.map oD))=.ok (.bl true):=rfl;have e2:bf (.lst f (os.map oD))=.ok (os.map oD):=rfl;show ao (ax _ _ [vD (.lst f (os.map oD)),none])=_;clear h lp
 walk_at "run"
def ocG:List D->R D:=λds=>ao (dZ (ak 1 ds))
def Lz(o:Od):ocG [oD o]=.ok (.int (aO o:Int)):=by cases o <;> rfl
def coG(C:Addr):List D->R D:=λds=>ao (nJ (HE C) ocG (ak 1 ds))
theorem jz{α:Type}{ge:Ev->R D}(f g:α->D)(tl:Ev):∀(xs:List α)(a:Option Sl),(∀x∈xs,ge (vD (f x)::tl)=.ok (g x))->eZ (λ_=>R.ok true) ge (xs.map f) (a::tl)=.ok (xs.map g)
 | [],_,_=>rfl
 |x::xs,a,h=>by have ih:=jz (ge:=ge) f g tl xs (vD (f x)) λy hy=>h y (w9 _ hy);have h1:=h x (w5 ..);unfold eZ at ih⊢;rw[w8,w8,cH];show(eW (ge (vD (f x)::tl))>>=λz=>cH (gO 0) (λ_=>R.ok true) ge (xs.map f) (vD (f x)::tl)>>=λzs=>R.ok (z::zs))=_;rw[h1,ih];rfl
def Jh:∀os:List Od,Fi [.lst false (os.map λo=>D.int (aO o:Int))]=some (.int ((os.map aO).sum:Nat)):=λos=>by
 have key:nv (os.map λo=>D.int (aO o:Int))=some (os.map λo=>(aO o:Int)):=by
  induction os with
  |nil=>rfl
  |cons o l ih=>rw[w8,nv,ih];rfl
 have key2:(os.map λo=>(aO o:Int)).sum=((os.map aO).sum:Nat):=by
  clear key;induction os with
  |nil=>rfl
  |cons o l ih=>rw[w8,nT,ih,w8,nT,Int.natCast_add]
 simp only[Fi,key,key2]
def Lu{f:Bool}{os:List Od}(h:∀o∈os,okO o=true)(hl:os.length<=1000):coG C [.lst f (os.map oD)]=.ok (.int ((os.map aO).sum:Nat)):=by
 have h1:=FR (C:=C) (f:=f) h;have c1:=jz (ge:=aA 1 ocG (aa (rvz 0) nlz)) oD (λo=>.int (aO o:Int)) [] os none (λo _=>by rw[zg,show ∀i ρ,rvz i ρ=rdV ρ i from λ_ _=>rfl,rd0,R.ok_bind,Lz]);have e2:bf (.lst f (os.map oD))=.ok (os.map oD):=rfl;have z:(os.map λo=>D.int (aO o:Int)).length<=sizeLine:=by have:=bg;rw[zV];omega
 have sm:=Jh os;have i0:∀x:Option Sl,fI [] [x]=[none]:=λ_=>rfl;show ao (ax _ _ [vD (.lst f (os.map oD))])=_;clear h hl
 walk_at "run"
def jnG:List D->R D:=λds=>ao (cw (ak 3 ds))
def L9{o p:Od}(hn:sayL o+sayL p<=1000):jnG [oD o,oD p]=.ok (jD (eD o p)):=by
 cases o with
 |say x=>
  cases p with
  |say y=>
   simp only[sayL]at hn;have a1:cP (.str x) (.str y)=some (.str (x++y)):=xy (by have:=bg;omega);have x0:∀z:List Nat,ixD (oD (.say z)) (.int 0)=some (.str [115,97,121]):=λ_=>rfl;have x1:∀z:List Nat,ixD (oD (.say z)) (.int 1)=some (.str z):=λ_=>rfl;have q0:neF (.str [115,97,121]) (.str [115,97,121])=some (.bl false):=rfl;have m2:∀v:List Nat,mkT [.str [115,97,121],.str v]=.ok (oD (.say v)):=λ_=>rfl;have ej:eD (.say x) (.say y)=if x.length+y.length<=40 then some (.say (x++y))else none:=rfl;show ao (ax _ _ [vD (oD (.say x)),vD (oD (.say y)),none])=_;rw[ej];by_cases h:x.length+y.length<=40
   ·have d1:decide (((x++y).length:Int)<=40)=true:=by rw[se,v6];omega
    have e9:jD (if x.length+y.length<=40 then some (.say (x++y))else none)=oD (.say (x++y)):=by rw[if_pos h];rfl
    rw[e9];clear hn h ej e9
    walk_at "run"
   ·have d1:decide (((x++y).length:Int)<=40)=false:=by rw[Yv,v6];omega
    have e9:jD (if x.length+y.length<=40 then some (.say (x++y))else none)=.non:=by rw[if_neg h];rfl
    rw[e9];clear hn h ej e9
    walk_at "run"
  |go r c=>rfl
  |wipe=>rfl
 |go r c=>cases p <;> rfl
 |wipe=>cases p <;> rfl
def zM{l o j:Od}(h:eD l o=some j)(h1:okO l=true)(h2:okO o=true):okO j=true:=by
 cases l <;> cases o <;> first|(simp[eD]at h;done)|skip
 ·simp only[eD]at h;split at h;·cases h;simp only[okO,u8,se]at *;exact⟨eG h1.1 h2.1,by simp;omega,by simp;omega⟩
  ·cases h
 ·simp only[eD,jA]at h;subst h;exact h2
 ·simp only[eD,jA]at h;subst h;exact h2
def ox{acc:List Od}{o:Od}(h1:∀p∈acc,okO p=true)(h2:okO o=true):∀p∈di acc o,okO p=true:=by
 rcases BB acc with rfl|⟨a,l,rfl⟩;·intro p hp;rw[qu]at hp;rw[wc.1 hp];exact h2
 ·cases hj:eD l o with
  |none=>
   intro p hp;rw[iu hj]at hp;rcases r8.1 hp with hp|hp;·exact h1 p hp
   ·rw[wc.1 hp];exact h2
  |some j=>
   intro p hp;rw[gH hj]at hp;rcases r8.1 hp with hp|hp;·exact h1 p (Z2 _ hp)
   ·rw[wc.1 hp];exact zM hj (h1 l (by simp)) h2
theorem uw:∀(os acc:List Od),(∀p∈acc,okO p=true)->(∀p∈os,okO p=true)->∀p∈os.foldl di acc,okO p=true
 | [],acc,h,_=>h
 |o::os,acc,h1,h2=>uw os (di acc o) (ox h1 (h2 o (w5 ..))) λp hp=>h2 p (w9 _ hp)
theorem iU:∀(os acc:List Od),(os.foldl di acc).length<=acc.length+os.length/\((os.foldl di acc).map aO).sum<=(acc.map aO).sum+(os.map aO).sum
 | [],acc=>by simp
 |o::os,acc=>by obtain⟨_,a2,a3⟩:=uN acc o;obtain⟨b2,b3⟩:=iU os (di acc o);simp only[d8,r6,w8,nT];omega
def Di{os:List Od}(h:∀o∈os,okO o=true):∀o∈shO os,okO o=true:=uw os [] (λ_ h=>by cases h) h
def B9{o:Od}(h:okO o=true):sayL o<=40:=by
 cases o with
 |say x=>simp only[okO,u8,se]at h;exact h.2.2
 |_=>exact v8 _
def shG(C:Addr):List D->R D:=λds=>ao (fo (HE C) jnG (ak 4 ds))
def Ic(x0 x3:Option Sl)(acc:List Od)(o:Od)(hs:∀p∈acc,okO p=true)(ho:okO o=true)(ha:acc.length<1000):∃y3,dM F jnG [x0,some (.own (acc.map oD)),vD (oD o),x3]=.nx [x0,some (.own ((di acc o).map oD)),vD (oD o),y3]:=by
 have z:(acc.map oD).length<sizeLine:=by have:=bg;rw[zV];omega
 have f1:∀(a0 a2 a3:Option Sl)(ds:List D),frz 1 [a0,some (.own ds),a2,a3]=[a0,some (.val (.lst false ds)),a2,a3]:=λ_ _ _ _=>rfl;have o1:∀(a0 a2 a3:Option Sl)(ds:List D),ownAt [a0,some (.own ds),a2,a3] 1=.ok ds:=λ_ _ _ _=>rfl;have ng1:HS (.int 1)=.ok (.int (-1)):=rfl;have i1:isF .non .non=some (.bl true):=rfl;have i2:∀o:Od,isF (oD o) .non=some (.bl false):=λo=>by cases o <;> rfl
 have fl1:=Jb;have fl2:fl 10 .non=true:=rfl;have e8:∀i:Int,asI (.int i)=.ok i:=λ_=>rfl;unfold dM;rcases BB acc with rfl|⟨a,l,rfl⟩;·exact⟨vD .non,rfl⟩
 ·have em:(a++[l]).map oD=a.map oD++[oD l]:=by simp
  have ej:=L9 (o:=l) (p:=o) (by have:=B9 (hs l (by simp));have:=B9 ho;omega);rw[em]at z⊢;have q1:decide ((0:Int)<((a.map oD++[oD l]).length:Int))=true:=by rw[se,v6];show(0:Int)<((_+1:Nat):Int);omega
  have ixl:ixN (a.map oD++[oD l]).length (-1)=some (a.map oD).length:=by
   unfold ixN;rw[if_neg (by omega),if_pos (by simp;omega)]
   congr 1;simp;omega
  have l1:ixD (.lst false (a.map oD++[oD l])) (.int (-1))=some (oD l):=by show atI (a.map oD++[oD l]) (-1)=_;unfold atI;rw[ixl];simp
  cases hj:eD l o with
  |none=>
   rw[hj]at ej;change _=R.ok D.non at ej;refine⟨vD .non,?_⟩;rw[show(di (a++[l]) o).map oD=a.map oD++[oD l]++[oD o] by rw[iu hj];simp];clear ha hs em hj ho
   walk_at "run"
  |some j=>
   rw[hj]at ej;change _=R.ok (oD j)at ej;refine⟨vD (oD j),?_⟩;have sl:(a.map oD++[oD l]).set (a.map oD).length (oD j)=a.map oD++[oD j]:=by simp
   rw[show(di (a++[l]) o).map oD=a.map oD++[oD j] by rw[gH hj];simp];clear ha hs em hj ho
   walk_at "run"
theorem B4{F:List D->R D}(x0:Option Sl):∀(os acc:List Od)(x2 x3:Option Sl),(∀p∈acc,okO p=true)->(∀o∈os,okO o=true)->acc.length+os.length<=1000->∃y2 y3,dc (gO 2) (dM F jnG) (os.map oD) [x0,some (.own (acc.map oD)),x2,x3]=.nx [x0,some (.own ((os.foldl di acc).map oD)),y2,y3]
 | [],acc,x2,x3,_,_,_=>⟨x2,x3,rfl⟩
 |o::os,acc,x2,x3,h1,h2,hl=>by have ho:=h2 o (w5 ..);rw[r6]at hl;obtain⟨y3,e⟩:=Ic (F:=F) x0 x3 acc o h1 ho (by omega);obtain⟨z2,z3,ih⟩:=B4 (F:=F) x0 os (di acc o) (vD (oD o)) y3 (ox h1 ho) (λp hp=>h2 p (w9 _ hp)) (by have:=(uN acc o).2.1;omega);exact⟨z2,z3,(fw rfl e).trans ih⟩
def MK{f:Bool}{os:List Od}(h:∀o∈os,okO o=true)(hl:os.length<=1000):shG C [.lst f (os.map oD)]=.ok (.lst false ((shO os).map oD)):=by
 have h1:=FR (C:=C) (f:=f) h;obtain⟨y2,y3,e⟩:=B4 (F:=HE C) (vD (.lst f (os.map oD))) os [] none none (λ_ h=>by cases h) h (by rw[km];omega);have e2:bf (.lst f (os.map oD))=.ok (os.map oD):=rfl;have f1:∀(a0 a2 a3:Option Sl)(ds:List D),frz 1 [a0,some (.own ds),a2,a3]=[a0,some (.val (.lst false ds)),a2,a3]:=λ_ _ _ _=>rfl;show ao (ax _ _ [vD (.lst f (os.map oD)),none,none,none])=_;rw[oR]at e;have z:(0<=sizeLine)=True:=eq_true (v8 _);unfold shO;clear h hl
 walk_at "run"
def arG(C:Addr):List D->R D:=λds=>ao (fW (pY C) jG (ak 2 ds))
def crG(C:Addr):List D->R D:=λds=>ao (cG (arG C) C (ak 2 ds))
def frG:List D->R D:=λds=>ao (fx (ak 4 ds))
def jn(n wd:Nat)(xs:List (List Nat)):List (List Nat):=xs.map (CJ wd)++List.replicate (n - xs.length) (List.replicate wd 32)
section
variable{s:St}{xs:List (List Nat)}{f:Bool}
def sJ(hx:cu s.2.1.length s.1 xs=true):xs.length<=s.2.1.length/\∀x∈xs,plain x=true/\x.length<=s.1:=by simp only[cu,txt,u8,se,sI]at hx;exact hx
def Kr(h:GS s)(hx:cu s.2.1.length s.1 xs=true):arG C [sD s,.lst f (xs.map .str)]=.ok (.bl true):=by
 obtain⟨h1,h2⟩:=sJ hx;have hm:=h.m;have hw:=h.w2;have c1:=wo (C:=C) h.screen;have x0:ixD (sD s) (.int 0)=some (.int (s.1:Int)):=rfl;have x1:ixD (sD s) (.int 1)=some (.tup (s.2.1.map .str)):=rfl;have cm:=jz (ge:=mM (aA 1 jG (aa (rvz 0) nlz)) (g2 leD (gOf fm (aa (rvz 0) nlz)) (g2 ixD (rvz 1) (ciz 0)))) D.str (λ_=>.bl true) [vD (sD s)] xs none (λx hx=>by
  obtain⟨p,l⟩:=h2 x hx;have i1:jG [.str x]=.ok (.bl true):=by rw[qM (by omega),p]
  have d1:decide ((x.length:Int)<=(s.1:Int))=true:=by rw[se];omega
  clear h hx c1 x1 h1 h2 hm hw;generalize sD s=S at *
  walk_at "run");have z:(xs.map λ_=>D.bl true).length<=sizeLine:=by have:=bg;rw[zV];omega
 have al:A3 [.lst false (xs.map λ_=>D.bl true)]=some (.bl true):=by have:=H9 false (xs.map D.str);rw[p7]at this;exact this
 have i1:∀(d:D)(v:Option Sl),fI [0] [vD d,v]=[none,vD d]:=λ_ _=>rfl;have q1:decide (((s.2.1.map D.str).length:Int)<((xs.map D.str).length:Int))=false:=by rw[zV,zV,Yv];omega
 have y1:iS (λx=>x=="list") (.lst f (xs.map .str))=.ok (.bl true):=rfl;have l1:=Ly f (xs.map D.str);show ao (ax _ _ [vD (sD s),vD (.lst f (xs.map .str))])=_;clear h1 h2 hm hw h hx x0;generalize sD s=S at *
 walk_at "run"
def Mv(h:GS s)(hx:cu s.2.1.length s.1 xs=true)(f:Bool):crG C [sD s,.lst f (xs.map .str)]=.ok .non:=by
 have e:=Kr (C:=C) (f:=f) h hx;show ao (ax _ _ [vD (sD s),vD (.lst f (xs.map .str))])=_;clear h hx;generalize sD s=S at *
 walk_at "run"
def Ey(h:GS s)(hx:cu s.2.1.length s.1 xs=true):((s.2.1.map D.str).length:Int) - ((xs.map D.str).length:Int)=((s.2.1.length - xs.length:Nat):Int)/\ja (.str [32]) (.int (s.1:Int))=some (.str (List.replicate s.1 32))/\ja (.lst false [.str (List.replicate s.1 32)]) (.int ((s.2.1.length - xs.length:Nat):Int))=some (.lst false (List.replicate (s.2.1.length - xs.length) (.str (List.replicate s.1 32))))/\cP (.lst false (xs.map λx=>.str (CJ s.1 x))) (.lst false (List.replicate (s.2.1.length - xs.length) (.str (List.replicate s.1 32))))=some (.lst false ((jn s.2.1.length s.1 xs).map .str))/\(xs.map λx=>D.str (CJ s.1 x)).length<=sizeLine:=by obtain⟨h1,_⟩:=sJ hx;have hm:=h.m;have hw:=h.w2;have lb:=bg;refine⟨by rw[zV,zV];omega,JH (by omega),IZ (by omega),?_,by rw[zV];omega⟩;rw[KR (by rw[zV,pV];omega)];unfold jn;rw[sN,p7,List.map_replicate];rfl
def Kh(h:GS s)(hx:cu s.2.1.length s.1 xs=true)(f:Bool):frG [sD s,.lst f (xs.map .str)]=.ok (.lst false ((jn s.2.1.length s.1 xs).map .str)):=by
 obtain⟨k1,m1,m2,a1,z1⟩:=Ey h hx;have hw:=h.w2;have x0:ixD (sD s) (.int 0)=some (.int (s.1:Int)):=rfl;have x1:ixD (sD s) (.int 1)=some (.tup (s.2.1.map .str)):=rfl;have i2:∀(a b c:Option Sl)(d:D),fI [2] [a,b,vD d,c]=[none,vD d]:=λ_ _ _ _=>rfl;have cm:=jz (ge:=nr "str" kM (rvz 0) (aa (rvz 1) nlz)) D.str (λx=>.str (CJ s.1 x)) [vD (.int (s.1:Int))] xs none (λx _=>by
  have kd:∀x,mj "str" (.str x)=true:=λ_=>rfl;have j:kM (.str x) [.int (s.1:Int)]=some (.str (CJ s.1 x)):=by simp only[kM,CJ,si];rw[if_pos (by omega)]
  clear k1 m1 m2 a1 z1 x0 x1 i2 h hx hw
  walk_at "run");have il:=Ly;have z2:(1<=sizeLine)=True:=eq_true (by decide);show ao (ax _ _ [vD (sD s),vD (.lst f (xs.map .str)),none,none])=_;clear h hx hw;generalize sD s=S at *;generalize (jn s.2.1.length s.1 xs).map D.str=GO at *
 walk_at "run"
open Classical in
def crN:List D->R D:=λds=>if ∃(s:St)(xs:List (List Nat))(f:Bool),GS s/\cu s.2.1.length s.1 xs=true/\ds=[sD s,.lst f (xs.map .str)]then .ok .non else .no
def lS:∀ds:List D,ds.length=2->crN ds=.no\/ao (cG (arG C) C (ak 2 ds))=crN ds:=λds _=>by
 unfold crN;split;·rename_i h;obtain⟨s,xs,f,h,hx,rfl⟩:=h;exact .inr (Mv h hx f)
 ·exact .inl rfl
def J6(h:GS s)(hx:cu s.2.1.length s.1 xs=true)(f:Bool):crN [sD s,.lst f (xs.map .str)]=.ok .non:=if_pos ⟨s,xs,f,h,hx,rfl⟩
end
def fb:Ev->O:=(ax (cB (g2 ixD (rvz 0) (ciz 0))) oNx)
def eO(aN:List D->R D):Ev->O:=(ax (oIf (vJ (oV true 0 (rvz 1)) (gB2 ltD (aA 1 aN (aa (rvz 2) nlz)) (aA 1 aN (aa (gj 0 (rvz 1)) nlz)))) (ax (An 0 (rvz 1) (rvz 2)) oNx) oNx) oNx)
def aP(I_offer:MF)(bc:List D->R D):Ev->O:=(ax (dA (iW DC 0 2 I_offer (aa (rvz 1) (aa (aq mkT (aa (g2 cP (g2 ixD (rvz 2) (ciz 0)) (aA 1 bc (aa (rvz 3) nlz))) (aa (g2 cP (g2 ixD (rvz 2) (ciz 1)) (aq mkT (aa (rvz 3) nlz))) nlz))) nlz)))) oNx)
noncomputable def cR(I_offer_with_order:MF):Ev->O:=(oIf (oV false 3 (λ_=>R.ok (D.tup [D.bl false,D.bl false]))) (ax (dA (iW DC 3 3 I_offer_with_order (aa (λ_=>R.ok (D.tup [D.bl true,D.bl false])) (aa (gj 3 (λ_=>R.ok (D.tup [D.bl false,D.bl false]))) (aa (aq mkT (aa (csz [103,111]) (aa (rvz 1) (aa (rvz 2) nlz)))) nlz))))) oNx) oNx)
noncomputable def cW(I_offer_with_order:MF):Ev->O:=(oIf (oV false 3 (λ_=>R.ok (D.tup [D.bl true,D.bl false]))) (ax (dA (iW DC 3 3 I_offer_with_order (aa (λ_=>R.ok (D.tup [D.bl true,D.bl true])) (aa (gj 3 (λ_=>R.ok (D.tup [D.bl true,D.bl false]))) (aa (aq mkT (aa (csz [119,105,112,101]) nlz)) nlz))))) oNx) oNx)
noncomputable def cY(I_offer_with_order:MF):Ev->O:=(oIf (oV false 3 (λ_=>R.ok (D.tup [D.bl false,D.bl true]))) (ax (dA (iW DC 3 3 I_offer_with_order (aa (λ_=>R.ok (D.tup [D.bl true,D.bl true])) (aa (gj 3 (λ_=>R.ok (D.tup [D.bl false,D.bl true]))) (aa (aq mkT (aa (csz [103,111]) (aa (rvz 1) (aa (rvz 2) nlz)))) nlz))))) oNx) oNx)
def iP(I_offer_with_order:MF):Ev->O:=(pE 3)
def cV(I_offer_with_order:MF):Ev->O:=(ax (cR I_offer_with_order) (ax (cW I_offer_with_order) (ax (cY I_offer_with_order) (ax (iP I_offer_with_order) oNx))))
def bC(I_offer_with_order:MF):Addr×Unit->Ev->O:=(xZ 3 (rvz 0) (Db (cV I_offer_with_order)))
noncomputable def cj(I_offer_with_order I_offer:MF):Ev->O:=(ax (hZ 6 (g2 ixD (rvz 4) (ciz 1))) (ax (oIf (aq jy (g2 ixD (rvz 4) (ciz 0))) (ax (dA (iW DC 3 3 I_offer_with_order (aa (aq mkT (aa (λ_=>R.ok (D.bl true)) (aa (rvz 6) nlz))) (aa (rvz 5) (aa (aq mkT (aa (csz [115,97,121]) (aa (rvz 2) nlz))) nlz))))) oNx) oNx) (ax (oIf (gB2 eqF (gIf (aq jy (rvz 6)) (csz [32]) (rvz 1)) (rvz 2)) (ax (dA (iW DC 3 2 I_offer (aa (aq mkT (aa (λ_=>R.ok (D.bl false)) (aa (rvz 6) nlz))) (aa (rvz 5) nlz)))) oNx) oNx) oNx)))
def bM(I_offer_with_order I_offer:MF):Ev->O:=(zC (vt [4,5]) (aq zl (rvz 0)) (cj I_offer_with_order I_offer))
def dm(I_offer_with_order I_offer:MF):Ev->O:=(pE 3)
def kX(I_offer_with_order I_offer:MF):Ev->O:=(ax (bM I_offer_with_order I_offer) (ax (dm I_offer_with_order I_offer) oNx))
def bB(I_offer_with_order I_offer:MF):Addr×Unit->Ev->O:=(Ci 3 (Db (kX I_offer_with_order I_offer)))
def jX(bL bp:List D->R D):Ev->O:=(ax (hZ 5 (aA 3 bp (aa (aA 3 bL (aa (rvz 5) (aa (rvz 1) (aa (rvz 6) nlz)))) (aa (g2 ixD (rvz 2) (rvz 6)) (aa (g2 ixD (rvz 3) (rvz 6)) nlz))))) oNx)
def lu(bL bp:List D->R D):Ev->O:=(ax (hZ 5 (rvz 0)) (ax (zC (gO 6) (aq hX (aa (rvz 4) (aa (gOf fm (aa (rvz 2) nlz)) nlz))) (jX bL bp)) (ax (cB (rvz 5)) oNx)))
def fX(aN:List D->R D):Ev->O:=(ax (cB (rO (bA (eA (aq bf (rvz 1)) [0] (oV false 1 (rvz 0)) (gj 1 (rvz 0)))) aN)) oNx)
noncomputable def bz(df bt:List D->R D):Ev->O:=(ax (hZ 3 (aA 5 df (aa (gD1 (λ_=>R.ok (D.tup [D.bl false,D.bl false])) (λ_=>R.ok (D.tup [D.int 0,D.tup []]))) (aa (rvz 0) (aa (rvz 1) (aa (rvz 2) (aa (ciz 0) nlz))))))) (ax (cB (aA 2 bt (aa (rvz 3) (aa (aq mkT (aa (λ_=>R.ok (D.tup [D.bl false,D.bl false])) (aa (λ_=>R.ok (D.tup [D.bl true,D.bl false])) (aa (λ_=>R.ok (D.tup [D.bl false,D.bl true])) (aa (λ_=>R.ok (D.tup [D.bl true,D.bl true])) nlz))))) nlz)))) oNx))
noncomputable def cb(df bt:List D->R D):Ev->O:=(ax (hZ 4 (aA 5 df (aa (gD1 (λ_=>R.ok (D.tup [D.bl true,D.bl false])) (λ_=>R.ok (D.tup [D.int 0,D.tup []]))) (aa (rvz 0) (aa (rvz 1) (aa (rvz 2) (aa (rvz 3) nlz))))))) (ax (hZ 5 (aA 2 bt (aa (rvz 4) (aa (aq mkT (aa (λ_=>R.ok (D.tup [D.bl false,D.bl false])) (aa (λ_=>R.ok (D.tup [D.bl true,D.bl false])) (aa (λ_=>R.ok (D.tup [D.bl false,D.bl true])) (aa (λ_=>R.ok (D.tup [D.bl true,D.bl true])) nlz))))) nlz)))) (ax (hZ 4 (aA 5 df (aa (gD1 (λ_=>R.ok (D.tup [D.bl false,D.bl false])) (λ_=>R.ok (D.tup [D.int 0,D.tup []]))) (aa (rvz 0) (aa (gSl (rvz 1) (λ_=>R.ok none) (pO (rvz 3))) (aa (gSl (rvz 2) (λ_=>R.ok none) (pO (rvz 3))) (aa (ciz 0) nlz))))))) (ax (hZ 6 (aA 2 bt (aa (rvz 4) (aa (aq mkT (aa (λ_=>R.ok (D.tup [D.bl false,D.bl false])) (aa (λ_=>R.ok (D.tup [D.bl true,D.bl false])) nlz))) nlz)))) (ax (cB (aq mkT (aa (g2 cP (g2 ixD (rvz 5) (ciz 0)) (g2 ixD (rvz 6) (ciz 0))) (aa (g2 cP (g2 ixD (rvz 5) (ciz 1)) (g2 ixD (rvz 6) (ciz 1))) nlz)))) oNx)))))
def bG(ar br aN:List D->R D):Ev->O:=(ax (hZ 4 (bA (zy (aa (aA 4 br (aa (rvz 0) (aa (rvz 1) (aa (rvz 2) (aa (rvz 3) nlz))))) (aa (aA 3 ar (aa (rvz 0) (aa (rvz 1) (aa (rvz 2) nlz)))) nlz))))) (ax (cB (rO (rvz 4) aN)) oNx))
def jY(bJ bU:List D->R D)(aM ar bZ:List D->R D):Ev->O:=(ax (oIf (gB2 neF (rvz 5) (rvz 3)) (ax (Ew 4 (g2 ixD (aA 3 ar (aa (rvz 5) (aa (rvz 6) (aa (g2 ixD (rvz 2) (rvz 5)) nlz)))) (ciz 1))) oNx) oNx) oNx)
noncomputable def kF(bJ bU:List D->R D)(aM ar bZ:List D->R D):Ev->O:=(ax (sW (aA 2 bJ (aa (rvz 0) (aa (rvz 1) nlz)))) (ax (hZ 2 (aA 2 bU (aa (rvz 0) (aa (rvz 1) nlz)))) (ax (hZ 3 (g2 ixD (g2 ixD (rvz 0) (ciz 2)) (ciz 0))) (ax (Cy 4 (Dw (aa (g2 ixD (aA 4 aM (aa (rvz 3) (aa (g2 ixD (g2 ixD (rvz 0) (ciz 1)) (rvz 3)) (aa (g2 ixD (rvz 2) (rvz 3)) (aa (g2 ixD (g2 ixD (rvz 0) (ciz 2)) (ciz 1)) nlz))))) (ciz 1)) nlz))) (ax (zC (vt [5,6]) (aq yN (g2 ixD (rvz 0) (ciz 1))) (jY bJ bU aM ar bZ)) (CP 4 (ax (cB (aA 1 bZ (aa (rvz 4) nlz))) oNx)))))))
def ef(cD eV:List D->R D):Ev->O:=(ax (cB (aA 1 eV (aa (aA 2 cD (aa (rvz 0) (aa (rvz 1) nlz))) nlz))) oNx)
abbrev Ky:=Bool×Bool
abbrev Pl:=Nat×List Od
abbrev Mp:=List (Ky×Pl)
def pD(p:Pl):D:=.tup [.int (p.1:Int),.tup (p.2.map oD)]
def kD(k:Ky):D:=.tup [.bl k.1,.bl k.2]
def kN(k:Ky):Nat:=code k.1 k.2
def fsD(m:Mp):List (Nat×Fd):=m.map λz=>(kN z.1,.val (pD z.2))
def kvD(m:Mp):List (Nat×D):=m.map λz=>(kN z.1,pD z.2)
def dD(m:Mp):D:=.dct (m.map λz=>kN z.1) (m.map λz=>pD z.2)
def uW(k:Ky)(p:Pl):Mp->Mp
 | []=>[(k,p)]
 | (j,x)::r=>if j=k then (j,p)::r else (j,x)::uW k p r
def bj(m:Mp)(k:Ky)(p:Pl):Mp:=match m.lookup k with
 |none=>uW k p m
 |some q=>if p.1<q.1 then uW k p m else m
def ip(p:Pl)(o:Od):Pl:=(p.1+aO o,p.2++[o])
def Cq{a b:Ky}(h:kN a=kN b):a=b:=by obtain⟨a1,a2⟩:=a;obtain⟨b1,b2⟩:=b;revert h;cases a1 <;> cases a2 <;> cases b1 <;> cases b2 <;> simp[kN,code]
def lC(k:Ky):qU (kD k)=some (kN k):=rfl
theorem sO:∀m:Mp,fvs (fsD m)=some (kvD m)
 | []=>rfl
 |z::m=>by show(fvs (fsD m)).map _=_;rw[sO m];rfl
theorem yX:∀m:Mp,(m.map λz=>kN z.1).zip (m.map λz=>pD z.2)=kvD m
 | []=>rfl
 |z::m=>o9 ((kN z.1,pD z.2)::·) (yX m)
theorem BW:∀m:Mp,(m.map λz=>kN z.1).zip ((m.map λz=>pD z.2).map Fd.val)=fsD m
 | []=>rfl
 |z::m=>o9 ((kN z.1,Fd.val (pD z.2))::·) (BW m)
theorem kH(k:Ky):∀m:Mp,(kvD m).lookup (kN k)=(m.lookup k).map pD
 | []=>rfl
 | (j,x)::m=>by
  show List.lookup (kN k) ((kN j,pD x)::kvD m)=_;rw[s9,s9];by_cases h:k=j;·subst h;rw[l9,l9];rfl
  ·rw[p9.2 λz=>h (Cq z),p9.2 h];exact kH k m
theorem B1(k:Ky)(p:Pl):∀m:Mp,qV (kN k) (.val (pD p)) (fsD m)=fsD (uW k p m)
 | []=>rfl
 | (j,x)::m=>by
  show(if kN j=kN k then _ else _)=fsD (if j=k then _ else _);by_cases h:j=k;·subst h;rw[if_pos rfl,if_pos rfl];rfl
  ·rw[if_neg λz=>h (Cq z),if_neg h];show(_,_)::qV _ _ (fsD m)=(_,_)::fsD _;rw[B1 k p m]
def Dv(m:Mp):(fsD m).length=m.length:=by unfold fsD;simp
def keys(m:Mp):List Ky:=m.map (·.1)
def MC:∀a b c d e:Ky,¬ [a,b,c,d,e].Nodup:=by intro ⟨a1,a2⟩ ⟨b1,b2⟩ ⟨c1,c2⟩ ⟨d1,d2⟩ ⟨e1,e2⟩;revert a1 a2 b1 b2 c1 c2 d1 d2 e1 e2;decide
def few:∀{l:List Ky},l.Nodup->l.length<=4
 | [],_=>by simp
 | [_],_=>by simp
 | [_,_],_=>by simp
 | [_,_,_],_=>by simp
 | [_,_,_,_],_=>by simp
 |a::b::c::d::e::r,h=>by exfalso;have h':(a::b::c::d::e::r).take 5=[a,b,c,d,e]:=rfl;exact MC a b c d e (h'▸h.sublist (List.take_sublist 5 _))
theorem iK{k:Ky}{p:Pl}:∀{m:Mp},m.lookup k=some p->(k,p)∈m
 | (j,x)::m,e=>by
  rw[s9]at e;by_cases q:k=j;·subst q;rw[l9]at e;cases e;exact w5 ..
  ·rw[p9.2 q]at e;exact w9 _ (iK e)
theorem ur{k:Ky}{p:Pl}:∀{m:Mp},keys (uW k p m)=if k∈keys m then keys m else keys m++[k]
 | []=>rfl
 | (j,x)::m=>by
  show keys (if j=k then (j,p)::m else (j,x)::uW k p m)=_;by_cases q:j=k;·rw[if_pos q,if_pos (by rw[<- q];exact w5 ..)];rfl
  ·rw[if_neg q];show j::keys (uW k p m)=if k∈j::keys m then j::keys m else j::keys m++[k];rw[ur];by_cases h:k∈keys m;·rw[if_pos h,if_pos (w9 _ h)]
   ·rw[if_neg h,if_neg (λz=>by rcases y9.1 z with z|z;exact q z.symm;exact h z)];rfl
def iZ{k:Ky}{p:Pl}{m:Mp}(h:(keys m).Nodup):(keys (uW k p m)).Nodup:=by
 rw[ur];split;·exact h
 ·rename_i q;rw[ZT];exact⟨h,by simp,λa ha b hb=>by rw[wc.1 hb];intro z;exact q (z▸ha)⟩
theorem sY{k:Ky}{p:Pl}{z:Ky×Pl}:∀{m:Mp},z∈uW k p m->z∈m\/z=(k,p)
 | [],h=>.inr (wc.1 h)
 | (j,x)::m,h=>by
  replace h:z∈(if j=k then (j,p)::m else (j,x)::uW k p m):=h
  split at h
  ·rename_i q;subst q;rcases y9.1 h with h|h;·exact .inr h
   ·exact .inl (w9 _ h)
  ·rcases y9.1 h with h|h;·exact .inl (h▸w5 ..)
   ·rcases sY h with h|h;·exact .inl (w9 _ h)
    ·exact .inr h
theorem oz{k j:Ky}{p:Pl}:∀{m:Mp},(uW k p m).lookup j=if j=k then some p else m.lookup j
 | []=>by
  show List.lookup j [(k,p)]=_;rw[s9];by_cases q:j=k;·rw[if_pos q,q,l9]
  ·rw[if_neg q,p9.2 q]
 | (i,x)::m=>by
  show List.lookup j (if i=k then (i,p)::m else (i,x)::uW k p m)=_;by_cases q:i=k
  ·subst q;rw[if_pos rfl,s9,s9];by_cases z:j=i;·rw[if_pos z,z,l9]
   ·rw[if_neg z,p9.2 z]
  ·rw[if_neg q,s9,s9];by_cases z:j=i;·rw[z,l9];dsimp only;rw[if_neg q]
   ·rw[p9.2 z];exact oz
def gB{m:Mp}{k j:Ky}{p:Pl}:(bj m k p).lookup j=if j=k then (match m.lookup k with
  |none=>some p
  |some q=>if p.1<q.1 then some p else some q)else m.lookup j:=by
 unfold bj;cases e:m.lookup k with
 |none=>dsimp only;exact oz
 |some q=>
  dsimp only;by_cases h:p.1<q.1;·rw[if_pos h,if_pos h];exact oz
  ·rw[if_neg h,if_neg h];by_cases z:j=k;·rw[if_pos z,z,e]
   ·rw[if_neg z]
def fy{m:Mp}{k:Ky}{p:Pl}(h:(keys m).Nodup):(keys (bj m k p)).Nodup:=by
 unfold bj;split;·exact iZ h
 ·split;·exact iZ h
  ·exact h
def xJ{m:Mp}{k:Ky}{p:Pl}{z:Ky×Pl}(h:z∈bj m k p):z∈m\/z=(k,p):=by
 unfold bj at h;split at h;·exact sY h
 ·split at h;·exact sY h
  ·exact .inl h
def All(P:Ky->Pl->Prop)(m:Mp):Prop:=∀z∈m,P z.1 z.2
def All.offer{P:Ky->Pl->Prop}{m:Mp}{k:Ky}{p:Pl}(h:All P m)(hp:P k p):All P (bj m k p):=λz hz=>by
 rcases xJ hz with q|q;·exact h z q
 ·subst q;exact hp
def All.at{P:Ky->Pl->Prop}{m:Mp}{k:Ky}{p:Pl}(h:All P m)(e:m.lookup k=some p):P k p:=h _ (iK e)
abbrev dO(q:Addr)(m:Mp):Option Sl:=some (.obj true DC q (fsD m))
def Cm{i:Nat}{d:D}{n:Nat}(h1:ge ρ=.ok d)(h2:qU d=some n)(h3:qr ρ i=.ok kv):oV neg i ge ρ=.ok (if neg then !(kv.lookup n).isSome else (kv.lookup n).isSome):=by unfold oV;rw[h1,R.ok_bind,h2,bR,R.ok_bind,h3,R.ok_bind]
def wU{i:Nat}{d v:D}{n:Nat}(h3:qr ρ i=.ok kv)(h1:ge ρ=.ok d)(h2:qU d=some n)(h4:kv.lookup n=some v):gj i ge ρ=.ok v:=by unfold gj;rw[h3,R.ok_bind,h1,R.ok_bind,h2];show ofO (kv.lookup n)=_;rw[h4];rfl
def uM{i:Nat}{b:Bool}{p:Addr}{m:Mp}(h:ρ[i]?=some (some (.obj b DC p (fsD m)))):qr ρ i=.ok (kvD m):=by unfold qr;rw[h];dsimp only;rw[if_pos rfl,sO];rfl
def AW{i:Nat}{m:Mp}(h:ρ[i]?=some (vD (dD m))):qr ρ i=.ok (kvD m):=by unfold qr;rw[h];unfold dD;dsimp only;rw[yX]
def E4{i:Nat}{gk ga:Ev->R D}{m:Mp}{k:Ky}{p:Pl}(h:ρ[i]?=some (dO q m))(hd:ga ρ=.ok (pD p))(hk:gk ρ=.ok (kD k))(hl:m.length<900):
  An i gk ga ρ=.nx (ρ.set i (dO q (uW k p m))):=by
 unfold An;rw[DH h,R.ok_out,hd,kE,R.ok_out,hk,kE,R.ok_out,lC];dsimp only;rw[if_pos (by rw[Dv];exact hl),B1]
def wL{b:Bool}{i:Nat}{m:Mp}{k:Ky}(h:ρ[i]?=some (some (.obj b DC q (fsD m))))(hk:ge ρ=.ok (kD k)):oV neg i ge ρ=.ok (if neg then !(m.lookup k).isSome else (m.lookup k).isSome):=by rw[Cm hk (lC k) (uM h),kH,Option.isSome_map]
def uU{b:Bool}{i:Nat}{m:Mp}{k:Ky}{p:Pl}(h:ρ[i]?=some (some (.obj b DC q (fsD m))))(hk:ge ρ=.ok (kD k))(e:m.lookup k=some p):gj i ge ρ=.ok (pD p):=
 wU (uM h) hk (lC k) (by rw[kH,e];rfl)
def pcF:List D->R D:=λds=>ao (fb (ak 1 ds))
def Ah(p:Pl):pcF [pD p]=.ok (.int (p.1:Int)):=rfl
def tR(q:Addr)(m:Mp)(k:Ky)(p:Pl)(hl:m.length<900):
  eO pcF [dO q m,vD (kD k),vD (pD p)]=.nx [dO q (bj m k p),vD (kD k),vD (pD p)]:=by
 unfold eO;have h1:=wL (neg:=true) (i:=0) (ge:=λρ=>rdV ρ 1) (ρ:=[dO q m,vD (kD k),vD (pD p)]) (k:=k) rfl rfl;have h2:=E4 (i:=0) (gk:=λρ=>rdV ρ 1) (ga:=λρ=>rdV ρ 2) (ρ:=[dO q m,vD (kD k),vD (pD p)]) (k:=k) (p:=p) rfl rfl rfl hl;have h3:=Ah p;unfold bj;cases e:m.lookup k with
 |none=>
  rw[e]at h1;dsimp only[Option.isSome_none,Bool.not_false,if_true]at h1;clear e hl
  walk_at "run"
 |some p0=>
  rw[e]at h1;have h4:=uU (i:=0) (ge:=λρ=>rdV ρ 1) (ρ:=[dO q m,vD (kD k),vD (pD p)]) rfl rfl e;have h5:=Ah p0;dsimp only[Option.isSome_some,Bool.not_true,if_true]at h1;have h6:ltD (.int (p.1:Int)) (.int (p0.1:Int))=some (.bl (decide (p.1<p0.1))):=by show some (D.bl (decide ((p.1:Int)<(p0.1:Int))))=_;rw[show decide ((p.1:Int)<(p0.1:Int))=decide (p.1<p0.1) from decide_eq_decide.2 Int.ofNat_lt]
  clear e hl;by_cases h:p.1<p0.1
  ·rw[sS h]at h6;dsimp only;rw[if_pos h];clear h
   walk_at "run"
  ·rw[t6 h]at h6;dsimp only;rw[if_neg h];clear h
   walk_at "run"
def LO(ρ:Ev):RM:=match (ρ[0]?:Option (Option Sl))with
 |some (some (.obj _ _ _ fs))=>.ok .non fs
 |_=>.no
def IR(o:O):RM:=match o with
 |.nx ρ=>LO ρ
 |_=>.no
open Classical in
def ci:MF:=λfs ds=>if ∃m k p,fs=fsD m/\ds=[kD k,pD p]/\m.length<900 then IR (eO pcF (dL true DC 0 fs 3 ds))else .no
def nC{m:Mp}(k:Ky)(p:Pl)(hl:m.length<900):ci (fsD m) [kD k,pD p]=.ok .non (fsD (bj m k p)):=by unfold ci;rw[if_pos ⟨m,k,p,rfl,rfl,hl⟩];show IR (eO pcF [some (.obj true DC 0 (fsD m)),vD (kD k),vD (pD p)])=_;rw[tR 0 m k p hl];rfl
def A2:qE DC (eO pcF) 3 ci:=by
 intro q fs ds;by_cases h:∃m k p,fs=fsD m/\ds=[kD k,pD p]/\m.length<900;·obtain⟨m,k,p,rfl,rfl,hl⟩:=h;rw[nC k p hl];exact⟨_,rfl,.inr ⟨tR q m k p hl,rfl⟩⟩
 ·have e:ci fs ds=.no:=by unfold ci;exact if_neg h
  rw[e];trivial
def Am{i n:Nat}{F:MF}{p:Addr}{fs:List (Nat×Fd)}{ds:List D}{d:D}(ho:ρ[i]?=some (some (.obj true C p fs)))(ha:gl ρ=.ok ds)(hl:ds.length=n)(hF:F fs ds=.ok d fs'):dA (iW C i n F gl) ρ=.nx (ρ.set i (some (.obj true C p fs'))):=by unfold dA;rw[Bw ho ha hl hF];rfl
def J5{p:Pl}{o:Od}(h:p.2.length<900):cP (.tup (p.2.map oD)) (.tup [oD o])=some (.tup ((p.2++[o]).map oD)):=by
 have h1:1000<=sizeLine:=by decide
 show(if _ then _ else _)=_;rw[if_pos (by simp;omega)];simp
def BT(q:Addr)(m:Mp)(k:Ky)(p:Pl)(o:Od)(hl:m.length<900)(hp:p.2.length<900):
  aP ci ocG [dO q m,vD (kD k),vD (pD p),vD (oD o)]=.nx [dO q (bj m k (ip p o)),vD (kD k),vD (pD p),vD (oD o)]:=by
 unfold aP;show(dA (iW DC 0 2 ci _) _).seq _=_;rw[Am (n:=2) (ds:=[kD k,pD (ip p o)]) (d:=.non) (fs':=fsD (bj m k (ip p o))) rfl ?_ rfl (nC k (ip p o) hl)];·rfl
 ·have h1:=Lz o;have h2:=J5 (p:=p) (o:=o) hp;have h3:ixD (pD p) (.int 0)=some (.int (p.1:Int)):=rfl;have h4:ixD (pD p) (.int 1)=some (.tup (p.2.map oD)):=rfl;have h5:cP (.int (p.1:Int)) (.int (aO o:Int))=some (.int ((p.1+aO o:Nat):Int)):=rfl;have h6:mkT [oD o]=.ok (.tup [oD o]):=rfl;have h7:mkT [.int ((p.1+aO o:Nat):Int),.tup ((p.2++[o]).map oD)]=.ok (pD (ip p o)):=rfl;clear hl hp
  walk_at "run"
open Classical in
def jc:MF:=λfs ds=>if ∃m k p o,fs=fsD m/\ds=[kD k,pD p,oD o]/\m.length<900/\p.2.length<900 then IR (aP ci ocG (dL true DC 0 fs 4 ds))else .no
def wB{m:Mp}(k:Ky){p:Pl}(o:Od)(hl:m.length<900)(hp:p.2.length<900):jc (fsD m) [kD k,pD p,oD o]=.ok .non (fsD (bj m k (ip p o))):=by unfold jc;rw[if_pos ⟨m,k,p,o,rfl,rfl,hl,hp⟩];show IR (aP ci ocG [some (.obj true DC 0 (fsD m)),vD (kD k),vD (pD p),vD (oD o)])=_;rw[BT 0 m k p o hl hp];rfl
def hW:qE DC (aP ci ocG) 4 jc:=by
 intro q fs ds;by_cases h:∃m k p o,fs=fsD m/\ds=[kD k,pD p,oD o]/\m.length<900/\p.2.length<900;·obtain⟨m,k,p,o,rfl,rfl,hl,hp⟩:=h;rw[wB k o hl hp];exact⟨_,rfl,.inr ⟨BT q m k p o hl hp,rfl⟩⟩
 ·have e:jc fs ds=.no:=by unfold jc;exact if_neg h
  rw[e];trivial
def move(m:Mp)(a b:Ky)(o:Od):Mp:=match m.lookup a with
 |some p=>bj m b (ip p o)
 |none=>m
def dv(m:Mp)(n c:Nat):Mp:=move (move (move m (false,false) (true,false) (.go n c)) (true,false) (true,true) .wipe) (false,true) (true,true) (.go n c)
def Len(J:Nat)(m:Mp):Prop:=All (λ_ p=>p.2.length<=J) m
def Len.mono{K:Nat}{m:Mp}(h:Len J m)(l:J<=K):Len K m:=λz hz=>w6 (h z hz) l
def Len.move{J:Nat}{m:Mp}(h:Len J m)(a b:Ky)(o:Od):Len (J+1) (move m a b o):=by
 unfold Q.move;cases e:m.lookup a with
 |none=>exact h.mono (qO _)
 |some p=>exact All.offer (h.mono (qO _)) (by have:=All.at h e;simp only[ip,v6,Zu];omega)
def mB{m:Mp}(h:(keys m).Nodup)(a b:Ky)(o:Od):(keys (move m a b o)).Nodup:=by
 unfold move;split;·exact fy h
 ·exact h
def D5{m:Mp}(h:(keys m).Nodup):m.length<=4:=by have:=few h;rwa [keys,zV]at this
def rF{x0 x1 x2:Option Sl}{m:Mp}(a b:Ky){o:Od}{go:Ev->R D}(hgo:go [x0,x1,x2,dO q m]=.ok (oD o))(hn:(keys m).Nodup)(hp:Len J m)(hJ:J<900):
  oIf (oV false 3 (λ_=>R.ok (kD a))) (ax (dA (iW DC 3 3 jc (aa (λ_=>R.ok (kD b)) (aa (gj 3 (λ_=>R.ok (kD a))) (aa go nlz))))) oNx) oNx [x0,x1,x2,dO q m] =
   .nx [x0,x1,x2,dO q (move m a b o)]:=by
 have h1:=wL (neg:=false) (i:=3) (ge:=λ_=>R.ok (kD a)) (ρ:=[x0,x1,x2,dO q m]) (k:=a) rfl rfl;have hl:=D5 hn;unfold move;cases e:m.lookup a with
 |none=>
  rw[e]at h1;dsimp only[Option.isSome_none,Bool.false_eq_true,if_false]at h1⊢;clear e hl hp
  walk_at "run"
 |some p=>
  rw[e]at h1;dsimp only[Option.isSome_some,Bool.false_eq_true,if_false]at h1⊢;have h2:=uU (i:=3) (ge:=λ_=>R.ok (kD a)) (ρ:=[x0,x1,x2,dO q m]) rfl rfl e;have h4:dA (iW DC 3 3 jc (aa (λ_=>R.ok (kD b)) (aa (gj 3 (λ_=>R.ok (kD a))) (aa go nlz)))) [x0,x1,x2,dO q m]=.nx [x0,x1,x2,dO q (bj m b (ip p o))]:=by
   refine Am (ds:=[kD b,pD p,oD o]) (d:=.non) rfl ?_ rfl (wB b o (by omega) (by have:=All.at hp e;omega));clear hl hp e h1
   walk_at "run"
  clear e hl hp h2 hgo
  walk_at "run"
def xn{i:Nat}{m:Mp}(h:ρ[i]?=some (dO q m)):pE i ρ=.rt (dD m):=by unfold pE;rw[h];dsimp only;rw[if_pos rfl,sO];show O.rt (.dct ((kvD m).map (·.1)) ((kvD m).map (·.2)))=_;unfold kvD dD;simp only[List.map_map];rfl
def Ig(q:Addr×Unit){m:Mp}(n c:Nat)(hm:m≠[])(hn:(keys m).Nodup)(hp:Len J m)(hJ:J<890):bC jc q (ak 4 [dD m,.int (n:Int),.int (c:Int)])=.rt (dD (dv m n c)):=by
 have h0:bC jc q (ak 4 [dD m,.int (n:Int),.int (c:Int)])=cV jc [vD (dD m),vI n,vI c,some (.obj true DC q.1 (fsD m))]:=by
  cases m with
  |nil=>exact absurd rfl hm
  |cons z r=>show cV jc [_,_,_,some (.obj true DC q.1 ((((z::r:Mp).map λz=>kN z.1)).zip ((((z::r:Mp).map λz=>pD z.2)).map Fd.val)))]=_;rw[BW]
 rw[h0];have h1:=rF (x0:=vD (dD m)) (x1:=vI n) (x2:=vI c) (q:=q.1) (false,false) (true,false) (o:=.go n c) (go:=aq mkT (aa (csz [103,111]) (aa (rvz 1) (aa (rvz 2) nlz)))) rfl hn hp (by omega);have n1:=mB hn (false,false) (true,false) (.go n c);have l1:=hp.move (false,false) (true,false) (.go n c);have h2:=rF (x0:=vD (dD m)) (x1:=vI n) (x2:=vI c) (q:=q.1) (true,false) (true,true) (o:=.wipe) (go:=aq mkT (aa (csz [119,105,112,101]) nlz)) rfl n1 l1 (by omega);have n2:=mB n1 (true,false) (true,true) .wipe;have l2:=l1.move (true,false) (true,true) .wipe;have h3:=rF (x0:=vD (dD m)) (x1:=vI n) (x2:=vI c) (q:=q.1) (false,true) (true,true) (o:=.go n c) (go:=aq mkT (aa (csz [103,111]) (aa (rvz 1) (aa (rvz 2) nlz)))) rfl n2 l2 (by omega);unfold cV;show(cR jc _).seq _=_;rw[show cR jc _=_ from h1];show(cW jc _).seq _=_;rw[show cW jc _=_ from h2];show(cY jc _).seq _=_;rw[show cY jc _=_ from h3];show(pE 3 _).seq _=_;rw[xn (q:=q.1) (m:=dv m n c) rfl];rfl
open Classical in
def wmF:List D->R D:=λds=>if ∃m,∃n c:Nat,ds=[dD m,.int (n:Int),.int (c:Int)]/\m≠[]/\(keys m).Nodup/\Len 880 m then ao (bC jc (0,()) (ak 4 ds))else .no
def Gg{m:Mp}(n c:Nat)(hm:m≠[])(hn:(keys m).Nodup)(hp:Len J m)(hJ:J<=880):wmF [dD m,.int (n:Int),.int (c:Int)]=.ok (dD (dv m n c)):=by unfold wmF;rw[if_pos ⟨m,n,c,rfl,hm,hn,hp.mono hJ⟩,Ig _ n c hm hn hp (by omega)];rfl
def nY:∀ds:List D,ds.length=3->wmF ds=.no\/∀q,ao (bC jc q (ak 4 ds))=wmF ds:=by
 intro ds _;by_cases h:∃m,∃n c:Nat,ds=[dD m,.int (n:Int),.int (c:Int)]/\m≠[]/\(keys m).Nodup/\Len 880 m;·obtain⟨m,n,c,rfl,hm,hn,hp⟩:=h;refine .inr λq=>?_;rw[Gg n c hm hn hp (z8 _),Ig q n c hm hn hp (by omega)];rfl
 ·exact .inl (by unfold wmF;exact if_neg h)
def und(old:Nat)(b:Bool):Nat:=match b with
 |true=>32
 |false=>old
def mO{g h:Ev->O}{ρ1:Ev}(e:g ρ=.nx ρ1):ax g h ρ=h ρ1:=by show(g ρ).seq h=_;rw[e];rfl
def sovK(old new:Nat)(acc:Mp)(z:Ky×Pl):Mp:=
 let a1:=if z.1.1=true then bj acc (true,z.1.2) (ip z.2 (.say [new]))else acc
 if und old z.1.2=new then bj a1 (false,z.1.2) z.2 else a1
def wx(old new:Nat)(m:Mp):Mp:=m.foldl (sovK old new) []
def ml{old new:Nat}{acc:Mp}{z:Ky×Pl}(h:(keys acc).Nodup):(keys (sovK old new acc z)).Nodup:=by
 unfold sovK;have h1:(keys (if z.1.1=true then bj acc (true,z.1.2) (ip z.2 (.say [new]))else acc)).Nodup:=by
  split;·exact fy h
  ·exact h
 dsimp only;split;·exact fy h1
 ·exact h1
theorem jW{α:Type}{P:Mp->Prop}{f:Mp->α->Mp}:∀{l:List α}{a:Mp},P a->(∀a x,x∈l->P a->P (f a x))->P (l.foldl f a)
 | [],_,h,_=>h
 |x::l,a,h,H=>jW (l:=l) (H a x (w5 ..) h) λa y hy=>H a y (w9 _ hy)
def vw{old new:Nat}{m:Mp}:(keys (wx old new m)).Nodup:=jW (P:=λm=>(keys m).Nodup) List.Pairwise.nil λ_ _ _ h=>ml h
def nu{old new:Nat}{m:Mp}{P R:Ky->Pl->Prop}(h:All P m)(h1:∀k p,P k p->k.1=true->R (true,k.2) (ip p (.say [new])))(h2:∀k p,P k p->und old k.2=new->R (false,k.2) p):All R (wx old new m):=by
 refine jW (P:=All R) (λz hz=>nomatch hz) λa x hx ha=>?_;unfold sovK;dsimp only;have g1:All R (if x.1.1=true then bj a (true,x.1.2) (ip x.2 (.say [new]))else a):=by
  split;·rename_i q;exact All.offer ha (h1 _ _ (h x hx) q)
  ·exact ha
 split;·rename_i q;exact All.offer g1 (h2 _ _ (h x hx) q)
 ·exact g1
def yL{x0 x6:Option Sl}{acc:Mp}(old new:Nat)(k:Ky)(p:Pl)(hn:(keys acc).Nodup)(hp:p.2.length<900):
  cj jc ci [x0,vS [old],vS [new],dO q acc,vD (kD k),vD (pD p),x6] =
   .nx [x0,vS [old],vS [new],dO q (sovK old new acc (k,p)),vD (kD k),vD (pD p),vD (.bl k.2)]:=by
 obtain⟨k1,k2⟩:=k;unfold cj sovK;have i1:ixD (kD (k1,k2)) (.int 1)=some (.bl k2):=rfl;have i0:ixD (kD (k1,k2)) (.int 0)=some (.bl k1):=rfl;have fin:∀a1:Mp,(keys a1).Nodup->oIf (gB2 eqF (gIf (aq jy (rvz 6)) (csz [32]) (rvz 1)) (rvz 2)) (ax (dA (iW DC 3 2 ci (aa (aq mkT (aa (λ_=>R.ok (D.bl false)) (aa (rvz 6) nlz))) (aa (rvz 5) nlz)))) oNx) oNx
   [x0,vS [old],vS [new],dO q a1,vD (kD (k1,k2)),vD (pD p),vD (.bl k2)] =
   .nx [x0,vS [old],vS [new],dO q (if und old k2=new then bj a1 (false,k2) p else a1),vD (kD (k1,k2)),vD (pD p),vD (.bl k2)]:=by
  intro a1 n1;have hl:=D5 n1;have h4:=Am (C:=DC) (i:=3) (n:=2) (F:=ci) (gl:=aa (aq mkT (aa (λ_=>R.ok (D.bl false)) (aa (rvz 6) nlz))) (aa (rvz 5) nlz)) (ρ:=[x0,vS [old],vS [new],dO q a1,vD (kD (k1,k2)),vD (pD p),vD (.bl k2)]) (ds:=[kD (false,k2),pD p]) (d:=.non) rfl rfl rfl (nC (false,k2) p (by omega));have h6:∀y:Nat,eqF (.str [y]) (.str [new])=some (.bl (decide (y=new))):=λy=>by
   rw[Lr];congr 2;by_cases z:y=new;·rw[z,l9,sS rfl]
   ·rw[t6 z,p9];intro y;exact z (by injection y)
  clear i1 i0 hl hp hn;have h7:=h6 (und old k2);clear h6;by_cases z:und old k2=new;·rw[sS z]at h7;rw[if_pos z];clear z;cases k2 <;> dsimp only[und]at h7 <;> walk_at "run"
  ·rw[t6 z]at h7;rw[if_neg z];clear z;cases k2 <;> dsimp only[und]at h7 <;> walk_at "run"
 have hl:=D5 hn;cases k1 with
 |true=>
  have f1:=fin (bj acc (true,k2) (ip p (.say [new]))) (fy hn);have h4:=Am (C:=DC) (i:=3) (n:=3) (F:=jc) (gl:=aa (aq mkT (aa (λ_=>R.ok (D.bl true)) (aa (rvz 6) nlz))) (aa (rvz 5) (aa (aq mkT (aa (csz [115,97,121]) (aa (rvz 2) nlz))) nlz))) (ρ:=[x0,vS [old],vS [new],dO q acc,vD (kD (true,k2)),vD (pD p),vD (.bl k2)]) (ds:=[kD (true,k2),pD p,oD (.say [new])]) (d:=.non) rfl rfl rfl (wB (true,k2) (.say [new]) (by omega) hp);refine(mO (ρ1:=[x0,vS [old],vS [new],dO q acc,vD (kD (true,k2)),vD (pD p),vD (.bl k2)]) ?_).trans ?_;·rfl
  refine(mO (ρ1:=[x0,vS [old],vS [new],dO q (bj acc (true,k2) (ip p (.say [new]))),vD (kD (true,k2)),vD (pD p),vD (.bl k2)]) ?_).trans ?_
  ·clear fin f1 hl hn hp
   walk_at "run"
  exact mO f1
 |false=>
  have f1:=fin acc hn;refine(mO (ρ1:=[x0,vS [old],vS [new],dO q acc,vD (kD (false,k2)),vD (pD p),vD (.bl k2)]) ?_).trans ?_;·rfl
  refine(mO (ρ1:=[x0,vS [old],vS [new],dO q acc,vD (kD (false,k2)),vD (pD p),vD (.bl k2)]) ?_).trans ?_;·rfl
  exact mO f1
def EF(k:Ky):Cf (kN k)=kD k:=qQ k.1 k.2
def A8(m:Mp):zl (dD m)=.ok (m.map λz=>.tup [kD z.1,pD z.2]):=by
 show R.ok ((((m.map λz=>kN z.1)).zip ((m.map λz=>pD z.2))).map λz=>D.tup [Cf z.1,z.2])=_;rw[yX];unfold kvD;rw[List.map_map]
 congr 1
 refine l7 λz _=>?_;show D.tup [Cf (kN z.1),_]=_;rw[EF]
theorem pc{x0:Option Sl}{q:Addr}(old new:Nat):∀(m acc:Mp)(x4 x5 x6:Option Sl),(keys acc).Nodup->Len 890 m->∃y4 y5 y6,dc (vt [4,5]) (cj jc ci) (m.map λz=>.tup [kD z.1,pD z.2]) [x0,vS [old],vS [new],dO q acc,x4,x5,x6] =
  .nx [x0,vS [old],vS [new],dO q (m.foldl (sovK old new) acc),y4,y5,y6]
 | [],acc,x4,x5,x6,_,_=>⟨x4,x5,x6,rfl⟩
 | (k,p)::m,acc,x4,x5,x6,hn,hp=>by obtain⟨y4,y5,y6,ih⟩:=pc old new m (sovK old new acc (k,p)) (vD (kD k)) (vD (pD p)) (vD (.bl k.2)) (ml hn) λz hz=>hp z (w9 _ hz);refine⟨y4,y5,y6,?_⟩;rw[w8,fw (ρ1:=[x0,vS [old],vS [new],dO q acc,vD (kD k),vD (pD p),x6]) rfl (yL old new k p hn (by have:=hp (k,p) (w5 ..);dsimp only at this;omega))];exact ih
def HL(q:Addr×Unit){m:Mp}(old new:Nat)(hp:Len 890 m):bB jc ci q (ak 7 [dD m,.str [old],.str [new]])=.rt (dD (wx old new m)):=by
 obtain⟨y4,y5,y6,h⟩:=pc (x0:=vD (dD m)) (q:=q.1) old new m [] none none none List.Pairwise.nil hp;show(bM jc ci [vD (dD m),vS [old],vS [new],some (.obj true DC q.1 (fsD [])),none,none,none]).seq (ax (dm jc ci) oNx)=_;have e:bM jc ci [vD (dD m),vS [old],vS [new],some (.obj true DC q.1 (fsD [])),none,none,none]=.nx [vD (dD m),vS [old],vS [new],some (.obj true DC q.1 (fsD (wx old new m))),y4,y5,y6]:=by
  have h2:=A8 m;unfold bM
  walk_at "run"
  rfl
 rw[e];show(pE 3 _).seq _=_;rw[xn (q:=q.1) (m:=wx old new m) rfl];rfl
open Classical in
def soF:List D->R D:=λds=>if ∃m,∃old new:Nat,ds=[dD m,.str [old],.str [new]]/\Len 890 m then ao (bB jc ci (0,()) (ak 7 ds))else .no
def HR{m:Mp}(old new:Nat)(hp:Len 890 m):soF [dD m,.str [old],.str [new]]=.ok (dD (wx old new m)):=by unfold soF;rw[if_pos ⟨m,old,new,rfl,hp⟩,HL _ old new hp];rfl
def lj:∀ds:List D,ds.length=3->soF ds=.no\/∀q,ao (bB jc ci q (ak 7 ds))=soF ds:=by
 intro ds _;by_cases h:∃m,∃old new:Nat,ds=[dD m,.str [old],.str [new]]/\Len 890 m;·obtain⟨m,old,new,rfl,hp⟩:=h;refine .inr λq=>?_;rw[HR old new hp,HL q old new hp];rfl
 ·exact .inl (by unfold soF;exact if_neg h)
def uI(n:Nat)(old new:List Nat)(m:Mp)(c:Nat):Mp:=wx (old.getD c 0) (new.getD c 0) (dv m n c)
def dW(n:Nat)(old new:List Nat)(b:Nat)(m:Mp):Mp:=(List.range' b (old.length - b)).foldl (uI n old new) m
def gG{m:Mp}{k j:Ky}{p:Pl}(h:m.lookup j≠none):(bj m k p).lookup j≠none:=by
 rw[gB];split
 ·split;·exact λz=>nomatch z
  ·split <;> exact λz=>nomatch z
 ·exact h
def kR{m:Mp}{k:Ky}{p:Pl}:(bj m k p).lookup k≠none:=by
 rw[gB,if_pos rfl];split;·exact λz=>nomatch z
 ·split <;> exact λz=>nomatch z
def ky{m:Mp}{a b j:Ky}{o:Od}(h:m.lookup j≠none):(move m a b o).lookup j≠none:=by
 unfold move;split;·exact gG h
 ·exact h
def Bt{m:Mp}{a b:Ky}{o:Od}(h:m.lookup a≠none):(move m a b o).lookup b≠none:=by
 unfold move;split;·exact kR
 ·rename_i e;exact absurd e h
def yG{old new:Nat}{acc:Mp}{z:Ky×Pl}{j:Ky}(h:acc.lookup j≠none):(sovK old new acc z).lookup j≠none:=by
 unfold sovK;have h1:(if z.1.1=true then bj acc (true,z.1.2) (ip z.2 (.say [new]))else acc).lookup j≠none:=by
  split;·exact gG h
  ·exact h
 dsimp only;split;·exact gG h1
 ·exact h1
def Bo{old new:Nat}{m:Mp}(h:m.lookup (true,false)≠none):(wx old new m).lookup (true,false)≠none:=by
 cases e:m.lookup (true,false)with
 |none=>exact absurd e h
 |some p=>
  have hm:=iK e;have go:∀(l:Mp)(acc:Mp),((true,false),p)∈l\/acc.lookup (true,false)≠none->(l.foldl (sovK old new) acc).lookup (true,false)≠none:=by
   intro l;induction l with
   |nil=>intro acc h;rcases h with h|h;exact nomatch h;exact h
   |cons z l ih=>
    intro acc h;refine ih _ ?_;rcases h with h|h
    ·rcases y9.1 h with h|h
     ·subst h;refine .inr ?_;unfold sovK;dsimp only;rw[if_pos rfl];split;·exact gG kR
      ·exact kR
     ·exact .inl h
    ·exact .inr (yG h)
  exact go m [] (.inl hm)
structure Gd(J:Nat)(m:Mp):Prop where
 nd:(keys m).Nodup
 ne:m.lookup (true,false)≠none\/m.lookup (false,false)≠none
 len:Len J m
def Gd.nn{m:Mp}(g:Gd J m):m≠[]:=λe=>by subst e;rcases g.ne with h|h <;> exact h rfl
def vX{m:Mp}(g:Gd J m)(n c:Nat):(dv m n c).lookup (true,false)≠none:=by
 unfold dv;refine ky (ky ?_);rcases g.ne with h|h;·exact ky h
 ·exact Bt h
def Len.moves{m:Mp}(h:Len J m)(n c:Nat):Len (J+3) (dv m n c):=((h.move _ _ _).move _ _ _).move _ _ _
def Len.sov{m:Mp}(h:Len J m)(old new:Nat):Len (J+1) (wx old new m):=
 nu (P:=λ_ p=>p.2.length<=J) h (λk p hp _=>by simp only[ip,v6,Zu];omega) λk p hp _=>fH hp
def Gd.col{m:Mp}(g:Gd J m)(n c:Nat)(old new:List Nat):Gd (J+4) (uI n old new m c):=
 ⟨vw,.inl (Bo (vX g n c)),(g.len.moves n c).sov _ _⟩
def uV{a b:Nat}(h:a+b<=1000):hX [.int (a:Int),.int ((a+b:Nat):Int)]=.ok ((List.range' a b).map λ(i:Nat)=>D.int (i:Int)):=by
 have e:hX [.int (a:Int),.int ((a+b:Nat):Int)]=if -(2 ^ 62)<=(a:Int)/\(a:Int)<2 ^ 62/\-(2 ^ 62)<=((a+b:Nat):Int)/\((a+b:Nat):Int)<2 ^ 62 then .ok ((List.range (((a+b:Nat):Int) - (a:Int)).toNat).map λk=>D.int ((a:Int)+(k:Nat)))else .no:=by simp only[hX]
 rw[e,if_pos (by refine⟨?_,?_,?_,?_⟩ <;> omega),show(((a+b:Nat):Int) - (a:Int)).toNat=b by omega,List.range'_eq_map_range,p7];refine o9 R.ok (l7 λk _=>?_);simp
def ir{x:List Nat}{c:Nat}(h:c<x.length):x[c]?=some (x.getD c 0):=by rw[v9,vY h];rfl
def C2{x0 x4:Option Sl}{m:Mp}(g:Gd J m)(n c:Nat){new:List Nat}(h1:c<old.length)(h2:c<new.length)(hJ:J<=880):
  jX wmF soF [x0,vI n,vS old,vS new,x4,vD (dD m),vI c]=.nx [x0,vI n,vS old,vS new,x4,vD (dD (uI n old new m c)),vI c]:=by
 have e1:=Gg n c g.nn g.nd g.len hJ;have e2:=HR (m:=dv m n c) (old.getD c 0) (new.getD c 0) ((g.len.moves n c).mono (by omega));have e3:=K1 (ir h1);have e4:=K1 (ir h2);unfold jX uI;clear h1 h2 hJ g
 walk_at "run"
theorem wv{x0 x4:Option Sl}(n:Nat){old new:List Nat}(hl:new.length=old.length):∀(k b J:Nat)(m:Mp)(x6:Option Sl),b+k<=old.length->Gd J m->J+4 * k<=880->∃y6,dc (gO 6) (jX wmF soF) ((List.range' b k).map λ(i:Nat)=>D.int (i:Int)) [x0,vI n,vS old,vS new,x4,vD (dD m),x6] =
  .nx [x0,vI n,vS old,vS new,x4,vD (dD ((List.range' b k).foldl (uI n old new) m)),y6]/\Gd (J+4 * k) ((List.range' b k).foldl (uI n old new) m)
 | 0,b,J,m,x6,_,g,_=>⟨x6,rfl,g⟩
 |k+1,b,J,m,x6,hb,g,hJ=>by
  obtain⟨y6,ih,gg⟩:=wv (x0:=x0) (x4:=x4) n hl k (b+1) (J+4) (uI n old new m b) (vI b) (by omega) (g.col n b old new) (by omega);refine⟨y6,?_,?_⟩;·rw[Zm,w8,fw (ρ1:=[x0,vI n,vS old,vS new,x4,vD (dD m),vI b]) rfl (C2 g n b (by omega) (by omega) (by omega))];exact ih
  ·rw[Zm,d8,show J+4 * (k+1)=J+4+4 * k by omega];exact gg
def swF:List D->R D:=λds=>ao (lu wmF soF (ak 7 ds))
def jJ{m:Mp}(g:Gd J m)(n:Nat){new:List Nat}{b:Nat}(hl:new.length=old.length)(hb:b<=old.length)(hJ:J+4 * old.length<=880):
  swF [dD m,.int (n:Int),.str old,.str new,.int (b:Int)]=.ok (dD (dW n old new b m))/\Gd (J+4 * (old.length - b)) (dW n old new b m):=by
 obtain⟨y6,h,gg⟩:=wv (x0:=vD (dD m)) (x4:=vI b) n hl (old.length - b) b J m none (by omega) g (by omega);refine⟨?_,gg⟩;have hr:=uV (a:=b) (b:=old.length - b) (by omega);rw[show b+(old.length - b)=old.length by omega]at hr;show ao (ax _ _ [vD (dD m),vI n,vS old,vS new,vI b,none,none])=_;clear gg hJ hb hl g
 walk_at "run"
 rfl
def vz:Pl->List Pl->Pl
 |b,[]=>b
 |b,x::xs=>if x.1<b.1 then vz x xs else vz b xs
def Ef:List Pl->Pl
 | []=>(0,[])
 |b::xs=>vz b xs
def eE(m:Mp)(ks:List Ky):List Pl:=ks.filterMap λk=>m.lookup k
def fU(m:Mp)(ks:List Ky):Pl:=Ef (eE m ks)
theorem rJ:∀(xs:List Pl)(b:Pl),qN (λd=>pcF [d]) (pD b) (b.1:Int) (xs.map pD)=.ok (pD (vz b xs))
 | [],b=>rfl
 |x::xs,b=>by
  rw[w8];show(match pcF [pD x]with
   |.ok (.int kx)=>if kx<(b.1:Int)then qN (λd=>pcF [d]) (pD x) kx (xs.map pD)else qN (λd=>pcF [d]) (pD b) (b.1:Int) (xs.map pD)
   |_=>.no)=.ok (pD (if x.1<b.1 then vz x xs else vz b xs));rw[Ah];dsimp only;by_cases h:x.1<b.1;·rw[if_pos (by omega),if_pos h];exact rJ xs x
  ·rw[if_neg (by omega),if_neg h];exact rJ xs b
def uq{xs:List Pl}(h:xs≠[]):nN (λd=>pcF [d]) (xs.map pD)=.ok (pD (Ef xs)):=by
 cases xs with
 |nil=>exact absurd rfl h
 |cons b xs=>
  show(match pcF [pD b]with
   |.ok (.int kx)=>qN (λd=>pcF [d]) (pD b) kx (xs.map pD)
   |_=>.no)=_;rw[Ah];exact rJ xs b
theorem fq:∀(xs:List Pl)(b:Pl),vz b xs∈b::xs
 | [],b=>w5 ..
 |x::xs,b=>by
  show(if x.1<b.1 then vz x xs else vz b xs)∈_;split;·exact w9 _ (fq xs x)
  ·rcases y9.1 (fq xs b)with h|h;·rw[h];exact w5 ..
   ·exact w9 _ (w9 _ h)
def qS{xs:List Pl}(h:xs≠[]):Ef xs∈xs:=by
 cases xs with
 |nil=>exact absurd rfl h
 |cons b xs=>exact fq xs b
def xA{P:Pl->Prop}{m:Mp}{ks:List Ky}(h:All (λ_=>P) m):∀p∈eE m ks,P p:=λp hp=>by obtain⟨k,_,e⟩:=j4.1 hp;exact All.at h e
def ck{P:Pl->Prop}{m:Mp}{ks:List Ky}(h:All (λ_=>P) m)(hn:eE m ks≠[]):P (fU m ks):=xA h _ (qS hn)
def jS{m:Mp}{ks:List Ky}{k:Ky}(hk:k∈ks)(h:m.lookup k≠none):eE m ks≠[]:=by
 cases e:m.lookup k with
 |none=>exact absurd e h
 |some p=>exact List.ne_nil_of_mem (j4.2 ⟨k,hk,e⟩)
def chF:List D->R D:=λds=>ao (fX pcF (ak 2 ds))
theorem yV{m:Mp}:∀(ks:List Ky)(a:Option Sl),eZ (oV false 1 (rvz 0)) (gj 1 (rvz 0)) (ks.map kD) [a,vD (dD m)]=.ok ((eE m ks).map pD)
 | [],a=>rfl
 |k::ks,a=>by
  have ih:=yV (m:=m) ks (vD (kD k));have h3:qr [vD (kD k),vD (dD m)] 1=.ok (kvD m):=AW rfl;have h1:=Cm (neg:=false) (i:=1) (ge:=λρ=>rdV ρ 0) (ρ:=[vD (kD k),vD (dD m)]) rfl (lC k) h3;rw[kH,Option.isSome_map]at h1;show(eW (oV false 1 (rvz 0) [vD (kD k),vD (dD m)])>>=λk'=>if k'=true then eW (gj 1 (rvz 0) [vD (kD k),vD (dD m)])>>=λx=>eZ (oV false 1 (rvz 0)) (gj 1 (rvz 0)) (ks.map kD) [vD (kD k),vD (dD m)]>>=λxs=>.ok (x::xs)else eZ (oV false 1 (rvz 0)) (gj 1 (rvz 0)) (ks.map kD) [vD (kD k),vD (dD m)])=_;rw[h1,ih];cases e:m.lookup k with
  |none=>
   have:eE m (k::ks)=eE m ks:=by unfold eE;rw[List.filterMap_cons,e]
   rw[this];rfl
  |some p=>
   have h2:=wU (i:=1) (ge:=λρ=>rdV ρ 0) (v:=pD p) h3 rfl (lC k) (by rw[kH,e];rfl);have:eE m (k::ks)=p::eE m ks:=by unfold eE;rw[List.filterMap_cons,e]
   rw[this,h2];rfl
def Dk{m:Mp}{ks:List Ky}(hn:eE m ks≠[])(hl:ks.length<=4):chF [dD m,.tup (ks.map kD)]=.ok (pD (fU m ks)):=by
 have h1:=yV (m:=m) ks none;have h2:((eE m ks).map pD).length<=sizeLine:=by
  have h3:1000<=sizeLine:=by decide
  have h4:=List.length_filterMap_le (λk=>m.lookup k) ks;rw[zV];unfold eE;omega
 have h5:=uq hn;have h6:bA (eA (aq bf (rvz 1)) [0] (oV false 1 (rvz 0)) (gj 1 (rvz 0))) [vD (dD m),vD (.tup (ks.map kD))]=.ok (.lst false ((eE m ks).map pD)):=by
  have h7:bf (.tup (ks.map kD))=.ok (ks.map kD):=rfl;have h8:fI [0] [vD (dD m),vD (.tup (ks.map kD))]=[none,vD (dD m)]:=rfl;clear h5
  walk_at "run"
 show ao (ax (cB (rO _ pcF)) oNx [vD (dD m),vD (.tup (ks.map kD))])=_;have h9:rO (bA (eA (aq bf (rvz 1)) [0] (oV false 1 (rvz 0)) (gj 1 (rvz 0)))) pcF [vD (dD m),vD (.tup (ks.map kD))]=.ok (pD (fU m ks)):=by unfold rO;rw[h6,R.ok_bind];exact h5
 clear h6 h5 h2 h1
 walk_at "run"
def allK:List Ky:=[(false,false),(true,false),(false,true),(true,true)]
def twoK:List Ky:=[(false,false),(true,false)]
def m0(k:Ky):Mp:=[(k,(0,[]))]
def cz(n:Nat)(old new:List Nat):Pl:=fU (dW n old new 0 (m0 (false,false))) allK
def eI(n:Nat)(old new:List Nat)(c:Nat):Pl:=fU (dW n old new c (m0 (true,false))) allK
def iB(n:Nat)(old new:List Nat)(c:Nat):Pl:=fU (dW n (old.take c) (new.take c) 0 (m0 (false,false))) twoK
def cA(n:Nat)(old new:List Nat)(c:Nat):Pl:=((eI n old new c).1+(iB n old new c).1,(eI n old new c).2++(iB n old new c).2)
def ma(n:Nat)(old new:List Nat)(c:Nat):Pl:=vz (cA n old new c) [cz n old new]
def gd0:Gd 0 (m0 (false,false)):=⟨by decide,.inr (λz=>nomatch z),λz hz=>by rw[wc.1 hz];exact z8 _⟩
def gd1:Gd 0 (m0 (true,false)):=⟨by decide,.inl (λz=>nomatch z),λz hz=>by rw[wc.1 hz];exact z8 _⟩
def Gd.two{m:Mp}(g:Gd J m):eE m twoK≠[]:=by
 rcases g.ne with h|h;·exact jS (by decide) h
 ·exact jS (by decide) h
def Gd.all{m:Mp}(g:Gd J m):eE m allK≠[]:=by
 rcases g.ne with h|h;·exact jS (by decide) h
 ·exact jS (by decide) h
def peF:List D->R D:=λds=>ao (bz swF chF (ak 4 ds))
def GU{h:List D->R D}{ga gc gd:Ev->R D}:aA 5 h (aa ga (aa gb (aa gc (aa gd (aa ge λ_=>.ok []))))) ρ=ga ρ>>=λx=>gb ρ>>=λy=>gc ρ>>=λz=>gd ρ>>=λw=>ge ρ>>=λv=>h [x,y,z,w,v]:=by
 unfold aA aa;cases ga ρ <;> try rfl
 simp only[aa,R.ok_bind];cases gb ρ <;> try rfl
 simp only[R.ok_bind];cases gc ρ <;> try rfl
 simp only[R.ok_bind];cases gd ρ <;> try rfl
 simp only[R.ok_bind];cases ge ρ <;> rfl
def HH(b:Bool)(ρ:Ev):gD1 (λ_=>R.ok (D.tup [D.bl b,D.bl false])) (λ_=>R.ok (D.tup [D.int 0,D.tup []])) ρ=.ok (dD (m0 (b,false))):=rfl
def Gn:mkT [D.tup [D.bl false,D.bl false],D.tup [D.bl true,D.bl false],D.tup [D.bl false,D.bl true],D.tup [D.bl true,D.bl true]]=.ok (.tup (allK.map kD)):=rfl
def J7:mkT [D.tup [D.bl false,D.bl false],D.tup [D.bl true,D.bl false]]=.ok (.tup (twoK.map kD)):=rfl
def E9(n:Nat){new:List Nat}(hl:new.length=old.length)(hw:old.length<=40):peF [.int (n:Int),.str old,.str new]=.ok (pD (cz n old new))/\(cz n old new).2.length<=4 * old.length:=by
 obtain⟨h1,g⟩:=jJ gd0 n (b:=0) hl (v8 _) (by omega);have b:=ck (ks:=allK) (P:=λp=>p.2.length<=0+4 * (old.length - 0)) g.len g.all;refine⟨?_,by unfold cz;omega⟩;have h1:swF [_,_,_,_,.int 0]=_:=h1;have h2:=Dk g.all (by decide);have k5:=@GU;have d1:=HH;have k4:=Gn;show ao (ax _ _ [vI n,vS old,vS new,none])=_;unfold cz;clear b g hw hl
 walk_at "run"
def ppF:List D->R D:=λds=>ao (cb swF chF (ak 7 ds))
def CD{x:List Nat}{c:Nat}(h:c<=x.length):DN none (some (c:Int)) (.str x)=some (.str (x.take c)):=by show some (D.str (lw x none (some (c:Int))))=_;rw[AR x c h]
def zH{a b:List Od}(h:a.length+b.length<=900):cP (.tup (a.map oD)) (.tup (b.map oD))=some (.tup ((a++b).map oD)):=by
 have h1:1000<=sizeLine:=by decide
 show(if _ then _ else _)=_;rw[if_pos (by simp only[zV];omega),sN]
def Ks(n:Nat){new:List Nat}{c:Nat}(hl:new.length=old.length)(hw:old.length<=40)(hc:c<=old.length):ppF [.int (n:Int),.str old,.str new,.int (c:Int)]=.ok (pD (cA n old new c))/\(cA n old new c).2.length<=4 * old.length:=by
 obtain⟨h1,g1⟩:=jJ gd1 n (b:=c) hl hc (by omega);have l1:(old.take c).length=c:=by rw[u7];omega
 have l2:(new.take c).length=c:=by rw[u7];omega
 obtain⟨h2,g2⟩:=jJ gd0 n (b:=0) (old:=old.take c) (new:=new.take c) (by omega) (v8 _) (by omega);have b1:=ck (ks:=allK) (P:=λp=>p.2.length<=0+4 * (old.length - c)) g1.len g1.all;have b2:=ck (ks:=twoK) (P:=λp=>p.2.length<=0+4 * ((old.take c).length - 0)) g2.len g2.two;have b3:(cA n old new c).2.length<=4 * old.length:=by unfold cA eI iB;rw[List.length_append];rw[l1]at b2;omega
 refine⟨?_,b3⟩;have h3:_=R.ok (pD (eI n old new c)):=Dk g1.all (by decide);have h4:_=R.ok (pD (iB n old new c)):=Dk g2.two (by decide);have h2:swF [_,_,_,_,.int 0]=_:=h2;have h5:=CD (x:=old) hc;have h6:=CD (x:=new) (by omega:c<=new.length);have h7:=zH (a:=(eI n old new c).2) (b:=(iB n old new c).2) (by unfold cA at b3;rw[List.length_append]at b3;omega);have k5:=@GU;have d1:=HH;have k4:=Gn;have k2:=J7;have i0:∀p:Pl,ixD (pD p) (.int 0)=some (.int (p.1:Int)):=λ_=>rfl;have i1:∀p:Pl,ixD (pD p) (.int 1)=some (.tup (p.2.map oD)):=λ_=>rfl;have i5:mkT [.int (((eI n old new c).1:Int)+((iB n old new c).1:Int)),.tup (((eI n old new c).2++(iB n old new c).2).map oD)]=.ok (pD (cA n old new c)):=rfl;show ao (ax _ _ [vI n,vS old,vS new,vI c,none,none,none])=_;clear b1 b2 b3 l1 l2 g1 g2 hl hw hc
 walk_at "run"
def rpF:List D->R D:=λds=>ao (bG peF ppF pcF (ak 5 ds))
def Gw(n:Nat){new:List Nat}{c:Nat}(hl:new.length=old.length)(hw:old.length<=40)(hc:c<=old.length):rpF [.int (n:Int),.str old,.str new,.int (c:Int)]=.ok (pD (ma n old new c))/\(ma n old new c).2.length<=4 * old.length:=by
 obtain⟨h1,b1⟩:=E9 n hl hw;obtain⟨h2,b2⟩:=Ks n hl hw hc;refine⟨?_,?_⟩
 ·have h3:_=R.ok (pD (ma n old new c)):=uq (xs:=[cA n old new c,cz n old new]) (λz=>nomatch z);have hz:2<=sizeLine:=by decide
  have mn:∀(ga:Ev->R D)(ρ:Ev),rO ga pcF ρ=ga ρ>>=λd=>match d with|.lst _ xs=>nN (λd=>pcF [d]) xs|_=>.no:=λ_ _=>rfl
  show ao (ax _ _ [vI n,vS old,vS new,vI c,none])=_;clear b1 b2 hl hw hc;rw[w8,w8,oR]at h3
  walk_at "run"
 ·rcases y9.1 (fq [cz n old new] (cA n old new c))with h|h;·unfold ma;rw[h];exact b2
  ·unfold ma;rw[List.mem_singleton.1 h];exact b1
def oy{P:Pl->Prop}{m:Mp}{a b:Ky}{o:Od}(h:All (λ_=>P) m)(ho:∀p,P p->P (ip p o)):All (λ_=>P) (move m a b o):=by
 unfold move;split;·rename_i p e;exact All.offer h (ho p (All.at h e))
 ·exact h
def mJ{P:Pl->Prop}{n b:Nat}{new:List Nat}{m:Mp}(h:All (λ_=>P) m)(hg:∀c,c<old.length->∀p,P p->P (ip p (.go n c)))(hw:∀p,P p->P (ip p .wipe))(hs:∀c,c<old.length->∀p,P p->P (ip p (.say [new.getD c 0]))):All (λ_=>P) (dW n old new b m):=by
 refine jW (P:=All (λ_=>P)) h λa c hc ha=>?_;have hc':c<old.length:=by rw[Y2]at hc;omega
 exact nu (P:=λ_=>P) (oy (oy (oy ha (hg c hc')) hw) (hg c hc')) (λk p hp _=>hs c hc' p hp) λk p hp _=>hp
def POk(p:Pl):Prop:=(∀o∈p.2,okO o=true/\sayL o<=1)/\p.1=(p.2.map aO).sum
def POk.add{p:Pl}{o:Od}(h:POk p)(ho:okO o=true)(hs:sayL o<=1):POk (ip p o):=by
 refine⟨λx hx=>?_,?_⟩
 ·rcases r8.1 hx with hx|hx;·exact h.1 x hx
  ·rw[wc.1 hx];exact⟨ho,hs⟩
 ·simp only[ip,sN,n6,h.2];simp
def POk.zero:POk (0,[]):=⟨λ_ h=>(by cases h),rfl⟩
def wq{x:List Nat}{c:Nat}(h:plain x=true)(hc:c<x.length):plain [x.getD c 0]=true:=by
 have:x.getD c 0∈x:=by rw[v9,vY hc];exact l6 hc
 unfold plain at h⊢;simp only[ca,List.all_nil,ZS];exact sI.1 h _ this
def ko{n b:Nat}{new:List Nat}{m:Mp}(h:All (λ_=>POk) m)(hn:n<=11)(hw:old.length<=40)(hl:new.length=old.length)(hp:plain new=true):All (λ_=>POk) (dW n old new b m):=
 mJ h (λc hc p q=>q.add (by simp only[okO,u8,se];omega) (v8 _)) (λp q=>q.add rfl (v8 _))
  λc hc p q=>q.add (by have:=wq hp (by omega:c<new.length);simp only[okO,this];rfl) (z8 _)
def wN(k:Ky):All (λ_=>POk) (m0 k):=λz hz=>by rw[wc.1 hz];exact POk.zero
def nO{n:Nat}{new:List Nat}(hn:n<=11)(hw:old.length<=40)(hl:new.length=old.length)(hp:plain new=true):POk (cz n old new):=
 ck (ko (wN _) hn hw hl hp) (jJ gd0 n (b:=0) hl (v8 _) (by omega)).2.all
def zJ{x:List Nat}(n:Nat)(h:plain x=true):plain (x.take n)=true:=by simp only[plain,sI]at *;exact λc hc=>h c (aT hc)
def yi{n c:Nat}{new:List Nat}(hn:n<=11)(hw:old.length<=40)(hl:new.length=old.length)(hp:plain new=true)(hc:c<=old.length):POk (eI n old new c):=
 ck (ko (wN _) hn hw hl hp) (jJ gd1 n (b:=c) hl hc (by omega)).2.all
def BI{n c:Nat}{new:List Nat}(hn:n<=11)(hw:old.length<=40)(hl:new.length=old.length)(hp:plain new=true)(hc:c<=old.length):POk (iB n old new c):=by
 have l1:(old.take c).length=c:=by rw[u7];omega
 have l2:(new.take c).length=c:=by rw[u7];omega
 exact ck (ko (wN _) hn (by omega) (by omega) (zJ c hp)) (jJ gd0 n (b:=0) (old:=old.take c) (new:=new.take c) (by omega) (v8 _) (by omega)).2.two
def wz{n c:Nat}{new:List Nat}(hn:n<=11)(hw:old.length<=40)(hl:new.length=old.length)(hp:plain new=true)(hc:c<=old.length):POk (cA n old new c):=by
 have h1:=yi hn hw hl hp hc;have h2:=BI hn hw hl hp hc;refine⟨λo ho=>?_,?_⟩
 ·rcases r8.1 ho with ho|ho;·exact h1.1 o ho
  ·exact h2.1 o ho
 ·show _+_=_;rw[h1.2,h2.2];simp[cA]
def yE{n c:Nat}{new:List Nat}(hn:n<=11)(hw:old.length<=40)(hl:new.length=old.length)(hp:plain new=true)(hc:c<=old.length):POk (ma n old new c):=by
 rcases y9.1 (fq [cz n old new] (cA n old new c))with h|h;·unfold ma;rw[h];exact wz hn hw hl hp hc
 ·unfold ma;rw[List.mem_singleton.1 h];exact nO hn hw hl hp
def Has(m:Mp)(k:Ky)(v:Nat):Prop:=∃q,m.lookup k=some q/\q.1<=v
def Has.offer{m:Mp}{j k:Ky}{v:Nat}{p:Pl}(h:Has m j v):Has (bj m k p) j v:=by
 obtain⟨q,e,hq⟩:=h;unfold Has;rw[gB];by_cases z:j=k
 ·subst z;rw[if_pos rfl,e];dsimp only;by_cases y:p.1<q.1;·rw[if_pos y];exact⟨p,rfl,by omega⟩
  ·rw[if_neg y];exact⟨q,rfl,hq⟩
 ·rw[if_neg z];exact⟨q,e,hq⟩
def Has.new{m:Mp}{k:Ky}{p:Pl}:Has (bj m k p) k p.1:=by
 unfold Has;rw[gB,if_pos rfl];cases m.lookup k with
 |none=>exact⟨p,rfl,z8 _⟩
 |some q=>
  dsimp only;by_cases y:p.1<q.1;·rw[if_pos y];exact⟨p,rfl,z8 _⟩
  ·rw[if_neg y];exact⟨q,rfl,by omega⟩
def Has.mono{m:Mp}{k:Ky}{v w:Nat}(h:Has m k v)(l:v<=w):Has m k w:=by obtain⟨q,e,hq⟩:=h;exact⟨q,e,w6 hq l⟩
def Has.keep{m:Mp}{a b j:Ky}{o:Od}{v:Nat}(h:Has m j v):Has (move m a b o) j v:=by
 unfold move;split;·exact h.offer
 ·exact h
def Has.move{m:Mp}{a b:Ky}{o:Od}{v:Nat}(h:Has m a v):Has (move m a b o) b (v+aO o):=by obtain⟨q,e,hq⟩:=h;unfold Q.move;rw[e];exact Has.new.mono (by show q.1+aO o<=_;omega)
def Has.sovK{old new:Nat}{acc:Mp}{z:Ky×Pl}{j:Ky}{v:Nat}(h:Has acc j v):Has (sovK old new acc z) j v:=by
 unfold Q.sovK;have h1:Has (if z.1.1=true then bj acc (true,z.1.2) (ip z.2 (.say [new]))else acc) j v:=by
  split;·exact h.offer
  ·exact h
 dsimp only;split;·exact h1.offer
 ·exact h1
theorem nR{old new:Nat}{j:Ky}{v:Nat}:∀{l acc:Mp},(Has acc j v\/∃z∈l,∀acc,Has (sovK old new acc z) j v)->Has (l.foldl (sovK old new) acc) j v
 | [],acc,h=>by
  rcases h with h|⟨z,hz,_⟩;·exact h
  ·cases hz
 |x::l,acc,h=>by
  refine nR (l:=l) ?_;rcases h with h|⟨z,hz,H⟩;·exact .inl h.sovK
  ·rcases y9.1 hz with hz|hz;·subst hz;exact .inl (H acc)
   ·exact .inr ⟨z,hz,H⟩
def Has.say{old new:Nat}{m:Mp}{w:Bool}{v:Nat}(h:Has m (true,w) v):Has (wx old new m) (true,w) (v+1):=by
 obtain⟨q,e,hq⟩:=h;refine nR (.inr ⟨_,iK e,λacc=>?_⟩);unfold Q.sovK;dsimp only;rw[if_pos rfl];have h1:Has (bj acc (true,w) (ip q (.say [new]))) (true,w) (v+1):=Has.new.mono (by show q.1+1<=_;omega);split;·exact h1.offer
 ·exact h1
def Has.leave{old new:Nat}{m:Mp}{a w:Bool}{v:Nat}(h:Has m (a,w) v)(e:und old w=new):Has (wx old new m) (false,w) v:=by obtain⟨q,e',hq⟩:=h;refine nR (.inr ⟨_,iK e',λacc=>?_⟩);unfold Q.sovK;dsimp only;rw[if_pos e];exact Has.new.mono hq
theorem fQ:∀(xs:List Pl)(b:Pl)(p:Pl),p∈b::xs->(vz b xs).1<=p.1
 | [],b,p,h=>by rw[wc.1 h];exact z8 _
 |x::xs,b,p,h=>by
  show(if x.1<b.1 then vz x xs else vz b xs).1<=_;by_cases y:x.1<b.1
  ·rw[if_pos y];rcases y9.1 h with h|h;·rw[h];exact w6 (fQ xs x x (w5 ..)) (ik y)
   ·exact fQ xs x p h
  ·rw[if_neg y];rcases y9.1 h with h|h;·rw[h];exact fQ xs b b (w5 ..)
   ·rcases y9.1 h with h|h;·rw[h];exact w6 (fQ xs b b (w5 ..)) (by omega)
    ·exact fQ xs b p (w9 _ h)
def oj{m:Mp}{ks:List Ky}{k:Ky}{v:Nat}(hk:k∈ks)(h:Has m k v):(fU m ks).1<=v:=by
 obtain⟨q,e,hq⟩:=h;have hm:q∈eE m ks:=j4.2 ⟨k,hk,e⟩;unfold fU;cases c:eE m ks with
 |nil=>rw[c]at hm;cases hm
 |cons b xs=>rw[c]at hm;exact w6 (fQ xs b q hm) hq
def LU(k:Ky):Has (m0 k) k 0:=⟨(0,[]),by unfold m0;rw[List.lookup_cons,beq_self_eq_true],Nat.le_refl _⟩
structure GL(s:St)(g:List (List Nat)):Prop where
 n:g.length=s.2.1.length
 l:∀x∈g,x.length=s.1/\plain x=true
def yS{s:St}{xs:List (List Nat)}(h:cu s.2.1.length s.1 xs=true):GL s (jn s.2.1.length s.1 xs):=by
 obtain⟨h1,h2⟩:=sJ h;have hp:∀n,plain (List.replicate n 32)=true:=λn=>we n 32 (by decide);unfold jn;refine⟨by rw[v6,zV,pV];omega,λx hx=>?_⟩;rcases r8.1 hx with hx|hx;·obtain⟨y,hy,rfl⟩:=s8.1 hx;have:=h2 y hy;unfold CJ;exact⟨by rw[v6,pV];omega,eG this.1 (hp _)⟩
 ·rw[(Y1.1 hx).2];exact⟨pV ..,hp _⟩
def cQ{s:St}{g:List (List Nat)}(h:GL s g){i:Nat}(hi:i<s.2.1.length):(g.getD i []).length=s.1/\plain (g.getD i [])=true:=by have:g.getD i []∈g:=dP (by rw[h.n];exact hi);exact h.l _ this
def ba{s:St}(h:GS s){i:Nat}(hi:i<s.2.1.length):(s.2.1.getD i []).length=s.1/\plain (s.2.1.getD i [])=true:=h.l _ (dP hi)
def qW(s:St)(g:List (List Nat))(i:Nat):List Od:=if i=s.2.2.1 then []else (cz i (s.2.1.getD i []) (g.getD i [])).2
def jv(s:St)(g:List (List Nat)):List Od:=(ma s.2.2.1 (s.2.1.getD s.2.2.1 []) (g.getD s.2.2.1 []) s.2.2.2).2
def bF(s:St)(g:List (List Nat)):List Od:=jv s g++(List.range' 0 s.2.1.length).flatMap (qW s g)
def zi{s:St}{g:List (List Nat)}(h:GS s)(hg:GL s g){i:Nat}(hi:i<s.2.1.length):(qW s g i).length<=4 * s.1:=by
 unfold qW;split;·exact v8 _
 ·have:=(E9 i (old:=s.2.1.getD i []) (new:=g.getD i []) (by rw[(ba h hi).1,(cQ hg hi).1]) (by rw[(ba h hi).1];exact h.w2)).2
  rwa [(ba h hi).1]at this
def Hd{s:St}{g:List (List Nat)}(h:GS s)(hg:GL s g){i:Nat}(hi:i<s.2.1.length):∀o∈qW s g i,okO o=true/\sayL o<=1:=by
 unfold qW;split;·exact λo ho=>by cases ho
 ·have hm:=h.m;exact(nO (n:=i) (by omega) (by rw[(ba h hi).1];exact h.w2) (by rw[(ba h hi).1,(cQ hg hi).1]) (cQ hg hi).2).1
def qA{s:St}{g:List (List Nat)}(h:GS s)(hg:GL s g):(jv s g).length<=4 * s.1:=by
 have:=(Gw s.2.2.1 (old:=s.2.1.getD s.2.2.1 []) (new:=g.getD s.2.2.1 []) (c:=s.2.2.2) (by rw[(ba h h.r).1,(cQ hg h.r).1]) (by rw[(ba h h.r).1];exact h.w2) (by rw[(ba h h.r).1];exact h.c)).2
 rwa [(ba h h.r).1]at this
def Aq{s:St}{g:List (List Nat)}(h:GS s)(hg:GL s g):∀o∈jv s g,okO o=true/\sayL o<=1:=by have hm:=h.m;have hr:=h.r;exact(yE (n:=s.2.2.1) (c:=s.2.2.2) (by omega) (by rw[(ba h h.r).1];exact h.w2) (by rw[(ba h h.r).1,(cQ hg h.r).1]) (cQ hg h.r).2 (by rw[(ba h h.r).1];exact h.c)).1
def wP(rows:List (List Nat)):cy 0 (rows.map .str)=(List.range' 0 rows.length).map λ(i:Nat)=>.tup [.int (i:Int),.str (rows.getD i [])]:=by
 unfold cy;rw[zV,List.range_eq_range'];refine l7 λi hi=>?_;have hi':i<rows.length:=by rw[Y2]at hi;omega
 rw[v9,v9,u9,vY hi',eB];rfl
theorem wV{F1 F2 F3 F4:List D->R D}{x0 x1:Option Sl}{s:St}{g:List (List Nat)}(h:GS s)(hg:GL s g):∀(k j:Nat)(acc:List Od)(x5 x6:Option Sl),j+k<=s.2.1.length->acc.length+4 * s.1 * k<=900->∃y5 y6,dc (vt [5,6]) (jY F1 F2 F3 peF F4) ((List.range' j k).map λ(i:Nat)=>.tup [.int (i:Int),.str (s.2.1.getD i [])])
  [x0,x1,vD (.lst false (g.map .str)),vD (.int (s.2.2.1:Int)),some (.own (acc.map oD)),x5,x6] =
  .nx [x0,x1,vD (.lst false (g.map .str)),vD (.int (s.2.2.1:Int)),some (.own ((acc++(List.range' j k).flatMap (qW s g)).map oD)),y5,y6]
 | 0,j,acc,x5,x6,_,_=>⟨x5,x6,by simp[zP]⟩
 |k+1,j,acc,x5,x6,hj,hl=>by
  have hi:j<s.2.1.length:=by omega
  have b1:=zi h hg hi;rw[Y3]at hl;obtain⟨y5,y6,ih⟩:=wV (F1:=F1) (F2:=F2) (F3:=F3) (F4:=F4) (x0:=x0) (x1:=x1) h hg k (j+1) (acc++qW s g j) (vI j) (vS (s.2.1.getD j [])) (by omega) (by rw[v6];omega);refine⟨y5,y6,?_⟩;rw[Zm,w8,fw (ρ1:=[x0,x1,vD (.lst false (g.map .str)),vD (.int (s.2.2.1:Int)),some (.own (acc.map oD)),vI j,vS (s.2.1.getD j [])]) (ρ2:=[x0,x1,vD (.lst false (g.map .str)),vD (.int (s.2.2.1:Int)),some (.own ((acc++qW s g j).map oD)),vI j,vS (s.2.1.getD j [])]) rfl ?_,ih,Y4,j6];clear ih;have e1:neF (.int (j:Int)) (.int (s.2.2.1:Int))=some (.bl (!decide (j=s.2.2.1))):=by
   rw[Lb];by_cases z:j=s.2.2.1;·rw[z,l9,sS rfl]
   ·rw[t6 z,p9.2 (by omega)]
  unfold jY qW;by_cases z:j=s.2.2.1
  ·rw[if_pos z,qo];rw[sS z]at e1;clear z b1 hl hj hi
   walk_at "run"
  ·rw[if_neg z];rw[t6 z]at e1;have e2:=(E9 j (old:=s.2.1.getD j []) (new:=g.getD j []) (by rw[(ba h hi).1,(cQ hg hi).1]) (by rw[(ba h hi).1];exact h.w2)).1;have e3:ixD (.lst false (g.map .str)) (.int (j:Int))=some (.str (g.getD j [])):=Lg (by rw[u9,vY (by rw[hg.n];exact hi),v9,vY (by rw[hg.n];exact hi)];rfl);have e4:ixD (pD (cz j (s.2.1.getD j []) (g.getD j []))) (.int 1)=some (.tup ((cz j (s.2.1.getD j []) (g.getD j [])).2.map oD)):=rfl;have e5:∀(ga:Ev->R D)(ρ:Ev),Ew 4 ga ρ=(ownAt ρ 4).out ρ λds=>(ga ρ).out ρ λd=>(asT d).out ρ λes=>if ds.length+es.length<=sizeLine then .nx (ρ.set 4 (some (.own (ds++es))))else .no:=λ_ _=>rfl;have e6:asT (.tup ((cz j (s.2.1.getD j []) (g.getD j [])).2.map oD))=.ok ((cz j (s.2.1.getD j []) (g.getD j [])).2.map oD):=rfl;have e7:(acc.map oD).length+((cz j (s.2.1.getD j []) (g.getD j [])).2.map oD).length<=sizeLine:=by
    have h1:1000<=sizeLine:=by decide
    unfold qW at b1;rw[if_neg z]at b1;rw[zV,zV];omega
   have e8:∀(a0 a1 a2 a3:Option Sl)(ds:List D)(ρ:Ev),ownAt (a0::a1::a2::a3::some (.own ds)::ρ) 4=.ok ds:=λ_ _ _ _ _ _=>rfl;rw[sN];clear z b1 hl hj hi
   walk_at "run"
theorem uB{s:St}{g:List (List Nat)}(h:GS s)(hg:GL s g):∀(k j:Nat),j+k<=s.2.1.length->((List.range' j k).flatMap (qW s g)).length<=4 * s.1 * k
 | 0,_,_=>v8 _
 |k+1,j,hj=>by have:=uB h hg k (j+1) (by omega);have b1:=zi h hg (i:=j) (by omega);rw[Zm,Y4,v6,Y3];omega
def iJ{s:St}{g:List (List Nat)}(h:GS s)(hg:GL s g):(bF s g).length<=4 * s.1 * (s.2.1.length+1):=by have:=uB h hg s.2.1.length 0 (by omega);have b1:=qA h hg;unfold bF;rw[v6,Y3];omega
def fV{s:St}{g:List (List Nat)}(h:GS s)(hg:GL s g):∀o∈bF s g,okO o=true/\sayL o<=1:=λo ho=>by
 rcases r8.1 ho with ho|ho;·exact Aq h hg o ho
 ·obtain⟨i,hi,ho⟩:=j3.1 ho;exact Hd h hg (by rw[Y2]at hi;omega) o ho
def leF(Co:Addr):List D->R D:=λds=>ao (kF crN frG rpF peF (shG Co) (ak 7 ds))
def Kq{os:List Od}(h:∀o∈os,okO o=true/\sayL o<=1)(hl:os.length<=900):shG C [.lst false (os.map oD)]=.ok (.lst false ((shO os).map oD)):=MK (λo ho=>(h o ho).1) (by omega)
def Iy{s:St}(h:GS s){xs:List (List Nat)}(hx:cu s.2.1.length s.1 xs=true)(hb:4 * s.1 * (s.2.1.length+1)<=900)(f:Bool):leF C [sD s,.lst f (xs.map .str)]=.ok (.lst false ((shO (bF s (jn s.2.1.length s.1 xs))).map oD)):=by
 have c1:=J6 h hx f;have c2:=Kh h hx f;have hg:=yS hx;generalize jn s.2.1.length s.1 xs=g at c2 hg⊢;have c3:=(Gw s.2.2.1 (old:=s.2.1.getD s.2.2.1 []) (new:=g.getD s.2.2.1 []) (c:=s.2.2.2) (by rw[(ba h h.r).1,(cQ hg h.r).1]) (by rw[(ba h h.r).1];exact h.w2) (by rw[(ba h h.r).1];exact h.c)).1;have c4:=Kq (C:=C) (fV h hg) (w6 (iJ h hg) hb);have i1:ixD (sD s) (.int 2)=some (.tup [.int (s.2.2.1:Int),.int (s.2.2.2:Int)]):=rfl;have i2:ixD (.tup [.int (s.2.2.1:Int),.int (s.2.2.2:Int)]) (.int 0)=some (.int (s.2.2.1:Int)):=rfl;have i3:ixD (.tup [.int (s.2.2.1:Int),.int (s.2.2.2:Int)]) (.int 1)=some (.int (s.2.2.2:Int)):=rfl;have i4:ixD (sD s) (.int 1)=some (.tup (s.2.1.map .str)):=rfl;have i5:ixD (.tup (s.2.1.map D.str)) (.int (s.2.2.1:Int))=some (.str (s.2.1.getD s.2.2.1 [])):=Fh (by rw[u9,vY h.r,v9,vY h.r];rfl);have hr:=h.r;have i6:ixD (.lst false (g.map D.str)) (.int (s.2.2.1:Int))=some (.str (g.getD s.2.2.1 [])):=Lg (by rw[u9,vY (by rw[hg.n];exact hr),v9,vY (by rw[hg.n];exact hr)];rfl);have i7:ixD (pD (ma s.2.2.1 (s.2.1.getD s.2.2.1 []) (g.getD s.2.2.1 []) s.2.2.2)) (.int 1)=some (.tup ((jv s g).map oD)):=rfl;have i8:yN (.tup (s.2.1.map .str))=.ok ((List.range' 0 s.2.1.length).map λ(i:Nat)=>.tup [.int (i:Int),.str (s.2.1.getD i [])]):=by show R.ok (cy 0 (s.2.1.map .str))=_;rw[wP]
 obtain⟨y5,y6,lp0⟩:=wV (F1:=crN) (F2:=frG) (F3:=rpF) (F4:=shG C) (x0:=vD (sD s)) (x1:=vD (.lst f (xs.map .str))) h hg s.2.1.length 0 (jv s g) none none (by omega) (by have:=qA h hg;rw[Y3]at hb;omega);have lp:dc (vt [5,6]) (jY crN frG rpF peF (shG C)) ((List.range' 0 s.2.1.length).map λ(i:Nat)=>.tup [.int (i:Int),.str (s.2.1.getD i [])]) [vD (sD s),vD (.lst f (xs.map .str)),vD (.lst false (g.map .str)),vD (.int (s.2.2.1:Int)),some (.own ((jv s g).map oD)),none,none]=.nx [vD (sD s),vD (.lst f (xs.map .str)),vD (.lst false (g.map .str)),vD (.int (s.2.2.1:Int)),some (.own ((bF s g).map oD)),y5,y6]:=lp0;clear lp0;show ao (ax _ _ [vD (sD s),vD (.lst f (xs.map .str)),none,none,none,none,none])=_;clear hg hx hb hr h
 walk_at "run"
def wn(Co:Addr):List D->R D:=λds=>ao (ef (leF Co) (coG Co) (ak 2 ds))
def eS(s:St)(g:List (List Nat)):Nat:=((shO (bF s g)).map aO).sum
def K3{f:Bool}{os:List Od}(h:∀o∈os,okO o=true)(hl:os.length<=1000):coG C [.lst f (os.map oD)]=.ok (.int ((os.map aO).sum:Nat)):=Lu h hl
def Jx{s:St}(h:GS s){xs:List (List Nat)}(hx:cu s.2.1.length s.1 xs=true)(hb:4 * s.1 * (s.2.1.length+1)<=900)(f:Bool):wn C [sD s,.lst f (xs.map .str)]=.ok (.int (eS s (jn s.2.1.length s.1 xs):Int)):=by
 have e1:=Iy (C:=C) h hx hb f;have hg:=yS hx;have b1:=iJ h hg;have b2:=(iU (bF s (jn s.2.1.length s.1 xs)) []).1;have e2:=K3 (C:=C) (f:=false) (Di λo ho=>(fV h hg o ho).1) (by unfold shO;simp only[List.length_nil]at b2;omega);show ao (ax _ _ [vD (sD s),vD (.lst f (xs.map .str))])=_;unfold eS;clear b1 b2 hg hb hx h
 walk_at "run"
structure SpOk(l:List (Nat×Nat))(j:Nat):Prop where
 e:∀q∈l,1<=q.2/\q.1+q.2<=j
theorem ph(f:Nat->List Od):∀l:List Nat,((l.flatMap f).map aO).sum=(l.map λi=>((f i).map aO).sum).sum
 | []=>rfl
 |i::l=>by rw[Y4,sN,n6,ph f l];simp
theorem sy(e:Nat->Nat)(r:Nat):∀n,((List.range n).map λi=>if i=r then 0 else e i).sum+(if r<n then e r else 0)=((List.range n).map e).sum
 | 0=>rfl
 |n+1=>by
  have ih:=sy e r n;rw[Za,sN,sN,n6,n6];simp only[w8,oR,nT,Y5];by_cases a:n=r;·subst a;rw[if_pos rfl,if_pos (by omega)];rw[if_neg (by omega)]at ih;omega
  ·rw[if_neg a];by_cases b:r<n;·rw[if_pos (by omega)];rw[if_pos b]at ih;omega
   ·rw[if_neg (by omega)];rw[if_neg b]at ih;omega
def cnt(f:Nat->Bool)(b k:Nat):Nat:=((List.range' b k).filter f).length
def b1(b:Bool):Nat:=if b then 1 else 0
def fc(f:Nat->Bool)(b k:Nat):cnt f b (k+1)=cnt f b k+b1 (f (b+k)):=by unfold cnt b1;rw[Yx,List.filter_append,v6];cases e:f (b+k) <;> simp[List.filter_cons,e]
def lF(f:Nat->Bool)(a k:Nat):cnt f 0 (a+k)=cnt f 0 a+cnt f a k:=by
 induction k with
 |zero=>simp[cnt]
 |succ k ih=>rw[<- fN,fc,fc,ih,eB];omega
theorem yU{f g:Nat->Bool}{c:Nat}(h:∀j,j≠c->g j=f j)(b:Nat):∀k,cnt g b k<=cnt f b k+(if b<=c/\c<b+k then 1 else 0)
 | 0=>by simp[cnt]
 |k+1=>by
  have ih:=yU h b k;rw[fc,fc];by_cases z:b+k=c
  ·rw[if_neg (by omega)]at ih;rw[if_pos (by omega)];have:b1 (g (b+k))<=1:=by unfold b1;split <;> omega
   omega
  ·rw[h _ z];by_cases y:b<=c/\c<b+k;·rw[if_pos y]at ih;rw[if_pos (by omega)];omega
   ·rw[if_neg y]at ih;rw[if_neg (by omega)];omega
section
variable{m:Mp}{h w:Bool}{v n c:Nat}
def rH(H:Has m (h,w) v):Has (dv m n c) (h,w) v:=H.keep.keep.keep
def Ft(H:Has m (false,w) v):Has (dv m n c) (true,w) (v+2):=by
 cases w with
 |false=>exact H.move.keep.keep
 |true=>exact H.keep.keep.move
def Ff(H:Has m (true,false) v):Has (dv m n c) (true,true) (v+1):=H.keep.move.keep
def EI(H:Has m (false,false) v):Has (dv m n c) (true,true) (v+3):=by have:Has (dv m n c) (true,true) (v+2+1):=H.move.move.keep;exact this
def Cn{g p:Bool}(H:Has m (h,w) v)(a:h=true\/g=true):Has (dv m n c) (true,w || p) (v+2 * b1 g+b1 p):=by
 cases h with
 |true=>
  cases p with
  |false=>rw[d4];exact(rH H).mono (by omega)
  |true=>
   cases w with
   |true=>exact(rH H).mono (by omega)
   |false=>exact(Ff H).mono (by show v+1<=v+_+1;omega)
 |false=>
  have e:g=true:=a.resolve_left (λz=>by cases z);subst e;cases p with
  |false=>rw[d4];exact(Ft H).mono (by show v+2<=v+2 * 1+_;omega)
  |true=>
   cases w with
   |true=>exact(Ft H).mono (by show v+2<=v+2 * 1+1;omega)
   |false=>exact(EI H).mono (by show v+3<=v+2 * 1+1;omega)
def BK{new:List Nat}{s g p:Bool}(H:Has m (h,w) v)(a:s=true\/p=true->h=true\/g=true)(e:s=false->und (old.getD c 0) (w || p)=new.getD c 0):Has (uI n old new m c) (s,w || p) (v+b1 s+2 * b1 g+b1 p):=by
 unfold uI;cases s with
 |true=>exact(Cn (g:=g) (p:=p) H (a (.inl rfl))).say.mono (by show v+2 * b1 g+b1 p+1<=v+1+2 * b1 g+b1 p;omega)
 |false=>
  cases p with
  |true=>exact((Cn (g:=g) (p:=true) H (a (.inr rfl))).leave (e rfl)).mono (by show v+2 * b1 g+1<=v+0+2 * b1 g+1;omega)
  |false=>have e1:=e rfl;rw[d4]at e1⊢;exact((rH H).leave e1).mono (by omega)
end
def wb(wp:Nat->Bool)(j:Nat):Bool:=(List.range j).any wp
def xU(wp:Nat->Bool)(j:Nat):wb wp (j+1)=(wb wp j || wp j):=by unfold wb;rw[List.range_succ,List.any_append,List.any_cons,List.any_nil,Bool.or_false]
theorem ux(n:Nat){old new:List Nat}{sd gn wp:Nat->Bool}{b:Nat}{h0:Bool}(hw:wb wp b=false):∀k,(∀j,b<=j->j<b+k->sd j=false->und (old.getD j 0) (wb wp (j+1))=new.getD j 0)->(∀j,b<=j->j<b+k->sd j=true\/wp j=true->(j=b/\h0=true)\/gn j=true\/(b<j/\sd (j - 1)=true))->
  Has ((List.range' b k).foldl (uI n old new) (m0 (h0,false))) ((if k=0 then h0 else sd (b+k - 1)),wb wp (b+k)) (cnt sd b k+2 * cnt gn b k+cnt wp b k)
 | 0,_,_=>by rw[if_pos rfl,Nat.add_zero,hw];exact(LU (h0,false)).mono (v8 _)
 |k+1,p1,p2=>by
  have ih:=ux n (old:=old) (new:=new) (sd:=sd) (gn:=gn) (h0:=h0) hw k (λj a b=>p1 j a (by omega)) (λj a b=>p2 j a (by omega));rw[Yx,Yw,d8,List.foldl_nil,if_neg (Nat.succ_ne_zero k),show b+(k+1)=b+k+1 from rfl,Nat.add_sub_cancel,xU,fc,fc,fc];refine(BK (s:=sd (b+k)) (g:=gn (b+k)) (p:=wp (b+k)) ih ?_ ?_).mono (by omega)
  ·intro q;rcases p2 (b+k) (by omega) (by omega) q with⟨z,z2⟩|z|⟨z,z2⟩
   ·have:k=0:=by omega
    rw[if_pos this];exact .inl z2
   ·exact .inr z
   ·rw[if_neg (by omega)];exact .inl z2
  ·intro q;have:=p1 (b+k) (by omega) (by omega) q;rw[xU]at this;exact this
def Ak(n:Nat){new:List Nat}{sd gn wp:Nat->Bool}(p1:∀j,j<old.length->sd j=false->und (old.getD j 0) (wb wp (j+1))=new.getD j 0)(p2:∀j,sd j=true\/wp j=true->gn j=true\/(0<j/\sd (j - 1)=true)):
  (cz n old new).1<=cnt sd 0 old.length+2 * cnt gn 0 old.length+cnt wp 0 old.length:=by
 have:=ux n (old:=old) (new:=new) (sd:=sd) (gn:=gn) (wp:=wp) (b:=0) (h0:=false) rfl old.length (λj _ h=>p1 j (by omega)) (λj _ _ q=>.inr (p2 j q));exact oj (k:=((if old.length=0 then false else sd (0+old.length - 1)),wb wp (0+old.length))) (by generalize (if old.length=0 then false else sd (0+old.length - 1))=x;generalize wb wp (0+old.length)=y;revert x y;decide) this
def gE{x:List Nat}{c:Nat}(h:j<c):(x.take c).getD j 0=x.getD j 0:=by rw[v9,eP,if_pos h,v9]
def yY(n:Nat){new:List Nat}{sd gn wp:Nat->Bool}{c:Nat}(hc:c<=old.length)(p1:∀j,j<old.length->sd j=false->und (old.getD j 0) (wb wp (j+1))=new.getD j 0)(p2:∀j,sd j=true\/wp j=true->gn j=true\/(0<j/\sd (j - 1)=true)\/j=c)(lo:∀w,w<c->wp w=false):
  (cA n old new c).1<=cnt sd 0 old.length+2 * cnt gn 0 old.length+cnt wp 0 old.length:=by
 have hw:∀j,j<=c->wb wp j=false:=λj hj=>by unfold wb;rw[List.any_eq_false];intro w hw;rw[lo w (by have:=nE.1 hw;omega)];decide
 have r:=ux n (old:=old) (new:=new) (sd:=sd) (gn:=gn) (wp:=wp) (b:=c) (h0:=true) (hw c (z8 _)) (old.length - c) (λj _ h=>p1 j (by omega)) (λj a _ q=>by
  rcases p2 j q with z|z|z;·exact .inr (.inl z)
  ·by_cases y:j=c;·exact .inl ⟨y,rfl⟩
   ·exact .inr (.inr ⟨by omega,z.2⟩)
  ·exact .inl ⟨z,rfl⟩);have r1:(eI n old new c).1<=_:=oj (k:=((if old.length - c=0 then true else sd (c+(old.length - c) - 1)),wb wp (c+(old.length - c)))) (by
  generalize (if old.length - c=0 then true else sd (c+(old.length - c) - 1))=x;generalize wb wp (c+(old.length - c))=y;revert x y;decide) r;have lt:(old.take c).length=c:=by rw[u7];omega
 have l:=ux n (old:=old.take c) (new:=new.take c) (sd:=sd) (gn:=gn) (wp:=wp) (b:=0) (h0:=false) rfl c (λj _ h q=>by rw[gE (by omega),gE (by omega)];exact p1 j (by omega) q) (λj _ h q=>by
  rcases p2 j q with z|z|z;·exact .inr (.inl z)
  ·exact .inr (.inr z)
  ·omega);rw[eB,hw c (z8 _)]at l;have l1:(iB n old new c).1<=_:=oj (m:=dW n (old.take c) (new.take c) 0 (m0 (false,false))) (k:=((if c=0 then false else sd (c - 1)),false)) (by
  generalize (if c=0 then false else sd (c - 1))=x;revert x;decide) (by unfold dW;rw[lt,Nat.sub_zero];exact l);have s1:=lF sd c (old.length - c);have s2:=lF gn c (old.length - c);have s3:=lF wp c (old.length - c);rw[show c+(old.length - c)=old.length by omega]at s1 s2 s3;show(eI n old new c).1+(iB n old new c).1<=_;omega
structure Fl where
 sd:Nat->Nat->Bool
 gn:Nat->Nat->Bool
 wp:Nat->Nat->Bool
def jd(f:Nat->Nat->Bool)(r c n:Nat):Nat->Nat->Bool:=λi j=>(i==r && (decide (c<=j) && decide (j<c+n))) || f i j
def oN{f:Nat->Nat->Bool}{r c n i:Nat}(h:i≠r)(j:Nat):jd f r c n i j=f i j:=by unfold jd;rw[beq_eq_false_iff_ne.2 h];rfl
def gJ{f:Nat->Nat->Bool}{r c n i:Nat}(h:f i j=true):jd f r c n i j=true:=by unfold jd;rw[h,Bool.or_true]
def eX{f:Nat->Nat->Bool}{r c n:Nat}(h1:c<=j)(h2:j<c+n):jd f r c n r j=true:=by unfold jd;rw[beq_self_eq_true,decide_eq_true h1,decide_eq_true h2];rfl
def ng{f:Nat->Nat->Bool}{r c n i:Nat}(h:jd f r c n i j=true):(i=r/\c<=j/\j<c+n)\/f i j=true:=by unfold jd at h;simp only[Bool.or_eq_true,u8,Zj,se]at h;exact h
def Df{f:Nat->Nat->Bool}{r c n i:Nat}(h:jd f r c n i j=false): ¬ (i=r/\c<=j/\j<c+n)/\f i j=false:=by
 constructor;·rintro ⟨rfl,a,b⟩;rw[eX a b]at h;cases h
 ·cases e:f i j with
  |false=>rfl
  |true=>rw[gJ e]at h;cases h
theorem oA(f:Nat->Nat->Bool)(r c k:Nat):∀n,cnt (jd f r c n r) 0 k<=cnt (f r) 0 k+n
 | 0=>by
  have:jd f r c 0 r=f r:=funext λj=>by
   unfold jd;by_cases h:c<=j;·rw[t6 (show ¬ j<c+0 by omega)];simp
   ·rw[t6 h];simp
  rw[this];exact z8 _
 |n+1=>by
  have ih:=oA f r c k n;have:=yU (f:=jd f r c n r) (g:=jd f r c (n+1) r) (c:=c+n) (λj hj=>by
   unfold jd
   congr 2
   by_cases h:c<=j
   ·by_cases h2:j<c+n;·rw[sS h2,sS (show j<c+(n+1) by omega)]
    ·rw[t6 h2,t6 (show ¬ j<c+(n+1) by omega)]
   ·rw[t6 h];rfl) 0 k;have z:(if 0<=c+n/\c+n<0+k then 1 else 0)<=1:=by split <;> omega
  omega
def flS(s:St)(o:Od)(f:Fl):Fl:=match o with
 |.say x=>{ f with sd:=jd f.sd s.2.2.1 s.2.2.2 x.length }
 |.go n k=>{ f with gn:=jd f.gn n k 1 }
 |.wipe=>{ f with wp:=jd f.wp s.2.2.1 s.2.2.2 1 }
def pB(wd:Nat)(f:Fl)(i:Nat):Nat:=cnt (f.sd i) 0 wd+2 * cnt (f.gn i) 0 wd+cnt (f.wp i) 0 wd
def wm(m wd:Nat)(f:Fl):Nat:=((List.range m).map (pB wd f)).sum
theorem CC{g h:Nat->Nat}{r d:Nat}(e:∀i,i≠r->g i=h i)(l:g r<=h r+d):∀m,((List.range m).map g).sum<=((List.range m).map h).sum+(if r<m then d else 0)
 | 0=>by simp
 |m+1=>by
  have ih:=CC e l m;rw[Za,sN,sN,n6,n6];simp only[w8,oR,nT,Y5];by_cases z:m=r;·subst z;rw[if_neg (by omega)]at ih;rw[if_pos (by omega)];omega
  ·rw[e m z];by_cases y:r<m;·rw[if_pos y]at ih;rw[if_pos (by omega)];omega
   ·rw[if_neg y]at ih;rw[if_neg (by omega)];omega
def oC(m wd:Nat)(s:St)(o:Od)(f:Fl):wm m wd (flS s o f)<=wm m wd f+aO o:=by
 have key:∀r,(∀i,i≠r->pB wd (flS s o f) i=pB wd f i)->pB wd (flS s o f) r<=pB wd f r+aO o->wm m wd (flS s o f)<=wm m wd f+aO o:=λr a b=>by
  have:=CC a b m;have z:(if r<m then aO o else 0)<=aO o:=by split <;> omega
  unfold wm;omega
 cases o with
 |say x=>
  refine key s.2.2.1 (λi hi=>?_) ?_;·unfold pB;rw[show(flS s (.say x) f).sd i=f.sd i from funext λj=>oN hi j];rfl
  ·have:=oA f.sd s.2.2.1 s.2.2.2 wd x.length;show cnt (jd f.sd s.2.2.1 s.2.2.2 x.length s.2.2.1) 0 wd+_+_<=_+x.length;unfold pB;show _+2 * cnt (f.gn _) 0 wd+cnt (f.wp _) 0 wd<=_;omega
 |go n k=>
  refine key n (λi hi=>?_) ?_;·unfold pB;rw[show(flS s (.go n k) f).gn i=f.gn i from funext λj=>oN hi j];rfl
  ·have:=oA f.gn n k wd 1;show _+2 * cnt (jd f.gn n k 1 n) 0 wd+_<=_+2;unfold pB;show cnt (f.sd _) 0 wd+_+cnt (f.wp _) 0 wd<=_;omega
 |wipe=>
  refine key s.2.2.1 (λi hi=>?_) ?_;·unfold pB;rw[show(flS s .wipe f).wp i=f.wp i from funext λj=>oN hi j];rfl
  ·have:=oA f.wp s.2.2.1 s.2.2.2 wd 1;show _+_+cnt (jd f.wp s.2.2.1 s.2.2.2 1 s.2.2.1) 0 wd<=_+1;unfold pB;show cnt (f.sd _) 0 wd+2 * cnt (f.gn _) 0 wd+_<=_;omega
structure Iv(s0:St)(b:Bool)(f:Fl)(s:St):Prop where
 wd:s.1=s0.1
 m:s.2.1.length=s0.2.1.length
 row:∀i j,i<s0.2.1.length->j<s0.1->f.sd i j=false->(s.2.1.getD i []).getD j 0=und ((s0.2.1.getD i []).getD j 0) (wb (f.wp i) (j+1))
 at':∀i j,f.sd i j=true\/f.wp i j=true->f.gn i j=true\/(0<j/\f.sd i (j - 1)=true)\/(b=true/\i=s0.2.2.1/\j=s0.2.2.2)
 pl:f.gn s.2.2.1 s.2.2.2=true\/(0<s.2.2.2/\f.sd s.2.2.1 (s.2.2.2 - 1)=true)\/(b=true/\s.2.2.1=s0.2.2.1/\s.2.2.2=s0.2.2.2)
def yK{f:Nat->Nat->Bool}{r c i:Nat}(h:i≠r)(j:Nat):wb (jd f r c 1 i) j=wb (f i) j:=by rw[show jd f r c 1 i=f i from funext λk=>oN h k]
def zt{f:Nat->Bool}{c:Nat}(h:f c=true)(hc:c<j):wb f j=true:=by unfold wb;rw[List.any_eq_true];exact⟨c,List.mem_range.2 hc,h⟩
def zp{f:Nat->Nat->Bool}{r c:Nat}(h:j<=c):wb (jd f r c 1 r) j=wb (f r) j:=by
 unfold wb;rw[Yc,ZW,ZW];constructor
 ·rintro ⟨k,hk,e⟩;refine⟨k,hk,?_⟩;rcases ng e with z|z;·have:=nE.1 hk;omega
  ·exact z
 ·rintro ⟨k,hk,e⟩;exact⟨k,hk,gJ e⟩
def dt{rows:List (List Nat)}{r i:Nat}{x:List Nat}:(rows.set r x).getD i []=if i=r/\r<rows.length then x else rows.getD i []:=by
 rw[v9,v9,Ye];by_cases h:r=i
 ·subst h;rw[if_pos rfl];by_cases h2:r<rows.length;·rw[if_pos h2,if_pos ⟨rfl,h2⟩];rfl
  ·rw[if_neg h2,if_neg (by omega),o8 (by omega)]
 ·rw[if_neg h,if_neg (by omega)]
def Iv.step{s0 s s':St}{b:Bool}{f:Fl}{o:Od}(v:Iv s0 b f s)(h:GS s)(ho:okO o=true)(e:aF s o=some s'):Iv s0 b (flS s o f) s':=by
 obtain⟨wd,rows,r,c⟩:=s;have hr:r<rows.length:=h.r;have hc:c<=wd:=h.c;have hl:(rows.getD r []).length=wd:=(h.l _ (dP hr)).1;obtain⟨v1,v2,v3,v4,v5⟩:=v;dsimp only at v1 v2 v3 v5;cases o with
 |say x=>
  simp only[okO,u8,se]at ho;simp only[aF]at e;split at e;·cases e
  ·rename_i hn;cases e;refine⟨v1,by rw[<- v2];simp,λi j hi hj q=>?_,λi j q=>?_,?_⟩
   ·obtain⟨q1,q2⟩:=Df q;dsimp only at q1;show((rows.set r _).getD i []).getD j 0=und ((s0.2.1.getD i []).getD j 0) (wb (f.wp i) (j+1));rw[<- v3 i j hi hj q2,dt];split
    ·rename_i z;rw[z.1];generalize rows.getD r []=row at *;rw[v9,v9]
     congr 1
     by_cases a:j<c;·rw[j6,qq (by rw[u7];omega),eP,if_pos a]
     ·rw[pT (by rw[v6,u7];omega),Zb]
      congr 1
      rw[v6,u7];omega
    ·rfl
   ·show f.gn i j=true\/(0<j/\jd f.sd r c x.length i (j - 1)=true)\/_;have old:f.sd i j=true\/f.wp i j=true->f.gn i j=true\/(0<j/\jd f.sd r c x.length i (j - 1)=true)\/(b=true/\i=s0.2.2.1/\j=s0.2.2.2):=λz=>(v4 i j z).imp id (λz=>z.imp (λz=>⟨z.1,gJ z.2⟩) id);rcases q with q|q
    ·rcases ng q with⟨rfl,a1,a2⟩|q
     ·by_cases y:j=c;·subst y;exact v5.imp id (λz=>z.imp (λz=>⟨z.1,gJ z.2⟩) id)
      ·exact .inr (.inl ⟨by dsimp only at a1;omega,eX (by dsimp only at a1⊢;omega) (by dsimp only at a2⊢;omega)⟩)
     ·exact old (.inl q)
    ·exact old (.inr q)
   ·exact .inr (.inl ⟨by dsimp only;omega,eX (by dsimp only;omega) (by dsimp only;omega)⟩)
 |go n k=>
  simp only[aF]at e;split at e;·cases e
  ·cases e;exact⟨v1,v2,v3,λi j q=>(v4 i j q).imp gJ id,.inl (eX (z8 _) (by dsimp only;omega))⟩
 |wipe=>
  simp only[aF]at e;cases e;refine⟨v1,by rw[<- v2];simp,λi j hi hj q=>?_,λi j q=>?_,v5⟩
  ·show((rows.set r _).getD i []).getD j 0=und _ (wb (jd f.wp r c 1 i) (j+1));by_cases y:i=r
   ·subst y;rw[dt,if_pos ⟨rfl,hr⟩];have v:=v3 i j hi hj q;generalize rows.getD i []=row at *;by_cases a:j<c;·rw[zp (by omega),<- v,v9,v9,qq (by rw[u7];omega),eP,if_pos a]
    ·rw[zt (eX (z8 c) (by omega)) (by omega),v9,pT (by rw[u7];omega),lE,if_pos (by rw[u7];omega)];rfl
   ·rw[yK y,dt,if_neg (by omega)];exact v3 i j hi hj q
  ·rcases q with q|q;·exact v4 i j (.inl q)
   ·rcases ng q with⟨rfl,a1,a2⟩|q
    ·have:j=c:=by dsimp only at a1 a2;omega
     subst this;exact v5
    ·exact v4 i j (.inr q)
theorem Iv.run(m wd:Nat):∀(os:List Od){s0 s s':St}{b:Bool}{f:Fl},Iv s0 b f s->GS s->(∀o∈os,okO o=true)->rn (some s) os=some s'->
  ∃f',Iv s0 b f' s'/\wm m wd f'<=wm m wd f+(os.map aO).sum/\(∀i j,f.wp i j=true->f'.wp i j=true)/\
   (∀r0 c0,(∀a q t,os=a++.wipe::q->rn (some s) a=some t->¬ (t.2.2.1=r0/\t.2.2.2<c0))->(∀w,w<c0->f.wp r0 w=false)->∀w,w<c0->f'.wp r0 w=false)
 | [],s0,s,s',b,f,v,_,_,e=>⟨f,by cases e;exact v,by simp,λ_ _ h=>h,λ_ _ _ h=>h⟩
 |o::os,s0,s,s',b,f,v,h,ho,e=>by
  have h1:=ho o (w5 ..);rw[hU]at e;cases z:aF s o with
  |none=>rw[show((some s).bind λs=>aF s o)=none from z,fY]at e;cases e
  |some t=>
   rw[show((some s).bind λs=>aF s o)=some t from z]at e;obtain⟨f',v',c',w',l'⟩:=Iv.run m wd os (v.step h h1 z) (lr h h1 z) (λo ho'=>ho o (w9 _ ho')) e;have c1:=oC m wd s o f;refine⟨f',v',by rw[w8,nT];omega,λi j q=>w' i j ?_,λr0 c0 H lo=>l' r0 c0 (λa q u e1 e2=>H (o::a) q u (by rw[e1];rfl) (by rw[hU,show((some s).bind λs=>aF s o)=some t from z];exact e2)) λw hw=>?_⟩
   ·cases o with
    |wipe=>exact gJ q
    |_=>exact q
   ·cases o with
    |wipe=>
     cases y:(flS s .wipe f).wp r0 w with
     |false=>rfl
     |true=>
      rcases ng y with y|y;·exact absurd ⟨y.1.symm,by omega⟩ (H [] os s rfl rfl)
      ·rw[lo w hw]at y;cases y
    |_=>exact lo w hw
def flN:Fl:=⟨λ_ _=>false,λ_ _=>false,λ_ _=>false⟩
def wb0(j:Nat):wb (λ_=>false) j=false:=by unfold wb;rw[List.any_eq_false];intro _ _ h;cases h
def iv0(s:St):Iv s true flN s:=⟨rfl,rfl,λi j _ _ _=>by show _=und _ (wb (λ_=>false) _);rw[wb0];rfl,λi j q=>(by rcases q with q|q <;> cases q),.inr (.inr ⟨rfl,rfl,rfl⟩)⟩
def Li(m wd:Nat):wm m wd flN=0:=by
 have c0:cnt (λ_=>false) 0 wd=0:=by simp[cnt]
 have:∀i,pB wd flN i=0:=λi=>by show cnt (λ_=>false) 0 wd+2 * cnt (λ_=>false) 0 wd+cnt (λ_=>false) 0 wd=0;omega
 unfold wm;induction m with
 |zero=>rfl
 |succ m ih=>rw[Za,sN,n6,ih];simp[this]
structure Bh(r0 c0:Nat)(R:List (List Nat))(s:St):Prop where
 r:s.2.2.1=r0
 c:c0<=s.2.2.2
 o:∀i,i≠r0->s.2.1.getD i []=R.getD i []
 l:∀j,j<c0->(s.2.1.getD r0 []).getD j 0=(R.getD r0 []).getD j 0
def Hc:Od->Bool
 |.go _ _=>true
 |_=>false
def Bh.step{r0 c0:Nat}{R:List (List Nat)}{s s':St}{o:Od}(v:Bh r0 c0 R s)(h:GS s)(hg:Hc o=false)(e:aF s o=some s'):Bh r0 c0 R s':=by
 obtain⟨wd,rows,r,c⟩:=s;have hr:r<rows.length:=h.r;have hl:(rows.getD r []).length=wd:=(h.l _ (dP hr)).1;have hc:c<=wd:=h.c;obtain⟨v1,v2,v3,v4⟩:=v;dsimp only at v1 v2 v3 v4;subst v1;cases o with
 |go n k=>cases hg
 |say x=>
  simp only[aF]at e;split at e;·cases e
  ·cases e;refine⟨rfl,by dsimp only;omega,λi hi=>by rw[<- v3 i hi];show(rows.set r _).getD i []=_;rw[dt,if_neg (by omega)],λj hj=>?_⟩;rw[<- v4 j hj];show((rows.set r _).getD r []).getD j 0=_;rw[dt,if_pos ⟨rfl,hr⟩];generalize rows.getD r []=row at *;rw[v9,v9,j6,qq (by rw[u7];omega),eP,if_pos (by omega)]
 |wipe=>simp only[aF]at e;cases e;refine⟨rfl,v2,λi hi=>by rw[<- v3 i hi];show(rows.set r _).getD i []=_;rw[dt,if_neg (by omega)],λj hj=>?_⟩;rw[<- v4 j hj];show((rows.set r _).getD r []).getD j 0=_;rw[dt,if_pos ⟨rfl,hr⟩];generalize rows.getD r []=row at *;rw[v9,v9,qq (by rw[u7];omega),eP,if_pos (by omega)]
theorem uR{r0 c0:Nat}{R:List (List Nat)}:∀(os:List Od){s t:St},Bh r0 c0 R s->GS s->(∀o∈os,okO o=true)->rn (some s) os=some t->
  Bh r0 c0 R t\/∃p n k q s1 s2,os=p++.go n k::q/\GS s1/\Bh r0 c0 R s1/\aF s1 (.go n k)=some s2/\rn (some s2) q=some t/\s1.1=s.1/\s1.2.1.length=s.2.1.length/\okO (.go n k)=true
 | [],s,t,v,_,_,e=>by cases e;exact .inl v
 |o::os,s,t,v,h,ho,e=>by
  have h1:=ho o (w5 ..);rw[hU]at e;cases z:aF s o with
  |none=>rw[show((some s).bind λs=>aF s o)=none from z,fY]at e;cases e
  |some u=>
   rw[show((some s).bind λs=>aF s o)=some u from z]at e;cases g:Hc o with
   |true=>
    cases o with
    |go n k=>exact .inr ⟨[],n,k,os,s,u,rfl,h,v,z,e,rfl,rfl,h1⟩
    |say x=>cases g
    |wipe=>cases g
   |false=>
    rcases uR os (v.step h g z) (lr h h1 z) (λo ho'=>ho o (w9 _ ho')) e with w|⟨p,n,k,q,s1,s2,e1,e2,e3,e4,e5,e6,e7,e8⟩;·exact .inl w
    ·refine .inr ⟨o::p,n,k,q,s1,s2,by rw[e1];rfl,e2,e3,e4,e5,?_,?_,e8⟩;·have:=(Iv.step (iv0 s) h h1 z).wd;rw[e6];exact this
     ·have:=(Iv.step (iv0 s) h h1 z).m;rw[e7];exact this
section
variable{s s0 s':St}{g:List (List Nat)}{f:Fl}
def CH(i:Nat)(hi:i<s.2.1.length)(h:GS s)(p1:∀j,j<s.1->f.sd i j=false->(g.getD i []).getD j 0=und ((s.2.1.getD i []).getD j 0) (wb (f.wp i) (j+1)))(p2:∀j,f.sd i j=true\/f.wp i j=true->f.gn i j=true\/(0<j/\f.sd i (j - 1)=true)):
  (cz i (s.2.1.getD i []) (g.getD i [])).1<=pB s.1 f i:=by
 have e:=(ba h hi).1;have:=Ak i (old:=s.2.1.getD i []) (new:=g.getD i []) (sd:=f.sd i) (gn:=f.gn i) (wp:=f.wp i) (λj hj q=>(p1 j (by omega) q).symm) p2;rw[e]at this;exact this
theorem sR{a b:Nat->Nat}:∀m,(∀i,i<m->a i<=b i)->((List.range m).map a).sum<=((List.range m).map b).sum
 | 0,_=>z8 _
 |m+1,h=>by have ih:=sR m λi hi=>h i (by omega);have:=h m (by omega);rw[Za,sN,sN,n6,n6];simp only[w8,oR,nT,Y5];omega
def sV(h:GS s)(hg:GL s g):((bF s g).map aO).sum=(ma s.2.2.1 (s.2.1.getD s.2.2.1 []) (g.getD s.2.2.1 []) s.2.2.2).1+((List.range s.2.1.length).map λi=>if i=s.2.2.1 then 0 else (cz i (s.2.1.getD i []) (g.getD i [])).1).sum:=by
 have hm:=h.m;unfold bF;rw[sN,n6,ph,<- List.range_eq_range'];have r1:=yE (n:=s.2.2.1) (c:=s.2.2.2) (by have:=h.r;omega) (by rw[(ba h h.r).1];exact h.w2) (by rw[(ba h h.r).1,(cQ hg h.r).1]) (cQ hg h.r).2 (by rw[(ba h h.r).1];exact h.c);have r3:((jv s g).map aO).sum=(ma s.2.2.1 (s.2.1.getD s.2.2.1 []) (g.getD s.2.2.1 []) s.2.2.2).1:=r1.2.symm;rw[r3]
 congr 2
 refine l7 λi hi=>?_;have hi:=nE.1 hi;unfold qW;split;·rfl
 ·exact(nO (n:=i) (by omega) (by rw[(ba h hi).1];exact h.w2) (by rw[(ba h hi).1,(cQ hg hi).1]) (cQ hg hi).2).2.symm
def mQ(h:GS s)(hg:GL s g){os:List Od}(ho:∀o∈os,okO o=true)(e:rn (some s) os=some s')(e2:s'.2.1=g):((bF s g).map aO).sum<=(os.map aO).sum:=by
 have a2:=sV h hg;have so:=sy (λi=>(cz i (s.2.1.getD i []) (g.getD i [])).1) s.2.2.1 s.2.1.length;rw[if_pos h.r]at so;have hold:(s.2.1.getD s.2.2.1 []).length=s.1:=(ba h h.r).1;by_cases H:∃a q t,os=a++.wipe::q/\rn (some s) a=some t/\t.2.2.1=s.2.2.1/\t.2.2.2<s.2.2.2
 ·obtain⟨a,q,t,rfl,ea,t1,t2⟩:=H;have hoa:∀o∈a,okO o=true:=λo h=>ho o (Z2 _ h);have hoq:∀o∈q,okO o=true:=λo h=>ho o (n8 _ (w9 _ h));rcases uR (r0:=s.2.2.1) (c0:=s.2.2.2) (R:=s.2.1) a ⟨rfl,z8 _,λ_ _=>rfl,λ_ _=>rfl⟩ h hoa ea with z|⟨p,n,k,a2',s1,s2,rfl,g1,b1,st,ra,w1,m1,okg⟩;·have:=z.c;omega
  ·have hoa2:∀o∈a2',okO o=true:=λo h=>hoa o (n8 _ (w9 _ h));have g2:=lr g1 okg st;have v1:Iv s1 false (flS s1 (.go n k) flN) s2:=by
    simp only[aF]at st;split at st;·cases st
    ·cases st;exact⟨rfl,rfl,λi j _ _ _=>by show _=und _ (wb (λ_=>false) _);rw[wb0];rfl,λi j q=>(by rcases q with q|q <;> cases q),.inl (eX (z8 _) (by dsimp only;omega))⟩
   have c1:=oC s.2.1.length s.1 s1 (.go n k) flN;rw[Li]at c1;obtain⟨f2,v2,c2,_,_⟩:=Iv.run s.2.1.length s.1 a2' v1 g2 hoa2 ra;have gt:=EH _ g2 hoa2 ra;rw[fS,ea,hU]at e;have st2:aF t .wipe=some (t.1,t.2.1.set t.2.2.1 ((t.2.1.getD t.2.2.1 []).take t.2.2.2++List.replicate (t.1 - t.2.2.2) 32),t.2.2.1,t.2.2.2):=rfl;rw[show((some t).bind λs=>aF s .wipe)=_ from st2]at e;have v3:=v2.step gt rfl st2;have c3:=oC s.2.1.length s.1 t .wipe f2;obtain⟨f4,v4,c4,w4,_⟩:=Iv.run s.2.1.length s.1 q v3 (lr gt rfl st2) hoq e;have low:f4.wp s.2.2.1 t.2.2.2=true:=w4 _ _ (by rw[<- t1];exact eX (z8 _) (by omega));have tot:wm s.2.1.length s.1 f4<=((p++.go n k::a2'++.wipe::q).map aO).sum:=by simp only[sN,w8,n6,nT];omega
   have each:∀i,i<s.2.1.length->(cz i (s.2.1.getD i []) (g.getD i [])).1<=pB s.1 f4 i:=λi hi=>by
    refine CH i hi h (λj hj q=>?_) λj q=>?_
    ·have:=v4.row i j (by rw[m1];exact hi) (by rw[w1];exact hj) q;rw[e2]at this;rw[this];by_cases y:i=s.2.2.1
     ·subst y;by_cases x:j<s.2.2.2;·rw[b1.l j x]
      ·rw[zt low (by omega)];rfl
     ·rw[b1.o i y]
    ·rcases v4.at' i j q with z|z|z;·exact .inl z
     ·exact .inr z
     ·cases z.1
   have sm:=sR s.2.1.length each;have mn:(ma s.2.2.1 (s.2.1.getD s.2.2.1 []) (g.getD s.2.2.1 []) s.2.2.2).1<=(cz s.2.2.1 (s.2.1.getD s.2.2.1 []) (g.getD s.2.2.1 [])).1:=fQ _ _ _ (by simp);unfold wm at tot;omega
 ·obtain⟨f',v',c',_,l'⟩:=Iv.run s.2.1.length s.1 os (iv0 s) h ho e;have low:=l' s.2.2.1 s.2.2.2 (λa q t e1 e3 e4=>H ⟨a,q,t,e1,e3,e4.1,e4.2⟩) λ_ _=>rfl;rw[Li]at c';have row:∀i j,i<s.2.1.length->j<s.1->f'.sd i j=false->(g.getD i []).getD j 0=und ((s.2.1.getD i []).getD j 0) (wb (f'.wp i) (j+1)):=λi j hi hj q=>by have:=v'.row i j hi hj q;rw[e2]at this;exact this
  have pm:=yY s.2.2.1 (old:=s.2.1.getD s.2.2.1 []) (new:=g.getD s.2.2.1 []) (sd:=f'.sd s.2.2.1) (gn:=f'.gn s.2.2.1) (wp:=f'.wp s.2.2.1) (c:=s.2.2.2) (by rw[hold];exact h.c) (λj hj q=>(row _ j h.r (by omega) q).symm) (λj q=>(v'.at' _ j q).imp id (λz=>z.imp id λz=>z.2.2)) low;rw[hold]at pm;have mn:(ma s.2.2.1 (s.2.1.getD s.2.2.1 []) (g.getD s.2.2.1 []) s.2.2.2).1<=(cA s.2.2.1 (s.2.1.getD s.2.2.1 []) (g.getD s.2.2.1 []) s.2.2.2).1:=fQ _ _ _ (by simp);have each:∀i,i<s.2.1.length->(if i=s.2.2.1 then 0 else (cz i (s.2.1.getD i []) (g.getD i [])).1)<=(if i=s.2.2.1 then 0 else pB s.1 f' i):=λi hi=>by
   by_cases y:i=s.2.2.1;·rw[if_pos y,if_pos y];exact z8 _
   ·rw[if_neg y,if_neg y];refine CH i hi h (λj hj q=>row i j hi hj q) λj q=>?_;rcases v'.at' i j q with z|z|z;·exact .inl z
    ·exact .inr z
    ·exact absurd z.2.1 y
  have sm:=sR s.2.1.length each;have so2:=sy (pB s.1 f') s.2.2.1 s.2.1.length;rw[if_pos h.r]at so2;unfold wm at c';have pm':(cA s.2.2.1 (s.2.1.getD s.2.2.1 []) (g.getD s.2.2.1 []) s.2.2.2).1<=pB s.1 f' s.2.2.1:=pm;omega
end
def wF{s s':St}{g:List (List Nat)}(h:GS s)(hg:GL s g){os:List Od}(ho:∀o∈os,okO o=true)(e:rn (some s) os=some s')(e2:s'.2.1=g):eS s g<=(os.map aO).sum:=by have a1:=(iU (bF s g) []).2;simp only[oR,Y5,eB]at a1;exact w6 a1 (mQ h hg ho e e2)
def ce(row:List Nat)(nw:Nat->Nat)(b j:Nat)(w:Bool)(i:Nat):Nat:=if i<b then row.getD i 0 else if i<j then nw i else und (row.getD i 0) w
def tg(row:List Nat)(nw:Nat->Nat)(b j:Nat)(w:Bool):List Nat:=(List.range row.length).map (ce row nw b j w)
def jw(row:List Nat)(nw:Nat->Nat)(b j:Nat)(w:Bool):(tg row nw b j w).length=row.length:=by unfold tg;rw[List.length_map,List.length_range]
section
variable{n b i:Nat}{row x:List Nat}{nw:Nat->Nat}{h0 w:Bool}
def ce1(h:i<b):ce row nw b j w i=row.getD i 0:=if_pos h
def ce2(h1:b<=i)(h2:i<j):ce row nw b j w i=nw i:=by unfold ce;rw[if_neg (by omega),if_pos h2]
def ce3(hb:b<=j)(h:j<=i):ce row nw b j w i=und (row.getD i 0) w:=by unfold ce;rw[if_neg (by omega),if_neg (by omega)]
def ke(h:i<row.length):(tg row nw b j w)[i]?=some (ce row nw b j w i):=by unfold tg;rw[List.getElem?_map,List.getElem?_range h];rfl
def vG(hl:x.length=row.length)(h:∀i,i<row.length->x[i]?=some (ce row nw b j w i)):x=tg row nw b j w:=by
 refine Yu λi=>?_;by_cases hi:i<row.length;·rw[h i hi,ke hi]
 ·rw[o8 (by omega),o8 (by rw[jw];omega)]
def Bb(row:List Nat)(nw:Nat->Nat)(b:Nat):row=tg row nw b b false:=by
 refine vG rfl λi hi=>?_;have:row[i]?=some (row.getD i 0):=ir hi;rw[this];by_cases z:i<b;·rw[ce1 z]
 ·rw[ce3 (z8 _) (by omega)];rfl
def EG(hb:b<=j)(hj:j<=row.length):(tg row nw b j false).take j++List.replicate (row.length - j) 32=tg row nw b j true:=by
 have l:=jw row nw b j false;refine vG (by rw[v6,u7,pV];omega) λi hi=>?_;by_cases z:i<j
 ·rw[qq (by rw[u7];omega),eP,if_pos z,ke hi];by_cases y:i<b;·rw[ce1 y,ce1 y]
  ·rw[ce2 (by omega) z,ce2 (by omega) z]
 ·rw[pT (by rw[u7];omega),lE,if_pos (by rw[u7];omega),ce3 hb (by omega)];rfl
def FX(hb:b<=j)(hj:j<row.length):(tg row nw b j w).take j++[nw j]++(tg row nw b j w).drop (j+1)=tg row nw b (j+1) w:=by
 have l:=jw row nw b j w;refine vG (by rw[v6,v6,u7,lM,r6,km];omega) λi hi=>?_;by_cases z:i<j
 ·rw[j6,qq (by rw[u7];omega),eP,if_pos z,ke hi];by_cases y:i<b;·rw[ce1 y,ce1 y]
  ·rw[ce2 (by omega) z,ce2 (by omega) (by omega)]
 ·by_cases y:i=j;·subst y;rw[j6,pT (by rw[u7];omega),u7,show i - min i (tg row nw b i w).length=0 by omega,ce2 hb (by omega)];rfl
  ·rw[pT (by rw[v6,u7,r6,km];omega),Zb,v6,u7,r6,km,show j+1+(i - (min j (tg row nw b j w).length+(0+1)))=i by omega,ke hi,ce3 hb (by omega),ce3 (by omega) (by omega)]
def zY(hb:b<=j)(hj:j<row.length)(e:und (row.getD j 0) w=nw j):tg row nw b j w=tg row nw b (j+1) w:=by
 refine vG (jw ..) λi hi=>?_;rw[ke hi];by_cases z:i<b;·rw[ce1 z,ce1 z]
 ·by_cases y:i<j;·rw[ce2 (by omega) y,ce2 (by omega) (by omega)]
  ·by_cases q:i=j;·subst q;rw[ce3 hb (z8 _),ce2 hb (by omega),e]
   ·rw[ce3 hb (by omega),ce3 (by omega) (by omega)]
noncomputable def Rch(n:Nat)(row:List Nat)(nw:Nat->Nat)(b:Nat)(h0:Bool)(j:Nat)(k:Ky)(p:Pl):Prop:=∀(R:List (List Nat))(r c:Nat),n<R.length->R.getD n []=row->(h0=true->r=n/\c=b)->
 ∃r' c',rn (some (row.length,R,r,c)) p.2=some (row.length,R.set n (tg row nw b j k.2),r',c')/\(k.1=true->r'=n/\c'=j)
def li{R:List (List Nat)}{x:List Nat}(h:n<R.length):(R.set n x).getD n []=x:=by rw[dt,if_pos ⟨rfl,h⟩]
def FE{R:List (List Nat)}(h:n<R.length):R.set n (R.getD n [])=R:=by rw[v9,vY h];exact List.set_getElem_self h
def Rch.start:Rch n row nw b h0 b (h0,false) (0,[]):=λR r c hn hr hp=>⟨r,c,by show some _=_;rw[show(h0,false).2=false from rfl,<- Bb,<- hr,FE hn],hp⟩
def ww(a:Option St)(os:List Od)(o:Od):rn a (os++[o])=(rn a os).bind λs=>aF s o:=by rw[fS];rfl
def Rch.go{p:Pl}(h:Rch n row nw b h0 j (false,w) p)(hj:j<=row.length):Rch n row nw b h0 j (true,w) (ip p (.go n j)):=λR r c hn hr hp=>by obtain⟨r',c',e,_⟩:=h R r c hn hr hp;refine⟨n,j,?_,λ_=>⟨rfl,rfl⟩⟩;show rn _ (p.2++[.go n j])=_;rw[ww,e];exact if_neg (by simp only[p6];omega)
def Rch.wipe{p:Pl}(h:Rch n row nw b h0 j (true,false) p)(hb:b<=j)(hj:j<=row.length):Rch n row nw b h0 j (true,true) (ip p .wipe):=λR r c hn hr hp=>by obtain⟨r',c',e,q⟩:=h R r c hn hr hp;obtain⟨rfl,rfl⟩:=q rfl;refine⟨r',c',?_,λ_=>⟨rfl,rfl⟩⟩;show rn _ (p.2++[.wipe])=_;rw[ww,e];show some (row.length,(R.set r' (tg row nw b c' false)).set r' (((R.set r' (tg row nw b c' false)).getD r' []).take c'++List.replicate (row.length - c') 32),r',c')=_;rw[li hn,EG hb hj,Zn]
def Rch.say{p:Pl}(h:Rch n row nw b h0 j (true,w) p)(hb:b<=j)(hj:j<row.length):Rch n row nw b h0 (j+1) (true,w) (ip p (.say [nw j])):=λR r c hn hr hp=>by obtain⟨r',c',e,q⟩:=h R r c hn hr hp;obtain⟨rfl,rfl⟩:=q rfl;refine⟨r',c'+1,?_,λ_=>⟨rfl,rfl⟩⟩;show rn _ (p.2++[.say [nw c']])=_;rw[ww,e];show(if row.length<c'+1 then none else some (row.length,(R.set r' (tg row nw b c' w)).set r' (((R.set r' (tg row nw b c' w)).getD r' []).take c'++[nw c']++((R.set r' (tg row nw b c' w)).getD r' []).drop (c'+1)),r',c'+1))=_;rw[if_neg (by omega),li hn,FX hb hj,Zn]
def Rch.leave{p:Pl}{a:Bool}(h:Rch n row nw b h0 j (a,w) p)(hb:b<=j)(hj:j<row.length)(e:und (row.getD j 0) w=nw j):Rch n row nw b h0 (j+1) (false,w) p:=λR r c hn hr hp=>by obtain⟨r',c',e1,_⟩:=h R r c hn hr hp;exact⟨r',c',by rw[e1];show some (_,R.set n (tg row nw b j w),_,_)=_;rw[zY hb hj e],λz=>by cases z⟩
def yf{P:Ky->Pl->Prop}{m:Mp}{a c:Ky}{o:Od}(h:All P m)(ho:∀p,P a p->P c (ip p o)):All P (move m a c o):=by
 unfold move;split;·rename_i q e;exact h.offer (ho q (h.at e))
 ·exact h
theorem Rch.cols{new:List Nat}(hl:∀i,i<old.length->old.getD i 0=row.getD i 0)(hn:∀i,i<old.length->new.getD i 0=nw i)(hw:old.length<=row.length):∀k,b+k<=old.length->All (Rch n row nw b h0 (b+k)) ((List.range' b k).foldl (uI n old new) (m0 (h0,false)))
 | 0,_=>λz hz=>by rw[wc.1 hz];exact Rch.start
 |k+1,h=>by
  have ih:=Rch.cols hl hn hw k (by omega);rw[Yx,Yw,d8,List.foldl_nil];show All (Rch n row nw b h0 (b+k+1)) _;have mv:All (Rch n row nw b h0 (b+k)) (dv ((List.range' b k).foldl (uI n old new) (m0 (h0,false))) n (b+k)):=
   yf (yf (yf ih λp hp=>hp.go (by omega)) λp hp=>hp.wipe (by omega) (by omega)) λp hp=>hp.go (by omega);refine nu mv (λq p hp e=>?_) λq p hp e=>?_;·rw[hn _ (by omega)];obtain⟨a,w⟩:=q;cases e;exact Rch.say hp (by omega) (by omega)
  ·rw[hn _ (by omega),hl _ (by omega)]at e;exact Rch.leave (a:=q.1) hp (by omega) (by omega) e
end
def jZ{m:Mp}{ks:List Ky}(h:eE m ks≠[]):∃k∈ks,m.lookup k=some (fU m ks):=by obtain⟨k,hk,e⟩:=j4.1 (qS h);exact⟨k,hk,e⟩
section
variable{n c:Nat}{new:List Nat}
def uO(hl:new.length=old.length)(hw:old.length<=40):∀(R:List (List Nat))(r c:Nat),n<R.length->R.getD n []=old->∃r' c',rn (some (old.length,R,r,c)) (cz n old new).2=some (old.length,R.set n new,r',c'):=by
 have a:=Rch.cols (n:=n) (row:=old) (nw:=λi=>new.getD i 0) (b:=0) (h0:=false) (old:=old) (new:=new) (λ_ _=>rfl) (λ_ _=>rfl) (z8 _) old.length (by omega);obtain⟨k,_,e⟩:=jZ (ks:=allK) (jJ gd0 n (b:=0) hl (v8 _) (by omega)).2.all;unfold dW at e;rw[ZK]at e;have p:=a.at e;intro R r c hn hr;obtain⟨r',c',e1,_⟩:=p R r c hn hr (λz=>by cases z);refine⟨r',c',?_⟩;rw[show(cz n old new).2=(fU ((List.range' 0 old.length).foldl (uI n old new) (m0 (false,false))) allK).2 by unfold cz dW;rw[Nat.sub_zero],e1];have:new=tg old (λi=>new.getD i 0) 0 (0+old.length) k.2:=vG hl λi hi=>by rw[ce2 (v8 _) (by omega)];exact ir (by omega)
 rw[<- this]
def xE(hl:new.length=old.length)(hw:old.length<=40)(hc:c<=old.length)(R:List (List Nat))(hn:n<R.length)(hr:R.getD n []=old):∃r' c',rn (some (old.length,R,n,c)) (cA n old new c).2=some (old.length,R.set n new,r',c'):=by
 have a:=Rch.cols (n:=n) (row:=old) (nw:=λi=>new.getD i 0) (b:=c) (h0:=true) (old:=old) (new:=new) (λ_ _=>rfl) (λ_ _=>rfl) (z8 _) (old.length - c) (by omega);obtain⟨k,_,e⟩:=jZ (ks:=allK) (jJ gd1 n (b:=c) hl hc (by omega)).2.all;obtain⟨r1,c1,e1,_⟩:=(a.at e) R n c hn hr (λ_=>⟨rfl,rfl⟩);have l1:(old.take c).length=c:=by rw[u7];omega
 have l2:(new.take c).length=c:=by rw[u7];omega
 have g1:∀i,i<c->(tg old (λi=>new.getD i 0) c (c+(old.length - c)) k.2).getD i 0=old.getD i 0:=λi hi=>by rw[v9,ke (by omega),ce1 hi];rfl
 have b:=Rch.cols (n:=n) (row:=tg old (λi=>new.getD i 0) c (c+(old.length - c)) k.2) (nw:=λi=>new.getD i 0) (b:=0) (h0:=false) (old:=old.take c) (new:=new.take c) (λi hi=>by rw[gE (by omega),g1 i (by omega)]) (λi hi=>gE (by omega)) (by rw[jw];omega) c (by omega);obtain⟨k2,hk2,e2⟩:=jZ (ks:=twoK) (jJ gd0 n (b:=0) (old:=old.take c) (new:=new.take c) (by omega) (v8 _) (by omega)).2.two;have e3:=e2;unfold dW at e3;rw[ZK,l1]at e3;obtain⟨r2,c2,e4,_⟩:=(b.at e3) (R.set n (tg old (λi=>new.getD i 0) c (c+(old.length - c)) k.2)) r1 c1 (by rw[p6];exact hn) (li hn) (λz=>by cases z);have kf:k2.2=false:=by
  rcases y9.1 hk2 with z|z;·rw[z]
  ·rw[wc.1 z]
 refine⟨r2,c2,?_⟩;show rn _ ((eI n old new c).2++(iB n old new c).2)=_;rw[fS];have e1':rn (some (old.length,R,n,c)) (eI n old new c).2=_:=e1;rw[e1'];rw[jw,Zn,kf]at e4;rw[show(iB n old new c).2=(fU ((List.range' 0 c).foldl (uI n (old.take c) (new.take c)) (m0 (false,false))) twoK).2 by unfold iB dW;rw[Nat.sub_zero,l1],e4];have fin:new=tg (tg old (λi=>new.getD i 0) c (c+(old.length - c)) k.2) (λi=>new.getD i 0) 0 (0+c) false:=by
  refine vG (by rw[jw];exact hl) λi hi=>?_;rw[jw]at hi;rw[ir (show i<new.length by omega)];by_cases z:i<c;·rw[ce2 (v8 _) (by omega)]
  ·rw[ce3 (v8 _) (by omega),v9 (l:=tg _ _ _ _ _),ke hi,ce2 (by omega) (by omega)];rfl
 rw[<- fin]
def E6(hl:new.length=old.length)(hw:old.length<=40)(hc:c<=old.length)(R:List (List Nat))(hn:n<R.length)(hr:R.getD n []=old):∃r' c',rn (some (old.length,R,n,c)) (ma n old new c).2=some (old.length,R.set n new,r',c'):=by
 rcases y9.1 (fq [cz n old new] (cA n old new c))with z|z;·unfold ma;rw[z];exact xE hl hw hc R hn hr
 ·unfold ma;rw[List.mem_singleton.1 z];exact uO hl hw R n c hn hr
end
section
variable{s:St}{g:List (List Nat)}
theorem tT(h:GS s)(hg:GL s g):∀(k j:Nat)(R:List (List Nat))(r c:Nat),j+k<=s.2.1.length->R.length=s.2.1.length->(∀i,j<=i->i≠s.2.2.1->R.getD i []=s.2.1.getD i [])->
  ∃R' r' c',rn (some (s.1,R,r,c)) ((List.range' j k).flatMap (qW s g))=some (s.1,R',r',c')/\R'.length=s.2.1.length/\∀i,R'.getD i []=if j<=i/\i<j+k/\i≠s.2.2.1 then g.getD i []else R.getD i []
 | 0,j,R,r,c,_,hR,_=>⟨R,r,c,rfl,hR,λi=>by rw[if_neg (by omega)]⟩
 |k+1,j,R,r,c,hj,hR,hs=>by
  have step:∃R1 r1 c1,rn (some (s.1,R,r,c)) (qW s g j)=some (s.1,R1,r1,c1)/\R1.length=s.2.1.length/\∀i,R1.getD i []=if i=j/\i≠s.2.2.1 then g.getD i []else R.getD i []:=by
   unfold qW;by_cases z:j=s.2.2.1;·rw[if_pos z];exact⟨R,r,c,rfl,hR,λi=>by rw[if_neg (by omega)]⟩
   ·rw[if_neg z];have l1:=(ba h (show j<s.2.1.length by omega)).1;have l2:=(cQ hg (show j<s.2.1.length by omega)).1;obtain⟨r1,c1,e⟩:=uO (n:=j) (old:=s.2.1.getD j []) (new:=g.getD j []) (by omega) (by rw[l1];exact h.w2) R r c (by omega) (hs j (z8 _) z);rw[l1]at e;refine⟨_,r1,c1,e,by rw[p6];exact hR,λi=>?_⟩;rw[dt];by_cases y:i=j;·subst y;rw[if_pos ⟨rfl,by omega⟩,if_pos ⟨rfl,z⟩]
    ·rw[if_neg (by omega),if_neg (by omega)]
  obtain⟨R1,r1,c1,e1,l1,g1⟩:=step;obtain⟨R2,r2,c2,e2,l2,g2⟩:=tT h hg k (j+1) R1 r1 c1 (by omega) l1 (λi hi hn=>by rw[g1,if_neg (by omega)];exact hs i (by omega) hn);refine⟨R2,r2,c2,?_,l2,λi=>?_⟩;·rw[Zm,Y4,fS,e1];exact e2
  ·rw[g2,g1];by_cases z:j+1<=i/\i<j+1+k/\i≠s.2.2.1;·rw[if_pos z,if_pos (by omega)]
   ·rw[if_neg z];by_cases y:i=j/\i≠s.2.2.1;·rw[if_pos y,if_pos (by omega)]
    ·rw[if_neg y,if_neg (by omega)]
def qi(h:GS s)(hg:GL s g):∃r c,rn (some s) (bF s g)=some (s.1,g,r,c):=by
 have l1:=(ba h h.r).1;have l2:=(cQ hg h.r).1;obtain⟨r1,c1,e1⟩:=E6 (n:=s.2.2.1) (c:=s.2.2.2) (old:=s.2.1.getD s.2.2.1 []) (new:=g.getD s.2.2.1 []) (by omega) (by rw[l1];exact h.w2) (by rw[l1];exact h.c) s.2.1 h.r rfl;rw[l1]at e1;obtain⟨R2,r2,c2,e2,l3,g2⟩:=tT h hg s.2.1.length 0 (s.2.1.set s.2.2.1 (g.getD s.2.2.1 [])) r1 c1 (by omega) (by rw[p6]) (λi _ hn=>by rw[dt,if_neg (by omega)]);refine⟨r2,c2,?_⟩;unfold bF jv;have e1':rn (some s) (ma s.2.2.1 (s.2.1.getD s.2.2.1 []) (g.getD s.2.2.1 []) s.2.2.2).2=_:=e1;rw[fS,e1',e2];have:R2=g:=by
  refine Yu λi=>?_;by_cases hi:i<s.2.1.length
  ·have q:R2.getD i []=g.getD i []:=by
    rw[g2];by_cases z:i=s.2.2.1;·rw[if_neg (by omega),dt,if_pos ⟨z,h.r⟩,z]
    ·rw[if_pos (by omega)]
   have hi2:i<g.length:=by rw[hg.n];exact hi
   rw[v9,v9,vY (by omega),vY hi2]at q;rw[vY (by omega),vY hi2];exact o9 some q
  ·rw[o8 (by omega),o8 (by rw[hg.n];omega)]
 rw[this]
def Ap{s s1 s2:St}{l o j:Od}(h:GS s)(hj:eD l o=some j)(e1:aF s l=some s1)(e2:aF s1 o=some s2):aF s j=some s2:=by
 obtain⟨wd,rows,r,c⟩:=s;have h4:=h.r;have h5:=h.c;have h6:=h.l;dsimp only at h4 h5 h6;obtain⟨g1,_⟩:=h6 _ (dP h4);cases l <;> cases o <;> first|(simp[eD]at hj;done)|skip
 ·rename_i x y;simp only[eD]at hj;split at hj
  ·cases hj;by_cases hn:wd<c+x.length;·simp only[aF,hn,t8]at e1;cases e1
   ·simp only[aF,hn,t5]at e1;cases e1;by_cases hm:wd<c+x.length+y.length;·simp only[aF,hm,t8]at e2;cases e2
    ·simp only[aF,hm,t5]at e2;cases e2;have hk : ¬ wd<c+(x++y).length:=by simp;omega
     simp only[aF,li h4,Zn,v6];have t1:((rows.getD r []).take c).length=c:=by rw[u7];omega
     have t2:((rows.getD r []).take c++x).length=c+x.length:=by rw[v6,t1]
     have a1:((rows.getD r []).take c++x++(rows.getD r []).drop (c+x.length)).take (c+x.length)=(rows.getD r []).take c++x:=by rw[YQ (by omega),<- t2,ZG]
     have a2:((rows.getD r []).take c++x++(rows.getD r []).drop (c+x.length)).drop (c+x.length+y.length)=(rows.getD r []).drop (c+(x.length+y.length)):=by
      rw[<- t2,List.drop_append,List.drop_of_length_le (by omega),Z6,t2,List.drop_drop]
      congr 1;omega
     have hk2 : ¬ wd<c+(x.length+y.length):=by omega
     rw[a1,a2,if_neg hk2];simp[fN]
  ·cases hj
 ·rename_i r1 c1 r2 c2;simp only[eD,jA]at hj;subst hj;by_cases hn:rows.length<=r1\/wd<c1;·simp only[aF,hn,t8]at e1;cases e1
  ·simp only[aF,hn,t5]at e1;cases e1;exact e2
 ·simp only[eD,jA]at hj;subst hj;simp only[aF,jA]at e1;subst e1;simp only[aF,li h4,Zn,jA]at e2;subst e2;have t1:((rows.getD r []).take c).length=c:=by rw[u7];omega
  have a1:((rows.getD r []).take c++List.replicate (wd - c) 32).take c=(rows.getD r []).take c:=by rw[YQ (by omega)];exact ZR (by omega)
  simp only[aF];rw[a1]
def Ay{s s':St}{acc:List Od}{o:Od}(h:GS s)(hk:∀p∈acc,okO p=true)(e:rn (some s) (acc++[o])=some s'):rn (some s) (di acc o)=some s':=by
 rcases BB acc with rfl|⟨a,l,rfl⟩;·exact e
 ·cases hj:eD l o with
  |none=>rw[iu hj];exact e
  |some j=>
   rw[gH hj];rw[fS,fS]at e;rw[fS];cases q:rn (some s) a with
   |none=>rw[q,fY,fY]at e;cases e
   |some s1=>
    rw[q]at e;have h1:=EH a h (λp hp=>hk p (Z2 _ hp)) q;have e1:rn (some s1) [l]=aF s1 l:=rfl;rw[e1]at e;cases q2:aF s1 l with
    |none=>rw[q2,fY]at e;cases e
    |some s2=>rw[q2]at e;have e2:aF s2 o=some s':=e;exact Ap h1 hj q2 e2
theorem ut{s s':St}(h:GS s):∀(os acc:List Od),(∀p∈acc,okO p=true)->(∀p∈os,okO p=true)->rn (some s) (acc++os)=some s'->rn (some s) (os.foldl di acc)=some s'
 | [],acc,_,_,e=>by rw[qo]at e;exact e
 |o::os,acc,h1,h2,e=>by
  refine ut h os (di acc o) (ox h1 (h2 o (w5 ..))) (λp hp=>h2 p (w9 _ hp)) ?_;rw[show acc++o::os=acc++[o]++os by simp,fS]at e;rw[fS];cases q:rn (some s) (acc++[o])with
  |none=>rw[q,fY]at e;cases e
  |some s1=>rw[Ay h h1 q,<- q];exact e
def Aw(h:GS s)(hg:GL s g):∃r c,rn (some s) (shO (bF s g))=some (s.1,g,r,c):=by obtain⟨r,c,e⟩:=qi h hg;exact⟨r,c,ut h (bF s g) [] (λ_ h=>by cases h) (λo ho=>(fV h hg o ho).1) e⟩
end
end Q
namespace Q21
open L2 Q
open PySem (sizeLine Addr)
def kS(s:Q.St):LK:=((s.1:Int),s.2.1,(s.2.2.1:Int),(s.2.2.2:Int))
def unK(k:LK):Q.St:=(k.1.toNat,k.2.1,k.2.2.1.toNat,k.2.2.2.toNat)
def Eh(s:Q.St):unK (kS s)=s:=rfl
def jB(sg:List Nat)(m wd:Nat):List Od:=(.wipe::sg.map λc=>.say [c])++(List.range m).flatMap λi=>(List.range (wd+1)).map λj=>.go i j
def lL(sg:List Nat)(k:LK):List (Nat×LK):=(jB sg (unK k).2.1.length (unK k).1).filterMap λo=>(aF (unK k) o).map λs'=>(aO o,kS s')
def mem_ords{sg:List Nat}{m wd:Nat}{o:Od}:o∈jB sg m wd ↔ o=.wipe\/(∃c∈sg,o=.say [c])\/∃i j,i<m/\j<=wd/\o=.go i j:=by
 unfold jB;rw[r8,y9,s8,j3];constructor
 ·rintro ((h|⟨c,hc,h⟩)|⟨i,hi,h⟩);·exact .inl h
  ·exact .inr (.inl ⟨c,hc,h.symm⟩)
  ·obtain⟨j,hj,h⟩:=s8.1 h;rw[nE]at hi hj;exact .inr (.inr ⟨i,j,hi,by omega,h.symm⟩)
 ·rintro (h|⟨c,hc,h⟩|⟨i,j,hi,hj,h⟩);·exact .inl (.inl h)
  ·exact .inl (.inr ⟨c,hc,h.symm⟩)
  ·exact .inr ⟨i,nE.2 hi,s8.2 ⟨j,nE.2 (by omega),h.symm⟩⟩
def mem_next{sg:List Nat}{k:LK}{p:Nat×LK}:p∈lL sg k ↔ ∃o∈jB sg (unK k).2.1.length (unK k).1,∃s',aF (unK k) o=some s'/\p=(aO o,kS s'):=by
 unfold lL;rw[j4];constructor
 ·rintro ⟨o,ho,h⟩;cases q:aF (unK k) o with
  |none=>rw[q]at h;cases h
  |some s'=>rw[q]at h;cases h;exact⟨o,ho,s',q,rfl⟩
 ·rintro ⟨o,ho,s',e,rfl⟩;exact⟨o,ho,by rw[e];rfl⟩
def B3{sg:List Nat}(k:LK):∀p∈lL sg k,p.1=1\/p.1=2:=λp hp=>by
 obtain⟨o,ho,s',_,rfl⟩:=mem_next.1 hp;rcases mem_ords.1 ho with rfl|⟨c,_,rfl⟩|⟨i,j,_,_,rfl⟩;·exact .inl rfl
 ·exact .inl rfl
 ·exact .inr rfl
def S3:List Nat:=[32,97,98]
def lists{α:Type}(S:List α):Nat->List (List α)
 | 0=>[[]]
 |n+1=>S.flatMap λa=>(lists S n).map (a::·)
theorem ly{α:Type}{S:List α}:∀{n:Nat}{l:List α},l.length=n->(∀a∈l,a∈S)->l∈lists S n
 | 0,[],_,_=>wc.2 rfl
 |n+1,a::l,h,hs=>j3.2 ⟨a,hs a (w5 ..),s8.2 ⟨l,ly (Nat.succ.inj h) λb hb=>hs b (w9 _ hb),rfl⟩⟩
theorem nz{α:Type}{S:List α}:∀{n:Nat}{l:List α},l∈lists S n->l.length=n/\∀a∈l,a∈S
 | 0,l,h=>by rw[wc.1 h];exact⟨rfl,λ_ h=>nomatch h⟩
 |n+1,l,h=>by obtain⟨a,ha,h⟩:=j3.1 h;obtain⟨t,ht,rfl⟩:=s8.1 h;obtain⟨h1,h2⟩:=nz ht;exact⟨by rw[r6,h1],λb hb=>(y9.1 hb).elim (λe=>e▸ha) (h2 b)⟩
theorem pb{α:Type}{S:List α}:∀n:Nat,(lists S n).length=S.length ^ n
 | 0=>rfl
 |n+1=>by show(S.flatMap λa=>(lists S n).map (a::·)).length=_;rw[Yy];simp only[zV,pb n,Yz,YA,Nat.pow_succ,Z7]
structure In21(w m:Nat)(s:Q.St):Prop where
 hw:s.1=w
 hm:s.2.1.length=m
 r:s.2.2.1<m
 c:s.2.2.2<=w
 l:∀x∈s.2.1,x.length=w/\∀a∈x,a∈S3
def vU(w m:Nat):List LK:=(lists (lists S3 w) m).flatMap λrows=>(List.range m).flatMap λr=>(List.range (w+1)).map λc=>kS (w,rows,r,c)
def mem_all{w m:Nat}{k:LK}:k∈vU w m ↔ ∃s,k=kS s/\In21 w m s:=by
 unfold vU;constructor;·intro h;obtain⟨rows,h1,h⟩:=j3.1 h;obtain⟨r,h2,h⟩:=j3.1 h;obtain⟨c,h3,rfl⟩:=s8.1 h;obtain⟨a1,a2⟩:=nz h1;rw[nE]at h2 h3;exact⟨_,rfl,rfl,a1,h2,by show c<=w;omega,λx hx=>nz (a2 x hx)⟩
 ·rintro ⟨⟨wd,rows,r,c⟩,rfl,h⟩;have hw:wd=w:=h.hw;subst hw;exact j3.2 ⟨rows,ly h.hm λx hx=>ly (h.l x hx).1 (h.l x hx).2,j3.2 ⟨r,nE.2 h.r,s8.2 ⟨c,nE.2 (Nat.lt_succ_of_le h.c),rfl⟩⟩⟩
def E7{w m:Nat}(hw:w<=4)(hm:m<=2):(vU w m).length<sizeLine:=by
 have e:(vU w m).length=(3 ^ w) ^ m * (m * (w+1)):=by unfold vU;simp only[Yy,zV,eQ,Yz,YA,pb];rfl
 rw[e];have a1:(3 ^ w) ^ m<=(3 ^ 4) ^ 2:=w6 (Nat.pow_le_pow_left (Nat.pow_le_pow_right (by decide) hw) m) (Nat.pow_le_pow_right (by decide) hm);exact ZX (Z0 a1 (Z0 hm (Zl hw))) (by decide)
def uF{x:List Nat}(h:∀a∈x,a∈S3):plain x=true:=by unfold plain;rw[sI];intro a ha;have:=h a ha;simp only[S3,y9,ic,n5]at this;rcases this with rfl|rfl|rfl <;> rfl
def In21.gs{w m:Nat}{s:Q.St}(h:In21 w m s)(w1:1<=w)(w2:w<=4)(m2:m<=2):GS s:=
 ⟨by rw[h.hw];exact w1,by rw[h.hw];omega,by rw[h.hm];omega,by rw[h.hm];exact h.r,by rw[h.hw];exact h.c,λx hx=>⟨by rw[h.hw];exact(h.l x hx).1,uF (h.l x hx).2⟩⟩
def In21.step{w m:Nat}{s s':Q.St}{sg:List Nat}{o:Od}(h:In21 w m s)(hs:∀c∈sg,c∈S3)(ho:o∈jB sg m w)(e:aF s o=some s'):In21 w m s':=by
 obtain⟨wd,rows,r,c⟩:=s;have hw:wd=w:=h.hw;subst hw;have hm:rows.length=m:=h.hm;have hr:r<m:=h.r;have hc:c<=wd:=h.c;have hl:=h.l;have row:∀y:List Nat,y.length=wd->(∀a∈y,a∈S3)->∀x∈rows.set r y,x.length=wd/\∀a∈x,a∈S3:=λy h1 h2 x hx=>by
  rcases List.mem_or_eq_of_mem_set hx with hx|rfl;·exact hl x hx
  ·exact⟨h1,h2⟩
 have old:(rows.getD r []).length=wd/\∀a∈rows.getD r [],a∈S3:=hl _ (dP (by rw[hm];exact hr));rcases mem_ords.1 ho with rfl|⟨d,hd,rfl⟩|⟨i,j,hi,hj,rfl⟩
 ·cases e;refine⟨rfl,by show(rows.set _ _).length=_;rw[p6];exact hm,hr,hc,row _ (by rw[v6,u7,pV,old.1];omega) λa ha=>?_⟩;rcases r8.1 ha with ha|ha;·exact old.2 a (aT ha)
  ·rw[(Y1.1 ha).2];exact w5 ..
 ·simp only[aF]at e;split at e;·cases e
  ·rename_i q;cases e;have q : ¬ wd<c+1:=q;refine⟨rfl,by show(rows.set _ _).length=_;rw[p6];exact hm,hr,by show c+1<=wd;omega,row _ ?_ λa ha=>?_⟩;·simp only[v6,u7,lM,old.1,r6,km];omega
   ·rcases r8.1 ha with ha|ha
    ·rcases r8.1 ha with ha|ha;·exact old.2 a (aT ha)
     ·rw[wc.1 ha];exact hs d hd
    ·exact old.2 a (List.mem_of_mem_drop ha)
 ·simp only[aF]at e;split at e;·cases e
  ·cases e;exact⟨rfl,hm,hi,hj,hl⟩
def PSg(S:List Nat)(p:Pl):Prop:=∀x,Od.say x∈p.2->∀c∈x,c∈S
def PSg.add{p:Pl}{o:Od}(h:PSg S p)(ho:∀x,o=.say x->∀c∈x,c∈S):PSg S (ip p o):=λx hx=>by
 rcases r8.1 hx with hx|hx;·exact h x hx
 ·exact ho x (wc.1 hx).symm
def PSg.zero:PSg S (0,[]):=λ_ h=>nomatch h
def Ek(k:Ky):All (λ_=>PSg S) (m0 k):=λz hz=>by rw[wc.1 hz];exact PSg.zero
def mV{n b:Nat}{new:List Nat}{m:Mp}(h:All (λ_=>PSg S) m)(hl:new.length=old.length)(hs:∀c∈new,c∈S):All (λ_=>PSg S) (dW n old new b m):=
 mJ h (λc hc p q=>q.add λx e=>nomatch e) (λp q=>q.add λx e=>nomatch e)
  λc hc p q=>q.add λx e=>by cases e;intro d hd;rw[wc.1 hd,v9,vY (by omega)];exact hs _ (l6 _)
def yq{n:Nat}{new:List Nat}(hw:old.length<=40)(hl:new.length=old.length)(hs:∀c∈new,c∈S):PSg S (cz n old new):=
 ck (mV (Ek _) hl hs) (jJ gd0 n (b:=0) hl (v8 _) (by omega)).2.all
def Bi{n c:Nat}{new:List Nat}(hw:old.length<=40)(hl:new.length=old.length)(hs:∀c∈new,c∈S)(hc:c<=old.length):PSg S (eI n old new c):=
 ck (mV (Ek _) hl hs) (jJ gd1 n (b:=c) hl hc (by omega)).2.all
def C4{n c:Nat}{new:List Nat}(hw:old.length<=40)(hl:new.length=old.length)(hs:∀c∈new,c∈S)(hc:c<=old.length):PSg S (iB n old new c):=by
 have l1:(old.take c).length=c:=by rw[u7];omega
 have l2:(new.take c).length=c:=by rw[u7];omega
 exact ck (mV (Ek _) (by omega) λd hd=>hs d (aT hd)) (jJ gd0 n (b:=0) (old:=old.take c) (new:=new.take c) (by omega) (v8 _) (by omega)).2.two
def HK{n c:Nat}{new:List Nat}(hw:old.length<=40)(hl:new.length=old.length)(hs:∀c∈new,c∈S)(hc:c<=old.length):PSg S (ma n old new c):=by
 rcases y9.1 (fq [cz n old new] (cA n old new c))with h|h
 ·unfold ma;rw[h];intro x hx;rcases r8.1 hx with hx|hx;·exact Bi hw hl hs hc x hx
  ·exact C4 hw hl hs hc x hx
 ·unfold ma;rw[List.mem_singleton.1 h];exact yq hw hl hs
def AZ{s:Q.St}{g:List (List Nat)}(h:GS s)(hg:GL s g){x:List Nat}(hx:Od.say x∈bF s g):∀c∈x,c∈g.flatten:=by
 have get:∀i,i<s.2.1.length->∀c∈g.getD i [],c∈g.flatten:=λi hi c hc=>List.mem_flatten.2 ⟨_,dP (by rw[hg.n];exact hi),hc⟩;rcases r8.1 hx with hx|hx;·exact HK (by rw[(ba h h.r).1];exact h.w2) (by rw[(ba h h.r).1,(cQ hg h.r).1]) (get _ h.r) (by rw[(ba h h.r).1];exact h.c) x hx
 ·obtain⟨i,hi,hx⟩:=j3.1 hx;have hi:i<s.2.1.length:=by rw[Y2]at hi;omega
  unfold qW at hx;split at hx;·cases hx
  ·exact yq (by rw[(ba h hi).1];exact h.w2) (by rw[(ba h hi).1,(cQ hg hi).1]) (get i hi) x hx
def dU:Ev->O:=(Go (vt [2,3,4]) (rvz 0))
noncomputable def dS:Ev->O:=(oIf (gB2 eqF (g2 ixD (rvz 1) (ciz 0)) (csz [103,111])) (ax (hZ 5 (mM (g2 ltD (g2 ixD (rvz 1) (ciz 1)) (gOf fm (aa (rvz 3) nlz))) (g2 leD (g2 ixD (rvz 1) (ciz 2)) (rvz 2)))) (ax (cB (gIf (aq jy (rvz 5)) (aq mkT (aa (rvz 2) (aa (rvz 3) (aa (aq mkT (aa (g2 ixD (rvz 1) (ciz 1)) (aa (g2 ixD (rvz 1) (ciz 2)) nlz))) nlz)))) (csz [110,111,32,114,111,111,109]))) oNx)) oNx)
def dB:Ev->O:=(hZ 6 (gIf (gB2 eqF (g2 ixD (rvz 1) (ciz 0)) (csz [115,97,121])) (g2 ixD (rvz 1) (ciz 1)) (g2 ja (csz [32]) (g2 Bv (rvz 2) (g2 ixD (rvz 4) (ciz 1))))))
def dJ:Ev->O:=(hZ 7 (g2 cP (g2 ixD (rvz 4) (ciz 1)) (gOf fm (aa (rvz 6) nlz))))
def dN:Ev->O:=(oIf (gB2 gtD (rvz 7) (rvz 2)) (ax (cB (csz [110,111,32,114,111,111,109])) oNx) oNx)
def dQ:Ev->O:=(hZ 8 (g2 ixD (rvz 3) (g2 ixD (rvz 4) (ciz 0))))
def dI:Ev->O:=(hZ 8 (g2 cP (g2 cP (gSl (rvz 8) (λ_=>R.ok none) (pO (g2 ixD (rvz 4) (ciz 1)))) (rvz 6)) (gSl (rvz 8) (pO (rvz 7)) (λ_=>R.ok none))))
def dG:Ev->O:=(hZ 9 (g2 cP (g2 cP (gSl (rvz 3) (λ_=>R.ok none) (pO (g2 ixD (rvz 4) (ciz 0)))) (aq mkT (aa (rvz 8) nlz))) (gSl (rvz 3) (pO (g2 cP (g2 ixD (rvz 4) (ciz 0)) (ciz 1))) (λ_=>R.ok none))))
def dF:Ev->O:=(cB (aq mkT (aa (rvz 2) (aa (rvz 9) (aa (aq mkT (aa (g2 ixD (rvz 4) (ciz 0)) (aa (gIf (gB2 eqF (g2 ixD (rvz 1) (ciz 0)) (csz [115,97,121])) (rvz 7) (g2 ixD (rvz 4) (ciz 1))) nlz))) nlz)))))
def ff:Ev->O:=(ax dU (ax dS (ax dB (ax dJ (ax dN (ax dQ (ax dI (ax dG (ax dF oNx)))))))))
def kj(aC:List D->R D):Ev->O:=(Cy 2 (zy (aa (aq mkT (aa (ciz 1) (aa (aA 2 aC (aa (rvz 0) (aa (aq mkT (aa (csz [119,105,112,101]) nlz)) nlz))) nlz))) nlz)))
def ii(aC:List D->R D):Ev->O:=(ax (Hj 2 (aq mkT (aa (ciz 1) (aa (aA 2 aC (aa (rvz 0) (aa (aq mkT (aa (csz [115,97,121]) (aa (rvz 3) nlz))) nlz))) nlz)))) oNx)
def kz(aC:List D->R D):Ev->O:=(zC (gO 3) (aq bf (gOf jV (aa (nr "str" pS (csz []) (aa (rvz 1) nlz)) nlz))) (ii aC))
noncomputable def ie(aC:List D->R D):Ev->O:=(ax (KZ 2 (bA (eA (aq bX (aa (g2 cP (g2 ixD (rvz 0) (ciz 0)) (ciz 1)) nlz)) [0,4] (λ_=>R.ok true) (aq mkT (aa (ciz 2) (aa (aA 2 aC (aa (rvz 1) (aa (aq mkT (aa (csz [103,111]) (aa (rvz 2) (aa (rvz 0) nlz)))) nlz))) nlz)))))) oNx)
def lN(aC:List D->R D):Ev->O:=(zC (gO 4) (aq bX (aa (gOf fm (aa (rvz 1) nlz)) nlz)) (ie aC))
def lH(aC:List D->R D):Ev->O:=(cB (bA (eA (aq bf (rvz 2)) [] (gB2 neF (g2 ixD (rvz 0) (ciz 1)) (csz [110,111,32,114,111,111,109])) (rvz 0))))
def gA(aC:List D->R D):Ev->O:=(ax (kj aC) (ax (kz aC) (ax (lN aC) (CP 2 (ax (lH aC) oNx)))))
def stG:List D->R D:=λds=>ao (ff (ak 10 ds))
def wNo:D:=.str [110,111,32,114,111,111,109]
def zz:Option Q.St->D
 |some s=>sD s
 |none=>wNo
def KI{s:Q.St}(h:GS s){o:Od}(ho:okO o=true):stG [sD s,oD o]=.ok (zz (aF s o)):=by
 obtain⟨wd,rows,r,c⟩:=s;obtain⟨g1,g2⟩:=GH h.ok;have hw:wd<=40:=h.w2;have hcw:c<=wd:=h.c;have hrr:r<rows.length:=h.r;have hmm:rows.length<=12:=h.m;dsimp only at g1 g2;show stG [scr wd rows r c,oD o]=_;have o0:∀(h:List Nat)(l:List D),ixD (.tup (.str h::l)) (.int 0)=some (.str h):=λ_ _=>Fh (k:=0) rfl;have x3:ixD (.tup [.int (r:Int),.int (c:Int)]) (.int 0)=some (.int (r:Int)):=rfl;have x4:ixD (.tup [.int (r:Int),.int (c:Int)]) (.int 1)=some (.int (c:Int)):=rfl;have x5:ixD (.tup (rows.map .str)) (.int (r:Int))=some (.str (rows.getD r [])):=Fh g1;have l1:(rows.map D.str).length=rows.length:=by simp
 have k1:∀x,mkT [x]=.ok (.tup [x]):=λ_=>m_t (by simp);have k2:∀x y,mkT [x,y]=.ok (.tup [x,y]):=λ_ _=>m_t (by simp);have k3:∀x y z,mkT [x,y,z]=.ok (.tup [x,y,z]):=λ_ _ _=>m_t (by simp);have c5:=Eo (rows.map D.str) r;have c6:lw (rows.map D.str) (some ((r:Int)+1)) none=(rows.map D.str).drop (r+1):=rQ _ (r+1);have s1:∀o:D,vt [2,3,4] (scr wd rows r c) [some (.val (scr wd rows r c)),some (.val o),none,none,none,none,none,none,none,none]=.ok [some (.val (scr wd rows r c)),some (.val o),some (.val (.int (wd:Int))),some (.val (.tup (rows.map .str))),some (.val (.tup [.int (r:Int),.int (c:Int)])),none,none,none,none,none]:=λ_=>rfl;have b7:∀y:List Nat,cP (.tup ((rows.map D.str).take r)) (.tup [.str y])=some (.tup ((rows.map D.str).take r++[.str y])):=λy=>Hi (by have:=bg;simp;omega);have b8:∀y:List Nat,cP (.tup ((rows.map D.str).take r++[.str y])) (.tup ((rows.map D.str).drop (r+1)))=some (.tup ((rows.set r y).map D.str)):=λy=>by rw[<- Aj rows r y hrr];exact Hi (by have:=bg;simp;omega)
 cases o with
 |say x=>
  have hx:x.length<=40:=by simp only[okO,u8,se]at ho;exact ho.2.2
  have q1:(([115,97,121]:List Nat)==[115,97,121])=true:=rfl;have q2:(([115,97,121]:List Nat)==[103,111])=false:=rfl;have o1:ixD (.tup [.str [115,97,121],.str x]) (.int 1)=some (.str x):=Fh (k:=1) rfl;have n1:(c:Int)+(x.length:Int)=((c+x.length:Nat):Int):=by omega
  show ao (ax _ _ [some (.val (scr wd rows r c)),some (.val (.tup [.str [115,97,121],.str x])),none,none,none,none,none,none,none,none])=_;unfold dU dS dB dJ dN dQ dI dG dF;by_cases hn:wd<c+x.length
  ·have e:aF (wd,rows,r,c) (.say x)=none:=if_pos hn;have d1:decide ((wd:Int)<((c+x.length:Nat):Int))=true:=by simp;omega
   rw[e];clear h ho g1 g2 hn hw hcw hrr hmm hx e
   walk_at "run"
   all_goals rfl
  ·have e:aF (wd,rows,r,c) (.say x)=some (wd,rows.set r ((rows.getD r []).take c++x++(rows.getD r []).drop (c+x.length)),r,c+x.length):=if_neg hn;have d1:decide ((wd:Int)<((c+x.length:Nat):Int))=false:=by simp;omega
   rw[e];show _=R.ok (scr wd (rows.set r ((rows.getD r []).take c++x++(rows.getD r []).drop (c+x.length))) r (c+x.length));generalize rows.getD r []=row at x5 g2⊢;have c1:=Eo row c;have c2:=rQ row (c+x.length);have a1:cP (.str (row.take c)) (.str x)=some (.str (row.take c++x)):=xy (by have:=bg;simp;omega);have a2:cP (.str (row.take c++x)) (.str (row.drop (c+x.length)))=some (.str (row.take c++x++row.drop (c+x.length))):=xy (by have:=bg;simp;omega);clear h ho g1 g2 hn hw hcw hrr hmm hx e
   walk_at "run"
   all_goals rfl
 |go n k=>
  have q1:(([103,111]:List Nat)==[115,97,121])=false:=rfl;have q2:(([103,111]:List Nat)==[103,111])=true:=rfl;have o1:ixD (.tup [.str [103,111],.int (n:Int),.int (k:Int)]) (.int 1)=some (.int (n:Int)):=Fh (k:=1) rfl;have o2:ixD (.tup [.str [103,111],.int (n:Int),.int (k:Int)]) (.int 2)=some (.int (k:Int)):=Fh (k:=2) rfl;show ao (ax _ _ [some (.val (scr wd rows r c)),some (.val (.tup [.str [103,111],.int (n:Int),.int (k:Int)])),none,none,none,none,none,none,none,none])=_;unfold dU dS dB dJ dN dQ dI dG dF;by_cases hn:n<rows.length
  ·by_cases hk:k<=wd
   ·have e:aF (wd,rows,r,c) (.go n k)=some (wd,rows,n,k):=if_neg (by omega);have d1:decide ((n:Int)<(rows.length:Int))=true:=by simp;omega
    have d2:decide ((k:Int)<=(wd:Int))=true:=by simp;omega
    rw[e];show _=R.ok (scr wd rows n k);clear h ho g1 g2 hn hw hcw hrr hmm e
    walk_at "run"
    all_goals rfl
   ·have e:aF (wd,rows,r,c) (.go n k)=none:=if_pos (by omega);have d1:decide ((n:Int)<(rows.length:Int))=true:=by simp;omega
    have d2:decide ((k:Int)<=(wd:Int))=false:=by simp;omega
    rw[e];clear h ho g1 g2 hn hw hcw hrr hmm e
    walk_at "run"
    all_goals rfl
  ·have e:aF (wd,rows,r,c) (.go n k)=none:=if_pos (by omega);have d1:decide ((n:Int)<(rows.length:Int))=false:=by simp;omega
   rw[e];clear h ho g1 g2 hn hw hcw hrr hmm e
   walk_at "run"
   all_goals rfl
 |wipe=>
  have q1:(([119,105,112,101]:List Nat)==[115,97,121])=false:=rfl;have q2:(([119,105,112,101]:List Nat)==[103,111])=false:=rfl;have n0:(wd:Int) - (c:Int)=((wd - c:Nat):Int):=by omega
  have m1:=xI (n:=wd - c) (by omega);have n1:(c:Int)+((List.replicate (wd - c) 32).length:Int)=(wd:Int):=by rw[pV];omega
  have d1:decide ((wd:Int)<(wd:Int))=false:=by simp
  show ao (ax _ _ [some (.val (scr wd rows r c)),some (.val (.tup [.str [119,105,112,101]])),none,none,none,none,none,none,none,none])=_;unfold dU dS dB dJ dN dQ dI dG dF;show _=R.ok (scr wd (rows.set r ((rows.getD r []).take c++List.replicate (wd - c) 32)) r c);generalize rows.getD r []=row at x5 g2⊢;have c1:=Eo row c;have c2:lw row (some (wd:Int)) none=[]:=by rw[rQ row wd];exact List.drop_eq_nil_of_le (by omega)
  have a1:cP (.str (row.take c)) (.str (List.replicate (wd - c) 32))=some (.str (row.take c++List.replicate (wd - c) 32)):=xy (by have:=bg;simp;omega);have a2:cP (.str (row.take c++List.replicate (wd - c) 32)) (.str [])=some (.str (row.take c++List.replicate (wd - c) 32)):=by rw[xy (by have:=bg;simp;omega),qo]
  generalize List.replicate (wd - c) 32=bl at *;clear h ho g1 g2 hw hcw hrr hmm
  walk_at "run"
  all_goals rfl
def nxG:List D->R D:=λds=>ao (gA stG (ak 5 ds))
def itD(s:Q.St)(o:Od):D:=.tup [.int (aO o:Int),zz (aF s o)]
theorem jt:∀xs:List (List Nat),jF [] xs=xs.flatten
 | []=>rfl
 | [x]=>by simp[jF]
 |x::y::r=>by show x++[]++jF [] (y::r)=_;rw[jt (y::r),qo];rfl
theorem ni:∀g:List (List Nat),L2.lX (g.map .str)=some g
 | []=>rfl
 |x::g=>by show(L2.lX (g.map .str)).map (x::·)=_;rw[ni g];rfl
def mk2(x y:D):mkT [x,y]=.ok (.tup [x,y]):=m_t (by simp)
section
variable{s:Q.St}{v1:Option Sl}
theorem uD(h:GS s):∀(cs:List Nat)(acc:List D)(x3 x4:Option Sl),(∀c∈cs,okO (.say [c])=true)->acc.length+cs.length<=1000->∃y3,dc (gO 3) (ii stG) (cs.map λc=>D.str [c]) [vD (sD s),v1,some (.own acc),x3,x4]=.nx [vD (sD s),v1,some (.own (acc++cs.map λc=>itD s (.say [c]))),y3,x4]
 | [],acc,x3,x4,_,_=>⟨x3,by rw[oR,oR,qo];rfl⟩
 |c::cs,acc,x3,x4,ho,hl=>by
  simp only[r6]at hl;obtain⟨y3,e⟩:=uD h cs (acc++[itD s (.say [c])]) (vD (.str [c])) x4 (λd hd=>ho d (w9 _ hd)) (by rw[v6];show acc.length+1+_<=_;omega);refine⟨y3,(fw (ρ2:=[vD (sD s),v1,some (.own (acc++[itD s (.say [c])])),vD (.str [c]),x4]) rfl ?_).trans (e.trans ?_)⟩
  ·have e1:=KI h (ho c (w5 ..));have e2:mkT [.str [115,97,121],.str [c]]=.ok (oD (.say [c])):=mk2 _ _;have e3:=mk2 (.int 1) (zz (aF s (.say [c])));have hz:acc.length<sizeLine:=ZX (show acc.length<=1000 by omega) (by decide);show _=O.nx [vD (sD s),v1,some (.own (acc++[.tup [.int 1,zz (aF s (.say [c]))]])),vD (.str [c]),x4];unfold ii;generalize zz (aF s (.say [c]))=w at *;generalize oD (.say [c])=od at *;generalize sD s=sd at *;clear e ho h hl
   walk_at "run"
  ·simp
theorem yQ(h:GS s)(w4:s.1<=4)(m2:s.2.1.length<=2):∀(is:List Nat)(acc:List D)(x3 x4:Option Sl),(∀i∈is,i<=2)->acc.length+5 * is.length<=900->∃y4,dc (gO 4) (ie stG) (is.map λ(i:Nat)=>D.int (i:Int)) [vD (sD s),v1,some (.own acc),x3,x4]=.nx [vD (sD s),v1,some (.own (acc++is.flatMap λi=>(List.range (s.1+1)).map λj=>itD s (.go i j))),x3,y4]
 | [],acc,x3,x4,_,_=>⟨x4,by rw[oR,List.flatMap_nil,qo];rfl⟩
 |i::is,acc,x3,x4,ho,hl=>by
  simp only[r6]at hl;obtain⟨y4,e⟩:=yQ h w4 m2 is (acc++(List.range (s.1+1)).map λj=>itD s (.go i j)) x3 (vD (.int (i:Int))) (λd hd=>ho d (w9 _ hd)) (by rw[v6,zV,eQ];omega);refine⟨y4,(fw (ρ2:=[vD (sD s),v1,some (.own (acc++(List.range (s.1+1)).map λj=>itD s (.go i j))),x3,vD (.int (i:Int))]) rfl ?_).trans (e.trans ?_)⟩
  ·have hi:=ho i (w5 ..);have c1:=jz (ge:=aq mkT (aa (ciz 2) (aa (aA 2 stG (aa (rvz 1) (aa (aq mkT (aa (csz [103,111]) (aa (rvz 2) (aa (rvz 0) nlz)))) nlz))) nlz))) (λ(j:Nat)=>D.int (j:Int)) (λj=>itD s (.go i j)) [vD (sD s),vD (.int (i:Int))] (List.range (s.1+1)) none λj hj=>by
    rw[nE]at hj;have e1:=KI h (o:=.go i j) (by simp only[okO,u8,se];omega);have e2:mkT [.str [103,111],.int (i:Int),.int (j:Int)]=.ok (oD (.go i j)):=m_t (by simp);have e3:=mk2 (.int 2) (zz (aF s (.go i j)));show _=R.ok (D.tup [.int 2,zz (aF s (.go i j))]);generalize zz (aF s (.go i j))=w at *;generalize oD (.go i j)=od at *;generalize sD s=sd at *;clear e ho h hl
    walk_at "run"
   have r1:bX [.int ((s.1:Int)+1)]=.ok ((List.range (s.1+1)).map λ(j:Nat)=>D.int (j:Int)):=jO (n:=s.1+1) (by omega);have i1:ixD (sD s) (.int 0)=some (.int (s.1:Int)):=rfl;have l1:((List.range (s.1+1)).map λj=>itD s (.go i j)).length<=sizeLine:=by rw[zV,eQ];exact w6 (show s.1+1<=5 by omega) (by decide)
   have l2:acc.length+((List.range (s.1+1)).map λj=>itD s (.go i j)).length<=sizeLine:=by rw[zV,eQ];exact w6 (show acc.length+(s.1+1)<=900 by omega) (by decide)
   have n1:fI [0,4] [vD (sD s),v1,some (.own acc),x3,vD (.int (i:Int))]=[none,vD (sD s),vD (.int (i:Int))]:=rfl;unfold ie;generalize (List.range (s.1+1)).map (λj=>itD s (.go i j))=items at *;generalize (List.range (s.1+1)).map (λ(j:Nat)=>D.int (j:Int))=js at *;generalize sD s=sd at *;clear e ho h hl hi w4 m2
   walk_at "run"
  ·simp
def zE:D->Bool
 |.tup [_,.str _]=>false
 |_=>true
def Gy(os:List Od):(((os.map (itD s)).filter zE).map id)=(os.filterMap λo=>(aF s o).map λs'=>(aO o,kS s')).map pD:=by
 induction os with
 |nil=>rfl
 |cons o os ih=>
  rw[w8,List.filter_cons,Zo];cases q:aF s o with
  |none=>
   have:zE (itD s o)=false:=by unfold itD;rw[q];rfl
   rw[this];exact ih
  |some s'=>
   have:itD s o=pD (aO o,kS s'):=by unfold itD;rw[q];rfl
   rw[this];show((pD (aO o,kS s')::_).map id)=_;rw[w8,ih];rfl
def Gh(h:GS s)(w4:s.1<=4)(m2:s.2.1.length<=2){g:List (List Nat)}(hg:GL s g)(sg:∀c∈g.flatten,c∈S3):nxG [sD s,.tup (g.map .str)]=.ok (.lst false ((lL (aH g.flatten) (kS s)).map pD)):=by
 have gl:g.flatten.length<=8:=by
  have:∀(n:Nat)(g:List (List Nat)),(∀x∈g,x.length=n)->g.flatten.length=g.length * n:=λn g=>by
   induction g with
   |nil=>intro _;simp
   |cons x g ih=>intro hx;rw[l5,v6,ih λy hy=>hx y (w9 _ hy),hx x (w5 ..),r6,Nat.succ_mul,Nat.add_comm]
  rw[this s.1 g λx hx=>(hg.l x hx).1,hg.n];exact w6 (Z0 m2 w4) (by decide)
 have g0:0<g.flatten.length:=by
  cases g with
  |nil=>have:=hg.n;have:=h.r;simp only[km]at *;omega
  |cons x g=>rw[l5,v6,(hg.l x (w5 ..)).1];have:=h.w1;omega
 have j1:pS (.str []) [.tup (g.map .str)]=some (.str g.flatten):=by
  show(match L2.lX (g.map .str)with|some xs=>if (xs.map List.length).sum+xs.length * 0<=sizeLine then some (D.str (jF [] xs))else none|none=>none)=_;rw[ni];have:(g.map List.length).sum+g.length * 0<=sizeLine:=by rw[<- List.length_flatten];exact w6 gl (by decide)
  dsimp only;rw[if_pos this,jt]
 have s1:jV [.str g.flatten]=some (.lst false ((aH g.flatten).map λc=>.str [c])):=if_pos ⟨g0,by omega⟩;have ln:(aH g.flatten).length<=8:=by
  have:∀x:List Nat,(aH x).length<=x.length:=λx=>by
   have ins:∀(c:Nat)(l:List Nat),(wl c l).length<=l.length+1:=λc l=>by
    induction l with
    |nil=>exact z8 _
    |cons d l ih=>
     unfold wl;split;·exact z8 _
     ·split;·exact qO _
      ·exact Zl ih
   induction x with
   |nil=>exact z8 _
   |cons c x ih=>exact w6 (ins c (aH x)) (Zl ih)
  exact w6 (this _) gl
 have e0:=KI h (o:=.wipe) rfl;have ok1:∀c∈aH g.flatten,okO (.say [c])=true:=λc hc=>by
  have p1:=uF (x:=[c]) λa ha=>by rw[wc.1 ha];exact sg c (mem_sort.1 hc)
  simp only[okO,p1];rfl
 obtain⟨y3,lp1⟩:=uD (v1:=vD (.tup (g.map .str))) h (aH g.flatten) [itD s .wipe] none none ok1 (by show 1+_<=_;omega);obtain⟨y4,lp2⟩:=yQ (v1:=vD (.tup (g.map .str))) h w4 m2 (List.range s.2.1.length) ([itD s .wipe]++(aH g.flatten).map λc=>itD s (.say [c])) y3 none (λi hi=>by rw[nE]at hi;omega) (by rw[v6,zV,eQ];show 1+_+_<=_;omega);have mp:([itD s .wipe]++(aH g.flatten).map λc=>itD s (.say [c]))++(List.range s.2.1.length).flatMap (λi=>(List.range (s.1+1)).map λj=>itD s (.go i j))=(jB (aH g.flatten) s.2.1.length s.1).map (itD s):=by unfold jB;rw[sN,w8,p7,List.map_flatMap];simp only[p7];rfl
 rw[mp]at lp2;have tst:∀d∈(jB (aH g.flatten) s.2.1.length s.1).map (itD s),gB2 neF (g2 ixD (rvz 0) (ciz 1)) (csz [110,111,32,114,111,111,109]) [some (.val d)]=.ok (zE d)/\(rvz 0) [some (.val d)]=.ok (id d):=λd hd=>by obtain⟨o,_,rfl⟩:=s8.1 hd;refine⟨?_,rfl⟩;unfold itD;cases aF s o <;> rfl
 have cp:=xO (gt:=gB2 neF (g2 ixD (rvz 0) (ciz 1)) (csz [110,111,32,114,111,111,109])) (ge:=λρ=>rdV ρ 0) zE id [] _ none tst;rw[Gy]at cp;have ll:((lL (aH g.flatten) (kS s)).map pD).length<=sizeLine:=by rw[zV];refine w6 (List.length_filterMap_le ..) ?_;have:=o9 List.length mp;rw[zV]at this;show(jB (aH g.flatten) s.2.1.length s.1).length<=_;rw[<- this,v6,v6,zV,Yy];simp only[zV,eQ,Yz,YA];have:s.2.1.length * (s.1+1)<=2 * 5:=Z0 m2 (by omega);exact w6 (show 1+(aH g.flatten).length+s.2.1.length * (s.1+1)<=100 by omega) (by decide)
 replace cp:eZ _ _ _ _=R.ok ((lL (aH g.flatten) (kS s)).map pD):=cp
 have z1:1<=sizeLine:=by decide
 have fz:∀(a b c d:Option Sl)(l:List D),(rdV (frz 2 [a,b,some (.own l),c,d]) 2>>=bf)=.ok l:=λ_ _ _ _ _=>rfl;have kd:mj "str" (.str [])=true:=rfl;have nn:∀ρ:Ev,fI [] ρ=[none]:=λ_=>rfl;have w0:mkT [.str [119,105,112,101]]=.ok (oD .wipe):=m_t (by simp);have w1:mkT [.int 1,zz (aF s .wipe)]=.ok (itD s .wipe):=mk2 _ _;have r1:bX [.int (s.2.1.length:Int)]=.ok ((List.range s.2.1.length).map λ(i:Nat)=>D.int (i:Int)):=jO (by omega);have l1:fm [.tup (g.map .str)]=some (.int (s.2.1.length:Int)):=by show some (D.int ((g.map D.str).length:Int))=_;rw[zV,hg.n]
 have i1:bf (.lst false ((aH g.flatten).map λc=>D.str [c]))=.ok ((aH g.flatten).map λc=>.str [c]):=rfl;show ao (ax _ _ [vD (sD s),vD (.tup (g.map .str)),none,none,none])=_;unfold kj kz lN lH;generalize (lL (aH g.flatten) (kS s)).map pD=res at *;generalize (jB (aH g.flatten) s.2.1.length s.1).map (itD s)=items at *;generalize hq:([itD s .wipe]++(aH g.flatten).map λc=>itD s (.say [c]))=q1 at *;generalize (List.range s.2.1.length).map (λ(i:Nat)=>D.int (i:Int))=rg at *;generalize (aH g.flatten).map (λc=>D.str [c])=ss at *;generalize zz (aF s .wipe)=ow at *;generalize itD s .wipe=iw at *;generalize oD .wipe=od at *;generalize g.flatten=gf at *;generalize g.map D.str=gs at *;generalize sD s=sd at *;generalize s.2.1.length=m at *;clear gl g0 ln ok1 hq tst mp h w4 m2 sg
 walk_at "run"
end
theorem tN:∀a b:List (List Nat),∃bs,eqZ (eqD 39) (a.map D.str) (b.map .str)=some bs/\(bs.all id && (a.map D.str).length==(b.map D.str).length)=decide (a=b)
 | [],[]=>⟨[],rfl,rfl⟩
 | [],y::b=>⟨[],rfl,rfl⟩
 |x::a,[]=>⟨[],rfl,rfl⟩
 |x::a,y::b=>by obtain⟨bs,e,q⟩:=tN a b;refine⟨(x==y)::bs,by simp only[w8,eqZ,e];rfl,?_⟩;rw[Yc]at q⊢;simp only[ca,w8,r6,zV,u8,id,Zj,se,Zh,Nat.add_right_cancel_iff]at q⊢;rw[<- q];exact⟨λ⟨⟨a,b⟩,c⟩=>⟨a,b,c⟩,λ⟨a,b,c⟩=>⟨⟨a,b⟩,c⟩⟩
def ER(a b:List (List Nat)):eqF (.tup (a.map .str)) (.tup (b.map .str))=some (.bl (decide (a=b))):=by obtain⟨bs,e,q⟩:=tN a b;show((eqZ (eqD 39) (a.map D.str) (b.map .str)).map λbs=>bs.all id && (a.map D.str).length==(b.map D.str).length).map D.bl=_;rw[e];show some (D.bl (bs.all id && _))=_;rw[q]
section
variable{s:Q.St}{g:List (List Nat)}{w m:Nat}
def Pth(w m:Nat)(s:Q.St)(j:Nat)(k:LK):Prop:=∃os s',(∀o∈os,okO o=true)/\rn (some s) os=some s'/\k=kS s'/\In21 w m s'/\j=(os.map aO).sum
def GM{sg:List Nat}(w4:w<=4)(m2:m<=2)(hs:∀c∈sg,c∈S3){o:Od}(ho:o∈jB sg m w):okO o=true:=by
 rcases mem_ords.1 ho with rfl|⟨c,hc,rfl⟩|⟨i,j,hi,hj,rfl⟩;·rfl
 ·have p1:=uF (x:=[c]) λa ha=>by rw[wc.1 ha];exact hs c hc
  simp only[okO,p1];rfl
 ·simp only[okO,u8,se];omega
def Bp{sg:List Nat}(w4:w<=4)(m2:m<=2)(hs:∀c∈sg,c∈S3)(j:Nat)(k:LK)(h:Pth w m s j k):∀p∈lL sg k,Pth w m s (j+p.1) p.2:=λp hp=>by
 obtain⟨os,s',ok,run,rfl,i,rfl⟩:=h;obtain⟨o,ho,s2,e,rfl⟩:=mem_next.1 hp;rw[Eh]at ho e;rw[i.hm,i.hw]at ho;refine⟨os++[o],s2,λx hx=>?_,?_,rfl,i.step hs ho e,by simp⟩
 ·rcases r8.1 hx with hx|hx;·exact ok x hx
  ·rw[wc.1 hx];exact GM w4 m2 hs ho
 ·rw[fS,run,hU];show rn (aF s' o) []=_;rw[e];rfl
theorem xC{sg:List Nat}(hs:∀c∈sg,c∈S3){a:LK}:∀(os:List Od)(t:Q.St)(c:Nat){t':Q.St},Way (lL sg) a c (kS t)->In21 w m t->(∀o∈os,okO o=true/\sayL o<=1/\∀x,o=.say x->∀d∈x,d∈sg)->rn (some t) os=some t'->Way (lL sg) a (c+(os.map aO).sum) (kS t')
 | [],t,c,t',y,_,_,e=>by cases e;exact y
 |o::os,t,c,t',y,i,h,e=>by
  rw[hU]at e;have e:rn (aF t o) os=some t':=e;cases q:aF t o with
  |none=>
   rw[q]at e;have:∀l:List Od,rn none l=none:=λl=>by
    induction l with
    |nil=>rfl
    |cons x l ih=>exact ih
   rw[this]at e;cases e
  |some t1=>
   rw[q]at e;obtain⟨h1,h2,h3⟩:=h o (w5 ..);have ho:o∈jB sg m w:=by
    rw[mem_ords];cases o with
    |wipe=>exact .inl rfl
    |say x=>
     simp only[okO,u8,se]at h1;have h2:x.length<=1:=h2
     match x,h1,h2,h3 with
     | [d],_,_,h3=>exact .inr (.inl ⟨d,h3 [d] rfl d (w5 ..),rfl⟩)
    |go n k=>
     obtain⟨wd,rows,r,cc⟩:=t;simp only[aF]at q;split at q;·cases q
     ·rename_i z;have a1:wd=w:=i.hw;have a2:rows.length=m:=i.hm;exact .inr (.inr ⟨n,k,by omega,by omega,rfl⟩)
   have:=xC hs os t1 (c+aO o) (Way.step y (p:=(aO o,kS t1)) (mem_next.2 ⟨o,by rw[Eh,i.hm,i.hw];exact ho,t1,q,rfl⟩)) (i.step hs ho q) (λx hx=>h x (w9 _ hx)) e;rw[w8,nT,<- fN];exact this
def FN(h:In21 w m s)(w1:1<=w)(w4:w<=4)(m2:m<=2)(hg:GL s g)(sg:∀c∈g.flatten,c∈S3):∃fuel,FewOk nxG (sD s) (.tup (g.map .str)) (eS s g) (vU w m) (lL (aH g.flatten)) (λk=>decide (k.2.1=g)) (kS s) fuel:=by
 have gs:=h.gs w1 w4 m2;have hs:∀c∈aH g.flatten,c∈S3:=λc hc=>sg c (mem_sort.1 hc);obtain⟨r,c,run⟩:=qi gs hg;obtain⟨r',c',run'⟩:=Aw gs hg;have lo:=fV gs hg;have wy:=xC (a:=kS s) hs (bF s g) s 0 .here h (λo ho=>⟨(lo o ho).1,(lo o ho).2,λx e d hd=>by subst e;exact mem_sort.2 (AZ gs hg ho d hd)⟩) run;rw[eB]at wy;have so:=Di λo ho=>(lo o ho).1;have m0:((bF s g).map aO).sum<=eS s g:=mQ gs hg so run' rfl;have ln:=iJ gs hg;have start:∀j k,k∈([[kS s],[],[]]:List (List LK)).getD j []->Pth w m s j k:=λj k hk=>by
  have:j=0:=by
   match j,hk with
   | 0,_=>rfl
   | 1,hk=>cases hk
   | 2,hk=>cases hk
   |n+3,hk=>simp at hk
  subst this;have:=wc.1 hk;subst this;exact⟨[],s,λ_ ho=>(nomatch ho),rfl,rfl,h,rfl⟩
 obtain⟨n,a,e1,e2,⟨os,s',ok,rs,rfl,i',rfl⟩,ga⟩:=pF (x:=kS (s.1,g,r,c)) (goal:=λk=>decide (k.2.1=g)) (Pth:=Pth w m s) (s:=kS s) B3 (Bp w4 m2 hs) wy (sS rfl) (((bF s g).map aO).sum+1) 0 [[kS s],[],[]] [] (by omega) (v8 _)
  ⟨rfl,w5 ..,start,λ_ hk=>(nomatch hk),λj hj=>(nomatch hj)⟩;have lm:=wF gs hg ok rs (g9 ga)
 ·have en:(os.map aO).sum=eS s g:=by omega
  rw[en]at e1;refine⟨_,E7 w4 m2,rfl,mem_all.2 ⟨s,rfl,h⟩,λk hk=>ER _ _,λk hk=>?_,λk hk p hp=>?_,?_,e1⟩;·obtain⟨t,rfl,it⟩:=mem_all.1 hk;exact Gh (it.gs w1 w4 m2) (by rw[it.hw];exact w4) (by rw[it.hm];exact m2) ⟨by rw[hg.n,h.hm,it.hm],λx hx=>by rw[it.hw,<- h.hw];exact hg.l x hx⟩ sg
  ·obtain⟨t,rfl,it⟩:=mem_all.1 hk;obtain⟨o,ho,s2,e,rfl⟩:=mem_next.1 hp;rw[Eh]at ho e;rw[it.hm,it.hw]at ho;refine⟨mem_all.2 ⟨s2,rfl,it.step hs ho e⟩,?_⟩;rcases B3 _ _ hp with q|q <;> rw[q] <;> decide
  ·have:((bF s g).map aO).sum<=2 * (bF s g).length:=by
    have:∀l:List Od,(∀o∈l,okO o=true/\sayL o<=1)->(l.map aO).sum<=2 * l.length:=λl=>by
     induction l with
     |nil=>intro _;exact z8 _
     |cons o l ih=>
      intro hl;have a1:=ih λx hx=>hl x (w9 _ hx);have a2:aO o<=2:=by
       have:=(hl o (w5 ..)).2;cases o with
       |say x=>exact fH this
       |go _ _=>exact z8 _
       |wipe=>exact qO _
      rw[w8,nT,r6];omega
    exact this _ lo
   have:4 * s.1 * (s.2.1.length+1)<=4 * 4 * 3:=Z0 (Nat.mul_le_mul_left 4 (by rw[h.hw];exact w4)) (by rw[h.hm];omega);omega
end
abbrev vL(f:Bool)(n:List Int):Option Sl:=some (.val (.lst f (n.map .int)))
abbrev vI(n:Nat):Option Sl:=some (.val (.int (n:Int)))
abbrev vD(d:D):Option Sl:=some (.val d)
abbrev vS(x:List Nat):Option Sl:=some (.val (.str x))
abbrev vO(c p:Addr)(f:List (Nat×Fd)):Option Sl:=some (.obj true c p f)
noncomputable def BO(aB:List D->R D):Ev->O:=(Go (vt [1,2]) (g2 ixD (bA (zy (aa (aq mkT (aa (ciz 1) (aa (ciz 1) nlz))) (aa (aq mkT (aa (ciz 2) (aa (ciz 1) nlz))) (aa (aq mkT (aa (ciz 3) (aa (ciz 1) nlz))) (aa (aq mkT (aa (ciz 3) (aa (ciz 1) nlz))) (aa (aq mkT (aa (ciz 4) (aa (ciz 1) nlz))) (aa (aq mkT (aa (ciz 2) (aa (ciz 2) nlz))) nlz)))))))) (aA 3 aB (aa (rvz 0) (aa (ciz 0) (aa (ciz 6) nlz))))))
def tD:Ev->O:=(hZ 3 (gIf (AS (gB2 eqF (rvz 2) (ciz 1)) (gB2 ltD (rvz 1) (ciz 4))) (csz [32,32,97,98]) (csz [32,32,97,32])))
def wX:Ev->O:=(Cy 4 (zy nlz))
noncomputable def tW(aB:List D->R D):Ev->O:=(ax (Cy 6 (eA (aq bX (aa (rvz 2) nlz)) [0,1,3,5] (λ_=>R.ok true) (bA (eA (aq bX (aa (rvz 2) nlz)) [0,1,3,4] (λ_=>R.ok true) (g2 ixD (rvz 3) (aA 3 aB (aa (rvz 2) (aa (g2 cP (g2 cP (rvz 4) (g2 ja (ciz 5) (rvz 1))) (rvz 0)) (aa (ciz 4) nlz))))))))) (CP 6 (ax (Hj 4 (bA (eA (aq bf (rvz 6)) [] (λ_=>R.ok true) (nr "str" qJ (csz []) (aa (rvz 0) nlz))))) oNx)))
def yz(aB:List D->R D):Ev->O:=(zC (gO 5) (aq bf (aq mkT (aa (ciz 10) (aa (ciz 30) nlz)))) (tW aB))
noncomputable def zf(aB:List D->R D):Ev->O:=(hZ 7 (aq mkT (aa (rvz 1) (aa (gOf mL (aa (g2 ixD (rvz 4) (ciz 0)) nlz)) (aa (aq mkT (aa (aA 3 aB (aa (rvz 0) (aa (ciz 1) (aa (rvz 2) nlz)))) (aa (aA 3 aB (aa (rvz 0) (aa (ciz 2) (aa (g2 cP (rvz 1) (ciz 1)) nlz)))) nlz))) nlz)))))
def yT(bh:List D->R D):Ev->O:=(hZ 8 (aA 2 bh (aa (rvz 7) (aa (gOf mL (aa (g2 ixD (rvz 4) (ciz 1)) nlz)) nlz))))
def zx(bv:List D->R D):Ev->O:=(hZ 9 (aA 2 bv (aa (rvz 7) (aa (g2 ixD (rvz 4) (ciz 1)) nlz))))
def wO(cD eV:List D->R D):Ev->O:=(cB (g3 eqF eqF (rvz 9) (rvz 8) (aA 1 eV (aa (aA 2 cD (aa (rvz 7) (aa (g2 ixD (rvz 4) (ciz 1)) nlz))) nlz))))
def tf(aB bh:List D->R D)(bv cD eV:List D->R D):Ev->O:=(ax (BO aB) (ax (tD) (ax (wX) (ax (yz aB) (CP 4 (ax (zf aB) (ax (yT bh) (ax (zx bv) (ax (wO cD eV) oNx)))))))))
def unS:D->List Nat
 |.str x=>x
 |_=>[]
def um(g:List (List Nat)):(g.map D.str).map unS=g:=by rw[p7];exact List.map_id _
structure Ok21(d:D)(gs:List D)(s:Q.St):Prop where
 d:d=sD s
 g:gs=(gs.map unS).map .str
 i:∃w m,In21 w m s/\1<=w/\w<=4/\m<=2
 l:GL s (gs.map unS)
 sg:∀c∈(gs.map unS).flatten,c∈S3
open Classical in
def wf:List D->R D
 | [d,.tup gs]=>match wI d with
  |some s=>if Ok21 d gs s then .ok (.int (eS s (gs.map unS):Int))else .no
  |none=>.no
 |_=>.no
def xS(d0 d1:D):wf [d0,d1]=.no\/∃n All next gl s fuel,FewOk nxG d0 d1 n All next gl s fuel/\wf [d0,d1]=.ok (.int (n:Nat)):=by
 cases d1 with
 |tup gs=>
  cases e:wI d0 with
  |none=>left;simp only[wf,e]
  |some s=>
   by_cases h:Ok21 d0 gs s;·right;obtain⟨w,m,i,w1,w4,m2⟩:=h.i;obtain⟨fu,f⟩:=FN i w1 w4 m2 h.l h.sg;rw[<- h.g,<- h.d]at f;exact⟨_,_,_,_,_,fu,f,by simp only[wf,e];exact if_pos h⟩
   ·left;simp only[wf,e];exact if_neg h
 |_=>exact .inl rfl
def FW{s:Q.St}{g:List (List Nat)}{w m:Nat}(h:In21 w m s)(w1:1<=w)(w4:w<=4)(m2:m<=2)(hg:GL s g)(sg:∀c∈g.flatten,c∈S3):wf [sD s,.tup (g.map .str)]=.ok (.int (eS s g:Int)):=by
 have e:=(h.gs w1 w4 m2).un;have o:Ok21 (sD s) (g.map .str) s:=⟨rfl,by rw[um],⟨w,m,h,w1,w4,m2⟩,by rw[um];exact hg,by rw[um];exact sg⟩
 have:wf [sD s,.tup (g.map .str)]=.ok (.int (eS s ((g.map D.str).map unS):Int)):=by simp only[wf,e];exact if_pos o
 rw[this,um]
def II(ds:List D)(hl:ds.length=2):wf ds=.no\/ao (GV wf (ak 8 ds))=wf ds:=by
 match ds,hl with
 | [d0,d1],_=>
  rcases xS d0 d1 with e|⟨n,_,_,_,_,_,_,e⟩;·exact .inl e
  ·right;rw[e];show ao ((wf [d0,d1]).out _ .rt)=_;rw[e];rfl
def yj{n wd:Nat}{xs:List (List Nat)}(hn:xs.length=n)(hl:∀x∈xs,x.length=wd):jn n wd xs=xs:=by
 unfold jn;rw[hn,Nat.sub_self,List.replicate_zero,qo]
 conv=>rhs;rw[<- List.map_id xs]
 refine l7 λx hx=>?_;unfold CJ;rw[hl x hx,Nat.sub_self,List.replicate_zero,qo];rfl
def AA{n wd:Nat}{xs:List (List Nat)}(hn:xs.length=n)(hl:∀x∈xs,x.length=wd/\plain x=true):cu n wd xs=true:=by unfold cu;rw[hn,sS (z8 _),ZF,sI];intro x hx;have:=hl x hx;unfold txt;rw[this.2,this.1,sS (z8 _)];rfl
section
variable{ns:List Int}
def pk{m:Nat}(h:0<m):jE [.lst fz (ns.map .int),.int (k:Int),.int (m:Int)]=.ok (.int (((oU ns k m).toNat:Nat):Int))/\(oU ns k m).toNat<m:=by have r:=uY ns k (m:=(m:Int)) (by omega);exact⟨by rw[Yg r.1];exact yI (by omega),by omega⟩
def cel(ns:List Int)(sn:List Nat)(p k j:Nat):Nat:=sn.getD (oU ns (p+5 * k+j:Nat) (4:Nat)).toNat 0
def cJ(ns:List Int)(sn:List Nat)(w p k:Nat):List Nat:=(List.range w).map (cel ns sn p k)
def iy(ns:List Int)(sn:List Nat)(w m p:Nat):List (List Nat):=(List.range m).map (cJ ns sn w p)
def BJ(x:List Nat)(h:x.length<=1000):qJ (.str []) [.lst false (x.map λc=>.str [c])]=some (.str x):=by
 have e:(x.map λc=>D.str [c])=(x.map λc=>[c]).map D.str:=by rw[p7];rfl
 have f:∀x:List Nat,(x.map λc=>[c]).flatten=x:=λx=>by
  induction x with
  |nil=>rfl
  |cons c x ih=>show [c]++(x.map λc=>[c]).flatten=_;rw[ih];rfl
 rw[e];show(match L2.lX ((x.map λc=>[c]).map D.str)with|some xs=>if (xs.map List.length).sum+xs.length * 0<=sizeLine then some (D.str (jF [] xs))else none|none=>none)=_;rw[ni];dsimp only;rw[<- List.length_flatten,f,if_pos (w6 (show x.length+(x.map λc=>[c]).length * 0<=1000 by omega) (by decide)),jt,f]
def B8{sn:List Nat}{w m p:Nat}{acc:List D}{x6 x7 x8 x9:Option Sl}(hs:sn.length=4)(w4:w<=4)(m2:m<=2)(ha:acc.length<=100):
  ∃y6,tW jE [vL fz ns,vI w,vI m,vD (.str sn),some (.own acc),vI p,x6,x7,x8,x9]=.nx [vL fz ns,vI w,vI m,vD (.str sn),some (.own (acc++[.lst false ((iy ns sn w m p).map .str)])),vI p,y6,x7,x8,x9]:=by
 have inn:∀k,eZ (λ_=>R.ok true) (g2 ixD (rvz 3) (aA 3 jE (aa (rvz 2) (aa (g2 cP (g2 cP (rvz 4) (g2 ja (ciz 5) (rvz 1))) (rvz 0)) (aa (ciz 4) nlz))))) ((List.range w).map λ(j:Nat)=>D.int (j:Int)) [none,vI k,vL fz ns,vD (.str sn),vI p]=.ok ((cJ ns sn w p k).map λc=>.str [c]):=λk=>by
  unfold cJ;rw[p7];refine jz (λ(j:Nat)=>D.int (j:Int)) _ [vI k,vL fz ns,vD (.str sn),vI p] (List.range w) none λj hj=>?_;have q:=pk (fz:=fz) (ns:=ns) (k:=p+5 * k+j) (m:=4) (by decide);have m1:ja (.int 5) (.int (k:Int))=some (.int ((5 * k:Nat):Int)):=by rw[FU (by decide)];congr 2
  have a1:cP (.int (p:Int)) (.int ((5 * k:Nat):Int))=some (.int ((p+5 * k:Nat):Int)):=rfl;have a2:cP (.int ((p+5 * k:Nat):Int)) (.int (j:Int))=some (.int ((p+5 * k+j:Nat):Int)):=rfl;have i1:ixD (.str sn) (.int (((oU ns (p+5 * k+j:Nat) (4:Nat)).toNat:Nat):Int))=some (.str [cel ns sn p k j]):=by
   have hl:(oU ns (p+5 * k+j:Nat) (4:Nat)).toNat<sn.length:=by rw[hs];exact q.2
   refine K1 (c:=cel ns sn p k j) ?_;unfold cel;rw[v9,vY hl];rfl
  have q1:jE [.lst fz (ns.map .int),.int ((p+5 * k+j:Nat):Int),.int 4]=_:=q.1;show _=R.ok (D.str [cel ns sn p k j]);clear q hs w4 m2 ha hj;generalize (oU ns (p+5 * k+j:Nat) (4:Nat)).toNat=pp at *;generalize p+5 * k+j=pj at *;generalize p+5 * k=pq at *;generalize 5 * k=pr at *
  walk_at "run"
 have r1:bX [.int (w:Int)]=.ok ((List.range w).map λ(j:Nat)=>D.int (j:Int)):=jO (by omega);have r2:bX [.int (m:Int)]=.ok ((List.range m).map λ(j:Nat)=>D.int (j:Int)):=jO (by omega);have ll:∀k,((cJ ns sn w p k).map λc=>D.str [c]).length<=sizeLine:=λk=>by unfold cJ;rw[List.length_map,List.length_map,List.length_range];exact Nat.le_trans w4 (by decide)
 have out:=jz (ge:=bA (eA (aq bX (aa (rvz 2) nlz)) [0,1,3,4] (λ_=>R.ok true) (g2 ixD (rvz 3) (aA 3 jE (aa (rvz 2) (aa (g2 cP (g2 cP (rvz 4) (g2 ja (ciz 5) (rvz 1))) (rvz 0)) (aa (ciz 4) nlz))))))) (λ(k:Nat)=>D.int (k:Int)) (λk=>D.lst false ((cJ ns sn w p k).map λc=>.str [c])) [vL fz ns,vI w,vD (.str sn),vI p] (List.range m) none λk _=>by
  have i1:=inn k;have n1:fI [0,1,3,4] [vI k,vL fz ns,vI w,vD (.str sn),vI p]=[none,vI k,vL fz ns,vD (.str sn),vI p]:=rfl;have l1:=ll k;generalize (cJ ns sn w p k).map (λc=>D.str [c])=rk at *;generalize (List.range w).map (λ(j:Nat)=>D.int (j:Int))=rg at *;clear inn ll hs w4 m2 ha r2
  walk_at "run"
 have fin:=jz (ge:=nr "str" qJ (csz []) (aa (rvz 0) nlz)) (λk=>D.lst false ((cJ ns sn w p k).map λc=>.str [c])) (λk=>D.str (cJ ns sn w p k)) [] (List.range m) none λk _=>by
  have j1:=BJ (cJ ns sn w p k) (by unfold cJ;rw[List.length_map,List.length_range];omega);have kd:mj "str" (.str [])=true:=rfl;generalize (cJ ns sn w p k).map (λc=>D.str [c])=rk at *;clear inn ll out hs w4 m2 ha r1 r2
  walk_at "run"
 have e1:(List.range m).map (λk=>D.str (cJ ns sn w p k))=(iy ns sn w m p).map .str:=by unfold iy;rw[List.map_map];rfl
 rw[e1]at fin;refine⟨some (.val (.lst false ((List.range m).map λk=>D.lst false ((cJ ns sn w p k).map λc=>.str [c])))),?_⟩;have n1:fI [0,1,3,5] [vL fz ns,vI w,vI m,vD (.str sn),some (.own acc),vI p,x6,x7,x8,x9]=[none,vL fz ns,vI w,vD (.str sn),vI p]:=rfl;have nn:∀ρ:Ev,fI [] ρ=[none]:=λ_=>rfl;have l2:((List.range m).map λk=>D.lst false ((cJ ns sn w p k).map λc=>.str [c])).length<=sizeLine:=by rw[zV,eQ];exact w6 m2 (by decide)
 have l3:((iy ns sn w m p).map D.str).length<=sizeLine:=by unfold iy;rw[List.length_map,List.length_map,List.length_range];exact Nat.le_trans m2 (by decide)
 have l4:acc.length<sizeLine:=ZX ha (by decide);have fz6:∀(a b c d e f g h i:Option Sl)(l:List D),frz 6 [a,b,c,d,e,f,some (.own l),g,h,i]=[a,b,c,d,e,f,some (.val (.lst false l)),g,h,i]:=λ_ _ _ _ _ _ _ _ _ _=>rfl;have it:∀l:List D,bf (.lst false l)=.ok l:=λ_=>rfl;have o4:∀(a b c d e f g h i:Option Sl)(l:List D),ownAt [a,b,c,d,some (.own l),e,f,g,h,i] 4=.ok l:=λ_ _ _ _ _ _ _ _ _ _=>rfl;unfold tW;generalize (iy ns sn w m p).map D.str=rs at *;generalize (List.range m).map (λk=>D.lst false ((cJ ns sn w p k).map λc=>.str [c]))=cs at *;generalize (List.range m).map (λ(j:Nat)=>D.int (j:Int))=rm at *;clear inn ll e1 hs w4 m2 ha r1
 walk_at "run"
end
def uQ{ns:List Int}{sn:List Nat}{w m p:Nat}(hs:sn.length=4)(h3:∀c∈sn,c∈S3):(iy ns sn w m p).length=m/\∀x∈iy ns sn w m p,x.length=w/\∀c∈x,c∈S3:=by refine⟨by unfold iy;rw[List.length_map,List.length_range],λx hx=>?_⟩;obtain⟨k,_,rfl⟩:=s8.1 hx;refine⟨by unfold cJ;rw[List.length_map,List.length_range],λc hc=>?_⟩;obtain⟨j,_,rfl⟩:=s8.1 hc;have q:=(pk (fz:=true) (ns:=ns) (k:=p+5 * k+j) (m:=4) (by decide)).2;unfold cel;rw[v9,vY (by rw[hs];exact q)];exact h3 _ (l6 _)
def JF{Co:Addr}(ns:List Int)(fz:Bool):ao (tf jE wf (wn Co) (leF Co) (coG Co) (ak 10 [.lst fz (ns.map .int)]))=.ok (.bl true):=by
 have q0:=pk (fz:=fz) (ns:=ns) (k:=0) (m:=6) (by decide);obtain⟨w,m,w1,w4,m1,m2,e1⟩:∃w m:Nat,1<=w/\w<=4/\1<=m/\m<=2/\ixD (.lst false [.tup [.int 1,.int 1],.tup [.int 2,.int 1],.tup [.int 3,.int 1],.tup [.int 3,.int 1],.tup [.int 4,.int 1],.tup [.int 2,.int 2]]) (.int (((oU ns (0:Nat) (6:Nat)).toNat:Nat):Int))=some (.tup [.int (w:Int),.int (m:Int)]):=by
  have:=q0.2;generalize (oU ns (0:Nat) (6:Nat)).toNat=n at this
  match n,this with
  | 0,_=>exact⟨1,1,by decide,by decide,by decide,by decide,rfl⟩
  | 1,_=>exact⟨2,1,by decide,by decide,by decide,by decide,rfl⟩
  | 2,_=>exact⟨3,1,by decide,by decide,by decide,by decide,rfl⟩
  | 3,_=>exact⟨3,1,by decide,by decide,by decide,by decide,rfl⟩
  | 4,_=>exact⟨4,1,by decide,by decide,by decide,by decide,rfl⟩
  | 5,_=>exact⟨2,2,by decide,by decide,by decide,by decide,rfl⟩
  |n+6,h=>omega
 obtain⟨sn,hs,h3,e2⟩:∃sn:List Nat,sn.length=4/\(∀c∈sn,c∈S3)/\gIf (AS (gB2 eqF (rvz 2) (ciz 1)) (gB2 ltD (rvz 1) (ciz 4))) (csz [32,32,97,98]) (csz [32,32,97,32]) [vL fz ns,vI w,vI m,none,none,none,none,none,none,none]=.ok (.str sn):=by
  by_cases a:m=1
  ·by_cases b:w<4
   ·refine⟨[32,32,97,98],rfl,by decide,?_⟩;have a1:eqF (.int (m:Int)) (.int 1)=some (.bl true):=by rw[a];rfl
    have a2:ltD (.int (w:Int)) (.int 4)=some (.bl true):=by show some (D.bl (decide ((w:Int)<4)))=_;rw[sS (by omega)]
    clear q0 e1 w1 w4 m1 m2 a b
    walk_at "run"
   ·refine⟨[32,32,97,32],rfl,by decide,?_⟩;have a1:eqF (.int (m:Int)) (.int 1)=some (.bl true):=by rw[a];rfl
    have a2:ltD (.int (w:Int)) (.int 4)=some (.bl false):=by show some (D.bl (decide ((w:Int)<4)))=_;rw[t6 (by omega)]
    clear q0 e1 w1 w4 m1 m2 a b
    walk_at "run"
  ·refine⟨[32,32,97,32],rfl,by decide,?_⟩;have a1:eqF (.int (m:Int)) (.int 1)=some (.bl false):=by show some (D.bl ((m:Int)==1))=_;rw[show((m:Int)==1)=false from by rw[p9];omega]
   clear q0 e1 w1 w4 m1 m2 a
   walk_at "run"
 replace e2:tD [vL fz ns,vI w,vI m,none,none,none,none,none,none,none]=.nx [vL fz ns,vI w,vI m,vD (.str sn),none,none,none,none,none,none]:=by unfold tD;rw[IM,e2];rfl
 obtain⟨y6,t1⟩:=B8 (fz:=fz) (ns:=ns) (sn:=sn) (w:=w) (m:=m) (p:=10) (acc:=[]) (x6:=none) (x7:=none) (x8:=none) (x9:=none) hs w4 m2 (v8 _);obtain⟨z6,t2⟩:=B8 (fz:=fz) (ns:=ns) (sn:=sn) (w:=w) (m:=m) (p:=30) (acc:=[]++[.lst false ((iy ns sn w m 10).map .str)]) (x6:=y6) (x7:=none) (x8:=none) (x9:=none) hs w4 m2 (by simp);have lp:dc (gO 5) (tW jE) [.int 10,.int 30] [vL fz ns,vI w,vI m,vD (.str sn),some (.own []),none,none,none,none,none]=.nx [vL fz ns,vI w,vI m,vD (.str sn),some (.own ([]++[.lst false ((iy ns sn w m 10).map .str)]++[.lst false ((iy ns sn w m 30).map .str)])),vI 30,z6,none,none,none]:=
  (fw rfl t1).trans ((fw rfl t2).trans rfl);obtain⟨ra,rb⟩:=uQ (ns:=ns) (sn:=sn) (w:=w) (m:=m) (p:=10) hs h3;obtain⟨ga,gb⟩:=uQ (ns:=ns) (sn:=sn) (w:=w) (m:=m) (p:=30) hs h3;generalize iy ns sn w m 10=rw1 at *;generalize iy ns sn w m 30=g at *;have q1:=pk (fz:=fz) (ns:=ns) (k:=1) (m:=m) (by omega);have q2:=pk (fz:=fz) (ns:=ns) (k:=2) (m:=w+1) (by omega);obtain⟨q1,q1'⟩:=q1;obtain⟨q2,q2'⟩:=q2;generalize (oU ns (1:Nat) (m:Nat)).toNat=r at *;generalize (oU ns (2:Nat) (w+1:Nat)).toNat=c at *;have hi:In21 w m (w,rw1,r,c):=⟨rfl,ra,q1',by show c<=w;omega,rb⟩
 have gs:=hi.gs w1 w4 m2;have gl:GL (w,rw1,r,c) g:=⟨by rw[ga];exact ra.symm,λx hx=>⟨(gb x hx).1,uF (gb x hx).2⟩⟩
 have sg:∀c∈g.flatten,c∈S3:=λc hc=>by obtain⟨x,hx,hc⟩:=List.mem_flatten.1 hc;exact(gb x hx).2 c hc
 have f1:=FW hi w1 w4 m2 gl sg;have fit:cu rw1.length w g=true:=AA (by rw[ga,ra]) gl.l;have gf:jn rw1.length w g=g:=yj (by rw[ga,ra]) λx hx=>(gb x hx).1;have hb:4 * w * (rw1.length+1)<=900:=by rw[ra];exact w6 (Z0 (Nat.mul_le_mul_left 4 w4) (show m+1<=3 by omega)) (by decide)
 have f2:=Jx (C:=Co) gs fit hb false;have f3:=Iy (C:=Co) gs fit hb false;dsimp only at f2 f3;rw[gf]at f2 f3;have ln:=iJ gs gl;have sl:=(iU (bF (w,rw1,r,c) g) []).1;rw[km,eB]at sl;have so:=Di λo ho=>(fV gs gl o ho).1;have f4:coG Co [.lst false ((shO (bF (w,rw1,r,c) g)).map oD)]=.ok (.int (eS (w,rw1,r,c) g:Int)):=Lu (C:=Co) (f:=false) so (by unfold shO;dsimp only at ln;omega);have i0:∀a b:D,ixD (.lst false [a,b]) (.int 0)=some a:=λ_ _=>rfl;have i1:∀a b:D,ixD (.lst false [a,b]) (.int 1)=some b:=λ_ _=>rfl;have p0:∀l:List D,mL [.lst false l]=some (.tup l):=λ_=>rfl;have k2:∀x y,mkT [x,y]=.ok (.tup [x,y]):=λ_ _=>m_t (by simp);have k3:mkT [.int (w:Int),.tup (rw1.map .str),.tup [.int (r:Int),.int (c:Int)]]=.ok (sD (w,rw1,r,c)):=m_t (by simp);have a1:cP (.int (w:Int)) (.int 1)=some (.int ((w+1:Nat):Int)):=rfl;have eq1:eqF (.int (eS (w,rw1,r,c) g:Int)) (.int (eS (w,rw1,r,c) g:Int))=some (.bl true):=Bu rfl;have z6:6<=sizeLine:=by decide
 have z0:0<=sizeLine:=v8 _;have it:bf (.tup [.int 10,.int 30])=.ok [.int 10,.int 30]:=rfl;have st:∀(a:Option Sl),vt [1,2] (.tup [.int (w:Int),.int (m:Int)]) [a,none,none,none,none,none,none,none,none,none]=.ok [a,vI w,vI m,none,none,none,none,none,none,none]:=λ_=>rfl;have fr:∀(a b c d e f g h i:Option Sl)(l:List D),frz 4 [a,b,c,d,some (.own l),e,f,g,h,i]=[a,b,c,d,some (.val (.lst false l)),e,f,g,h,i]:=λ_ _ _ _ _ _ _ _ _ _=>rfl;have q0':jE [.lst fz (ns.map .int),.int 0,.int 6]=.ok (.int (((oU ns (0:Nat) (6:Nat)).toNat:Nat):Int)):=q0.1;have q1'':jE [.lst fz (ns.map .int),.int 1,.int (m:Int)]=.ok (.int (r:Int)):=q1;have q2'':jE [.lst fz (ns.map .int),.int 2,.int ((w+1:Nat):Int)]=.ok (.int (c:Int)):=q2;show ao (ax _ _ [vL fz ns,none,none,none,none,none,none,none,none,none])=_;unfold BO wX yz zf yT zx wO;generalize eS (w,rw1,r,c) g=LC at *;generalize (shO (bF (w,rw1,r,c) g)).map oD=TO at *;generalize sD (w,rw1,r,c)=S1 at *;generalize g.map D.str=GG at *;generalize rw1.map D.str=RR at *;generalize (oU ns (0:Nat) (6:Nat)).toNat=n0 at *;clear q0 q1 q2 q1' q2' t1 t2 hs h3 ra rb ga gb hi gs gl sg fit gf hb ln sl so w1 w4 m1 m2
 walk_at "run"
end Q21
namespace Q
open PySem PySem.Spec PyProof.Rows L2
def uZ(h:us.length=1):∃a,us=[a]:=by
 match us,h with
 | [a],_=>exact⟨a,rfl⟩
def wj(h:us.length=2):∃a b,us=[a,b]:=by
 match us,h with
 | [a,b],_=>exact⟨a,b,rfl⟩
def Dl(h:us.length=3):∃a b c,us=[a,b,c]:=by
 match us,h with
 | [a,b,c],_=>exact⟨a,b,c,rfl⟩
def KD(h:us.length=4):∃a b c d,us=[a,b,c,d]:=by
 match us,h with
 | [a,b,c,d],_=>exact⟨a,b,c,d,rfl⟩
def Mn(h:us.length=5):∃a b c d e,us=[a,b,c,d,e]:=by
 match us,h with
 | [a,b,c,d,e],_=>exact⟨a,b,c,d,e,rfl⟩
def Ho{K:PySem.W.Frag}{mg:Str->Option Value}{bm:List Value}{nid:String}(kin:K.In hp)(gl:hp.Ns mainGlobals mg)(e1:PySem.W.nsIn K mainGlobals x=some (some (.ref C)))(e2:PySem.W.excIn K C bm nid=true):OwnCls x C bm nid mg hp:=by
 constructor;·exact lY kin gl e1
 ·unfold PySem.W.excIn at e2;split at e2
  ·rename_i dct kl sls look;split at e2
   ·rename_i C0 more s0 s1 s2 s3 nw s5 hmro hsls;simp only[u8,Zj,Bool.not_eq_true']at e2;obtain⟨⟨⟨⟨⟨eC,en⟩,edel⟩,etail⟩,ens⟩,einit⟩:=e2;obtain⟨f1,f2,f3,f4,f5,f6,f7,f8,f9,f10,f11⟩:=kl;dsimp only at hmro edel ens einit;have es:sls = #[s0,s1,s2,s3,some (.builtin nw),s5]:=by obtain⟨ls⟩:=sls;simp only at hsls;rw[hsls]
    subst hmro edel es eC en;exact⟨more,f4,f1,f5,f2,f6,f7,f8,f9,f10,dct,s0,s1,s2,s3,s5,_,kin _ _ look,.of_isNs (PySem.W.isNs_of_in kin ens),PySem.W.nsMap_none_of_in kin ens einit,PySem.W.tail_of_in kin etail⟩
   ·cases e2
  ·cases e2
def B0{K:PySem.W.Frag}{mg:Str->Option Value}(kin:K.In hp)(gl:hp.Ns mainGlobals mg)(e1:PySem.W.nsIn K mainGlobals x=some (some (.ref C)))(e2:PySem.W.excIn K C [.type "ValueError",.type "Exception",.type "BaseException",.type "object"] "ValueError.__new__"=true):Ref x C mg hp:=
 ⟨_,_,_,_,Ho kin gl e1 e2,PySem.F.excBase_ValueError⟩
theorem pR{K:PySem.W.Frag}{G:Hp}:∀ns:List Int,Reps K G (ns.map V.int) (ns.map D.int)
 | []=>.nil
 |i::ns=>.cons (.int i) (pR ns)
def zX:List D->R D
 | [.lst _ ds]=>match oG ds with
  |some _=>.ok (.bl true)
  |none=>.no
 |_=>.no
def Gv{g:List D->R D}(h:∀(ns:List Int)(fz:Bool),g [.lst fz (ns.map .int)]=.ok (.bl true)):∀ds:List D,ds.length=1->zX ds=.no\/g ds=zX ds:=by
 intro ds hl
 match ds,hl with
 | [d],_=>
  cases d <;> first|exact Or.inl rfl|skip
  rename_i fz ds hl;cases hi:oG ds with
  |none=>exact Or.inl (by simp only[zX,hi])
  |some ns=>have e:=tH hi;subst e;refine Or.inr ?_;rw[h ns fz];simp only[zX,hi]
def LZ{l:PySem.W.OpenLaw}{q:Program}{XP:(Str->Option Value)->Heap->Prop}{YP:World->Heap->Prop}{d:DefRec}{K:Params->PySem.W.Frag}{L:Nat}(hL:Room L callerA)(hn:l.most=some 63)(hdf:d.params.defaults=[])(hY:∀(w:World)(h:Heap),YP w h->(K w.params).In h)(F:∀(w:World)(mg:Str->Option Value)(fa:Addr)(h:Heap),(K w.params).In h->h.Ns mainGlobals mg->mg d.name=some (.ref fa)->
 ∃fd:FuncData,(∀(s:Shared)(u:Value),BindsTo s fd ⟨[u],[]⟩ [("_law_script",u)])/\∀base:Heap,(K w.params).In base->base.Ns mainGlobals mg->FnF l.prog w (K w.params) mg base L fa fd ["_law_script"] zX):
  PySem.W.WalkO q loose XP YP l.row.toRowW d [] (λf vs=>PySem.call f vs):=
 L2.zq (n:=63) (k:=L) (x:="_law_script") (CX:=λw=>CXo l.prog w) (sp:=λw vs H Q E=>vs.length=1/\spF (K w.params) zX vs H Q E) hn (by decide) hdf hL hY F
  (λw H a ns hl hO hS=>⟨rfl,H,[.lst true (ns.map .int)],.refl _,.cons (.fls hS (pR ns)) .nil,by
   have e:zX [.lst true (ns.map .int)]=.ok (.bl true):=by simp only[zX,qP]
   rw[e];exact λv G' H' u r=>r.bl_inv⟩)
  λw H s e s' z=>by obtain⟨a,C,H',_,_,z⟩:=z;exact z
def aQ{K:PySem.W.Frag}{mg:Str->Option Value}{st:Stmt}{oc:Value}{an:Option Addr}{kV doc pm ct:Value}(X:K.In h)(G:h.Ns mainGlobals mg)(a:PySem.W.nsIn K mainGlobals x=some (some (.ref f)):=by k_is)(l:K.lookup f=some ⟨oc,od,.func (PySem.W.fnOf x x (gY st) (bu st) (ah st) .none kV doc pm an cdv ct),osl⟩:=by k_is)(c:PySem.W.codeIn K cdv x=true:=by k_is)(k:PySem.W.keepIn K (.ref f)=true:=by k_is):∃f fd,Fun K x x st f fd/\mg x=some (.ref f):=
 ⟨f,_,HB l c k,lY X G a⟩
section
variable{w:World}{K:PySem.W.Frag}{mg:Str->Option Value}{base:Heap}{st:Stmt}{n:Nat}{G:MF}
def yO{n:Nat}(F:Fun K x x st f fd)(hm:mg x=some (.ref f))(ok:FnM P w K mg base k f fd ps C G)(h:∀(kV doc pm:Value)(an:Option Addr)(cdv ct:Value)(us:List Value),us.length=ps.length->bindArgs (PySem.W.fnOf x x (gY st) (bu st) (ah st) .none kV doc pm an cdv ct) ⟨us,[]⟩=pure (ps.zip us))(e:ps.length=n+1):CalleeM P w K mg base C x k n G:=
 ⟨f,fd,ps,ok,hm,F.kp,F.binds h,e⟩
end
def jo{K:PySem.W.Frag}{its:Array Value}{n:Nat}{ds:List D}(l:K.lookup a=some ⟨.type "tuple",od,.seq its n,osl⟩)(hz:its.size<=sizeLine)(v:Vals vs its.toList)(r:∀G,Reps K G vs ds):jR K a (.tup ds):=A5 l rfl rfl hz v r
def kO{K:PySem.W.Frag}{mg:Str->Option Value}{ds:List D}(X:K.In h)(G:h.Ns mainGlobals mg)(e:PySem.W.nsIn K mainGlobals x=some (some (.ref a)))(k:jR K a (.tup ds)):∃a,mg x=some (.ref a)/\jR K a (.tup ds):=
 ⟨a,lY X G e,k⟩
end Q
namespace G21
open PySem PySem.Spec PyProof.Rows L2 Q Q21
local macro_rules | `(tactic| walk_at "s") => `(tactic| exact⟨rfl,rfl,rfl,by decide +kernel,rfl,by decide +kernel,by decide +kernel⟩)
local macro_rules | `(tactic| walk_at "1") => `(tactic| (intro _ _ _ _ _ _ us hl;obtain⟨a,z⟩:=uZ hl;subst z;rfl))
local macro_rules | `(tactic| walk_at "2") => `(tactic| (intro _ _ _ _ _ _ us hl;obtain⟨a,b,z⟩:=wj hl;subst z;rfl))
local macro_rules | `(tactic| walk_at "3") => `(tactic| (intro _ _ _ _ _ _ us hl;obtain⟨a,b,c,z⟩:=Dl hl;subst z;rfl))
local macro_rules | `(tactic| walk_at "4") => `(tactic| (intro _ _ _ _ _ _ us hl;obtain⟨a,b,c,d,z⟩:=KD hl;subst z;rfl))
local macro_rules | `(tactic| walk_at "5") => `(tactic| (intro _ _ _ _ _ _ us hl;obtain⟨a,b,c,d,e,z⟩:=Mn hl;subst z;rfl))
abbrev top(i:Nat):Stmt:=PySem.Challenge.pw_screenlines_k21_whole_least_of_all.main.body.getD i (.Pass ⟨0,0,0,0⟩)
abbrev FUz(K:PySem.W.Frag)(n:Str)(i:Nat):=Fun K n n (top i)
section
variable{w:World}{K:PySem.W.Frag}{mg:Str->Option Value}{base:Heap}
def rT:FnScope ["_law_script","_law_k"] ["_law_script","_law_k"] (ah (top 50)):=by walk_at "s"
def rR:FnScope ["_law_script","_law_k","_law_many","_law_drawn"] ["_law_script","_law_k","_law_many"] (ah (top 51)):=by walk_at "s"
def rX:FnScope ["_law_screen_here","_law_order","_law_width","_law_rows","_law_place","_law_good","_law_text","_law_end","_law_row_here","_law_new"] ["_law_screen_here","_law_order"] (ah (top 55)):=by walk_at "s"
def sk:FnScope ["_law_screen_here","_law_goal_here","_law_made","_law_sign","_law_row_here"] ["_law_screen_here","_law_goal_here"] (ah (top 58)):=by walk_at "s"
def oT:FnScope ["_law_screen_here","_law_goal_here","_law_levels","_law_known","_law_total","_law_here","_law_cost_here","_law_later"] ["_law_screen_here","_law_goal_here"] (ah (top 59)):=by walk_at "s"
def oP{gX Fw:List D->R D}(sF:Callee P w K mg base "_law_next" 2 2 gX)(hF:∀d0 d1,Fw [d0,d1]=.no\/∃n All next gl s fuel,FewOk gX d0 d1 n All next gl s fuel/\Fw [d0,d1]=.ok (.int (n:Nat)))(Fn:FUz K "_law_fewest" 59 f fd):FnF P w K mg base 3 f fd ["_law_screen_here","_law_goal_here"] (λds=>ao (GV Fw (ak 8 ds))):=by
 have hN:(["_law_screen_here","_law_goal_here","_law_levels","_law_known","_law_total","_law_here","_law_cost_here","_law_later"]:List Str).Nodup:=by decide
 refine Fn.okF oT (k:=2) (g:=GV Fw) λcdv A outer s H E hr=>?_;have hu:=hr.units;intro G₀ H₀ pins s1 σ1 H1 D I h;have u1:(A.deeper (envOfC "_law_fewest" (ah (top 59)) s.heap.objs.size f cdv)).units+1<cLine:=by omega
 have u2:(A.deeper (envOfC "_law_fewest" (ah (top 59)) s.heap.objs.size f cdv)).in1.units+1<cLine:=by show _+1+1<cLine;omega
 have vr:∀(i:Nat){x:Str}{p:Pos},(["_law_screen_here","_law_goal_here","_law_levels","_law_known","_law_total","_law_here","_law_cost_here","_law_later"]:List Str)[i]?=some x->(x==("__debug__":Str))=false->(x==("__classdict__":Str))=false->(ah (top 59)).names.lookup x=some .local->PE (fE (CXo P w) P w K mg base ["_law_screen_here","_law_goal_here","_law_levels","_law_known","_law_total","_law_here","_law_cost_here","_law_later"] "_law_fewest" (ah (top 59)) f cdv A outer s H E) (.Name x p) (nX i):=λi x p h1 h2 h3 h4=>fD h1 (.inl h4) h2 h3;have gn:∀(i:Nat){x:Str}{p:Pos},(["_law_screen_here","_law_goal_here","_law_levels","_law_known","_law_total","_law_here","_law_cost_here","_law_later"]:List Str)[i]?=some x->(ah (top 59)).names.lookup x=some .local->PG (fE (CXo P w) P w K mg base ["_law_screen_here","_law_goal_here","_law_levels","_law_known","_law_total","_law_here","_law_cost_here","_law_later"] "_law_fewest" (ah (top 59)) f cdv A outer s H E) (.Name x p) (lU i):=λi x p h1 h2=>ia hN h1 (.inl h2) (.inr h2);refine(?st:PSs (fE (CXo P w) P w K mg base ["_law_screen_here","_law_goal_here","_law_levels","_law_known","_law_total","_law_here","_law_cost_here","_law_later"] "_law_fewest" (ah (top 59)) f cdv A outer s H E) (bu (top 59)) (LA _ gX)) pins s1 σ1 H1 D I (Ei hF h);exact cF (eU (CM (bT (Kg u1 (vr 0 rfl rfl rfl rfl) ya) (bT BF (bT BF gh)))) (gn 2 rfl rfl)) (cF (eU BF (gn 3 rfl rfl)) (cF (eU yh (gn 4 rfl rfl)) (jq (AC nU (FH ya)
  (cF (tu nU rfl (GB (zW ix_list (vr 2 rfl rfl rfl rfl) (vr 4 rfl rfl rfl rfl) λ_ _=>rfl)) (gn 5 rfl rfl)
   (jq (EY (Hw (D4 u2 (vr 5 rfl rfl rfl rfl) (vr 3 rfl rfl rfl rfl)))
    (cF (EY (oq hu (aE (af at5) ai) (af at1)) (jq (xR (vr 4 rfl rfl rfl rfl))) sx)
     (cF (eU ya (uT (vr 3 rfl rfl rfl rfl) (vr 5 rfl rfl rfl rfl) (zr u2)))
      (jq (tu nU rfl (C1 (az sF hr (ad (af at5) (ad (af at1) ae)))) (Ch rfl (oe (gn 6 rfl rfl) (oe (gn 7 rfl rfl) yy)))
       (jq (eU ya (uT (zW ix_list (vr 2 rfl rfl rfl rfl) (BR (vr 4 rfl rfl rfl rfl) (vr 6 rfl rfl rfl rfl)) λ_ _=>rfl) (vr 7 rfl rfl rfl rfl) (zr u2)))))))) sx)))
   (cF (jh (wR ZL PySem.F.slot_list_append PySem.F.type_list_append iT (vr 2 rfl rfl rfl rfl) (bT BF gh) rfl rfl rfl rfl rfl) rfl)
    (jq (eU (BR (vr 4 rfl rfl rfl rfl) yh) (gn 4 rfl rfl)))))))))
def rM:FnScope ["thing"] ["thing"] (ah (top 5)):=by walk_at "s"
def qp:FnScope ["thing","low","high"] ["thing","low","high"] (ah (top 6)):=by walk_at "s"
def tq:FnScope ["thing"] ["thing"] (ah (top 7)):=by walk_at "s"
def jH:FnScope ["thing","width"] ["thing","width"] (ah (top 11)):=by walk_at "s"
def rh:FnScope ["thing","width","many"] ["thing","width","many"] (ah (top 12)):=by walk_at "s"
def qH:FnScope ["thing","width"] ["thing"] (ah (top 13)):=by walk_at "s"
def kT:FnScope ["thing"] ["thing"] (ah (top 14)):=by walk_at "s"
def rN:FnScope ["screen","thing"] ["screen","thing"] (ah (top 15)):=by walk_at "s"
def nB:FnScope ["screen","thing"] ["screen","thing"] (ah (top 16)):=by walk_at "s"
def pi:FnScope ["screen","rows","width","missing"] ["screen","rows"] (ah (top 17)):=by walk_at "s"
def nh:FnScope ["order"] ["order"] (ah (top 27)):=by walk_at "s"
def pI:FnScope ["plan"] ["plan"] (ah (top 37)):=by walk_at "s"
def Bs:FnScope ["plans","state","plan"] ["plans","state","plan"] (ah (top 38)):=by walk_at "s"
def AE(ki:Callee P w K mg base "plan_cost" 1 1 aN){F:MF}(ok:qE DC (eO aN) 3 F)(Fn:FUz K "offer" 38 f fd):FnM P w K mg base 2 f fd ["plans","state","plan"] DC F:=by refine Fn.okM Bs ok (k:=1) λ_ _ _ _ _ _ hr=>?_;have hu:=hr.units;exact(ag (jm (qb (kh (FL 0 hu (af at1)) (im (EJ (az ki hr (ad (af at2) ae)) (az ki hr (ad (ql 0 hu (af at1)) ae)))))) (ag (Fv 0 hu (af at2) (af at1)) aw) aw) aw)
def ij:FnScope ["plans","state","plan","order"] ["plans","state","plan","order"] (ah (top 39)):=by walk_at "s"
def gZ{I_offer:MF}(fT:Callee P w K mg base "order_cost" 2 1 bc)(sG:CalleeM P w K mg base DC "offer" 2 2 I_offer){F:MF}(ok:qE DC (aP I_offer bc) 4 F)(Fn:FUz K "offer_with_order" 39 f fd):FnM P w K mg base 3 f fd ["plans","state","plan","order"] DC F:=by exact Fn.okM ij ok (k:=2) λ_ _ _ _ _ _ hr=>(ag (mG (mq 0 sG hr (ad (af at1) (ad (bN (ad (cf (aE (af at2) ai) (az fT hr (ad (af at3) ae))) (ad (cf (aE (af at2) ai) (bN (ad (af at3) ae))) ae))) ae)))) aw)
def oM:FnScope ["plans","number","column","more"] ["plans","number","column"] (ah (top 40)):=by walk_at "s"
def oO(qy:mg "dict"=none)(aG:mg "ELSEWHERE"=some (.ref a_ELSEWHERE))(aS:jR K a_ELSEWHERE (D.tup [D.bl false,D.bl false]))(cI:mg "HERE"=some (.ref a_HERE))(eT:jR K a_HERE (D.tup [D.bl true,D.bl false]))(aK:mg "HERE_WIPED"=some (.ref a_HERE_WIPED))(aX:jR K a_HERE_WIPED (D.tup [D.bl true,D.bl true]))(av:mg "ELSEWHERE_WIPED"=some (.ref a_ELSEWHERE_WIPED))(aD:jR K a_ELSEWHERE_WIPED (D.tup [D.bl false,D.bl true]))(bi:CalleeM P w K mg base DC "offer_with_order" 3 3 I_offer_with_order)(hg:∀ds:List D,ds.length=3->gr ds=.no\/∀q,ao (bC I_offer_with_order q (ak 4 ds))=gr ds)(Fn:FUz K "with_moves" 40 f fd):FnF P w K mg base 4 f fd ["plans","number","column"] gr:=by
 have hN:(["plans","number","column","more"]:List Str).Nodup:=by decide
 refine Fn.okA oM (k:=3) (g:=bC I_offer_with_order) hg λcdv A outer s H E hr=>?_;have hu:=hr.units;have h_1:PSF (fE (CXo P w) P w K mg base ["plans","number","column","more"] "with_moves" (ah (top 40)) f cdv A outer s H E) ((bu (top 40)).getD 1 (.Pass ⟨0,0,0,0⟩)) (cR I_offer_with_order):=(jm (BA 3 hu (aL rfl aG aS)) (ag (mG (mq 3 bi hr (ad (aL rfl cI eT) (ad (ql 3 hu (aL rfl aG aS)) (ad (bN (ad (aW (l:=[103,111]) rfl (by decide)) (ad (af at1) (ad (af at2) ae)))) ae))))) aw) aw)
 have h_2:PSF (fE (CXo P w) P w K mg base ["plans","number","column","more"] "with_moves" (ah (top 40)) f cdv A outer s H E) ((bu (top 40)).getD 2 (.Pass ⟨0,0,0,0⟩)) (cW I_offer_with_order):=(jm (BA 3 hu (aL rfl cI eT)) (ag (mG (mq 3 bi hr (ad (aL rfl aK aX) (ad (ql 3 hu (aL rfl cI eT)) (ad (bN (ad (aW (l:=[119,105,112,101]) rfl (by decide)) ae)) ae))))) aw) aw)
 have h_3:PSF (fE (CXo P w) P w K mg base ["plans","number","column","more"] "with_moves" (ah (top 40)) f cdv A outer s H E) ((bu (top 40)).getD 3 (.Pass ⟨0,0,0,0⟩)) (cY I_offer_with_order):=(jm (BA 3 hu (aL rfl av aD)) (ag (mG (mq 3 bi hr (ad (aL rfl aK aX) (ad (ql 3 hu (aL rfl av aD)) (ad (bN (ad (aW (l:=[103,111]) rfl (by decide)) (ad (af at1) (ad (af at2) ae)))) ae))))) aw) aw)
 have h_4:PSF (fE (CXo P w) P w K mg base ["plans","number","column","more"] "with_moves" (ah (top 40)) f cdv A outer s H E) ((bu (top 40)).getD 4 (.Pass ⟨0,0,0,0⟩)) (iP I_offer_with_order):=(Cv 3)
 exact(A6 3 hN rfl qy (af at0) (yW (ag h_1 (ag h_2 (ag h_3 (ag h_4 aw))))))
def lh:FnScope ["plans","old","new","further","state","plan","wiped"] ["plans","old","new"] (ah (top 41)):=by walk_at "s"
def lK{I_offer:MF}(bi:CalleeM P w K mg base DC "offer_with_order" 3 3 I_offer_with_order)(sG:CalleeM P w K mg base DC "offer" 3 2 I_offer)(hg:∀ds:List D,ds.length=3->gr ds=.no\/∀q,ao (bB I_offer_with_order I_offer q (ak 7 ds))=gr ds)(Fn:FUz K "stepped_over" 41 f fd):FnF P w K mg base 4 f fd ["plans","old","new"] gr:=by
 have hN:(["plans","old","new","further","state","plan","wiped"]:List Str).Nodup:=by decide
 refine Fn.okA lh (k:=3) (g:=bB I_offer_with_order I_offer) hg λcdv A outer s H E hr=>?_;have hu:=hr.units;have h_1:PSF (fE (CXo P w) P w K mg base ["plans","old","new","further","state","plan","wiped"] "stepped_over" (ah (top 41)) f cdv A outer s H E) ((bu (top 41)).getD 1 (.Pass ⟨0,0,0,0⟩)) (bM I_offer_with_order I_offer):=(qj nU rfl (xF (af at0)) (sL rfl (cr 4 hN (cr 5 hN jQ))) (ag (cL at6 hN (aE (af at4) ai)) (ag (jm (Ih (aE (af at4) ai)) (ag (mG (mq 3 bi hr (ad (bN (ad mY (ad (af at6) ae))) (ad (af at5) (ad (bN (ad (aW (l:=[115,97,121]) rfl (by decide)) (ad (af at2) ae))) ae))))) aw) aw) (ag (jm (oq hu (sQ (xk (af at6)) (aW (l:=[32]) rfl (by decide)) (af at1)) (af at2)) (ag (mG (mq 3 sG hr (ad (bN (ad mY (ad (af at6) ae))) (ad (af at5) ae)))) aw) aw) aw))) (hn:=kL _))
 have h_2:PSF (fE (CXo P w) P w K mg base ["plans","old","new","further","state","plan","wiped"] "stepped_over" (ah (top 41)) f cdv A outer s H E) ((bu (top 41)).getD 2 (.Pass ⟨0,0,0,0⟩)) (dm I_offer_with_order I_offer):=(Cv 3)
 exact(Ed 3 hN (yW (ag h_1 (ag h_2 aw))))
def zS:FnScope ["plans","number","old","new","begin","current","column"] ["plans","number","old","new","begin"] (ah (top 42)):=by walk_at "s"
def sB:FnScope ["plans","states"] ["plans","states"] (ah (top 43)):=by walk_at "s"
def fG:FnScope ["number","old","new","plans"] ["number","old","new"] (ah (top 44)):=by walk_at "s"
def iX:FnScope ["number","old","new","place","plans","right","left"] ["number","old","new","place"] (ah (top 45)):=by walk_at "s"
def gQ:FnScope ["number","old","new","place","plans"] ["number","old","new","place"] (ah (top 46)):=by walk_at "s"
def wY:FnScope ["thing"] ["thing"] (ah (top 22)):=by walk_at "s"
def As:FnScope ["thing"] ["thing"] (ah (top 23)):=by walk_at "s"
def rV:FnScope ["thing"] ["thing"] (ah (top 24)):=by walk_at "s"
def mh:FnScope ["thing"] ["thing"] (ah (top 25)):=by walk_at "s"
def kZ:FnScope ["thing","order"] ["thing"] (ah (top 26)):=by walk_at "s"
def jj:FnScope ["one","other","text"] ["one","other"] (ah (top 29)):=by walk_at "s"
def qI:FnScope ["orders","short","order","both"] ["orders"] (ah (top 30)):=by walk_at "s"
def Bc:FnScope ["screen","rows","wanted","own","orders","number","row"] ["screen","rows"] (ah (top 47)):=by walk_at "s"
def DW:FnScope ["orders"] ["orders"] (ah (top 28)):=by walk_at "s"
def nK:FnScope ["screen","rows"] ["screen","rows"] (ah (top 48)):=by walk_at "s"
def G9:FnScope ["_law_script","_law_width","_law_many","_law_signs","_law_rows","_law_place","_law_cells","_law_screen_here","_law_due","_law_told"] ["_law_script"] (ah (top 60)):=by walk_at "s"
def Gu{aB bh bv:List D->R D}(cC:mg "range"=none)(bE:mg "tuple"=none)(fA:Callee P w K mg base "_law_pick" 9 3 aB)(oB:Callee P w K mg base "_law_fewest" 9 2 bh)(qx:Callee P w K mg base "least_cost" 9 2 bv)(rS:Callee P w K mg base "least" 9 2 cD)(yZ:Callee P w K mg base "cost" 9 1 eV)(Fn:FUz K "law" 60 f fd):FnF P w K mg base 10 f fd ["_law_script"] (λds=>ao (tf aB bh bv cD eV (ak 10 ds))):=by
 have hN:(["_law_script","_law_width","_law_many","_law_signs","_law_rows","_law_place","_law_cells","_law_screen_here","_law_due","_law_told"]:List Str).Nodup:=by decide
 obtain⟨body,hd⟩:∃body,bu (top 60)=body:=⟨_,rfl⟩
 have hb:∀(cdv:Value)(A:Around)(outer:List Env)(s:Shared)(H:Hp)(E:XK),Room 9 (A.deeper (envOfC "law" (ah (top 60)) s.heap.objs.size f cdv))->lR (fE (CXo P w) P w K mg base ["_law_script","_law_width","_law_many","_law_signs","_law_rows","_law_place","_law_cells","_law_screen_here","_law_due","_law_told"] "law" (ah (top 60)) f cdv A outer s H E) body (tf aB bh bv cD eV):=by
  intro cdv A outer s H E hr;rw[<- hd];have hu:=hr.units;have t2:∀{i i2:Int}{j j2:Nat}{p p2:Pos},PFA (fE (CXo P w) P w K mg base ["_law_script","_law_width","_law_many","_law_signs","_law_rows","_law_place","_law_cells","_law_screen_here","_law_due","_law_told"] "law" (ah (top 60)) f cdv A outer s H E) [.Constant (.int i) j p,.Constant (.int i2) j2 p2] (aa (λ_=>R.ok (D.int i)) (aa (λ_=>R.ok (D.int i2)) nlz)):=ad ai (ad ai ae);have gen:∀(x1 x2 x3 x4 x5 x6:List Expr)(u1 u2 u3 u4 u5 u6:Ev->R (List D)),PFA (fE (CXo P w) P w K mg base ["_law_script","_law_width","_law_many","_law_signs","_law_rows","_law_place","_law_cells","_law_screen_here","_law_due","_law_told"] "law" (ah (top 60)) f cdv A outer s H E) x1 u1->PFA (fE (CXo P w) P w K mg base ["_law_script","_law_width","_law_many","_law_signs","_law_rows","_law_place","_law_cells","_law_screen_here","_law_due","_law_told"] "law" (ah (top 60)) f cdv A outer s H E) x2 u2->PFA (fE (CXo P w) P w K mg base ["_law_script","_law_width","_law_many","_law_signs","_law_rows","_law_place","_law_cells","_law_screen_here","_law_due","_law_told"] "law" (ah (top 60)) f cdv A outer s H E) x3 u3->PFA (fE (CXo P w) P w K mg base ["_law_script","_law_width","_law_many","_law_signs","_law_rows","_law_place","_law_cells","_law_screen_here","_law_due","_law_told"] "law" (ah (top 60)) f cdv A outer s H E) x4 u4->PFA (fE (CXo P w) P w K mg base ["_law_script","_law_width","_law_many","_law_signs","_law_rows","_law_place","_law_cells","_law_screen_here","_law_due","_law_told"] "law" (ah (top 60)) f cdv A outer s H E) x5 u5->PFA (fE (CXo P w) P w K mg base ["_law_script","_law_width","_law_many","_law_signs","_law_rows","_law_place","_law_cells","_law_screen_here","_law_due","_law_told"] "law" (ah (top 60)) f cdv A outer s H E) x6 u6->∀st:Stmt,st=.Assign [.Tuple [.Name "_law_width" ⟨230,4,230,14⟩,.Name "_law_many" ⟨230,16,230,25⟩] 0 ⟨230,4,230,25⟩] (.Subscript (.List [.Tuple x1 0 ⟨230,29,230,35⟩,.Tuple x2 0 ⟨230,37,230,43⟩,.Tuple x3 0 ⟨230,45,230,51⟩,.Tuple x4 0 ⟨230,53,230,59⟩,.Tuple x5 0 ⟨230,61,230,67⟩,.Tuple x6 0 ⟨230,69,230,75⟩] ⟨230,28,230,76⟩) (.Call (.Name "_law_pick" ⟨230,77,230,86⟩) [.Name "_law_script" ⟨230,87,230,98⟩,.Constant (.int 0) 0 ⟨230,100,230,101⟩,.Constant (.int 6) 0 ⟨230,103,230,104⟩] [] ⟨230,77,230,105⟩) ⟨230,28,230,106⟩) ⟨230,4,230,106⟩->lR (fE (CXo P w) P w K mg base ["_law_script","_law_width","_law_many","_law_signs","_law_rows","_law_place","_law_cells","_law_screen_here","_law_due","_law_told"] "law" (ah (top 60)) f cdv A outer s H E) (st::(bu (top 60)).drop 1) (ax (Go (vt [1,2]) (g2 ixD (bA (zy (aa (aq mkT u1) (aa (aq mkT u2) (aa (aq mkT u3) (aa (aq mkT u4) (aa (aq mkT u5) (aa (aq mkT u6) nlz)))))))) (aA 3 aB (aa (rvz 0) (aa (ciz 0) (aa (ciz 6) nlz)))))) (ax tD (ax wX (ax (yz aB) (CP 4 (ax (zf aB) (ax (yT bh) (ax (zx bv) (ax (wO cD eV) oNx))))))))):=by intro x1 x2 x3 x4 x5 x6 u1 u2 u3 u4 u5 u6 h1 h2 h3 h4 h5 h6 st e;subst e;exact(ag (CL (aE (uK (sZ (ad (bN h1) (ad (bN h2) (ad (bN h3) (ad (bN h4) (ad (bN h5) (ad (bN h6) ae)))))))) (az fA hr (ad (af at0) (ad ai (ad ai ae))))) rfl (cr 1 hN (cr 2 hN jQ))) (ag (cL at3 hN (sQ (qb (DA (oq hu (af at2) ai) (Bx (EJ (af at1) ai)))) (aW (l:=[32,32,97,98]) rfl (by decide)) (aW (l:=[32,32,97,32]) rfl (by decide)))) (ag (Bn 4 hN (sZ ae)) (ag (qj nU rfl (fB (bN (ad ai (ad ai ae)))) (cU 5 hN) (ag (Ai 6 hN (x:="_law_k") (N':=["_law_k","_law_script","_law_width","_law_signs","_law_place"]) (ix:=[0,1,3,5]) zT rfl (jM rfl cC (ad (af at2) ae)) (λC s₂ H₂ fp=>(gT (cE (N':=["_law_j","_law_k","_law_script","_law_signs","_law_place"]) (ix:=[0,1,3,4]) er rfl (jM rfl cC (ad (HF at2) ae)) (λC s₂ H₂ fp=>(aE (bI at3) (az fA hr (ad (bI at2) (ad (cf (cf (bI at4) (ju ai (bI at1))) (bI at0)) (ad ai ae)))))) (λC s₂ H₂ fp=>eY)))) (λC s₂ H₂ fp=>eY)) (wM 6 (ag (oK 4 (gT (cE (N':=["_law_cell_row"]) (ix:=[]) er rfl (fB (af at6)) (λC s₂ H₂ fp=>(FC (aW (l:=[]) rfl (by decide)) (ad (bI at0) ae))) (λC s₂ H₂ fp=>eY)))) aw)))) (wM 4 (ag (cL at7 hN (bN (ad (af at1) (ad (qB rfl bE (ad (aE (af at4) ai) ae)) (ad (bN (ad (az fA hr (ad (af at0) (ad ai (ad (af at2) ae)))) (ad (az fA hr (ad (af at0) (ad ai (ad (cf (af at1) ai) ae)))) ae))) ae))))) (ag (cL at8 hN (az oB hr (ad (af at7) (ad (qB rfl bE (ad (aE (af at4) ai) ae)) ae)))) (ag (cL at9 hN (az qx hr (ad (af at7) (ad (aE (af at4) ai) ae)))) (ag (bq (D7 hu (af at9) (af at8) (az yZ hr (ad (az rS hr (ad (af at7) (ad (aE (af at4) ai) ae))) ae)))) aw)))))))))
  refine gen ?x1 ?x2 ?x3 ?x4 ?x5 ?x6 _ _ _ _ _ _ ?h1 ?h2 ?h3 ?h4 ?h5 ?h6 _ ?e
  case e=>rfl
  all_goals exact t2
 exact Fn.okF2 G9 hd hb
end
def Hb{w:World}{K:PySem.W.Frag}{mg:Str->Option Value}{fa:Addr}(hfa:mg "law"=some (.ref fa))(lA:mg "all"=none)(oW:mg "bool"=none)(qy:mg "dict"=none)(de:mg "enumerate"=none)(rA:mg "int"=none)(am:mg "isinstance"=none)(aU:mg "len"=none)(fZ:mg "list"=none)(qf:mg "min"=none)(cC:mg "range"=none)(xf:mg "set"=none)(iL:mg "sorted"=none)(zd:mg "str"=none)(yw:mg "sum"=none)(bE:mg "tuple"=none)(aG:∃a,mg "ELSEWHERE"=some (.ref a)/\jR K a (D.tup [D.bl false,D.bl false]))(av:∃a,mg "ELSEWHERE_WIPED"=some (.ref a)/\jR K a (D.tup [D.bl false,D.bl true]))(dg:∃t,mg "GO_COST"=some (.int 2 t))(cI:∃a,mg "HERE"=some (.ref a)/\jR K a (D.tup [D.bl true,D.bl false]))(aK:∃a,mg "HERE_WIPED"=some (.ref a)/\jR K a (D.tup [D.bl true,D.bl true]))(bn:∃t,mg "MOST_ROWS"=some (.int 12 t))(bo:∃t,mg "MOST_SAID"=some (.int 40 t))(aY:∃t,mg "MOST_WIDTH"=some (.int 40 t))(aZ:∃a,mg "NO_ORDERS"=some (.ref a)/\jR K a (D.tup [D.int 0,D.tup []]))(bW:∃t,mg "WIPE_COST"=some (.int 1 t))(lq:PySem.W.nsIn K mainGlobals "NoOrder"=some (some (.ref bd)))(kB:PySem.W.excIn K bd [.type "ValueError",.type "Exception",.type "BaseException",.type "object"] "ValueError.__new__"=true)(jr:PySem.W.nsIn K mainGlobals "NoScreen"=some (some (.ref bb)))(jk:PySem.W.excIn K bb [.type "ValueError",.type "Exception",.type "BaseException",.type "object"] "ValueError.__new__"=true)(h50:∃f fd,FUz K "_law_cell" 50 f fd/\mg "_law_cell"=some (.ref f))(h51:∃f fd,FUz K "_law_pick" 51 f fd/\mg "_law_pick"=some (.ref f))(h55:∃f fd,FUz K "_law_step" 55 f fd/\mg "_law_step"=some (.ref f))(h58:∃f fd,FUz K "_law_next" 58 f fd/\mg "_law_next"=some (.ref f))(h59:∃f fd,FUz K "_law_fewest" 59 f fd/\mg "_law_fewest"=some (.ref f))(h5:∃f fd,FUz K "is_whole" 5 f fd/\mg "is_whole"=some (.ref f))(h6:∃f fd,FUz K "is_within" 6 f fd/\mg "is_within"=some (.ref f))(h7:∃f fd,FUz K "is_plain" 7 f fd/\mg "is_plain"=some (.ref f))(h11:∃f fd,FUz K "are_full_rows" 11 f fd/\mg "are_full_rows"=some (.ref f))(h12:∃f fd,FUz K "is_place" 12 f fd/\mg "is_place"=some (.ref f))(h13:∃f fd,FUz K "is_screen" 13 f fd/\mg "is_screen"=some (.ref f))(h14:∃f fd,FUz K "check_screen" 14 f fd/\mg "check_screen"=some (.ref f))(h15:∃f fd,FUz K "are_rows" 15 f fd/\mg "are_rows"=some (.ref f))(h16:∃f fd,FUz K "check_rows" 16 f fd/\mg "check_rows"=some (.ref f))(h17:∃f fd,FUz K "full_rows" 17 f fd/\mg "full_rows"=some (.ref f))(h27:∃f fd,FUz K "order_cost" 27 f fd/\mg "order_cost"=some (.ref f))(h37:∃f fd,FUz K "plan_cost" 37 f fd/\mg "plan_cost"=some (.ref f))(h38:∃f fd,FUz K "offer" 38 f fd/\mg "offer"=some (.ref f))(h39:∃f fd,FUz K "offer_with_order" 39 f fd/\mg "offer_with_order"=some (.ref f))(h40:∃f fd,FUz K "with_moves" 40 f fd/\mg "with_moves"=some (.ref f))(h41:∃f fd,FUz K "stepped_over" 41 f fd/\mg "stepped_over"=some (.ref f))(h42:∃f fd,FUz K "swept" 42 f fd/\mg "swept"=some (.ref f))(h43:∃f fd,FUz K "cheapest" 43 f fd/\mg "cheapest"=some (.ref f))(h44:∃f fd,FUz K "plan_from_elsewhere" 44 f fd/\mg "plan_from_elsewhere"=some (.ref f))(h45:∃f fd,FUz K "plan_from_place" 45 f fd/\mg "plan_from_place"=some (.ref f))(h46:∃f fd,FUz K "row_of_place_plan" 46 f fd/\mg "row_of_place_plan"=some (.ref f))(h22:∃f fd,FUz K "is_say" 22 f fd/\mg "is_say"=some (.ref f))(h23:∃f fd,FUz K "is_go" 23 f fd/\mg "is_go"=some (.ref f))(h24:∃f fd,FUz K "is_order" 24 f fd/\mg "is_order"=some (.ref f))(h25:∃f fd,FUz K "check_order" 25 f fd/\mg "check_order"=some (.ref f))(h26:∃f fd,FUz K "check_orders" 26 f fd/\mg "check_orders"=some (.ref f))(h29:∃f fd,FUz K "joined_or_none" 29 f fd/\mg "joined_or_none"=some (.ref f))(h30:∃f fd,FUz K "shortened" 30 f fd/\mg "shortened"=some (.ref f))(h47:∃f fd,FUz K "least" 47 f fd/\mg "least"=some (.ref f))(h28:∃f fd,FUz K "cost" 28 f fd/\mg "cost"=some (.ref f))(h48:∃f fd,FUz K "least_cost" 48 f fd/\mg "least_cost"=some (.ref f))(h60:∃f fd,FUz K "law" 60 f fd/\mg "law"=some (.ref f)):
  ∃fd:FuncData,(∀(s:Shared)(u:Value),BindsTo s fd ⟨[u],[]⟩ [("_law_script",u)])/\∀base:Heap,K.In base->base.Ns mainGlobals mg->FnF P w K mg base 10 fa fd ["_law_script"] zX:=by
 obtain⟨a_ELSEWHERE,aG,aS⟩:=aG;obtain⟨a_ELSEWHERE_WIPED,av,aD⟩:=av;obtain⟨pQ,dg⟩:=dg;obtain⟨a_HERE,cI,eT⟩:=cI;obtain⟨a_HERE_WIPED,aK,aX⟩:=aK;obtain⟨fg,bn⟩:=bn;obtain⟨fj,bo⟩:=bo;obtain⟨dE,aY⟩:=aY;obtain⟨a_NO_ORDERS,aZ,bV⟩:=aZ;obtain⟨lD,bW⟩:=bW;obtain⟨f50,d50,F50⟩:=h50;obtain⟨f51,d51,F51⟩:=h51;obtain⟨f55,d55,F55⟩:=h55;obtain⟨f58,d58,F58⟩:=h58;obtain⟨f59,d59,F59⟩:=h59;obtain⟨f5,d5,F5⟩:=h5;obtain⟨f6,d6,F6⟩:=h6;obtain⟨f7,d7,F7⟩:=h7;obtain⟨f11,d11,F11⟩:=h11;obtain⟨f12,d12,F12⟩:=h12;obtain⟨f13,d13,F13⟩:=h13;obtain⟨f14,d14,F14⟩:=h14;obtain⟨f15,d15,F15⟩:=h15;obtain⟨f16,d16,F16⟩:=h16;obtain⟨f17,d17,F17⟩:=h17;obtain⟨f27,d27,F27⟩:=h27;obtain⟨f37,d37,F37⟩:=h37;obtain⟨f38,d38,F38⟩:=h38;obtain⟨f39,d39,F39⟩:=h39;obtain⟨f40,d40,F40⟩:=h40;obtain⟨f41,d41,F41⟩:=h41;obtain⟨f42,d42,F42⟩:=h42;obtain⟨f43,d43,F43⟩:=h43;obtain⟨f44,d44,F44⟩:=h44;obtain⟨f45,d45,F45⟩:=h45;obtain⟨f46,d46,F46⟩:=h46;obtain⟨f22,d22,F22⟩:=h22;obtain⟨f23,d23,F23⟩:=h23;obtain⟨f24,d24,F24⟩:=h24;obtain⟨f25,d25,F25⟩:=h25;obtain⟨f26,d26,F26⟩:=h26;obtain⟨f29,d29,F29⟩:=h29;obtain⟨f30,d30,F30⟩:=h30;obtain⟨f47,d47,F47⟩:=h47;obtain⟨f28,d28,F28⟩:=h28;obtain⟨f48,d48,F48⟩:=h48;obtain⟨f60,d60,F60⟩:=h60;have e:fa=f60:=by have:=hfa.symm.trans F60.2;injection this with this;injection this
 subst e;refine⟨d60,λs u=>?_,λbase kb nb=>?_⟩;·obtain⟨oc,od,kV,doc,pm,an,cdv,ct,osl,rfl,lk,hcd⟩:=F60.1.ex;exact .of_eq rfl
 ·have eK:=B0 (x:="NoOrder") kb nb lq kB;have cZ:=B0 (x:="NoScreen") kb nb jr jk;have k50:=F50.1.callee F50.2 ((F50.1.okF (P:=P) (w:=w) (base:=base) rT (k:=0) (g:=cM) λ_ _ _ _ _ _ hr=>(ag (jm (EJ (af at1) (dz rfl aU (ad (af at0) ae))) (ag (bq (aE (af at0) (af at1))) aw) aw) (ag (jm (oq hr.units (af at0) (uK (sZ ae))) (ag (bq ai) aw) aw) (ag (bq (cf (ju (aE (af at0) (tK (af at1) (dz rfl aU (ad (af at0) ae)))) ai) (af at1))) aw)))).to (tfr (F:=AQ))) (by walk_at "2");have k51:=F51.1.callee F51.2 ((F51.1.okF rR (k:=1) (g:=cN _) λ_ _ _ _ _ _ hr=>(ag (cL at3 rR.nd (tK (ju (cf (az k50 hr (ad (af at0) (ad (af at1) ae))) (ju ai (cf (af at1) ai))) ai) ai)) (ag (bq (tK (tK (cf (ju (af at3) (af at3)) (Da (af at3) ai)) ai) (af at2))) aw))).to (tfr (F:=jE))) (by walk_at "3");have k55:=F55.1.callee F55.2 ((F55.1.okF (P:=P) (w:=w) (base:=base) rX (k:=0) (g:=ff) λ_ _ _ _ _ _ hr=>(ag (CL (af at0) rfl (cr 2 rX.nd (cr 3 rX.nd (cr 4 rX.nd jQ)))) (ag (jm (oq hr.units (aE (af at1) ai) (aW (l:=[103,111]) rfl (by decide))) (ag (cL at5 rX.nd (fP (KA (aE (af at1) ai) (dz rfl aU (ad (af at3) ae))) (gU (Gx (aE (af at1) ai) (af at2))))) (ag (bq (sQ (xk (af at5)) (bN (ad (af at2) (ad (af at3) (ad (bN (ad (aE (af at1) ai) (ad (aE (af at1) ai) ae))) ae)))) (aW (l:=[110,111,32,114,111,111,109]) rfl (by decide)))) aw)) aw) (ag (cL at6 rX.nd (sQ (oq hr.units (aE (af at1) ai) (aW (l:=[115,97,121]) rfl (by decide))) (aE (af at1) ai) (ju (aW (l:=[32]) rfl (by decide)) (uH (af at2) (aE (af at4) ai))))) (ag (cL at7 rX.nd (cf (aE (af at4) ai) (dz rfl aU (ad (af at6) ae)))) (ag (jm (Ec (af at7) (af at2)) (ag (bq (aW (l:=[110,111,32,114,111,111,109]) rfl (by decide))) aw) aw) (ag (cL at8 rX.nd (aE (af at3) (aE (af at4) ai))) (ag (cL at8 rX.nd (cf (cf (gC (af at8) gK (mT (aE (af at4) ai))) (af at6)) (gC (af at8) (mT (af at7)) gK))) (ag (cL at9 rX.nd (cf (cf (gC (af at3) gK (mT (aE (af at4) ai))) (bN (ad (af at8) ae))) (gC (af at3) (mT (cf (aE (af at4) ai) ai)) gK))) (ag (bq (bN (ad (af at2) (ad (af at9) (ad (bN (ad (aE (af at4) ai) (ad (sQ (oq hr.units (aE (af at1) ai) (aW (l:=[115,97,121]) rfl (by decide))) (af at7) (aE (af at4) ai)) ae))) ae))))) aw)))))))))).to (tfr (F:=stG))) (by walk_at "2");have k58:=F58.1.callee F58.2 ((F58.1.okF sk (k:=1) (g:=gA _) λ_ _ _ _ _ _ hr=>(ag (Bn 2 sk.nd (sZ (ad (bN (ad ai (ad (az k55 hr (ad (af at0) (ad (bN (ad (aW (l:=[119,105,112,101]) rfl (by decide)) ae)) ae))) ae))) ae))) (ag (qj nU rfl (fB (yt rfl iL xf (ad (El (aW (l:=[]) rfl (by decide)) (ad (af at1) ae)) ae))) (cU 3 sk.nd) (ag (oK 2 (bN (ad ai (ad (az k55 hr (ad (af at0) (ad (bN (ad (aW (l:=[115,97,121]) rfl (by decide)) (ad (af at3) ae))) ae))) ae)))) aw)) (ag (qj nU rfl (jM rfl cC (ad (dz rfl aU (ad (af at1) ae)) ae)) (cU 4 sk.nd) (ag (AK 2 (gT (cE (N':=["_law_column","_law_screen_here","_law_row_here"]) (ix:=[0,4]) er rfl (jM rfl cC (ad (cf (aE (af at0) ai) ai) ae)) (λC s₂ H₂ fp=>(bN (ad ai (ad (az k55 hr (ad (bI at1) (ad (bN (ad (aW (l:=[103,111]) rfl (by decide)) (ad (bI at2) (ad (bI at0) ae)))) ae))) ae)))) (λC s₂ H₂ fp=>eY)))) aw)) (wM 2 (ag (bq (gT (cE (N':=["_law_one"]) (ix:=[]) er rfl (fB (af at2)) (λC s₂ H₂ fp=>(bI at0)) (λC s₂ H₂ fp=>(ze (qe hr.units (aE (bI at0) ai) (aW (l:=[110,111,32,114,111,111,109]) rfl (by decide)))))))) aw)))))).to (tfr (F:=nxG))) (by walk_at "2");have k59:=F59.1.callee F59.2 ((oP k58 xS F59.1).to II) (by walk_at "2");have k5:=F5.1.callee F5.2 ((F5.1.okF (P:=P) (w:=w) (base:=base) rM (k:=0) (g:=dX) λ_ _ _ _ _ _ hr=>(ag (bq (fP (DG am (af at0) rA) (gU (Ga (Bl am (af at0) oW))))) aw)).to sM) (by walk_at "1");have k6:=F6.1.callee F6.2 ((F6.1.okF qp (k:=1) (g:=cT _) λ_ _ _ _ _ _ hr=>(ag (bq (fP (az k5 hr (ad (af at0) ae)) (gU (sH (af at1) (af at0) (af at2))))) aw)).to pA) (by walk_at "3");have k7:=F7.1.callee F7.2 ((F7.1.okF (P:=P) (w:=w) (base:=base) tq (k:=0) (g:=dR) λ_ _ _ _ _ _ hr=>(ag (bq (fP (Ee am (af at0) zd) (gU (DJ rfl rfl lA (ad (gT (cE (N':=["sign"]) (ix:=[]) er rfl (fB (af at0)) (λC s₂ H₂ fp=>(sH (aW (l:=[32]) rfl (by decide)) (bI at0) (aW (l:=[126]) rfl (by decide)))) (λC s₂ H₂ fp=>eY))) ae))))) aw)).to sU) (by walk_at "1");have k11:=F11.1.callee F11.2 ((F11.1.okF jH (k:=1) (g:=bO _) λ_ _ _ _ _ _ hr=>(ag (jm (qb (kh (fC (fK (iI am (af at0) bE))) (im (fC (EU ai (dz rfl aU (ad (af at0) ae)) (dY rfl bn)))))) (ag (bq mY) aw) aw) (ag (bq (DJ rfl rfl lA (ad (gT (cE (N':=["row","width"]) (ix:=[1]) er rfl (fB (af at0)) (λC s₂ H₂ fp=>(fP (az k7 hr (ad (bI at0) ae)) (gU (Az hr.units (dz rfl aU (ad (bI at0) ae)) (bI at1))))) (λC s₂ H₂ fp=>eY))) ae))) aw))).to jI) (by walk_at "2");have k12:=F12.1.callee F12.2 ((F12.1.okF rh (k:=2) (g:=dH _) λ_ _ _ _ _ _ hr=>(ag (jm (qb (kh (fC (fK (iI am (af at0) bE))) (im (qe hr.units (dz rfl aU (ad (af at0) ae)) ai)))) (ag (bq mY) aw) aw) (ag (bq (fP (az k6 hr (ad (aE (af at0) ai) (ad ai (ad (uH (af at2) ai) ae)))) (gU (az k6 hr (ad (aE (af at0) ai) (ad ai (ad (af at1) ae))))))) aw))).to sf) (by walk_at "3");have k6m3:=k6.mono 3;have k11m3:=k11.mono 3;have k13:=F13.1.callee F13.2 ((F13.1.okF qH (k:=3) (g:=cX _ _ _) λ_ _ _ _ _ _ hr=>(ag (jm (qb (kh (fC (fK (iI am (af at0) bE))) (im (qe hr.units (dz rfl aU (ad (af at0) ae)) ai)))) (ag (bq mY) aw) aw) (ag (cL at1 qH.nd (aE (af at0) ai)) (ag (jm (qb (kh (fC (fK (az k6m3 hr (ad (af at1) (ad ai (ad (dY rfl aY) ae)))))) (im (fC (fK (az k11m3 hr (ad (aE (af at0) ai) (ad (af at1) ae)))))))) (ag (bq mY) aw) aw) (ag (bq (az k12 hr (ad (aE (af at0) ai) (ad (af at1) (ad (dz rfl aU (ad (aE (af at0) ai) ae)) ae))))) aw))))).to pX) (by walk_at "1");have k14:=F14.1.callee F14.2 ((F14.1.okF kT (k:=4) (g:=bS _ _) λ_ _ _ _ _ _ hr=>(ag (jm (fC (fK (az k13 hr (ad (af at0) ae)))) (ag (nG cZ hr.hd (aW (l:=[116,104,105,115,32,105,115,32,110,111,32,115,99,114,101,101,110]) rfl (by decide))) aw) aw) aw)).to kK) (by walk_at "1");have k7m5:=k7.mono 5;have k15:=F15.1.callee F15.2 ((F15.1.okF rN (k:=5) (g:=fW _ _) λ_ _ _ _ _ _ hr=>(ag (qg (az k14 hr (ad (af at0) ae))) (ag (jm (qb (kh (fC (fK (ua am (af at1) fZ))) (im (Ec (dz rfl aU (ad (af at1) ae)) (dz rfl aU (ad (aE (af at0) ai) ae)))))) (ag (bq mY) aw) aw) (ag (bq (DJ rfl rfl lA (ad (gT (cE (N':=["row","screen"]) (ix:=[0]) er rfl (fB (af at1)) (λC s₂ H₂ fp=>(fP (az k7m5 hr (ad (bI at0) ae)) (gU (Gx (dz rfl aU (ad (bI at0) ae)) (aE (bI at1) ai))))) (λC s₂ H₂ fp=>eY))) ae))) aw)))).to (tfr (F:=arG _))) (by walk_at "2");have k16:=F16.1.callee F16.2 ((F16.1.okF nB (k:=6) (g:=cG _ _) λ_ _ _ _ _ _ hr=>(ag (jm (fC (fK (az k15 hr (ad (af at0) (ad (af at1) ae))))) (ag (nG cZ hr.hd (aW (l:=[116,104,101,115,101,32,97,114,101,32,110,111,32,114,111,119,115,32,116,104,97,116,32,116,104,101,32,115,99,114,101,101,110,32,99,97,110,32,115,104,111,119]) rfl (by decide))) aw) aw) aw)).to lS) (by walk_at "2");have k17:=F17.1.callee F17.2 ((F17.1.okF (P:=P) (w:=w) (base:=base) pi (k:=0) (g:=fx) λ_ _ _ _ _ _ hr=>(ag (cL at2 pi.nd (aE (af at0) ai)) (ag (cL at3 pi.nd (uH (dz rfl aU (ad (aE (af at0) ai) ae)) (dz rfl aU (ad (af at1) ae)))) (ag (bq (cf (gT (cE (N':=["row","width"]) (ix:=[2]) er rfl (fB (af at1)) (λC s₂ H₂ fp=>(DI (bI at0) (ad (bI at1) ae))) (λC s₂ H₂ fp=>eY))) (ju (uK (sZ (ad (ju (aW (l:=[32]) rfl (by decide)) (af at2)) ae))) (af at3)))) aw)))).to (tfr (F:=frG))) (by walk_at "2");have k27:=F27.1.callee F27.2 ((F27.1.okF (P:=P) (w:=w) (base:=base) nh (k:=0) (g:=dZ) λ_ _ _ _ _ _ hr=>(ag (jm (oq hr.units (aE (af at0) ai) (aW (l:=[115,97,121]) rfl (by decide))) (ag (bq (dz rfl aU (ad (aE (af at0) ai) ae))) aw) aw) (ag (jm (oq hr.units (aE (af at0) ai) (aW (l:=[103,111]) rfl (by decide))) (ag (bq (dY rfl dg)) aw) aw) (ag (bq (dY rfl bW)) aw)))).to (tfr (F:=ocG))) (by walk_at "1");have k37:=F37.1.callee F37.2 ((F37.1.okF (P:=P) (w:=w) (base:=base) pI (k:=0) (g:=fb) λ_ _ _ _ _ _ hr=>(ag (bq (aE (af at0) ai)) aw)).to (tfr (F:=pcF))) (by walk_at "1");have k38:=yO F38.1 F38.2 (AE (P:=P) (w:=w) (mg:=mg) (base:=base) k37 A2 F38.1) (by walk_at "3") (n:=2) rfl;have k39:=yO F39.1 F39.2 (gZ (P:=P) (w:=w) (mg:=mg) (base:=base) (k27.mono 2) k38 hW F39.1) (by walk_at "4") (n:=3) rfl;have k40:=F40.1.callee F40.2 (oO (P:=P) (w:=w) (base:=base) qy aG aS cI eT aK aX av aD k39 nY F40.1) (by walk_at "3");have k41:=F41.1.callee F41.2 (lK (P:=P) (w:=w) (base:=base) k39 (k38.mono 3) lj F41.1) (by walk_at "3");have k42:=F42.1.callee F42.2 ((F42.1.okF zS (k:=4) (g:=lu _ _) λ_ _ _ _ _ _ hr=>(ag (cL at5 zS.nd (af at0)) (ag (qj nU rfl (zk rfl cC (ad (af at4) (ad (dz rfl aU (ad (af at2) ae)) ae))) (cU 6 zS.nd) (ag (cL at5 zS.nd (az k41 hr (ad (az k40 hr (ad (af at5) (ad (af at1) (ad (af at6) ae)))) (ad (aE (af at2) (af at6)) (ad (aE (af at3) (af at6)) ae))))) aw)) (ag (bq (af at5)) aw)))).to (tfr (F:=swF))) (by walk_at "5");have k43:=F43.1.callee F43.2 ((F43.1.okF (P:=P) (w:=w) (base:=base) sB (k:=2) (g:=fX _) λ_ _ _ _ _ _ hr=>(ag (bq (BS rfl rfl qf k37 hr.in1 (gT (cE (N':=["state","plans"]) (ix:=[0]) er rfl (fB (af at1)) (λC s₂ H₂ fp=>(ql 1 hr.units (bI at0))) (λC s₂ H₂ fp=>(ze (BA 1 hr.units (bI at0)))))))) aw)).to (tfr (F:=chF))) (by walk_at "2");have k43m5:=k43.mono 5;have k44:=F44.1.callee F44.2 ((F44.1.okF fG (k:=5) (g:=bz _ _) λ_ _ _ _ _ _ hr=>(ag (cL at3 fG.nd (az k42 hr (ad (Jj hr.units (aL rfl aG aS) (aL rfl aZ bV)) (ad (af at0) (ad (af at1) (ad (af at2) (ad ai ae))))))) (ag (bq (az k43m5 hr (ad (af at3) (ad (bN (ad (aL rfl aG aS) (ad (aL rfl cI eT) (ad (aL rfl av aD) (ad (aL rfl aK aX) ae))))) ae)))) aw))).to (tfr (F:=peF))) (by walk_at "3");have k45:=F45.1.callee F45.2 ((F45.1.okF iX (k:=5) (g:=cb _ _) λ_ _ _ _ _ _ hr=>(ag (cL at4 iX.nd (az k42 hr (ad (Jj hr.units (aL rfl cI eT) (aL rfl aZ bV)) (ad (af at0) (ad (af at1) (ad (af at2) (ad (af at3) ae))))))) (ag (cL at5 iX.nd (az k43m5 hr (ad (af at4) (ad (bN (ad (aL rfl aG aS) (ad (aL rfl cI eT) (ad (aL rfl av aD) (ad (aL rfl aK aX) ae))))) ae)))) (ag (cL at4 iX.nd (az k42 hr (ad (Jj hr.units (aL rfl aG aS) (aL rfl aZ bV)) (ad (af at0) (ad (gC (af at1) gK (mT (af at3))) (ad (gC (af at2) gK (mT (af at3))) (ad ai ae))))))) (ag (cL at6 iX.nd (az k43m5 hr (ad (af at4) (ad (bN (ad (aL rfl aG aS) (ad (aL rfl cI eT) ae))) ae)))) (ag (bq (bN (ad (cf (aE (af at5) ai) (aE (af at6) ai)) (ad (cf (aE (af at5) ai) (aE (af at6) ai)) ae)))) aw)))))).to (tfr (F:=ppF))) (by walk_at "4");have k37m5:=k37.mono 5;have k46:=F46.1.callee F46.2 ((F46.1.okF gQ (k:=6) (g:=bG _ _ _) λ_ _ _ _ _ _ hr=>(ag (cL at4 gQ.nd (uK (sZ (ad (az k45 hr (ad (af at0) (ad (af at1) (ad (af at2) (ad (af at3) ae))))) (ad (az k44 hr (ad (af at0) (ad (af at1) (ad (af at2) ae)))) ae))))) (ag (bq (BS rfl rfl qf k37m5 hr.in1 (af at4))) aw))).to (tfr (F:=rpF))) (by walk_at "4");have k22:=F22.1.callee F22.2 ((F22.1.okF wY (k:=1) (g:=jp _) λ_ _ _ _ _ _ hr=>(ag (bq (fP (Az hr.units (dz rfl aU (ad (af at0) ae)) ai) (fP (Az hr.units (aE (af at0) ai) (aW (l:=[115,97,121]) rfl (by decide))) (fP (az k7 hr (ad (aE (af at0) ai) ae)) (gU (sH ai (dz rfl aU (ad (aE (af at0) ai) ae)) (dY rfl bo))))))) aw)).to (tfr (F:=JB))) (by walk_at "1");have k23:=F23.1.callee F23.2 ((F23.1.okF As (k:=2) (g:=lI _) λ_ _ _ _ _ _ hr=>(ag (jm (qb (kh (qe hr.units (dz rfl aU (ad (af at0) ae)) ai) (im (qe hr.units (aE (af at0) ai) (aW (l:=[103,111]) rfl (by decide)))))) (ag (bq mY) aw) aw) (ag (bq (fP (az k6 hr (ad (aE (af at0) ai) (ad ai (ad (uH (dY rfl bn) ai) ae)))) (gU (az k6 hr (ad (aE (af at0) ai) (ad ai (ad (dY rfl aY) ae))))))) aw))).to (tfr (F:=goG))) (by walk_at "1");have k22m3:=k22.mono 3;have k24:=F24.1.callee F24.2 ((F24.1.okF rV (k:=3) (g:=gz _ _) λ_ _ _ _ _ _ hr=>(ag (jm (fC (fK (iI am (af at0) bE))) (ag (bq mY) aw) aw) (ag (bq (FA (az k22m3 hr (ad (af at0) ae)) (FA (az k23 hr (ad (af at0) ae)) (gU (Az hr.units (af at0) (bN (ad (aW (l:=[119,105,112,101]) rfl (by decide)) ae))))))) aw))).to (tfr (F:=Kv))) (by walk_at "1");have k25:=F25.1.callee F25.2 ((F25.1.okF mh (k:=4) (g:=db _ _) λ_ _ _ _ _ _ hr=>(ag (jm (fC (fK (az k24 hr (ad (af at0) ae)))) (ag (nG eK hr.hd (aW (l:=[116,104,105,115,32,105,115,32,110,111,32,111,114,100,101,114]) rfl (by decide))) aw) aw) aw)).to (tfr (F:=ckG _))) (by walk_at "1");have k26:=F26.1.callee F26.2 ((F26.1.okF kZ (k:=5) (g:=cO _ _) λ_ _ _ _ _ _ hr=>(ag (jm (fC (fK (ua am (af at0) fZ))) (ag (nG eK hr.hd (aW (l:=[116,104,105,115,32,105,115,32,110,111,32,108,105,115,116,32,111,102,32,111,114,100,101,114,115]) rfl (by decide))) aw) aw) (ag (qj nU rfl (fB (af at0)) (cU 1 kZ.nd) (ag (qg (az k25 hr (ad (af at1) ae))) aw)) aw))).to (tfr (F:=HE _))) (by walk_at "1");have k29:=F29.1.callee F29.2 ((F29.1.okF (P:=P) (w:=w) (base:=base) jj (k:=0) (g:=cw) λ_ _ _ _ _ _ hr=>(ag (jm (qe hr.units (aE (af at0) ai) (aE (af at1) ai)) (ag (bq uv) aw) aw) (ag (jm (qe hr.units (aE (af at0) ai) (aW (l:=[115,97,121]) rfl (by decide))) (ag (bq (af at1)) aw) aw) (ag (cL at2 jj.nd (cf (aE (af at0) ai) (aE (af at1) ai))) (ag (bq (sQ (Kn (dz rfl aU (ad (af at2) ae)) (dY rfl bo)) (bN (ad (aW (l:=[115,97,121]) rfl (by decide)) (ad (af at2) ae))) uv)) aw))))).to (tfr (F:=jnG))) (by walk_at "2");have k29m6:=k29.mono 6;have k30:=F30.1.callee F30.2 ((F30.1.okF qI (k:=6) (g:=fo _ _) λ_ _ _ _ _ _ hr=>(ag (qg (az k26 hr (ad (af at0) ae))) (ag (Bn 1 qI.nd (sZ ae)) (ag (qj nU rfl (fB (af at0)) (cU 2 qI.nd) (ag (Gm 1 3 qI.nd (sQ (Ec (dz rfl aU (ad (af at1) ae)) ai) (az k29m6 hr (ad (aE (af at1) (Fr ai)) (ad (af at2) ae))) uv)) (ag (jm (J9 (af at3) uv) (ag (oK 1 (af at2)) aw) (ag (Fq 1 (af at3) (Fr ai)) aw)) aw))) (wM 1 (ag (bq (af at1)) aw)))))).to (tfr (F:=shG _))) (by walk_at "1");have k17m7:=k17.mono 7;have k44m7:=k44.mono 7;have k47:=F47.1.callee F47.2 ((F47.1.okF Bc (k:=7) (g:=kF _ _ _ _ _) λ_ _ _ _ _ _ hr=>(ag (qg (az k16 hr (ad (af at0) (ad (af at1) ae)))) (ag (cL at2 Bc.nd (az k17m7 hr (ad (af at0) (ad (af at1) ae)))) (ag (cL at3 Bc.nd (aE (aE (af at0) ai) ai)) (ag (Bn 4 Bc.nd (vp rfl fZ (ad (aE (az k46 hr (ad (af at3) (ad (aE (aE (af at0) ai) (af at3)) (ad (aE (af at2) (af at3)) (ad (aE (aE (af at0) ai) ai) ae))))) ai) ae))) (ag (qj nU rfl (EL rfl de (aE (af at0) ai)) (sL rfl (cr 5 Bc.nd (cr 6 Bc.nd jQ))) (ag (jm (qe hr.units (af at5) (af at3)) (ag (HG 4 (aE (az k44m7 hr (ad (af at5) (ad (af at6) (ad (aE (af at2) (af at5)) ae)))) ai)) aw) aw) aw) (hn:=kL _)) (wM 4 (ag (bq (az k30 hr (ad (af at4) ae))) aw)))))))).to (tfr (F:=leF _))) (by walk_at "2");have k27m6:=k27.mono 6;have k28:=F28.1.callee F28.2 ((F28.1.okF DW (k:=6) (g:=nJ _ _) λ_ _ _ _ _ _ hr=>(ag (qg (az k26 hr (ad (af at0) ae))) (ag (bq (KW rfl rfl yw (ad (gT (cE (N':=["order"]) (ix:=[]) er rfl (fB (af at0)) (λC s₂ H₂ fp=>(az k27m6 hr (ad (bI at0) ae))) (λC s₂ H₂ fp=>eY))) ae))) aw))).to (tfr (F:=coG _))) (by walk_at "1");have k28m8:=k28.mono 8;have k48:=F48.1.callee F48.2 ((F48.1.okF nK (k:=8) (g:=ef _ _) λ_ _ _ _ _ _ hr=>(ag (bq (az k28m8 hr (ad (az k47 hr (ad (af at0) (ad (af at1) ae))) ae))) aw)).to (tfr (F:=wn _))) (by walk_at "2");exact(Gu cC bE (k51.mono 9) (k59.mono 9) k48 (k47.mono 9) (k28.mono 9) F60.1).to (Gv JF)
end G21
namespace PySem.W.Fast
theorem tw9377524125739238421:True:=⟨⟩
theorem tw14258216762697503773:True:=⟨⟩
theorem tw5111596410810441580:True:=⟨⟩
theorem tw17145068503356965441:True:=⟨⟩
theorem tw8229651977261104137:True:=⟨⟩
theorem tw9301944727557360162:True:=⟨⟩
theorem tw16585410654087158601:True:=⟨⟩
theorem tw12162517363909054386:True:=⟨⟩
theorem tw9911495445752090296:True:=⟨⟩
theorem tw1896210127604711816:True:=⟨⟩
theorem tw2783540255716350483:True:=⟨⟩
theorem tw14820343848830533497:True:=⟨⟩
theorem tw747397504866843890:True:=⟨⟩
theorem tw16556046800948467632:True:=⟨⟩
theorem tw8348100820224727480:True:=⟨⟩
theorem tw17826171354314888214:True:=⟨⟩
theorem tw10011425228817190517:True:=⟨⟩
theorem tw7652315867431185054:True:=⟨⟩
theorem tw14340510568666858465:True:=⟨⟩
theorem tw1528704023698602410:True:=⟨⟩
theorem tw17872461418257587266:True:=⟨⟩
theorem tw16555318951129142877:True:=⟨⟩
theorem tw17280290025317418862:True:=⟨⟩
theorem tw2214485476399561028:True:=⟨⟩
theorem tw4783760153070604567:True:=⟨⟩
theorem tw13609678600359900110:True:=⟨⟩
theorem tw13988173695143621217:True:=⟨⟩
theorem tw13971155733548630292:True:=⟨⟩
theorem tw6110159133028153650:True:=⟨⟩
theorem tw4341242284424447429:True:=⟨⟩
theorem tw2613084840514469029:True:=⟨⟩
theorem tw4018696183837866484:True:=⟨⟩
theorem tw6530932679104581052:True:=⟨⟩
theorem tw6825048896555162229:True:=⟨⟩
theorem tw16916151238417460186:True:=⟨⟩
theorem tw2409641216423223773:True:=⟨⟩
theorem tw7474012576488762764:True:=⟨⟩
theorem tw7555865263439783182:True:=⟨⟩
theorem tw3759583947941192798:True:=⟨⟩
theorem tw7742261233678267603:True:=⟨⟩
theorem tw15226900188215311530:True:=⟨⟩
theorem tw10073938111264203702:True:=⟨⟩
theorem tw7384517324845525423:True:=⟨⟩
theorem tw2870247729459512048:True:=⟨⟩
theorem tw14249443506292320517:True:=⟨⟩
theorem tw14869813139365156079:True:=⟨⟩
theorem tw5669340127744722193:True:=⟨⟩
theorem tw11108355628530067430:True:=⟨⟩
theorem tw10411753931379141898:True:=⟨⟩
theorem tw17684780873327427807:True:=⟨⟩
theorem tw13191234158776233167:True:=⟨⟩
theorem tw4735727617677831387:True:=⟨⟩
theorem tw8161485352864699665:True:=⟨⟩
theorem tw6377735640208472749:True:=⟨⟩
theorem tw14911357571443535651:True:=⟨⟩
theorem tw4959915400447101132:True:=⟨⟩
theorem tw17247644936643354546:True:=⟨⟩
theorem tw3593641582582600535:True:=⟨⟩
theorem tw15670002586918635256:True:=⟨⟩
theorem tw10480218647417139551:True:=⟨⟩
theorem tw13561863873839429335:True:=⟨⟩
theorem tw4697968188876273368:True:=⟨⟩
theorem tw13151919578128407182:True:=⟨⟩
theorem tw3505225424717109561:True:=⟨⟩
theorem tw12649797352031390616:True:=⟨⟩
theorem tw17031520992421032294:True:=⟨⟩
theorem tw8029069583467562968:True:=⟨⟩
theorem tw6466949687585118558:True:=⟨⟩
theorem tw6618716722259588957:True:=⟨⟩
theorem tw2307708993866764949:True:=⟨⟩
theorem tw2318599482002660935:True:=⟨⟩
theorem tw7557609558038455644:True:=⟨⟩
theorem tw13631649585334819745:True:=⟨⟩
theorem tw16067610163095509353:True:=⟨⟩
theorem tw4454933512327968532:True:=⟨⟩
theorem tw9679089052123285722:True:=⟨⟩
theorem tw1069473369512770229:True:=⟨⟩
theorem tw6983490736400850262:True:=⟨⟩
theorem tw7656490892988539127:True:=⟨⟩
theorem tw2388984746987358273:True:=⟨⟩
theorem tw6643898662120366080:True:=⟨⟩
theorem tw14971301818982037425:True:=⟨⟩
theorem tw1826270691642525947:True:=⟨⟩
theorem tw3907191643347140173:True:=⟨⟩
theorem tw15951280759206949370:True:=⟨⟩
theorem tw14527882205012130137:True:=⟨⟩
theorem tw2052128827474508796:True:=⟨⟩
theorem tw12617072118944158337:True:=⟨⟩
theorem tw6642310587377869769:True:=⟨⟩
theorem tw476865315445286603:True:=⟨⟩
theorem tw1626898517576083954:True:=⟨⟩
theorem tw10018481403817318868:True:=⟨⟩
theorem tw2494418261826506676:True:=⟨⟩
theorem tw3589524589049288854:True:=⟨⟩
theorem tw1540238945941728214:True:=⟨⟩
theorem tw9155781058280884696:True:=⟨⟩
theorem tw8281160110895673469:True:=⟨⟩
theorem tw7452649036809748351:True:=⟨⟩
end PySem.W.Fast
open PySem PySem.W PyProof.Rows
set_option maxRecDepth 100000 in
set_option maxHeartbeats 0 in
theorem PySem.Challenge.cw_screenlines_k21_whole_least_of_all_holds : PySem.Challenge.rw_screenlines_k21_whole_least_of_all.Holds := by
 w_on;o_law;k_head;(case hw=>w_witness2)
 k_fill
 refine Q.LZ (l:=PySem.Challenge.rw_screenlines_k21_whole_least_of_all) (L:=10) ⟨rfl,by decide,by decide⟩ rfl rfl (λw h Y=>PySem.W.kIn_of Y) ?F
 case F=>
  intro w mg fa h KX G hmg;have lA:mg "all"=none:=pW KX G (by k_is);have oW:mg "bool"=none:=pW KX G (by k_is);have qy:mg "dict"=none:=pW KX G (by k_is);have de:mg "enumerate"=none:=pW KX G (by k_is);have rA:mg "int"=none:=pW KX G (by k_is);have am:mg "isinstance"=none:=pW KX G (by k_is);have aU:mg "len"=none:=pW KX G (by k_is);have fZ:mg "list"=none:=pW KX G (by k_is);have qf:mg "min"=none:=pW KX G (by k_is);have cC:mg "range"=none:=pW KX G (by k_is);have xf:mg "set"=none:=pW KX G (by k_is);have iL:mg "sorted"=none:=pW KX G (by k_is);have zd:mg "str"=none:=pW KX G (by k_is);have yw:mg "sum"=none:=pW KX G (by k_is);have bE:mg "tuple"=none:=pW KX G (by k_is);have aG:=Q.kO (x:="ELSEWHERE") KX G (by k_is) (Q.jo (vs:=[L2.V.bl false,L2.V.bl false]) (by k_is) (by decide) (.cons rfl (.cons rfl .nil)) (λ_=>(.cons (.bl _) (.cons (.bl _) .nil))));have av:=Q.kO (x:="ELSEWHERE_WIPED") KX G (by k_is) (Q.jo (vs:=[L2.V.bl false,L2.V.bl true]) (by k_is) (by decide) (.cons rfl (.cons rfl .nil)) (λ_=>(.cons (.bl _) (.cons (.bl _) .nil))));have dg:∃t,mg "GO_COST"=some (.int 2 t):=⟨_,lY KX G (by k_is)⟩
  have cI:=Q.kO (x:="HERE") KX G (by k_is) (Q.jo (vs:=[L2.V.bl true,L2.V.bl false]) (by k_is) (by decide) (.cons rfl (.cons rfl .nil)) (λ_=>(.cons (.bl _) (.cons (.bl _) .nil))));have aK:=Q.kO (x:="HERE_WIPED") KX G (by k_is) (Q.jo (vs:=[L2.V.bl true,L2.V.bl true]) (by k_is) (by decide) (.cons rfl (.cons rfl .nil)) (λ_=>(.cons (.bl _) (.cons (.bl _) .nil))));have bn:∃t,mg "MOST_ROWS"=some (.int 12 t):=⟨_,lY KX G (by k_is)⟩
  have bo:∃t,mg "MOST_SAID"=some (.int 40 t):=⟨_,lY KX G (by k_is)⟩
  have aY:∃t,mg "MOST_WIDTH"=some (.int 40 t):=⟨_,lY KX G (by k_is)⟩
  have aZ:=Q.kO (x:="NO_ORDERS") KX G (by k_is) (Q.jo (vs:=[L2.V.int 0,L2.V.ref _]) (by k_is) (by decide) (.cons ⟨_,rfl⟩ (.cons rfl .nil)) (λ_=>(.cons (.int _) (.cons (Q.jo (vs:=[]) (by k_is) (by decide) .nil (λ_=>.nil) _) .nil))));have bW:∃t,mg "WIPE_COST"=some (.int 1 t):=⟨_,lY KX G (by k_is)⟩
  have h50:=Q.aQ (x:="_law_cell") (st:=G21.top 50) KX G;have h51:=Q.aQ (x:="_law_pick") (st:=G21.top 51) KX G;have h55:=Q.aQ (x:="_law_step") (st:=G21.top 55) KX G;have h58:=Q.aQ (x:="_law_next") (st:=G21.top 58) KX G;have h59:=Q.aQ (x:="_law_fewest") (st:=G21.top 59) KX G;have h5:=Q.aQ (x:="is_whole") (st:=G21.top 5) KX G;have h6:=Q.aQ (x:="is_within") (st:=G21.top 6) KX G;have h7:=Q.aQ (x:="is_plain") (st:=G21.top 7) KX G;have h11:=Q.aQ (x:="are_full_rows") (st:=G21.top 11) KX G;have h12:=Q.aQ (x:="is_place") (st:=G21.top 12) KX G;have h13:=Q.aQ (x:="is_screen") (st:=G21.top 13) KX G;have h14:=Q.aQ (x:="check_screen") (st:=G21.top 14) KX G;have h15:=Q.aQ (x:="are_rows") (st:=G21.top 15) KX G;have h16:=Q.aQ (x:="check_rows") (st:=G21.top 16) KX G;have h17:=Q.aQ (x:="full_rows") (st:=G21.top 17) KX G;have h27:=Q.aQ (x:="order_cost") (st:=G21.top 27) KX G;have h37:=Q.aQ (x:="plan_cost") (st:=G21.top 37) KX G;have h38:=Q.aQ (x:="offer") (st:=G21.top 38) KX G;have h39:=Q.aQ (x:="offer_with_order") (st:=G21.top 39) KX G;have h40:=Q.aQ (x:="with_moves") (st:=G21.top 40) KX G;have h41:=Q.aQ (x:="stepped_over") (st:=G21.top 41) KX G;have h42:=Q.aQ (x:="swept") (st:=G21.top 42) KX G;have h43:=Q.aQ (x:="cheapest") (st:=G21.top 43) KX G;have h44:=Q.aQ (x:="plan_from_elsewhere") (st:=G21.top 44) KX G;have h45:=Q.aQ (x:="plan_from_place") (st:=G21.top 45) KX G;have h46:=Q.aQ (x:="row_of_place_plan") (st:=G21.top 46) KX G;have h22:=Q.aQ (x:="is_say") (st:=G21.top 22) KX G;have h23:=Q.aQ (x:="is_go") (st:=G21.top 23) KX G;have h24:=Q.aQ (x:="is_order") (st:=G21.top 24) KX G;have h25:=Q.aQ (x:="check_order") (st:=G21.top 25) KX G;have h26:=Q.aQ (x:="check_orders") (st:=G21.top 26) KX G;have h29:=Q.aQ (x:="joined_or_none") (st:=G21.top 29) KX G;have h30:=Q.aQ (x:="shortened") (st:=G21.top 30) KX G;have h47:=Q.aQ (x:="least") (st:=G21.top 47) KX G;have h28:=Q.aQ (x:="cost") (st:=G21.top 28) KX G;have h48:=Q.aQ (x:="least_cost") (st:=G21.top 48) KX G;have h60:=Q.aQ (x:="law") (st:=G21.top 60) KX G
  refine' G21.Hb (P:=_) (w:=w) (K:=L2.KOf KX) hmg lA oW qy de rA am aU fZ qf cC xf iL zd yw bE aG av dg cI aK bn bo aY aZ bW ?lq ?kB ?jr ?jk h50 h51 h55 h58 h59 h5 h6 h7 h11 h12 h13 h14 h15 h16 h17 h27 h37 h38 h39 h40 h41 h42 h43 h44 h45 h46 h22 h23 h24 h25 h26 h29 h30 h47 h28 h48 h60
  all_goals (try dsimp only[L2.KOf])
  (case lq=>k_is)
  (case jr=>k_is)
  (case kB=>k_exc)
  (case jk=>k_exc)
end
end
