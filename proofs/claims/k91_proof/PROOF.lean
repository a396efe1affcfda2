import PyProof.Rows.All
import Wide.All
import OpenK.AllK
import Wide.FinOn
import Lean
import PyProof.EqAt
import PyProof.EqKinds
import PyProof.TupleCall
import PyProof.NeKinds
import KE.KDictOf
import PyProof.Rows.TupDisplay
import PyProof.DictItems
import KE.KPairComp
import PyProof.Draws
import KE.KTupSum
import KE.KIntText
import PyProof.Rows.Range3
import PyProof.Rows.FStr
import PyProof.StrCalls2
import PyProof.StrLawsTight
import PyProof.StrLawsIn
import PyProof.StrCalls
import KE.KLam
import KE.KMinKey
import PyProof.Rows.RuleN_abs
import PyProof.Rows.StrCut
import PySem.Challenge.RW_screenlines_k91_whole_told_lists
section
open PySem PySem.Spec PyProof.Rows
noncomputable def y8:=@wpAny_bind
noncomputable def y9:=@wpAny_pure
noncomputable def yh:=@Nat.le_refl
noncomputable def yq:=@Heap.get?_push_of_some
noncomputable def x8:=@List.length_map
noncomputable def x9:=@List.map_cons
noncomputable def xh:=@Heap.lt_size
noncomputable def xi:=@List.size_toArray
noncomputable def xI:=@List.lookup_cons
noncomputable def xO:=@List.mem_cons
noncomputable def xV:=@Option.some.inj
noncomputable def w4:=@List.mem_cons_of_mem
noncomputable def w5:=@Bool.and_eq_true
noncomputable def w6:=@Heap.get?_push_size
noncomputable def w8:=@Nat.le_trans
noncomputable def w9:=@List.getElem?_eq_getElem
noncomputable def wX:=@List.all_eq_true
noncomputable def v3:=@List.mem_cons_self
noncomputable def v4:=@List.length_cons
noncomputable def v6:=@Nat.ne_of_lt
noncomputable def v7:=@List.getElem?_map
noncomputable def v8:=@Nat.zero_le
noncomputable def v9:=@List.getD_eq_getElem?_getD
noncomputable def u6:=@if_true
noncomputable def u7:=@decide_eq_false
noncomputable def u8:=@List.getElem?_eq_some_iff
noncomputable def u9:=@wpAny_mono
noncomputable def ud:=@List.length_append
noncomputable def uf:=@if_false
noncomputable def ug:=@decide_eq_true_eq
noncomputable def uo:=@Option.map_some
noncomputable def uq:=@Bool.false_ne_true
noncomputable def ur:=@List.mem_map
noncomputable def ut:=@congrArg
noncomputable def uu:=@List.getElem?_set_self
noncomputable def uw:=@Ne.symm
noncomputable def uF:=@PySem.W.mg_of
noncomputable def uK:=@List.mem_singleton
noncomputable def uO:=@beq_eq_false_iff_ne
noncomputable def uP:=@Nat.lt_of_lt_of_le
noncomputable def t5:=@Int.toNat_natCast
noncomputable def t6:=@List.getElem?_set_ne
noncomputable def t7:=@List.append_nil
noncomputable def t8:=@PySem.W.mg_none_of
noncomputable def t9:=@Bool.false_eq_true
noncomputable def s8:=@beq_iff_eq
noncomputable def s9:=@wpAny_field
noncomputable def ss:=@decide_eq_true
noncomputable def sE:=@beq_self_eq_true
noncomputable def sJ:=@wpAny_truthy_bool
noncomputable def sT:=@wpAny_holding
noncomputable def sZ:=@wpAny_newObj_type
noncomputable def r6:=@Nat.ne_of_gt
noncomputable def r8:=@wpAny_call_entry
noncomputable def r9:=@List.replicate_succ
noncomputable def rT:=@List.nil_append
noncomputable def rX:=@Nat.not_lt
noncomputable def q8:=@PassesOwn.leaving
noncomputable def q9:=@List.mem_append
noncomputable def qc:=@List.length_take
noncomputable def qg:=@List.length_replicate
noncomputable def qk:=@wpAny_Call_Name_kw
noncomputable def qt:=@call_meets
noncomputable def qx:=@List.map_nil
noncomputable def qE:=@codeAny_mono
noncomputable def pS:=@List.map_map
noncomputable def o4:=@Nat.lt_irrefl
noncomputable def o5:=@List.mem_append_right
noncomputable def o8:=@Heap.size_push
noncomputable def o9:=@PySem.mem_of_lookup
noncomputable def oq:=@List.getElem?_append_left
noncomputable def oE:=@List.flatten_cons
noncomputable def oH:=@List.foldl_cons
noncomputable def oR:=@List.all_cons
noncomputable def n0:=@List.map_append
noncomputable def n3:=@Nat.le_succ
noncomputable def n5:=@List.mem_nil_iff
noncomputable def n6:=@or_false
noncomputable def n8:=@Array.length_toList
noncomputable def n9:=@IsTup.new
noncomputable def nz:=@List.nodup_cons
noncomputable def nA:=@List.getElem?_append_right
noncomputable def nE:=@wpAny_callSpecial?_slot
noncomputable def m9:=@eq_of_beq
noncomputable def mJ:=@typeIs_int
noncomputable def mM:=@List.zip_cons_cons
noncomputable def mP:=@List.map_congr_left
noncomputable def l4:=@PySem.W.callWith_K
noncomputable def l5:=@wpAny_call
noncomputable def l6:=@wpAny_seqItems
noncomputable def l7:=@PySem.F.plain_min_loop
noncomputable def l8:=@Nat.lt_succ_self
noncomputable def l9:=@List.getElem?_replicate
noncomputable def lm:=@List.append_assoc
noncomputable def lB:=@wpAny_dictEntries
noncomputable def lE:=@wpAny_setField_rec
noncomputable def lT:=@List.getElem_mem
noncomputable def lZ:=@of_decide_eq_true
noncomputable def kC:=@wpAny_tryCatch
noncomputable def kE:=@Bool.and_true
noncomputable def j0:=@Paired.length
noncomputable def j1:=@List.mem_filterMap
noncomputable def j2:=@wpAny_passesOwn
noncomputable def j3:=@List.mem_of_getElem?
noncomputable def j4:=@tupleItemsOf_
noncomputable def j5:=@wpAny_typeOf
noncomputable def j6:=@Bool.and_false
noncomputable def j7:=@wpAny_letGo
noncomputable def j8:=@List.drop_zero
noncomputable def j9:=@PySem.F.plainAttrs_list
noncomputable def jk:=@Walks.list
noncomputable def jz:=@List.all_map
noncomputable def jO:=@Heap.SameBut.update
noncomputable def jR:=@List.take_of_length_le
noncomputable def i9:=@Bool.not_true
noncomputable def ig:=@Nat.mul_succ
noncomputable def io:=@Nat.le_of_lt
noncomputable def iz:=@wpAny_standAt
noncomputable def iD:=@Bool.false_and
noncomputable def iF:=@sizeLine_eq
noncomputable def iM:=@List.of_mem_zip
noncomputable def iN:=@List.length_drop
noncomputable def iO:=@List.length_singleton
noncomputable def iU:=@F.slot_int_rmul
noncomputable def g9:=@Nat.mul_comm
noncomputable def gY:=@wpAny_specialOf
noncomputable def fJ:=@tupleKind_room_in1
noncomputable def eQ:=@PySem.F.slot_dict_itemiterator_next
noncomputable def d3:=@wpAny_typeNameOfWhole_itemiter
noncomputable def d4:=@List.take_length
noncomputable def d5:=@wpAny_getItem_str_slice
noncomputable def d6:=@post_val_or_str
noncomputable def c0:=@Txt.slice_le
noncomputable def c6:=@wpAny_pyIter_list
noncomputable def c7:=@Option.some.injEq
noncomputable def c8:=@List.sum_cons
noncomputable def c9:=@F.slot_tuple_iterator_next
noncomputable def cw:=@wpAny_of_eq
noncomputable def b6:=@wpAny_pyIter_enum
noncomputable def b7:=@List.cons_append
noncomputable def b8:=@wpAny_updateSeq
noncomputable def b9:=@plainId_quiet
noncomputable def bO:=@List.mem_of_mem_take
noncomputable def bV:=@List.all_nil
noncomputable def bY:=@List.range'_succ
noncomputable def aT:=@List.filterMap_cons
noncomputable def Z0:=@List.mem_append_left
noncomputable def Z1:=@wpAny_execs_nil
noncomputable def Z2:=@assignInOrder_cons
noncomputable def Z4:=@noFill_tuple_add
noncomputable def Z5:=@Heap.get?_update_self
noncomputable def Z6:=@List.find?_cons
noncomputable def Z7:=@decide_false
noncomputable def Z8:=@Bool.not_false
noncomputable def Z9:=@wpAny_dictEpoch
noncomputable def Za:=@wpAny_isOneOf_itemiter
noncomputable def Zb:=@Array.getElem?_eq_none
noncomputable def Zc:=@wpAny_pyIter_tuple
noncomputable def Zd:=@Nat.lt_succ_of_lt
noncomputable def Ze:=@List.drop_eq_getElem_cons
noncomputable def Zf:=@List.drop_length
noncomputable def Zg:=@PySem.F.slot_list_append
noncomputable def Zh:=@PySem.F.type_list_append
noncomputable def Zi:=@wpAny_ite_false
noncomputable def Zj:=@Int.toNat_of_nonneg
noncomputable def Zk:=@F.slot_tuple_mul
noncomputable def Zl:=@F.entry_tuple_mul
noncomputable def Zm:=@F.args_tuple_mul_2
noncomputable def Zn:=@PySem.F.plainAttrs_str
noncomputable def Zo:=@List.map_inj_left
noncomputable def Zp:=@wpAny_loadPart'
noncomputable def Zq:=@Array.toList_append
noncomputable def Zr:=@PySem.W.methodCall_KW
noncomputable def Zs:=@codeAny_builtin
noncomputable def Zt:=@PySem.F.entry_min_loop
noncomputable def Zu:=@Around.under_plainId
noncomputable def Zv:=@PySem.W.Looks.of_pure
noncomputable def Zw:=@Nat.min_eq_left
noncomputable def Zx:=@Nat.min_eq_right
noncomputable def Zy:=@List.length_nil
noncomputable def Zz:=@List.mem_replicate
noncomputable def ZA:=@List.sum_append
noncomputable def ZB:=@List.mem_range'_1
noncomputable def ZC:=@Calls.Name_function_global
noncomputable def ZD:=@wpAny_newFunctionEnv_cells
noncomputable def ZE:=@PySem.F.slot_dict_items_iter
noncomputable def ZF:=@PySem.F.entry_dict_itemiterator_next
noncomputable def ZG:=@PySem.F.args_dict_itemiterator_next_1
noncomputable def ZH:=@PyProof.Rows.slot_tuple_getitem
noncomputable def ZI:=@List.eq_nil_of_length_eq_zero
noncomputable def ZJ:=@F.entry_tuple_iterator_next
noncomputable def ZK:=@F.args_tuple_iterator_next_1
end
set_option Elab.async false
set_option linter.all false
set_option maxRecDepth 100000
noncomputable section
variable{us its:List Value}{x y qual y0 y1:Str}{a q it C f Pt au ax a_ELSEWHERE a_HERE a_HERE_WIPED a_ELSEWHERE_WIPED a_NO_ORDERS aU aH:Addr}{o:Obj}{P:Program}{h h':Heap}{p pos:Pos}{t' i j k kt wd J:Nat}{ch fp ts:List Addr}{E:Value->Shared->Prop}{s' s:Shared}{pins:List (Addr×Obj)}{es elts:List Expr}{tg iter:Expr}{body:List Stmt}{mA:Str->Option Value}{fd:FuncData}{ps loose N':List Str}{scope:Scope}{cd doc pm cdv oc:Value}{params:Arguments}{an od:Option Addr}{osl:Array (Option Value)}{st:Stmt}{ks ix is old:List Nat}{neg fz:Bool}
namespace L2
open PySem PySem.Spec PyProof.Rows
noncomputable abbrev Key:=Sum Int Str
noncomputable def HH:Key->Value->Bool
 |.inl k,v=>Value.isInt k v
 |.inr x,v=>Value.isStrOf x v
noncomputable def NS(w:World):Key->Int
 |.inl k=>hashInt k
 |.inr x=>hashStr w x
def bU:∀{k:Key}{v:Value},HH k v=true->(∃i t,k=Sum.inl i/\v=Value.int i t)\/(∃x t,k=Sum.inr x/\v=Value.str x t)
 |.inl i,v,h=>by obtain⟨t,e⟩:=Value.isInt_shape (k:=i) (v:=v) h;exact .inl ⟨i,t,rfl,e⟩
 |.inr x,v,h=>by obtain⟨t,e⟩:=Value.isStrOf_shape (x:=x) (v:=v) h;exact .inr ⟨x,t,rfl,e⟩
def HW(a b:Int):decide ((Sum.inl a:Key)=Sum.inl b)=(a==b):=by
 by_cases e:a=b;·subst e;simp
 ·have h : ¬ (Sum.inl a:Key)=Sum.inl b:=λq=>e (Sum.inl.inj q);rw[u7 h];exact(uO.mpr e).symm
def Je(a b:Str):decide ((Sum.inr a:Key)=Sum.inr b)=decide (a=b):=by
 by_cases e:a=b;·subst e;simp
 ·have h : ¬ (Sum.inr a:Key)=Sum.inr b:=λq=>e (Sum.inr.inj q);rw[u7 h,u7 e]
def Kb(a:Int)(b:Str):decide ((Sum.inl a:Key)=Sum.inr b)=false:=u7 (λq=>nomatch q)
def JY(a:Str)(b:Int):decide ((Sum.inr a:Key)=Sum.inl b)=false:=u7 (λq=>nomatch q)
noncomputable def uc(prog:Program)(w:World):PySem.KeyKind prog w Key where
 is:=HH
 hash:=NS w
 inj:=λv a b ha hb=>by
  rcases bU ha with⟨i,t,rfl,rfl⟩|⟨x,t,rfl,rfl⟩
  ·rcases bU hb with⟨j,u,rfl,e⟩|⟨y,u,rfl,e⟩;·injection e with e1 _;rw[e1]
   ·exact nomatch e
  ·rcases bU hb with⟨j,u,rfl,e⟩|⟨y,u,rfl,e⟩;·exact nomatch e
   ·injection e with e1 _;rw[e1]
 byValue:=λk v h=>by rcases bU h with⟨i,t,rfl,rfl⟩|⟨x,t,rfl,rfl⟩ <;> rfl
 pyHash:=λhv h=>by
  rcases bU hv with⟨i,t,rfl,rfl⟩|⟨x,t,rfl,rfl⟩;·exact wpAny_pyHash_int h
  ·exact wpAny_pyHash_str h
 eqBool:=λhu hv h=>by
  rcases bU hu with⟨i,t,rfl,rfl⟩|⟨x,t,rfl,rfl⟩
  ·rcases bU hv with⟨j,u,rfl,rfl⟩|⟨y,u,rfl,rfl⟩;·rw[HW]at h;exact wpAny_eqBool_int h
   ·rw[Kb]at h;exact SeqAt.EqAt.int_str i t y u _ _ _ _ h
  ·rcases bU hv with⟨j,u,rfl,rfl⟩|⟨y,u,rfl,rfl⟩;·rw[JY]at h;exact SeqAt.EqAt.str_int x t j u _ _ _ _ h
   ·rw[Je]at h;exact wpAny_eqBool_str h
 «strs»:=λk x t v h=>by
  rcases bU h with⟨i,u,rfl,e⟩|⟨y,u,rfl,e⟩;·exact nomatch e
  ·injection e with e1 _;subst e1;cases v <;> rfl
inductive V where
 |non|bl (b:Bool)|int (i:Int)|str (x:Str)|byt (b:Array UInt8)|flt (b:UInt64)|ref (a:Addr)|ty (n:String)
 deriving DecidableEq
noncomputable def RelV:V->Value->Prop
 |.non,u=>u=Value.none
 |.bl b,u=>u=Value.bool b
 |.int i,u=>∃t,u=Value.int i t
 |.str x,u=>∃t,u=Value.str x t
 |.byt b,u=>∃t,u=Value.bytes b t
 |.flt b,u=>∃t,u=Value.float b t
 |.ref a,u=>u=Value.ref a
 |.ty n,u=>u=Value.type n
noncomputable abbrev Vals:List V->List Value->Prop:=Paired RelV
def Vals.length{xs:List V}(r:Vals xs us):xs.length=us.length:=j0 r
theorem Vals.get:∀{xs:List V}{us:List Value}{i:Nat}{x:V},Vals xs us->xs[i]?=some x->∃u,us[i]?=some u/\RelV x u
 |_,_,_,_,.nil,e=>by simp at e
 |_,_,0,_,.cons r _,e=>by simp at e;subst e;exact⟨_,rfl,r⟩
 |_,_,i+1,x,.cons _ t,e=>by obtain⟨u,h1,h2⟩:=Vals.get (i:=i) (x:=x) t (by simpa using e);exact⟨u,by simpa using h1,h2⟩
theorem Vals.set{x:V}{u:Value}(r:RelV x u):∀{xs:List V}{us:List Value}(i:Nat),Vals xs us->Vals (xs.set i x) (us.set i u)
 |_,_,_,.nil=>.nil
 |_,_,0,.cons _ t=>.cons r t
 |_,_,i+1,.cons q t=>.cons q (Vals.set r i t)
theorem Vals.append:∀{xs ys:List V}{us ws:List Value},Vals xs us->Vals ys ws->Vals (xs++ys) (us++ws)
 |_,_,_,_,.nil,s=>s
 |_,_,_,_,.cons r t,s=>.cons r (Vals.append t s)
theorem Vals.take:∀{xs:List V}{us:List Value}(n:Nat),Vals xs us->Vals (xs.take n) (us.take n)
 |_,_,0,_=>.nil
 |_,_,_+1,.nil=>.nil
 |_,_,n+1,.cons r t=>.cons r (Vals.take n t)
theorem Vals.drop:∀{xs:List V}{us:List Value}(n:Nat),Vals xs us->Vals (xs.drop n) (us.drop n)
 |_,_,0,r=>r
 |_,_,_+1,.nil=>.nil
 |_,_,n+1,.cons _ t=>Vals.drop n t
noncomputable def RelO:Option V->Option Value->Prop
 |some v,some u=>RelV v u
 |none,none=>True
 |_,_=>False
noncomputable def KV{κ:Type}:List (κ×V)->List (κ×Value)->Prop:=Paired λ(p:κ×V) (q:κ×Value)=>p.1=q.1/\RelV p.2 q.2
noncomputable def kV:Key->V
 |.inl i=>.int i
 |.inr x=>.str x
inductive HO where
  |lst (xs : List V)
  |tup (xs : List V)
  |dK (kvs : List (Key × V))|dT (kvs : List (List Key × V))
  |set (S : Int -> Bool) (n : Nat)
  |ins (C dx : Addr) (fs : List (Str × V))
  |own (x : Addr)
  |xd (fs : List (Str × V))
  |met (f x : Addr)
  |rng (lo hi : Int)
  |frz (o : Obj) (u : HO)
  |tbl (ps : Array Value)
  |ext (φ : Heap -> Prop)

noncomputable abbrev Hp:=Addr->Option HO
noncomputable def upd(H:Hp)(a:Addr)(o:HO):Hp:=λb=>if b=a then some o else H b
def az{H:Hp}{o:HO}:upd H a o a=some o:=by unfold upd;rw[if_pos rfl]
def am{H:Hp}{b:Addr}{o:HO}(h:b≠a):upd H a o b=H b:=by unfold upd;rw[if_neg h]
def aC{H:Hp}{b:Addr}{o:HO}(h:H a=some o)(h':H b=none):a≠b:=by intro e;subst e;rw[h]at h';cases h'
noncomputable def AU(ps:Array Value):Str:=match ps.toList with
 |.str q _::_=>q
 |_=>Str.empty
section
variable(P:Program)(w:World)
noncomputable def ObjOk(H:Hp)(h:Heap)(a:Addr):HO->Prop
 |.lst xs=>xs.length<=sizeLine/\∃(its:List Value)(n:Nat),Vals xs its/\h.get? a=some { cls:=.type "list",data:=.seq its.toArray n }
 |.tup xs=>xs.length<=sizeLine/\∃its:List Value,Vals xs its/\IsTup h a its.toArray
 |.dK kvs=>kvs.length<=sizeLine/\(a==sysModules)=false/\∃vs,KV kvs vs/\h.DictOf (uc P w) a vs
 |.dT kvs=>kvs.length<=sizeLine/\(a==sysModules)=false/\∃xs:List (List Key×Addr×Value),
   Paired (λ(p:List Key×V) (q:List Key×Addr×Value)=>p.1=q.1/\H q.2.1=some (.tup (p.1.map kV))/\RelV p.2 q.2.2) kvs xs/\
   ∃o es ep,h.get? a=some o/\o.ExactDict/\o.data=.dict es ep/\es.toList=xs.map (entryOfKey (tupleKind (uc P w)))/\(xs.map (·.1)).Nodup
 |.set S n=>h.SetOf (intKind P w) a S n
 |.ins C dx fs=>H dx=some (.own a)/\fs.length<=1000/\dx≠a/\h.get? a=some (W.instObj C dx)/\
   ∃mA,h.Ns1 dx mA/\(∀f,RelO (fs.lookup f) (mA f))/\PySem.Within mA (fs.map (·.1))
 |.own _=>∃o,h.get? a=some o
 |.xd fs=>∃mA,h.Ns1 a mA/\∀f,RelO (fs.lookup f) (mA f)
 |.rng lo hi=>∃t u v,h.get? a=some { cls:=.type "range",data:=.fields #[.int lo t,.int hi u,.int 1 v] }
 |.frz o u=>h.get? a=some o/\ObjOk H h a u
 |.tbl ps=>∃qs:Array Value,h.get? a=some { cls:=.none,data:=.fields qs }/\TriplesOk qs.toList/\∀(pos:Pos)(cv:Value),codeAmong pos qs.toList=some cv->∃c o vs t,cv=.ref c/\H c=some (.frz o (.own a))/\o.data=.fields vs/\vs[1]?=some (.str (AU ps) t)
 |.met f x=>h.get? a=some (W.methodObj (.ref f) (.ref x))
 |.ext φ=>φ h/\(∃o,h.get? a=some o)/\∀h1 h2:Heap,φ h1->(∀o,h1.get? a=some o->h2.get? a=some o)->φ h2
noncomputable def HOk(H:Hp)(h:Heap):Prop:=∀a o,H a=some o->ObjOk P w H h a o
end
section
variable{w:World}{H H':Hp}{o:HO}
def ObjOk.lt(x:ObjOk P w H h a o):a<h.objs.size:=by
 cases o with
 |lst xs=>obtain⟨_,_,_,_,e⟩:=x;exact xh e
 |tup xs=>obtain⟨_,_,_,p⟩:=x;exact p.lt
 |dK kvs=>obtain⟨_,_,_,_,o,_,_,e,_⟩:=x;exact xh e
 |dT kvs=>obtain⟨_,_,_,_,o,_,_,e,_⟩:=x;exact xh e
 |set S n=>obtain⟨o,_,_,_,e,_⟩:=x;exact xh e
 |ins C dx fs=>obtain⟨_,_,_,e,_⟩:=x;exact xh e
 |own y=>obtain⟨_,e⟩:=x;exact xh e
 |xd fs=>obtain⟨_,⟨_,_,_,e,_⟩,_⟩:=x;exact xh e
 |rng lo hi=>obtain⟨_,_,_,e⟩:=x;exact xh e
 |frz ob u=>obtain⟨e,_⟩:=x;exact xh e
 |tbl ps=>obtain⟨_,e,_⟩:=x;exact xh e
 |met f y=>exact xh (show h.get? a=some _ from x)
 |ext φ=>obtain⟨_,⟨_,e⟩,_⟩:=x;exact xh e
theorem Paired.mapP{α β:Type}{F G:α->β->Prop}:∀{l₁:List α}{l₂:List β},Paired F l₁ l₂->(∀a b,F a b->G a b)->Paired G l₁ l₂
 |_,_,.nil,_=>.nil
 |_,_,.cons r t,f=>.cons (f _ _ r) (Paired.mapP t f)
def ObjOk.stay(x:ObjOk P w H h a o)(k:∀b u,(b=a\/H b=some (.own a))->h.get? b=some u->h'.get? b=some u)(ho:∀b,H b=some (.own a)->H' b=some (.own a))(ht:∀b xs,H b=some (.tup xs)->H' b=some (.tup xs))(hz:∀b o u,H b=some (.frz o u)->H' b=some (.frz o u):=by exact λ_ _ _ q=>q):ObjOk P w H' h' a o:=by
 induction o with
 |lst xs=>obtain⟨z,its,n,r,e⟩:=x;exact⟨z,its,n,r,k _ _ (.inl rfl) e⟩
 |tup xs=>obtain⟨z,its,r,ob,e,c⟩:=x;exact⟨z,its,r,ob,k _ _ (.inl rfl) e,c⟩
 |dK kvs=>obtain⟨z,y,vs,r,ob,es,ep,e,c⟩:=x;exact⟨z,y,vs,r,ob,es,ep,k _ _ (.inl rfl) e,c⟩
 |dT kvs=>obtain⟨z,y,xs,r,ob,es,ep,e,c⟩:=x;exact⟨z,y,xs,Paired.mapP r λp q z=>⟨z.1,ht _ _ z.2.1,z.2.2⟩,ob,es,ep,k _ _ (.inl rfl) e,c⟩
 |set S n=>obtain⟨ob,es,ep,t,e,c⟩:=x;exact⟨ob,es,ep,t,k _ _ (.inl rfl) e,c⟩
 |ins C dx fs=>obtain⟨d,z,ne,e,mA,⟨od,es,ep,e2,c⟩,r⟩:=x;exact⟨ho _ d,z,ne,k _ _ (.inl rfl) e,mA,⟨od,es,ep,k _ _ (.inr d) e2,c⟩,r⟩
 |own y=>obtain⟨ob,e⟩:=x;exact⟨ob,k _ _ (.inl rfl) e⟩
 |xd fs=>obtain⟨mA,⟨od,es,ep,e,c⟩,r⟩:=x;exact⟨mA,⟨od,es,ep,k _ _ (.inl rfl) e,c⟩,r⟩
 |rng lo hi=>obtain⟨t,u,v,e⟩:=x;exact⟨t,u,v,k _ _ (.inl rfl) e⟩
 |frz ob u ih=>obtain⟨e,q⟩:=x;exact⟨k _ _ (.inl rfl) e,ih q⟩
 |tbl ps=>obtain⟨qs,e,tr,c⟩:=x;refine⟨qs,k _ _ (.inl rfl) e,tr,λpos cv q=>?_⟩;obtain⟨c',o',vs,tk,e1,e2,e3⟩:=c pos cv q;exact⟨c',o',vs,tk,e1,hz _ _ _ e2,e3⟩
 |met f y=>have e:h.get? a=some (W.methodObj (.ref f) (.ref y)):=x;show h'.get? a=some (W.methodObj (.ref f) (.ref y));exact k a _ (.inl rfl) e
 |ext φ=>obtain⟨p,⟨o,e⟩,st⟩:=x;exact⟨st _ _ p λo q=>k _ _ (.inl rfl) q,⟨o,k _ _ (.inl rfl) e⟩,st⟩
def HOk.lt(x:HOk P w H h)(e:H a=some o):a<h.objs.size:=(x a o e).lt
def HOk.fresh(x:HOk P w H h)(e:h.objs.size<=a):H a=none:=by
 cases q:H a with
 |none=>rfl
 |some u=>exact absurd (uP (x.lt q) e) (o4 _)
def HOk.kept(x:HOk P w H h)(k:∀b u,h.get? b=some u->h'.get? b=some u):HOk P w H h':=λa o e=>(x a o e).stay (λb u _ q=>k b u q) (λ_ q=>q) λ_ _ q=>q
def HOk.laid(x:HOk P w H h)(k:∀b u,h.get? b=some u->h'.get? b=some u)(hp:h.objs.size<=a)(new:ObjOk P w (upd H a o) h' a o):HOk P w (upd H a o) h':=λb u e=>by
 have hn:=x.fresh hp;by_cases hb:b=a;·subst hb;rw[az]at e;cases e;exact new
 ·rw[am hb]at e;exact(x b u e).stay (λc v _ q=>k c v q) (λc q=>by rw[am (aC q hn)];exact q) (λc xs q=>by rw[am (aC q hn)];exact q) λc ob u q=>by rw[am (aC q hn)];exact q
end
noncomputable def Rd(H:Hp)(a:Addr)(u:HO):Prop:=H a=some u\/∃o,H a=some (.frz o u)
def Rd.ok{w:World}{H:Hp}{u:HO}(r:Rd H a u)(x:HOk P w H h):ObjOk P w H h a u:=by
 rcases r with r|⟨o,r⟩;·exact x a u r
 ·obtain⟨_,q⟩:=x a _ r;exact q
noncomputable def Mut:Option HO->Prop
 |some (.lst _)=>True
 |some (.dK _)=>True
 |some (.dT _)=>True
 |some (.set _ _)=>True
 |some (.ins _ _ _)=>True
 |some (.ext _)=>True
 |_=>False
section
variable{w:World}{H:Hp}{x e:Addr}{o':HO}
def HOk.write(ok:HOk P w H h)(mu:Mut (H x))(he:e=x\/H e=some (.own x))(k:∀b u,b≠e->h.get? b=some u->h'.get? b=some u)(heo:∃u,h'.get? e=some u)(new:ObjOk P w (upd H x o') h' x o'):HOk P w (upd H x o') h':=λb u q=>by
 have nown:∀c y,H c=some (.own y)->c≠x:=λc y r z=>by subst z;rw[r]at mu;exact mu
 have ntup:∀c xs,H c=some (.tup xs)->c≠x:=λc xs r z=>by subst z;rw[r]at mu;exact mu
 have nfrz:∀c ob u,H c=some (.frz ob u)->c≠x:=λc ob u r z=>by subst z;rw[r]at mu;exact mu
 by_cases hb:b=x;·subst hb;rw[az]at q;cases q;exact new
 ·rw[am hb]at q;by_cases hbe:b=e
  ·have q':H b=some (.own x):=by
    rcases he with z|z;·exact absurd (hbe.trans z) hb
    ·rw[hbe];exact z
   rw[q]at q';cases q';obtain⟨v,hv⟩:=heo;exact⟨v,by rw[hbe];exact hv⟩
  ·refine(ok b u q).stay (λc v hc r=>k c v ?_ r) (λc r=>by rw[am (nown c b r)];exact r) (λc xs r=>by rw[am (ntup c xs r)];exact r) λc ob u r=>by rw[am (nfrz c ob u r)];exact r
   rcases hc with rfl|hc;·exact hbe
   ·rintro rfl;rcases he with z|z;·exact nown c b hc z
    ·rw[hc]at z;cases z;exact hb rfl
end
structure Un(fs ex:List Addr)(H H':Hp)(h h':Heap):Prop where
 keep:∀b o,h.get? b=some o->H b=none->b∉fs->b∉ex->h'.get? b=some o
 slot:∀b o,h.get? b=some o->H b=none->b∈fs->b∉ex->∃sl,h'.get? b=some { o with slots:=sl }
 free:∀b o,h.get? b=some o->H b=none->b∉ex->H' b=none
 there:∀b o,h.get? b=some o->b∉ex->∃o',h'.get? b=some o'
 tups:∀b xs,H b=some (.tup xs)->H' b=some (.tup xs)
 frzs:∀b o u,H b=some (.frz o u)->H' b=some (.frz o u)
 tbls:∀b ps,H b=some (.tbl ps)->∃more,H' b=some (.tbl (ps++more))
section
variable{fs fs' ex ex':List Addr}{H H1 H2:Hp}{h1 h2:Heap}{x e:Addr}{o:HO}
def Un.any(u:Un fs ex H H1 h h1){b:Addr}{ob:Obj}(q:h.get? b=some ob)(n:H b=none)(hx:b∉ex):∃sl,h1.get? b=some { ob with slots:=sl }:=by
 by_cases hb:b∈fs;·exact u.slot b ob q n hb hx
 ·exact⟨ob.slots,u.keep b ob q n hb hx⟩
def Un.kept(k:∀b u,h.get? b=some u->h'.get? b=some u):Un fs ex H H h h':=
 ⟨λb ob q _ _ _=>k b ob q,λb ob q _ _ _=>⟨ob.slots,k b ob q⟩,λ_ _ _ n _=>n,λb ob q _=>⟨ob,k b ob q⟩,λ_ _ q=>q,λ_ _ _ q=>q,λ_ ps q=>⟨#[],by rw[q];simp⟩⟩
def Un.refl:Un fs ex H H h h:=Un.kept λ_ _ q=>q
def Un.laid(k:∀b u,h.get? b=some u->h'.get? b=some u)(hp:h.objs.size<=a)(hn:H a=none):Un fs ex H (upd H a o) h h' where
 keep:=λb u q _ _ _=>k b u q
 slot:=λb u q _ _ _=>⟨u.slots,k b u q⟩
 free:=λb u q n _=>by rw[am (v6 (uP (xh q) hp))];exact n
 there:=λb u q _=>⟨u,k b u q⟩
 tups:=λb xs q=>by rw[am (aC q hn)];exact q
 frzs:=λb u xs q=>by rw[am (aC q hn)];exact q
 tbls:=λb ps q=>⟨#[],by rw[am (aC q hn),q];simp⟩
def Un.write(mu:Mut (H x))(he:e=x\/H e=some (.own x))(k:∀b u,b≠e->h.get? b=some u->h'.get? b=some u)(heo:∃u,h'.get? e=some u):Un fs ex H (upd H x o) h h':=by
 have hx:∀b,H b=none->b≠x:=λb n z=>by subst z;rw[n]at mu;exact mu
 have hb:∀b,H b=none->b≠e:=λb n z=>by
  subst z;rcases he with r|r;·exact hx b n r
  ·rw[n]at r;cases r
 have hm:∀b u,H b=some u->¬ Mut (some u)->b≠x:=λb u q nm z=>by subst z;rw[q]at mu;exact nm mu
 refine⟨λb u q n _ _=>k b u (hb b n) q,λb u q n _ _=>⟨u.slots,k b u (hb b n) q⟩,λb u q n _=>by rw[am (hx b n)];exact n,λb u q _=>?_,
  λb xs q=>by rw[am (hm b _ q λz=>z)];exact q,λb u xs q=>by rw[am (hm b _ q λz=>z)];exact q,λb ps q=>⟨#[],by rw[am (hm b _ q λz=>z),q];simp⟩⟩;by_cases hbe:b=e;·subst hbe;exact heo
 ·exact⟨u,k b u hbe q⟩
end
noncomputable def DN:HO->Value
 |.tbl ps=>if ps.size=1 then ps.getD 0 .none else .none
 |_=>.none
noncomputable def GJ(H:Hp)(b:Addr)(o:Obj):Obj:=match H b with
 |none=>(match o.data with|.freed=>⟨.none,none,.freed,#[]⟩|_=>o)
 |some u=>⟨DN u,none,.freed,#[]⟩
noncomputable def wA(h:Heap)(H:Hp):Heap:=⟨h.objs.mapIdx λb o=>GJ H b o,h.life⟩
def AJ(h:Heap)(H:Hp):(wA h H).objs.size=h.objs.size:=Array.size_mapIdx
def get_objs{b:Addr}:h.get? b=some o ↔ h.objs[b]?=some o/\o.data≠.freed:=by
 unfold Heap.get?;constructor
 ·intro e;split at e;·cases e
  ·rename_i z;refine⟨e,λq=>?_⟩;obtain⟨a,b,c,d⟩:=o;cases q;exact z _ _ _ e
 ·rintro ⟨e,n⟩;rw[e];obtain⟨a,b,c,d⟩:=o;split;·rename_i q;cases q;exact absurd rfl n
  ·rfl
def jU(h:Heap)(H:Hp)(b:Addr):(wA h H).objs[b]?=(h.objs[b]?).map (GJ H b):=Array.getElem?_mapIdx
def B1{H:Hp}{b:Addr}(e:h.get? b=some o)(n:H b=none):(wA h H).get? b=some o:=by
 obtain⟨e1,e2⟩:=get_objs.1 e;have z:GJ H b o=o:=by unfold GJ;rw[n];cases q:o.data <;> first|rfl|exact absurd q e2
 exact get_objs.2 ⟨by rw[jU,e1,uo,z],e2⟩
def Hc{H:Hp}{b:Addr}(e:(wA h H).get? b=some o):h.get? b=some o/\H b=none:=by
 obtain⟨e1,e2⟩:=get_objs.1 e;rw[jU]at e1;cases q:h.objs[b]? with
 |none=>rw[q]at e1;cases e1
 |some o'=>
  rw[q,uo]at e1;have e1:=xV e1;unfold GJ at e1;cases hq:H b with
  |none=>
   rw[hq]at e1;dsimp only at e1;split at e1;·rw[<- e1]at e2;exact absurd rfl e2
   ·exact⟨get_objs.2 ⟨by rw[q,e1],e2⟩,rfl⟩
  |some u=>rw[hq]at e1;dsimp only at e1;rw[<- e1]at e2;exact absurd rfl e2
noncomputable def yi(base:Heap)(p:Addr)(q:Str):Prop:=base.objs[p]?=some ⟨.str q 0,none,.freed,#[]⟩
noncomputable def TabsIn(base:Heap)(H:Hp):Prop:=∀p q,yi base p q->∃more,H p=some (.tbl (#[.str q 0]++more))
def Dm{H:Hp}{p:Addr}{q:Str}(e:h.objs[p]?=some o)(t:H p=some (.tbl #[.str q 0])):yi (wA h H) p q:=by unfold yi;rw[jU,e,uo];unfold GJ;rw[t];rfl
def zI(h : Heap)(H : Hp): TabsIn (wA h H) H := λp q e => by
  unfold yi at e;rw[jU]at e;cases z : h.objs[p]? with
  |none => rw[z]at e; cases e
  |some o =>
    rw[z, uo]at e;have e := xV e;unfold GJ at e;cases hq : H p with
    |none =>
      rw[hq]at e;dsimp only at e;split at e;· cases e
      · rename_i n; rw[e]at n; exact absurd rfl n
    |some u =>
      rw[hq]at e;have e := ut Obj.cls e;cases u with
      |tbl ps =>
        dsimp only[DN]at e;split at e
        · rename_i n;refine⟨#[], ?_⟩;obtain⟨l⟩ := ps
          match l, n with
          | [v], _ => have : v = .str q 0 := e
                      rw[this]; rfl
        · cases e
      |_ => cases e
def TabsIn.un{base:Heap}{fs ex:List Addr}{H H':Hp}(t:TabsIn base H)(u:Un fs ex H H' h h'):TabsIn base H':=λp q e=>by obtain⟨m1,z⟩:=t p q e;obtain⟨m2,z⟩:=u.tbls p _ z;exact⟨m1++m2,by rw[z,Array.append_assoc]⟩
noncomputable def Gc(g h:Heap)(L:Addr):List (Addr×Obj):=(List.range h.objs.size).filterMap λa=>if a=L\/(g.get? a).isSome=true then none else (h.get? a).map λo=>(a,o)
noncomputable def cS(g h:Heap)(L d:Addr):List (Addr×Obj):=(Gc g h L).filter λp=>decide (p.1≠d)
end L2
variable{xs vs:List L2.V}{H H' H1 G G₀:L2.Hp}{v:L2.V}{sq:L2.Hp->List L2.V->Prop}
namespace L2
open PySem PySem.Spec PyProof.Rows
structure Mod(K:W.Frag)(mg:Str->Option Value)(base:Heap):Prop where
 kin:K.In base
 glob:base.Ns mainGlobals mg
 blt:∃mb,base.Ns builtinsNs mb/\∀x:Str,x≠"__name__"->mb x=bootBuiltins x
 nolimit:base.NoLimit
structure Cx where
 prog:Program
 w:World
 K:W.Frag
 mg:Str->Option Value
 base:Heap
 A:Around
 N:List Str
 s₀:Shared
 H₀:Hp
 env:Env
 outer:List Env
 stack:List Env
 ex:List Addr
 fn:Str->Bool
 calm:Bool
 pn:List (Addr×Obj)
 xe:Value->Shared->Prop
noncomputable def frs(l:List Env):List Addr:=l.filterMap (·.frame)
noncomputable abbrev Cx.fs(X:Cx):List Addr:=frs X.outer
noncomputable def Vis(sc:Scope)(x:Str):Prop:=sc.names.lookup x=some .local\/sc.names.lookup x=some .cell\/sc.names.lookup x=some .free
noncomputable def Loc(sc:Scope)(x:Str):Prop:=sc.names.lookup x=some .local\/sc.names.lookup x=some .cell
noncomputable def NK(env:Env)(h:Heap)(m:Str->Option Value)(x:Str)(u:Value):Prop:=
 (env.kindOf x=some .local/\m x=some u)\/((env.kindOf x=some .cell\/env.kindOf x=some .free)/\∃c,env.cells.lookup x=some c/\h.IsCell c (some u))
structure Cx.Ok(X:Cx):Prop where
 mod:Mod X.K X.mg X.base
 kind:X.env.scope.kind=.function
 glob:X.env.globals=mainGlobals
 blt:X.env.builtins=builtinsNs
 above:X.s₀.heap.objs.size<=X.env.locals
 inj:∀x y c,X.env.cells.lookup x=some c->X.env.cells.lookup y=some c->x=y
 has:∀x,(X.env.kindOf x=some .cell\/X.env.kindOf x=some .free)->∃c,X.env.cells.lookup x=some c
 cab:∀x c,X.fn x=true->X.env.cells.lookup x=some c->X.s₀.heap.objs.size<=c
 hd:X.calm=true->X.A.handled=none
 frames:X.A.frames=some X.stack
 stk:X.stack=X.outer\/(X.stack=X.env::X.outer/\X.env.frame=some X.env.locals)
 exf:∀b∈X.ex,b≠X.env.locals/\∀x c,X.env.cells.lookup x=some c->c≠b
 bs:∀b o,X.base.get? b=some o->X.s₀.heap.get? b=some o/\X.H₀ b=none
 bsz:X.base.objs.size<=X.s₀.heap.objs.size
 noex:∀b o,X.base.get? b=some o->b∉X.ex
 exfs:∀b∈X.ex,b∉X.fs
 funs:X.s₀.heap.FunFrames X.base X.outer
 frf:∀b∈X.fs,X.H₀ b=none
 tabs:TabsIn X.base X.H₀
structure Inv(X:Cx)(pins:List (Addr×Obj))(σ:List (Option V))(H:Hp)(s:Shared):Prop where
 ok:X.Ok
 os:s.os=X.s₀.os
 bare:AllBare s.gens
 base:Un X.fs X.ex X.H₀ H X.s₀.heap s.heap
 loc:∃m,s.heap.Ns X.env.locals m/\∀(i:Nat)(x:Str)(v:V),X.N[i]?=some x->σ[i]?=some (some v)->Vis X.env.scope x->∃u,RelV v u/\NK X.env s.heap m x u
 cell:∀x c,X.env.cells.lookup x=some c->∃v,s.heap.IsCell c v
 free:H X.env.locals=none
 freeC:∀x c,X.env.cells.lookup x=some c->H c=none
 pin:∀p∈X.pn++pins,s.heap.get? p.1=some p.2/\H p.1=none/\p.1≠X.env.locals/\p.1∉X.fs/\∀v,p.2.data≠.cell v
 hok:HOk X.prog X.w H s.heap
 len:σ.length=X.N.length
section
variable{X:Cx}{σ:List (Option V)}
def Cx.Ok.nofr(ok:X.Ok){b:Addr}(e:X.base.get? b=some o):b∉X.fs:=λhb=>by have:=(ok.funs.mem hb).1;rw[e]at this;cases this
def Inv.bs(I:Inv X pins σ H s):∀b o,X.base.get? b=some o->s.heap.get? b=some o/\H b=none:=λb o e=>⟨I.base.keep b o (I.ok.bs b o e).1 (I.ok.bs b o e).2 (I.ok.nofr e) (I.ok.noex b o e),I.base.free b o (I.ok.bs b o e).1 (I.ok.bs b o e).2 (I.ok.noex b o e)⟩
def Inv.bk(I:Inv X pins σ H s):∀b o,X.base.get? b=some o->s.heap.get? b=some o:=λb o e=>(I.bs b o e).1
def Inv.mod(I:Inv X pins σ H s):Mod X.K X.mg X.base:=I.ok.mod
def Inv.kIn(I:Inv X pins σ H s):X.K.In s.heap:=I.ok.mod.kin.keeps I.bk
def Inv.nolimit(I:Inv X pins σ H s):s.heap.NoLimit:=I.ok.mod.nolimit.keeps I.bk
def Inv.lt(I:Inv X pins σ H s):X.env.locals<s.heap.objs.size:=let⟨_,hn,_⟩:=I.loc;hn.lt
def Inv.sz(I:Inv X pins σ H s):X.s₀.heap.objs.size<=s.heap.objs.size:=w8 I.ok.above (io I.lt)
def Inv.nofs(I:Inv X pins σ H s)(h:s.heap.objs.size<=a):a∉X.fs:=λhb=>by obtain⟨_,o,ho,_⟩:=I.ok.funs.mem hb;exact absurd (uP (xh ho) (w8 I.sz h)) (o4 _)
def Inv.cne(I:Inv X pins σ H s):∀x c,X.env.cells.lookup x=some c->c≠X.env.locals:=λx c e z=>by obtain⟨v,o,ho,hd⟩:=I.cell x c e;obtain⟨m,⟨o',es,ep,ho',hd',_⟩,_⟩:=I.loc;rw[z,ho']at ho;cases ho;rw[hd']at hd;cases hd
def Inv.funs(I:Inv X pins σ H s):s.heap.FunFrames X.base X.outer:=by
 have all:∀(l:List Env),(∀b∈frs l,b∈X.fs)->X.s₀.heap.FunFrames X.base l->s.heap.FunFrames X.base l:=by
  intro l;induction l with
  |nil=>intro _ _;trivial
  |cons env r ih=>intro hs hl;obtain⟨hk,⟨L,o,hf,hn,ho,hd⟩,hr⟩:=hl;have hL:L∈X.fs:=hs L (by unfold frs;rw[List.filterMap_cons,hf];exact List.mem_cons_self);obtain⟨sl,e⟩:=I.base.slot L o ho (I.ok.frf L hL) hL λz=>I.ok.exfs L z hL;exact⟨hk,⟨L,_,hf,hn,e,hd⟩,ih (λb hb=>hs b (by unfold frs;rw[List.filterMap_cons,hf];exact List.mem_cons_of_mem _ hb)) hr⟩
 exact all X.outer (λ_ hb=>hb) I.ok.funs
def Inv.stack(I:Inv X pins σ H s):s.heap.FunFrames X.base X.stack:=by
 rcases I.ok.stk with e|⟨e,hf⟩;·rw[e];exact I.funs
 ·rw[e];obtain⟨m,hn,_⟩:=I.loc;refine .cons (by rw[I.ok.kind];decide) hf hn ?_ I.funs;exact Heap.get?_none_of_le (w8 I.ok.bsz I.ok.above)
def Inv.stkSub(I:Inv X pins σ H s):∀b∈frs X.stack,b∈X.env.locals::X.fs:=λb hb=>by
 rcases I.ok.stk with e|⟨e,hf⟩;·rw[e]at hb;exact w4 _ hb
 ·rw[e]at hb;unfold frs at hb;rw[aT,hf]at hb;exact hb
def Inv.stkFree(I:Inv X pins σ H s):∀b∈frs X.stack,H b=none:=λb hb=>by
 rcases xO.mp (I.stkSub b hb)with e|hb;·rw[e];exact I.free
 ·obtain⟨_,o,ho,_⟩:=I.ok.funs.mem hb;exact I.base.free b o ho (I.ok.frf b hb) λz=>I.ok.exfs b z hb
def Inv.step{g':Array GenState}{t':Nat}{d':Drawn}(I:Inv X pins σ H s)(hch:∀b∈ch,(b∈X.ex\/X.s₀.heap.objs.size<=b)/\b≠X.env.locals/\(∀x c,X.env.cells.lookup x=some c->c≠b)/\∀p∈X.pn++pins,p.1≠b)(keep:∀b o,b≠X.env.locals->b∉X.fs->b∉ch->s.heap.get? b=some o->H b=none->h'.get? b=some o)(slot:∀b o,b≠X.env.locals->b∈X.fs->b∉ch->s.heap.get? b=some o->H b=none->∃sl,h'.get? b=some { o with slots:=sl })(free:∀b o,b∉ch->s.heap.get? b=some o->H b=none->H' b=none)(there:∀b o,b∉ch->s.heap.get? b=some o->∃o',h'.get? b=some o')(tups:∀b xs,H b=some (.tup xs)->H' b=some (.tup xs))(frzs:∀b o u,H b=some (.frz o u)->H' b=some (.frz o u))(tbls:∀b ps,H b=some (.tbl ps)->∃more,H' b=some (.tbl (ps++more)))(ns:∀m,s.heap.Ns X.env.locals m->h'.Ns X.env.locals m)(hok:HOk X.prog X.w H' h')(hg:AllBare g'):
  Inv X pins σ H' { s with heap:=h',gens:=g',drawn:=d',toks:=t' }:=by
 have neL:∀b o,X.s₀.heap.get? b=some o->b≠X.env.locals:=λb o e=>v6 (uP (xh e) I.ok.above);have neC:∀b o,X.s₀.heap.get? b=some o->b∉X.ex->b∉ch:=λb o e hx hb=>by
  rcases (hch b hb).1 with z|z;·exact hx z
  ·exact absurd (uP (xh e) z) (o4 _)
 have cellK:∀x c,X.env.cells.lookup x=some c->∀v,s.heap.IsCell c v->h'.IsCell c v:=λx c e v ⟨o,ho,hd⟩=>by
  have nch:c∉ch:=λz=>(hch c z).2.2.1 x c e rfl;by_cases hc:c∈X.fs;·obtain⟨sl,q⟩:=slot c o (I.cne x c e) hc nch ho (I.freeC x c e);exact⟨_,q,hd⟩
  ·exact⟨o,keep c o (I.cne x c e) hc nch ho (I.freeC x c e),hd⟩
 refine⟨I.ok,I.os,hg,⟨λb o e n hb hx=>?_,λb o e n hb hx=>?_,λb o e n hx=>?_,λb o e hx=>?_,λb xs e=>tups b xs (I.base.tups b xs e),λb o xs e=>frzs b o xs (I.base.frzs b o xs e),λb ps e=>?_⟩,?_,λx c e=>?_,?_,λx c e=>?_,λp hp=>?_,hok,I.len⟩;·exact keep b o (neL b o e) hb (neC b o e hx) (I.base.keep b o e n hb hx) (I.base.free b o e n hx)
 ·obtain⟨sl,e1⟩:=I.base.slot b o e n hb hx;obtain⟨sl',e2⟩:=slot b _ (neL b o e) hb (neC b o e hx) e1 (I.base.free b o e n hx);exact⟨sl',e2⟩
 ·obtain⟨o',e1⟩:=I.base.there b o e hx;exact free b o' (neC b o e hx) e1 (I.base.free b o e n hx)
 ·obtain⟨o',e1⟩:=I.base.there b o e hx;exact there b o' (neC b o e hx) e1
 ·obtain⟨m1,e1⟩:=I.base.tbls b ps e;obtain⟨m2,e2⟩:=tbls b _ e1;exact⟨m1++m2,by rw[e2,Array.append_assoc]⟩
 ·obtain⟨m,hn,hl⟩:=I.loc;refine⟨m,ns m hn,λi x v e1 e2 e3=>?_⟩;obtain⟨u,r,l⟩:=hl i x v e1 e2 e3;refine⟨u,r,?_⟩;rcases l with l|⟨k,c,e,z⟩;·exact .inl l
  ·exact .inr ⟨k,c,e,cellK x c e _ z⟩
 ·obtain⟨v,z⟩:=I.cell x c e;exact⟨v,cellK x c e v z⟩
 ·obtain⟨m,⟨o,_,_,ho,_⟩,_⟩:=I.loc;exact free _ o (λz=>(hch _ z).2.1 rfl) ho I.free
 ·obtain⟨v,o,ho,hd⟩:=I.cell x c e;exact free c o (λz=>(hch c z).2.2.1 x c e rfl) ho (I.freeC x c e)
 ·obtain⟨e,n,ne,nf,d⟩:=I.pin p hp;have nch:p.1∉ch:=λz=>(hch p.1 z).2.2.2 p hp rfl;exact⟨keep p.1 p.2 ne nf nch e n,free p.1 p.2 nch e n,ne,nf,d⟩
def Inv.un{t':Nat}(I:Inv X pins σ H s)(u:Un X.fs [] H H' s.heap h')(hok:HOk X.prog X.w H' h'):Inv X pins σ H' { s with heap:=h',toks:=t' }:=by obtain⟨m,⟨o,es,ep,ho,r⟩,_⟩:=id I.loc;obtain⟨sl,hL⟩:=u.any ho I.free (by simp);exact I.step (g':=s.gens) (d':=s.drawn) (ch:=[]) (λ_ z=>nomatch z) (λb o _ hb _ e n=>u.keep b o e n hb (by simp)) (λb o _ hb _ e n=>u.slot b o e n hb (by simp)) (λb o _ e n=>u.free b o e n (by simp)) (λb o _ e=>u.there b o e (by simp)) u.tups u.frzs u.tbls (λm' hm=>by obtain⟨o',es',ep',ho',r'⟩:=hm;rw[ho]at ho';cases ho';exact⟨_,es',ep',hL,r'⟩) hok I.bare
def Inv.call{g':Array GenState}{t':Nat}{d':Drawn}(I:Inv X pins σ H s)(u:Un (frs X.stack) ch H H' s.heap h')(hok:HOk X.prog X.w H' h')(hg:AllBare g')(hch:∀b∈ch,(b∈X.ex\/X.s₀.heap.objs.size<=b)/\b≠X.env.locals/\(∀x c,X.env.cells.lookup x=some c->c≠b)/\∀p∈X.pn++pins,p.1≠b):
  Inv X pins σ H' { s with heap:=h',gens:=g',drawn:=d',toks:=t' }:=by
 obtain⟨m,⟨o,es,ep,ho,r⟩,_⟩:=id I.loc;obtain⟨sl,hL⟩:=u.any ho I.free λz=>(hch _ z).2.1 rfl;exact I.step (ch:=ch) hch (λb o hL hb hc e n=>u.keep b o e n (λz=>(xO.mp (I.stkSub b z)).elim hL hb) hc) (λb o _ _ hc e n=>u.any e n hc) (λb o hc e n=>u.free b o e n hc) (λb o hc e=>u.there b o e hc) u.tups u.frzs u.tbls (λm' hm=>by obtain⟨o',es',ep',ho',r'⟩:=hm;rw[ho]at ho';cases ho';exact⟨_,es',ep',hL,r'⟩) hok hg
def Inv.turned{t':Nat}(I:Inv X pins σ H s)(k:∀b o,b≠it->s.heap.get? b=some o->h'.get? b=some o)(hn:H it=none)(hL:it≠X.env.locals)(h1:it∈X.ex\/X.s₀.heap.objs.size<=it)(h2:∀x c,X.env.cells.lookup x=some c->c≠it)(h3:∀p∈X.pn++pins,p.1≠it):Inv X pins σ H { s with heap:=h',toks:=t' }:=by
 have nit:∀b u,H b=some u->b≠it:=λb u e z=>by rw[z,hn]at e;cases e
 refine I.step (g':=s.gens) (d':=s.drawn) (ch:=[it]) (λb hb=>?_) (λb o _ _ hc e _=>k b o (λz=>hc (by simp[z])) e) (λb o _ _ hc e _=>⟨o.slots,k b o (λz=>hc (by simp[z])) e⟩) (λ_ _ _ _ n=>n)
  (λb o hc e=>⟨o,k b o (λz=>hc (by simp[z])) e⟩) (λ_ _ e=>e) (λ_ _ _ e=>e) (λb ps e=>⟨#[],by rw[e];simp⟩) (λm hm=>?_) (λb u e=>?_) I.bare
 ·have e:b=it:=by simpa using hb
  subst e;exact⟨h1,hL,h2,h3⟩
 ·obtain⟨o,es,ep,ho,r⟩:=hm;exact⟨o,es,ep,k _ o (uw hL) ho,r⟩
 ·refine(I.hok b u e).stay (λc v hc q=>k c v ?_ q) (λ_ q=>q) λ_ _ q=>q;rcases hc with z|z;·rw[z];exact nit b u e
  ·exact nit c _ z
def Inv.tok(I:Inv X pins σ H s)(t:Nat):Inv X pins σ H { s with toks:=t }:=I.un (h':=s.heap) (t':=t) Un.refl I.hok
def Inv.kept{t':Nat}(I:Inv X pins σ H s)(k:∀b u,s.heap.get? b=some u->h'.get? b=some u):Inv X pins σ H { s with heap:=h',toks:=t' }:=I.un (Un.kept k) (I.hok.kept k)
def Inv.laid{o:HO}{t':Nat}(I:Inv X pins σ H s)(k:∀b u,s.heap.get? b=some u->h'.get? b=some u)(hp:s.heap.objs.size<=a)(new:ObjOk X.prog X.w (upd H a o) h' a o):
  Inv X pins σ (upd H a o) { s with heap:=h',toks:=t' }:=I.un (Un.laid k hp (I.hok.fresh hp)) (I.hok.laid k hp new)
def Inv.write{x e:Addr}{o:HO}{t':Nat}(I:Inv X pins σ H s)(mu:Mut (H x))(he:e=x\/H e=some (.own x))(k:∀b u,b≠e->s.heap.get? b=some u->h'.get? b=some u)(heo:∃u,h'.get? e=some u)(new:ObjOk X.prog X.w (upd H x o) h' x o):Inv X pins σ (upd H x o) { s with heap:=h',toks:=t' }:=I.un (Un.write mu he k heo) (I.hok.write mu he k heo new)
def Inv.pins_of{pins':List (Addr×Obj)}(I:Inv X pins σ H s)(h:∀p∈pins',s.heap.get? p.1=some p.2/\H p.1=none/\p.1≠X.env.locals/\p.1∉X.fs/\∀v,p.2.data≠.cell v):Inv X pins' σ H s:=
 ⟨I.ok,I.os,I.bare,I.base,I.loc,I.cell,I.free,I.freeC,λp hp=>(q9.mp hp).elim (λz=>I.pin p (Z0 _ z)) (h p),I.hok,I.len⟩
def wo{N:List Str}(hN:N.Nodup)(a:N[i]?=some x)(b:N[j]?=some x):i=j:=by obtain⟨h1,e1⟩:=u8.mp a;obtain⟨h2,e2⟩:=u8.mp b;exact(List.getElem_inj hN).mp (e1.trans e2.symm)
def As{M:Model}{A:Around}{u:Value}{Q:Unit->Shared->Prop}(I:Inv X pins σ H s)(hN:X.N.Nodup)(hi:X.N[i]?=some x)(hx:Loc X.env.scope x)(r:RelV v u)(h:∀s',Inv X pins (σ.set i (some v)) H s'->(∃a,Heap.SameBut a s.heap s'.heap/\(a=X.env.locals\/X.env.cells.lookup x=some a))->Q () s')(hf:X.fn x=true\/X.env.scope.names.lookup x=some .local:=by first|exact .inl rfl|exact .inr rfl|assumption):wpAny M A (storeName X.env x u) Q E s:=by
 obtain⟨m,hn,hl⟩:=id I.loc;have hcls:(X.env.scope.kind==.class || (X.env.scope.kind==.module && X.env.locals != X.env.globals))=false:=by rw[I.ok.kind];rfl
 have hiσ:i<σ.length:=by rw[I.len];exact(u8.mp hi).1
 have cne:=I.cne;have tracked:∀{a:Addr}{h':Heap},(∃o,s.heap.get? a=some o/\H a=none)->Heap.SameBut a s.heap h'->HOk X.prog X.w H h':=λ{a h'} ha hs b ob e=>by
  obtain⟨_,_,hfree⟩:=ha;refine(I.hok b ob e).stay (λc w' hc q=>(hs.2 c ?_).trans q) (λ_ q=>q) λ_ _ q=>q;rintro rfl;rcases hc with rfl|hc;·rw[hfree]at e;cases e
  ·rw[hfree]at hc;cases hc
 rcases hx with hk|hk
 ·refine wpAny_storeName_local hk hn (λh' hn' hs=>?_) hcls;obtain⟨oL,_,_,hoL,_⟩:=id hn;refine h _ ⟨I.ok,I.os,I.bare,⟨λb o e n hb hx=>?_,λb o e n hb hx=>?_,I.base.free,λb o e hx=>?_,I.base.tups,I.base.frzs,I.base.tbls⟩,⟨_,hn',λj y v' e1 e2 e3=>?_⟩,λy c e=>?_,I.free,I.freeC,λp hp=>?_,tracked ⟨oL,hoL,I.free⟩ hs,by simpa using I.len⟩ ⟨_,hs,.inl rfl⟩;·exact(hs.2 b (v6 (uP (xh e) I.ok.above))).trans (I.base.keep b o e n hb hx)
  ·obtain⟨sl,e1⟩:=I.base.slot b o e n hb hx;exact⟨sl,(hs.2 b (v6 (uP (xh e) I.ok.above))).trans e1⟩
  ·obtain⟨o',e1⟩:=I.base.there b o e hx;exact⟨o',(hs.2 b (v6 (uP (xh e) I.ok.above))).trans e1⟩
  ·by_cases hj:j=i;·subst hj;rw[hi]at e1;cases e1;rw[uu hiσ]at e2;cases e2;exact⟨u,r,.inl ⟨hk,by simp⟩⟩
   ·rw[t6 (uw hj)]at e2;obtain⟨u',r',q⟩:=hl j y v' e1 e2 e3;refine⟨u',r',?_⟩;rcases q with⟨k,e⟩|⟨k,c,e,z⟩
    ·refine .inl ⟨k,?_⟩;have:y≠x:=λe=>hj (wo hN e1 (e▸hi));simp[this,e]
    ·exact .inr ⟨k,c,e,z.sameBut hs (cne y c e)⟩
  ·obtain⟨w',z⟩:=I.cell y c e;exact⟨w',z.sameBut hs (cne y c e)⟩
  ·obtain⟨e,n,ne,nf,d⟩:=I.pin p hp;exact⟨(hs.2 p.1 ne).trans e,n,ne,nf,d⟩
 ·have hfn:X.fn x=true:=by
   rcases hf with z|z;·exact z
   ·rw[z]at hk;cases hk
  obtain⟨c,hc⟩:=I.ok.has x (.inl hk);obtain⟨w',z⟩:=I.cell x c hc;refine wpAny_storeName_cell I.ok.kind hk hc z (λh' hc' hs=>?_);obtain⟨oc,hoc,hocd⟩:=id z;refine h { s with heap:=h' } ⟨I.ok,I.os,I.bare,⟨λb o e n hb hx=>?_,λb o e n hb hx=>?_,I.base.free,λb o e hx=>?_,I.base.tups,I.base.frzs,I.base.tbls⟩,⟨m,hn.sameBut hs (uw (cne x c hc)),λj y v' e1 e2 e3=>?_⟩,λy c' e=>?_,I.free,I.freeC,λp hp=>?_,tracked ⟨oc,hoc,I.freeC x c hc⟩ hs,by simpa using I.len⟩ ⟨c,hs,.inr hc⟩;·exact(hs.2 b (v6 (uP (xh e) (I.ok.cab x c hfn hc)))).trans (I.base.keep b o e n hb hx)
  ·obtain⟨sl,e1⟩:=I.base.slot b o e n hb hx;exact⟨sl,(hs.2 b (v6 (uP (xh e) (I.ok.cab x c hfn hc)))).trans e1⟩
  ·obtain⟨o',e1⟩:=I.base.there b o e hx;exact⟨o',(hs.2 b (v6 (uP (xh e) (I.ok.cab x c hfn hc)))).trans e1⟩
  ·by_cases hj:j=i;·subst hj;rw[hi]at e1;cases e1;rw[uu hiσ]at e2;cases e2;exact⟨u,r,.inr ⟨.inl hk,c,hc,hc'⟩⟩
   ·rw[t6 (uw hj)]at e2;obtain⟨u',r',q⟩:=hl j y v' e1 e2 e3;refine⟨u',r',?_⟩;rcases q with q|⟨k,c',e,z'⟩;·exact .inl q
    ·refine .inr ⟨k,c',e,z'.sameBut hs ?_⟩;rintro rfl;exact hj (wo hN e1 (I.ok.inj _ _ _ e hc▸hi))
  ·by_cases hcc:c'=c;·subst hcc;exact⟨_,hc'⟩
   ·obtain⟨w2,z2⟩:=I.cell y c' e;exact⟨w2,z2.sameBut hs hcc⟩
  ·obtain⟨e,n,ne,nf,d⟩:=I.pin p hp;refine⟨(hs.2 p.1 ?_).trans e,n,ne,nf,d⟩;intro q;rw[q,hoc]at e;have q':oc=p.2:=xV e;exact d w' (by rw[<- q'];exact hocd)
def qh{M:Model}{A:Around}{u:Value}{Q:Unit->Shared->Prop}(I:Inv X pins σ H s)(hN:X.N.Nodup)(hi:X.N[i]?=some x)(hx:Loc X.env.scope x)(r:RelV v u)(h:∀s',Inv X pins (σ.set i (some v)) H s'->Q () s')(hf:X.fn x=true\/X.env.scope.names.lookup x=some .local:=by first|exact .inl rfl|exact .inr rfl|assumption):wpAny M A (storeName X.env x u) Q E s:=
 As I hN hi hx r (λs' I' _=>h s' I') hf
def Inv.call'(I:Inv X pins σ H s)(ho:s'.os=s.os)(u:Un (frs X.stack) ch H H' s.heap s'.heap)(hok:HOk X.prog X.w H' s'.heap)(hg:AllBare s'.gens)(hch:∀b∈ch,(b∈X.ex\/X.s₀.heap.objs.size<=b)/\b≠X.env.locals/\(∀x c,X.env.cells.lookup x=some c->c≠b)/\∀p∈X.pn++pins,p.1≠b):Inv X pins σ H' s':=by
 obtain⟨h',g',d',t',o'⟩:=s';have e:o'=s.os:=ho;subst e;exact I.call (g':=g') (t':=t') (d':=d') u hok hg hch
end
noncomputable abbrev XK:=Value->Option Addr->Hp->Prop
noncomputable abbrev St:=List (Option V)
noncomputable abbrev VK:=V->Hp->Prop
noncomputable abbrev TE:=St->Hp->VK->Prop
noncomputable abbrev TT:=St->Hp->(Bool->Hp->Prop)->Prop
noncomputable abbrev TA:=St->Hp->(List V->Hp->Prop)->Prop
structure Ends where
 nx:St->Hp->Prop
 rt:VK
 bk:St->Hp->Prop:=λ_ _=>False
 ct:St->Hp->Prop:=λ_ _=>False
noncomputable abbrev TS:=Ends->St->Hp->Prop
noncomputable def EP(X:Cx)(pins:List (Addr×Obj))(σ:St)(Q:VK)(u:Value)(s':Shared):Prop:=∃v H',Inv X pins σ H' s'/\RelV v u/\Q v H'
noncomputable def TP(X:Cx)(pins:List (Addr×Obj))(σ:St)(Q:Bool->Hp->Prop)(b:Bool)(s':Shared):Prop:=∃H',Inv X pins σ H' s'/\Q b H'
noncomputable def AP(X:Cx)(pins:List (Addr×Obj))(σ:St)(Q:List V->Hp->Prop)(us:List Value)(s':Shared):Prop:=∃vs H',Inv X pins σ H' s'/\Vals vs us/\Q vs H'
noncomputable def SP(X:Cx)(pins:List (Addr×Obj))(D:Ends)(f:Flow)(s':Shared):Prop:=
 match f with
 |.next=>∃σ' H',Inv X pins σ' H' s'/\D.nx σ' H'
 |.brk=>∃σ' H',Inv X pins σ' H' s'/\D.bk σ' H'
 |.cont=>∃σ' H',Inv X pins σ' H' s'/\D.ct σ' H'
 |.ret u=>∃v σ' H',Inv X pins σ' H' s'/\RelV v u/\D.rt v H'
noncomputable def PE(X:Cx)(e:Expr)(t:TE):Prop:=
 ∀(pins:List (Addr×Obj))(s:Shared)(σ:St)(H:Hp)(Q:VK),Inv X pins σ H s->t σ H Q->wpAny (model X.prog X.w) X.A (eval e X.env) (EP X pins σ Q) X.xe s
noncomputable def PT(X:Cx)(e:Expr)(t:TT):Prop:=
 ∀(pins:List (Addr×Obj))(s:Shared)(σ:St)(H:Hp)(Q:Bool->Hp->Prop),Inv X pins σ H s->t σ H Q->wpAny (model X.prog X.w) X.A (isTrue e X.env (eval e X.env)) (TP X pins σ Q) X.xe s
noncomputable def PW(X:Cx)(e:Expr)(t:TT):Prop:=
 ∀(whole:Sem Value)(pins:List (Addr×Obj))(s:Shared)(σ:St)(H:Hp)(Q:Bool->Hp->Prop),Inv X pins σ H s->t σ H Q->wpAny (model X.prog X.w) X.A (isTrue e X.env whole) (TP X pins σ Q) X.xe s
noncomputable def PA(X:Cx)(es:List Expr)(t:TA):Prop:=
 ∀(pos:Pos)(pins:List (Addr×Obj))(s:Shared)(σ:St)(H:Hp)(Q:List V->Hp->Prop),Inv X pins σ H s->t σ H Q->wpAny (model X.prog X.w) X.A (spliced (backTo pos (starEach es X.env))) (AP X pins σ Q) X.xe s
noncomputable def PS(X:Cx)(st:Stmt)(t:TS):Prop:=
 ∀(pins:List (Addr×Obj))(s:Shared)(σ:St)(H:Hp)(D:Ends),Inv X pins σ H s->t D σ H->wpAny (model X.prog X.w) X.A (exec st X.env) (SP X pins D) X.xe s
noncomputable def PSs(X:Cx)(st:List Stmt)(t:TS):Prop:=
 ∀(pins:List (Addr×Obj))(s:Shared)(σ:St)(H:Hp)(D:Ends),Inv X pins σ H s->t D σ H->wpAny (model X.prog X.w) X.A (execs st X.env) (SP X pins D) X.xe s
def thn{α:Type}{t:Sem α}{Q Q':α->Shared->Prop}{M:Model}{A:Around}(h:wpAny M A t Q E s)(hQ:∀a s,Q a s->Q' a s):wpAny M A t Q' E s:=u9 h hQ λ_ _ x=>x
end L2
variable{σ:L2.St}{X:L2.Cx}
namespace L2
open PySem PySem.Spec PyProof.Rows
section
noncomputable def Bt(i:Nat):TE:=λσ H Q=>∃v,σ[i]?=some (some v)/\Q v H
noncomputable def tC(v:V):TE:=λ_ H Q=>Q v H
def cK(hN:X.N[i]?=some x)(hv:Vis X.env.scope x)(hd:(x==("__debug__":Str))=false:=by decide)(hcd:(x==("__classdict__":Str))=false:=by decide):PE X (.Name x pos) (Bt i):=by
 intro pins s σ H Q I h;obtain⟨v,e,h⟩:=h;obtain⟨m,hn,hl⟩:=I.loc;obtain⟨u,r,l⟩:=hl i x v hN e hv;have fin:EP X pins σ Q u s:=⟨v,H,I,r,h⟩
 rcases l with⟨hk,hm⟩|⟨hk,c,hc,hcell⟩;·exact wpAny_Name (wpAny_loadName_local I.ok.kind hk hn hm fin) hd
 ·rcases hk with hk|hk;·exact wpAny_Name (wpAny_loadName_cell I.ok.kind hk hc hcell fin) hd
  ·exact wpAny_Name (wpAny_loadName_free I.ok.kind hk hc hcell fin hcd) hd
def IV {i j pos}:PE X (.Constant (.int i) j pos) (tC (.int i)):=λ_ _ _ H _ I h=>wpAny_Constant_int ⟨.int i,H,I.tok _,⟨_,rfl⟩,h⟩
def Hv {b j pos}:PE X (.Constant (.bool b) j pos) (tC (.bl b)):=λ_ _ _ H _ I h=>Constant_bool ⟨.bl b,H,I,rfl,h⟩
def IJ {j pos}:PE X (.Constant .none j pos) (tC .non):=λ_ _ _ H _ I h=>Constant_none ⟨.non,H,I,rfl,h⟩
def Ed {x j pos}:PE X (.Constant (.str x) j pos) (tC (.str x)):=λ_ _ _ H _ I h=>Calls.Constant_str ⟨.str x,H,I.tok _,⟨_,rfl⟩,h⟩
noncomputable def Gl(X:Cx)(x:Str):Prop:=X.env.kindOf x=some .globalImplicit
def iX{u:Value}{Q:Value->Shared->Prop}(I:Inv X pins σ H s)(hg:Gl X x)(hm:X.mg x=some u)(h:Q u s)(hd:(x==("__debug__":Str))=false:=by decide):wpAny (model X.prog X.w) X.A (eval (.Name x pos) X.env) Q E s:=
 ZC I.ok.kind hg (Calls.loadGlobal_global (by rw[I.ok.glob];exact I.mod.glob.keeps I.bk) hm h) hd
def nT{u:Value}{Q:Value->Shared->Prop}(I:Inv X pins σ H s)(hg:Gl X x)(hm:X.mg x=none)(hv:bootBuiltins x=some u)(h:Q u s)(hn:x≠"__name__":=by decide)(hd:(x==("__debug__":Str))=false:=by decide):wpAny (model X.prog X.w) X.A (eval (.Name x pos) X.env) Q E s:=by
 obtain⟨mb,h1,h2⟩:=I.mod.blt;exact ZC I.ok.kind hg (Calls.loadGlobal_builtin (by rw[I.ok.glob];exact I.mod.glob.keeps I.bk) hm (by rw[I.ok.blt];exact h1.keeps I.bk) ((h2 x hn).trans hv) h) hd
def qi{u:Value}(hg:Gl X x)(hm:X.mg x=some u)(r:RelV v u)(hd:(x==("__debug__":Str))=false:=by decide):PE X (.Name x pos) (tC v):=
 λ_ _ _ H _ I h=>iX I hg hm ⟨v,H,I,r,h⟩ hd
def uW{u:Value}(hg:Gl X x)(hm:X.mg x=none)(hv:bootBuiltins x=some u)(r:RelV v u)(hn:x≠"__name__":=by decide)(hd:(x==("__debug__":Str))=false:=by decide):PE X (.Name x pos) (tC v):=
 λ_ _ _ H _ I h=>nT I hg hm hv ⟨v,H,I,r,h⟩ hn hd
variable{a b:Expr}{ta tb:TE}
variable{tA tB':TT}{cS:List Expr}
noncomputable def Nt(t u:TT):TT:=λσ H Q=>t σ H λc H1=>if c=true then u σ H1 Q else Q false H1
noncomputable def tOr(t u:TT):TT:=λσ H Q=>t σ H λc H1=>if c=true then Q true H1 else u σ H1 Q
noncomputable def Nf(t:TT):TT:=λσ H Q=>t σ H λc H1=>Q (!c) H1
def Gp(ha:PT X a tA):PW X (.BoolOp .And [a] pos) tA:=by
 intro wh pins s σ H Q I h;refine isTrue_and (thn (ha pins s σ H Q I h) λc s1 e=>?_);cases c with
 |true=>exact isTrue_and_nil e
 |false=>exact e
def Ih(ha:PT X a tA):PW X (.BoolOp .Or [a] pos) tA:=by
 intro wh pins s σ H Q I h;refine isTrue_or (thn (ha pins s σ H Q I h) λc s1 e=>?_);cases c with
 |false=>exact isTrue_or_nil e
 |true=>exact e
def JL(ha:PT X a tA)(hb:PW X (.BoolOp .And (b::cS) pos) tB'):PW X (.BoolOp .And (a::b::cS) pos) (Nt tA tB'):=by
 intro wh pins s σ H Q I h;refine isTrue_and (thn (ha pins s σ H _ I h) λc s1 ⟨H1,I1,q1⟩=>?_);cases c with
 |true=>exact hb wh pins s1 σ H1 Q I1 q1
 |false=>exact⟨H1,I1,q1⟩
def LG(ha:PT X a tA)(hb:PW X (.BoolOp .Or (b::cS) pos) tB'):PW X (.BoolOp .Or (a::b::cS) pos) (tOr tA tB'):=by
 intro wh pins s σ H Q I h;refine isTrue_or (thn (ha pins s σ H _ I h) λc s1 ⟨H1,I1,q1⟩=>?_);cases c with
 |true=>exact⟨H1,I1,q1⟩
 |false=>exact hb wh pins s1 σ H1 Q I1 q1
def Ie(ha:PT X a tA):PT X (.UnaryOp .Not a pos) (Nf tA):=by intro pins s σ H Q I h;exact isTrue_not (ha pins s σ H (λc H1=>Q (!c) H1) I h)
noncomputable def Lz(ta tb:TE):TE:=λσ H Q=>ta σ H λx H1=>∃c,x=.bl c/\if c=true then tb σ H1 Q else Q (.bl false) H1
noncomputable def NJ(ta tb:TE):TE:=λσ H Q=>ta σ H λx H1=>∃c,x=.bl c/\if c=true then Q (.bl true) H1 else tb σ H1 Q
noncomputable def KT(ta:TE):TE:=λσ H Q=>ta σ H λx H1=>∃c,x=.bl c/\Q (.bl (!c)) H1
def H9 {op} {t:TE} (h:PE X a t):PE X (.BoolOp op [a] pos) t:=λpins s σ H Q I hw=>BoolOp_one (h pins s σ H Q I hw)
def Hl(ha:PE X a ta)(hb:PE X (.BoolOp .And (b::cS) pos) tb):PE X (.BoolOp .And (a::b::cS) pos) (Lz ta tb):=by
 intro pins s σ H Q I h;refine BoolOp_and (thn (ha pins s σ H _ I h) λv s1 ⟨x,H1,I1,r1,q1⟩=>?_);obtain⟨c,rfl,q1⟩:=q1;cases r1;refine sJ ?_;cases c with
 |true=>exact hb pins s1 σ H1 Q I1 q1
 |false=>exact⟨.bl false,H1,I1,rfl,q1⟩
def KS(ha:PE X a ta)(hb:PE X (.BoolOp .Or (b::cS) pos) tb):PE X (.BoolOp .Or (a::b::cS) pos) (NJ ta tb):=by
 intro pins s σ H Q I h;refine BoolOp_or (thn (ha pins s σ H _ I h) λv s1 ⟨x,H1,I1,r1,q1⟩=>?_);obtain⟨c,rfl,q1⟩:=q1;cases r1;refine sJ ?_;cases c with
 |false=>exact hb pins s1 σ H1 Q I1 q1
 |true=>exact⟨.bl true,H1,I1,rfl,q1⟩
def Ij(ha:PE X a ta):PE X (.UnaryOp .Not a pos) (KT ta):=by intro pins s σ H Q I h;refine UnaryOp_ (thn (ha pins s σ H _ I h) λv s1 ⟨x,H1,I1,r1,q1⟩=>?_);obtain⟨c,rfl,q1⟩:=q1;cases r1;exact not_of (sJ ⟨.bl (!c),H1,I1,rfl,q1⟩)
noncomputable def tIf(t:TT)(ta tb:TE):TE:=λσ H Q=>t σ H λc H1=>if c=true then ta σ H1 Q else tb σ H1 Q
def CM{c:Expr}(hc:PT X c tA)(ha:PE X a ta)(hb:PE X b tb):PE X (.IfExp c a b pos) (tIf tA ta tb):=by
 intro pins s σ H Q I h;refine wpAny_IfExp (thn (hc pins s σ H _ I h) λd s1 ⟨H1,I1,q1⟩=>?_);cases d with
 |true=>exact ha pins s1 σ H1 Q I1 q1
 |false=>exact hb pins s1 σ H1 Q I1 q1
end
noncomputable def SqL(K:W.Frag)(H:Hp)(a:Addr)(xs:List V):Prop:=
 Rd H a (.lst xs)\/
  ∃(o:Obj)(its:Array Value)(n:Nat),K.lookup a=some o/\o.cls=.type "list"/\o.dict=none/\o.data=.seq its n/\its.size<=sizeLine/\Vals xs its.toList
noncomputable def SqT(K:W.Frag)(H:Hp)(a:Addr)(xs:List V):Prop:=
 Rd H a (.tup xs)\/
  ∃(o:Obj)(its:Array Value)(n:Nat),K.lookup a=some o/\o.cls=.type "tuple"/\o.data=.seq its n/\its.size<=sizeLine/\Vals xs its.toList
noncomputable def NA:Value->Option V
 |.none=>some .non
 |.bool b=>some (.bl b)
 |.int i _=>some (.int i)
 |.str x _=>some (.str x)
 |.bytes b _=>some (.byt b)
 |.float b _=>some (.flt b)
 |.ref a=>some (.ref a)
 |.type n=>some (.ty n)
 |_=>none
def RelV.abs{x:V}{u:Value}(r:RelV x u):NA u=some x:=by
 cases x with
 |non=>cases r;rfl
 |bl _=>cases r;rfl
 |int _=>obtain⟨t,rfl⟩:=r;rfl
 |str _=>obtain⟨t,rfl⟩:=r;rfl
 |byt _=>obtain⟨t,rfl⟩:=r;rfl
 |flt _=>obtain⟨t,rfl⟩:=r;rfl
 |ref _=>cases r;rfl
 |ty _=>cases r;rfl
def RelV.inj{x y:V}{u:Value}(r:RelV x u)(q:RelV y u):x=y:=xV (r.abs.symm.trans q.abs)
theorem Vals.inj:∀{xs ys:List V}{us:List Value},Vals xs us->Vals ys us->xs=ys
 |_,_,_,.nil,.nil=>rfl
 |_,_,_,.cons r t,.cons r' t'=>by rw[r.inj r',Vals.inj t t']
section
variable{ys:List V}
def SqL.of{K:W.Frag}(h:H a=some (.lst xs)):SqL K H a xs:=.inl (.inl h)
def SqT.of{K:W.Frag}(h:H a=some (.tup xs)):SqT K H a xs:=.inl (.inl h)
def Inv.list(I:Inv X pins σ H s)(h:SqL X.K H a xs):∃its:List Value,Vals xs its/\PlainL s.heap a its.toArray/\xs.length<=sizeLine:=by
 rcases h with h|⟨o,its,n,hk,hc,hd,hs,hz,r⟩;·obtain⟨z,its,n,r,e⟩:=h.ok I.hok;exact⟨its,r,⟨_,n,e,rfl,rfl,rfl⟩,z⟩
 ·refine⟨its.toList,r,⟨o,n,I.kIn a o hk,hc,hd,by simpa using hs⟩,?_⟩;have e:=r.length;simp only[n8]at e;omega
def Inv.tuple(I:Inv X pins σ H s)(h:SqT X.K H a xs):∃its:List Value,Vals xs its/\IsTup s.heap a its.toArray/\xs.length<=sizeLine:=by
 rcases h with h|⟨o,its,n,hk,hc,hs,hz,r⟩;·obtain⟨z,its,r,p⟩:=h.ok I.hok;exact⟨its,r,p,z⟩
 ·refine⟨its.toList,r,⟨o,I.kIn a o hk,hc,n,by simpa using hs⟩,?_⟩;have e:=r.length;simp only[n8]at e;omega
def Inv.list_inj(I:Inv X pins σ H s)(h:SqL X.K H a xs)(h':SqL X.K H a ys):xs=ys:=by
 obtain⟨its,r,⟨o,n,e,_,_,d⟩,_⟩:=I.list h;obtain⟨its',r',⟨o',n',e',_,_,d'⟩,_⟩:=I.list h';rw[e]at e';cases e';rw[d]at d';injection d' with d1 _;have:its=its':=by simpa using ut Array.toList d1
 subst this;exact r.inj r'
def Inv.tuple_inj(I:Inv X pins σ H s)(h:SqT X.K H a xs)(h':SqT X.K H a ys):xs=ys:=by
 obtain⟨its,r,⟨o,e,_,n,d⟩,_⟩:=I.tuple h;obtain⟨its',r',⟨o',e',_,n',d'⟩,_⟩:=I.tuple h';rw[e]at e';cases e';rw[d]at d';injection d' with d1 _;have:its=its':=by simpa using ut Array.toList d1
 subst this;exact r.inj r'
end
noncomputable abbrev Cx.wish(X:Cx)(E:Value->Shared->Prop):Cx:={ X with xe:=E }
section
variable{cS:List Stmt}{t u:TS}{e:Expr}{te:TE}
noncomputable def Ku:TS:=λD σ H=>D.nx σ H
noncomputable def Of(t u:TS):TS:=λD σ H=>t { D with nx:=u D } σ H
def zM:PSs X [] Ku:=λ_ _ σ H _ I h=>Z1 ⟨σ,H,I,h⟩
def dE(h1:PS X st t)(h2:PSs X cS u):PSs X (st::cS) (Of t u):=by
 intro pins s σ H D I h;refine wpAny_execs_cons (thn (h1 pins s σ H { D with nx:=u D } I h) λf s1 q=>?_);cases f with
 |next=>obtain⟨σ',H',I',q⟩:=q;exact h2 pins s1 σ' H' D I' q
 |ret v=>exact q
 |brk=>exact q
 |cont=>exact q
def qy(h1:PS X st t):PSs X [st] t:=by
 intro pins s σ H D I h;refine wpAny_execs_cons (thn (h1 pins s σ H D I h) λf s1 q=>?_);cases f with
 |next=>exact Z1 q
 |ret v=>exact q
 |brk=>exact q
 |cont=>exact q
def Inv.quiet(I:Inv X pins σ H s):interactive X.env=false:=by simp[interactive,I.ok.kind]
noncomputable def Ls(te:TE):TS:=λD σ H=>te σ H λ_ H1=>D.nx σ H1
def gH(he:PE X e te)(hs:swapsWith e none pos.line X.env=pure false:=by rfl):PS X (.Expr e pos) (Ls te):=by intro pins s σ H D I h;exact wpAny_Expr_any (thn (he pins s σ H _ I h) λv s1 ⟨x,H1,I1,r1,q1⟩=>⟨σ,H1,I1,q1⟩) I.quiet hs
noncomputable def N5(te:TE):TS:=λD σ H=>te σ H D.rt
def mQ(he:PE X e te):PS X (.Return (some e) pos) (N5 te):=by intro pins s σ H D I h;exact wpAny_Return_some (thn (he pins s σ H _ I h) λv s1 ⟨x,H1,I1,r1,q1⟩=>⟨x,σ,H1,I1,r1,q1⟩)
noncomputable def NB(c:TT)(t u:TS):TS:=λD σ H=>c σ H λb H1=>if b=true then t D σ H1 else u D σ H1
def Gg{c:Expr}{a b:List Stmt}{tc:TT}(hc:PT X c tc)(ha:PSs X a t)(hb:PSs X b u):PS X (.If c a b pos) (NB tc t u):=by
 intro pins s σ H D I h;refine wpAny_If (thn (hc pins s σ H _ I h) λd s1 ⟨H1,I1,q1⟩=>?_);cases d with
 |true=>exact ha pins s1 σ H1 D I1 q1
 |false=>exact hb pins s1 σ H1 D I1 q1
end
noncomputable abbrev TG:=V->St->Hp->(St->Hp->Prop)->Prop
noncomputable abbrev TGs:=List V->St->Hp->(St->Hp->Prop)->Prop
noncomputable def PG(X:Cx)(target:Expr)(t:TG):Prop:=
 ∀(pins:List (Addr×Obj))(s:Shared)(σ:St)(H:Hp)(v:V)(u:Value)(Q:St->Hp->Prop),Inv X pins σ H s->RelV v u->t v σ H Q->
  wpAny (model X.prog X.w) X.A (assign target X.env u) (λ_ s'=>∃σ' H',Inv X pins σ' H' s'/\Q σ' H') X.xe s
noncomputable def PGs(X:Cx)(ts:List Expr)(t:TGs):Prop:=
 ∀(pins:List (Addr×Obj))(s:Shared)(σ:St)(H:Hp)(vs:List V)(us:List Value)(Q:St->Hp->Prop),Inv X pins σ H s->Vals vs us->t vs σ H Q->
  wpAny (model X.prog X.w) X.A (assignInOrder ((assignEach ts X.env).map (·.2)) us) (λ_ s'=>∃σ' H',Inv X pins σ' H' s'/\Q σ' H') X.xe s
noncomputable abbrev Kg:=V->V->V->Hp->(Hp->Prop)->Prop
noncomputable def Mm(X:Cx)(t:Kg):Prop:=
 ∀(pins:List (Addr×Obj))(s:Shared)(σ:St)(H:Hp)(o i v:V)(ov iv u:Value)(Q:Hp->Prop),Inv X pins σ H s->RelV o ov->RelV i iv->RelV v u->t o i v H Q->
  wpAny (model X.prog X.w) X.A (setItem ov iv u) (λ_ s'=>∃H',Inv X pins σ H' s'/\Q H') X.xe s
section
noncomputable def KN(i:Nat):TG:=λv σ H Q=>Q (σ.set i (some v)) H
def dP(hN:X.N.Nodup)(hi:X.N[i]?=some x)(hx:Loc X.env.scope x)(hf:X.fn x=true\/X.env.scope.names.lookup x=some .local:=by first|exact .inl rfl|exact .inr rfl|assumption):PG X (.Name x pos) (KN i):=by intro pins s σ H v u Q I r h;exact wpAny_assign_Name (qh I hN hi hx r (λs' I'=>⟨_,H,I',h⟩) hf)
noncomputable def M5:TGs:=λvs σ H Q=>vs=[]/\Q σ H
noncomputable def Lp(t:TG)(u:TGs):TGs:=λvs σ H Q=>∃v r,vs=v::r/\t v σ H λσ' H'=>u r σ' H' Q
def Be:PGs X [] M5:=by intro pins s σ H vs us Q I r h;obtain⟨e,h⟩:=h;subst e;cases r;exact assignInOrder_nil ⟨σ,H,I,h⟩
def lO{e:Expr}{t:TG}{u:TGs}(h1:PG X e t)(h2:PGs X es u)(hs:(assignEach (e::es) X.env).map (·.2)=assign e X.env::(assignEach es X.env).map (·.2):=by rfl):PGs X (e::es) (Lp t u):=by
 intro pins s σ H vs us Q I r h;obtain⟨v,vr,e1,h⟩:=h;subst e1;cases r with
 |cons r rr=>rw[hs];refine Z2 (thn (h1 pins s σ H _ _ _ I r h) λ_ s1 ⟨σ1,H1,I1,q1⟩=>?_);exact h2 pins s1 σ1 H1 _ _ Q I1 rr q1
noncomputable def Oe(K:W.Frag)(n:Nat)(t:TGs):TG:=λv σ H Q=>∃a xs,v=.ref a/\SqT K H a xs/\xs.length=n/\t xs σ H Q
def DW{t:TGs}{n:Nat}(hc:X.calm=true)(h:PGs X es t)(hn:(assignEach es X.env).length=n:=by rfl)(hst:(assignEach es X.env).findIdx? (·.1)=none:=by rfl):PG X (.Tuple es k pos) (Oe X.K n t):=by
 intro pins s σ H v u Q I r hw;obtain⟨a,xs,e1,hq,hl,hw⟩:=hw;subst e1;cases r;obtain⟨its,rv,ht,hz⟩:=I.tuple hq;refine assign_Tuple_tuple (I.ok.hd hc) ht (by simp[hn,<- hl,rv.length]) hst λh' hx=>?_;have I1:Inv X pins σ H { s with heap:=h' }:=I.kept (t':=s.toks) λb o e=>hx b o (v6 (xh e)) e;exact h pins _ σ H xs _ Q I1 (by simpa using rv) hw
noncomputable def KG(to ti:TE)(t:Kg):TG:=λv σ H Q=>to σ H λo H1=>ti σ H1 λi H2=>t o i v H2 λH3=>Q σ H3
def D3{o i:Expr}{to ti:TE}{t:Kg}(ho:PE X o to)(hi:PE X i ti)(hs:Mm X t)(ha:∀v,assign (.Subscript o i pos) X.env v=(do
 let ov <- holding [v] (eval o X.env);let iv <- holding [v,ov] (eval i X.env)
 standAt pos
 holding [v,ov,iv] (setItem ov iv v)
 release [v,ov,iv] []):=by intro _;rfl):PG X (.Subscript o i pos) (KG to ti t):=by
 intro pins s σ H v u Q I r h;rw[ha];refine y8 (sT (thn (ho pins s σ H _ I h) λov s1 ⟨x,H1,I1,r1,q1⟩=>?_));refine y8 (sT (thn (hi pins s1 σ H1 _ I1 q1) λiv s2 ⟨y,H2,I2,r2,q2⟩=>?_));refine y8 (iz (y8 (sT (thn (hs pins s2 σ H2 x y v ov iv u _ I2 r1 r2 r q2) λ_ s3 ⟨H3,I3,q3⟩=>?_))));exact wpAny_release ⟨σ,H3,I3,q3⟩
noncomputable def N3(te:TE)(g:TG):TS:=λD σ H=>te σ H λx H1=>g x σ H1 D.nx
def hW{e:Expr}{te:TE}{g:TG}(he:PE X e te)(hg:PG X tg g)(hs:swapsWithSole [tg] e pos.line X.env=pure false:=by rfl)(hw:swappedStores [tg] e X.env=pure none:=by rfl)(h1:(assignEach [tg] X.env).map (·.2)=[assign tg X.env]:=by rfl):PS X (.Assign [tg] e pos) (N3 te g):=by
 intro pins s σ H D I h;refine wpAny_Assign_stores (thn (he pins s σ H _ I h) λv s1 ⟨x,H1,I1,r1,q1⟩=>?_) hs hw;rw[h1];exact thn (hg pins s1 σ H1 x v _ I1 r1 q1) λ_ s2 q=>q
noncomputable def NU(i j:Nat)(ta:TA):TS:=λD σ H=>ta σ H λvs H1=>∃v w,vs=[v,w]/\D.nx ((σ.set i (some v)).set j (some w)) H1
def Jg{a b:Expr}{ta:TA}{px py pt:Pos} {kt k2 pt2} (hc:X.calm=true) (hN:X.N.Nodup) (hi:X.N[i]?=some x) (hj:X.N[j]?=some y) (hij:i≠j)
 (hx:X.env.scope.names.lookup x=some .local) (hy:X.env.scope.names.lookup y=some .local) (ha:PA X [a,b] ta)
 (hw:swappedStores [.Tuple [.Name x px,.Name y py] kt pt] (.Tuple [a,b] k2 pt2) X.env=pure (some [x,y]))
 (hs:swapsWithSole [.Tuple [.Name x px,.Name y py] kt pt] (.Tuple [a,b] k2 pt2) pos.line X.env=pure false:=by rfl) :
  PS X (.Assign [.Tuple [.Name x px,.Name y py] kt pt] (.Tuple [a,b] k2 pt2) pos) (NU i j ta):=by
 intro pins s σ H D I h;rw[exec_Assign_arm];refine y8 (iz ?_);rw[hs];refine y8 (y9 ?_);rw[if_neg (by decide)];refine y8 (Tuple_ (thn (ha _ pins s σ H _ I h) λus s1 ⟨vs,H1,I1,r1,q1⟩=>?_));obtain⟨v,w,e1,q1⟩:=q1;subst e1;obtain⟨u1,u2,rfl,rv,rw'⟩:∃u1 u2,us=[u1,u2]/\RelV v u1/\RelV w u2:=by
  cases r1 with
  |cons p q=>
   cases q with
   |cons p' q'=>cases q';exact⟨_,_,rfl,p,p'⟩
 refine sZ ?_ (by show 2<=sizeLine;decide);have I2:Inv X pins σ H1 { s1 with heap:=s1.heap.push { cls:=.type "tuple",data:=.seq [u1,u2].toArray } }:=I1.kept (t':=s1.toks) λb o e=>yq _ e;rw[hw];refine y8 (y9 ?_);show wpAny (model X.prog X.w) X.A (do rule "assign.swapped-stores";let items <- unpackItems (.ref s1.heap.objs.size) 2 none;assignInOrder [λv=>bindName X.env y v,λv=>bindName X.env x v] items.reverse;pure Flow.next) _ _ _;refine y8 (wpAny_rule (y8 (unpackItems_tuple (items:=#[u1,u2]) (I.ok.hd hc) (n9 s1.heap _) λh' hx'=>?_)));have I3:=I2.kept (h':=h') (t':=s1.toks) λb o e=>hx' b o (v6 (xh e)) e;show wpAny _ _ (assignInOrder [λv=>bindName X.env y v,λv=>bindName X.env x v] [u2,u1]>>=λ_=>pure Flow.next) _ _ _;refine y8 (Z2 (wpAny_bindName (qh I3 hN hj (.inl hy) rw' (λs2 I4=>?_) (.inr hy))));refine Z2 (wpAny_bindName (qh I4 hN hi (.inl hx) rv (λs3 I5=>assignInOrder_nil (y9 ?_)) (.inr hx)));rw[List.set_comm _ _ (uw hij)]at I5;exact⟨_,H1,I5,q1⟩
end
structure It where
 go:Nat->Hp->Prop
 yld:Nat->Hp->V->Hp->Prop
 stop:Nat->Hp->Prop
noncomputable def pI(X:Cx)(pins:List (Addr×Obj))(H:Hp)(b:Addr):Prop:=
 H b=none/\b≠X.env.locals/\b∉X.fs/\(b∈X.ex\/X.s₀.heap.objs.size<=b)/\(∀x c,X.env.cells.lookup x=some c->c≠b)/\∀p∈X.pn++pins,p.1≠b
def Inv.fpOk{b:Addr}(I:Inv X pins σ H s)(hb:s.heap.objs.size<=b)(hn:H' b=none):pI X pins H' b:=by
 refine⟨hn,r6 (uP I.lt hb),I.nofs hb,.inr (w8 I.sz hb),λx c e z=>?_,λp hp z=>?_⟩;·obtain⟨v,q⟩:=I.cell x c e;exact absurd (uP q.lt (by rw[z];exact hb)) (o4 _)
 ·exact absurd (uP (xh (I.pin p hp).1) (by rw[z];exact hb)) (o4 _)
structure Turn(P:Program)(w:World)(K:W.Frag)(tg:Expr)(J:It)(fp:List Addr)(it:Addr)(tn:Nat->Heap->Prop):Prop where
 mem:it∈fp
 obj:∀i h,tn i h->∀b∈fp,∃o,h.get? b=some o/\∀v,o.data≠.cell v
 keep:∀i h h',tn i h->(∀b∈fp,∀o,h.get? b=some o->h'.get? b=some o)->tn i h'
 item:∀(X:Cx),X.prog=P->X.w=w->X.K=K->X.calm=true->∀(i:Nat)(pins:List (Addr×Obj))(s:Shared)(σ:St)(H:Hp)(E:Value->Shared->Prop),Inv X pins σ H s->(∀b∈fp,pI X pins H b)->tn i s.heap->J.go i H->
  wpAny (model P w) X.A (pyNext (.ref it)) (λr s1=>∃u,r=some u/\
   wpAny (model P w) X.A (letOwnedTupleGo tg (.ref it) u) (λ_ s2=>∃x H',Inv X pins σ H' s2/\RelV x u/\J.yld i H x H'/\tn (i+1) s2.heap/\∀b∈fp,H' b=none) E s1) E s
 done:∀(X:Cx),X.prog=P->X.w=w->X.K=K->X.calm=true->∀(i:Nat)(pins:List (Addr×Obj))(s:Shared)(σ:St)(H:Hp)(E:Value->Shared->Prop),Inv X pins σ H s->(∀b∈fp,pI X pins H b)->tn i s.heap->J.stop i H->
  wpAny (model P w) X.A (pyNext (.ref it)) (λr s1=>r=none/\Inv X pins σ H s1) E s
 self:∀(A:Around)(i:Nat)(s:Shared)(Q:Value->Shared->Prop)(E:Value->Shared->Prop),tn i s.heap->Q (.ref it) s->wpAny (model P w) A (pyIter (.ref it)) Q E s
noncomputable abbrev TI:=St->Hp->(It->Hp->Prop)->Prop
noncomputable def PIE(X:Cx)(pins:List (Addr×Obj))(σ:St)(tg:Expr)(R:It->Hp->Prop)(itv:Value)(s2:Shared):Prop:=
 ∃(it:Addr)(fp:List Addr)(tn:Nat->Heap->Prop)(J:It)(H':Hp),itv=.ref it/\Inv X pins σ H' s2/\Turn X.prog X.w X.K tg J fp it tn/\tn 0 s2.heap/\(∀b∈fp,pI X pins H' b)/\R J H'
noncomputable def PI(X:Cx)(tg iter:Expr)(wi:TI):Prop:=
 ∀(pins:List (Addr×Obj))(s:Shared)(σ:St)(H:Hp)(R:It->Hp->Prop),Inv X pins σ H s->wi σ H R->
  wpAny (model X.prog X.w) X.A (eval iter X.env) (λv s1=>wpAny (model X.prog X.w) X.A (pyIter v) (PIE X pins σ tg R) X.xe s1) X.xe s
def yD{M : Model}{A : Around}{u : Value}{n : String}{vs : Array Value}{Q : Unit -> Shared -> Prop}(ho : s.heap.get? it = some o)(hc : o.cls = .type n)(hd : o.data = .fields vs)(hn : ["enumerate", "zip", "dict_itemiterator", "dict_reverseitemiterator", "odict_iterator", "itertools.zip_longest", "itertools.pairwise"].contains n = false)(hQ : Q () s): wpAny M A (letOwnedTupleGo tg (.ref it) u) Q E s := by
  unfold letOwnedTupleGo;cases tg <;> first
    |exact y9 hQ
    | (cases u <;> first
        |exact y9 hQ
        | (refine y8 (wpAny_load ho ?_)
           rw[hc, hd];show wpAny M A (if (["enumerate", "zip", "dict_itemiterator", "dict_reverseitemiterator", "odict_iterator", "itertools.zip_longest", "itertools.pairwise"].contains n && vs[0]? == some (rawInt _)) = true then _ else _) Q E s;rw[if_neg (by intro h; rw[hn, iD]at h; cases h)];exact y9 hQ))

noncomputable def Itl(K:W.Frag)(a:Addr):It:=
 ⟨λi H=>∃xs x,SqL K H a xs/\xs[i]?=some x,λi H x H'=>H'=H/\∀xs,SqL K H a xs->xs[i]?=some x,λi H=>∃xs,SqL K H a xs/\xs.length<=i⟩
noncomputable def Itt(K:W.Frag)(a:Addr):It:=
 ⟨λi H=>∃xs x,SqT K H a xs/\xs[i]?=some x,λi H x H'=>H'=H/\∀xs,SqT K H a xs->xs[i]?=some x,λi H=>∃xs,SqT K H a xs/\xs.length<=i⟩
noncomputable def Itr(lo:Int)(n:Nat):It:=⟨λi _=>i<n,λi H x H'=>H'=H/\x=.int (lo+i),λi _=>n<=i⟩
def Ba{w:World}{K:W.Frag}(a it:Addr):Turn P w K tg (Itl K a) [it] it (λi h=>h.IsListIter it a i) where
 mem:=by simp
 obj:=λi h st b hb=>by
  have e:b=it:=by simpa using hb
  subst e;obtain⟨o,e,c,d⟩:=st;exact⟨o,e,λv z=>by rw[d]at z;cases z⟩
 keep:=λi h h' st k=>st.at λo e=>k it (by simp) o e
 item:=by intro X hP hw hK hc i pins s σ H E I hf st hg;subst hP hw hK;obtain⟨xs,x,hq,hx⟩:=hg;obtain⟨its,rv,p,hz⟩:=I.list hq;obtain⟨u,hu,ru⟩:=rv.get hx;obtain⟨f0,f1,f2,f3,f4,f5⟩:=hf it (by simp);refine wpAny_pyNext_list_item st p.isList (x:=u) (by simpa using hu) λh' st' sb=>?_;have I1:Inv X pins σ H { s with heap:=h' }:=I.turned (t':=s.toks) (λb o hb e=>(sb.2 b hb).trans e) f0 f1 f3 f4 f5;obtain⟨o,e,c,d⟩:=id st';exact⟨u,rfl,yD (s:={ s with heap:=h' }) e c d (by decide) ⟨x,H,I1,ru,⟨rfl,λys hy=>by rw[I.list_inj hy hq];exact hx⟩,st',λb hb=>(hf b hb).1⟩⟩
 done:=by intro X hP hw hK hc i pins s σ H E I hf st hg;subst hP hw hK;obtain⟨xs,hq,hx⟩:=hg;obtain⟨its,rv,p,hz⟩:=I.list hq;obtain⟨f0,f1,f2,f3,f4,f5⟩:=hf it (by simp);have hl:=rv.length;exact wpAny_pyNext_list_end (I.ok.hd hc) st p.isList (by simp;omega) λh' eb=>⟨rfl,I.turned (t':=s.toks) (λb o hb e=>eb b o hb e) f0 f1 f3 f4 f5⟩
 self:=λ_ _ _ _ _ st h=>wpAny_pyIter_listiter st h
def yc{w:World}{K:W.Frag}(a it:Addr):Turn P w K tg (Itt K a) [it] it (λi h=>h.IsTupleIter it a i) where
 mem:=by simp
 obj:=λi h st b hb=>by
  have e:b=it:=by simpa using hb
  subst e;obtain⟨o,e,c,d⟩:=st;exact⟨o,e,λv z=>by rw[d]at z;cases z⟩
 keep:=λi h h' st k=>st.at λo e=>k it (by simp) o e
 item:=by intro X hP hw hK hc i pins s σ H E I hf st hg;subst hP hw hK;obtain⟨xs,x,hq,hx⟩:=hg;obtain⟨its,rv,p,hz⟩:=I.tuple hq;obtain⟨u,hu,ru⟩:=rv.get hx;obtain⟨f0,f1,f2,f3,f4,f5⟩:=hf it (by simp);refine wpAny_pyNext_tuple_item st (show s.heap.IsTuple a its.toArray from p) (x:=u) (by simpa using hu) λh' st' sb=>?_;have I1:Inv X pins σ H { s with heap:=h' }:=I.turned (t':=s.toks) (λb o hb e=>(sb.2 b hb).trans e) f0 f1 f3 f4 f5;obtain⟨o,e,c,d⟩:=id st';exact⟨u,rfl,yD (s:={ s with heap:=h' }) e c d (by decide) ⟨x,H,I1,ru,⟨rfl,λys hy=>by rw[I.tuple_inj hy hq];exact hx⟩,st',λb hb=>(hf b hb).1⟩⟩
 done:=by intro X hP hw hK hc i pins s σ H E I hf st hg;subst hP hw hK;obtain⟨xs,hq,hx⟩:=hg;obtain⟨its,rv,p,hz⟩:=I.tuple hq;obtain⟨f0,f1,f2,f3,f4,f5⟩:=hf it (by simp);have hl:=rv.length;exact wpAny_pyNext_tuple_end (I.ok.hd hc) st (show s.heap.IsTuple a its.toArray from p) (by simp;omega) λh' eb=>⟨rfl,I.turned (t':=s.toks) (λb o hb e=>eb b o hb e) f0 f1 f3 f4 f5⟩
 self:=λ_ _ _ _ _ st h=>wpAny_pyIter_tupleiter st h
def xU{w:World}{K:W.Frag}(it:Addr)(lo:Int)(n:Nat):Turn P w K tg (Itr lo n) [it] it (λi h=>IsRangeIter h it (lo+(i:Nat) * 1) ((n:Int) - (i:Nat)) 1) where
 mem:=by simp
 obj:=λi h st b hb=>by
  have e:b=it:=by simpa using hb
  subst e;exact⟨_,st,λv z=>by have z':Data.fields _=Data.cell v:=z;cases z'⟩
 keep:=λi h h' st k=>k it (by simp) _ st
 item:=by intro X hP hw hK hc i pins s σ H E I hf st hg;subst hP hw hK;obtain⟨f0,f1,f2,f3,f4,f5⟩:=hf it (by simp);have W:=Walks.range (prog:=X.prog) (w:=X.w) (I.ok.hd hc) it lo 1 n;refine W.item i s _ _ hg st λv h' tk hv st' kk=>?_;obtain⟨t,rfl⟩:=hv;have I1:Inv X pins σ H { s with heap:=h',toks:=tk }:=I.turned (λb o hb e=>kk b o (by simpa using hb) e) f0 f1 f3 f4 f5;refine⟨_,rfl,yD (s:={ s with heap:=h',toks:=tk }) (n:="range_iterator") st' rfl rfl (by decide) ⟨.int (lo+i),H,I1,⟨t,?_⟩,⟨rfl,rfl⟩,st',λb hb=>(hf b hb).1⟩⟩;rw[Int.mul_one]
 done:=by intro X hP hw hK hc i pins s σ H E I hf st hg;subst hP hw hK;obtain⟨f0,f1,f2,f3,f4,f5⟩:=hf it (by simp);exact wpAny_pyNext_range_end (I.ok.hd hc) st (by have:n<=i:=hg;omega) λh' eb=>⟨rfl,I.turned (t':=s.toks) (λb o hb e=>eb b o hb e) f0 f1 f3 f4 f5⟩
 self:=λ_ _ _ _ _ st h=>wpAny_pyIter_rangeiter st h
section
def vU{R:It->Hp->Prop}{lo hi:Int}{t u v:Tok}{tk:Nat}(I:Inv X pins σ H s)(h1 : -(2 ^ 62)<=lo)(h2:lo<2 ^ 62)(h3 : -(2 ^ 62)<=hi)(h4:hi<2 ^ 62)(q:R (Itr lo (hi - lo).toNat) H):wpAny (model X.prog X.w) X.A (pyIter (.ref s.heap.objs.size)) (PIE X pins σ tg R) E { s with heap:=s.heap.push { cls:=.type "range",data:=.fields #[.int lo t,.int hi u,.int 1 v] },toks:=tk }:=by
 refine wpAny_pyIter_range (IsRange.new ..) (small_one h1 h2 h3 h4) ?_;have I1:Inv X pins σ H { s with heap:=s.heap.push { cls:=.type "range",data:=.fields #[.int lo t,.int hi u,.int 1 v] },toks:=tk }:=I.kept λb o e=>yq _ e;refine⟨(s.heap.push { cls:=.type "range",data:=.fields #[.int lo t,.int hi u,.int 1 v] }).objs.size,[(s.heap.push { cls:=.type "range",data:=.fields #[.int lo t,.int hi u,.int 1 v] }).objs.size],_,_,H,rfl,
  I1.kept (t':=tk) λb o e=>yq _ e,xU _ lo (hi - lo).toNat,?_,λb hb=>?_,q⟩
 ·have e1:lo+((0:Nat):Int) * 1=lo:=by simp
  have e2:(((hi - lo).toNat:Nat):Int) - ((0:Nat):Int)=Builtin.Range.rangeSize lo hi 1:=by rw[rangeSize_one];split <;> omega
  show IsRangeIter _ _ (lo+((0:Nat):Int) * 1) ((((hi - lo).toNat:Nat):Int) - ((0:Nat):Int)) 1;rw[e1,e2];exact w6 _ rfl
 ·have e:b=(s.heap.push { cls:=.type "range",data:=.fields #[.int lo t,.int hi u,.int 1 v] }).objs.size:=by simpa using hb
  subst e;exact I1.fpOk (yh _) (I1.hok.fresh (yh _))
noncomputable def Li(ta:TA):TI:=λσ H R=>ta σ H λvs H1=>∃j:Int,vs=[.int j]/\-(2 ^ 62)<=j/\j<2 ^ 62/\R (Itr 0 j.toNat) H1
noncomputable def KB(ta:TA):TI:=λσ H R=>ta σ H λvs H1=>∃i j:Int,vs=[.int i,.int j]/\(-(2 ^ 62)<=i/\i<2 ^ 62/\-(2 ^ 62)<=j/\j<2 ^ 62)/\R (Itr i (j - i).toNat) H1
def Bi{a:Expr}{ta:TA}(hg:Gl X "range")(hm:X.mg "range"=none)(ha:PA X [a] ta)(hs:starEach [a] X.env=[(false,eval a X.env)]:=by rfl):PI X tg (.Call (.Name "range" p) [a] [] pos) (Li ta):=by
 intro pins s σ H R I h;refine Call_ (nT I hg hm boot_range (callWith_type1 (thn (ha pos pins s σ H _ I h) λus s1 ⟨vs,H1,I1,r1,q1⟩=>?_) hs rfl));obtain⟨j,e,q1,q2,q⟩:=q1;subst e;cases r1 with
 |cons r rr=>cases rr;obtain⟨t,rfl⟩:=r;exact call_range_1 (vU I1 (by omega) (by omega) q1 q2 (by simpa using q))
def yA{a b:Expr}{ta:TA}(hg:Gl X "range")(hm:X.mg "range"=none)(ha:PA X [a,b] ta)(hs:starEach [a,b] X.env=[(false,eval a X.env),(false,eval b X.env)]:=by rfl)(hs2:starEach [b] X.env=[(false,eval b X.env)]:=by rfl):
  PI X tg (.Call (.Name "range" p) [a,b] [] pos) (KB ta):=by
 intro pins s σ H R I h;refine Call_ (nT I hg hm boot_range (callWith_type1 (thn (ha pos pins s σ H _ I h) λus s1 ⟨vs,H1,I1,r1,q1⟩=>?_) (by rw[hs,hs2]) (by rw[hs2];rfl)));obtain⟨i,j,e,⟨q1,q2,q3,q4⟩,q⟩:=q1;subst e;cases r1 with
 |cons r rr=>
  cases rr with
  |cons r' rr=>cases rr;obtain⟨t,rfl⟩:=r;obtain⟨t',rfl⟩:=r';exact call_range_2 (vU I1 q1 q2 q3 q4 q)
noncomputable def M1(wi:TI)(g:TG)(tb:TS):TS:=λD σ H=>wi σ H λJ H1=>∃W:Nat->Nat->St->Hp->Prop,(∃m,W 0 m σ H1)/\∀i m σ H,W i m σ H->
 (J.stop i H/\D.nx σ H)\/(J.go i H/\∃N:St->Hp->Prop,(∀σ' H',N σ' H'->∃m',m'<m/\W (i+1) m' σ' H')/\∀x H',J.yld i H x H'->g x σ H' λσ2 H2=>tb { D with nx:=N,ct:=N,bk:=D.nx } σ2 H2)
noncomputable def sV(fp:List Addr)(h:Heap):List (Addr×Obj):=fp.filterMap λb=>(h.get? b).map λo=>(b,o)
def kz{b:Addr}(hb:b∈fp)(e:h.get? b=some o):(b,o)∈sV fp h:=j1.mpr ⟨b,hb,by rw[e];rfl⟩
def yI{p:Addr×Obj}(hp:p∈sV fp h):p.1∈fp/\h.get? p.1=some p.2:=by
 obtain⟨b,hb,e⟩:=j1.mp hp;cases q:h.get? b with
 |none=>rw[q]at e;cases e
 |some o=>rw[q]at e;have e':(b,o)=p:=xV e;subst e';exact⟨hb,q⟩
def Inv.pinned(I:Inv X pins σ H s)(hf:∀b∈fp,pI X pins H b)(ho:∀b∈fp,∃o,s.heap.get? b=some o/\∀v,o.data≠.cell v):Inv X (pins++sV fp s.heap) σ H s:=
 I.pins_of λp hp=>(q9.mp hp).elim (λz=>I.pin p (o5 _ z)) λz=>by obtain⟨hb,e⟩:=yI z;obtain⟨f0,f1,f2,_⟩:=hf p.1 hb;obtain⟨o,e',d⟩:=ho p.1 hb;rw[e]at e';cases e';exact⟨e,f0,f1,f2,d⟩
def Inv.unpinned{pl:List (Addr×Obj)}(I:Inv X (pins++pl) σ H s):Inv X pins σ H s:=I.pins_of λp hp=>I.pin p (o5 _ (Z0 _ hp))
def Ec{wi:TI}{g:TG}{tb:TS}(hp:PassesOwn (model X.prog X.w) X.A X.env X.xe)(hc:X.calm=true)(hi:PI X tg iter wi)(hg:PG X tg g)(hb:PSs X body tb)(hs:∀x,foldedSetIterable iter X.env x=pure x:=by intro _;rfl):PS X (.For tg iter body [] pos) (M1 wi g tb):=by
 intro pins s σ H D I h;refine wpAny_For (thn (hi pins s σ H _ I h) λv s1 h1=>thn h1 λitv s2 h2=>?_) hs;obtain⟨it,fp,tn,J,H2,e,I2,T,st2,f2,W,⟨m0,w0⟩,Hi⟩:=h2;subst e;have stat:∀{H':Hp},(∀b∈fp,H' b=none)->∀b∈fp,pI X pins H' b:=λhn b hb=>⟨hn b hb,(f2 b hb).2⟩
 refine codeAny_forLoop_any (λn s'=>∃i σ' H',Inv X pins σ' H' s'/\tn i s'.heap/\(∀b∈fp,H' b=none)/\W i n σ' H') ?_ m0 ⟨0,σ,H2,I2,st2,λb hb=>(f2 b hb).1,w0⟩;rintro n s3 ⟨i,σ3,H3,I3,st3,fr3,w3⟩;rcases Hi i n σ3 H3 w3 with⟨stop,qn⟩|⟨go,N,hN,step⟩
 ·refine j2 hp (thn (T.done X rfl rfl rfl hc i pins s3 σ3 H3 X.xe I3 (stat fr3) st3 stop) λr s4 ⟨hr,I4⟩=>?_);subst hr;exact Z1 ⟨σ3,H3,I4,qn⟩
 ·refine j2 hp (thn (T.item X rfl rfl rfl hc i pins s3 σ3 H3 X.xe I3 (stat fr3) st3 go) λr s4 ⟨u,hr,h4⟩=>?_);subst hr;refine j2 hp (thn h4 λ_ s5 ⟨x,H5,I5,r5,y5,st5,fr5⟩=>?_);have I5':=I5.pinned (stat fr5) (T.obj _ _ st5);refine j2 hp (thn (hg _ s5 σ3 H5 x u _ I5' r5 (step x H5 y5)) λ_ s6 ⟨σ6,H6,I6,q6⟩=>?_);refine j2 hp (thn (hb _ s6 σ6 H6 _ I6 q6) λf s7 q7=>?_);have again:∀{σ7:St}{H7:Hp},Inv X (pins++sV fp s5.heap) σ7 H7 s7->N σ7 H7->∃m,m<n/\∃i σ' H',Inv X pins σ' H' s7/\tn i s7.heap/\(∀b∈fp,H' b=none)/\W i m σ' H':=λ{σ7 H7} I7 n7=>by obtain⟨m',hm,w7⟩:=hN σ7 H7 n7;refine⟨m',hm,i+1,σ7,H7,I7.unpinned,T.keep _ _ _ st5 λb hb o e=>(I7.pin (b,o) (o5 _ (o5 _ (kz hb e)))).1,λb hb=>?_,w7⟩;obtain⟨o,e,d⟩:=T.obj _ _ st5 b hb;exact(I7.pin (b,o) (o5 _ (o5 _ (kz hb e)))).2.1
  cases f with
  |next=>obtain⟨σ7,H7,I7,n7⟩:=q7;exact again I7 n7
  |cont=>obtain⟨σ7,H7,I7,n7⟩:=q7;exact again I7 n7
  |brk=>obtain⟨σ7,H7,I7,q7⟩:=q7;exact⟨σ7,H7,I7.unpinned,q7⟩
  |ret v=>obtain⟨x7,σ7,H7,I7,r7,q7⟩:=q7;exact⟨x7,σ7,H7,I7.unpinned,r7,q7⟩
end
noncomputable abbrev R2:=V->V->Hp->VK->Prop
noncomputable def OpR(X:Cx)(f:Value->Value->Sem Value)(r:R2):Prop:=
 ∀(pins:List (Addr×Obj))(s:Shared)(σ:St)(H:Hp)(x y:V)(v u:Value)(Q:VK),Inv X pins σ H s->RelV x v->RelV y u->r x y H Q->
  wpAny (model X.prog X.w) X.A (f v u) (EP X pins σ Q) X.xe s
noncomputable def UnR(X:Cx)(f:Value->Sem Value)(r:V->Hp->VK->Prop):Prop:=
 ∀(pins:List (Addr×Obj))(s:Shared)(σ:St)(H:Hp)(x:V)(v:Value)(Q:VK),Inv X pins σ H s->RelV x v->r x H Q->
  wpAny (model X.prog X.w) X.A (f v) (EP X pins σ Q) X.xe s
noncomputable def kg(X:Cx)(f:Value)(r:List V->Hp->VK->Prop):Prop:=
 ∀(pins:List (Addr×Obj))(s:Shared)(σ:St)(H:Hp)(xs:List V)(us:List Value)(Q:VK),Inv X pins σ H s->Vals xs us->r xs H Q->
  wpAny (model X.prog X.w) X.A (call f us) (EP X pins σ Q) X.xe s
noncomputable def M0(X:Cx)(r:V->Hp->(Bool->Hp->Prop)->Prop):Prop:=
 ∀(pins:List (Addr×Obj))(s:Shared)(σ:St)(H:Hp)(x:V)(v:Value)(Q:Bool->Hp->Prop),Inv X pins σ H s->RelV x v->r x H Q->
  wpAny (model X.prog X.w) X.A (truthy v) (TP X pins σ Q) X.xe s
noncomputable def tOp(r:R2)(ta tb:TE):TE:=λσ H Q=>ta σ H λx H1=>tb σ H1 λy H2=>r x y H2 Q
noncomputable def tUn(r:V->Hp->VK->Prop)(ta:TE):TE:=λσ H Q=>ta σ H λx H1=>r x H1 Q
noncomputable def rI(C:Int->Int->Prop)(g:Int->Int->V):R2:=λx y H Q=>∃i j,x=.int i/\y=.int j/\C i j/\Q (g i j) H
noncomputable def rI0(g:Int->Int->V):R2:=λx y H Q=>∃i j,x=.int i/\y=.int j/\Q (g i j) H
noncomputable def rU(g:Int->V):V->Hp->VK->Prop:=λx H Q=>∃i,x=.int i/\Q (g i) H
section
variable{a b c:Expr}{ta tb tc:TE}
def Lx(ha:PE X a ta)(hb:PE X b tb){R:V->V->Hp->Prop}(I:Inv X pins σ H s)(h:ta σ H λx H1=>tb σ H1 λy H2=>R x y H2){Q:Value->Shared->Prop}{f:Value->Value->Sem Value}(hf:∀v u s2 x y H2,Inv X pins σ H2 s2->RelV x v->RelV y u->R x y H2->wpAny (model X.prog X.w) X.A (f v u) Q X.xe s2):
  wpAny (model X.prog X.w) X.A (eval a X.env) (λv s₁=>wpAny (model X.prog X.w) X.A (eval b X.env) (λu s₂=>wpAny (model X.prog X.w) X.A (f v u) Q X.xe s₂) X.xe s₁) X.xe s:=by
 refine thn (ha pins s σ H _ I h) λv s1 ⟨x,H1,I1,r1,q1⟩=>?_;refine thn (hb pins s1 σ H1 _ I1 q1) λu s2 ⟨y,H2,I2,r2,q2⟩=>?_;exact hf v u s2 x y H2 I2 r1 r2 q2
def Jq{op:Operator}{r:R2}(ho:OpR X (binaryOp op) r)(ha:PE X a ta)(hb:PE X b tb):PE X (.BinOp a op b pos) (tOp r ta tb):=by intro pins s σ H Q I h;exact wpAny_BinOp (Lx ha hb I h λv u s2 x y H2 I2 rx ry q=>ho pins s2 σ H2 x y v u Q I2 rx ry q)
def L1{op:UnaryOp}{r:V->Hp->VK->Prop}(ho:UnR X (unaryOp op) r)(ha:PE X a ta):PE X (.UnaryOp op a pos) (tUn r ta):=by intro pins s σ H Q I h;exact UnaryOp_ (thn (ha pins s σ H _ I h) λv s1 ⟨x,H1,I1,r1,q1⟩=>ho pins s1 σ H1 x v Q I1 r1 q1)
def opI{f:Value->Value->Sem Value}{C:Int->Int->Prop}{g:Int->Int->Int}(rule:∀(i j:Int)(t u:Tok)(s:Shared)(Q:Value->Shared->Prop)(E:Value->Shared->Prop),C i j->Q (.int (g i j) s.toks) { s with toks:=s.toks+1 }->wpAny (model X.prog X.w) X.A (f (.int i t) (.int j u)) Q E s):
  OpR X f (rI C λi j=>.int (g i j)):=by
 intro pins s σ H x y v u Q I rx ry h;obtain⟨i,j,rfl,rfl,hc,q⟩:=h;obtain⟨t,rfl⟩:=rx;obtain⟨t',rfl⟩:=ry;exact rule i j t t' s _ _ hc ⟨.int (g i j),H,I.tok _,⟨_,rfl⟩,q⟩
def MC{f:Value->Value->Sem Value}{g:Int->Int->Int}(rule:∀(i j:Int)(t u:Tok)(s:Shared)(Q:Value->Shared->Prop)(E:Value->Shared->Prop),Q (.int (g i j) s.toks) { s with toks:=s.toks+1 }->wpAny (model X.prog X.w) X.A (f (.int i t) (.int j u)) Q E s):
  OpR X f (rI0 λi j=>.int (g i j)):=by
 intro pins s σ H x y v u Q I rx ry h;obtain⟨i,j,rfl,rfl,q⟩:=h;obtain⟨t,rfl⟩:=rx;obtain⟨t',rfl⟩:=ry;exact rule i j t t' s _ _ ⟨.int (g i j),H,I.tok _,⟨_,rfl⟩,q⟩
def L9{f:Value->Value->Sem Value}{g:Int->Int->Bool}(rule:∀(i j:Int)(t u:Tok)(s:Shared)(Q:Value->Shared->Prop)(E:Value->Shared->Prop),Q (.bool (g i j)) s->wpAny (model X.prog X.w) X.A (f (.int i t) (.int j u)) Q E s):
  OpR X f (rI0 λi j=>.bl (g i j)):=by
 intro pins s σ H x y v u Q I rx ry h;obtain⟨i,j,rfl,rfl,q⟩:=h;obtain⟨t,rfl⟩:=rx;obtain⟨t',rfl⟩:=ry;exact rule i j t t' s _ _ ⟨.bl (g i j),H,I,rfl,q⟩
noncomputable def Ob(i j:Int):Prop:=0<j/\j<1073741824
noncomputable def CMul(i j:Int):Prop:=(-(2 ^ 64)<i/\i<2 ^ 64)\/(-(2 ^ 64)<j/\j<2 ^ 64)
def CMul.ok{i j:Int}(h:CMul i j):IntMulOk i j:=by
 rcases h with⟨h1,h2⟩|⟨h1,h2⟩;·exact .of_left (intBits_le_64 h1 h2)
 ·exact .of_right (intBits_le_64 h1 h2)
def op_add:OpR X (binaryOp .Add) (rI0 λi j=>.int (i+j)):=MC λ_ _ _ _ _ _ _ q=>add_int q
def J4:OpR X (binaryOp .Sub) (rI0 λi j=>.int (i - j)):=MC λ_ _ _ _ _ _ _ q=>sub_int q
def op_mul:OpR X (binaryOp .Mult) (rI CMul λi j=>.int (i * j)):=opI λ_ _ _ _ _ _ _ hc q=>mul_int q hc.ok
def Gs:OpR X (binaryOp .FloorDiv) (rI Ob λi j=>.int (i / j)):=opI λi j _ _ _ _ _ hc q=>by have h1:(0:Int)<j:=hc.1;have h2:j<1073741824:=hc.2;exact floordiv_int (by omega) (by rw[Int.fdiv_eq_ediv_of_nonneg i (by omega)];exact q) (.inl (PyProof.noPylong_small (by omega)))
def H8:OpR X (binaryOp .Mod) (rI (λ_ j=>0<j) λi j=>.int (i % j)):=opI λi j _ _ _ _ _ hc q=>by have h1:(0:Int)<j:=hc;exact mod_int' (by omega) (by rw[Int.fmod_eq_emod_of_nonneg i (by omega)];exact q)
def unI{f:Value->Sem Value}{g:Int->Int}(rule:∀(i:Int)(t:Tok)(s:Shared)(Q:Value->Shared->Prop)(E:Value->Shared->Prop),Q (.int (g i) s.toks) { s with toks:=s.toks+1 }->wpAny (model X.prog X.w) X.A (f (.int i t)) Q E s):
  UnR X f (rU λi=>.int (g i)):=by
 intro pins s σ H x v Q I rx h;obtain⟨i,rfl,q⟩:=h;obtain⟨t,rfl⟩:=rx;exact rule i t s _ _ ⟨.int (g i),H,I.tok _,⟨_,rfl⟩,q⟩
def Ju:UnR X (unaryOp .USub) (rU λi=>.int (-i)):=unI λ_ _ _ _ _ q=>neg_int q
end
section
variable{a b c:Expr}{ta tb tc:TE}
def yX{Q:VK}{k k':Bool}(I:Inv X pins σ H s)(q:Q (.bl k) H)(e:k=k'):EP X pins σ Q (.bool k') s:=by subst e;exact⟨.bl k,H,I,rfl,q⟩
def op_lt:OpR X (compareOp .Lt) (rI0 λi j=>.bl (decide (i<j))):=L9 λ_ _ _ _ _ _ _ q=>lt_int q
def op_le:OpR X (compareOp .LtE) (rI0 λi j=>.bl (decide (i<=j))):=L9 λ_ _ _ _ _ _ _ q=>le_int q
def Kw:OpR X (compareOp .Gt) (rI0 λi j=>.bl (decide (j<i))):=L9 λ_ _ _ _ _ _ _ q=>gt_int q
def zL:OpR X (compareOp .Lt) (λx y H Q=>∃i j,x=.str i/\y=.str j/\Q (.bl (decide (i.cps.toList<j.cps.toList))) H):=by intro pins s σ H x y v u Q I rx ry h;obtain⟨i,j,rfl,rfl,q⟩:=h;obtain⟨t,rfl⟩:=rx;obtain⟨t',rfl⟩:=ry;exact lt_str (yX I q rfl)
def op_isN:OpR X (compareOp .Is) (λx y H Q=>y=.non/\Q (.bl (decide (x=.non))) H):=by
 intro pins s σ H x y v u Q I rx ry h;obtain⟨rfl,q⟩:=h;cases ry;refine is_none_gen (yX I q ?_);cases x <;> first
  | (cases rx;rfl)
  | (obtain⟨t,rfl⟩:=rx;rfl)
def OpR.or{f:Value->Value->Sem Value}{r r':R2}(h:OpR X f r)(h':OpR X f r'):OpR X f (λx y H Q=>r x y H Q\/r' x y H Q):=by
 intro pins s σ H x y v u Q I rx ry q;rcases q with q|q;·exact h pins s σ H x y v u Q I rx ry q
 ·exact h' pins s σ H x y v u Q I rx ry q
def jF(b:Expr){op:CmpOp}(h:op≠.In:=by decide)(h2:op≠.NotIn:=by decide):behindInMarks op b=false:=by
 have e1:(op==CmpOp.In)=false:=by cases op <;> first|rfl|exact absurd rfl h
 have e2:(op==CmpOp.NotIn)=false:=by cases op <;> first|rfl|exact absurd rfl h2
 cases b <;> simp[behindInMarks,e1,e2]
def Aj{op:CmpOp}{r:R2}(ho:OpR X (compareOp op) r)(ha:PE X a ta)(hb:PE X b tb)(hm:behindInMarks op b=false):PE X (.Compare a [op] [b] pos) (tOp r ta tb):=by intro pins s σ H Q I h;exact wpAny_Compare1 (Lx ha hb I h λv u s2 x y H2 I2 rx ry q=>ho pins s2 σ H2 x y v u Q I2 rx ry q) hm
noncomputable def F6(t:TE):TT:=λσ H Q=>t σ H λx H'=>∃k,x=.bl k/\Q k H'
def vy{op:CmpOp}{r:R2}(ho:OpR X (compareOp op) r)(ha:PE X a ta)(hb:PE X b tb)(hm:behindInMarks op b=false):PT X (.Compare a [op] [b] pos) (F6 (tOp r ta tb)):=by intro pins s σ H Q I h;refine wpAny_isTrue_Compare1 (thn (ha pins s σ H _ I h) λv s1 ⟨x,H1,I1,r1,q1⟩=>thn (hb pins s1 σ H1 _ I1 q1) λu s2 ⟨y,H2,I2,r2,q2⟩=>thn (ho pins s2 σ H2 x y v u _ I2 r1 r2 q2) λc s3 ⟨z,H3,I3,r3,k,e,q3⟩=>?_) hm;subst e;cases r3;exact sJ ⟨H3,I3,q3⟩
noncomputable def DT(r r':R2)(ta tb tc:TE):TE:=λσ H Q=>ta σ H λx H1=>tb σ H1 λy H2=>r x y H2 λz H3=>∃k,z=.bl k/\
 (if k=true then tc σ H3 λw' H4=>r' y w' H4 Q else Q (.bl false) H3)
def BS{op op':CmpOp}{r r':R2}(ho:OpR X (compareOp op) r)(ho':OpR X (compareOp op') r')(ha:PE X a ta)(hb:PE X b tb)(hc:PE X c tc)(hm:lastMarks [op,op'] [b,c]=false:=by with_unfolding_all rfl):PE X (.Compare a [op,op'] [b,c] pos) (DT r r' ta tb tc):=by
 intro pins s σ H Q I h;refine Compare_chain (thn (ha pins s σ H _ I h) λv s1 ⟨x,H1,I1,r1,q1⟩=>chain_link (thn (hb pins s1 σ H1 _ I1 q1) λu s2 ⟨y,H2,I2,r2,q2⟩=>thn (ho pins s2 σ H2 x y v u _ I2 r1 r2 q2) λd s3 ⟨z,H3,I3,r3,k,e,q3⟩=>?_)) hm;subst e;cases r3;refine sJ ?_;cases k with
 |false=>exact ite_ff ⟨.bl false,H3,I3,rfl,q3⟩
 |true=>exact ite_tt (chain_last (thn (hc pins s3 σ H3 _ I3 q3) λw' s4 ⟨z',H4,I4,r4,q4⟩=>ho' pins s4 σ H4 y z' u w' Q I4 r2 r4 q4))
def CD{op op':CmpOp}{r r':R2}(ho:OpR X (compareOp op) r)(ho':OpR X (compareOp op') r')(ha:PE X a ta)(hb:PE X b tb)(hc:PE X c tc)(hm:lastMarks [op,op'] [b,c]=false:=by with_unfolding_all rfl):PT X (.Compare a [op,op'] [b,c] pos) (F6 (DT r r' ta tb tc)):=by
 intro pins s σ H Q I h;refine isTrue_chain (thn (ha pins s σ H _ I h) λv s1 ⟨x,H1,I1,r1,q1⟩=>test_link (thn (hb pins s1 σ H1 _ I1 q1) λu s2 ⟨y,H2,I2,r2,q2⟩=>thn (ho pins s2 σ H2 x y v u _ I2 r1 r2 q2) λd s3 ⟨z,H3,I3,r3,k,e,q3⟩=>?_)) hm;subst e;cases r3;refine sJ ?_;cases k with
 |false=>obtain⟨k',e',q'⟩:=q3;cases e';exact ite_ff ⟨H3,I3,q'⟩
 |true=>refine ite_tt (test_last (thn (hc pins s3 σ H3 _ I3 q3) λw' s4 ⟨z',H4,I4,r4,q4⟩=>thn (ho' pins s4 σ H4 y z' u w' _ I4 r2 r4 q4) λd' s5 ⟨z2,H5,I5,r5,k2,e2,q5⟩=>?_));subst e2;cases r5;exact sJ ⟨H5,I5,q5⟩
noncomputable def MU(K:W.Frag)(x:V)(H:Hp)(k:Bool):Prop:=
 match x with
 |.non=>k=false
 |.bl b=>k=b
 |.int i=>k=(i != 0)
 |.str y=>y.length<=sizeLine/\k=((y.length:Int) != 0)
 |.byt y=>y.size<=sizeLine/\k=((y.size:Int) != 0)
 |.ref p=>(∃xs,SqL K H p xs/\k = !xs.isEmpty)\/(∃xs,SqT K H p xs/\k = !xs.isEmpty)\/∃kvs,H p=some (.dK kvs)/\k = !kvs.isEmpty
 |_=>False
def yg{κ:Type}{kvs:List (κ×V)}{vs:List (κ×Value)}(r:KV kvs vs):(!vs.isEmpty) = !kvs.isEmpty:=by cases r <;> rfl
def oS(r:Vals xs its):(!its.toArray.isEmpty) = !xs.isEmpty:=by cases r <;> simp
def pB:(sizeLine:Nat)<2 ^ 63:=by rw[iF];decide
def IL:M0 X (λx H Q=>∃k,MU X.K x H k/\Q k H):=by
 intro pins s σ H x v Q I rx h;obtain⟨k,e,q⟩:=h;have hl:=pB;have hs:sizeLine=16777216:=iF;cases x with
 |non=>cases rx;have e':k=false:=e;subst e';exact truthy_none ⟨H,I,q⟩
 |bl b=>cases rx;have e':k=b:=e;subst e';exact sJ ⟨H,I,q⟩
 |int i=>obtain⟨t,rfl⟩:=rx;have e':k=(i != 0):=e;subst e';exact PySem.P.truthy_int ⟨H,I,q⟩
 |str y=>obtain⟨t,rfl⟩:=rx;obtain⟨hy,e'⟩:y.length<=sizeLine/\k=((y.length:Int) != 0):=e;subst e';exact PySem.P.truthy_str (by omega) ⟨H,I.tok _,q⟩
 |byt y=>obtain⟨t,rfl⟩:=rx;obtain⟨hy,e'⟩:y.size<=sizeLine/\k=((y.size:Int) != 0):=e;subst e';exact W.truthy_bytes (by omega) ⟨H,I.tok _,q⟩
 |ref p=>
  cases rx;have e':(∃xs,SqL X.K H p xs/\k = !xs.isEmpty)\/(∃xs,SqT X.K H p xs/\k = !xs.isEmpty)\/∃kvs,H p=some (.dK kvs)/\k = !kvs.isEmpty:=e;rcases e' with⟨xs,hx,e'⟩|⟨xs,hx,e'⟩|⟨kvs,hx,e'⟩
  ·subst e';obtain⟨its,r,pl,hz⟩:=I.list hx;have hlen:=r.length;exact wpAny_truthy_list pl.isList (by simp only[xi];omega) ⟨H,I.tok _,by rw[oS r];exact q⟩
  ·subst e';obtain⟨its,r,pl,hz⟩:=I.tuple hx;have hlen:=r.length;exact truthy_tuple pl (by simp only[xi];omega) ⟨H,I.tok _,by rw[oS r];exact q⟩
  ·subst e';obtain⟨hz,hS,vs,r,m⟩:kvs.length<=sizeLine/\(p==sysModules)=false/\∃vs,KV kvs vs/\s.heap.DictOf (uc X.prog X.w) p vs:=I.hok p _ hx;have hlen:kvs.length=vs.length:=j0 r;exact wpAny_truthy_dict hS m (by omega) ⟨H,I.tok _,by rw[yg r];exact q⟩
 |_=>exact(show False from e).elim
def C5(ha:PE X a ta)(he:∀whole,isTrue a X.env whole=(do let v <- whole;standAt a.pos;holding [v] (truthy v))):
  PT X a (λσ H Q=>ta σ H λx H'=>∃k,MU X.K x H' k/\Q k H'):=by
 intro pins s σ H Q I h;exact isTrue_plain (thn (ha pins s σ H _ I h) λv s1 ⟨x,H1,I1,r1,q1⟩=>IL pins s1 σ H1 x v Q I1 r1 q1) (he _)
def op_add_str:OpR X (binaryOp .Add) (λx y H Q=>∃i j,x=.str i/\y=.str j/\i.length+j.length<=sizeLine/\Q (.str (i++j)) H):=by intro pins s σ H x y v u Q I rx ry h;obtain⟨i,j,rfl,rfl,hz,q⟩:=h;obtain⟨t,rfl⟩:=rx;obtain⟨t',rfl⟩:=ry;exact add_str (λt' tk=>⟨.str (i++j),H,I.tok _,⟨_,rfl⟩,q⟩) hz
def Ck{x:V}(r:Vals [x] us):∃u,us=[u]/\RelV x u:=by
 cases r with
 |cons r1 r2=>cases r2;exact⟨_,rfl,r1⟩
noncomputable def M4(K:W.Frag)(x:V)(H:Hp)(n:Nat):Prop:=
 match x with
 |.str y=>y.length<=sizeLine/\n=y.length
 |.byt y=>y.size<=sizeLine/\n=y.size
 |.ref p=>(∃xs,SqL K H p xs/\n=xs.length)\/∃xs,SqT K H p xs/\n=xs.length
 |_=>False
def C7:kg X (.builtin "len") (λxs H Q=>∃x n,xs=[x]/\M4 X.K x H n/\Q (.int n) H):=by
 intro pins s σ H xs us Q I r h;obtain⟨x,n,rfl,e,q⟩:=h;obtain⟨u,rfl,rx⟩:=Ck r;have hl:=pB;have hs:sizeLine=16777216:=iF;cases x with
 |str y=>obtain⟨t,rfl⟩:=rx;obtain⟨hy,e'⟩:y.length<=sizeLine/\n=y.length:=e;subst e';exact len_str (by omega) ⟨.int _,H,I.tok _,⟨_,rfl⟩,q⟩
 |byt y=>obtain⟨t,rfl⟩:=rx;obtain⟨hy,e'⟩:y.size<=sizeLine/\n=y.size:=e;subst e';exact W.len_bytes (by omega) ⟨.int _,H,I.tok _,⟨_,rfl⟩,q⟩
 |ref p=>
  cases rx;have e':(∃xs,SqL X.K H p xs/\n=xs.length)\/∃xs,SqT X.K H p xs/\n=xs.length:=e;rcases e' with⟨xs,hx,e'⟩|⟨xs,hx,e'⟩
  ·subst e';obtain⟨its,r',pl,hz⟩:=I.list hx;have hlen:=r'.length;exact Calls.call_len_list pl.isList (by simp only[xi];omega) ⟨.int xs.length,H,I.tok _,⟨_,by simp only[xi];rw[hlen]⟩,q⟩
  ·subst e';obtain⟨its,r',pl,hz⟩:=I.tuple hx;have hlen:=r'.length;exact len_tuple pl (by simp only[xi];omega) ⟨.int xs.length,H,I.tok _,⟨_,by simp only[xi];rw[hlen]⟩,q⟩
 |_=>exact(show False from e).elim
end
structure ObjM(h:Heap)(x dx C:Addr)(mA:Str->Option Value):Prop where
 obj:h.get? x=some (W.instObj C dx)
 ns:h.Ns1 dx mA
 ne:dx≠x
def zv{dx:Addr}(n:h.Ns1 dx mA):∃od,h.get? dx=some od/\∀name,W.lookIn name od=some (mA name):=by
 obtain⟨o,es,ep,ho,hd,hk,_,hm⟩:=n;refine⟨o,ho,λname=>?_⟩;have e:=hm name;unfold nsFind findBy at e;rw[<- Array.find?_toList]at e;unfold W.lookIn;rw[hd];dsimp only;split;·rename_i y q;rw[q]at e;exact ut some e
 ·rename_i q;rw[q]at e;have a:es.toList.any (·.refKey)=false:=by rw[List.any_eq_false];intro y hy;obtain⟨z,t,hkey⟩:=hk y (Array.mem_toList_iff.mp hy);simp[DictEntry.refKey,hkey]
  have a' : ¬ es.toList.any (·.refKey)=true:=by rw[a];exact uq
  rw[if_neg a'];exact ut some e
def ObjM.look{x dx:Addr}(I:ObjM h x dx C mA):∃od,W.InstAt h x (W.instObj C dx) C (some od)/\∀name,W.lookIn name od=some (mA name):=
 let⟨od,ho,hl⟩:=zv I.ns
 ⟨od,⟨I.obj,rfl,rfl,ho⟩,hl⟩
section
variable{prog:Program}{w:World}{A:Around}{K:W.Frag}{x dx:Addr}{name:Str}{v:Value}
def Fo{expr:Bool}{Q:Value->Shared->Prop}(X:K.In s.heap)(I:ObjM s.heap x dx C mA)(hg:W.plainGet K C name=true)(hh:W.hasDictIn K C=true)(ha:W.findIn K (.ref C) name=some none)(hv:mA name=some v)(hv':W.handedIn v=true)(h:Q v { s with toks:=s.toks+1 }):
  wpAny (model prog w) A (getAttr (.ref x) name expr) Q E s:=by
 obtain⟨od,J,hl⟩:=I.look;exact W.get_value X J (W.plainGet_of hg).1 (W.findObj_own hh ha rfl (by rw[hl,hv])) hv' h
def De{pl:Sem Bool}{Q:Value×List Value->Shared->Prop}(X:K.In s.heap)(I:ObjM s.heap x dx C mA)(hg:W.plainGet K C name=true)(hf:W.findIn K (.ref C) name=some (some (.ref f)))(ht:W.isFn K (.ref f)=true)(hv:mA name=none)(h:Q (.ref f,[.ref x]) s):
  wpAny (model prog w) A (getMethod (.ref x) name pl) Q E s:=by
 obtain⟨od,J,hl⟩:=I.look;exact W.method_fn X J (W.plainGet_of hg).1 (W.plainGet_of hg).2 hf (s8.mp ht) (by show(W.lookIn name od).map (·.isSome)=some false;rw[hl,hv];rfl) h
def GY{ns:List Str}{Q:Unit->Shared->Prop}(X:K.In s.heap)(I:ObjM s.heap x dx C mA)(hs:W.findIn K (.ref C) "__setattr__"=some (some (.builtin "object.__setattr__")))(hp:W.plainOver K C=true)(ht:W.takerIn K C name=some none)(hh:W.hasDictIn K C=true)(hw:PySem.Within mA ns)(hsz:ns.length<=sizeLine)(h:∀h',ObjM h' x dx C (λy=>if y=name then some v else mA y)->Heap.SameBut dx s.heap h'->Q () { s with heap:=h',toks:=s.toks+2 }):
  wpAny (model prog w) A (setAttr (.ref x) name v) Q E s:=by
 obtain⟨od,J,hl⟩:=I.look;refine W.set_plain X J hs (W.osa_open (s:={ s with toks:=s.toks+1 }) (r:=none) X J hp ht λb=>?_);obtain⟨cd,hc,hd'⟩:=W.any_some hh;have hx:s.heap.get? x=some ⟨.ref C,some dx,.plain,#[]⟩:=I.obj;refine y8 (y9 (y8 (y8 (wpAny_loadPart hx (y8 (W.Looks.here (s:={ s with toks:=s.toks+1 }) (W.looks_clsIn X hc) ?_))))));rw[hd'];refine y9 (a:=some dx) (y8 (y9 (y8 ?_)));refine wpAny_nsSet1 (s:={ s with toks:=s.toks+1 }) I.ns λh' hn2 hs2=>?_;obtain⟨oD,esD,epD,hoD,hdD,hcD⟩:=hn2.count (PySem.Within.cons name v hw);refine y8 (wpAny_lookBehind hoD (by rw[hdD];exact pastItsLine_dict (w8 hcD (by rw[v4];omega))) ?_);exact y9 (h _ ⟨(hs2.2 _ (uw I.ne)).trans I.obj,hn2,I.ne⟩ hs2)
def Du{R:Result->Shared->Prop}{vs:List Value}{kw:List (Str×Value)}(X:K.In s.heap)(hm:W.makesIn K C=true)(hi:W.findIn K (.ref C) "__init__"=some (some (.ref f)))(hf:W.typeIn K (.ref f)=some (.type "function"))(h:codeAny (model prog w) (A.under (.builtin "type.__call__" ⟨.ref C::vs,kw⟩)) (.call (.ref f) ⟨.ref (s.heap.objs.size+1)::vs,kw⟩) (W.InitBack (s.heap.objs.size+1) R)
 { s with heap:=(s.heap.push W.emptyDict).push (W.instObj C s.heap.objs.size) }):
  codeAny (model prog w) A (.call (.ref C) ⟨vs,kw⟩) R s:=by
 obtain⟨hh,g,d,t,os⟩:=s;exact W.make_core (W.makes_of X hm) (W.looks_findIn X hi) (λself=>W.bind_fn X self hf) (.inl rfl) h
end
noncomputable def pv(f:Str)(v:V):List (Str×V)->List (Str×V)
 | []=>[(f,v)]
 | (g,x)::r=>if g=f then (g,v)::r else (g,x)::pv f v r
theorem lX(f g:Str)(v:V):∀fs:List (Str×V),(pv f v fs).lookup g=if g=f then some v else fs.lookup g
 | []=>by
  show List.lookup g [(f,v)]=_;by_cases h:g=f;·have hb:(g==f)=true:=s8.mpr h;simp only[List.lookup,hb,if_pos h]
  ·have hb:(g==f)=false:=uO.mpr h;simp only[List.lookup,hb,if_neg h]
 | (k,x)::r=>by
  have ih:=lX f g v r;rw[show pv f v ((k,x)::r)=(if k=f then (k,v)::r else (k,x)::pv f v r) from rfl];by_cases hk:k=f
  ·rw[if_pos hk];by_cases h:g=k;·have hb:(g==k)=true:=s8.mpr h;simp only[List.lookup,hb,if_pos (h.trans hk)]
   ·have hb:(g==k)=false:=uO.mpr h;simp only[List.lookup,hb,if_neg (λe:g=f=>h (e.trans hk.symm))]
  ·rw[if_neg hk];by_cases h:g=k;·have hb:(g==k)=true:=s8.mpr h;simp only[List.lookup,hb,if_neg (λe:g=f=>hk (h.symm.trans e))]
   ·have hb:(g==k)=false:=uO.mpr h;simp only[List.lookup,hb];exact ih
theorem mV(f:Str)(v:V):∀fs:List (Str×V),f∈(pv f v fs).map (·.1)/\∀g,g∈fs.map (·.1)->g∈(pv f v fs).map (·.1)
 | []=>⟨by simp[pv],λg h=>by simp at h⟩
 | (k,x)::r=>by
  obtain⟨i1,i2⟩:=mV f v r;rw[show pv f v ((k,x)::r)=(if k=f then (k,v)::r else (k,x)::pv f v r) from rfl];by_cases hk:k=f;·rw[if_pos hk];subst hk;exact⟨by simp,λg h=>by simpa using h⟩
  ·rw[if_neg hk];refine⟨?_,λg h=>?_⟩;·rw[x9];exact w4 _ i1
   ·rw[x9]at h⊢;rcases xO.mp h with e|e;·exact xO.mpr (.inl e)
    ·exact w4 _ (i2 g e)
theorem lY(f:Str)(v:V):∀fs:List (Str×V),(pv f v fs).length<=fs.length+1
 | []=>by simp[pv]
 | (k,x)::r=>by
  have ih:=lY f v r;rw[show pv f v ((k,x)::r)=(if k=f then (k,v)::r else (k,x)::pv f v r) from rfl];by_cases hk:k=f;·rw[if_pos hk,v4,v4];omega
  ·rw[if_neg hk,v4,v4];omega
def RelO.some_of{o:Option Value}(r:RelO (some v) o):∃u,o=some u/\RelV v u:=by
 cases o with
 |none=>exact(show False from r).elim
 |some u=>exact⟨u,rfl,r⟩
def RelO.none_of{o:Option Value}(r:RelO none o):o=none:=by
 cases o with
 |none=>rfl
 |some u=>exact(show False from r).elim
def zm{u:Value}(r:RelV v u):W.handedIn u=true:=by
 cases v with
 |non=>cases (show u=Value.none from r);rfl
 |bl b=>cases (show u=Value.bool b from r);rfl
 |int i=>obtain⟨t,e⟩:=(show ∃t,u=Value.int i t from r);cases e;rfl
 |str x=>obtain⟨t,e⟩:=(show ∃t,u=Value.str x t from r);cases e;rfl
 |byt b=>obtain⟨t,e⟩:=(show ∃t,u=Value.bytes b t from r);cases e;rfl
 |flt b=>obtain⟨t,e⟩:=(show ∃t,u=Value.float b t from r);cases e;rfl
 |ref a=>cases (show u=Value.ref a from r);rfl
 |ty n=>cases (show u=Value.type n from r);rfl
section
variable{w:World}{dx:Addr}{fs fs':List (Str×V)}
def tT(hok:HOk P w H h)(e:H a=some (.ins C dx fs)):∃mA,ObjM h a dx C mA/\(∀f,RelO (fs.lookup f) (mA f))/\PySem.Within mA (fs.map (·.1))/\fs.length<=1000/\H dx=some (.own a):=by
 obtain⟨d,z,ne,ob,mA,n,r,q⟩:=(show ObjOk P w H h a (.ins C dx fs) from hok a _ e)
 exact⟨mA,⟨ob,n,ne⟩,r,q,z,d⟩
end
structure Cls(K:W.Frag)(C:Addr):Prop where
 pg:W.plainGet K C Str.empty=true
 hd:W.hasDictIn K C=true
 po:W.plainOver K C=true
 sa:W.findIn K (.ref C) "__setattr__"=some (some (.builtin "object.__setattr__"))
def Cls.get{K:W.Frag}(c:Cls K C)(f:Str):W.plainGet K C f=true:=c.pg
noncomputable def NoAttr(K:W.Frag)(C:Addr)(f:Str):Prop:=W.findIn K (.ref C) f=some none
def NoAttr.taker{K:W.Frag}{f:Str}(n:NoAttr K C f):W.takerIn K C f=some none:=by unfold W.takerIn;rw[show W.findIn K (.ref C) f=some none from n];rfl
structure Con(K:W.Frag)(C:Addr)(f:Str)(v:V)(u:Value):Prop where
 at_:W.findIn K (.ref C) f=some (some u)
 rel:RelV v u
 get:W.specialIn K u "__get__"=some none
 cp:W.copiedNames.contains f=false
structure Meth(K:W.Frag)(C:Addr)(m:Str)(f:Addr):Prop where
 at_:W.findIn K (.ref C) m=some (some (.ref f))
 fn:W.isFn K (.ref f)=true
 kp:W.keepIn K (.ref f)=true
section
variable{dx:Addr}{fs:List (Str×V)}{f:Str}{A:Around}
def xJ{b:Bool}{Q:Value->Shared->Prop}(I:Inv X pins σ H s)(e:H a=some (.ins C dx fs))(c:Cls X.K C)(n:NoAttr X.K C f)(l:fs.lookup f=some v)(h:∀u s',Inv X pins σ H s'->RelV v u->Q u s'):wpAny (model X.prog X.w) A (getAttr (.ref a) f b) Q E s:=by
 obtain⟨mA,O,r,_,_,_⟩:=tT I.hok e;obtain⟨u,hu,ru⟩:=RelO.some_of (v:=v) (o:=mA f) (by rw[<- l];exact r f);exact Fo I.kIn O (c.get f) c.hd n hu (zm ru) (h u _ (I.tok _) ru)
def kh{m:Str}{g:Addr}{pl:Sem Bool}{Q:Value×List Value->Shared->Prop}(I:Inv X pins σ H s)(e:H a=some (.ins C dx fs))(c:Cls X.K C)(k:Meth X.K C m g)(l:fs.lookup m=none)(h:Q (.ref g,[.ref a]) s):wpAny (model X.prog X.w) A (getMethod (.ref a) m pl) Q E s:=by
 obtain⟨mA,O,r,_,_,_⟩:=tT I.hok e;have hn:mA m=none:=RelO.none_of (by rw[<- l];exact r m);exact De I.kIn O (c.get m) k.at_ k.fn hn h
def xL{y:V}{u:Value}{Q:Unit->Shared->Prop}(I:Inv X pins σ H s)(e:H a=some (.ins C dx fs))(c:Cls X.K C)(n:NoAttr X.K C f)(hl:fs.length<1000)(ry:RelV y u)(h:∀s',Inv X pins σ (upd H a (.ins C dx (pv f y fs))) s'->Q () s'):wpAny (model X.prog X.w) A (setAttr (.ref a) f u) Q E s:=by
 obtain⟨mA,O,r,wi,_,ho⟩:=tT I.hok e;have hz:(fs.map (·.1)).length<=sizeLine:=by rw[x8,iF];omega
 refine GY I.kIn O c.sa c.po n.taker c.hd wi hz λh' O' sb=>h _ ?_;have hd:∃o,h'.get? dx=some o:=let⟨o,_,_,e',_⟩:=O'.ns;⟨o,e'⟩;refine I.write (x:=a) (e:=dx) (by rw[e];exact True.intro) (.inr ho) (λb q hb z=>(sb.2 b hb).trans z) hd ?_;refine⟨by rw[am O.ne];exact ho,?_,O.ne,O'.obj,_,O'.ns,λg=>?_,λg hg=>?_⟩;·have:=lY f y fs;omega
 ·show RelO ((pv f y fs).lookup g) (if g=f then some u else mA g);rw[lX];by_cases q:g=f;·rw[if_pos q,if_pos q];exact ry
  ·rw[if_neg q,if_neg q];exact r g
 ·by_cases q:g=f;·rw[q];exact(mV f y fs).1
  ·refine(mV f y fs).2 g (wi g λz=>hg ?_);show(if g=f then some u else mA g)=none;rw[if_neg q];exact z
def Inv.made(I:Inv X pins σ H s):Inv X pins σ (upd (upd H s.heap.objs.size (.own (s.heap.objs.size+1))) (s.heap.objs.size+1) (.ins C s.heap.objs.size []))
  { s with heap:=(s.heap.push W.emptyDict).push (W.instObj C s.heap.objs.size) }:=by
 have e1:(s.heap.push W.emptyDict).get? s.heap.objs.size=some W.emptyDict:=w6 s.heap rfl;have e2:((s.heap.push W.emptyDict).push (W.instObj C s.heap.objs.size)).get? (s.heap.objs.size+1)=some (W.instObj C s.heap.objs.size):=by
  have:=w6 (s.heap.push W.emptyDict) (o:=W.instObj C s.heap.objs.size) rfl
  rwa [o8]at this
 have e3:(s.heap.push W.emptyDict).Ns s.heap.objs.size (λ_=>none):=⟨W.emptyDict,#[],_,e1,rfl,(λe he=>absurd he (by simp)),λ_=>rfl⟩
 have I1:=I.laid (a:=s.heap.objs.size) (o:=.own (s.heap.objs.size+1)) (h':=s.heap.push W.emptyDict) (t':=s.toks) (λb u q=>yq _ q) (yh _) ⟨_,e1⟩;refine I1.laid (a:=s.heap.objs.size+1) (o:=.ins C s.heap.objs.size []) (t':=s.toks) (λb u q=>yq _ q) (Nat.le_of_eq (o8 _ _)) ?_;have ne:s.heap.objs.size≠s.heap.objs.size+1:=v6 (l8 _);refine⟨by rw[am ne,az],v8 _,ne,e2,λ_=>none,(Heap.Ns1.of_empty e3).at λo q=>yq _ q,λ_=>True.intro,λy hy=>absurd rfl hy⟩
def Gu{prog:Program}{w:World}{env:Env}{e:Expr}{f:Str}{Q:Value->Shared->Prop}(hb:attributeBase e f env (eval e env)=eval e env)(h:wpAny (model prog w) A (eval e env) (λo s₁=>wpAny (model prog w) A (getAttr o f true) Q E s₁) E s):wpAny (model prog w) A (eval (.Attribute e f pos) env) Q E s:=
 Attribute_any_ h (by rw[arm_eval_Attribute,hb])
end
noncomputable def M7(K:W.Frag)(ta:TE)(f:Str):TE:=λσ H Q=>ta σ H λx H1=>∃a C dx fs v,x=.ref a/\H1 a=some (.ins C dx fs)/\Cls K C/\NoAttr K C f/\fs.lookup f=some v/\Q v H1
noncomputable def NI(K:W.Frag)(ta tv:TE)(f:Str):TS:=λD σ H=>tv σ H λy H1=>ta σ H1 λx H2=>∃a C dx fs,x=.ref a/\H2 a=some (.ins C dx fs)/\Cls K C/\NoAttr K C f/\fs.length<1000/\
 D.nx σ (upd H2 a (.ins C dx (pv f y fs)))
section
variable{o e value:Expr}{f:Str}{pos' tpos:Pos}{ta tv:TE}
def DQ(he:PE X e ta)(hb:attributeBase e f X.env (eval e X.env)=eval e X.env):PE X (.Attribute e f pos) (M7 X.K ta f):=by intro pins s σ H Q I h;refine Gu hb (thn (he pins s σ H _ I h) λu s1 ⟨x,H1,I1,rx,a,C,dx,fs,v,ex,ea,c,n,l,q⟩=>?_);subst ex;obtain rfl:u=Value.ref a:=rx;exact xJ I1 ea c n l λu' s2 I2 ru=>⟨v,H1,I2,ru,q⟩
def IM(ha:PE X o ta)(hv:PE X value tv)(hs:swapsWith value (some (.Attribute o f pos')) pos.line X.env=pure false):PS X (.Assign [.Attribute o f pos'] value pos) (NI X.K ta tv f):=by intro pins s σ H D I h;refine plainObj_wpAny_Assign_Attribute (thn (hv pins s σ H _ I h) λu s1 ⟨y,H1,I1,ry,q⟩=>thn (ha pins s1 σ H1 _ I1 q) λov s2 ⟨x,H2,I2,rx,a,C,dx,fs,ex,ea,c,n,l,q2⟩=>?_) hs;subst ex;obtain rfl:ov=Value.ref a:=rx;exact xL I2 ea c n l ry λs3 I3=>⟨σ,_,I3,q2⟩
end
section
variable{A:Around}{Q:Value->Shared->Prop}{c:Value}{b:Bool}
inductive TyOf(K:W.Frag)(H:Hp):V->Value->Prop where
 |non:TyOf K H .non (.type "NoneType")
 |bl (x:Bool):TyOf K H (.bl x) (.type "bool")
 |int (i:Int):TyOf K H (.int i) (.type "int")
 |str (x:Str):TyOf K H (.str x) (.type "str")
 |flt (x:UInt64):TyOf K H (.flt x) (.type "float")
 |lst {a:Addr} {xs:List V} (e:H a=some (.lst xs)):TyOf K H (.ref a) (.type "list")
 |frz {a:Addr} {o:Obj} {xs:List V} (e:H a=some (.frz o (.lst xs))):TyOf K H (.ref a) (.type "list")
 |tup {a:Addr} {xs:List V} (e:H a=some (.tup xs)):TyOf K H (.ref a) (.type "tuple")
 |dK {a:Addr} {kvs:List (Key×V)} (e:H a=some (.dK kvs)):TyOf K H (.ref a) (.type "dict")
 |dT {a:Addr} {kvs:List (List Key×V)} (e:H a=some (.dT kvs)):TyOf K H (.ref a) (.type "dict")
 |ins {a C dx:Addr} {fs:List (Str×V)} (e:H a=some (.ins C dx fs)) (cl:Cls K C) (ha:W.findIn K (.ref C) "__class__"=some (some (.builtin "object.__class__")))
   (hn:W.specialIn K (.builtin "object.__class__") "__get__"=some (some (.builtin "getset_descriptor.__get__"))) (htk:W.takesIn K (.builtin "object.__class__")=some true)
   (hm:W.mroIn K C (.type "object")=some true):TyOf K H (.ref a) (.ref C)
end
structure Room(k:Nat)(A:Around):Prop where
 hd:A.handled=none
 dp:A.depth+3 * k+5<recursionLimit
 un:A.units+16 * k+200<cLine
def Room.mono{A:Around}(r:Room k A)(h:j<=k):Room j A:=⟨r.hd,by have:=r.dp;omega,by have:=r.un;omega⟩
def Room.deeper{A:Around}(r:Room (k+1) A)(env:Env):Room k (A.deeper env):=
 ⟨r.hd,by have:=r.dp;show A.depth+1+3 * k+5<_;omega,by have:=r.un;show A.units+3+16 * k+200<_;omega⟩
def Room.in1{A:Around}(r:Room (k+1) A):Room k A.in1:=
 ⟨r.hd,by have:=r.dp;show A.depth+3 * k+5<_;omega,by have:=r.un;show A.units+1+16 * k+200<_;omega⟩
def xt{A:Around}{kw:List (Str×Value)}:(A.under (.builtin "type.__call__" ⟨.ref C::us,kw⟩)).depth=A.depth+1:=by first|rfl|simp[Around.under,Code.weight,Code.isCreation,Code.isGuard,Code.isCaller,Code.frames,Code.isFrame,guardIds]
def wW{A:Around}{kw:List (Str×Value)}:(A.under (.builtin "type.__call__" ⟨.ref C::us,kw⟩)).units=A.units+1:=by first|rfl|simp[Around.under,Code.cUnits,Code.frames,Code.isFrame]
def Room.make{A:Around}(r:Room (k+1) A)(C:Addr)(us:List Value)(kw:List (Str×Value)):Room k (A.under (.builtin "type.__call__" ⟨.ref C::us,kw⟩)):=
 ⟨r.hd,by have:=r.dp;rw[xt];omega,by have:=r.un;rw[wW];omega⟩
def Room.depth{A:Around}(r:Room k A):A.depth<recursionLimit:=by have:=r.dp;omega
def Room.units{A:Around}(r:Room k A):A.units+64<cLine:=by have:=r.un;omega
noncomputable def KJ:TA:=λ_ H Q=>Q [] H
noncomputable def BO(ta:TE)(tr:TA):TA:=λσ H Q=>ta σ H λx H1=>tr σ H1 λxs H2=>Q (x::xs) H2
section
variable{e:Expr}{te:TE}{t:TA}
def eJ:PA X [] KJ:=λ_ _ _ _ H Q I h=>Calls.spliced_nil ⟨[],H,I,.nil,h⟩
def bE(ha:PE X e te)(hr:PA X es t)(hs:starEach (e::es) X.env=(false,eval e X.env)::starEach es X.env:=by rfl):PA X (e::es) (BO te t):=by intro pos pins s σ H Q I h;rw[hs];show wpAny _ _ (spliced ((false,eval e X.env)::backTo pos (starEach es X.env))) _ _ s;refine Calls.spliced_cons (thn (ha pins s σ H _ I h) λu s1 ⟨x,H1,I1,r1,q1⟩=>?_);exact thn (hr pos pins s1 σ H1 _ I1 q1) λus s2 ⟨xs,H2,I2,r2,q2⟩=>⟨x::xs,H2,I2,.cons r1 r2,q2⟩
noncomputable def NW(t:TA):TE:=λσ H Q=>t σ H λxs H1=>xs.length<=sizeLine/\∀p,H1 p=none->Q (.ref p) (upd H1 p (.tup xs))
noncomputable def M3(t:TA):TE:=λσ H Q=>t σ H λxs H1=>xs.length<=sizeLine/\∀p,H1 p=none->Q (.ref p) (upd H1 p (.lst xs))
def AI {x1} (h:PA X es t):PE X (.Tuple es x1 pos) (NW t):=by intro pins s σ H Q I hq;refine wpAny_Tuple_spliced (thn (h pos pins s σ H _ I hq) λus s1 ⟨xs,H1,I1,r,z,q⟩=>⟨by rw[<- r.length];exact z,?_⟩);have hf:H1 s1.heap.objs.size=none:=I1.hok.fresh (yh _);refine⟨.ref s1.heap.objs.size,upd H1 s1.heap.objs.size (.tup xs),I1.laid (t':=s1.toks) (λb u e=>yq _ e) (yh _) ?_,rfl,q _ hf⟩;exact⟨z,us,r,⟨_,w6 _ rfl,rfl,_,rfl⟩⟩
def Jp(h:PA X es t):PE X (.List es pos) (M3 t):=by intro pins s σ H Q I hq;refine wpAny_List_spliced (thn (h pos pins s σ H _ I hq) λus s1 ⟨xs,H1,I1,r,z,q⟩=>⟨by rw[<- r.length];exact z,?_⟩);have hf:H1 s1.heap.objs.size=none:=I1.hok.fresh (yh _);refine⟨.ref s1.heap.objs.size,upd H1 s1.heap.objs.size (.lst xs),I1.laid (t':=s1.toks) (λb u e=>yq _ e) (yh _) ?_,rfl,q _ hf⟩;exact⟨z,us,0,r,w6 _ rfl⟩
end
noncomputable abbrev Sp:=List V->Hp->VK->XK->Prop
noncomputable abbrev CXT:=List Env->Hp->Shared->XK->Value->Shared->Prop
structure Env0(P:Program)(w:World)(K:W.Frag)(mg:Str->Option Value)(base:Heap)(A:Around)(outer:List Env)(s:Shared)(H:Hp):Prop where
 frames:A.frames=some outer
 mod:Mod K mg base
 bs:∀b o,base.get? b=some o->s.heap.get? b=some o/\H b=none
 bsz:base.objs.size<=s.heap.objs.size
 funs:s.heap.FunFrames base outer
 frf:∀b∈frs outer,H b=none
 hok:HOk P w H s.heap
 bare:AllBare s.gens
 tabs:TabsIn base H
noncomputable def CE(outer:List Env)(P:Program)(w:World)(H:Hp)(s:Shared)(Q:VK)(u:Value)(s':Shared):Prop:=
 ∃v H',s'.os=s.os/\AllBare s'.gens/\Un (frs outer) [] H H' s.heap s'.heap/\HOk P w H' s'.heap/\RelV v u/\Q v H'
noncomputable def CR(CX:CXT)(outer:List Env)(P:Program)(w:World)(H:Hp)(s:Shared)(Q:VK)(E:XK)(r:Result)(s':Shared):Prop:=
 match r with
 |.ok (.ret u)=>CE outer P w H s Q u s'
 |.ok _=>False
 |.error e=>CX outer H s E e s'
structure FnOk(P:Program)(w:World)(K:W.Frag)(mg:Str->Option Value)(base:Heap)(CX:CXT)(k:Nat)(f:Addr)(fd:FuncData)(ps:List Str)(sp:Sp):Prop where
 len:∀vs H Q E,sp vs H Q E->vs.length=ps.length
 run:∀(A:Around)(outer:List Env)(s:Shared)(H:Hp)(args:Args)(us:List Value)(vs:List V)(Q:VK)(E:XK),Room k A->Env0 P w K mg base A outer s H->BindsTo s fd args (ps.zip us)->Vals vs us->sp vs H Q E->
  codeAny (model P w) A (.call (.ref f) args) (CR CX outer P w H s Q E) s
def FnOk.imp{w:World}{K:W.Frag}{mg:Str->Option Value}{base:Heap}{CX:CXT}{sp sp':Sp}(F:FnOk P w K mg base CX k f fd ps sp)(h:∀vs H Q E,sp' vs H Q E->sp vs H Q E):FnOk P w K mg base CX k f fd ps sp':=
 ⟨λvs H Q E q=>F.len vs H Q E (h _ _ _ _ q),λA outer s H args us vs Q E hr he hb hv hs=>F.run A outer s H args us vs Q E hr he hb hv (h _ _ _ _ hs)⟩
def Env0.make{w:World}{K:W.Frag}{mg:Str->Option Value}{base:Heap}{A:Around}{outer:List Env}(e:Env0 P w K mg base A outer s H)(C:Addr)(us:List Value)(kw:List (Str×Value)):
  Env0 P w K mg base (A.under (.builtin "type.__call__" ⟨.ref C::us,kw⟩)) outer s H:=⟨by first|exact e.frames|(simpa[Around.under,Code.envs,Code.isFrame,pushEnvs]using e.frames),e.mod,e.bs,e.bsz,e.funs,e.frf,e.hok,e.bare,e.tabs⟩
section
def Inv.env0(I:Inv X pins σ H s):Env0 X.prog X.w X.K X.mg X.base X.A X.stack s H:=
 ⟨I.ok.frames,I.ok.mod,I.bs,w8 I.ok.bsz I.sz,I.stack,I.stkFree,I.hok,I.bare,I.ok.tabs.un I.base⟩
def Inv.after{Q:VK}{u:Value}(I:Inv X pins σ H s)(h:CE X.stack X.prog X.w H s Q u s'):EP X pins σ Q u s':=by obtain⟨v,H',os,bare,un,hok,r,q⟩:=h;obtain⟨hh,g,d,t,os'⟩:=s';obtain rfl:os'=s.os:=os;exact⟨v,H',I.call (h':=hh) (g':=g) (d':=d) (t':=t) (ch:=[]) un hok bare (λb z=>absurd z (by simp)),r,q⟩
end
noncomputable def Binds(K:W.Frag)(fd:FuncData)(ps:List Str)(ds:List Value):Prop:=
 ∀(s:Shared)(us:List Value),K.In s.heap->(us++ds).length=ps.length->BindsTo s fd ⟨us,[]⟩ (ps.zip (us++ds))
def Binds.all{K:W.Frag}(h:∀us:List Value,us.length=ps.length->bindArgs fd ⟨us,[]⟩=pure (ps.zip us)):Binds K fd ps []:=λs us _ hl=>by rw[t7]at hl⊢;exact .of_eq (h us hl)
section
variable{CX:CXT}{sp:Sp}{dvs:List V}{ds:List Value}{E:XK}{m:Str}{apos:Pos}{e o:Expr}{ta:TE}{t:TA}
structure Mk(K:W.Frag)(C f:Addr):Prop where
 makes:W.makesIn K C=true
 init:W.findIn K (.ref C) "__init__"=some (some (.ref f))
 fn:W.isFn K (.ref f)=true
 kp:W.keepIn K (.ref C)=true
end
section
variable{CX:CXT}{ks:List Str}{sp:Sp}{E:XK}{m:Str}{apos kpos:Pos}{e o:Expr}{kws:List Keyword}{te ta:TE}{t tk:TA}{nm:Option Str}
structure KBinds(K:W.Frag)(fd:FuncData)(ps ks:List Str)(g:List Value->List Value->List Value)(gV:List V->List V->List V):Prop where
 to:∀(s:Shared)(us ws:List Value),K.In s.heap->(g us ws).length=ps.length->BindsTo s fd ⟨us,ks.zip ws⟩ (ps.zip (g us ws))
 rel:∀{vs:List V}{us:List Value}{zs:List V}{ws:List Value},Vals vs us->Vals zs ws->Vals (gV vs zs) (g us ws)
variable{g:List Value->List Value->List Value}{gV:List V->List V->List V}
end
structure FnScope(N P:List Str)(sc:Scope):Prop where
 kind:sc.kind=.function
 co:sc.isCoroutine=false
 gen:sc.isGenerator=false
 nd:N.Nodup
 pre:N.take P.length=P
 par:∀x∈P,sc.names.lookup x=some .local\/sc.names.lookup x=some .cell
 nofree:∀y∈sc.names,y.2≠.free
theorem sK{kindOf:Str->Option NameKind}{x:Str}:∀{binds:List (Str×Value)}{m:Str->Option Value},(∀v,(x,v)∉binds)->bindL kindOf binds m x=m x
 | [],_,_=>rfl
 | (n,v)::r,m,h=>by
  unfold bindL;rw[sK λw hw=>h w (w4 _ hw)];split
  ·have:x≠n:=by rintro rfl;exact h v v3
   simp[this]
  ·rfl
theorem rP{kindOf:Str->Option NameKind}{x:Str}:∀{binds:List (Str×Value)}{m:Str->Option Value},(∀v,(x,v)∉binds)->bindC kindOf binds m x=m x
 | [],_,_=>rfl
 | (n,v)::r,m,h=>by
  unfold bindC;rw[rP λw hw=>h w (w4 _ hw)];split;·rfl
  ·have:x≠n:=by rintro rfl;exact h v v3
   simp[this]
theorem rH{kindOf:Str->Option NameKind}{x:Str}{v:Value}:∀{P:List Str}{vs:List Value}{i:Nat}{m:Str->Option Value},P.Nodup->P[i]?=some x->vs[i]?=some v->kindOf x=some .local->
  bindL kindOf (P.zip vs) m x=some v
 | [],_,_,_,_,h,_,_=>by simp at h
 |_::_,[],_,_,_,_,h,_=>by simp at h
 |p::P,w::vs,0,m,nd,h1,h2,hk=>by simp at h1 h2;subst h1;subst h2;show bindL kindOf ((p,w)::P.zip vs) m p=_;unfold bindL;rw[sK λv hv=>(nz.mp nd).1 (iM hv).1,if_pos hk];simp
 |p::P,w::vs,i+1,m,nd,h1,h2,hk=>by show bindL kindOf ((p,w)::P.zip vs) m x=_;unfold bindL;exact rH (i:=i) (nz.mp nd).2 (by simpa using h1) (by simpa using h2) hk
theorem sF{kindOf:Str->Option NameKind}{x:Str}{v:Value}:∀{P:List Str}{vs:List Value}{i:Nat}{m:Str->Option Value},P.Nodup->P[i]?=some x->vs[i]?=some v->kindOf x≠some .local->
  bindC kindOf (P.zip vs) m x=some v
 | [],_,_,_,_,h,_,_=>by simp at h
 |_::_,[],_,_,_,_,h,_=>by simp at h
 |p::P,w::vs,0,m,nd,h1,h2,hk=>by simp at h1 h2;subst h1;subst h2;show bindC kindOf ((p,w)::P.zip vs) m p=_;unfold bindC;rw[rP λv hv=>(nz.mp nd).1 (iM hv).1,if_neg hk];simp
 |p::P,w::vs,i+1,m,nd,h1,h2,hk=>by show bindC kindOf ((p,w)::P.zip vs) m x=_;unfold bindC;exact sF (i:=i) (nz.mp nd).2 (by simpa using h1) (by simpa using h2) hk
noncomputable def gW(N:List Str)(vs:List V):St:=vs.map some++List.replicate (N.length - vs.length) none
noncomputable def fc(CX:CXT)(P:Program)(w:World)(K:W.Frag)(mg:Str->Option Value)(base:Heap)(N:List Str)(qual:Str)(scope:Scope)(f:Addr)(cd:Value)(A:Around)(outer:List Env)(s:Shared)(H:Hp)(E:XK):Cx where
 prog:=P
 w:=w
 K:=K
 mg:=mg
 base:=base
 A:=A.deeper (envOfC qual scope s.heap.objs.size f cd)
 N:=N
 s₀:=s
 H₀:=H
 env:=envOfC qual scope s.heap.objs.size f cd
 outer:=outer
 stack:=envOfC qual scope s.heap.objs.size f cd::outer
 ex:=[]
 calm:=true
 fn:=λ_=>true
 pn:=[]
 xe:=λe s'=>wpAny (model P w) (A.deeper (envOfC qual scope s.heap.objs.size f cd)) (leaving (envOfC qual scope s.heap.objs.size f cd) e) (λ_ s''=>CX outer H s E e s'') (λe' s''=>CX outer H s E e' s'') s'
def vV{sc:Scope}{n:Nat}(h:sc.names.lookup x=some .cell):∃c,(cellsFrom n sc.names []).lookup x=some c:=by have q:=W.cellsFrom_some sc.names n [] (.inl h);exact Option.isSome_iff_exists.mp q
def td{CX:CXT}{w:World}{K:W.Frag}{mg:Str->Option Value}{base:Heap}{N:List Str}{A:Around}{outer:List Env}{s1:Shared}{E:XK}(S:FnScope N ps scope)(hd:A.handled=none)(e0:Env0 P w K mg base A outer s H)(hl:vs.length=ps.length)(r:Vals vs us)(x:InCallC s s.heap.objs.size (bindL (envOfC qual scope s.heap.objs.size f cd).kindOf (ps.zip us) λ_=>none) (cellsFrom (s.heap.objs.size+1) scope.names []) (bindC (envOfC qual scope s.heap.objs.size f cd).kindOf (ps.zip us) λ_=>none) s1):
  Inv (fc CX P w K mg base N qual scope f cd A outer s H E) [] (gW N vs) H s1:=by
 have hpl:ps.length<=N.length:=by have:=ut List.length S.pre;rw[qc]at this;omega
 obtain⟨h1,tk,rfl,hk⟩:=x.done;have noA:∀b:Addr,b∉(fc CX P w K mg base N qual scope f cd A outer s H E).ex:=λb z=>absurd (show b∈([]:List Addr) from z) (by simp);refine⟨⟨e0.mod,S.kind,rfl,rfl,yh _,λy z c h1 h2=>?_,λy hy=>?_,λy c _ h=>?_,λ_=>hd,Around.frames_deeper e0.frames,.inr ⟨rfl,rfl⟩,λb z=>absurd z (noA b),e0.bs,e0.bsz,λb _ _=>noA b,λb z=>absurd z (noA b),e0.funs,e0.frf,e0.tabs⟩,
  rfl,e0.bare,Un.kept hk,⟨_,x.toInCall.ns,λi y v h1 h2 h3=>?_⟩,λy c h=>⟨_,x.cell y c h⟩,e0.hok.fresh (yh _),λy c h=>?_,λp hp=>absurd (show p∈([]:List (Addr×Obj)) from hp) (by simp),e0.hok.kept hk,?_⟩;·exact name_of_addr x.apart (o9 h1) (o9 h2)
 ·have hy:scope.names.lookup y=some .cell\/scope.names.lookup y=some .free:=hy;rcases hy with hy|hy;·exact vV hy
  ·exact absurd rfl (S.nofree _ (o9 hy))
 ·exact io (x.above y c (o9 h))
 ·have hi:i<vs.length:=by
   unfold gW at h2;by_cases hi:i<vs.length;·exact hi
   ·rw[nA (by simpa using hi)]at h2;rw[l9]at h2;split at h2 <;> cases h2
  have ha:vs[i]?=some v:=by
   unfold gW at h2;rw[oq (by simpa using hi),v7]at h2;cases e:vs[i]? with
   |none=>rw[e]at h2;cases h2
   |some a=>rw[e]at h2;cases h2;rfl
  obtain⟨u,hu,rv⟩:=r.get ha;have hp:ps[i]?=some y:=by rw[<- S.pre,List.getElem?_take_of_lt (by omega)];exact h1
  have ndP:ps.Nodup:=by rw[<- S.pre];exact S.nd.sublist (List.take_sublist _ _)
  refine⟨u,rv,?_⟩;rcases S.par y (j3 hp)with k|k;·exact .inl ⟨k,rH ndP hp hu k⟩
  ·obtain⟨c,e⟩:=vV (n:=s.heap.objs.size+1) k;refine .inr ⟨.inl k,c,e,?_⟩;have q:=x.cell y c e;rw[sF ndP hp hu (by show scope.names.lookup y≠_;rw[k];decide)]at q;exact q
 ·exact e0.hok.fresh (io (x.above y c (o9 h)))
 ·unfold gW;show _=N.length;rw[ud,x8,qg];omega
def A5{CX:CXT}{w:World}{K:W.Frag}{mg:Str->Option Value}{base:Heap}{name:Str}{dV kV ct:Value}{N:List Str}{sp:Sp}(lk:K.lookup f=some ⟨oc,od,.func (W.fnOf name qual params body scope dV kV doc pm an cdv ct),osl⟩)(hcd:W.codeIn K cdv qual=true)(S:FnScope N ps scope)(len:∀vs H Q E,sp vs H Q E->vs.length=ps.length)(hbody:∀(A:Around)(outer:List Env)(s:Shared)(H:Hp)(vs:List V)(Q:VK)(E:XK),Room k (A.deeper (envOfC qual scope s.heap.objs.size f cdv))->sp vs H Q E->
 ∃t,PSs (fc CX P w K mg base N qual scope f cdv A outer s H E) body t/\t { nx:=λ_ H'=>Q .non H',rt:=Q } (gW N vs) H):
  FnOk P w K mg base CX (k+1) f (W.fnOf name qual params body scope dV kV doc pm an cdv ct) ps sp:=by
 refine⟨len,λA outer s H args us vs Q E hr e0 hb r hsp=>?_⟩;have hl:=len _ _ _ _ hsp;have KX:K.In s.heap:=e0.mod.kin.keeps λb o e=>(e0.bs b o e).1;have lim:s.heap.NoLimit:=e0.mod.nolimit.keeps λb o e=>(e0.bs b o e).1;have hkind:∀y∈ps.zip us,scope.names.lookup y.1=some .local\/(scope.names.lookup y.1=some .cell/\((cellsFrom (s.heap.objs.size+1) scope.names []).lookup y.1).isSome=true):=λ⟨n,v⟩ hy=>by
  rcases S.par n (iM hy).1 with q|q;·exact .inl q
  ·exact .inr ⟨q,W.cellsFrom_some _ _ _ (.inl q)⟩
 refine codeAny_call_function hr.depth (KX _ _ lk) rfl S.co S.gen rfl (W.codeRec_of KX hcd) (hb _ _ _ _ ?_);refine ZD S.kind hkind λenv he s1 x=>?_;subst he;refine⟨lim.keeps x.toInCall.keep,codeAny_func ?_⟩;obtain⟨t,ht,hq⟩:=hbody A outer s H vs Q E (hr.deeper _) hsp;have I:Inv (fc CX P w K mg base N qual scope f cdv A outer s H E) [] (gW N vs) H s1:=td S hr.hd e0 hl r x;refine u9 (ht [] s1 (gW N vs) H _ I hq) (λfl s' hs=>?_) λe s' hs=>hs;have fin:∀{σ':St}{H':Hp}{v:V}{u:Value},Inv (fc CX P w K mg base N qual scope f cdv A outer s H E) [] σ' H' s'->RelV v u->Q v H'->CE outer P w H s Q u s':=
  λ{σ' H' v u} J rv q=>⟨v,H',J.os,J.bare,J.base,J.hok,rv,q⟩
 cases fl with
 |ret u=>obtain⟨v,σ',H',J,rv,q⟩:=hs;exact fin J rv q
 |next=>obtain⟨σ',H',J,q⟩:=hs;exact fin (v:=V.non) (u:=Value.none) J rfl q
 |brk=>obtain⟨_,_,_,q⟩:=hs;exact False.elim q
 |cont=>obtain⟨_,_,_,q⟩:=hs;exact False.elim q
end L2
variable{CX:L2.CXT}
namespace L2
open PySem PySem.Spec PyProof.Rows
section
variable{e:Expr}{t:TA}{id T:String}{r:List V->Hp->VK->Prop}
noncomputable def tCB(r:List V->Hp->VK->Prop)(t:TA):TE:=λσ H Q=>t σ H λvs H1=>r vs H1 Q
def qq(hc:kg X (.builtin id) r)(hg:Gl X x)(hm:X.mg x=none)(hv:bootBuiltins x=some (.builtin id))(ha:PA X (e::es) t)(hn:x≠"__name__":=by decide)(hdb:(x==("__debug__":Str))=false:=by decide)(he:starEach (e::es) X.env=(false,eval e X.env)::starEach es X.env:=by rfl)(hpl:(backTo pos (starEach es X.env)).any (·.1)=false:=by rfl):PE X (.Call (.Name x p) (e::es) [] pos) (tCB r t):=by
 intro pins s σ H Q I h;refine qk (nT I hg hm hv ?_ hn hdb);exact callWith_builtin1 (thn (ha pos pins s σ H _ I h) λus s1 ⟨vs,H1,I1,r1,q1⟩=>hc pins s1 σ H1 vs us Q I1 r1 q1) he hpl
def jQ(hc:kg X (.type T) r)(hg:Gl X x)(hm:X.mg x=none)(hv:bootBuiltins x=some (.type T))(ha:PA X (e::es) t)(hn:x≠"__name__":=by decide)(hdb:(x==("__debug__":Str))=false:=by decide)(he:starEach (e::es) X.env=(false,eval e X.env)::starEach es X.env:=by rfl)(hpl:(backTo pos (starEach es X.env)).any (·.1)=false:=by rfl):PE X (.Call (.Name x p) (e::es) [] pos) (tCB r t):=by
 intro pins s σ H Q I h;refine qk (nT I hg hm hv ?_ hn hdb);exact callWith_type1 (thn (ha pos pins s σ H _ I h) λus s1 ⟨vs,H1,I1,r1,q1⟩=>hc pins s1 σ H1 vs us Q I1 r1 q1) he hpl
end
end L2
namespace HT
open PySem PyProof.Rows
section
open PySem.SeqAt
open PySem.AutoSeq1 (wpAny_loadPart')
open PySem.MeetsSeq PySem.MeetsSeq2 PySem.MeetsSeq3
end
section
variable{prog:Program}{w:World}{A:Around}
theorem cat_tup{t b:Addr}{vs ws:List Value}{Q:Value->Shared->Prop}(ht:IsTup s.heap t vs.toArray)(hb:IsTup s.heap b ws.toArray)(hv:vs≠[])(h1:ws=[]->Q (.ref t) s)(h2:ws≠[]->Q (.ref s.heap.objs.size) { s with heap:=s.heap.push { cls:=.type "tuple",data:=.seq (vs++ws).toArray } })(hsz:vs.length+ws.length<=sizeLine):wpAny (model prog w) A (binaryOp .Add (.ref t) (.ref b)) Q E s:=by
 obtain⟨⟨cls,dd,data,sl⟩,ho,hc,n,hd⟩:=id ht;obtain⟨⟨cls2,dd2,data2,sl2⟩,ho2,hc2,n2,hd2⟩:=id hb;simp only at hc hd hc2 hd2;subst hc hd hc2 hd2;have e:vs.toArray++ws.toArray=(vs++ws).toArray:=by simp
 by_cases hw:ws=[]
 ·exact concat_meets ⟨_,ho,rfl⟩ ⟨_,ho2,rfl⟩ Z4 seq_tuple_add F.slot_tuple_add F.entry_tuple_add (F.args_tuple_add_2 _ _)
   (tuple_addW1 t b vs.toArray ws.toArray n n2 dd dd2 sl sl2 (by simpa using hv) (by simp[hw])) ⟨ho,ho2,h1 hw⟩
 ·refine concat_meets ⟨_,ho,rfl⟩ ⟨_,ho2,rfl⟩ Z4 seq_tuple_add F.slot_tuple_add F.entry_tuple_add (F.args_tuple_add_2 _ _)
   (tuple_addW2 t b vs.toArray ws.toArray n n2 dd dd2 sl sl2 (by simpa using hv) (by simpa using hw) (by rw[xi,xi];exact hsz)) ⟨ho,ho2,?_⟩;rw[e];exact h2 hw
noncomputable def sIx(n d:Nat):Option Int->Nat
 |none=>d
 |some v=>if v<0 then (v+(n:Int)).toNat else min v.toNat n
def sIx_none(n d:Nat):sIx n d none=d:=rfl
def sIx_nat(n d k:Nat):sIx n d (some (k:Int))=min k n:=by show(if (k:Int)<0 then ((k:Int)+(n:Int)).toNat else min (k:Int).toNat n)=min k n;rw[if_neg (by omega),t5]
def sIx_le(n d:Nat)(hd:d<=n)(o:Option Int):sIx n d o<=n:=by
 cases o with
 |none=>exact hd
 |some v=>
  show(if v<0 then (v+(n:Int)).toNat else min v.toNat n)<=n;by_cases hv:v<0;·rw[if_pos hv];omega
  ·rw[if_neg hv];exact Nat.min_le_right _ _
def zx(v:Int)(n d:Nat):(if v<0 then max (v+(n:Int)) 0 else min v (n:Int))=((sIx n d (some v):Nat):Int):=by
 show(if v<0 then max (v+(n:Int)) 0 else min v (n:Int))=(((if v<0 then (v+(n:Int)).toNat else min v.toNat n):Nat):Int);by_cases hv:v<0;·simp only[if_pos hv];omega
 ·simp only[if_neg hv];omega
def wZ(lo hi:Option Int)(n:Nat):Builtin.Slice.sliceAdjust lo hi 1 (n:Int)=(((sIx n 0 lo:Nat):Int),((sIx n n hi:Nat):Int)):=by
 have h1 : ¬ ((1:Int)<0):=by omega
 unfold Builtin.Slice.sliceAdjust;simp only[h1,uf];refine Prod.ext ?_ ?_
 ·cases lo with
  |none=>rfl
  |some v=>exact zx v n 0
 ·cases hi with
  |none=>rfl
  |some v=>exact zx v n n
def yb(i j:Nat):Builtin.Slice.slicePlaces (i:Int) (j:Int) 1=j - i:=by
 unfold Builtin.Slice.slicePlaces;have h1:(1:Int) > 0:=by omega
 simp only[h1,u6,Int.ediv_one];split <;> omega
def pA{v:Value}{o:Option Int}{Q:Option Int->Shared->Prop}(p:IsPart v o)(h:Q o s):wpAny (model prog w) A (Builtin.Slice.slicePartIndex v) Q E s:=by
 cases p with
 |none=>exact slicePart_none h
 |int i t=>exact slicePart_int h
def sliceApplied_gen{sl:Addr}{vl vu:Value}{lo hi:Option Int}{n:Nat}{Q:Int×Int×Nat->Shared->Prop}(hs:s.heap.IsSliceOf sl vl vu .none)(pl:IsPart vl lo)(pu:IsPart vu hi)(h:Q (((sIx n 0 lo:Nat):Int),1,sIx n n hi - sIx n 0 lo) s):wpAny (model prog w) A (Builtin.Slice.sliceApplied (.ref sl) (pure (n:Int))) Q E s:=by
 obtain⟨os,hos,hcs,hds⟩:=id hs;unfold Builtin.Slice.sliceApplied Builtin.Slice.sliceFields;refine y8 (y8 (s9 hos hds (x:=vl) rfl (y8 (s9 hos hds (x:=vu) rfl (y8 (s9 hos hds (x:=.none) rfl (y9 ?_)))))));refine y8 (slicePart_none ?_);show wpAny _ _ (if ((1:Int)==0)=true then _ else _) _ _ s;rw[if_neg (by decide)];refine y8 (pA pl (y8 (pA pu (y8 (y9 ?_)))));show wpAny _ _ (match Builtin.Slice.sliceAdjust lo hi 1 (n:Int)with|(lo,hi)=>pure (lo,(1:Int),Builtin.Slice.slicePlaces lo hi 1)) _ _ s;rw[wZ lo hi n];show wpAny _ _ (pure (((sIx n 0 lo:Nat):Int),(1:Int),Builtin.Slice.slicePlaces ((sIx n 0 lo:Nat):Int) ((sIx n n hi:Nat):Int) 1)) _ _ s;rw[yb];exact y9 h
def BM(xs:Array Value)(i k:Nat):((List.range k).filterMap λ(m:Nat)=>xs[((i:Int)+(m:Int) * 1).toNat]?).toArray=((xs.toList.drop i).take k).toArray:=by
 have e:(λ(m:Nat)=>xs[((i:Int)+(m:Int) * 1).toNat]?)=λm=>xs[i+m]?:=by
  funext m
  have:((i:Int)+(m:Int) * 1).toNat=i+m:=by omega
  rw[this]
 rw[e];have:=pick_run xs i k;rw[List.filterMap_map]at this;have e2:((λx=>xs[x]?) ∘ λx=>i+x)=λm=>xs[i+m]?:=rfl;rw[e2]at this;rw[this]
def getItem_tuple_cut{t sl:Addr}{items:Array Value}{vl vu:Value}{lo hi:Option Int}{Q:Value->Shared->Prop}(ht:IsTup s.heap t items)(hs:s.heap.IsSliceOf sl vl vu .none)(pl:IsPart vl lo)(pu:IsPart vu hi)(hw : ¬ (sIx items.size 0 lo=0/\sIx items.size items.size hi=items.size))(h:Q (.ref s.heap.objs.size) { s with heap:=s.heap.push { cls:=.type "tuple",data:=.seq ((items.toList.drop (sIx items.size 0 lo)).take (sIx items.size items.size hi - sIx items.size 0 lo)).toArray } })(hsz:items.size<=sizeLine):wpAny (model prog w) A (getItem (.ref t) (.ref sl)) Q E s:=by
 have htake:sizeOk (.seq ((items.toList.drop (sIx items.size 0 lo)).take (sIx items.size items.size hi - sIx items.size 0 lo)).toArray):=by show((items.toList.drop (sIx items.size 0 lo)).take (sIx items.size items.size hi - sIx items.size 0 lo)).toArray.size<=sizeLine;rw[xi,qc,iN,n8];omega
 have hj:sIx items.size items.size hi<=items.size:=sIx_le _ _ (yh _) hi;obtain⟨os,hos,hcs,hds⟩:=id hs;have hTs:s.TypeIs (.ref sl) "slice":=⟨os,hos,hcs⟩
 unfold getItem
 try with_reducible refine sT ?_
 first|refine y8 (y9 ?_)|skip
 refine y8 (wpAny_sequenceKey ht.typeIs (by decide) ?_);refine y8 (nE (name:=Str.ofString "__getitem__") ht.typeIs slot_tuple_getitem
  (r8 slot_tuple_getitem ht.typeIs entry_tuple_getitem ?_ (args_tuple_getitem _ _)));show wpAny _ _ (Builtin.Tuple.tupleItemsOf (.ref t)>>=_) _ _ s;refine y8 (j4 ht ?_);refine y8 (j5 hTs ?_);rw[if_pos (by decide)];refine y8 (sliceApplied_gen hs pl pu ?_);have hno : ¬ ((((sIx items.size 0 lo:Nat):Int)==0 && (1:Int)==1 && (sIx items.size items.size hi - sIx items.size 0 lo)==items.size)=true):=by
  intro q;rw[w5,w5]at q;have q1:((sIx items.size 0 lo:Nat):Int)=0:=m9 q.1.1;have q2:sIx items.size items.size hi - sIx items.size 0 lo=items.size:=m9 q.2;exact hw ⟨by omega,by omega⟩
 show wpAny _ _ (if (((sIx items.size 0 lo:Nat):Int)==0 && (1:Int)==1 && (sIx items.size items.size hi - sIx items.size 0 lo)==items.size)=true then _ else _) _ _ s;rw[if_neg hno,BM]
 first
  |exact y8 (m:=Builtin.Tuple.tupleExact _) (sZ (y9 ⟨_,rfl,y9 h⟩) htake)
  |exact y8 (m:=Builtin.Tuple.tupleExact _) (sZ (y8 (y9 (y9 ⟨_,rfl,y9 h⟩))) htake)
  |exact y8 (y8 (m:=Builtin.Tuple.tupleExact _) (sZ (y9 (y9 ⟨_,rfl,y9 h⟩)) htake))
  |exact y8 (y8 (m:=Builtin.Tuple.tupleExact _) (sZ (y9 ⟨_,rfl,y9 h⟩) htake))
end
end HT
namespace L2
open PySem PySem.Spec PyProof.Rows
noncomputable abbrev TO:=St->Hp->(Option Int->Hp->Prop)->Prop
noncomputable def PO(X:Cx)(e:Option Expr)(t:TO):Prop:=
 ∀(pins:List (Addr×Obj))(s:Shared)(σ:St)(H:Hp)(Q:Option Int->Hp->Prop),Inv X pins σ H s->t σ H Q->
  wpAny (model X.prog X.w) X.A (evalPart e X.env) (λu s'=>∃o H',Inv X pins σ H' s'/\IsPart u o/\Q o H') X.xe s
noncomputable def FG:TO:=λ_ H Q=>Q none H
noncomputable def Lb(t:TE):TO:=λσ H Q=>t σ H λx H1=>∃i,x=.int i/\Q (some i) H1
section
variable{e:Expr}{te:TE}{lo hi:Option Expr}{tl th:TO}{p2:Pos}
def Fm:PO X none FG:=by intro pins s σ H Q I h;rw[evalPart_none];exact y9 ⟨none,H,I,.none,h⟩
def Gb(h:PE X e te):PO X (some e) (Lb te):=by intro pins s σ H Q I hw;rw[evalPart_some];refine thn (h pins s σ H _ I hw) λu s1 ⟨x,H1,I1,r1,q1⟩=>?_;obtain⟨i,rfl,q⟩:=q1;obtain⟨t,rfl⟩:=r1;exact⟨some i,H1,I1,.int i t,q⟩
noncomputable def SlR(X:Cx)(r:V->Option Int->Option Int->Hp->VK->Prop):Prop:=
 ∀(pins:List (Addr×Obj))(s:Shared)(σ:St)(H:Hp)(x:V)(v vl vu:Value)(lo hi:Option Int)(sl:Addr)(Q:VK),Inv X pins σ H s->RelV x v->s.heap.IsSliceOf sl vl vu .none->IsPart vl lo->IsPart vu hi->r x lo hi H Q->
  ∃T id,typeLookup (.type T) "__getitem__"=pure (some (.builtin id))/\s.TypeIs v T/\wpAny (model X.prog X.w) X.A (getItem v (.ref sl)) (EP X pins σ Q) X.xe s
def SlR.or{r r':V->Option Int->Option Int->Hp->VK->Prop}(h:SlR X r)(h':SlR X r'):SlR X (λx lo hi H Q=>r x lo hi H Q\/r' x lo hi H Q):=by
 intro pins s σ H x v vl vu lo hi sl Q I rx hs pl pu q;rcases q with q|q;·exact h pins s σ H x v vl vu lo hi sl Q I rx hs pl pu q
 ·exact h' pins s σ H x v vl vu lo hi sl Q I rx hs pl pu q
noncomputable def tSl(r:V->Option Int->Option Int->Hp->VK->Prop)(te:TE)(tl th:TO):TE:=λσ H Q=>te σ H λx H1=>tl σ H1 λl H2=>th σ H2 λu H3=>r x l u H3 Q
def wt{r:V->Option Int->Option Int->Hp->VK->Prop}(hr:SlR X r)(he:PE X e te)(hl:PO X lo tl)(hu:PO X hi th):PE X (.Subscript e (.Slice lo hi none p2) pos) (tSl r te tl th):=by intro pins s σ H Q I h;refine Subscript_ (thn (he pins s σ H _ I h) λv s1 ⟨x,H1,I1,r1,q1⟩=>?_);refine wpAny_Slice (thn (hl pins s1 σ H1 _ I1 q1) λvl s2 ⟨l,H2,I2,pl,q2⟩=>thn (hu pins s2 σ H2 _ I2 q2) λvu s3 ⟨u,H3,I3,pu,q3⟩=>?_);rw[evalPart_none];refine y9 ?_;have I4:Inv X pins σ H3 { s3 with heap:=s3.heap.push { cls:=.type "slice",data:=.fields #[vl,vu,.none] } }:=I3.kept (t':=s3.toks) λb ob q=>yq _ q;obtain⟨T,id,hT,ht,hg⟩:=hr pins { s3 with heap:=s3.heap.push { cls:=.type "slice",data:=.fields #[vl,vu,.none] } } σ H3 x v vl vu l u s3.heap.objs.size Q I4 r1 (Heap.IsSliceOf.new ..) pl pu q3;show wpAny (model X.prog X.w) X.A (subscriptTail e (.Slice lo hi none p2) v (.ref s3.heap.objs.size)) (EP X pins σ Q) X.xe { s3 with heap:=s3.heap.push { cls:=.type "slice",data:=.fields #[vl,vu,.none] } };exact tail_any (ops:=[.ref s3.heap.objs.size,v]) ht hT hg (by with_unfolding_all rfl)
noncomputable def DY(xs:List V)(lo hi:Option Int):List V:=(xs.drop (HT.sIx xs.length 0 lo)).take (HT.sIx xs.length xs.length hi - HT.sIx xs.length 0 lo)
def nW(xs:List V)(lo hi:Option Int):(DY xs lo hi).length<=xs.length:=by unfold DY;rw[qc,iN];omega
noncomputable def ML(K:W.Frag):V->Option Int->Option Int->Hp->VK->Prop:=λx lo hi H Q=>∃a xs,x=.ref a/\SqT K H a xs/\
 ¬ (HT.sIx xs.length 0 lo=0/\HT.sIx xs.length xs.length hi=xs.length)/\∀p,H p=none->Q (.ref p) (upd H p (.tup (DY xs lo hi)))
def sl_tup:SlR X (ML X.K):=by
 intro pins s σ H x v vl vu lo hi sl Q I rx hs pl pu h;obtain⟨a,xs,rfl,hx,hw,q⟩:=h;cases rx;obtain⟨its,r,ht,hz⟩:=I.tuple hx;have hlen:its.toArray.size=xs.length:=by rw[xi];exact r.length.symm
 refine⟨"tuple",_,slot_tuple_getitem.lookup,ht.typeIs,?_⟩;refine HT.getItem_tuple_cut ht hs pl pu (by rw[hlen];exact hw) ?_ (by rw[hlen];exact hz);rw[hlen];refine⟨.ref s.heap.objs.size,_,I.laid (t':=s.toks) (o:=.tup (DY xs lo hi)) (λb ob q=>yq _ q) (yh _) ?_,rfl,q _ (I.hok.fresh (yh _))⟩;exact⟨w8 (nW xs lo hi) hz,_,(r.drop (HT.sIx xs.length 0 lo)).take (HT.sIx xs.length xs.length hi - HT.sIx xs.length 0 lo),n9 _ _⟩
noncomputable def Mr(K:W.Frag):R2:=λx y H Q=>∃a b xs ys,x=.ref a/\y=.ref b/\SqT K H a xs/\SqT K H b ys/\xs≠[]/\xs.length+ys.length<=sizeLine/\
 (ys=[]->Q (.ref a) H)/\(ys≠[]->∀p,H p=none->Q (.ref p) (upd H p (.tup (xs++ys))))
def Vals.nil_iff(r:Vals xs us):us=[] ↔ xs=[]:=by
 cases r with
 |nil=>simp
 |cons _ _=>simp
def ED:OpR X (binaryOp .Add) (Mr X.K):=by intro pins s σ H x y v u Q I rx ry h;obtain⟨a,b,xs,ys,rfl,rfl,ha,hb,hx,hz,q1,q2⟩:=h;cases rx;cases ry;obtain⟨its,r1,p1,_⟩:=I.tuple ha;obtain⟨its2,r2,p2,_⟩:=I.tuple hb;refine HT.cat_tup p1 p2 (λz=>hx (r1.nil_iff.mp z)) (λz=>⟨.ref a,H,I,rfl,q1 (r2.nil_iff.mp z)⟩) (λz=>?_) (by rw[<- r1.length,<- r2.length];exact hz);refine⟨.ref s.heap.objs.size,_,I.laid (t':=s.toks) (o:=.tup (xs++ys)) (λb ob q=>yq _ q) (yh _) ?_,rfl,q2 (λw=>z (r2.nil_iff.mpr w)) _ (I.hok.fresh (yh _))⟩;exact⟨by rw[ud];exact hz,_,r1.append r2,n9 _ _⟩
end
noncomputable def ixN(n:Nat)(i:Int):Option Nat:=if 0<=i then (if i<n then some i.toNat else none)else if -(n:Int)<=i then some (i+n).toNat else none
noncomputable def atI{α:Type}(xs:List α)(i:Int):Option α:=(ixN xs.length i).bind λj=>xs[j]?
def yw{n:Nat}{i:Int}(h:ixN n i=some j):seqIndex? i n=some j/\j<n/\-(n:Int)<=i/\i<n:=by
 unfold ixN at h;by_cases h0:0<=i
 ·rw[if_pos h0]at h;by_cases h1:i<n;·rw[if_pos h1]at h;have e:i.toNat=j:=xV h;exact⟨by rw[seqIndex_of h0 h1,e],by omega,by omega,h1⟩
  ·rw[if_neg h1]at h;cases h
 ·rw[if_neg h0]at h;by_cases h1 : -(n:Int)<=i;·rw[if_pos h1]at h;have e:(i+n).toNat=j:=xV h;exact⟨by rw[seqIndex_neg (by omega) h1,e],by omega,h1,by omega⟩
  ·rw[if_neg h1]at h;cases h
def uL{α:Type}{xs:List α}{i:Int}{v:α}(h:atI xs i=some v):∃j,seqIndex? i xs.length=some j/\xs[j]?=some v/\j<xs.length/\-(xs.length:Int)<=i/\i<xs.length:=by
 unfold atI at h;cases e:ixN xs.length i with
 |none=>rw[e]at h;cases h
 |some j=>rw[e]at h;obtain⟨h1,h2,h3,h4⟩:=yw e;exact⟨j,h1,h,h2,h3,h4⟩
def vz{α:Type}{xs:List α}{v:α}(h:xs[j]?=some v):atI xs (j:Int)=some v:=by
 have hj:j<xs.length:=(u8.mp h).1;have e:ixN xs.length (j:Int)=some j:=by unfold ixN;rw[if_pos (by omega),if_pos (by omega)];simp
 unfold atI;rw[e];exact h
noncomputable def pX(b:Expr):Prop:=∀o i,subscripted b false o i=operate [o,i] (getItem o i)
noncomputable def IxR(X:Cx)(r:R2):Prop:=
 ∀(value slice:Expr)(pins:List (Addr×Obj))(s:Shared)(σ:St)(H:Hp)(x y:V)(v u:Value)(Q:VK),Inv X pins σ H s->RelV x v->RelV y u->r x y H Q->
  subscripted slice false v u=operate [v,u] (getItem v u)->wpAny (model X.prog X.w) X.A (subscriptTail value slice v u) (EP X pins σ Q) X.xe s
noncomputable def MtR(X:Cx)(id:String)(r:V->List V->Hp->VK->Prop):Prop:=
 ∀(pins:List (Addr×Obj))(s:Shared)(σ:St)(H:Hp)(x:V)(xs:List V)(v:Value)(us:List Value)(Q:VK),Inv X pins σ H s->RelV x v->Vals xs us->r x xs H Q->
  wpAny (model X.prog X.w) X.A (call (.builtin id) (v::us)) (EP X pins σ Q) X.xe s
section
variable{a b:Expr}{ta tb:TE}
def IxR.or{r r':R2}(h:IxR X r)(h':IxR X r'):IxR X (λx y H Q=>r x y H Q\/r' x y H Q):=by
 intro value slice pins s σ H x y v u Q I rx ry q hs;rcases q with q|q;·exact h value slice pins s σ H x y v u Q I rx ry q hs
 ·exact h' value slice pins s σ H x y v u Q I rx ry q hs
def E4{r:R2}(hr:IxR X r)(ha:PE X a ta)(hb:PE X b tb)(hs:pX b):PE X (.Subscript a b pos) (tOp r ta tb):=by intro pins s σ H Q I h;exact Subscript_ (Lx ha hb I h λv u s2 x y H2 I2 rx ry q=>hr a b pins s2 σ H2 x y v u Q I2 rx ry q (hs _ _))
noncomputable def Mv(K:W.Frag):R2:=λx y H Q=>∃p xs i v,x=.ref p/\y=.int i/\SqL K H p xs/\atI xs i=some v/\Q v H
noncomputable def Mz(K:W.Frag):R2:=λx y H Q=>∃p xs i v,x=.ref p/\y=.int i/\SqT K H p xs/\atI xs i=some v/\Q v H
noncomputable def MI:R2:=λx y H Q=>∃z i c,x=.str z/\y=.int i/\z.length<=sizeLine/\atI z.cps.toList i=some c/\Q (.str ⟨#[c]⟩) H
def ix_list:IxR X (Mv X.K):=by
 intro value slice pins s σ H x y v u Q I rx ry h hs;obtain⟨p,xs,i,z,rfl,rfl,hq,he,q⟩:=h;cases rx;obtain⟨t,rfl⟩:=ry;obtain⟨its,r,pl,hz⟩:=I.list hq;obtain⟨j,h1,h2,h3,h4,h5⟩:=uL he;obtain⟨w,ew,rw'⟩:=r.get h2;have hl:=r.length;have hn:=pB;have fin:EP X pins σ Q w s:=⟨z,H,I,rw',q⟩
 by_cases h0:0<=i
 ·have hj:i.toNat=j:=by rw[seqIndex_of h0 h5]at h1;exact xV h1
  exact item_listR pl.isList h0 (by omega) (by rw[hj];simpa using ew) fin hs
 ·have hj:(i+(its.toArray.size:Int)).toNat=j:=by rw[seqIndex_neg (by omega) h4]at h1;rw[xi,<- hl];exact xV h1
  exact subscriptTail_builtinR (x:=w) pl.isList.typeIs slot_list_getitem.lookup
   (wpAny_getItem_list_neg (Q:=λr s'=>r=w/\EP X pins σ Q r s') pl.isList (by omega) (by rw[xi] <;> omega) (by omega) (by rw[hj];simpa using ew) ⟨rfl,fin⟩) hs
def ix_tup:IxR X (Mz X.K):=by
 intro value slice pins s σ H x y v u Q I rx ry h hs;obtain⟨p,xs,i,z,rfl,rfl,hq,he,q⟩:=h;cases rx;obtain⟨t,rfl⟩:=ry;obtain⟨its,r,pl,hz⟩:=I.tuple hq;obtain⟨j,h1,h2,h3,h4,h5⟩:=uL he;obtain⟨w,ew,rw'⟩:=r.get h2;have hl:=r.length;have hn:=pB;have fin:EP X pins σ Q w s:=⟨z,H,I,rw',q⟩
 exact subscriptTail_builtinR (x:=w) pl.typeIs slot_tuple_getitem.lookup
  (getItem_tuple (j:=j) (Q:=λr s'=>r=w/\EP X pins σ Q r s') pl (by omega) (by omega) (by rw[xi,<- hl];exact h1) (by simpa using ew) ⟨rfl,fin⟩) hs
def J5:IxR X MI:=by
 intro value slice pins s σ H x y v u Q I rx ry h hs;obtain⟨z,i,c,rfl,rfl,hz,he,q⟩:=h;obtain⟨t,rfl⟩:=rx;obtain⟨t',rfl⟩:=ry;obtain⟨j,h1,h2,h3,h4,h5⟩:=uL he;have hl:z.cps.toList.length=z.length:=by simp[Str.length]
 rw[hl]at h1 h4 h5;have hn:=pB;exact tail_any (typeIs_str s z t) slot_str_getitem.lookup (getItem_str (c:=c) (by have e1:decide (i < -(2 ^ 63:Int))=false:=u7 (by omega);have e2:decide (i ≥ 2 ^ 63)=false:=u7 (by omega);rw[e1,e2,Bool.or_false]) (by rw[h1];simpa using h2) ⟨.str ⟨#[c]⟩,H,I.tok _,⟨_,rfl⟩,q⟩) hs
noncomputable def rIx(K:W.Frag):R2:=λx y H Q=>Mv K x y H Q\/Mz K x y H Q\/MI x y H Q
def Jc:IxR X (rIx X.K):=ix_list.or (ix_tup.or J5)
def xB(its:List Value)(n j:Nat)(u:Value):Obj.mapSeq (·.setIfInBounds j u) { cls:=.type "list",data:=.seq its.toArray n }={ cls:=.type "list",data:=.seq (its.set j u).toArray n }:=by simp[Obj.mapSeq]
def Inv.lst{p:Addr}(I:Inv X pins σ H s)(h:H p=some (.lst xs)):
  ∃(its:List Value)(n:Nat),Vals xs its/\s.heap.get? p=some { cls:=.type "list",data:=.seq its.toArray n }/\xs.length<=sizeLine:=by
 obtain⟨z,its,n,r,e⟩:=I.hok p _ h;exact⟨its,n,r,e,z⟩
def Inv.lstUpd{p:Addr}{ys:List V}{its':List Value}{n n':Nat}{f:Obj->Obj}(I:Inv X pins σ H s)(h:H p=some (.lst xs))(ho:s.heap.get? p=some { cls:=.type "list",data:=.seq its.toArray n })(hf:f { cls:=.type "list",data:=.seq its.toArray n }={ cls:=.type "list",data:=.seq its'.toArray n' })(r:Vals ys its')(hz:ys.length<=sizeLine)(t:Nat):
  Inv X pins σ (upd H p (.lst ys)) { s with heap:=s.heap.update p f,toks:=t }:=by
 have e:(s.heap.update p f).get? p=some { cls:=.type "list",data:=.seq its'.toArray n' }:=by rw[Z5 f ho (by rw[hf] <;> rfl),hf]
 refine I.write (x:=p) (e:=p) (by rw[h];trivial) (.inl rfl) (λb u hb q=>(Heap.get?_update_other _ _ (uw hb)).trans q) ⟨_,e⟩ ?_;exact⟨hz,its',n',r,e⟩
noncomputable def KZ:V->V->V->Hp->(Hp->Prop)->Prop:=λo i v H Q=>∃p xs k j,o=.ref p/\i=.int k/\H p=some (.lst xs)/\ixN xs.length k=some j/\Q (upd H p (.lst (xs.set j v)))
def Cc:Mm X KZ:=by
 intro pins s σ H o i v ov iv u Q I ro ri rv h;obtain⟨p,xs,k,j,rfl,rfl,hp,hj,q⟩:=h;cases ro;obtain⟨t,rfl⟩:=ri;obtain⟨its,n,r,ho,hz⟩:=I.lst hp;obtain⟨h1,h2,h3,h4⟩:=yw hj;have hl:=r.length;have hn:=pB;have I':Inv X pins σ (upd H p (.lst (xs.set j v))) { s with heap:=s.heap.update p (Obj.mapSeq (·.setIfInBounds j u)) }:=
  I.lstUpd hp ho (xB its n j u) (r.set rv j) (by rw[List.length_set];exact hz) s.toks;by_cases h0:0<=k
 ·have hk:k.toNat=j:=by rw[seqIndex_of h0 h4]at h1;exact xV h1
  exact W.ki_setAt ho h0 (by omega) (by rw[xi,<- hl];exact h4) (by rw[hk];exact⟨_,I',q⟩)
 ·have hk:(k+(its.toArray.size:Int)).toNat=j:=by rw[seqIndex_neg (by omega) h3]at h1;rw[xi,<- hl];exact xV h1
  exact W.ki_setBack ho (by omega) (by rw[xi,<- hl];exact h3) (by omega) (by rw[hk];exact⟨_,I',q⟩)
def rZ(lo hi:Option Int)(n:Nat):(sliceBounds lo hi none n).1=((HT.sIx n 0 lo:Nat):Int)/\(sliceBounds lo hi none n).2.1=((HT.sIx n n hi:Nat):Int)/\(sliceBounds lo hi none n).2.2=1:=by
 refine⟨?_,?_,rfl⟩
 ·cases lo with
  |none=>simp[sliceBounds,HT.sIx]
  |some i=>
   simp only[sliceBounds,HT.sIx,Option.getD_none,show(1:Int) > 0 by decide,u6];by_cases h:i<0;·simp only[h,u6] <;> omega
   ·simp only[h,uf] <;> omega
 ·cases hi with
  |none=>simp[sliceBounds,HT.sIx]
  |some i=>
   simp only[sliceBounds,HT.sIx,Option.getD_none,show(1:Int) > 0 by decide,u6];by_cases h:i<0;·simp only[h,u6] <;> omega
   ·simp only[h,uf] <;> omega
def qu(its:List Value)(lo hi:Option Int):slicePick its.toArray lo hi none=((its.drop (HT.sIx its.length 0 lo)).take (HT.sIx its.length its.length hi - HT.sIx its.length 0 lo)).toArray:=by obtain⟨h1,h2,h3⟩:=rZ lo hi its.toArray.size;unfold slicePick;rw[h1,h2,h3];simp only[sliceRange_one,pick_run,xi] <;> rfl
noncomputable def MN(K:W.Frag):V->Option Int->Option Int->Hp->VK->Prop:=λx lo hi H Q=>∃a xs,x=.ref a/\SqL K H a xs/\∀p,H p=none->Q (.ref p) (upd H p (.lst (DY xs lo hi)))
def AK:SlR X (MN X.K):=by intro pins s σ H x v vl vu lo hi sl Q I rx hs pl pu h;obtain⟨a,xs,rfl,hx,q⟩:=h;cases rx;obtain⟨its,r,ht,hz⟩:=I.list hx;have hlen:=r.length;refine⟨"list",_,slot_list_getitem.lookup,ht.isList.typeIs,?_⟩;refine wpAny_getItem_list_slice ht.isList hs pl pu .none (by simp) ?_ (by rw[xi] <;> omega);rw[qu,<- hlen];refine⟨.ref s.heap.objs.size,_,I.laid (t':=s.toks) (o:=.lst (DY xs lo hi)) (λb ob q=>yq _ q) (yh _) ?_,rfl,q _ (I.hok.fresh (yh _))⟩;exact⟨w8 (nW xs lo hi) hz,_,0,(r.drop (HT.sIx xs.length 0 lo)).take (HT.sIx xs.length xs.length hi - HT.sIx xs.length 0 lo),w6 _ rfl⟩
def kP:kg X (.type "list") (λxs H Q=>∃p ys,xs=[.ref p]/\(SqL X.K H p ys\/SqT X.K H p ys)/\∀l,H l=none->Q (.ref l) (upd H l (.lst ys))):=by
 intro pins s σ H xs us Q I r h;obtain⟨p,ys,rfl,hq,q⟩:=h;obtain⟨u,rfl,rx⟩:=Ck r;cases rx;have fin:∀(its:List Value),Vals ys its->ys.length<=sizeLine->∀(h':Heap)(c':Nat),(∀b o',s.heap.get? b=some o'->h'.get? b=some o')->
   h'.get? s.heap.objs.size=some { cls:=.type "list",dict:=none,data:=.seq its.toArray c',slots:=#[] }->EP X pins σ Q (.ref s.heap.objs.size) { s with heap:=h' }:=λits r' hz h' c' kp e=>
  ⟨.ref s.heap.objs.size,_,I.laid (t':=s.toks) kp (yh _) (show ObjOk X.prog X.w _ h' _ (.lst ys) from⟨hz,its,c',r',e⟩),rfl,q _ (I.hok.fresh (yh _))⟩
 rcases hq with hq|hq;·obtain⟨its,r',pl,hz⟩:=I.list hq;have hlen:=r'.length;obtain⟨o,ho,hc,n,hd⟩:=pl.isList;exact call_list_seq p (.inl rfl) ho hc hd (λh' c' kp e=>fin its r' hz h' c' kp e) (by simp only[xi] <;> omega)
 ·obtain⟨its,r',pl,hz⟩:=I.tuple hq;have hlen:=r'.length;obtain⟨o,ho,hc,n,hd⟩:=pl;exact call_list_seq p (.inr rfl) ho hc hd (λh' c' kp e=>fin its r' hz h' c' kp e) (by simp only[xi] <;> omega)
def qY:kg X (.type "tuple") (λxs H Q=>∃p ys,xs=[.ref p]/\((SqL X.K H p ys/\∀l,H l=none->Q (.ref l) (upd H l (.tup ys)))\/(SqT X.K H p ys/\Q (.ref p) H))):=by
 intro pins s σ H xs us Q I r h;obtain⟨p,ys,rfl,h⟩:=h;obtain⟨u,rfl,rx⟩:=Ck r;cases rx;rcases h with⟨hq,q⟩|⟨hq,q⟩
 ·obtain⟨its,r',pl,hz⟩:=I.list hq;have hlen:=r'.length;refine call_tuple_list pl.isList (λh' kp=>?_) (by simp only[xi] <;> omega);have I1:Inv X pins σ H { s with heap:=h' }:=I.kept (t':=s.toks) kp;have I2:Inv X pins σ (upd H h'.objs.size (.tup ys)) { s with heap:=h'.push { cls:=.type "tuple",data:=.seq its.toArray } }:=
   I1.laid (t':=s.toks) (λb o e=>yq _ e) (yh _) (show ObjOk X.prog X.w _ _ _ (.tup ys) from⟨hz,its,r',n9 _ _⟩);exact⟨.ref h'.objs.size,_,I2,rfl,q _ (I1.hok.fresh (yh _))⟩
 ·obtain⟨its,r',pl,hz⟩:=I.tuple hq;exact call_tuple_same pl ⟨.ref p,H,I,rfl,q⟩
noncomputable def tyV(K:W.Frag)(T:String)(x:V)(H:Hp):Prop:=match x with
 |.str _=>T="str"
 |.int _=>T="int"
 |.ref p=>(T="list"/\∃xs,SqL K H p xs)\/(T="tuple"/\∃o,K.lookup p=some o/\o.cls=.type "tuple"/\o.dict=none)\/
   (T="dict"/\((∃kvs,H p=some (.dK kvs))\/∃kvs,H p=some (.dT kvs)))\/(T="set"/\∃S n,H p=some (.set S n))
 |_=>False
def JB{T:String}{x:V}{v:Value}(I:Inv X pins σ H s)(r:RelV x v)(ty:tyV X.K T x H):
  s.TypeIs v T/\∀a,v=.ref a->∃ob,s.heap.get? a=some ob/\ob.dict=none:=by
 cases x with
 |str z=>obtain⟨t,rfl⟩:=r;cases (show T="str" from ty);exact⟨typeIs_str s z t,λ_ e=>nomatch e⟩
 |int i=>obtain⟨t,rfl⟩:=r;cases (show T="int" from ty);exact⟨mJ s i t,λ_ e=>nomatch e⟩
 |ref p=>
  cases r;rcases ty with⟨rfl,xs,hq⟩|⟨rfl,o,hk,hc,hd⟩|⟨rfl,hk⟩|⟨rfl,S,n,hk⟩
  ·obtain⟨its,_,pl,_⟩:=I.list hq;refine⟨pl.isList.typeIs,λa e=>?_⟩;cases e;obtain⟨o,n,e,c,hd,_⟩:=pl;exact⟨o,e,hd⟩
  ·refine⟨⟨o,I.kIn p o hk,hc⟩,λa e=>?_⟩;cases e;exact⟨o,I.kIn _ o hk,hd⟩
  ·have z:∃o,s.heap.get? p=some o/\o.ExactDict:=by
    rcases hk with⟨kvs,hk⟩|⟨kvs,hk⟩;·obtain⟨_,_,_,_,o,_,_,e,ex,_⟩:=I.hok p _ hk;exact⟨o,e,ex⟩
    ·obtain⟨_,_,_,_,o,_,_,e,ex,_⟩:=I.hok p _ hk;exact⟨o,e,ex⟩
   obtain⟨o,e,ex⟩:=z;refine⟨⟨o,e,ex.1⟩,λa e2=>?_⟩;cases e2;exact⟨o,e,ex.2.1⟩
  ·obtain⟨o,_,_,_,e,ex,_⟩:=I.hok p _ hk;refine⟨⟨o,e,ex.1⟩,λa e2=>?_⟩;cases e2;exact⟨o,e,ex.2.1⟩
 |_=>exact False.elim ty
noncomputable def tBM(K:W.Frag)(T:String)(r:V->List V->Hp->VK->Prop)(to:TE)(t:TA):TE:=λσ H Q=>to σ H λx H1=>tyV K T x H1/\t σ H1 λxs H2=>r x xs H2 Q
variable{o e:Expr}{to:TE}{t:TA}{name:Str}{apos cpos:Pos}{T id:String}{r:V->List V->Hp->VK->Prop}
def xv(pa:PlainAttrs T)(slot:Slot T name id)(hty:typeOf (.builtin id)=pure (.type "method_descriptor"))(hm:MtR X id r)(ho:PE X o to)(ha:PA X (e::es) t)(hbase:attributeBase o name X.env (eval o X.env)=eval o X.env:=by rfl)(hfew:((backTo cpos (starEach (e::es) X.env)).all (λx=>!x.1) && (backToKw cpos (keywordEach [] X.env)).all (λx=>x.1.isSome)
 && decide ((e::es).length+([]:List Keyword).length+(if ([]:List Keyword).isEmpty then 0 else 1)<30))=true:=by rfl)(hline:(apos.endLine==cpos.line)=true:=by rfl)(hs:starEach (e::es) X.env=(false,eval e X.env)::starEach es X.env:=by rfl)(hplain:(backTo cpos (starEach es X.env)).any (·.1)=false:=by rfl):
  PE X (.Call (.Attribute o name apos) (e::es) [] cpos) (tBM X.K T r to t):=by
 intro pins s σ H Q I h;refine wpAny_Call_method_late hbase hfew hline rfl (thn (ho pins s σ H _ I h) λv s1 ⟨x,H1,I1,r1,ty,q1⟩=>?_);obtain⟨h1,h2⟩:=JB I1 r1 ty;refine⟨T,id,pa,slot,hty,h1,h2,?_⟩;have hA:=ha cpos pins s1 σ H1 _ I1 q1;rw[hs]at hA⊢;refine Calls.callWith_builtin (by show(false || (backTo cpos (starEach es X.env)).any (·.1))=false;rw[hplain] <;> rfl) (Calls.evalArgs_plain ?_);exact thn hA λus s2 ⟨vs,H2,I2,r2,q2⟩=>hm pins s2 σ H2 x vs v us Q I2 r1 r2 q2
/- xs.append(e),list.index on a module's tuple .. are MtR facts of 06m -/
end
noncomputable def MtM(X:Cx)(id:String)(r:V->List V->Hp->VK->Prop):Prop:=
 ∀(pins:List (Addr×Obj))(s:Shared)(σ:St)(H:Hp)(x:V)(xs:List V)(v:Value)(us:List Value)(Q:VK),Inv X pins σ H s->RelV x v->Vals xs us->r x xs H Q->
  wpAny (model X.prog X.w) X.A (call (.builtin id) (v::us)) (EP X pins σ Q) X.xe s
def Vals.one:∀{x:V}{us:List Value},Vals [x] us->∃u,us=[u]/\RelV x u
 |_,_,.cons r .nil=>⟨_,rfl,r⟩
def Vals.two:∀{x y:V}{us:List Value},Vals [x,y] us->∃u v,us=[u,v]/\RelV x u/\RelV y v
 |_,_,_,.cons r (.cons q .nil)=>⟨_,_,rfl,r,q⟩
theorem Vals.rep(h:Vals xs us):∀k:Nat,Vals (List.replicate k xs).flatten (List.replicate k us).flatten
 | 0=>.nil
 |k+1=>by rw[r9,r9,oE,oE];exact Vals.append h (Vals.rep h k)
theorem jp(its:List Value):∀(k:Nat)(acc:List Value),
  List.foldl (λx1 x2=>x1++x2) acc.toArray (List.replicate k its.toArray)=(acc++(List.replicate k its).flatten).toArray
 | 0,acc=>by simp
 |k+1,acc=>by
  have e:acc.toArray++its.toArray=(acc++its).toArray:=by simp
  have e2:(acc++its)++(List.replicate k its).flatten=acc++(List.replicate (k+1) its).flatten:=by rw[r9,oE,lm]
  rw[<- e2,<- jp its k (acc++its),<- e,r9,oH]
section
variable{l b:Addr}{ys zs:List V}
def Inv.lset{its':List Value}{n:Nat}{f:Array Value->Array Value}{t':Nat}(I:Inv X pins σ H s)(hH:H l=some (.lst xs))(e:s.heap.get? l=some { cls:=.type "list",data:=.seq its.toArray n })(hf:f its.toArray=its'.toArray)(hv:Vals ys its')(hz:ys.length<=sizeLine):
  Inv X pins σ (upd H l (.lst ys)) { s with heap:=s.heap.update l (Obj.mapSeq f),toks:=t' }:=by
 have q:=PySem.IsL.update e f;rw[hf]at q;refine I.write (x:=l) (e:=l) (by rw[hH];exact trivial) (.inl rfl) (λb' u hb hu=>(Heap.get?_update_other s.heap (Obj.mapSeq f) (uw hb)).trans hu) ⟨_,q⟩ ?_;exact⟨hz,its',_,hv,q⟩
def Inv.lnew{t':Nat}(I:Inv X pins σ H s)(hv:Vals ys its)(hz:ys.length<=sizeLine):
  Inv X pins σ (upd H s.heap.objs.size (.lst ys)) { s with heap:=s.heap.push { cls:=.type "list",data:=.seq its.toArray },toks:=t' }:=
 I.laid (λ_ _ q=>yq _ q) (yh _) ⟨hz,its,0,hv,w6 _ rfl⟩
def Inv.fresh(I:Inv X pins σ H s):H s.heap.objs.size=none:=I.hok.fresh (yh _)
def Inv.lstM(I:Inv X pins σ H s)(hH:H l=some (.lst xs)):xs.length<=sizeLine/\∃(its:List Value)(n:Nat),Vals xs its/\xs.length=its.length/\s.heap.get? l=some { cls:=.type "list",data:=.seq its.toArray n }:=by obtain⟨z,its,n,r,e⟩:=I.hok l _ hH;exact⟨z,its,n,r,r.length,e⟩
def qF{n:Nat}(h:n<=sizeLine):Builtin.List.listTooLong n=false:=by unfold Builtin.List.listTooLong;exact u7 (by omega)
end
section
noncomputable def FX:V->List V->Hp->VK->Prop:=λx vs H Q=>∃l xs y,x=.ref l/\vs=[y]/\H l=some (.lst xs)/\xs.length<sizeLine/\Q .non (upd H l (.lst (xs++[y])))
theorem jy:MtM X "list.append" FX:=by intro pins s σ H x vs v us Q I rx rv h;obtain⟨l,xs,y,rfl,rfl,hH,hz,q⟩:=h;cases rx;obtain⟨u,rfl,ru⟩:=rv.one;obtain⟨z,its,n,r,hl,e⟩:=I.lstM hH;refine qt F.slot_list_append ⟨_,e,rfl⟩ F.entry_list_append (F.args_list_append_2 _ _) (PySem.list_append l its.toArray n u (by rw[xi];omega)) ⟨e,?_⟩;refine⟨.non,_,I.lset (its':=its++[u]) hH e (by simp) (r.append (.cons ru .nil)) ?_,rfl,q⟩;rw[ud,iO];omega
noncomputable def Fj:V->List V->Hp->VK->Prop:=λx vs H Q=>∃l b xs zs,x=.ref l/\vs=[.ref b]/\H l=some (.lst xs)/\H b=some (.lst zs)/\xs.length+zs.length<=sizeLine/\Q .non (upd H l (.lst (xs++zs)))
theorem Ac:MtM X "list.extend" Fj:=by
 intro pins s σ H x vs v us Q I rx rv h;obtain⟨l,b,xs,zs,rfl,rfl,hH,hB,hz,q⟩:=h;cases rx;obtain⟨u,rfl,ru⟩:=rv.one;cases ru;obtain⟨z,its,n,r,hl,e⟩:=I.lstM hH;obtain⟨z2,its2,n2,r2,hl2,e2⟩:=I.lstM hB;have hsz:its.toArray.size+its2.toArray.size<=sizeLine:=by rw[xi,xi];omega
 have hlong : ¬ (!its.toArray.isEmpty && Builtin.List.listTooLong (its.toArray.size+its2.toArray.size))=true:=by rw[qF hsz,j6];exact uq
 refine qt F.slot_list_extend ⟨_,e,rfl⟩ F.entry_list_extend (F.args_list_extend_2 _ _)
  (AutoSeq1.list_extend_list_list_0 l its.toArray n b its2.toArray n2 hlong (by rw[xi];omega) (by omega)) ⟨e,e2,?_⟩;refine⟨.non,_,I.lset (its':=its++its2) hH e (by simp) (r.append r2) ?_,rfl,q⟩;rw[ud];omega
noncomputable def MM:R2:=λx y H Q=>∃l b xs zs,x=.ref l/\y=.ref b/\H l=some (.lst xs)/\H b=some (.lst zs)/\xs.length+zs.length<=sizeLine/\∀p,H p=none->Q (.ref p) (upd H p (.lst (xs++zs)))
def op_cat:OpR X (binaryOp .Add) MM:=by
 intro pins s σ H x y v u Q I rx ry h;obtain⟨l,b,xs,zs,rfl,rfl,hH,hB,hz,q⟩:=h;cases rx;cases ry;obtain⟨z,its,n,r,hl,e⟩:=I.lstM hH;obtain⟨z2,its2,n2,r2,hl2,e2⟩:=I.lstM hB;refine PySem.P.add_list e e2 ?_ (by rw[xi,xi];omega);have ea:its.toArray++its2.toArray=(its++its2).toArray:=by simp
 rw[ea];exact⟨.ref _,_,I.lnew (t':=s.toks) (r.append r2) (by rw[ud];omega),rfl,q _ I.fresh⟩
noncomputable def MJ:R2:=λx y H Q=>∃l k xs,x=.ref l/\y=.int k/\H l=some (.lst xs)/\-(2 ^ 63)<=k/\k<2 ^ 63/\xs.length * k.toNat<=sizeLine/\
 ∀p,H p=none->Q (.ref p) (upd H p (.lst (List.replicate k.toNat xs).flatten))
def pV{α:Type}(xs:List α)(k:Nat):(List.replicate k xs).flatten.length=k * xs.length:=by
 induction k with
 |zero=>simp
 |succ k ih=>rw[r9,oE,ud,ih,Nat.succ_mul,Nat.add_comm]
theorem JA:OpR X (binaryOp .Mult) MJ:=by
 intro pins s σ H x y v u Q I rx ry h;obtain⟨l,k,xs,rfl,rfl,hH,h1,h2,hz,q⟩:=h;cases rx;obtain⟨t,rfl⟩:=ry;obtain⟨z,its,n,r,hl,e⟩:=I.lstM hH;have hlen:its.toArray.size * k.toNat<=sizeLine:=by rw[xi,<- hl];exact hz
 have hcap : ¬ its.toArray.size * k.toNat > (2 ^ 63 - 1) / 8:=by
  have:(sizeLine:Nat)<=(2 ^ 63 - 1) / 8:=by decide
  omega
 have hfit : ¬ (!Builtin.List.listFitsIndex k)=true:=by rw[fitsIndex_both h1 h2];exact uq
 have hlong : ¬ Builtin.List.listTooLong (its.toArray.size * k.toNat)=true:=by rw[qF hlen];exact uq
 have hnew:List.foldl (λx1 x2=>x1++x2) #[] (List.replicate (if its.toArray.isEmpty=true then 0 else k.toNat) its.toArray)=(List.replicate k.toNat its).flatten.toArray:=by
  have f0:∀m:Nat,List.foldl (λx1 x2=>x1++x2) #[] (List.replicate m its.toArray)=(List.replicate m its).flatten.toArray:=λm=>by have:=jp its m [];rw[rT]at this;exact this
  rw[f0];cases its with
  |nil=>simp
  |cons a r'=>rw[if_neg (by simp)]
 refine wpAny_binaryOp_repeat_ref (T:="list") (U:="int") (by decide) ⟨_,e,rfl⟩ (λs'=>mJ s' k t) noFill_list_mul F.fills_int_mul iU repeat_list F.slot_int_index.lookup
  (qt iU (mJ s k t) F.entry_int_rmul (F.args_int_rmul_2 _ _) (int___rmul___int_list k t l its.toArray n)
   ⟨e,rfl,⟨_,e,rfl⟩,qt F.slot_list_mul ⟨_,e,rfl⟩ F.entry_list_mul (F.args_list_mul_2 _ _) (AutoListH.list___mul___list_int_3 l its.toArray n k t hfit hcap hlong) ⟨e,?_⟩⟩);rw[hnew];exact⟨.ref _,_,I.lnew (t':=s.toks) (r.rep k.toNat) (by rw[pV,g9];exact hz),rfl,q _ I.fresh⟩
end
end L2
namespace Att
open PySem PySem.W PySem.Calls PyProof.Rows
def nu{P:Params}:∀(ns:List Int)(vs:List Value),WellAll P h vs (ns.map WData.int)->IntsAre vs ns:=by
 intro ns;induction ns with
 |nil=>intro vs w;rw[qx]at w;cases w;exact .nil
 |cons n ns ih=>
  intro vs w;rw[x9]at w;cases w with
  |cons a b=>cases a;exact .cons _ _ (ih _ b)
def yr{l:OpenLaw}{n:Nat}(hn:l.most=some n){P:Params}{args:List WData}{vals:List Value}(hpre:l.row.toRowW.claim.pre args=true)(hwl:WellAll P h vals args):
  ∃a vs ns,vals=[Value.ref a]/\args=[WData.list (ns.map WData.int)]/\h.get? a=some { cls:=.type "list",data:=.seq vs.toArray }/\IntsAre vs ns/\ns.length<=n:=by
 have hsh:WShape.hasAll [] args [.list .int]=true:=(pre_splitW hpre).1;have hc:l.pre.holds [] { args:=args }=true:=(pre_splitW hpre).2;obtain⟨d,r,rfl,h1,h2⟩:=hasAllW_cons hsh;obtain rfl:=hasAllW_nil h2;obtain⟨xs,rfl,h3⟩:=hasW_list h1;obtain⟨ns,rfl⟩:=items_int h3;have hlen:ns.length<=n:=by
  unfold OpenLaw.pre at hc;have h4:(WTm.not (.lt (.lit (.int (n:Int))) (.len (.arg 0)))).holds [] { args:=[.list (ns.map .int)] }=true:=by have h4:=(holds_andW hc).1;rw[hn]at h4;exact h4
  have h5:=condW_of h4 (w_not (w_lt w_lit (w_len_list (w_arg rfl))));rw[x8]at h5;refine Nat.le_of_not_lt λq=>?_;have q':(n:Int)<((ns.length:Nat):Int):=by omega
  first
   | (rw[ss q']at h5;exact absurd h5 (by decide))
   | (simp at h5;omega)
 cases hwl with
 |cons w1 w2=>
  cases w2;cases w1 with
  |list ho hall=>exact⟨_,_,ns,rfl,rfl,ho,nu ns _ hall,hlen⟩
def zF(l:OpenLaw)(args:List WData):l.row.toRowW.claim.post args (.bool true) args=true:=
 postW_of (r:=l.row.toRowW) (X:=(true==true))
  (show WShape.has [] (.bool true) .bool=true by first|rfl|decide|simp[WShape.has,WShape.arms,WShape.armsAll])
  (show(WTm.eq .res (.lit (.bool true))).value [] { args:=args,res:=some (.bool true),after:=args }=some (.bool (true==true)) from w_eq_bool (w_res rfl) w_lit) rfl
def attach_call{l:OpenLaw}{n:Nat}{q:Program}{XP:(Str->Option Value)->Heap->Prop}{YP:World->Heap->Prop}{d:DefRec}(hn:l.most=some n)(hdf:d.params.defaults=[])(call:∀(w:World)(s₀ s₁:Shared)(mg mb:Str->Option Value)(fa:Addr)(o:Obj)(pm cd doc:Value)(a:Addr)(vs:List Value)(ns:List Int),
 Ground q loose [] XP w s₀ mg mb s₁.heap->YP w s₁.heap->
 s₁.heap.get? fa=some o->o.data=.func (docDef d.name d.params d.body d.scope pm cd doc)->s₁.heap.CodeRec cd d.name->mg d.name=some (.ref fa)->
 s₁.heap.get? a=some { cls:=.type "list",data:=.seq vs.toArray }->IntsAre vs ns->ns.length<=n->s₁.gens = #[]->
 codeAny (model l.prog w) callerA (.call (.ref fa) ⟨[.ref a],[]⟩) (λr s'=>r=.ok (.ret (.bool true))/\OldK s₁.heap s'.heap/\s'.os=s₁.os/\AllBare s'.gens) s₁):
  WalkO q loose XP YP l.row.toRowW d [] (λf vs=>PySem.call f vs):=by
 intro w s₀ s₁ mg mb G Y fa o pm cd doc dV kV ho hd hcd hD hmg hg args vals as hpre hlay hrd hwl hlo;obtain rfl:dV=.none:=Dflts.none hD hdf;obtain rfl:kV=.none:=Dflts.noKw hD;obtain⟨a,vs,ns,rfl,rfl,hobj,hints,hlen⟩:=yr hn hpre hwl;refine enter_call (qE (call w s₀ s₁ mg mb fa o pm cd doc a vs ns G Y ho (fd_plain hd) hcd hmg hobj hints hlen hg) λr s' hq=>?_);obtain⟨rfl,h2,h3,h4⟩:=hq;exact⟨.inl ⟨.bool true,.bool true,[],rfl,λ_=>rfl,.bool true,zF l _,λ_=>⟨List.Pairwise.nil,λ_ hm=>(nomatch hm)⟩⟩,h2,h3,h4⟩
section
variable{prog:Program}{w:World}{A:Around}{K:Frag}
noncomputable def MS(h:Heap)(L d:Addr):List (Addr×Obj):=(List.range h.objs.size).filterMap λa=>if a=L\/a=d then none else (h.get? a).map λo=>(a,o)
end
end Att
namespace L2
open PySem PySem.Spec PyProof.Rows
theorem tO:∀{vs:List Value}{ns:List Int},IntsAre vs ns->Vals (ns.map V.int) vs
 |_,_,.nil=>.nil
 |_,_,.cons n t h=>.cons ⟨t,rfl⟩ (tO h)
noncomputable abbrev KOf{K:W.Frag}{h:Heap}(_:K.In h):W.Frag:=K
end L2
/- THE LAST THEOREM (shape;LID,My.* are yours):
  My.Adr: a structure of the addresses that your layer names (classes,functions);My.Txt K t: a structure (Prop) of the equations over K;
  My.txt_mk:{K} {implicit addresses ..} (e1:nsIn K mainGlobals "law"=some (some (.ref f))) (e2:K.lookup f=some ⟨oc,od,.func (fnOf "law" "law" params body scope dV kV doc pm an cdv ct),sl⟩) (e3:codeIn K cdv "law"=true) .. : ∃ t,My.Txt K t
set_option maxRecDepth 100000 in
set_option maxHeartbeats 0 in
def PySem.Challenge.cw_LID_holds : PySem.Challenge.rw_LID.Holds := by
 w_on;o_law;k_head;(case hw=>w_witness2)
 k_fill
 refine L2.walk_of (l:=PySem.Challenge.rw_LID) (n:=63) (k:=40) (x:="script") (CX:=λw=>..) (sp:=λ_=>My.sp_law) rfl (by decide) rfl ⟨rfl,by decide,by decide⟩ (λw h Y=>PySem.W.kIn_of Y) ?F ?S ?C
 case F=>
  intro w mg fa h KX G hmg;have T:∃t,My.Txt (L2.KOf KX) t:=by
   dsimp only[L2.KOf]
   refine' My.txt_mk ?e1 ?e2 ?e3 ..
   (case e1=>PySem.W.k_is)
   (case e2=>PySem.W.k_is)
   ..
  obtain⟨t,T⟩:=T;have e0:=hmg.symm.trans (uF KX G T.law);cases e0;exact⟨_,λs u=>.of_eq rfl,λbase kb nb=>My.law_fn T kb nb⟩
 case S=>exact λw H a ns hl hO hS=>..
 case C=>exact ..
(the tactic k_is has no namespace: write k_is) -/
namespace L2
open PySem PySem.Spec PyProof.Rows
noncomputable def bN(s:Stmt)(j:Nat):Stmt:=match s with
 |.ClassDef _ _ _ body _ _ _ _ _ _ _=>body.getD j (.Pass ⟨0,0,0,0⟩)
 |_=>.Pass ⟨0,0,0,0⟩
noncomputable def dh(s:Stmt):Arguments:=match s with
 |.FunctionDef _ a _ _ _ _ _ _ _ _=>a
 |_=>{ posonlyargs:=[],args:=[],vararg:=none,kwonlyargs:=[],kw_defaults:=[],kwarg:=none,defaults:=[] }
noncomputable def aJ(s:Stmt):List Stmt:=match s with
 |.FunctionDef _ _ b _ _ _ _ _ _ _=>b
 |_=>[]
noncomputable def af(s:Stmt):Scope:=match s with
 |.FunctionDef _ _ _ _ _ _ sc _ _ _=>sc
 |_=>{ kind:=.function,names:=[],isGenerator:=false,isCoroutine:=false }
structure Fun(K:PySem.W.Frag)(x qual:Str)(st:Stmt)(f:Addr)(fd:FuncData):Prop where
 ex:∃(oc:Value)(od:Option Addr)(kV doc pm:Value)(an:Option Addr)(cdv ct:Value)(osl:Array (Option Value)),
  fd=PySem.W.fnOf x qual (dh st) (aJ st) (af st) .none kV doc pm an cdv ct/\K.lookup f=some ⟨oc,od,.func fd,osl⟩/\PySem.W.codeIn K cdv qual=true
 kp:PySem.W.keepIn K (.ref f)=true
section
variable{w:World}{K:PySem.W.Frag}{mg:Str->Option Value}{base:Heap}
def Fun.binds(F:Fun K x qual st f fd)(h:∀(kV doc pm:Value)(an:Option Addr)(cdv ct:Value)(us:List Value),us.length=ps.length->bindArgs (PySem.W.fnOf x qual (dh st) (aJ st) (af st) .none kV doc pm an cdv ct) ⟨us,[]⟩=pure (ps.zip us)):Binds K fd ps []:=by
 obtain⟨oc,od,kV,doc,pm,an,cdv,ct,osl,rfl,lk,hcd⟩:=F.ex;exact .all (h kV doc pm an cdv ct)
def wH{kV ct:Value}(l:K.lookup f=some ⟨oc,od,.func (PySem.W.fnOf x qual (dh st) (aJ st) (af st) .none kV doc pm an cdv ct),osl⟩)(c:PySem.W.codeIn K cdv qual=true)(k:PySem.W.keepIn K (.ref f)=true):Fun K x qual st f (PySem.W.fnOf x qual (dh st) (aJ st) (af st) .none kV doc pm an cdv ct):=⟨⟨oc,od,kV,doc,pm,an,cdv,ct,osl,rfl,l,c⟩,k⟩
end
noncomputable def Same(H H':Hp):Prop:=∀b o,H b=some o->H' b=some o
def Same.refl(H:Hp):Same H H:=λ_ _ h=>h
def Same.trans{H2:Hp}(a:Same H H1)(b:Same H1 H2):Same H H2:=λc o h=>b c o (a c o h)
def Same.free(e:Same H H'){l:Addr}(h:H' l=Option.none):H l=Option.none:=by
 cases q:H l with
 |none=>rfl
 |some o=>rw[e l o q]at h;cases h
def Same.seq{K:PySem.W.Frag}(e:Same H H')(h:SqL K H a xs):SqL K H' a xs:=by
 rcases h with (h|⟨o,h⟩)|h;·exact .inl (.inl (e _ _ h))
 ·exact .inl (.inr ⟨o,e _ _ h⟩)
 ·exact .inr h
end L2
namespace L2
open PySem PySem.Spec PyProof.Rows
open PySem.MeetsSeq PySem.MeetsSeq2 PySem.MeetsSeq3
section
variable{prog:Program}{w:World}{A:Around}
theorem FK{b:Bool}{Q:Int->Shared->Prop}(h:Q (if b then 1 else 0) { s with toks:=s.toks+1 }):wpAny (model prog w) A (pyHash (.bool b)) Q E s:=by
 have t:s.TypeIs (.bool b) "bool":=rfl;show wpAny _ _ (pyHashByItsType (.bool b)) Q E s;have c:cRoomFor "hash" [.bool b]=pure ():=rfl;unfold pyHashByItsType;rw[c];refine y8 (y9 ?_);refine y8 (gY t F.slot_bool_hash.lookup ?_);simp only[beq_builtin_none,t9,uf];refine y8 (gY t F.slot_bool_hash.lookup ?_);simp only[Option.isNone_some,t9,uf];refine y8 (wpAny_callSpecialIfBoundUnlessNone?_slot t F.slot_bool_hash (r8 F.slot_bool_hash t F.entry_int_hash ?_ (F.args_int_hash_1 _)));unfold Builtin.«int.__hash__»;cases b
 ·wp_walk
  exact⟨.int 0 _,rfl,y9 h⟩
 ·wp_walk
  exact⟨.int 1 _,rfl,y9 h⟩
noncomputable def sX(prog:Program)(w:World):PySem.KeyKind prog w Bool where
 is:=λk v=>match v with
  |.bool b=>b==k
  |_=>false
 hash:=λk=>if k then 1 else 0
 inj:=λv a b ha hb=>by cases v <;> simp_all
 byValue:=λk v h=>by cases v <;> simp_all[carriedByValue]
 pyHash:=λ{A E s k v Q} hv h=>by cases v <;> simp_all;exact FK h
 eqBool:=λ{A E s a b u v Q} hu hv h=>by
  cases u <;> simp_all;cases v <;> simp_all;have e:decide (a=b)=(a==b):=by cases a <;> cases b <;> rfl
  rw[e]at h;exact PySem.SeqAt.EqAt.bool_bool a b prog w E Q h
 «strs»:=λk x t v h=>by simp at h
end
noncomputable abbrev DX:=List (List Bool×Addr×V)
noncomputable abbrev DU:=List (List Bool×Addr×Value)
noncomputable def sM(bs:List Bool):Int:=reduceHash (Builtin.Tuple.tupleHashOf (bs.map λk=>if k then 1 else 0))
noncomputable abbrev DRel:DX->DU->Prop:=Paired λp q=>p.1=q.1/\p.2.1=q.2.1/\RelV p.2.2 q.2.2
noncomputable def Fl(a:Addr)(o:Obj)(xs:DX):Heap->Prop:=λh=>h.get? a=some o/\xs.length<=sizeLine/\(a==sysModules)=false/\o.ExactDict/\∃us:DU,DRel xs us/\
 ∃es ep,o.data=.dict es ep/\es.toList=us.map (λx=>⟨sM x.1,.ref x.2.1,x.2.2⟩)/\(us.map (·.1)).Nodup
noncomputable def DctO(a:Addr)(o:Obj)(xs:DX):HO:=.ext (Fl a o xs)
def DctO.ok{w:World}{xs:DX}(d:Fl a o xs h):ObjOk P w H h a (DctO a o xs):=
 ⟨d,⟨o,d.1⟩,λ_ _ p st=>⟨st o p.1,p.2⟩⟩
noncomputable def iC(K:PySem.W.Frag)(H:Hp)(xs:DX):Prop:=∀x∈xs,SqT K H x.2.1 (x.1.map V.bl)
noncomputable def oe(xs:DX)(k:List Bool):Option V:=(xs.find? λx=>decide (x.1=k)).map (·.2.2)
theorem vK{P:Program}{w:World}:∀{bs:List Bool}{us:List Value},Vals (bs.map V.bl) us->ItemsAre (sX P w) bs us
 | [],_,r=>by rw[qx]at r;cases r;exact .nil
 |b::bs,_,r=>by
  rw[x9]at r;cases r with
  |cons h t=>
   obtain rfl:=(show _=Value.bool b from h)
   exact .cons (by simp[sX]) (vK t)
theorem DRel.find{k:List Bool}:∀{xs:DX}{us:DU},DRel xs us->RelO (oe xs k) ((atKey us k).map (·.2))
 |_,_,.nil=>trivial
 |x::xs,u::us,.cons ⟨h1,h2,h3⟩ t=>by
  have ih:=DRel.find (k:=k) t;unfold oe atKey at ih⊢;by_cases e:x.1=k;·have e':u.1=k:=h1▸e;simp only[Z6,e,e',decide_true,uo];exact h3
  ·have e' : ¬ u.1=k:=λz=>e (h1.trans z);simp only[Z6,e,e',Z7];exact ih
def DRel.isSome{k:List Bool}{xs:DX}{us:DU}(r:DRel xs us):(oe xs k).isSome=(atKey us k).isSome:=by have h:=r.find (k:=k);revert h;cases oe xs k <;> cases atKey us k <;> intro h <;> first|rfl|exact h.elim
section
variable{xs:DX}{k:List Bool}{A:Around}
def pj(I:Inv X pins σ H s)(h:SqT X.K H q (k.map V.bl)):(tupleKind (sX X.prog X.w)).is s.heap k q:=by obtain⟨its,rv,⟨o,h1,h2,n,h3⟩,_⟩:=I.tuple h;exact⟨o,its.toArray,n,h1,h2,h3,by simpa using vK rv⟩
def oQ(I:Inv X pins σ H s)(e:H a=some (DctO a o xs))(kk:iC X.K H xs):xs.length<=sizeLine/\(a==sysModules)=false/\∃us:DU,DRel xs us/\s.heap.DictOfH (tupleKind (sX X.prog X.w)) a us:=by
 obtain⟨⟨h1,z1,z2,h2,us,r,es,ep,h3,h4,h5⟩,_⟩:=(show ObjOk X.prog X.w H s.heap a (DctO a o xs) from I.hok a _ e)
 refine⟨z1,z2,us,r,o,es,ep,h1,h2,h3,h4,λu hu=>?_,h5⟩;have all:∀{l:DX}{m:DU},DRel l m->(∀x∈l,SqT X.K H x.2.1 (x.1.map V.bl))->∀u∈m,(tupleKind (sX X.prog X.w)).is s.heap u.1 u.2.1:=by
  intro l m q;induction q with
  |nil=>intro _ u hu;exact nomatch hu
  | @cons x y ps qs hq t ih=>
   intro hl u hu;rcases xO.mp hu with z|hu
   ·subst z;have:=pj I (hl x (v3 ..));rw[hq.1,hq.2.1]at this;exact this
   ·exact ih (λx hx=>hl x (w4 _ hx)) u hu
 exact all r kk u hu
def Fx{Q:Value->Shared->Prop}(hu:A.units+1<cLine)(I:Inv X pins σ H s)(e:H a=some (DctO a o xs))(kk:iC X.K H xs)(hk:SqT X.K H q (k.map V.bl))(hv:oe xs k=some v)(h:∀w' s',Inv X pins σ H s'->RelV v w'->Q w' s'):
  wpAny (model X.prog X.w) A (getItem (.ref a) (.ref q)) Q E s:=by
 obtain⟨z,hd,us,rel,dd⟩:=oQ I e kk;obtain⟨w',hw,rw'⟩:=RelO.some_of (v:=v) (o:=(atKey us k).map (·.2)) (by rw[<- hv];exact rel.find);obtain⟨p,hp,hp2⟩:=Option.map_eq_some_iff.mp hw;refine wpAny_getItem_heap (fJ hu) (pj I hk) dd hp ?_;rw[hp2];exact h w' _ (I.tok _) rw'
def HE{Q:Value->Shared->Prop}(hu:A.units+1<cLine)(I:Inv X pins σ H s)(e:H a=some (DctO a o xs))(kk:iC X.K H xs)(hk:SqT X.K H q (k.map V.bl))(h:∀s',Inv X pins σ H s'->Q (.bool (oe xs k).isSome) s'):
  wpAny (model X.prog X.w) A (compareOp .In (.ref q) (.ref a)) Q E s:=by
 obtain⟨z,hd,us,rel,dd⟩:=oQ I e kk;refine wpAny_in_heap (fJ hu) (pj I hk) hd dd ?_;rw[<- rel.isSome];exact h _ (I.tok _)
def zz{Q:Value->Shared->Prop}(hu:A.units+1<cLine)(I:Inv X pins σ H s)(e:H a=some (DctO a o xs))(kk:iC X.K H xs)(hk:SqT X.K H q (k.map V.bl))(h:∀s',Inv X pins σ H s'->Q (.bool (!(oe xs k).isSome)) s'):
  wpAny (model X.prog X.w) A (compareOp .NotIn (.ref q) (.ref a)) Q E s:=by
 obtain⟨z,hd,us,rel,dd⟩:=oQ I e kk;refine wpAny_notIn_heap (fJ hu) (pj I hk) hd dd ?_;rw[<- rel.isSome];exact h _ (I.tok _)
noncomputable def Cj(xs:DX)(k:List Bool)(q:Addr)(v:V):DX:=if (oe xs k).isSome then xs.map (λx=>if x.1=k then (x.1,x.2.1,v)else x)else xs++[(k,q,v)]
theorem DRel.snoc:∀{xs:DX}{us:DU}{x:List Bool×Addr×V}{u:List Bool×Addr×Value},DRel xs us->(x.1=u.1/\x.2.1=u.2.1/\RelV x.2.2 u.2.2)->DRel (xs++[x]) (us++[u])
 |_,_,_,_,.nil,h=>.cons h .nil
 |_,_,_,_,.cons a t,h=>.cons a (DRel.snoc t h)
def DRel.put{xs:DX}{us:DU}{u:Value}(r:DRel xs us)(q:Addr)(rv:RelV v u):DRel (Cj xs k q v) (storedH us k q u):=by
 have e:(oe xs k).isSome=(atKey us k).isSome:=r.isSome;unfold Cj storedH;rw[e];by_cases z:(atKey us k).isSome=true
 ·rw[if_pos z,if_pos z];clear e z;induction r with
  |nil=>exact .nil
  | @cons x y ps qs h t ih=>
   obtain⟨h1,h2,h3⟩:=h;rw[x9,x9];refine .cons ?_ ih;unfold putAt;by_cases z:x.1=k;·rw[if_pos z,if_pos (h1▸z)];exact⟨h1,h2,rv⟩
   ·rw[if_neg z,if_neg (λy=>z (h1.trans y))];exact⟨h1,h2,h3⟩
 ·rw[if_neg z,if_neg z];exact DRel.snoc r ⟨rfl,rfl,rv⟩
def CV(xs:DX)(k:List Bool)(q:Addr)(v:V):(Cj xs k q v).length<=xs.length+1:=by unfold Cj;split <;> simp
def G8{u:Value}{Q:Unit->Shared->Prop}(hu:A.units+1<cLine)(I:Inv X pins σ H s)(e:H a=some (DctO a o xs))(kk:iC X.K H xs)(hk:SqT X.K H q (k.map V.bl))(hl:xs.length<sizeLine)(rv:RelV v u)(h:∀o' s',Inv X pins σ (upd H a (DctO a o' (Cj xs k q v))) s'->Q () s'):
  wpAny (model X.prog X.w) A (setItem (.ref a) (.ref q) u) Q E s:=by
 obtain⟨z,hd,us,rel,dd⟩:=oQ I e kk;have hz:us.length<=sizeLine:=by rw[<- j0 rel];exact z
 refine wpAny_setItem_heap (hsz:=hz) (fJ hu) (pj I hk) dd λh' dd' hs=>?_;obtain⟨o',es,ep,h1,h2,h3,h4,_,h5⟩:=dd';refine h o' _ (I.write (x:=a) (e:=a) (by rw[e];trivial) (.inl rfl) (λb y hb z=>(hs.2 b hb).trans z) ⟨o',h1⟩ (DctO.ok ⟨h1,?_,hd,h2,_,rel.put q rv,es,ep,h3,h4,h5⟩));have:=CV xs k q v;omega
end
end L2
namespace L2
open PySem PySem.Spec PyProof.Rows
def Inv.big0(I:Inv X pins σ H s):(s.heap.objs.size==sysModules)=false:=by have h:mainGlobals<s.heap.objs.size:=(I.mod.glob.keeps I.bk).lt;exact uO.mpr λe=>by rw[e]at h;exact absurd h (by decide)
section
noncomputable def LS:TE:=λ_ H Q=>∀p o,H p=none->Q (.ref p) (upd H p (DctO p o []))
def Fa:PE X (.Dict [] [] pos) LS:=λpins s σ H Q I h=>wpAny_Dict_empty ⟨.ref s.heap.objs.size,_,I.laid (t':=s.toks) (λ_ _ q=>yq _ q) (yh _) (DctO.ok ⟨w6 _ rfl,v8 _,I.big0,⟨rfl,rfl,rfl⟩,[],.nil,#[],0,rfl,rfl,List.nodup_nil⟩),rfl,h _ _ (I.hok.fresh (yh _))⟩
noncomputable def Mt(tk tv:TE)(K:PySem.W.Frag):TE:=λσ H Q=>∀p o,H p=none->tk σ (upd H p (DctO p o [])) λx H1=>tv σ H1 λy H2=>H2 p=some (DctO p o [])/\∃q bs,x=.ref q/\SqT K H2 q (bs.map V.bl)/\∀o',Q (.ref p) (upd H2 p (DctO p o' [(bs,q,y)]))
def EC{k v:Expr}{tk tv:TE}(hu:X.A.units+1<cLine)(hk:PE X k tk)(hv:PE X v tv):PE X (.Dict [some k] [v] pos) (Mt tk tv X.K):=λpins s σ H Q I h=>by have hn:=I.hok.fresh (yh s.heap.objs.size);have I1:Inv X pins σ (upd H s.heap.objs.size (DctO s.heap.objs.size { cls:=.type "dict",data:=.dict #[] } [])) { s with heap:=s.heap.push { cls:=.type "dict",data:=.dict #[] } }:=I.laid (t':=s.toks) (λ_ _ q=>yq _ q) (yh _) (DctO.ok ⟨w6 _ rfl,v8 _,I.big0,⟨rfl,rfl,rfl⟩,[],.nil,#[],0,rfl,rfl,List.nodup_nil⟩);refine wpAny_Dict_any rfl rfl (by simp) (by show 1<=15;decide) (pairTrees_cons_walk (thn (hk pins _ σ _ _ I1 (h _ _ hn)) λu s1 ⟨x,H1,I2,rx,q1⟩=>thn (hv pins s1 σ H1 _ I2 q1) λw s2 ⟨y,H2,I3,ry,hp,q,bs,ex,hq,q2⟩=>pairTrees_nil_walk ?_));subst ex;cases rx;obtain⟨z,hd,us,rel,dd⟩:=oQ I3 hp (λ_ hx=>nomatch hx);cases rel;unfold storeAll;rw[List.forIn_cons];refine y8 (y8 (wpAny_dictSet_heap (hsz:=v8 _) (show X.A.units<cLine by omega) (pj I3 hq) dd λh' dd' hs=>?_));refine y9 ?_;show wpAny _ _ (forIn [] PUnit.unit _) _ _ _;rw[List.forIn_nil];obtain⟨o,es,ep,h1,h2,h3,h4,_,h5⟩:=dd';refine y9 ⟨.ref _,_,?_,rfl,q2 o⟩;exact I3.write (x:=s.heap.objs.size) (e:=s.heap.objs.size) (by rw[hp];trivial) (.inl rfl) (λb y hb z=>(hs.2 b hb).trans z) ⟨o,h1⟩ (DctO.ok ⟨h1,by show 1<=sizeLine;decide,hd,h2,_,.cons ⟨rfl,rfl,ry⟩ .nil,es,ep,h3,h4,h5⟩)
end
def Dn:∀a b c d:Bool,sM [a,b]=sM [c,d]->[a,b]=[c,d]:=by decide +kernel
theorem DS{α:Type}{f:α->Int}{c:Int}:∀{l:List α},(l.map f).Nodup->(l.filter λx=>f x==c).length<=1
 | [],_=>by simp
 |a::l,h=>by
  rw[x9,nz]at h;by_cases e:f a=c;·have z:(l.filter λx=>f x==c)=[]:=List.filter_eq_nil_iff.2 λx hx q=>h.1 (ur.2 ⟨x,hx,by rw[e];exact m9 q⟩);rw[List.filter_cons_of_pos (by simp[e]),z];simp
  ·rw[List.filter_cons_of_neg (by simp[e])];exact DS h.2
noncomputable def Lk(xs:DX):Prop:=∀x∈xs,∃a b,x.1=[a,b]
theorem sv:∀{us:DU},(∀u∈us,∃a b,u.1=[a,b])->(us.map (·.1)).Nodup->(us.map λu=>sM u.1).Nodup
 | [],_,_=>List.nodup_nil
 |u::us,h2,hn=>by rw[x9,nz]at hn⊢;refine⟨λhm=>hn.1 ?_,sv (λx hx=>h2 x (w4 _ hx)) hn.2⟩;obtain⟨y,hy,e⟩:=ur.1 hm;obtain⟨a,b,e1⟩:=h2 u (v3 ..);obtain⟨c,d,e2⟩:=h2 y (w4 _ hy);rw[e1,e2]at e;exact ur.2 ⟨y,hy,by rw[e1,e2];exact Dn _ _ _ _ e⟩
theorem DRel.twos:∀{xs:DX}{us:DU},DRel xs us->Lk xs->∀u∈us,∃a b,u.1=[a,b]
 |_,_,.nil,_,u,hu=>nomatch hu
 |x::xs,y::us,.cons h t,h2,u,hu=>by
  rcases xO.1 hu with rfl|hu;·obtain⟨a,b,e⟩:=h2 x (v3 ..);exact⟨a,b,h.1▸e⟩
  ·exact DRel.twos t (λz hz=>h2 z (w4 _ hz)) u hu
section
variable{prog:Program}{w:World}{A:Around}
def yf{d o:Addr}{od oo:Obj}{es:Array DictEntry}{e0 ep:Nat}{id:String}{Q:Unit->Shared->Prop}(hne:(d==o)=false)(hos:(o==sysModules)=false)(hd:s.heap.get? d=some od)(hdd:od.data=.dict #[] e0)(ho:s.heap.get? o=some oo)(hdo:oo.data=.dict es ep)(hz:es.size<=sizeLine)(h0:0<es.size)(hr:∀e∈es.toList,∃q,e.key=.ref q/\s.TypeIs (.ref q) "tuple")(hf:∀e∈es.toList,(es.filter (·.hash==e.hash)).size<=1)(h:Q () { s with heap:=s.heap.update d (Obj.mapDictKeys λ_=>es) }):wpAny (model prog w) A (Builtin.Dict.mergeDict id d o) Q E s:=by
 have few:(decide (es.size<=8) && es.all λe=>(keyPart e.key).isSome)=false:=by
  have hx:es[0]∈es.toList:=by simp
  obtain⟨q,e,_⟩:=hr _ hx;have:(es.all λe=>(keyPart e.key).isSome)=false:=by rw[Array.all_eq_false];exact⟨0,h0,by rw[e];exact uq⟩
  rw[this,j6]
 unfold Builtin.Dict.mergeDict Builtin.Dict.showsAll;rw[hne,hos];simp only[t9,uf];refine y8 (y9 (y8 (lB ho hdo ?_)));rw[few];simp only[Z8,u6];refine y8 (lB hd hdd ?_);rw[if_pos (show(#[]:Array DictEntry).isEmpty=true from rfl)];unfold Builtin.Dict.entriesForEmpty;refine y8 (y8 (lB ho hdo (y8 ?_)));rw[<- Array.forIn_toList];refine wpAny_forIn_list _ (λcS _ z=>z=s/\∀e∈cS,e∈es.toList) _ (λe cS _ z hz'=>?_) (λ_ z hz'=>?_) _ _ ⟨rfl,λe he=>he⟩
 ·obtain⟨rfl,he⟩:=hz';obtain⟨q,ek,ty⟩:=hr e (he e (v3 ..));unfold Builtin.Dict.quietEq;rw[ek];refine y8 (y8 (gY ty PySem.F.slot_tuple_eq.lookup (y9 ?_)));have no:(some (Value.builtin "tuple.__eq__")==some (Value.builtin "object.__eq__"))=false:=by decide
  rw[no];simp only[Z8,u6];rw[if_neg (rX.2 (hf e (he e (v3 ..))))];exact y9 ⟨rfl,λx hx=>he x (w4 _ hx)⟩
 ·obtain⟨rfl,_⟩:=hz';refine y9 ?_;have ne:(!es.isEmpty)=true:=by simp;intro z;rw[z]at h0;exact absurd h0 (by simp)
  rw[if_pos ne];exact y8 (wpAny_updateDictKeysTo hd hdd (y9 h) (by omega))
end
theorem DRel.refs(I:Inv X pins σ H s):∀{xs:DX}{us:DU},DRel xs us->iC X.K H xs->∀u∈us,s.TypeIs (.ref u.2.1) "tuple"
 |_,_,.nil,_,u,hu=>nomatch hu
 |x::xs,y::us,.cons h t,kk,u,hu=>by
  rcases xO.1 hu with rfl|hu;·obtain⟨its,rv,⟨o,h1,h2,_⟩,_⟩:=I.tuple (kk x (v3 ..));exact⟨o,h.2.1▸h1,h2⟩
  ·exact DRel.refs I t (λz hz=>kk z (w4 _ hz)) u hu
def su:kg X (.type "dict") (λxs H Q=>∃a o ys,xs=[.ref a]/\H a=some (DctO a o ys)/\iC X.K H ys/\Lk ys/\ys≠[]/\∀p o',H p=none->Q (.ref p) (upd H p (DctO p o' ys))):=by
 intro pins s σ H xs vs Q I r h;obtain⟨a,o0,ys,rfl,e,kk,tw,ne,q⟩:=h;obtain⟨u,rfl,rx⟩:=Ck r;cases rx;obtain⟨z,hd,us,rel,dd⟩:=oQ I e kk;obtain⟨o,es,ep,h1,h2,h3,h4,h5,h6⟩:=id dd;have tn:∀h:Heap,h.get? s.heap.objs.size=some { cls:=.type "dict",data:=.dict #[] }->Shared.TypeIs { s with heap:=h } (.ref s.heap.objs.size) "dict":=λh e=>⟨_,e,rfl⟩
 have hlt:=xh h1;have ho:(s.heap.push { cls:=.type "dict",data:=.dict #[] }).get? a=some o:=yq _ h1;have hn:(s.heap.push { cls:=.type "dict",data:=.dict #[] }).get? s.heap.objs.size=some { cls:=.type "dict",data:=.dict #[] }:=w6 _ rfl;have ta:Shared.TypeIs { s with heap:=s.heap.push { cls:=.type "dict",data:=.dict #[] } } (.ref a) "dict":=⟨o,ho,h2.1⟩
 have ez:es.size=us.length:=by rw[<- n8,h4,x8]
 have uz:us.length=ys.length:=(j0 rel).symm;refine callType_codes (Q₁:=λv t=>v=.ref s.heap.objs.size/\t={ s with heap:=s.heap.push { cls:=.type "dict",data:=.dict #[] } }) PySem.F.kt_called_dict (PySem.F.kt_typeCall_dict_1 _) PySem.F.entry_dict_init (kt_code_dict_new _ ⟨rfl,rfl⟩) λv t hv=>?_;obtain⟨rfl,rfl⟩:=hv;refine⟨tn _ hn,PySem.F.args_dict_init_2 _ _,?_⟩;have fin:∀h',h'=(s.heap.push { cls:=.type "dict",data:=.dict #[] }).update s.heap.objs.size (Obj.mapDictKeys λ_=>es)->EP X pins σ Q (.ref s.heap.objs.size) { s with heap:=h' }:=λh' eh=>by subst eh;refine⟨.ref s.heap.objs.size,_,I.laid (t':=s.toks) (λb y hb=>?_) (yh _) (DctO.ok ⟨Z5 _ hn rfl,z,I.big0,⟨rfl,rfl,rfl⟩,us,rel,es,_,rfl,h4,h6⟩),rfl,q _ _ (I.hok.fresh (yh _))⟩;exact(Heap.get?_update_ne _ _ _ _ (v6 (xh hb))).trans (yq _ hb)
 have mg:∀{id:String}{Q':Unit->Shared->Prop}{A':Around}{E':Value->Shared->Prop},Q' () { s with heap:=(s.heap.push { cls:=.type "dict",data:=.dict #[] }).update s.heap.objs.size (Obj.mapDictKeys λ_=>es) }->wpAny (model X.prog X.w) A' (Builtin.Dict.mergeDict id s.heap.objs.size a) Q' E' { s with heap:=s.heap.push { cls:=.type "dict",data:=.dict #[] } }:=λhq=>
  yf (uO.2 (r6 hlt)) hd hn rfl ho h3 (by omega) (by rw[ez,uz];exact List.length_pos_iff.2 ne) (λx hx=>by
   rw[h4]at hx;obtain⟨u,hu,rfl⟩:=ur.1 hx;obtain⟨ob,e1,e2⟩:=DRel.refs I rel kk u hu;exact⟨u.2.1,rfl,ob,yq _ e1,e2⟩) (λx hx=>by
   have hh:=DS (c:=x.hash) (sv (rel.twos tw) h6);rw[<- n8,Array.toList_filter,h4,List.filter_map,x8];exact hh) hq;unfold Builtin.«dict.__init__» Builtin.Dict.selfAndRest;have sub:=PySem.F.kt_sub_dict
 wp_walk using wpAny_notOrdered_dict (tn _ hn),gY ta PySem.F.slot_dict_iter.lookup,mg
 exact⟨rfl,fin _ rfl⟩
section
variable{prog:Program}{w:World}{A:Around}{d:Addr}{es:Array DictEntry}{ep:Nat}
def wU{Q:Value->Shared->Prop}(hs:(d==sysModules)=false)(ho:s.heap.get? d=some o)(hx:o.ExactDict)(h:Q (.ref s.heap.objs.size) { s with heap:=s.heap.push { cls:=.type "dict_items",data:=.fields #[.ref d] } }):
  wpAny (model prog w) A (call (.builtin "dict.items") [.ref d]) Q E s:=by
 have t:s.TypeIs (.ref d) "dict":=⟨o,ho,hx.1⟩
 refine r8 PySem.F.slot_dict_items t PySem.F.entry_dict_items ?_ (PySem.F.args_dict_items_1 _);unfold Builtin.«dict.items» Builtin.Dict.noArgs Builtin.Dict.showsAll
 wp_walk using wpAny_notOrdered_dict t
 exact⟨_,rfl,h⟩
def xT{v:Addr}{Q:Value->Shared->Prop}(hv:s.heap.get? v=some { cls:=.type "dict_items",data:=.fields #[.ref d] })(ho:s.heap.get? d=some o)(hd:o.data=.dict es ep)(h:Q (.ref s.heap.objs.size) { s with heap:=s.heap.push { cls:=.type "dict_itemiterator",data:=.fields #[.none,.bool false,.ref d,.int 0 0,.int es.size 0,.int ep 0,.none,.none] } }):
  wpAny (model prog w) A (pyIter (.ref v)) Q E s:=by
 have t:s.TypeIs (.ref v) "dict_items":=⟨_,hv,rfl⟩
 refine wpAny_pyIter_slot t ZE (r8 ZE t PySem.F.entry_dict_items_iter ?_ (PySem.F.args_dict_items_iter_1 _));unfold Builtin.«dict_items.__iter__» Builtin.Dict_items.dictOf Builtin.Dict_items.newIterator
 wp_walk using s9 hv rfl (x:=.ref d) rfl,lB ho hd,Z9 ho hd
 have own:Builtin.Dict_items.ownsTuple "dict_itemiterator"=true:=by decide
 refine⟨_,rfl,"dict_itemiterator",_,⟨_,w6 _ rfl,rfl⟩,PySem.F.slot_dict_itemiterator_next.lookup,?_⟩;simpa[own,rawInt,Builtin.Dict_items.ownedTupleFields]using h
noncomputable def Nm(it d:Addr)(n ep i:Nat)(h:Heap):Prop:=∃x y,IsItemIter h it d i n ep x y
def xH{Q:Option Value->Shared->Prop}{x y:Value}(hi:IsItemIter s.heap it d i es.size ep x y)(hne:d≠it)(ho:s.heap.get? d=some o)(hd:o.data=.dict es ep)(hl:i<es.size)(h:∀h',IsItemIterOut h' it d (i+1) es.size ep es[i].key es[i].val s.heap.objs.size->h'.get? s.heap.objs.size=some { cls:=.type "tuple",data:=.seq #[es[i].key,es[i].val] }->(∀b ob,b≠it->s.heap.get? b=some ob->h'.get? b=some ob)->Q (some (.ref s.heap.objs.size)) { s with heap:=h' }):
  wpAny (model prog w) A (pyNext (.ref it)) Q E s:=by
 have t:s.TypeIs (.ref it) "dict_itemiterator":=⟨_,hi,rfl⟩
 have own:Builtin.Dict_items.ownsTuple "dict_itemiterator"=true:=by decide
 unfold pyNext;refine y8 (wpAny_attempt (nE (name:=Str.ofString "__next__") t eQ (r8 eQ t ZF ?_ (ZG _))));unfold Builtin.«dict_itemiterator.__next__»
 wp_walk using d3 t,wpAny_fieldsOf hi rfl,lB ho hd,Z9 ho hd
 have i0:(if (i:Int)<0 then none else es[(i:Int).toNat]?)=some es[i]:=by rw[if_neg (by omega),t5,Array.getElem?_eq_getElem hl]
 rw[i0];have e0:((i+1:Nat):Int)=(i:Int)+1:=by omega
 refine y8 (y8 (d3 t (y9 (y8 (Za t ?_)))));show wpAny _ _ (setField (.ref it) 3 (rawInt ((i:Int)+1))>>=_) _ _ s;refine y8 (lE hi (by simp) λh1 e1 s1=>y8 (sT ?_));have e1:IsItemIter h1 it d (i+1) es.size ep x y:=by unfold IsItemIter;rw[e0];simpa[rawInt]using e1
 have t1:Shared.TypeIs { s with heap:=h1 } (.ref it) "dict_itemiterator":=⟨_,e1,rfl⟩
 refine y8 (Za t1 (y8 (Za t1 ?_)));show wpAny _ _ (Builtin.Dict_items.pairFromOwner (.ref it) 6 es[i].key es[i].val) _ _ { s with heap:=h1 };unfold Builtin.Dict_items.pairFromOwner;refine y8 (wpAny_newTuple ?_);have e2:IsItemIter (h1.push { cls:=.type "tuple",data:=.seq #[es[i].key,es[i].val] }) it d (i+1) es.size ep x y:=yq _ e1;have lt:it<s.heap.objs.size:=xh hi;have z1:h1.objs.size=s.heap.objs.size:=s1.1;have g2:(h1.push { cls:=.type "tuple",data:=.seq #[es[i].key,es[i].val] }).get? s.heap.objs.size=some { cls:=.type "tuple",data:=.seq #[es[i].key,es[i].val] }:=by rw[<- z1];exact w6 _ rfl
 have k2:∀b ob,b≠it->s.heap.get? b=some ob->(h1.push { cls:=.type "tuple",data:=.seq #[es[i].key,es[i].val] }).get? b=some ob:=λb ob n q=>yq _ (s1.extBut b ob n q);rw[show({ s with heap:=h1 }:Shared).heap.objs.size=s.heap.objs.size from z1];generalize h1.push { cls:=.type "tuple",data:=.seq #[es[i].key,es[i].val] }=h2 at e2 g2 k2⊢;clear s1 e1 t1 z1 hi t;unfold Builtin.Dict_items.ownedTupleIsFree;have gt:=r6 lt;refine y8 (y8 (s9 e2 rfl (x:=.none) rfl (y9 ?_)));rw[if_pos rfl];refine y8 (s9 e2 rfl (x:=x) rfl (y8 (s9 e2 rfl (x:=y) rfl (y8 (lE e2 (by simp) λh3 (e3:IsItemIter h3 it d (i+1) es.size ep es[i].key y) s3=>?_)))));refine y8 (lE e3 (by simp) λh4 (e4:IsItemIter h4 it d (i+1) es.size ep es[i].key es[i].val) s4=>y8 (lE e4 (by simp) λh5 (e5:IsItemIterOut h5 it d (i+1) es.size ep es[i].key es[i].val s.heap.objs.size) s5=>?_));refine y8 (lE e5 (by simp) λh6 (e6:IsItemIterOut h6 it d (i+1) es.size ep es[i].key es[i].val s.heap.objs.size) s6=>y8 (j7 (y9 (y9 ⟨_,rfl,y9 (h h6 e6 ?_ ?_)⟩))));·exact s6.extBut _ _ gt (s5.extBut _ _ gt (s4.extBut _ _ gt (s3.extBut _ _ gt g2)))
 ·exact λb ob n q=>s6.extBut b ob n (s5.extBut b ob n (s4.extBut b ob n (s3.extBut b ob n (k2 b ob n q))))
def Bj{Q:Option Value->Shared->Prop}{x y:Value}(hh:A.handled=none)(hi:IsItemIter s.heap it d i es.size ep x y)(hne:d≠it)(ho:s.heap.get? d=some o)(hd:o.data=.dict es ep)(hl:es.size<=i)(h:∀h',(∀b ob,b≠it->s.heap.get? b=some ob->h'.get? b=some ob)->Q none { s with heap:=h' }):wpAny (model prog w) A (pyNext (.ref it)) Q E s:=by
 have t:s.TypeIs (.ref it) "dict_itemiterator":=⟨_,hi,rfl⟩
 unfold pyNext;refine y8 (wpAny_attempt (nE (name:=Str.ofString "__next__") t eQ (r8 eQ t ZF ?_ (ZG _))));unfold Builtin.«dict_itemiterator.__next__»
 wp_walk using d3 t,wpAny_fieldsOf hi rfl,lB ho hd,Z9 ho hd
 have i0:(if (i:Int)<0 then none else es[(i:Int).toNat]?)=none:=by rw[if_neg (by omega),t5,Zb hl]
 rw[i0];refine y8 (y8 (d3 t (y9 ?_)));show wpAny _ _ (setField (.ref it) 2 .none>>=_) _ _ s;refine y8 (lE hi (by simp) λh1 e1 s1=>?_);have sub:=isSubtype_stop;have hh1:A.in1.handled=none:=hh;clear i0 e1 t hi;simp only[newExc,raiseNew]
 wp_walk
 exact h _ λb ob n q=>yq _ (yq _ (s1.extBut b ob n q))
end
def BA{b:Addr}{ob:Obj}(hb:b<h.objs.size)(q:(h.push ob).get? b=some o):h.get? b=some o:=by unfold Heap.get? Heap.push at *;simpa[Array.getElem?_push,v6 hb]using q
noncomputable def Itd(a:Addr)(o:Obj)(xs:DX):It:=
 ⟨λi H=>H a=some (DctO a o xs)/\i<xs.length,λi H x H'=>∃p y,x=.ref p/\H p=none/\xs[i]?=some y/\H'=upd H p (.tup [.ref y.2.1,y.2.2]),λi H=>H a=some (DctO a o xs)/\xs.length<=i⟩
theorem DRel.get:∀{xs:DX}{us:DU}{i:Nat}{x:List Bool×Addr×V},DRel xs us->xs[i]?=some x->∃u,us[i]?=some u/\x.2.1=u.2.1/\RelV x.2.2 u.2.2
 |_,_,i,_,.nil,e=>by simp at e
 |_,_,0,_,.cons h _,e=>by simp at e;subst e;exact⟨_,rfl,h.2⟩
 |_,_,i+1,_,.cons _ t,e=>DRel.get (i:=i) t (by simpa using e)
def mF{xs:DX}(I:Inv X pins σ H s)(e:H a=some (DctO a o xs)):Fl a o xs s.heap:=
 (show ObjOk X.prog X.w H s.heap a (DctO a o xs) from I.hok a _ e).1
def xP{w:World}{K:PySem.W.Frag}{tp:Pos}(a it:Addr)(o:Obj)(xs:DX){es:Array DictEntry}{ep:Nat}(hd:o.data=.dict es ep)(hz:es.size=xs.length):
  Turn P w K (.Tuple elts kt tp) (Itd a o xs) [it] it (λi h=>Nm it a es.size ep i h) where
 mem:=by simp
 obj:=λi h st b hb=>by
  obtain⟨x,y,q⟩:=st;obtain rfl:b=it:=by simpa using hb
  exact⟨_,q,λv z=>by cases z⟩
 keep:=λi h h' ⟨x,y,q⟩ k=>⟨x,y,k it (by simp) _ q⟩
 item:=by
  intro X hP hw hK hc i pins s σ H E I hf st hg;subst hP hw hK;obtain⟨x,y,hi⟩:=st;obtain⟨e,hl⟩:=hg;obtain⟨h1,z1,z2,h2,us,r,es',ep',h3,h4,h5⟩:=mF I e;rw[hd]at h3;cases h3;obtain⟨f0,f1,f2,f3,f4,f5⟩:=hf it (by simp);have ne:a≠it:=λz=>by rw[z,f0]at e;cases e
  have hlt:i<es.size:=by omega
  obtain⟨u,hu,k1,k2⟩:=r.get (w9 hl);have ee:es[i]=⟨sM u.1,.ref u.2.1,u.2.2⟩:=by
   have q:es.toList[i]?=some es[i]:=by simp[hlt]
   rw[h4,v7,hu]at q;exact(xV q).symm
  have hp:H s.heap.objs.size=none:=I.hok.fresh (yh _);have npt:s.heap.objs.size≠it:=r6 (xh hi);refine xH hi ne h1 hd hlt λh6 o6 g6 k6=>⟨_,rfl,wpAny_letOwnedTupleGo_items o6 λh7 o7 s7=>?_⟩
  have Ia:Inv X pins σ (upd H s.heap.objs.size (.tup [.ref xs[i].2.1,xs[i].2.2])) { s with heap:=s.heap.push { cls:=.type "tuple",data:=.seq #[es[i].key,es[i].val] } }:=by
   refine I.laid (t':=s.toks) (λb ob q=>yq _ q) (yh _) ⟨by show 2<=sizeLine;decide,[es[i].key,es[i].val],.cons ?_ (.cons ?_ .nil),n9 _ _⟩;·rw[ee,k1];rfl
   ·rw[ee];exact k2
  have Ib:Inv X pins σ (upd H s.heap.objs.size (.tup [.ref xs[i].2.1,xs[i].2.2])) { s with heap:=h7 }:=by
   refine Inv.turned (s:={ s with heap:=s.heap.push { cls:=.type "tuple",data:=.seq #[es[i].key,es[i].val] } }) (h':=h7) (t':=s.toks) (it:=it) Ia (λb ob n q=>?_) (by rw[am (uw npt)];exact f0) f1 f3 f4 f5;refine(s7.2 b n).trans ?_;by_cases z:b=s.heap.objs.size;·subst z;have q':=w6 s.heap (o:={ cls:=.type "tuple",data:=.seq #[es[i].key,es[i].val] }) rfl;exact(g6.trans q'.symm).trans q
   ·refine k6 b ob n ?_;have q:(s.heap.push { cls:=.type "tuple",data:=.seq #[es[i].key,es[i].val] }).get? b=some ob:=q;rcases Nat.lt_or_ge b s.heap.objs.size with hb|hb;·exact BA hb q
    ·have hlt:=xh q;rw[o8]at hlt;exact absurd (Nat.le_antisymm (Nat.le_of_lt_succ hlt) hb) z
  exact⟨.ref s.heap.objs.size,_,Ib,rfl,⟨_,_,rfl,hp,w9 hl,rfl⟩,⟨_,_,o7⟩,λb hb=>by
   obtain rfl:b=it:=by simpa using hb
   rw[am (uw npt)];exact f0⟩
 done:=by
  intro X hP hw hK hc i pins s σ H E I hf st hg;subst hP hw hK;obtain⟨x,y,hi⟩:=st;obtain⟨e,hl⟩:=hg;obtain⟨h1,_⟩:=mF I e;obtain⟨f0,f1,f2,f3,f4,f5⟩:=hf it (by simp);have ne:a≠it:=λz=>by rw[z,f0]at e;cases e
  exact Bj (I.ok.hd hc) hi ne h1 hd (by omega) λh' k=>⟨rfl,I.turned (t':=s.toks) k f0 f1 f3 f4 f5⟩
 self:=λA i s Q E ⟨x,y,q⟩ h=>PySem.W.kcp_self q h
def CH{o:Expr}{t:TE}{tp ap cp:Pos}(ho:PE X o t)(hbase:attributeBase o "items" X.env (eval o X.env)=eval o X.env:=by rfl)(hline:(ap.endLine==cp.line)=true:=by rfl):
  PI X (.Tuple elts kt tp) (.Call (.Attribute o "items" ap) [] [] cp) (λσ H R=>t σ H λx H1=>∃a ob xs,x=.ref a/\H1 a=some (DctO a ob xs)/\R (Itd a ob xs) H1):=λpins s σ H R I h=>by
 refine wpAny_Call_method0_late hbase hline (thn (ho pins s σ H _ I h) λv s1 ⟨x,H1,I1,r1,a,ob,xs,ex,e,hR⟩=>?_);subst ex;cases r1;obtain⟨h1,z1,z2,h2,us,r,es,ep,h3,h4,h5⟩:=mF I1 e;have hz:es.size=xs.length:=by rw[<- n8,h4,x8];exact(j0 r).symm
 refine⟨"dict","dict.items",PySem.F.plainAttrs_dict,PySem.F.slot_dict_items,PySem.F.type_dict_items,⟨ob,h1,h2.1⟩,λb eb=>?_,Calls.callWith_builtin rfl (PySem.evalArgs_none (wU z2 h1 h2 ?_))⟩;·cases eb;exact⟨ob,h1,h2.2.1⟩
 have I2:Inv X pins σ H1 { s1 with heap:=s1.heap.push { cls:=.type "dict_items",data:=.fields #[.ref a] } }:=I1.kept (t':=s1.toks) λb q e=>yq _ e;refine xT (w6 _ rfl) (yq _ h1) h3 ?_;refine⟨_,[_],_,_,H1,rfl,I2.kept (t':=s1.toks) λb q e=>yq _ e,xP a _ ob xs h3 hz,⟨_,_,w6 _ rfl⟩,λb hb=>?_,hR⟩;obtain rfl:=uK.1 hb;exact I2.fpOk (yh _) (I2.hok.fresh (yh _))
end L2
set_option maxRecDepth 100000
set_option maxHeartbeats 0
namespace L2
open PySem PySem.Spec PyProof.Rows
inductive D where
  |non|bl (b : Bool)|int (i : Int)|str (x : List Nat)|tup (xs : List D)|lst (fz : Bool) (xs : List D)|exc (C : Addr)
  |dct (ks : List Nat) (xs : List D)
noncomputable def code(a b:Bool):Nat:=(if a then 1 else 0)+(if b then 2 else 0)
inductive KeysAt(K:PySem.W.Frag)(G:Hp):DX->List Nat->Prop
 |nil:KeysAt K G [] []
 |cons {q:Addr} {v:V} {a b:Bool} {xs:DX} {ks:List Nat} (h:SqT K G q [.bl a,.bl b]) (t:KeysAt K G xs ks):KeysAt K G (([a,b],q,v)::xs) (code a b::ks)
noncomputable def Hu(a C:Addr):Heap->Prop:=λh=>∃ob,h.get? a=some ob/\ob.cls=.ref C
mutual
inductive Rep(K:PySem.W.Frag)(G:Hp):V->D->Prop
 |non:Rep K G .non .non
 |bl (b:Bool):Rep K G (.bl b) (.bl b)
 |int (i:Int):Rep K G (.int i) (.int i)
 |str (x:Str) (h:x.length<=sizeLine):Rep K G (.str x) (.str x.cps.toList)
 |tup {a:Addr} {vs:List V} {ds:List D} (h:SqT K G a vs) (r:Reps K G vs ds):Rep K G (.ref a) (.tup ds)
 |lst {a:Addr} {vs:List V} {ds:List D} (h:G a=some (.lst vs)) (r:Reps K G vs ds):Rep K G (.ref a) (.lst false ds)
 |fls {a:Addr} {vs:List V} {ds:List D} (h:SqL K G a vs) (r:Reps K G vs ds):Rep K G (.ref a) (.lst true ds)
 |exc {a C:Addr} (h:G a=some (.ext (Hu a C))):Rep K G (.ref a) (.exc C)
 |dct {a:Addr} {o:Obj} {xs:DX} {ks:List Nat} {ds:List D} (h:G a=some (DctO a o xs)) (k:KeysAt K G xs ks) (r:Reps K G (xs.map (·.2.2)) ds):Rep K G (.ref a) (.dct ks ds)
inductive Reps(K:PySem.W.Frag)(G:Hp):List V->List D->Prop
 |nil:Reps K G [] []
 |cons {v:V} {d:D} {vs:List V} {ds:List D} (r:Rep K G v d) (t:Reps K G vs ds):Reps K G (v::vs) (d::ds)
end
section
variable{K:PySem.W.Frag}{G' G1 G2 H2:Hp}
def SqT.mono(e:Same G G')(h:SqT K G a xs):SqT K G' a xs:=by
 rcases h with (h|⟨o,h⟩)|h;·exact .inl (.inl (e _ _ h))
 ·exact .inl (.inr ⟨o,e _ _ h⟩)
 ·exact .inr h
def KeysAt.mono(e:Same G G'):∀{xs:DX}{ks:List Nat},KeysAt K G xs ks->KeysAt K G' xs ks
 |_,_,.nil=>.nil
 |_,_,.cons h t=>.cons (h.mono e) (t.mono e)
def SqL.mono(e:Same G G')(h:SqL K G a xs):SqL K G' a xs:=e.seq h
mutual
theorem Rep.mono(e:Same G G'):∀{v:V}{d:D},Rep K G v d->Rep K G' v d
 |_,_,.non=>.non
 |_,_,.bl b=>.bl b
 |_,_,.int i=>.int i
 |_,_,.str x h=>.str x h
 |_,_,.tup h r=>.tup (h.mono e) (Reps.mono e r)
 |_,_,.lst h r=>.lst (e _ _ h) (Reps.mono e r)
 |_,_,.fls h r=>.fls (h.mono e) (Reps.mono e r)
 |_,_,.exc h=>.exc (e _ _ h)
 |_,_,.dct h k r=>.dct (e _ _ h) (k.mono e) (Reps.mono e r)
theorem Reps.mono(e:Same G G'):∀{vs:List V}{ds:List D},Reps K G vs ds->Reps K G' vs ds
 |_,_,.nil=>.nil
 |_,_,.cons r t=>.cons (Rep.mono e r) (Reps.mono e t)
end
section inv
def Rep.int_inv{i:Int}(r:Rep K G v (.int i)):v=.int i:=by cases r;rfl
def Rep.bl_inv{b:Bool}(r:Rep K G v (.bl b)):v=.bl b:=by cases r;rfl
def Rep.non_inv(r:Rep K G v .non):v=.non:=by cases r;rfl
def Rep.str_inv{x:List Nat}(r:Rep K G v (.str x)):∃y:Str,v=.str y/\y.cps.toList=x/\y.length<=sizeLine:=by
 generalize e:D.str x=d at r;cases r with
 |str y h=>cases e;exact⟨y,rfl,rfl,h⟩
 |_=>cases e
def Rep.tup_inv{ds:List D}(r:Rep K G v (.tup ds)):∃a vs,v=.ref a/\SqT K G a vs/\Reps K G vs ds:=by
 cases r with
 |tup h t=>exact⟨_,_,rfl,h,t⟩
def Rep.lst_inv{ds:List D}(r:Rep K G v (.lst false ds)):∃a vs,v=.ref a/\G a=some (.lst vs)/\Reps K G vs ds:=by
 cases r with
 |lst h t=>exact⟨_,_,rfl,h,t⟩
def Rep.seq_inv{f:Bool}{ds:List D}(r:Rep K G v (.lst f ds)):∃a vs,v=.ref a/\SqL K G a vs/\Reps K G vs ds:=by
 cases r with
 |lst h t=>exact⟨_,_,rfl,.of h,t⟩
 |fls h t=>exact⟨_,_,rfl,h,t⟩
def Rep.strL{x:List Nat}(e:y.cps.toList=x)(h:x.length<=sizeLine):Rep K G (.str y) (.str x):=by subst e;exact .str y (by simpa[Str.length]using h)
end inv
theorem Reps.length:∀{vs:List V}{ds:List D},Reps K G vs ds->vs.length=ds.length
 |_,_,.nil=>rfl
 |_,_,.cons _ t=>by simp[Reps.length t]
theorem Reps.get:∀{vs:List V}{ds:List D}{i:Nat}{d:D},Reps K G vs ds->ds[i]?=some d->∃v,vs[i]?=some v/\Rep K G v d
 |_,_,_,_,.nil,e=>by simp at e
 |_,_,0,_,.cons r _,e=>by simp at e;subst e;exact⟨_,rfl,r⟩
 |_,_,i+1,d,.cons _ t,e=>by obtain⟨v,h1,h2⟩:=Reps.get (i:=i) (d:=d) t (by simpa using e);exact⟨v,by simpa using h1,h2⟩
theorem Reps.append:∀{vs ws:List V}{ds es:List D},Reps K G vs ds->Reps K G ws es->Reps K G (vs++ws) (ds++es)
 |_,_,_,_,.nil,s=>s
 |_,_,_,_,.cons r t,s=>.cons r (Reps.append t s)
theorem Reps.take:∀{vs:List V}{ds:List D}(n:Nat),Reps K G vs ds->Reps K G (vs.take n) (ds.take n)
 |_,_,0,_=>by simpa using Reps.nil
 |_,_,_+1,.nil=>.nil
 |_,_,n+1,.cons r t=>.cons r (Reps.take n t)
theorem Reps.drop:∀{vs:List V}{ds:List D}(n:Nat),Reps K G vs ds->Reps K G (vs.drop n) (ds.drop n)
 |_,_,0,r=>r
 |_,_,_+1,.nil=>.nil
 |_,_,n+1,.cons _ t=>Reps.drop n t
theorem Reps.set{d:D}(r:Rep K G v d):∀{vs:List V}{ds:List D}(i:Nat),Reps K G vs ds->Reps K G (vs.set i v) (ds.set i d)
 |_,_,_,.nil=>.nil
 |_,_,0,.cons _ t=>.cons r t
 |_,_,i+1,.cons q t=>.cons q (Reps.set r i t)
theorem Reps.rep{ds:List D}(r:Reps K G vs ds):∀n:Nat,Reps K G (List.replicate n vs).flatten (List.replicate n ds).flatten
 | 0=>.nil
 |n+1=>by simp only[r9,oE];exact Reps.append r (Reps.rep r n)
structure Up(G H G' H':Hp):Prop where
 sub:Same G' H'
 gg:Same G G'
 hh:Same H H'
 fr:∀a o,G' a=some o->G a=some o\/H a=none
def Up.refl(s:Same G H):Up G H G H:=⟨s,.refl _,.refl _,λ_ _ h=>.inl h⟩
def Up.trans(a:Up G H G1 H1)(b:Up G1 H1 G2 H2):Up G H G2 H2:=⟨b.sub,a.gg.trans b.gg,a.hh.trans b.hh,λc o h=>by
 rcases b.fr c o h with h|h;·exact a.fr c o h
 ·exact .inr (a.hh.free h)⟩
def Same.both{p:Addr}{o:HO}(s:Same G H):Same (upd G p o) (upd H p o):=λa u h=>by
 unfold L2.upd at h⊢;split;·rename_i e;rw[if_pos e]at h;exact h
 ·rename_i e;rw[if_neg e]at h;exact s a u h
def Same.into{p:Addr}{o:HO}(h:H p=none):Same H (upd H p o):=λa u e=>by rw[am (aC e h)];exact e
def Up.new{p:Addr}{o:HO}(s:Same G H)(hp:H p=none):Up G H (upd G p o) (upd H p o):=
 ⟨s.both,.into (s.free hp),.into hp,λa u h=>by
  by_cases e:a=p;·subst e;exact .inr hp
  ·rw[am e]at h;exact .inl h⟩
end
inductive R(α:Type) where
 |ok (a:α)|ex (C:Addr)|no
noncomputable def R.bind{α β:Type}:R α->(α->R β)->R β
 |.ok a,f=>f a
 |.ex C,_=>.ex C
 |.no,_=>.no
noncomputable instance:Monad R where
 pure:=.ok
 bind:=R.bind
section
variable{α β:Type}
@[simp] theorem R.ok_bind(a:α)(f:α->R β):(R.ok a>>=f)=f a:=rfl
@[simp] theorem R.ex_bind(C:Addr)(f:α->R β):((R.ex C:R α)>>=f)=.ex C:=rfl
noncomputable def R.post(m:R α)(P:α->Prop)(E:Addr->Prop):Prop:=match m with
 |.ok a=>P a
 |.ex C=>E C
 |.no=>False
def R.post.mono{m:R α}{P P':α->Prop}{E E':Addr->Prop}(h:m.post P E)(hp:∀a,P a->P' a)(he:∀C,E C->E' C):m.post P' E':=by
 cases m with
 |ok a=>exact hp a h
 |ex C=>exact he C h
 |no=>exact h
noncomputable def ofO:Option α->R α
 |some a=>.ok a
 |none=>.no
@[simp] theorem cC(a:α):ofO (some a)=R.ok a:=rfl
theorem ofO.ok{o:Option α}{P:α->Prop}{E:Addr->Prop}(h:(ofO o).post P E):∃a,o=some a/\P a:=by
 cases o with
 |none=>exact h.elim
 |some a=>exact⟨a,rfl,h⟩
end
inductive Fd where
 |val (d:D)|own (ds:List D)
inductive Sl where
  |val (d : D)
  |own (ds : List D)
  |obj (m : Bool) (C p : Addr) (fs : List (Nat × Fd))
noncomputable abbrev Ev:=List (Option Sl)
noncomputable def rdV(ρ:Ev)(i:Nat):R D:=match ρ[i]? with
 |some (some (.val d))=>.ok d
 |_=>.no
noncomputable abbrev rvz(i:Nat):Ev->R D:=λρ=>rdV ρ i
noncomputable abbrev ciz(n:Int):Ev->R D:=λ_=>R.ok (D.int n)
noncomputable abbrev nlz:Ev->R (List D):=λ_=>R.ok []
noncomputable abbrev csz(x:List Nat):Ev->R D:=λ_=>R.ok (D.str x)
noncomputable def fnames:List Str:=["states","taken_back","width","screen","last_notes","tasks","numbers_given"]
noncomputable def dw(k:Nat):Str:=fnames.getD k ""
noncomputable abbrev jq:=Addr->Option (Nat×Nat)
noncomputable def FdAt(K:PySem.W.Frag)(H₀ G H:Hp)(ow:jq)(i:Nat)(m:Bool)(k:Nat):Fd->V->Prop
 |.val d,v=>Rep K G v d
 |.own ds,v=>∃l ws,v=.ref l/\H l=some (.lst ws)/\G l=none/\(m=true->H₀ l=none)/\Reps K G ws ds/\ow l=some (i,k+1)
inductive FdsAt(K:PySem.W.Frag)(H₀ G H:Hp)(ow:jq)(i:Nat)(m:Bool):List (Nat×Fd)->List (Str×V)->Prop
 |nil:FdsAt K H₀ G H ow i m [] []
 |cons {k:Nat} {fd:Fd} {v:V} {fs:List (Nat×Fd)} {vs:List (Str×V)} (h:k<fnames.length) (nk:fs.lookup k=none) (r:FdAt K H₀ G H ow i m k fd v) (t:FdsAt K H₀ G H ow i m fs vs):FdsAt K H₀ G H ow i m ((k,fd)::fs) ((dw k,v)::vs)
noncomputable def InsAt(K:PySem.W.Frag)(H₀ G H:Hp)(ow:jq)(i:Nat)(m:Bool)(C p:Addr)(fs:List (Nat×Fd)):Prop:=
 ∃dx vs,H p=some (.ins C dx vs)/\H dx=some (.own p)/\G p=none/\G dx=none/\(m=true->H₀ p=none/\H₀ dx=none)/\ow p=some (i,0)/\ow dx=some (i,0)/\FdsAt K H₀ G H ow i m fs vs
noncomputable def DcoAt(K:PySem.W.Frag)(H₀ G H:Hp)(ow:jq)(i:Nat)(m:Bool)(p:Addr)(fs:List (Nat×Fd)):Prop:=
 ∃o xs ks ds,H p=some (DctO p o xs)/\G p=none/\(m=true->H₀ p=none)/\ow p=some (i,0)/\KeysAt K G xs ks/\Reps K G (xs.map (·.2.2)) ds/\fs=ks.zip (ds.map Fd.val)
noncomputable abbrev DC:Addr:=0
noncomputable def ObjAt(K:PySem.W.Frag)(H₀ G H:Hp)(ow:jq)(i:Nat)(m:Bool)(C p:Addr)(fs:List (Nat×Fd)):Prop:=(C≠DC/\InsAt K H₀ G H ow i m C p fs)\/(C=DC/\DcoAt K H₀ G H ow i m p fs)
def Jv:∀{ds:List D}{k:Nat}{es:List D},(ks.zip (ds.map Fd.val)).lookup k≠some (.own es):=by
 induction ks with
 |nil=>intro ds k es h;simp at h
 |cons a ks ih=>
  intro ds k es h;cases ds with
  |nil=>simp at h
  |cons d ds=>
   simp only[x9,mM,xI]at h;split at h;·cases h
   ·exact ih h
section
variable{K:PySem.W.Frag}{H₀:Hp}{ow:jq}{m:Bool}{p:Addr}{fs:List (Nat×Fd)}
def ObjAt.ins(h:ObjAt K H₀ G H ow i m C p fs)(ne:C≠DC):InsAt K H₀ G H ow i m C p fs:=(h.resolve_right λz=>ne z.1).2
def ObjAt.dco(h:ObjAt K H₀ G H ow i m DC p fs):DcoAt K H₀ G H ow i m p fs:=(h.resolve_left λz=>z.1 rfl).2
def ObjAt.insH{C' dx:Addr}{vs:List (Str×V)}(h:ObjAt K H₀ G H ow i m C p fs)(e:H p=some (.ins C' dx vs)):C≠DC/\InsAt K H₀ G H ow i m C p fs:=h.resolve_right λ⟨_,o,xs,ks,ds,z,_⟩=>by rw[z]at e;cases e
def ObjAt.insL{es:List D}(h:ObjAt K H₀ G H ow i m C p fs)(e:fs.lookup k=some (.own es)):InsAt K H₀ G H ow i m C p fs:=(h.resolve_right λ⟨_,o,xs,ks,ds,_,_,_,_,_,_,z⟩=>by rw[z]at e;exact Jv e).2
end
section
variable{K:PySem.W.Frag}{H₀ H₀' G':Hp}{ow ow':jq}
structure ObKeep(H₀ H₀' G H G' H':Hp)(ow ow':jq)(i:Nat):Prop where
 hh:∀a t o,ow a=some (i,t)->H a=some o->H' a=some o
 gg:Same G G'
 gn:∀a t o,ow a=some (i,t)->H a=some o->G a=none->G' a=none
 oo:∀a t o,ow a=some (i,t)->H a=some o->ow' a=some (i,t)
 h0:∀a o,H a=some o->G a=none->H₀ a=none->H₀' a=none
def FdAt.keep(k:ObKeep H₀ H₀' G H G' H' ow ow' i){m:Bool}{n:Nat}:∀{fd:Fd}{v:V},FdAt K H₀ G H ow i m n fd v->FdAt K H₀' G' H' ow' i m n fd v
 |.val d,v,r=>Rep.mono k.gg (show Rep K G v d from r)
 |.own ds,v,⟨l,ws,e,h1,h2,h3,h4,h5⟩=>⟨l,ws,e,k.hh l _ _ h5 h1,k.gn l _ _ h5 h1 h2,λz=>k.h0 l _ h1 h2 (h3 z),h4.mono k.gg,k.oo l _ _ h5 h1⟩
theorem FdsAt.keep(k:ObKeep H₀ H₀' G H G' H' ow ow' i){m:Bool}:∀{fs:List (Nat×Fd)}{vs:List (Str×V)},FdsAt K H₀ G H ow i m fs vs->FdsAt K H₀' G' H' ow' i m fs vs
 |_,_,.nil=>.nil
 |_,_,.cons h nk r t=>.cons h nk (FdAt.keep k r) (FdsAt.keep k t)
def InsAt.keep(k:ObKeep H₀ H₀' G H G' H' ow ow' i){m:Bool}{p:Addr}{fs:List (Nat×Fd)}(h:InsAt K H₀ G H ow i m C p fs):InsAt K H₀' G' H' ow' i m C p fs:=by obtain⟨dx,vs,h1,h2,h3,h4,h5,h6,h7,h8⟩:=h;exact⟨dx,vs,k.hh p _ _ h6 h1,k.hh dx _ _ h7 h2,k.gn p _ _ h6 h1 h3,k.gn dx _ _ h7 h2 h4,λz=>⟨k.h0 p _ h1 h3 (h5 z).1,k.h0 dx _ h2 h4 (h5 z).2⟩,k.oo p _ _ h6 h1,k.oo dx _ _ h7 h2,h8.keep k⟩
def DcoAt.keep(k:ObKeep H₀ H₀' G H G' H' ow ow' i){m:Bool}{p:Addr}{fs:List (Nat×Fd)}(h:DcoAt K H₀ G H ow i m p fs):DcoAt K H₀' G' H' ow' i m p fs:=
 let⟨o,xs,ks,ds,h1,h2,h3,h4,h5,h6,h7⟩:=h
 ⟨o,xs,ks,ds,k.hh p _ _ h4 h1,k.gn p _ _ h4 h1 h2,λz=>k.h0 p _ h1 h2 (h3 z),k.oo p _ _ h4 h1,h5.mono k.gg,h6.mono k.gg,h7⟩
def ObjAt.keep(k:ObKeep H₀ H₀' G H G' H' ow ow' i){m:Bool}{p:Addr}{fs:List (Nat×Fd)}(h:ObjAt K H₀ G H ow i m C p fs):ObjAt K H₀' G' H' ow' i m C p fs:=h.imp (λz=>⟨z.1,z.2.keep k⟩) λz=>⟨z.1,z.2.keep k⟩
def ObKeep.up(u:Up G H G' H'):ObKeep H₀ H₀ G H G' H' ow ow i:=by
 have gn:∀a o,H a=some o->G a=none->G' a=none:=λa o e n=>by
  cases q:G' a with
  |none=>rfl
  |some o'=>
   rcases u.fr a o' q with z|z;·rw[n]at z;cases z
   ·rw[e]at z;cases z
 exact⟨λa t o _ e=>u.hh a o e,u.gg,λa t o _ e n=>gn a o e n,λa t o e _=>e,λa o _ _ n=>n⟩
end
def ObjAt.rd{K:PySem.W.Frag}{H₀:Hp}{ow:jq}{m:Bool}{p:Addr}{fs:List (Nat×Fd)}(h:ObjAt K H₀ G H ow i m C p fs):ObjAt K (λ_=>none) G H ow i m C p fs:=
 h.keep ⟨λ_ _ _ _ e=>e,.refl _,λ_ _ _ _ _ n=>n,λ_ _ _ e _=>e,λ_ _ _ _ _=>rfl⟩
structure StE(K:PySem.W.Frag)(G H:Hp)(σ:St)(ρ:Ev):Prop where
 sub:Same G H
 len:σ.length=ρ.length
 val:∀(i:Nat) d,ρ[i]?=some (some (.val d))->∃v,σ[i]?=some (some v)/\Rep K G v d
 obs:∀(i:Nat) m C p fs,ρ[i]?=some (some (.obj m C p fs))->σ[i]?=some (some (.ref p))/\∃ow,ObjAt K (λ_=>none) G H ow i m C p fs
def StE.up{K:PySem.W.Frag}{G':Hp}{ρ:Ev}(s:StE K G H σ ρ)(u:Up G H G' H'):StE K G' H' σ ρ:=
 ⟨u.sub,s.len,λi d e=>let⟨v,h1,h2⟩:=s.val i d e;⟨v,h1,h2.mono u.gg⟩,λi m C p fs e=>let⟨h1,ow,h2⟩:=s.obs i m C p fs e;⟨h1,ow,h2.keep (.up u)⟩⟩
noncomputable def E0(P:Program)(w:World)(outer:List Env)(H:Hp)(s:Shared)(a C:Addr)(H':Hp)(s':Shared):Prop:=
 s'.os=s.os/\AllBare s'.gens/\Un (frs outer) [] H H' s.heap s'.heap/\HOk P w H' s'.heap/\H' a=none/\
 ∃(B:Heap)(a0:Value),Heap.FlyingW B outer a (.ref C) a0 s'.heap/\∀b o,b∉frs outer->((∃o0,s.heap.get? b=some o0)\/∃u,H' b=some u)->s'.heap.get? b=some o->B.get? b=some o
noncomputable def CXo(P:Program)(w:World):CXT:=λouter H s E e s'=>∃a C H',e=.ref a/\E0 P w outer H s a C H' s'/\E (.ref C) none H'
noncomputable def Nh(X:Cx)(pins:List (Addr×Obj))(b:Addr):Prop:=
 (b∈X.ex\/X.s₀.heap.objs.size<=b)/\b≠X.env.locals/\(∀x c,X.env.cells.lookup x=some c->c≠b)/\∀p∈X.pn++pins,p.1≠b
noncomputable def D7(X:Cx)(pins:List (Addr×Obj))(L:Addr)(H:Hp)(s:Shared)(a C:Addr)(H':Hp)(s':Shared):Prop:=
 s'.os=s.os/\AllBare s'.gens/\(∃ch,(∀b∈ch,Nh X pins b)/\Un (frs X.stack) ch H H' s.heap s'.heap)/\HOk X.prog X.w H' s'.heap/\H' a=none/\s.heap.get? a=none/\
 ∃(B:Heap)(a0:Value),Heap.HeldW B X.stack a (.ref C) a0 L s'.heap/\∀b o,b∉frs X.stack->((∃o0,s.heap.get? b=some o0)\/∃u,H' b=some u)->s'.heap.get? b=some o->B.get? b=some o
noncomputable def MR(X:Cx)(σ:St)(G₁ H₁:Hp)(C:Addr)(e:Value)(s':Shared):Prop:=
 ∃pins s₁ a,e=.ref a/\Inv X pins σ H₁ s₁/\
  ((∃h' vs,Heap.MadeExcOf s₁.heap h' a (.ref C) vs/\s'={ s₁ with heap:=h' })\/(∃G' H',E0 X.prog X.w X.stack H₁ s₁ a C H' s'/\Up G₁ H₁ G' H')\/∃G' H' L,X.env.frame=some L/\D7 X pins L H₁ s₁ a C H' s'/\Up G₁ H₁ G' H')
noncomputable def Fly(X:Cx)(σ:St)(G H:Hp)(C:Addr)(e:Value)(s':Shared):Prop:=∃G₁ H₁,Up G H G₁ H₁/\MR X σ G₁ H₁ C e s'
def Fly.up{G1:Hp}{e:Value}(u:Up G H G1 H1)(f:Fly X σ G1 H1 C e s'):Fly X σ G H C e s':=
 let⟨G2,H2,v,q⟩:=f;⟨G2,H2,u.trans v,q⟩
section
variable{α β:Type}
noncomputable def Fin(G H:Hp)(rep:Hp->β->α->Prop)(Q:β->Hp->Prop):α->Prop:=λd=>∀v G' H',Up G H G' H'->rep G' v d->Q v H'
noncomputable def Exx(X:Cx)(σ:St)(G H:Hp):Addr->Prop:=λC=>∀e s',Fly X σ G H C e s'->X.xe e s'
def Fin.up{G1:Hp}{rep:Hp->β->α->Prop}{Q:β->Hp->Prop}{d:α}(u:Up G H G1 H1)(h:Fin G H rep Q d):Fin G1 H1 rep Q d:=λv G' H' u' r=>h v G' H' (u.trans u') r
def Exx.up{G1:Hp}(u:Up G H G1 H1)(h:Exx X σ G H C):Exx X σ G1 H1 C:=λe s' f=>h e s' (f.up u)
def mG{G1:Hp}{rep:Hp->β->α->Prop}{Q:β->Hp->Prop}{m:R α}(u:Up G H G1 H1)(h:m.post (Fin G H rep Q) (Exx X σ G H)):m.post (Fin G1 H1 rep Q) (Exx X σ G1 H1):=
 h.mono (λ_=>Fin.up u) λ_=>Exx.up u
noncomputable def tG(X:Cx)(rep:Hp->β->α->Prop)(g:Ev->R α):St->Hp->(β->Hp->Prop)->Prop:=λσ H Q=>∃G ρ,StE X.K G H σ ρ/\(g ρ).post (Fin G H rep Q) (Exx X σ G H)
def tG.intro{γ δ:Type}{ρ:Ev}{rep:Hp->β->α->Prop}{rep':Hp->δ->γ->Prop}{g:Ev->R α}{k:α->R γ}{Q:β->Hp->Prop}{Q':δ->Hp->Prop}(st:StE X.K G H σ ρ)(h:(g ρ>>=k).post (Fin G H rep' Q') (Exx X σ G H))(hk:∀a,∀v G1 H1,Up G H G1 H1->StE X.K G1 H1 σ ρ->rep G1 v a->(k a).post (Fin G1 H1 rep' Q') (Exx X σ G1 H1)->Q v H1):tG X rep g σ H Q:=by
 refine⟨G,ρ,st,?_⟩;cases e:g ρ with
 |ok a=>rw[e]at h;exact λv G' H' u r=>hk a v G' H' u (st.up u) r (mG u h)
 |ex C=>rw[e]at h;exact h
 |no=>rw[e]at h;exact h
def tG.last{ρ:Ev}{rep:Hp->β->α->Prop}{g:Ev->R α}{Q:β->Hp->Prop}(st:StE X.K G H σ ρ)(h:(g ρ).post (Fin G H rep Q) (Exx X σ G H)):tG X rep g σ H Q:=⟨G,ρ,st,h⟩
end
noncomputable abbrev tF(X:Cx)(g:Ev->R D):TE:=tG X (Rep X.K) g
noncomputable abbrev tTF(X:Cx)(g:Ev->R Bool):TT:=tG X (λ_ b c=>b=c) g
noncomputable abbrev tAF(X:Cx)(g:Ev->R (List D)):TA:=tG X (Reps X.K) g
noncomputable def PF(X:Cx)(e:Expr)(g:Ev->R D):Prop:=PE X e (tF X g)
noncomputable def PB(X:Cx)(e:Expr)(g:Ev->R Bool):Prop:=PT X e (tTF X g)
noncomputable def PBW(X:Cx)(e:Expr)(g:Ev->R Bool):Prop:=PW X e (tTF X g)
noncomputable def PFA(X:Cx)(es:List Expr)(g:Ev->R (List D)):Prop:=PA X es (tAF X g)
end L2
variable{d:L2.D}{ds rows:List L2.D}{ow:L2.jq}{ρ:L2.Ev}{gb ge:L2.Ev->L2.R L2.D}{gl gi:L2.Ev->L2.R (List L2.D)}{asg:L2.D->L2.Ev->L2.R L2.Ev}{gs:List (L2.Ev->L2.R L2.D)}{fs':List (Nat×L2.Fd)}{gr ak aY av aE ay aX aM bd bF eN bP aB aQ:List L2.D->L2.R L2.D}{kv:List (Nat×L2.D)}
namespace L2
open PySem PySem.Spec PyProof.Rows
def rdV.ok{P:D->Prop}{E:Addr->Prop}(h:(rdV ρ i).post P E):∃d,ρ[i]?=some (some (.val d))/\P d:=by
 unfold rdV at h;split at h;·rename_i d e;exact⟨d,e,h⟩
 ·exact h.elim
section
variable{e a b c:Expr}{ga gc:Ev->R D}
def wb(i:Nat)(hN:X.N[i]?=some x:=by rfl)(hv:Vis X.env.scope x:=by first|exact Or.inl rfl|exact Or.inr (Or.inl rfl)|exact Or.inr (Or.inr rfl))(hd:(x==("__debug__":Str))=false:=by decide)(hcd:(x==("__classdict__":Str))=false:=by decide):PF X (.Name x pos) (λρ=>rdV ρ i):=by
 intro pins s σ H Q I h;obtain⟨G,ρ,st,h⟩:=h;refine cK hN hv hd hcd pins s σ H Q I ?_;obtain⟨d,e,q⟩:=rdV.ok h;obtain⟨v,e',r⟩:=st.val i d e;exact⟨v,e',q v G H (.refl st.sub) r⟩
def iP(h:PE X e (tC v))(hr:∀K G,Rep K G v d):PF X e (λ_=>.ok d):=by intro pins s σ H Q I q;obtain⟨G,ρ,st,q⟩:=q;exact h pins s σ H Q I (q v G H (.refl st.sub) (hr _ _))
def ah{i:Int}:PF X (.Constant (.int i) j pos) (λ_=>.ok (.int i)):=iP IV λ_ _=>.int i
def jS{k:Bool}:PF X (.Constant (.bool k) j pos) (λ_=>.ok (.bl k)):=iP Hv λ_ _=>.bl k
def vX:PF X (.Constant .none j pos) (λ_=>.ok .non):=iP IJ λ_ _=>.non
def ba{l:List Nat}(hl:x.cps.toList=l:=by rfl)(hz:l.length<=1000:=by decide):PF X (.Constant (.str x) j pos) (λ_=>.ok (.str l)):=
 iP Ed λ_ _=>.strL hl (w8 hz (by decide))
def cM{i:Int}{t:Tok}(hg:Gl X x)(hm:X.mg x=some (.int i t))(hd:(x==("__debug__":Str))=false:=by decide):PF X (.Name x pos) (λ_=>.ok (.int i)):=
 iP (qi (v:=.int i) hg hm ⟨t,rfl⟩ hd) λ_ _=>.int i
noncomputable def ROk(K:PySem.W.Frag)(r:R2)(f:D->D->Option D):Prop:=∀(G H:Hp)(x y:V)(dx dy d:D)(Q:VK),Same G H->Rep K G x dx->Rep K G y dy->f dx dy=some d->Fin G H (Rep K) Q d->r x y H Q
noncomputable def g2(f:D->D->Option D)(ga gb:Ev->R D):Ev->R D:=λρ=>ga ρ>>=λx=>gb ρ>>=λy=>ofO (f x y)
def Cv{r:R2}{f:D->D->Option D}(hf:ROk X.K r f){Q:VK}(h:tF X (g2 f ga gb) σ H Q):tOp r (tF X ga) (tF X gb) σ H Q:=by obtain⟨G,ρ,st,h⟩:=h;refine tG.intro st h λx v G1 H1 u1 st1 r1 h1=>?_;refine tG.intro st1 h1 λy w G2 H2 u2 st2 r2 h2=>?_;obtain⟨d,e,q⟩:=ofO.ok h2;exact hf G2 H2 v w x y d Q st2.sub (r1.mono u2.gg) r2 e q
def rB{op:Operator}{r:R2}{f:D->D->Option D}(ho:OpR X (binaryOp op) r)(hf:ROk X.K r f)(ha:PF X a ga)(hb:PF X b gb):PF X (.BinOp a op b pos) (g2 f ga gb):=
 λpins s σ H Q I h=>Jq ho ha hb pins s σ H Q I (Cv hf h)
def DF{op:CmpOp}{r:R2}{f:D->D->Option D}(ho:OpR X (compareOp op) r)(hf:ROk X.K r f)(ha:PF X a ga)(hb:PF X b gb)(hm:behindInMarks op b=false):PF X (.Compare a [op] [b] pos) (g2 f ga gb):=
 λpins s σ H Q I h=>Aj ho ha hb hm pins s σ H Q I (Cv hf h)
noncomputable def g3(f f':D->D->Option D)(ga gb gc:Ev->R D):Ev->R D:=λρ=>ga ρ>>=λx=>gb ρ>>=λy=>ofO (f x y)>>=λz=>match z with
 |.bl true=>gc ρ>>=λw=>ofO (f' y w)
 |.bl false=>.ok (.bl false)
 |_=>.no
def B5{op op':CmpOp}{r r':R2}{f f':D->D->Option D}(ho:OpR X (compareOp op) r)(ho':OpR X (compareOp op') r')(hf:ROk X.K r f)(hf':ROk X.K r' f')(ha:PF X a ga)(hb:PF X b gb)(hc:PF X c gc)(hm:lastMarks [op,op'] [b,c]=false:=by with_unfolding_all rfl):PF X (.Compare a [op,op'] [b,c] pos) (g3 f f' ga gb gc):=by
 intro pins s σ H Q I h;refine BS ho ho' ha hb hc hm pins s σ H Q I ?_;obtain⟨G,ρ,st,h⟩:=h;refine tG.intro st h λx v G1 H1 u1 st1 r1 h1=>?_;refine tG.intro st1 h1 λy w G2 H2 u2 st2 r2 h2=>?_;cases e:f x y with
 |none=>rw[e]at h2;exact h2.elim
 |some d=>
  rw[e]at h2;refine hf G2 H2 v w x y d _ st2.sub (r1.mono u2.gg) r2 e λz G3 H3 u3 r3=>?_;have h3:=mG u3 h2;have st3:=st2.up u3;cases r3 with
  |bl k=>
   refine⟨k,rfl,?_⟩;cases k with
   |false=>rw[if_neg uq];exact h3 _ G3 H3 (.refl st3.sub) (.bl false)
   |true=>rw[if_pos rfl];refine tG.intro st3 (show(gc ρ>>=λw=>ofO (f' y w)).post _ _ from h3) λq vq G4 H4 u4 st4 r4 h4=>?_;obtain⟨d,e',q'⟩:=ofO.ok h4;exact hf' G4 H4 w vq y q d Q st4.sub ((r2.mono u3.gg).mono u4.gg) r4 e' q'
  |_=>exact h3.elim
end
section
noncomputable def bM:D->D->Option D
 |.int i,.int j=>some (.int (i+j))
 |.str x,.str y=>if x.length+y.length<=sizeLine then some (.str (x++y))else none
 |.lst false xs,.lst false ys=>if xs.length+ys.length<=sizeLine then some (.lst false (xs++ys))else none
 |.tup xs,.tup ys=>if xs.length+ys.length<=sizeLine then some (.tup (xs++ys))else none
 |_,_=>none
noncomputable def DK(K:PySem.W.Frag):R2:=λx y H Q=>∃a b xs ys,x=.ref a/\y=.ref b/\SqT K H a xs/\SqT K H b ys/\xs.length+ys.length<=sizeLine/\
 (xs=[]->Q (.ref b) H)/\(xs≠[]->ys=[]->Q (.ref a) H)/\(xs≠[]->ys≠[]->∀p,H p=none->Q (.ref p) (upd H p (.tup (xs++ys))))
def BP:OpR X (binaryOp .Add) (DK X.K):=by
 intro pins s σ H x y v u Q I rx ry h;obtain⟨a,b,xs,ys,rfl,rfl,ha,hb,hz,q0,q1,q2⟩:=h;by_cases hx:xs=[]
 ·cases rx;cases ry;obtain⟨its,r1,p1,_⟩:=I.tuple ha;obtain⟨its2,r2,p2,_⟩:=I.tuple hb;have hi:its=[]:=r1.nil_iff.mpr hx;obtain⟨⟨cls,dd,data,sl⟩,ho,hc,n,hd⟩:=id p1;obtain⟨⟨cls2,dd2,data2,sl2⟩,ho2,hc2,n2,hd2⟩:=id p2;simp only at hc hd hc2 hd2;subst hc hd hc2 hd2;exact concat_meets ⟨_,ho,rfl⟩ ⟨_,ho2,rfl⟩ Z4 seq_tuple_add PySem.F.slot_tuple_add PySem.F.entry_tuple_add (PySem.F.args_tuple_add_2 _ _)
   (tuple_addW0 a b its.toArray its2.toArray n n2 dd dd2 sl sl2 (by simp[hi])) ⟨ho,ho2,.ref b,H,I,rfl,q0 hx⟩
 ·exact ED pins s σ H _ _ v u Q I rx ry ⟨a,b,xs,ys,rfl,rfl,ha,hb,hx,hz,q1 hx,q2 hx⟩
noncomputable def JK(K:PySem.W.Frag):R2:=λx y H Q=>(rI0 λi j=>.int (i+j)) x y H Q\/(∃i j,x=.str i/\y=.str j/\i.length+j.length<=sizeLine/\Q (.str (i++j)) H)\/MM x y H Q\/DK K x y H Q
def FF:OpR X (binaryOp .Add) (JK X.K):=op_add.or (op_add_str.or (op_cat.or BP))
def Str.app_list(x y:Str):(x++y).cps.toList=x.cps.toList++y.cps.toList:=by show(x.cps++y.cps).toList=_;simp
def Str.len_list(x:Str):x.cps.toList.length=x.length:=by simp[Str.length]
def Jz(K:PySem.W.Frag):ROk K (JK K) bM:=by
 intro G H x y dx dy d Q s rx ry e q;unfold bM at e;split at e;·cases e;exact .inl ⟨_,_,rx.int_inv,ry.int_inv,q _ G H (.refl s) (.int _)⟩
 ·split at e;·rename_i hz;cases e;obtain⟨i,rfl,ei,hi⟩:=rx.str_inv;obtain⟨j,rfl,ej,hj⟩:=ry.str_inv;subst ei ej;rw[Str.len_list,Str.len_list]at hz;exact .inr (.inl ⟨i,j,rfl,rfl,hz,q _ G H (.refl s) (.strL (Str.app_list i j) (by rw[ud,Str.len_list,Str.len_list];exact hz))⟩)
  ·cases e
 ·split at e;·rename_i hz;cases e;obtain⟨a,vs,rfl,ha,ra⟩:=rx.lst_inv;obtain⟨b,ws,rfl,hb,rb⟩:=ry.lst_inv;refine .inr (.inr (.inl ⟨a,b,vs,ws,rfl,rfl,s _ _ ha,s _ _ hb,by rw[ra.length,rb.length];exact hz,λp hp=>q _ _ _ (.new s hp) (.lst az ?_)⟩));exact(ra.append rb).mono (.into (s.free hp))
  ·cases e
 ·split at e
  ·rename_i hz;cases e;obtain⟨a,vs,rfl,ha,ra⟩:=rx.tup_inv;obtain⟨b,ws,rfl,hb,rb⟩:=ry.tup_inv;refine .inr (.inr (.inr ⟨a,b,vs,ws,rfl,rfl,ha.mono s,hb.mono s,by rw[ra.length,rb.length];exact hz,λz=>?_,λ_ z=>?_,λ_ _ p hp=>?_⟩));·subst z;cases ra;exact q _ G H (.refl s) (.tup hb rb)
   ·subst z;cases rb;rw[t7]at q;exact q _ G H (.refl s) (.tup ha ra)
   ·exact q _ _ _ (.new s hp) (.tup (.of az) ((ra.append rb).mono (.into (s.free hp))))
  ·cases e
 ·cases e
def aV{a b:Expr}{ga:Ev->R D}(ha:PF X a ga)(hb:PF X b gb):PF X (.BinOp a .Add b pos) (g2 bM ga gb):=rB FF (Jz _) ha hb
noncomputable def zo:D->D->Option D
 |.int i,.int j=>some (.int (i - j))
 |_,_=>none
def rJ{a b:Expr}{ga:Ev->R D}(ha:PF X a ga)(hb:PF X b gb):PF X (.BinOp a .Sub b pos) (g2 zo ga gb):=rB J4 (by
 intro G H x y dx dy d Q s rx ry e q;unfold zo at e;split at e;·cases e;exact⟨_,_,rx.int_inv,ry.int_inv,q _ G H (.refl s) (.int _)⟩
 ·cases e) ha hb
noncomputable def CG:D->D->Option D
 |.int i,.int j=>if 0<j/\j<1073741824 then some (.int (i / j))else none
 |_,_=>none
def GN{a b:Expr}{ga:Ev->R D}(ha:PF X a ga)(hb:PF X b gb):PF X (.BinOp a .FloorDiv b pos) (g2 CG ga gb):=rB Gs (by
 intro G H x y dx dy d Q s rx ry e q;unfold CG at e;split at e
 ·split at e;·rename_i hc;cases e;exact⟨_,_,rx.int_inv,ry.int_inv,hc,q _ G H (.refl s) (.int _)⟩
  ·cases e
 ·cases e) ha hb
noncomputable def zE:D->D->Option D
 |.int i,.int j=>if 0<j then some (.int (i % j))else none
 |_,_=>none
def wM{a b:Expr}{ga:Ev->R D}(ha:PF X a ga)(hb:PF X b gb):PF X (.BinOp a .Mod b pos) (g2 zE ga gb):=rB H8 (by
 intro G H x y dx dy d Q s rx ry e q;unfold zE at e;split at e
 ·split at e;·rename_i hc;cases e;exact⟨_,_,rx.int_inv,ry.int_inv,hc,q _ G H (.refl s) (.int _)⟩
  ·cases e
 ·cases e) ha hb
end
section
variable{a b c e:Expr}{ga gc:Ev->R D}
noncomputable def leD:D->D->Option D
 |.int i,.int j=>some (.bl (decide (i<=j)))
 |.str x,.str y=>some (.bl (!decide (y<x)))
 |_,_=>none
noncomputable def ltD:D->D->Option D
 |.int i,.int j=>some (.bl (decide (i<j)))
 |.str x,.str y=>some (.bl (decide (x<y)))
 |_,_=>none
noncomputable def gtD:D->D->Option D
 |.int i,.int j=>some (.bl (decide (j<i)))
 |_,_=>none
noncomputable def geD:D->D->Option D
 |.int i,.int j=>some (.bl (decide (j<=i)))
 |_,_=>none
def za:OpR X (compareOp .LtE) (λx y H Q=>∃i j:Str,x=.str i/\y=.str j/\Q (.bl (!decide (j.cps.toList<i.cps.toList))) H):=by intro pins s σ H x y v u Q I rx ry h;obtain⟨i,j,rfl,rfl,q⟩:=h;obtain⟨t,rfl⟩:=rx;obtain⟨t',rfl⟩:=ry;exact PySem.P.le_str (yX I q rfl)
def xa(K:PySem.W.Frag):ROk K (λx y H Q=>(rI0 λi j=>.bl (decide (i<=j))) x y H Q\/∃i j:Str,x=.str i/\y=.str j/\Q (.bl (!decide (j.cps.toList<i.cps.toList))) H) leD:=by
 intro G H x y dx dy d Q s rx ry e q;unfold leD at e;split at e;·cases e;exact .inl ⟨_,_,rx.int_inv,ry.int_inv,q _ G H (.refl s) (.bl _)⟩
 ·cases e;obtain⟨i,rfl,ei,hi⟩:=rx.str_inv;obtain⟨j,rfl,ej,hj⟩:=ry.str_inv;subst ei ej;exact .inr ⟨i,j,rfl,rfl,q _ G H (.refl s) (.bl _)⟩
 ·cases e
def LK(K:PySem.W.Frag):ROk K (λx y H Q=>(rI0 λi j=>.bl (decide (i<j))) x y H Q\/∃i j:Str,x=.str i/\y=.str j/\Q (.bl (decide (i.cps.toList<j.cps.toList))) H) ltD:=by
 intro G H x y dx dy d Q s rx ry e q;unfold ltD at e;split at e;·cases e;exact .inl ⟨_,_,rx.int_inv,ry.int_inv,q _ G H (.refl s) (.bl _)⟩
 ·cases e;obtain⟨i,rfl,ei,hi⟩:=rx.str_inv;obtain⟨j,rfl,ej,hj⟩:=ry.str_inv;subst ei ej;exact .inr ⟨i,j,rfl,rfl,q _ G H (.refl s) (.bl _)⟩
 ·cases e
def KP(K:PySem.W.Frag):ROk K (rI0 λi j=>.bl (decide (j<i))) gtD:=by
 intro G H x y dx dy d Q s rx ry e q;unfold gtD at e;split at e;·cases e;exact⟨_,_,rx.int_inv,ry.int_inv,q _ G H (.refl s) (.bl _)⟩
 ·cases e
def pE:OpR X (compareOp .LtE) (λx y H Q=>(rI0 λi j=>.bl (decide (i<=j))) x y H Q\/∃i j:Str,x=.str i/\y=.str j/\Q (.bl (!decide (j.cps.toList<i.cps.toList))) H):=op_le.or za
def JM:OpR X (compareOp .Lt) (λx y H Q=>(rI0 λi j=>.bl (decide (i<j))) x y H Q\/∃i j:Str,x=.str i/\y=.str j/\Q (.bl (decide (i.cps.toList<j.cps.toList))) H):=op_lt.or zL
def HI(ha:PF X a ga)(hb:PF X b gb):PF X (.Compare a [.LtE] [b] pos) (g2 leD ga gb):=DF pE (xa _) ha hb (jF _)
def tU(ha:PF X a ga)(hb:PF X b gb)(hc:PF X c gc)(hm:lastMarks [.LtE,.LtE] [b,c]=false:=by with_unfolding_all rfl):PF X (.Compare a [.LtE,.LtE] [b,c] pos) (g3 leD leD ga gb gc):=B5 pE pE (xa _) (xa _) ha hb hc hm
end
noncomputable def eqZ(f:D->D->Option Bool):List D->List D->Option (List Bool)
 |x::xs,y::ys=>(f x y).bind λb=>(eqZ f xs ys).map (b::·)
 |_,_=>some []
noncomputable def eqD:Nat->D->D->Option Bool
 | 0,_,_=>none
 |n+1,a,b=>match a,b with
  |.non,.non=>some true
  |.bl x,.bl y=>some (x==y)
  |.int i,.int j=>some (i==j)
  |.str x,.str y=>some (x==y)
  |.bl x,.int j=>some ((if x then 1 else 0)==j)
  |.int i,.bl y=>some (i==(if y then 1 else 0))
  |.lst _ xs,.lst _ ys=>if xs.length=ys.length then (eqZ (eqD n) xs ys).map λbs=>bs.all id else some false
  |.tup xs,.tup ys=>(eqZ (eqD n) xs ys).map λbs=>bs.all id && xs.length==ys.length
  |.exc _,_=>none
  |.dct _ _,_=>none
  |_,.exc _=>none
  |_,.dct _ _=>none
  |_,_=>some false
theorem eqZ.get{f:D->D->Option Bool}:∀{xs ys:List D}{bs:List Bool},eqZ f xs ys=some bs->bs.length=min xs.length ys.length/\∀(j:Nat)(x y:D),xs[j]?=some x->ys[j]?=some y->∃b,bs[j]?=some b/\f x y=some b
 | [],_,_,e=>by simp[eqZ]at e;subst e;exact⟨by simp,λj x y h=>by simp at h⟩
 |_::_,[],_,e=>by simp[eqZ]at e;subst e;exact⟨by simp,λj x y _ h=>by simp at h⟩
 |x::xs,y::ys,bs,e=>by
  unfold eqZ at e;cases e1:f x y with
  |none=>rw[e1]at e;cases e
  |some b=>
   rw[e1]at e;cases e2:eqZ f xs ys with
   |none=>rw[e2]at e;cases e
   |some cs=>
    rw[e2]at e;cases e;obtain⟨h1,h2⟩:=eqZ.get e2;refine⟨by simp[h1],λj=>?_⟩;cases j with
    |zero=>intro x' y' hx hy;simp at hx hy;subst hx hy;exact⟨b,rfl,e1⟩
    |succ j=>intro x' y' hx hy;exact h2 j x' y' (by simpa using hx) (by simpa using hy)
def nH{bs:List Bool}{n:Nat}(h:bs.length=n):(List.range n).all (λj=>bs.getD j true)=bs.all id:=by
 subst h;rw[Bool.eq_iff_iff,wX,wX];constructor;·intro h b hb;obtain⟨i,hi,rfl⟩:=List.mem_iff_getElem.mp hb;have:=h i (by simpa using hi);simpa[v9,hi]using this
 ·intro h j hj;have hj':j<bs.length:=by simpa using hj
  have:=h bs[j] (lT hj');simpa[v9,hj']using this
def dZ:(Value.type "list":Value)≠.type "tuple":=by intro h;injection h with h;exact absurd h (by decide)
section
open SeqAt
def gO(I:Inv X pins σ H s)(sub:Same G H):∀(n:Nat)(a b:D)(k:Bool)(x:V),eqD n a b=some k->Rep X.K G x a->Rep X.K G x b->k=true:=by
 intro n;induction n with
 |zero=>intro a b k x e;cases e
 |succ n ih=>
  have sq:∀(vs:List V)(xs ys:List D),Reps X.K G vs xs->Reps X.K G vs ys->∀bs,eqZ (eqD n) xs ys=some bs->bs.all id=true:=by
   intro vs;induction vs with
   |nil=>intro xs ys h1 h2 bs e;cases h1;cases h2;simp[eqZ]at e;subst e;rfl
   |cons v vs ihv=>
    intro xs ys h1 h2 bs e;cases h1 with
    |cons r1 t1=>
     cases h2 with
     |cons r2 t2=>
      unfold eqZ at e;rename_i d1 ds1 d2 ds2;cases e1:eqD n d1 d2 with
      |none=>rw[e1]at e;cases e
      |some b=>
       rw[e1]at e;cases e2:eqZ (eqD n) ds1 ds2 with
       |none=>rw[e2]at e;cases e
       |some cs=>rw[e2]at e;cases e;rw[oR,ih _ _ _ _ e1 r1 r2,ihv _ _ t1 t2 _ e2];rfl
  intro a b k x e ra rb;cases ra with
  |non=>cases rb;simp[eqD]at e;exact e
  |bl y=>cases rb;simp[eqD]at e;exact e
  |int i=>cases rb;simp[eqD]at e;exact e
  |str y h=>
   cases rb with
   |str z h'=>simp[eqD]at e;exact e
  |tup h r=>
   cases rb with
   |tup h' r'=>
    have q:=I.tuple_inj (h.mono sub) (h'.mono sub);subst q;simp only[eqD]at e;rename_i ds es;cases e2:eqZ (eqD n) ds es with
    |none=>rw[e2]at e;cases e
    |some cs=>rw[e2]at e;have this:(cs.all id && ds.length==es.length)=k:=xV e;rw[sq _ _ _ r r' _ e2,Bool.true_and]at this;rw[<- this,<- r.length,<- r'.length];simp
   |lst h' r'=>obtain⟨its,_,⟨o,e1,c1,_⟩,_⟩:=I.tuple (h.mono sub);obtain⟨_,its',n',_,e2⟩:=I.hok _ _ (sub _ _ h');rw[e1]at e2;cases e2;exact absurd c1 dZ
   |fls h' r'=>obtain⟨its,_,⟨o,e1,c1,_⟩,_⟩:=I.tuple (h.mono sub);obtain⟨its',_,⟨o',n',e2,c2,_⟩,_⟩:=I.list (h'.mono sub);rw[e1]at e2;cases e2;rw[c1]at c2;exact absurd c2.symm dZ
   |exc h'=>simp[eqD]at e
   |dct _ _ _=>simp[eqD]at e
  |lst h r=>
   have hl:SqL X.K G _ _:=SqL.of h;cases rb with
   |tup h' r'=>obtain⟨its,_,⟨o,e1,c1,_⟩,_⟩:=I.tuple (h'.mono sub);obtain⟨_,its',n',_,e2⟩:=I.hok _ _ (sub _ _ h);rw[e1]at e2;cases e2;exact absurd c1 dZ
   |lst h' r'=>
    rw[h]at h';cases h';simp only[eqD]at e;rw[if_pos (by rw[<- r.length,<- r'.length])]at e;rename_i ds es;cases e2:eqZ (eqD n) ds es with
    |none=>rw[e2]at e;cases e
    |some cs=>rw[e2]at e;have:=xV e;rw[<- this];exact sq _ _ _ r r' _ e2
   |fls h' r'=>
    have q:=I.list_inj (hl.mono sub) (h'.mono sub);subst q;simp only[eqD]at e;rw[if_pos (by rw[<- r.length,<- r'.length])]at e;rename_i ds es;cases e2:eqZ (eqD n) ds es with
    |none=>rw[e2]at e;cases e
    |some cs=>rw[e2]at e;have:=xV e;rw[<- this];exact sq _ _ _ r r' _ e2
   |exc h'=>simp[eqD]at e
   |dct _ _ _=>simp[eqD]at e
  |fls h r=>
   cases rb with
   |tup h' r'=>obtain⟨its,_,⟨o,e1,c1,_⟩,_⟩:=I.tuple (h'.mono sub);obtain⟨its',_,⟨o',n',e2,c2,_⟩,_⟩:=I.list (h.mono sub);rw[e1]at e2;cases e2;rw[c1]at c2;exact absurd c2.symm dZ
   |lst h' r'=>
    have q:=I.list_inj (h.mono sub) ((SqL.of h':SqL X.K G _ _).mono sub);subst q;simp only[eqD]at e;rw[if_pos (by rw[<- r.length,<- r'.length])]at e;rename_i ds es;cases e2:eqZ (eqD n) ds es with
    |none=>rw[e2]at e;cases e
    |some cs=>rw[e2]at e;have:=xV e;rw[<- this];exact sq _ _ _ r r' _ e2
   |fls h' r'=>
    have q:=I.list_inj (h.mono sub) (h'.mono sub);subst q;simp only[eqD]at e;rw[if_pos (by rw[<- r.length,<- r'.length])]at e;rename_i ds es;cases e2:eqZ (eqD n) ds es with
    |none=>rw[e2]at e;cases e
    |some cs=>rw[e2]at e;have:=xV e;rw[<- this];exact sq _ _ _ r r' _ e2
   |exc h'=>simp[eqD]at e
   |dct _ _ _=>simp[eqD]at e
  |exc h=>simp[eqD]at e
  |dct _ _ _=>simp[eqD]at e
structure Eqs(A:Around)(s:Shared)(v u:Value)(k:Bool):Prop where
 eq:EqAt A s v u k
 rc:RcAt A s v u k
 ne:RcNeAt A s v u (!k)
def iZ{f:Bool}{x:V}{u:Value}(I:Inv X pins σ H s)(sub:Same G H)(r:Rep X.K G x (.lst f ds))(ru:RelV x u):∃a its vs,u=.ref a/\s.heap.IsList a (List.toArray its)/\Vals vs its/\Reps X.K G vs ds:=by obtain⟨a,vs,rfl,h,t⟩:=r.seq_inv;cases ru;obtain⟨its,rv,⟨o,n,e1,c1,_,d1⟩,_⟩:=I.list (h.mono sub);exact⟨a,its,vs,rfl,⟨o,e1,c1,n,d1⟩,rv,t⟩
def nG{x:V}{u:Value}(I:Inv X pins σ H s)(sub:Same G H)(r:Rep X.K G x (.tup ds))(ru:RelV x u):∃a its vs,u=.ref a/\s.heap.IsTuple a (List.toArray its)/\Vals vs its/\Reps X.K G vs ds:=by obtain⟨a,vs,rfl,h,t⟩:=r.tup_inv;cases ru;obtain⟨its,rv,p,_⟩:=I.tuple (h.mono sub);exact⟨a,its,vs,rfl,p,rv,t⟩
def A7(I:Inv X pins σ H s)(sub:Same G H):∀(n:Nat)(A:Around)(a b:D)(k:Bool)(x y:V)(v u:Value),A.units+n<cLine->eqD n a b=some k->Rep X.K G x a->Rep X.K G y b->RelV x v->RelV y u->Eqs A s v u k:=by
 intro n;induction n with
 |zero=>intro A a b k x y v u _ e;cases e
 |succ n ih=>
  have sq:∀(A:Around)(vs ws:List V)(xs ys:List D)(is js:List Value)(bs:List Bool),A.units+(n+1)<cLine->Reps X.K G vs xs->Reps X.K G ws ys->Vals vs is->Vals ws js->eqZ (eqD n) xs ys=some bs->
    bs.length=min is.length js.length/\∀j (h1:j<is.toArray.size) (h2:j<js.toArray.size),EqAt A.in1 s is.toArray[j] js.toArray[j] (bs.getD j true):=by
   intro A vs ws xs ys is js bs hA r1 r2 v1 v2 e;obtain⟨h1,h2⟩:=eqZ.get e;refine⟨by rw[h1,<- r1.length,<- r2.length,v1.length,v2.length],λj q1 q2=>?_⟩;rw[xi]at q1 q2;have p1:j<xs.length:=by rw[<- r1.length,v1.length];exact q1
   have p2:j<ys.length:=by rw[<- r2.length,v2.length];exact q2
   obtain⟨b,e1,e2⟩:=h2 j xs[j] ys[j] (by simp[p1]) (by simp[p2]);obtain⟨x',ex,rx⟩:=r1.get (i:=j) (d:=xs[j]) (by simp[p1]);obtain⟨y',ey,ry⟩:=r2.get (i:=j) (d:=ys[j]) (by simp[p2]);obtain⟨u1,eu1,ru1⟩:=v1.get ex;obtain⟨u2,eu2,ru2⟩:=v2.get ey;have g1:is.toArray[j]=u1:=by simpa[q1]using eu1
   have g2:js.toArray[j]=u2:=by simpa[q2]using eu2
   rw[v9,e1];simp only[List.getElem_toArray]at g1 g2⊢;rw[g1,g2];exact(ih A.in1 _ _ b x' y' u1 u2 (by show A.units+1+n<cLine;omega) e2 rx ry ru1 ru2).eq
  intro A a b k x y v u hA e ra rb rv ru;have hu:A.units<cLine:=by omega
  have same:∀c d:Addr,v=.ref c->u=.ref d->c=d->k=true:=λc d h1 h2 h3=>by
   subst h1 h2 h3;cases ra with
   |tup h r=>cases rv;cases rb with
    |tup h' r'=>cases ru;exact gO I sub (n+1) _ _ k _ e (.tup h r) (.tup h' r')
    |lst h' r'=>cases ru;exact gO I sub (n+1) _ _ k _ e (.tup h r) (.lst h' r')
    |fls h' r'=>cases ru;exact gO I sub (n+1) _ _ k _ e (.tup h r) (.fls h' r')
    |exc h'=>simp[eqD]at e
    |dct _ _ _=>simp[eqD]at e
    |str _ _=>obtain⟨t,z⟩:=ru;cases z
    |int _=>obtain⟨t,z⟩:=ru;cases z
    |non=>cases ru
    |bl _=>cases ru
   |lst h r=>cases rv;cases rb with
    |tup h' r'=>cases ru;exact gO I sub (n+1) _ _ k _ e (.lst h r) (.tup h' r')
    |lst h' r'=>cases ru;exact gO I sub (n+1) _ _ k _ e (.lst h r) (.lst h' r')
    |fls h' r'=>cases ru;exact gO I sub (n+1) _ _ k _ e (.lst h r) (.fls h' r')
    |exc h'=>simp[eqD]at e
    |dct _ _ _=>simp[eqD]at e
    |str _ _=>obtain⟨t,z⟩:=ru;cases z
    |int _=>obtain⟨t,z⟩:=ru;cases z
    |non=>cases ru
    |bl _=>cases ru
   |fls h r=>cases rv;cases rb with
    |tup h' r'=>cases ru;exact gO I sub (n+1) _ _ k _ e (.fls h r) (.tup h' r')
    |lst h' r'=>cases ru;exact gO I sub (n+1) _ _ k _ e (.fls h r) (.lst h' r')
    |fls h' r'=>cases ru;exact gO I sub (n+1) _ _ k _ e (.fls h r) (.fls h' r')
    |exc h'=>simp[eqD]at e
    |dct _ _ _=>simp[eqD]at e
    |str _ _=>obtain⟨t,z⟩:=ru;cases z
    |int _=>obtain⟨t,z⟩:=ru;cases z
    |non=>cases ru
    |bl _=>cases ru
   |exc h=>simp[eqD]at e
   |dct _ _ _=>simp[eqD]at e
   |str _ _=>obtain⟨t,z⟩:=rv;cases z
   |int _=>obtain⟨t,z⟩:=rv;cases z
   |non=>cases rv
   |bl _=>cases rv
  have refs:∀c d:Addr,v=.ref c->u=.ref d->RcAt A s v u k->EqAt A s v u k:=λc d h1 h2 h=>by
   subst h1 h2;by_cases h3:c=d;·have:=same c d rfl rfl h3;subst h3 this;exact EqAt.same _
   ·exact EqAt.of_refs h3 h
  cases a with
  |exc C=>simp[eqD]at e
  |dct _ _=>simp[eqD]at e
  |non=>
   obtain rfl:=ra.non_inv;cases rv;cases b with
   |exc C=>simp[eqD]at e
   |dct _ _=>simp[eqD]at e
   |non=>obtain rfl:=rb.non_inv;cases ru;simp[eqD]at e;subst e;exact⟨EqAt.same _,RcAt.none_none,RcNeAt.none_none⟩
   |bl z=>obtain rfl:=rb.bl_inv;cases ru;simp[eqD]at e;subst e;exact⟨EqAt.none_bool _,RcAt.none_bool _,RcNeAt.none_bool _⟩
   |int z=>obtain rfl:=rb.int_inv;obtain⟨t,rfl⟩:=ru;simp[eqD]at e;subst e;exact⟨EqAt.none_int _ _,RcAt.none_int _ _,RcNeAt.none_int _ _⟩
   |str z=>obtain⟨z,rfl,-,-⟩:=rb.str_inv;obtain⟨t,rfl⟩:=ru;simp[eqD]at e;subst e;exact⟨EqAt.none_str _ _,RcAt.none_str _ _,RcNeAt.none_str _ _⟩
   |tup ds=>obtain⟨c,its,vs,rfl,p,_,_⟩:=nG I sub rb ru;simp[eqD]at e;subst e;exact⟨EqAt.none_tuple p hu,RcAt.none_tuple p hu,RcNeAt.none_tuple p hu⟩
   |lst f ds=>obtain⟨c,its,vs,rfl,p,_,_⟩:=iZ I sub rb ru;simp[eqD]at e;subst e;exact⟨EqAt.none_list p hu,RcAt.none_list p hu,RcNeAt.none_list p hu⟩
  |bl w=>
   obtain rfl:=ra.bl_inv;cases rv;cases b with
   |exc C=>simp[eqD]at e
   |dct _ _=>simp[eqD]at e
   |non=>obtain rfl:=rb.non_inv;cases ru;simp[eqD]at e;subst e;exact⟨EqAt.bool_none _,RcAt.bool_none _,RcNeAt.bool_none _⟩
   |bl z=>obtain rfl:=rb.bl_inv;cases ru;simp only[eqD]at e;cases e;exact⟨EqAt.bool_bool _ _,RcAt.bool_bool _ _,RcNeAt.bool_bool _ _⟩
   |int z=>obtain rfl:=rb.int_inv;obtain⟨t,rfl⟩:=ru;simp only[eqD]at e;cases e;exact⟨EqAt.bool_int _ _ _,RcAt.bool_int _ _ _,RcNeAt.bool_int _ _ _⟩
   |str z=>obtain⟨z,rfl,-,-⟩:=rb.str_inv;obtain⟨t,rfl⟩:=ru;simp[eqD]at e;subst e;exact⟨EqAt.bool_str _ _ _,RcAt.bool_str _ _ _,RcNeAt.bool_str _ _ _⟩
   |tup ds=>obtain⟨c,its,vs,rfl,p,_,_⟩:=nG I sub rb ru;simp[eqD]at e;subst e;exact⟨EqAt.bool_tuple _ p hu,RcAt.bool_tuple _ p hu,RcNeAt.bool_tuple _ p hu⟩
   |lst f ds=>obtain⟨c,its,vs,rfl,p,_,_⟩:=iZ I sub rb ru;simp[eqD]at e;subst e;exact⟨EqAt.bool_list _ p hu,RcAt.bool_list _ p hu,RcNeAt.bool_list _ p hu⟩
  |int w=>
   obtain rfl:=ra.int_inv;obtain⟨t0,rfl⟩:=rv;cases b with
   |exc C=>simp[eqD]at e
   |dct _ _=>simp[eqD]at e
   |non=>obtain rfl:=rb.non_inv;cases ru;simp[eqD]at e;subst e;exact⟨EqAt.int_none _ _,RcAt.int_none _ _,RcNeAt.int_none _ _⟩
   |bl z=>obtain rfl:=rb.bl_inv;cases ru;simp only[eqD]at e;cases e;exact⟨EqAt.int_bool _ _ _,RcAt.int_bool _ _ _,RcNeAt.int_bool _ _ _⟩
   |int z=>obtain rfl:=rb.int_inv;obtain⟨t,rfl⟩:=ru;simp only[eqD]at e;cases e;exact⟨EqAt.int_int _ _ _ _,RcAt.int_int _ _ _ _,RcNeAt.int_int _ _ _ _⟩
   |str z=>obtain⟨z,rfl,-,-⟩:=rb.str_inv;obtain⟨t,rfl⟩:=ru;simp[eqD]at e;subst e;exact⟨EqAt.int_str _ _ _ _,RcAt.int_str _ _ _ _,RcNeAt.int_str _ _ _ _⟩
   |tup ds=>obtain⟨c,its,vs,rfl,p,_,_⟩:=nG I sub rb ru;simp[eqD]at e;subst e;exact⟨EqAt.int_tuple _ _ p hu,RcAt.int_tuple _ _ p hu,RcNeAt.int_tuple _ _ p hu⟩
   |lst f ds=>obtain⟨c,its,vs,rfl,p,_,_⟩:=iZ I sub rb ru;simp[eqD]at e;subst e;exact⟨EqAt.int_list _ _ p hu,RcAt.int_list _ _ p hu,RcNeAt.int_list _ _ p hu⟩
  |str w=>
   obtain⟨w,rfl,ew,-⟩:=ra.str_inv;obtain⟨t0,rfl⟩:=rv;cases b with
   |exc C=>simp[eqD]at e
   |dct _ _=>simp[eqD]at e
   |non=>obtain rfl:=rb.non_inv;cases ru;simp[eqD]at e;subst e;exact⟨EqAt.str_none _ _,RcAt.str_none _ _,RcNeAt.str_none _ _⟩
   |bl z=>obtain rfl:=rb.bl_inv;cases ru;simp[eqD]at e;subst e;exact⟨EqAt.str_bool _ _ _,RcAt.str_bool _ _ _,RcNeAt.str_bool _ _ _⟩
   |int z=>obtain rfl:=rb.int_inv;obtain⟨t,rfl⟩:=ru;simp[eqD]at e;subst e;exact⟨EqAt.str_int _ _ _ _,RcAt.str_int _ _ _ _,RcNeAt.str_int _ _ _ _⟩
   |str z=>obtain⟨z,rfl,ez,-⟩:=rb.str_inv;obtain⟨t,rfl⟩:=ru;simp only[eqD]at e;subst ew ez;rw[str_beq]at e;cases e;exact⟨EqAt.str_str _ _ _ _,RcAt.str_str _ _ _ _,RcNeAt.str_str _ _ _ _⟩
   |tup ds=>obtain⟨c,its,vs,rfl,p,_,_⟩:=nG I sub rb ru;simp[eqD]at e;subst e;exact⟨EqAt.str_tuple _ _ p hu,RcAt.str_tuple _ _ p hu,RcNeAt.str_tuple _ _ p hu⟩
   |lst f ds=>obtain⟨c,its,vs,rfl,p,_,_⟩:=iZ I sub rb ru;simp[eqD]at e;subst e;exact⟨EqAt.str_list _ _ p hu,RcAt.str_list _ _ p hu,RcNeAt.str_list _ _ p hu⟩
  |tup ds1=>
   obtain⟨c1,its1,vs1,rfl,p1,w1,q1⟩:=nG I sub ra rv;cases b with
   |exc C=>simp[eqD]at e
   |dct _ _=>simp[eqD]at e
   |non=>obtain rfl:=rb.non_inv;cases ru;simp[eqD]at e;subst e;exact⟨EqAt.tuple_none p1 hu,RcAt.tuple_none p1 hu,RcNeAt.tuple_none p1 hu⟩
   |bl z=>obtain rfl:=rb.bl_inv;cases ru;simp[eqD]at e;subst e;exact⟨EqAt.tuple_bool _ p1 hu,RcAt.tuple_bool _ p1 hu,RcNeAt.tuple_bool _ p1 hu⟩
   |int z=>obtain rfl:=rb.int_inv;obtain⟨t,rfl⟩:=ru;simp[eqD]at e;subst e;exact⟨EqAt.tuple_int _ _ p1 hu,RcAt.tuple_int _ _ p1 hu,RcNeAt.tuple_int _ _ p1 hu⟩
   |str z=>obtain⟨z,rfl,-,-⟩:=rb.str_inv;obtain⟨t,rfl⟩:=ru;simp[eqD]at e;subst e;exact⟨EqAt.tuple_str _ _ p1 hu,RcAt.tuple_str _ _ p1 hu,RcNeAt.tuple_str _ _ p1 hu⟩
   |lst f ds=>obtain⟨c,its,vs,rfl,p,_,_⟩:=iZ I sub rb ru;simp[eqD]at e;subst e;exact⟨EqAt.tuple_list p1 p hu,RcAt.tuple_list p1 p hu,RcNeAt.tuple_list p1 p hu⟩
   |tup ds2=>
    obtain⟨c2,its2,vs2,rfl,p2,w2,q2⟩:=nG I sub rb ru;simp only[eqD]at e;cases e2:eqZ (eqD n) ds1 ds2 with
    |none=>rw[e2]at e;cases e
    |some bs=>
     rw[e2]at e;have ek:=xV e;obtain⟨hl,he⟩:=sq A _ _ _ _ _ _ bs hA q1 q2 w1 w2 e2;have e3:((List.range (min its1.toArray.size its2.toArray.size)).all (λj=>bs.getD j true) && its1.toArray.size==its2.toArray.size)=k:=by rw[<- ek,xi,xi,nH hl,<- w1.length,<- w2.length,q1.length,q2.length]
     have hrc:RcAt A s (.ref c1) (.ref c2) k:=by rw[<- e3];exact RcAt.tuples p1 p2 hu he
     have hne:RcNeAt A s (.ref c1) (.ref c2) (!k):=by rw[<- e3];exact RcNeAt.tuples p1 p2 hu he
     exact⟨refs _ _ rfl rfl hrc,hrc,hne⟩
  |lst f1 ds1=>
   obtain⟨c1,its1,vs1,rfl,p1,w1,q1⟩:=iZ I sub ra rv;cases b with
   |exc C=>simp[eqD]at e
   |dct _ _=>simp[eqD]at e
   |non=>obtain rfl:=rb.non_inv;cases ru;simp[eqD]at e;subst e;exact⟨EqAt.list_none p1 hu,RcAt.list_none p1 hu,RcNeAt.list_none p1 hu⟩
   |bl z=>obtain rfl:=rb.bl_inv;cases ru;simp[eqD]at e;subst e;exact⟨EqAt.list_bool _ p1 hu,RcAt.list_bool _ p1 hu,RcNeAt.list_bool _ p1 hu⟩
   |int z=>obtain rfl:=rb.int_inv;obtain⟨t,rfl⟩:=ru;simp[eqD]at e;subst e;exact⟨EqAt.list_int _ _ p1 hu,RcAt.list_int _ _ p1 hu,RcNeAt.list_int _ _ p1 hu⟩
   |str z=>obtain⟨z,rfl,-,-⟩:=rb.str_inv;obtain⟨t,rfl⟩:=ru;simp[eqD]at e;subst e;exact⟨EqAt.list_str _ _ p1 hu,RcAt.list_str _ _ p1 hu,RcNeAt.list_str _ _ p1 hu⟩
   |tup ds=>obtain⟨c,its,vs,rfl,p,_,_⟩:=nG I sub rb ru;simp[eqD]at e;subst e;exact⟨EqAt.list_tuple p1 p hu,RcAt.list_tuple p1 p hu,RcNeAt.list_tuple p1 p hu⟩
   |lst f2 ds2=>
    obtain⟨c2,its2,vs2,rfl,p2,w2,q2⟩:=iZ I sub rb ru;simp only[eqD]at e;by_cases hlen:ds1.length=ds2.length
    ·rw[if_pos hlen]at e;cases e2:eqZ (eqD n) ds1 ds2 with
     |none=>rw[e2]at e;cases e
     |some bs=>
      rw[e2]at e;have ek:=xV e;obtain⟨hl,he⟩:=sq A _ _ _ _ _ _ bs hA q1 q2 w1 w2 e2;have hz:its1.toArray.size=its2.toArray.size:=by rw[xi,xi,<- w1.length,<- w2.length,q1.length,q2.length];exact hlen
      have e3:(List.range its1.toArray.size).all (λj=>bs.getD j true)=k:=by rw[<- ek,nH];rw[hl,xi];simp only[xi]at hz;omega
      have hrc:RcAt A s (.ref c1) (.ref c2) k:=by rw[<- e3];exact RcAt.lists p1 p2 hz hu he
      have hne:RcNeAt A s (.ref c1) (.ref c2) (!k):=by rw[<- e3];exact RcNeAt.lists p1 p2 hz hu he
      exact⟨refs _ _ rfl rfl hrc,hrc,hne⟩
    ·rw[if_neg hlen]at e;cases e;have hz:(its1.toArray.size != its2.toArray.size)=true:=by rw[xi,xi,<- w1.length,<- w2.length,q1.length,q2.length];simpa using hlen
     have hrc:RcAt A s (.ref c1) (.ref c2) false:=RcAt.lists_lengths p1 p2 hz hu;exact⟨refs _ _ rfl rfl hrc,hrc,RcNeAt.lists_lengths p1 p2 hz hu⟩
end
section
variable{a b:Expr}{ga:Ev->R D}
noncomputable def eqF(x y:D):Option D:=(eqD 40 x y).map .bl
noncomputable def neF(x y:D):Option D:=(eqD 40 x y).map λk=>.bl (!k)
noncomputable def LA(K:PySem.W.Frag)(neg:Bool):R2:=λx y H Q=>∃G dx dy k,Same G H/\Rep K G x dx/\Rep K G y dy/\eqD 40 dx dy=some k/\Q (.bl (if neg then !k else k)) H
def zH(hu:X.A.units+64<cLine):OpR X (compareOp .Eq) (LA X.K false):=by intro pins s σ H x y v u Q I rx ry h;obtain⟨G,dx,dy,k,sub,r1,r2,e,q⟩:=h;exact(A7 I sub 40 X.A dx dy k x y v u (by omega) e r1 r2 rx ry).rc _ _ _ _ ⟨.bl k,H,I,rfl,q⟩
def Ke(hu:X.A.units+64<cLine):OpR X (compareOp .NotEq) (LA X.K true):=by intro pins s σ H x y v u Q I rx ry h;obtain⟨G,dx,dy,k,sub,r1,r2,e,q⟩:=h;exact(A7 I sub 40 X.A dx dy k x y v u (by omega) e r1 r2 rx ry).ne _ _ _ _ ⟨.bl (!k),H,I,rfl,q⟩
def me(hu:X.A.units+64<cLine)(ha:PF X a ga)(hb:PF X b gb):PF X (.Compare a [.Eq] [b] pos) (g2 eqF ga gb):=DF (zH hu) (by
 intro G H x y dx dy d Q s rx ry e q;unfold eqF at e;cases e1:eqD 40 dx dy with
 |none=>rw[e1]at e;cases e
 |some k=>rw[e1]at e;cases e;exact⟨G,dx,dy,k,s,rx,ry,e1,q _ G H (.refl s) (.bl k)⟩) ha hb (jF _)
end
end L2
namespace L2
open PySem PySem.Spec PyProof.Rows
section
variable{a b c e:Expr}{cS:List Expr}{ga gc:Ev->R D}{gt gu:Ev->R Bool}
noncomputable def isD:D->D->Option Bool
 |.non,.non=>some true
 |_,.non=>some false
 |.bl x,.bl y=>some (x==y)
 |_,_=>none
noncomputable def isF(x y:D):Option D:=(isD x y).map .bl
noncomputable def rIs(neg:Bool):R2:=λx y H Q=>(y=.non/\Q (.bl (if neg then !decide (x=.non)else decide (x=.non))) H)\/∃i j,x=.bl i/\y=.bl j/\Q (.bl (if neg then !(i==j)else (i==j))) H
def Kc:OpR X (compareOp .Is) (rIs false):=op_isN.or (r':=λx y H Q=>∃i j,x=.bl i/\y=.bl j/\Q (.bl (i==j)) H) (by intro pins s σ H x y v u Q I rx ry h;obtain⟨i,j,rfl,rfl,q⟩:=h;cases rx;cases ry;exact is_bool ⟨.bl _,H,I,rfl,q⟩)
def KR(K:PySem.W.Frag)(neg:Bool):ROk K (rIs neg) (λx y=>(isD x y).map λk=>.bl (if neg then !k else k)):=by
 intro G H x y dx dy d Q s rx ry e q;dsimp only at e;cases e1:isD dx dy with
 |none=>rw[e1]at e;cases e
 |some k=>
  rw[e1]at e;have ed:D.bl (if neg=true then !k else k)=d:=xV e;subst ed;unfold isD at e1;split at e1;·cases e1;exact .inl ⟨ry.non_inv,by rw[rx.non_inv];exact q _ G H (.refl s) (.bl _)⟩
  ·rename_i hx;cases e1;have hn:x≠.non:=λz=>by subst z;cases rx;exact hx rfl
   refine .inl ⟨ry.non_inv,?_⟩;rw[u7 hn];exact q _ G H (.refl s) (.bl _)
  ·cases e1;exact .inr ⟨_,_,rx.bl_inv,ry.bl_inv,q _ G H (.refl s) (.bl _)⟩
  ·cases e1
noncomputable def asB:D->R Bool
 |.bl k=>.ok k
 |_=>.no
noncomputable def kf(ga gb:Ev->R D):Ev->R D:=λρ=>ga ρ>>=λx=>asB x>>=λk=>if k=true then gb ρ else .ok (.bl false)
noncomputable def gOr(ga gb:Ev->R D):Ev->R D:=λρ=>ga ρ>>=λx=>asB x>>=λk=>if k=true then .ok (.bl true)else gb ρ
noncomputable def Lq(ga:Ev->R D):Ev->R D:=λρ=>ga ρ>>=λx=>asB x>>=λk=>.ok (.bl (!k))
def asB.ok{β:Type}{K:PySem.W.Frag}{k:Bool->R β}{P:β->Prop}{E:Addr->Prop}(r:Rep K G v d)(h:(asB d>>=k).post P E):∃c,v=.bl c/\d=.bl c/\(k c).post P E:=by
 cases r with
 |bl c=>exact⟨c,rfl,rfl,h⟩
 |_=>exact h.elim
def fX{op:BoolOp}(h:PF X a ga):PF X (.BoolOp op [a] pos) ga:=H9 h
def dL(ha:PF X a ga)(hb:PF X (.BoolOp .And (b::cS) pos) gb):PF X (.BoolOp .And (a::b::cS) pos) (kf ga gb):=by
 intro pins s σ H Q I h;refine Hl ha hb pins s σ H Q I ?_;obtain⟨G,ρ,st,h⟩:=h;refine tG.intro st h λx v G1 H1 u1 st1 r1 h1=>?_;obtain⟨c,ec,ed,h2⟩:=asB.ok r1 h1;subst ec ed;refine⟨c,rfl,?_⟩;cases c with
 |true=>rw[if_pos rfl]at h2⊢;exact tG.last st1 h2
 |false=>rw[if_neg uq]at h2⊢;exact h2 _ G1 H1 (.refl st1.sub) (.bl false)
def HD(ha:PF X a ga)(hb:PF X (.BoolOp .Or (b::cS) pos) gb):PF X (.BoolOp .Or (a::b::cS) pos) (gOr ga gb):=by
 intro pins s σ H Q I h;refine KS ha hb pins s σ H Q I ?_;obtain⟨G,ρ,st,h⟩:=h;refine tG.intro st h λx v G1 H1 u1 st1 r1 h1=>?_;obtain⟨c,ec,ed,h2⟩:=asB.ok r1 h1;subst ec ed;refine⟨c,rfl,?_⟩;cases c with
 |true=>rw[if_pos rfl]at h2⊢;exact h2 _ G1 H1 (.refl st1.sub) (.bl true)
 |false=>rw[if_neg uq]at h2⊢;exact tG.last st1 h2
def Js(ha:PF X a ga):PF X (.UnaryOp .Not a pos) (Lq ga):=by intro pins s σ H Q I h;refine Ij ha pins s σ H Q I ?_;obtain⟨G,ρ,st,h⟩:=h;refine tG.intro st h λx v G1 H1 u1 st1 r1 h1=>?_;obtain⟨c,ec,ed,h2⟩:=asB.ok r1 h1;subst ec ed;exact⟨c,rfl,h2 _ G1 H1 (.refl st1.sub) (.bl _)⟩
noncomputable def qX:D->R D
 |.int i=>.ok (.int (-i))
 |_=>.no
def J9(ha:PF X a ga):PF X (.UnaryOp .USub a pos) (λρ=>ga ρ>>=qX):=by
 intro pins s σ H Q I h;refine L1 Ju ha pins s σ H Q I ?_;obtain⟨G,ρ,st,h⟩:=h;refine tG.intro st h λx v G1 H1 u1 st1 r1 h1=>?_;cases r1 with
 |int i=>exact⟨i,rfl,h1 _ G1 H1 (.refl st1.sub) (.int _)⟩
 |_=>exact h1.elim
noncomputable def ie:D->R Bool
 |.non=>.ok false
 |.bl k=>.ok k
 |.int i=>.ok (i != 0)
 |.str x=>.ok (!x.isEmpty)
 |.tup xs=>.ok (!xs.isEmpty)
 |.lst _ xs=>.ok (!xs.isEmpty)
 |.exc _=>.no
 |.dct _ _=>.no
def Reps.isEmpty{K:PySem.W.Frag}(r:Reps K G vs ds):vs.isEmpty=ds.isEmpty:=by cases r <;> rfl
def zW(h:PF X e ga)(he:∀whole,isTrue e X.env whole=(do let v <- whole;standAt e.pos;holding [v] (truthy v)):=by intro _;rfl):PB X e (λρ=>ga ρ>>=ie):=by
 intro pins s σ H Q I hq;refine C5 h he pins s σ H Q I ?_;obtain⟨G,ρ,st,hq⟩:=hq;refine tG.intro st hq λx v G1 H1 u1 st1 r1 h1=>?_;have fin:∀k,ie x=.ok k->Q k H1:=λk ek=>by rw[ek]at h1;exact h1 k G1 H1 (.refl st1.sub) rfl
 cases r1 with
 |non=>exact⟨_,rfl,fin _ rfl⟩
 |bl k=>exact⟨_,rfl,fin _ rfl⟩
 |int i=>exact⟨_,rfl,fin _ rfl⟩
 |str y hy=>
  refine⟨_,⟨hy,rfl⟩,fin _ ?_⟩;show R.ok _=R.ok _
  congr 1
  have:y.cps.toList.length=y.length:=Str.len_list y;cases h:y.cps.toList with
  |nil=>rw[h]at this;rw[<- this];rfl
  |cons c cs=>rw[h]at this;rw[<- this];simp;omega
 |tup h r=>exact⟨_,.inr (.inl ⟨_,h.mono st1.sub,rfl⟩),fin _ (by show R.ok _=R.ok _;rw[r.isEmpty])⟩
 |lst h r=>exact⟨_,.inl ⟨_,.of (st1.sub _ _ h),rfl⟩,fin _ (by show R.ok _=R.ok _;rw[r.isEmpty])⟩
 |fls h r=>exact⟨_,.inl ⟨_,h.mono st1.sub,rfl⟩,fin _ (by show R.ok _=R.ok _;rw[r.isEmpty])⟩
 |_=>exact h1.elim
def pf{op:CmpOp}{r:R2}{f:D->D->Option D}(ho:OpR X (compareOp op) r)(hf:ROk X.K r f)(ha:PF X a ga)(hb:PF X b gb)(hm:behindInMarks op b=false):PB X (.Compare a [op] [b] pos) (λρ=>g2 f ga gb ρ>>=asB):=by
 intro pins s σ H Q I h;refine vy ho ha hb hm pins s σ H Q I ?_;obtain⟨G,ρ,st,h⟩:=h;refine Cv hf ?_;refine tG.intro st h λx v G1 H1 u1 st1 r1 h1=>?_;cases r1 with
 |bl k=>exact⟨k,rfl,h1 k G1 H1 (.refl st1.sub) rfl⟩
 |_=>exact h1.elim
def Lc(ha:PF X a ga)(hb:PF X b gb):PB X (.Compare a [.Lt] [b] pos) (λρ=>g2 ltD ga gb ρ>>=asB):=pf JM (LK _) ha hb (jF _)
def LN(ha:PF X a ga)(hb:PF X b gb):PB X (.Compare a [.LtE] [b] pos) (λρ=>g2 leD ga gb ρ>>=asB):=pf pE (xa _) ha hb (jF _)
def Mg(ha:PF X a ga)(hb:PF X b gb):PB X (.Compare a [.Gt] [b] pos) (λρ=>g2 gtD ga gb ρ>>=asB):=pf Kw (KP _) ha hb (jF _)
def D0(K:PySem.W.Frag)(neg:Bool):ROk K (LA K neg) (λx y=>(eqD 40 x y).map λk=>.bl (if neg then !k else k)):=by
 intro G H x y dx dy d Q s rx ry e q;dsimp only at e;cases e1:eqD 40 dx dy with
 |none=>rw[e1]at e;cases e
 |some k=>rw[e1]at e;cases e;exact⟨G,dx,dy,k,s,rx,ry,e1,q _ G H (.refl s) (.bl _)⟩
def LI(hu:X.A.units+64<cLine)(ha:PF X a ga)(hb:PF X b gb):PB X (.Compare a [.Eq] [b] pos) (λρ=>g2 eqF ga gb ρ>>=asB):=pf (zH hu) (D0 _ false) ha hb (jF _)
def La(hu:X.A.units+64<cLine)(ha:PF X a ga)(hb:PF X b gb):PB X (.Compare a [.NotEq] [b] pos) (λρ=>g2 neF ga gb ρ>>=asB):=pf (Ke hu) (D0 _ true) ha hb (jF _)
def Kr(ha:PF X a ga)(hb:PF X b gb):PB X (.Compare a [.Is] [b] pos) (λρ=>g2 isF ga gb ρ>>=asB):=pf Kc (KR _ false) ha hb (jF _)
def Dh{op op':CmpOp}{r r':R2}{f f':D->D->Option D}(ho:OpR X (compareOp op) r)(ho':OpR X (compareOp op') r')(hf:ROk X.K r f)(hf':ROk X.K r' f')(ha:PF X a ga)(hb:PF X b gb)(hc:PF X c gc)(hm:lastMarks [op,op'] [b,c]=false:=by with_unfolding_all rfl):PB X (.Compare a [op,op'] [b,c] pos) (λρ=>g3 f f' ga gb gc ρ>>=asB):=by
 intro pins s σ H Q I h;refine CD ho ho' ha hb hc hm pins s σ H Q I ?_;obtain⟨G,ρ,st,h⟩:=h;have h':(ga ρ>>=λx=>gb ρ>>=λy=>ofO (f x y)>>=λz=>(match z with|.bl true=>gc ρ>>=λw=>ofO (f' y w)|.bl false=>.ok (.bl false)|_=>.no)>>=asB).post (Fin G H (λ_ b c=>b=c) Q) (Exx X σ G H):=by
  have e:(g3 f f' ga gb gc ρ>>=asB)=(ga ρ>>=λx=>gb ρ>>=λy=>ofO (f x y)>>=λz=>(match z with|.bl true=>gc ρ>>=λw=>ofO (f' y w)|.bl false=>.ok (.bl false)|_=>.no)>>=asB):=by
   unfold g3;cases ga ρ with
   |ok x=>cases gb ρ with
    |ok y=>simp only[R.ok_bind];cases ofO (f x y) <;> rfl
    |_=>rfl
   |_=>rfl
  rw[<- e];exact h
 refine tG.intro st h' λx v G1 H1 u1 st1 r1 h1=>?_;refine tG.intro st1 h1 λy w G2 H2 u2 st2 r2 h2=>?_;cases e:f x y with
 |none=>rw[e]at h2;exact h2.elim
 |some d=>
  rw[e]at h2;refine hf G2 H2 v w x y d _ st2.sub (r1.mono u2.gg) r2 e λz G3 H3 u3 r3=>?_;have h3:=mG u3 h2;have st3:=st2.up u3;cases r3 with
  |bl k=>
   refine⟨k,rfl,?_⟩;cases k with
   |false=>rw[if_neg uq];exact⟨false,rfl,h3 _ G3 H3 (.refl st3.sub) rfl⟩
   |true=>
    rw[if_pos rfl];have h3':(gc ρ>>=λw=>ofO (f' y w)>>=asB).post (Fin G3 H3 (λ_ b c=>b=c) Q) (Exx X σ G3 H3):=by
     have e:((gc ρ>>=λw=>ofO (f' y w))>>=asB)=(gc ρ>>=λw=>ofO (f' y w)>>=asB):=by cases gc ρ <;> rfl
     rw[<- e];exact h3
    refine tG.intro st3 h3' λq vq G4 H4 u4 st4 r4 h4=>?_;cases e':f' y q with
    |none=>rw[e']at h4;exact h4.elim
    |some d'=>
     rw[e']at h4;refine hf' G4 H4 w vq y q d' _ st4.sub ((r2.mono u3.gg).mono u4.gg) r4 e' λz' G5 H5 u5 r5=>?_;have h5:=mG u5 h4;cases r5 with
     |bl k'=>exact⟨k',rfl,h5 k' G5 H5 (.refl u5.sub) rfl⟩
     |_=>exact h5.elim
  |_=>exact h3.elim
def Gy(ha:PF X a ga)(hb:PF X b gb)(hc:PF X c gc)(hm:lastMarks [.LtE,.LtE] [b,c]=false:=by with_unfolding_all rfl):PB X (.Compare a [.LtE,.LtE] [b,c] pos) (λρ=>g3 leD leD ga gb gc ρ>>=asB):=Dh pE pE (xa _) (xa _) ha hb hc hm
noncomputable def Az(t u:Ev->R Bool):Ev->R Bool:=λρ=>t ρ>>=λk=>if k=true then u ρ else .ok false
noncomputable def rh(t u:Ev->R Bool):Ev->R Bool:=λρ=>t ρ>>=λk=>if k=true then .ok true else u ρ
def wm(ha:PB X a gt):PBW X (.BoolOp .And [a] pos) gt:=Gp ha
def dQ(ha:PB X a gt):PBW X (.BoolOp .Or [a] pos) gt:=Ih ha
def yM(ha:PB X a gt)(hb:PBW X (.BoolOp .And (b::cS) pos) gu):PBW X (.BoolOp .And (a::b::cS) pos) (Az gt gu):=by
 intro whole pins s σ H Q I h;refine JL ha hb whole pins s σ H Q I ?_;obtain⟨G,ρ,st,h⟩:=h;refine tG.intro st h λx v G1 H1 u1 st1 r1 h1=>?_;subst r1;cases v with
 |true=>rw[if_pos rfl]at h1⊢;exact tG.last st1 h1
 |false=>rw[if_neg uq]at h1⊢;exact h1 _ G1 H1 (.refl st1.sub) rfl
def gR(ha:PB X a gt)(hb:PBW X (.BoolOp .Or (b::cS) pos) gu):PBW X (.BoolOp .Or (a::b::cS) pos) (rh gt gu):=by
 intro whole pins s σ H Q I h;refine LG ha hb whole pins s σ H Q I ?_;obtain⟨G,ρ,st,h⟩:=h;refine tG.intro st h λx v G1 H1 u1 st1 r1 h1=>?_;subst r1;cases v with
 |true=>rw[if_pos rfl]at h1⊢;exact h1 _ G1 H1 (.refl st1.sub) rfl
 |false=>rw[if_neg uq]at h1⊢;exact tG.last st1 h1
def JD(ha:PB X a gt):PB X (.UnaryOp .Not a pos) (λρ=>gt ρ>>=λk=>.ok (!k)):=by intro pins s σ H Q I h;refine Ie ha pins s σ H Q I ?_;obtain⟨G,ρ,st,h⟩:=h;refine tG.intro st h λx v G1 H1 u1 st1 r1 h1=>?_;subst r1;exact h1 _ G1 H1 (.refl st1.sub) rfl
noncomputable def gIf(gt:Ev->R Bool)(ga gb:Ev->R D):Ev->R D:=λρ=>gt ρ>>=λk=>if k=true then ga ρ else gb ρ
def B3(hc:PB X c gt)(ha:PF X a ga)(hb:PF X b gb):PF X (.IfExp c a b pos) (gIf gt ga gb):=by
 intro pins s σ H Q I h;refine CM hc ha hb pins s σ H Q I ?_;obtain⟨G,ρ,st,h⟩:=h;refine tG.intro st h λx v G1 H1 u1 st1 r1 h1=>?_;subst r1;cases v with
 |true=>rw[if_pos rfl]at h1⊢;exact tG.last st1 h1
 |false=>rw[if_neg uq]at h1⊢;exact tG.last st1 h1
def ad:PFA X [] (λ_=>.ok []):=by intro pos pins s σ H Q I h;obtain⟨G,ρ,st,h⟩:=h;exact eJ pos pins s σ H Q I (h [] G H (.refl st.sub) .nil)
def CI(ha:PF X e ga)(hr:PFA X es gl)(hs:starEach (e::es) X.env=(false,eval e X.env)::starEach es X.env:=by rfl):PFA X (e::es) (λρ=>ga ρ>>=λx=>gl ρ>>=λxs=>.ok (x::xs)):=by intro pos pins s σ H Q I h;refine bE ha hr hs pos pins s σ H Q I ?_;obtain⟨G,ρ,st,h⟩:=h;refine tG.intro st h λx v G1 H1 u1 st1 r1 h1=>?_;refine tG.intro st1 h1 λy w G2 H2 u2 st2 r2 h2=>?_;exact h2 _ G2 H2 (.refl st2.sub) (.cons (r1.mono u2.gg) r2)
noncomputable def mkT(ds:List D):R D:=if ds.length<=sizeLine then .ok (.tup ds)else .no
def Ir(h:PFA X es gl):PF X (.Tuple es k pos) (λρ=>gl ρ>>=mkT):=by
 intro pins s σ H Q I hq;refine AI h pins s σ H Q I ?_;obtain⟨G,ρ,st,hq⟩:=hq;refine tG.intro st hq λds vs G1 H1 u1 st1 r1 h1=>?_;unfold mkT at h1;split at h1;·rename_i hz;exact⟨by rw[r1.length];exact hz,λp hp=>h1 _ _ _ (.new st1.sub hp) (.tup (.of az) (r1.mono (.into (st1.sub.free hp))))⟩
 ·exact h1.elim
def DH{c:Nat}:[c].length<=sizeLine:=by show 1<=sizeLine;decide
noncomputable def ixD:D->D->Option D
 |.lst _ xs,.int i=>atI xs i
 |.tup xs,.int i=>atI xs i
 |.str x,.int i=>(atI x i).map λc=>.str [c]
 |_,_=>none
def Reps.atI{K:PySem.W.Frag}{G:Hp}{vs:List V}{ds:List D}{i:Int}{d:D}(r:Reps K G vs ds)(h:atI ds i=some d):∃v,atI vs i=some v/\Rep K G v d:=by
 unfold L2.atI at h⊢;rw[r.length];cases e:ixN ds.length i with
 |none=>rw[e]at h;cases h
 |some j=>rw[e]at h;exact r.get h
def Ll(K:PySem.W.Frag):ROk K (rIx K) ixD:=by
 intro G H x y dx dy d Q s rx ry e q;unfold ixD at e;split at e;·obtain⟨a,vs,rfl,h,r⟩:=rx.seq_inv;obtain⟨v,e1,r1⟩:=r.atI e;exact .inl ⟨a,vs,_,v,rfl,ry.int_inv,h.mono s,e1,q v G H (.refl s) r1⟩
 ·obtain⟨a,vs,rfl,h,r⟩:=rx.tup_inv;obtain⟨v,e1,r1⟩:=r.atI e;exact .inr (.inl ⟨a,vs,_,v,rfl,ry.int_inv,h.mono s,e1,q v G H (.refl s) r1⟩)
 ·rename_i z i;obtain⟨y',rfl,ey,hy⟩:=rx.str_inv;subst ey;cases e1:L2.atI y'.cps.toList i with
  |none=>rw[e1]at e;cases e
  |some c=>rw[e1]at e;cases e;exact .inr (.inr ⟨y',i,c,rfl,ry.int_inv,hy,e1,q _ G H (.refl s) (.strL (by simp) DH)⟩)
 ·cases e
def aI(ha:PF X a ga)(hb:PF X b gb)(hs:pX b:=by exact λ_ _=>rfl):PF X (.Subscript a b pos) (g2 ixD ga gb):=
 λpins s σ H Q I h=>E4 Jc ha hb hs pins s σ H Q I (Cv (Ll _) h)
end
noncomputable def lw{α:Type}(xs:List α)(lo hi:Option Int):List α:=(xs.drop (HT.sIx xs.length 0 lo)).take (HT.sIx xs.length xs.length hi - HT.sIx xs.length 0 lo)
def GQ{α:Type}(xs:List α)(lo hi:Option Int):(lw xs lo hi).length<=xs.length:=by unfold lw;rw[qc,iN];omega
def Reps.cut{K:PySem.W.Frag}(r:Reps K G vs ds)(lo hi:Option Int):Reps K G (DY vs lo hi) (lw ds lo hi):=by unfold DY lw;rw[r.length];exact(r.drop _).take _
section
variable{a b c e:Expr}{cS:List Expr}{lo hi:Option Expr}{ga gc:Ev->R D}{go gp:Ev->R (Option Int)}{p2:Pos}
noncomputable def JU(K:PySem.W.Frag):V->Option Int->Option Int->Hp->VK->Prop:=λx lo hi H Q=>∃a xs,x=.ref a/\SqT K H a xs/\
 (HT.sIx xs.length 0 lo=0/\HT.sIx xs.length xs.length hi=xs.length)/\Q (.ref a) H
def sl_tup_whole:SlR X (JU X.K):=by
 intro pins s σ H x v vl vu lo hi sl Q I rx hs pl pu h;obtain⟨a,xs,rfl,hx,⟨hw1,hw2⟩,q⟩:=h;cases rx;obtain⟨its,r,ht,hz⟩:=I.tuple hx;have hlen:its.toArray.size=xs.length:=by rw[xi];exact r.length.symm
 refine⟨"tuple",_,PyProof.Rows.slot_tuple_getitem.lookup,ht.typeIs,?_⟩;obtain⟨os,hos,hcs,hds⟩:=id hs;have hTs:s.TypeIs (.ref sl) "slice":=⟨os,hos,hcs⟩
 unfold getItem
 try with_reducible refine sT ?_
 first|refine y8 (y9 ?_)|skip
 refine y8 (wpAny_sequenceKey ht.typeIs (by decide) ?_);refine y8 (nE (name:=Str.ofString "__getitem__") ht.typeIs ZH
  (r8 ZH ht.typeIs entry_tuple_getitem ?_ (args_tuple_getitem _ _)));show wpAny _ _ (Builtin.Tuple.tupleItemsOf (.ref a)>>=_) _ _ s;refine y8 (j4 ht ?_);refine y8 (j5 hTs ?_);rw[if_pos (by decide)];refine y8 (HT.sliceApplied_gen hs pl pu ?_);rw[hlen,hw1,hw2];dsimp only;rw[if_pos (by simp)];have fin:EP X pins σ Q (.ref a) s:=⟨.ref a,H,I,rfl,q⟩
 obtain⟨o,ho,hc,n,hd⟩:=id ht;unfold Builtin.Tuple.tupleIsExact;refine y8 (y8 (j5 ht.typeIs (y9 ?_)));rw[if_pos (by decide)];exact y8 (wpAny_rule (y9 ⟨_,rfl,y9 fin⟩))
theorem J6{α:Type}(xs:List α)(a:Nat):∀k:Nat,((List.range k).map (a + ·)).filterMap (λi:Nat=>xs[i]?)=(xs.drop a).take k
 | 0=>by simp
 |k+1=>by
  rw[List.range_succ,n0,List.filterMap_append,J6 xs a k,List.take_add_one,List.getElem?_drop]
  congr 1
  try (simp only[x9,qx,aT,List.filterMap_nil];cases xs[a+k]? <;> rfl)
def vN(n d:Nat)(v:Option Int):(match v with|none=>(d:Int)|some i=>max 0 (min (if i<0 then i+(n:Int)else i) (n:Int)))=((HT.sIx n d v:Nat):Int):=by
 cases v with
 |none=>rfl
 |some i=>show max 0 (min (if i<0 then i+(n:Int)else i) (n:Int))=(((if i<0 then (i+(n:Int)).toNat else min i.toNat n):Nat):Int);split <;> omega
def FL(lo hi:Option Int)(n:Nat):Builtin.Str.strSliceIndices lo hi 1 n=(List.range (HT.sIx n n hi - HT.sIx n 0 lo)).map (HT.sIx n 0 lo + ·):=by
 have e:Builtin.Str.strSliceIndices lo hi 1 n=sliceRange ((HT.sIx n 0 lo:Nat):Int) ((HT.sIx n n hi:Nat):Int) 1:=by rw[<- vN n 0 lo,<- vN n n hi];rfl
 rw[e];generalize HT.sIx n 0 lo=a;generalize HT.sIx n n hi=b;unfold sliceRange;have hc:(if (1:Int) > 0 then (if (a:Int)<(b:Int)then ((b:Int) - (a:Int)+1 - 1) / 1 else 0)else (if (a:Int) > (b:Int)then ((a:Int) - (b:Int) - 1 - 1) / (-1)else 0)).toNat=b - a:=by
  rw[if_pos (by decide)];split;·rw[Int.ediv_one];omega
  ·omega
 simp only[hc];apply mP;intro k _;omega
def zq(x:Str)(lo hi:Option Int):(Txt.slice x lo hi).cps.toList=lw x.cps.toList lo hi:=by
 have hn:x.cps.toList.length=x.length:=Str.len_list x;unfold Txt.slice lw;rw[hn,FL];have hb:HT.sIx x.length x.length hi<=x.length:=HT.sIx_le _ _ (yh _) hi;by_cases hc:((1:Int)==1 && ((List.range (HT.sIx x.length x.length hi - HT.sIx x.length 0 lo)).map (HT.sIx x.length 0 lo + ·)).length==x.length)=true
 ·rw[if_pos hc];have h2:HT.sIx x.length x.length hi - HT.sIx x.length 0 lo=x.length:=by simpa using hc
  have h3:HT.sIx x.length 0 lo=0\/x.length=0:=by omega
  rw[h2];rcases h3 with h3|h3;·rw[h3,j8,<- hn,d4]
  ·have:x.cps.toList=[]:=ZI (by rw[hn];exact h3);rw[this];simp
 ·rw[if_neg hc];have e:(λi:Nat=>x.cps[i]?)=(λi:Nat=>x.cps.toList[i]?):=by funext i;simp
  show(List.filterMap (λi:Nat=>x.cps[i]?) _).toArray.toList=_;rw[List.toList_toArray,e,J6]
noncomputable def MK:V->Option Int->Option Int->Hp->VK->Prop:=λx lo hi H Q=>∃y:Str,x=.str y/\y.length<=sizeLine/\Q (.str (Txt.slice y lo hi)) H
theorem sl_str:SlR X MK:=by
 intro pins s σ H x v vl vu lo hi sl Q I rx hs pl pu h;obtain⟨y,rfl,hz,q⟩:=h;obtain⟨t,rfl⟩:=rx;refine⟨"str",_,F.slot_str_getitem.lookup,typeIs_str _ _ _,?_⟩;cases pl with
 |none=>
  cases pu with
  |none=>exact d5 (l:=none) (u:=none) (st:=none) hs rfl (d6 ⟨w8 (c0 y _ _) hz,λt' k=>⟨.str _,H,I.tok k,⟨t',rfl⟩,q⟩⟩)
  |int j uj=>exact d5 (l:=none) (u:=some (j,uj)) (st:=none) hs rfl (d6 ⟨w8 (c0 y _ _) hz,λt' k=>⟨.str _,H,I.tok k,⟨t',rfl⟩,q⟩⟩)
 |int i ui=>
  cases pu with
  |none=>exact d5 (l:=some (i,ui)) (u:=none) (st:=none) hs rfl (d6 ⟨w8 (c0 y _ _) hz,λt' k=>⟨.str _,H,I.tok k,⟨t',rfl⟩,q⟩⟩)
  |int j uj=>exact d5 (l:=some (i,ui)) (u:=some (j,uj)) (st:=none) hs rfl (d6 ⟨w8 (c0 y _ _) hz,λt' k=>⟨.str _,H,I.tok k,⟨t',rfl⟩,q⟩⟩)
noncomputable def EN(lo hi:Option Int):D->Option D
 |.str x=>some (.str (lw x lo hi))
 |.tup xs=>some (.tup (lw xs lo hi))
 |.lst _ xs=>some (.lst false (lw xs lo hi))
 |_=>none
noncomputable def rSl(K:PySem.W.Frag):V->Option Int->Option Int->Hp->VK->Prop:=λx lo hi H Q=>MK x lo hi H Q\/JU K x lo hi H Q\/ML K x lo hi H Q\/MN K x lo hi H Q
def IW:SlR X (rSl X.K):=sl_str.or (sl_tup_whole.or (sl_tup.or AK))
noncomputable def PFO(X:Cx)(o:Option Expr)(g:Ev->R (Option Int)):Prop:=PO X o (tG X (λ_ b c=>b=c) g)
def iL:PFO X none (λ_=>.ok none):=by intro pins s σ H Q I h;obtain⟨G,ρ,st,h⟩:=h;exact Fm pins s σ H Q I (h none G H (.refl st.sub) rfl)
noncomputable def asI:D->R Int
 |.int i=>.ok i
 |_=>.no
def B9(h:PF X e ga):PFO X (some e) (λρ=>ga ρ>>=λx=>asI x>>=λi=>.ok (some i)):=by
 intro pins s σ H Q I hq;refine Gb h pins s σ H Q I ?_;obtain⟨G,ρ,st,hq⟩:=hq;refine tG.intro st hq λx v G1 H1 u1 st1 r1 h1=>?_;cases r1 with
 |int i=>exact⟨i,rfl,h1 (some i) G1 H1 (.refl st1.sub) rfl⟩
 |_=>exact h1.elim
noncomputable def gSl(ga:Ev->R D)(go gp:Ev->R (Option Int)):Ev->R D:=λρ=>ga ρ>>=λx=>go ρ>>=λl=>gp ρ>>=λu=>ofO (EN l u x)
def jG(ha:PF X a ga)(hl:PFO X lo go)(hu:PFO X hi gp):PF X (.Subscript a (.Slice lo hi none p2) pos) (gSl ga go gp):=by
 intro pins s σ H Q I h;refine wt IW ha hl hu pins s σ H Q I ?_;obtain⟨G,ρ,st,h⟩:=h;refine tG.intro st h λx v G1 H1 u1 st1 r1 h1=>?_;refine tG.intro st1 h1 λl l' G2 H2 u2 st2 r2 h2=>?_;subst r2;refine tG.intro st2 h2 λu u' G3 H3 u3 st3 r3 h3=>?_;subst r3;obtain⟨d,e,q⟩:=ofO.ok h3;have r:=(r1.mono u2.gg).mono u3.gg;unfold EN at e;split at e;·cases e;obtain⟨y,rfl,ey,hy⟩:=r.str_inv;subst ey;exact .inl ⟨y,rfl,hy,q _ G3 H3 (.refl st3.sub) (.strL (zq y _ _) (w8 (GQ _ _ _) (by rw[Str.len_list];exact hy)))⟩
 ·rename_i xs0;cases e;obtain⟨a,vs,rfl,h,t⟩:=r.tup_inv;by_cases hw:HT.sIx vs.length 0 l'=0/\HT.sIx vs.length vs.length u'=vs.length
  ·refine .inr (.inl ⟨a,vs,rfl,h.mono st3.sub,hw,q _ G3 H3 (.refl st3.sub) ?_⟩);have e1:lw xs0 l' u'=xs0:=by unfold lw;rw[<- t.length,hw.1,hw.2,j8,Nat.sub_zero,t.length,d4]
   rw[e1];exact .tup h t
  ·exact .inr (.inr (.inl ⟨a,vs,rfl,h.mono st3.sub,hw,λp hp=>q _ _ _ (.new st3.sub hp) (.tup (.of az) ((t.cut _ _).mono (.into (st3.sub.free hp))))⟩))
 ·cases e;obtain⟨a,vs,rfl,h,t⟩:=r.seq_inv;exact .inr (.inr (.inr ⟨a,vs,rfl,h.mono st3.sub,λp hp=>q _ _ _ (.new st3.sub hp) (.lst az ((t.cut _ _).mono (.into (st3.sub.free hp))))⟩))
 ·cases e
noncomputable def JW(K:PySem.W.Frag)(r:List V->Hp->VK->Prop)(f:List D->Option D):Prop:=∀(G H:Hp)(xs:List V)(ds:List D)(d:D)(Q:VK),Same G H->Reps K G xs ds->f ds=some d->Fin G H (Rep K) Q d->r xs H Q
def lL{id:String}{r:List V->Hp->VK->Prop}{f:List D->Option D}(hc:kg X (.builtin id) r)(hf:JW X.K r f)(hg:Gl X x)(hm:X.mg x=none)(hv:bootBuiltins x=some (.builtin id))(ha:PFA X (e::es) gl)(hn:x≠"__name__":=by decide)(hdb:(x==("__debug__":Str))=false:=by decide)(he:starEach (e::es) X.env=(false,eval e X.env)::starEach es X.env:=by rfl)(hpl:(backTo pos (starEach es X.env)).any (·.1)=false:=by rfl):PF X (.Call (.Name x p) (e::es) [] pos) (λρ=>gl ρ>>=λds=>ofO (f ds)):=by
 intro pins s σ H Q I h;refine qq hc hg hm hv ha hn hdb he hpl pins s σ H Q I ?_;obtain⟨G,ρ,st,h⟩:=h;refine tG.intro st h λds vs G1 H1 u1 st1 r1 h1=>?_;obtain⟨d,e,q⟩:=ofO.ok h1;exact hf G1 H1 vs ds d Q st1.sub r1 e q
def yo{T:String}{r:List V->Hp->VK->Prop}{f:List D->Option D}(hc:kg X (.type T) r)(hf:JW X.K r f)(hg:Gl X x)(hm:X.mg x=none)(hv:bootBuiltins x=some (.type T))(ha:PFA X (e::es) gl)(hn:x≠"__name__":=by decide)(hdb:(x==("__debug__":Str))=false:=by decide)(he:starEach (e::es) X.env=(false,eval e X.env)::starEach es X.env:=by rfl)(hpl:(backTo pos (starEach es X.env)).any (·.1)=false:=by rfl):PF X (.Call (.Name x p) (e::es) [] pos) (λρ=>gl ρ>>=λds=>ofO (f ds)):=by
 intro pins s σ H Q I h;refine jQ hc hg hm hv ha hn hdb he hpl pins s σ H Q I ?_;obtain⟨G,ρ,st,h⟩:=h;refine tG.intro st h λds vs G1 H1 u1 st1 r1 h1=>?_;obtain⟨d,e,q⟩:=ofO.ok h1;exact hf G1 H1 vs ds d Q st1.sub r1 e q
def Reps.one{K:PySem.W.Frag}(r:Reps K G vs [d]):∃v,vs=[v]/\Rep K G v d:=by
 cases r with
 |cons r t=>cases t;exact⟨_,rfl,r⟩
def Reps.two{K:PySem.W.Frag}{d':D}(r:Reps K G vs [d,d']):∃v w,vs=[v,w]/\Rep K G v d/\Rep K G w d':=by
 cases r with
 |cons r t=>obtain⟨w,rfl,r'⟩:=t.one;exact⟨_,w,rfl,r,r'⟩
noncomputable def eI:List D->Option D
 | [.str x]=>some (.int x.length)
 | [.tup xs]=>some (.int xs.length)
 | [.lst _ xs]=>some (.int xs.length)
 |_=>none
def IB(hg:Gl X "len")(hm:X.mg "len"=none)(ha:PFA X [e] gl)(he:starEach [e] X.env=[(false,eval e X.env)]:=by rfl):PF X (.Call (.Name "len" p) [e] [] pos) (λρ=>gl ρ>>=λds=>ofO (eI ds)):=
 lL C7 (by
  intro G H xs ds d Q s r e q;unfold eI at e;split at e;·cases e;obtain⟨v,rfl,r1⟩:=r.one;obtain⟨y,rfl,ey,hy⟩:=r1.str_inv;subst ey;exact⟨_,y.length,rfl,⟨hy,rfl⟩,by rw[<- Str.len_list];exact q _ G H (.refl s) (.int _)⟩
  ·cases e;obtain⟨v,rfl,r1⟩:=r.one;obtain⟨a,vs,rfl,h,t⟩:=r1.tup_inv;exact⟨_,vs.length,rfl,.inr ⟨vs,h.mono s,rfl⟩,by rw[t.length];exact q _ G H (.refl s) (.int _)⟩
  ·cases e;obtain⟨v,rfl,r1⟩:=r.one;obtain⟨a,vs,rfl,h,t⟩:=r1.seq_inv;exact⟨_,vs.length,rfl,.inl ⟨vs,h.mono s,rfl⟩,by rw[t.length];exact q _ G H (.refl s) (.int _)⟩
  ·cases e) hg hm PySem.boot_len ha (he:=by rw[he];rfl)
noncomputable def md:List D->Option D
 | [.lst _ xs]=>some (.tup xs)
 | [.tup xs]=>some (.tup xs)
 |_=>none
def Cz(K:PySem.W.Frag):JW K (λxs H Q=>∃p ys,xs=[.ref p]/\((SqL K H p ys/\∀l,H l=none->Q (.ref l) (upd H l (.tup ys)))\/(SqT K H p ys/\Q (.ref p) H))) md:=by
 intro G H xs ds d Q s r e q;unfold md at e;split at e;·cases e;obtain⟨v,rfl,r1⟩:=r.one;obtain⟨a,vs,rfl,h,t⟩:=r1.seq_inv;exact⟨a,vs,rfl,.inl ⟨h.mono s,λl hl=>q _ _ _ (.new s hl) (.tup (.of az) (t.mono (.into (s.free hl))))⟩⟩
 ·cases e;obtain⟨v,rfl,r1⟩:=r.one;obtain⟨a,vs,rfl,h,t⟩:=r1.tup_inv;exact⟨a,vs,rfl,.inr ⟨h.mono s,q _ G H (.refl s) (.tup h t)⟩⟩
 ·cases e
end
noncomputable def ItOk(K:PySem.W.Frag)(G₁:Hp)(J:It)(items:List D):Prop:=∀(i:Nat)(G H:Hp),Same G₁ G->Same G H->
 (∀d,items[i]?=some d->J.go i H/\∀x H',J.yld i H x H'->∃G',Up G H G' H'/\Rep K G' x d)/\(items.length<=i->J.stop i H)
noncomputable def PIF(X:Cx)(tg iter:Expr)(g:Ev->R (List D)):Prop:=PI X tg iter (tG X (λG J items=>ItOk X.K G J items) g)
noncomputable def Its(x:Str):It:=⟨λi _=>i<x.cps.size,λi H v H'=>H'=H/\∃c,x.cps[i]?=some c/\v=.str ⟨#[c]⟩,λi _=>x.cps.size<=i⟩
section
variable{a e:Expr}{ga:Ev->R D}
def yO{l:Addr}{Rr:It->Hp->Prop}(I:Inv X pins σ H s)(h:SqL X.K H l xs)(q:Rr (Itl X.K l) H):
  wpAny (model X.prog X.w) X.A (pyIter (.ref l)) (PIE X pins σ tg Rr) X.xe s:=by
 obtain⟨its,rv,p,hz⟩:=I.list h;refine c6 p.isList ?_;refine⟨s.heap.objs.size,[s.heap.objs.size],_,_,H,rfl,I.kept (t':=s.toks) λb o e=>yq _ e,Ba l _,⟨_,w6 _ rfl,rfl,rfl⟩,λb hb=>?_,q⟩;have e:b=s.heap.objs.size:=by simpa using hb
 subst e;exact I.fpOk (yh _) (I.hok.fresh (yh _))
def Jh{l:Addr}{Rr:It->Hp->Prop}(I:Inv X pins σ H s)(h:SqT X.K H l xs)(q:Rr (Itt X.K l) H):
  wpAny (model X.prog X.w) X.A (pyIter (.ref l)) (PIE X pins σ tg Rr) X.xe s:=by
 obtain⟨its,rv,p,hz⟩:=I.tuple h;refine Zc (show s.heap.IsTuple l its.toArray from p) ?_;refine⟨s.heap.objs.size,[s.heap.objs.size],_,_,H,rfl,I.kept (t':=s.toks) λb o e=>yq _ e,yc l _,⟨_,w6 _ rfl,rfl,rfl⟩,λb hb=>?_,q⟩;have e:b=s.heap.objs.size:=by simpa using hb
 subst e;exact I.fpOk (yh _) (I.hok.fresh (yh _))
def ya{w:World}{K:PySem.W.Frag}(it:Addr)(x:Str)(t:Tok):Turn P w K tg (Its x) [it] it (λi h=>h.IsStrIter it "str_ascii_iterator" x t i) where
 mem:=by simp
 obj:=λi h st b hb=>by
  have e:b=it:=by simpa using hb
  subst e;obtain⟨o,e,c,d⟩:=st;exact⟨o,e,λv z=>by rw[d]at z;cases z⟩
 keep:=λi h h' st k=>let⟨o,ho,r⟩:=st;⟨o,k it (by simp) o ho,r⟩
 item:=by intro X hP hw hK hc i pins s σ H E I hf st hg;subst hP hw hK;have hg':i<x.cps.size:=hg;obtain⟨f0,f1,f2,f3,f4,f5⟩:=hf it (by simp);refine wpAny_pyNext_ascii_item st (c:=x.cps[i]) (by simp[hg']) λh' st' sb=>?_;have I1:Inv X pins σ H { s with heap:=h',toks:=s.toks+1 }:=I.turned (t':=s.toks+1) (λb o hb e=>(sb.2 b hb).trans e) f0 f1 f3 f4 f5;obtain⟨o,e,c,d⟩:=id st';exact⟨_,rfl,yD (s:={ s with heap:=h',toks:=s.toks+1 }) e c d (by decide) ⟨.str ⟨#[x.cps[i]]⟩,H,I1,⟨_,rfl⟩,⟨rfl,_,by simp[hg'],rfl⟩,st',λb hb=>(hf b hb).1⟩⟩
 done:=by intro X hP hw hK hc i pins s σ H E I hf st hg;subst hP hw hK;obtain⟨f0,f1,f2,f3,f4,f5⟩:=hf it (by simp);have hg':x.cps.size<=i:=hg;exact wpAny_pyNext_ascii_end (I.ok.hd hc) st (by simp;omega) λh' eb=>⟨rfl,I.turned (t':=s.toks) (λb o hb e=>eb b o hb e) f0 f1 f3 f4 f5⟩
 self:=λ_ _ _ _ _ st h=>wpAny_pyIter_striter_ascii st h
def AC{w:World}{K:PySem.W.Frag}(it:Addr)(x:Str)(t:Tok):Turn P w K tg (Its x) [it] it (λi h=>h.IsStrIter it "str_iterator" x t i) where
 mem:=by simp
 obj:=λi h st b hb=>by
  have e:b=it:=by simpa using hb
  subst e;obtain⟨o,e,c,d⟩:=st;exact⟨o,e,λv z=>by rw[d]at z;cases z⟩
 keep:=λi h h' st k=>let⟨o,ho,r⟩:=st;⟨o,k it (by simp) o ho,r⟩
 item:=by intro X hP hw hK hc i pins s σ H E I hf st hg;subst hP hw hK;have hg':i<x.cps.size:=hg;obtain⟨f0,f1,f2,f3,f4,f5⟩:=hf it (by simp);refine wpAny_pyNext_wide_item st (c:=x.cps[i]) (by simp[hg']) λh' st' sb=>?_;have I1:Inv X pins σ H { s with heap:=h',toks:=s.toks+1 }:=I.turned (t':=s.toks+1) (λb o hb e=>(sb.2 b hb).trans e) f0 f1 f3 f4 f5;obtain⟨o,e,c,d⟩:=id st';exact⟨_,rfl,yD (s:={ s with heap:=h',toks:=s.toks+1 }) e c d (by decide) ⟨.str ⟨#[x.cps[i]]⟩,H,I1,⟨_,rfl⟩,⟨rfl,_,by simp[hg'],rfl⟩,st',λb hb=>(hf b hb).1⟩⟩
 done:=by intro X hP hw hK hc i pins s σ H E I hf st hg;subst hP hw hK;obtain⟨f0,f1,f2,f3,f4,f5⟩:=hf it (by simp);have hg':x.cps.size<=i:=hg;exact wpAny_pyNext_wide_end (I.ok.hd hc) st (by simp;omega) λh' eb=>⟨rfl,I.turned (t':=s.toks) (λb o hb e=>eb b o hb e) f0 f1 f3 f4 f5⟩
 self:=λ_ _ _ _ _ st h=>wpAny_pyIter_striter_wide st h
def J7{t:Tok}{Rr:It->Hp->Prop}(I:Inv X pins σ H s)(q:Rr (Its x) H):
  wpAny (model X.prog X.w) X.A (pyIter (.str x t)) (PIE X pins σ tg Rr) X.xe s:=by
 have fp:∀(o:Obj),∀b∈[s.heap.objs.size],pI X pins H b:=λo b hb=>by
  have e:b=s.heap.objs.size:=by simpa using hb
  subst e;exact I.fpOk (yh _) (I.hok.fresh (yh _))
 cases ha:x.cps.all (· < 128);·refine wpAny_pyIter_wide ha ⟨s.heap.objs.size,[s.heap.objs.size],_,_,H,rfl,I.kept (t':=s.toks) λb o e=>yq _ e,AC _ x t,⟨_,w6 _ rfl,rfl,rfl⟩,fp default,q⟩
 ·refine wpAny_pyIter_ascii ha ⟨s.heap.objs.size,[s.heap.objs.size],_,_,H,rfl,I.kept (t':=s.toks) λb o e=>yq _ e,ya _ x t,⟨_,w6 _ rfl,rfl,rfl⟩,fp default,q⟩
noncomputable def bA:D->R (List D)
 |.lst _ xs=>.ok xs
 |.tup xs=>.ok xs
 |.str x=>.ok (x.map λc=>.str [c])
 |_=>.no
def ItOk.list{K:PySem.W.Frag}{l:Addr}(h:SqL K G l vs)(r:Reps K G vs ds):ItOk K G (Itl K l) ds:=by intro i G1 H1 s1 s2;refine⟨λd e=>?_,λhl=>⟨vs,(h.mono s1).mono s2,by rw[r.length];exact hl⟩⟩;obtain⟨v,ev,rv⟩:=r.get e;refine⟨⟨vs,v,(h.mono s1).mono s2,ev⟩,λx H' y=>?_⟩;obtain⟨rfl,y⟩:=y;have:=y vs ((h.mono s1).mono s2);rw[ev]at this;cases this;exact⟨G1,.refl s2,rv.mono s1⟩
def ItOk.tup{K:PySem.W.Frag}{l:Addr}(h:SqT K G l vs)(r:Reps K G vs ds):ItOk K G (Itt K l) ds:=by intro i G1 H1 s1 s2;refine⟨λd e=>?_,λhl=>⟨vs,(h.mono s1).mono s2,by rw[r.length];exact hl⟩⟩;obtain⟨v,ev,rv⟩:=r.get e;refine⟨⟨vs,v,(h.mono s1).mono s2,ev⟩,λx H' y=>?_⟩;obtain⟨rfl,y⟩:=y;have:=y vs ((h.mono s1).mono s2);rw[ev]at this;cases this;exact⟨G1,.refl s2,rv.mono s1⟩
def ItOk.str{K:PySem.W.Frag}(x:Str):ItOk K G (Its x) (x.cps.toList.map λc=>.str [c]):=by
 intro i G1 H1 s1 s2;refine⟨λd e=>?_,λhl=>show x.cps.size<=i by simpa using hl⟩;rw[v7]at e;cases ec:x.cps.toList[i]? with
 |none=>rw[ec]at e;cases e
 |some c=>
  rw[ec]at e;cases e;have hi:i<x.cps.size:=by have:=(u8.mp ec).1;simpa using this
  refine⟨hi,λv H' y=>?_⟩;obtain⟨rfl,c',e',rfl⟩:=y;have:c'=c:=by
   have h2:x.cps.toList[i]?=x.cps[i]?:=by simp
   rw[h2,e']at ec;exact xV ec
  subst this;exact⟨G1,.refl s2,.strL rfl DH⟩
def ItOk.range{K:PySem.W.Frag}(lo:Int)(n:Nat):ItOk K G (Itr lo n) ((List.range n).map λi=>.int (lo+(i:Nat))):=by
 intro i G1 H1 s1 s2;refine⟨λd e=>?_,λhl=>show n<=i by simpa using hl⟩;rw[v7]at e;by_cases hi:i<n;·rw[List.getElem?_range hi]at e;cases e;refine⟨hi,λv H' y=>?_⟩;obtain⟨rfl,rfl⟩:=y;exact⟨G1,.refl s2,.int _⟩
 ·rw[List.getElem?_eq_none (by simpa using hi)]at e;cases e
def FT(ha:PF X a ga):PIF X tg a (λρ=>ga ρ>>=bA):=by
 intro pins s σ H Rr I h;obtain⟨G,ρ,st,h⟩:=h;have t:tF X ga σ H (λx H1=>∃G1 d,Same G1 H1/\Rep X.K G1 x d/\(bA d).post (Fin G1 H1 (λG J items=>ItOk X.K G J items) Rr) (Exx X σ G1 H1)):=
  tG.intro st h λx v G1 H1 u1 st1 r1 h1=>⟨G1,x,st1.sub,r1,h1⟩
 refine thn (ha pins s σ H _ I t) λv s1 ⟨x,H1,I1,r1,G1,d,sub,rd,h1⟩=>?_;cases rd with
 |lst hh r=>cases r1;exact yO I1 (.of (sub _ _ hh)) (h1 _ G1 H1 (.refl sub) (.list (.of hh) r))
 |fls hh r=>cases r1;exact yO I1 (hh.mono sub) (h1 _ G1 H1 (.refl sub) (.list hh r))
 |tup hh r=>cases r1;exact Jh I1 (hh.mono sub) (h1 _ G1 H1 (.refl sub) (.tup hh r))
 |str y hy=>obtain⟨t,rfl⟩:=r1;exact J7 I1 (h1 _ G1 H1 (.refl sub) (.str y))
 |_=>exact h1.elim
noncomputable def cG:List D->R (List D)
 | [.int j]=>if -(2 ^ 62)<=j/\j<2 ^ 62 then .ok ((List.range j.toNat).map λi=>.int (0+(i:Nat)))else .no
 |_=>.no
noncomputable def jm:List D->R (List D)
 | [.int i,.int j]=>if -(2 ^ 62)<=i/\i<2 ^ 62/\-(2 ^ 62)<=j/\j<2 ^ 62 then .ok ((List.range (j - i).toNat).map λk=>.int (i+(k:Nat)))else .no
 |_=>.no
def xz(hg:Gl X "range")(hm:X.mg "range"=none)(ha:PFA X [a] gl)(hs:starEach [a] X.env=[(false,eval a X.env)]:=by rfl):PIF X tg (.Call (.Name "range" p) [a] [] pos) (λρ=>gl ρ>>=cG):=by
 intro pins s σ H Rr I h;refine Bi hg hm ha hs pins s σ H Rr I ?_;obtain⟨G,ρ,st,h⟩:=h;refine tG.intro st h λds vs G1 H1 u1 st1 r1 h1=>?_;unfold cG at h1;split at h1
 ·split at h1;·rename_i hj;obtain⟨v,rfl,r⟩:=r1.one;obtain rfl:=r.int_inv;exact⟨_,rfl,hj.1,hj.2,h1 _ G1 H1 (.refl st1.sub) (.range 0 _)⟩
  ·exact h1.elim
 ·exact h1.elim
def wR{b:Expr}(hg:Gl X "range")(hm:X.mg "range"=none)(ha:PFA X [a,b] gl)(hs:starEach [a,b] X.env=[(false,eval a X.env),(false,eval b X.env)]:=by rfl)(hs2:starEach [b] X.env=[(false,eval b X.env)]:=by rfl):
  PIF X tg (.Call (.Name "range" p) [a,b] [] pos) (λρ=>gl ρ>>=jm):=by
 intro pins s σ H Rr I h;refine yA hg hm ha hs hs2 pins s σ H Rr I ?_;obtain⟨G,ρ,st,h⟩:=h;refine tG.intro st h λds vs G1 H1 u1 st1 r1 h1=>?_;unfold jm at h1;split at h1
 ·split at h1;·rename_i hj;obtain⟨v,w,rfl,r,r'⟩:=r1.two;obtain rfl:=r.int_inv;obtain rfl:=r'.int_inv;exact⟨_,_,rfl,hj,h1 _ G1 H1 (.refl st1.sub) (.range _ _)⟩
  ·exact h1.elim
 ·exact h1.elim
end
noncomputable def ObSt(K:PySem.W.Frag)(H₀ G H:Hp)(σ:St)(ρ:Ev):Prop:=
 ∃ow:jq,(∀(i:Nat) ds l,ρ[i]?=some (some (.own ds))->σ[i]?=some (some (.ref l))->ow l=some (i,0))/\
  ∀(i:Nat) m C p fs,ρ[i]?=some (some (.obj m C p fs))->σ[i]?=some (some (.ref p))/\ObjAt K H₀ G H ow i m C p fs
def ObSt.rd{K:PySem.W.Frag}{H₀:Hp}(h:ObSt K H₀ G H σ ρ):∀(i:Nat) m C p fs,ρ[i]?=some (some (.obj m C p fs))->σ[i]?=some (some (.ref p))/\∃ow,ObjAt K (λ_=>none) G H ow i m C p fs:=λi m C p fs e=>by obtain⟨ow,_,o2⟩:=h;exact⟨(o2 i m C p fs e).1,ow,(o2 i m C p fs e).2.rd⟩
noncomputable def NoOwn(ρ:Ev):Prop:=∀(j:Nat)(x:Sl),ρ[j]?=some (some x)->∃d,x=.val d
def NoOwn.own(h:NoOwn ρ)(j:Nat)(ds:List D):ρ[j]?≠some (some (.own ds)):=λe=>by obtain⟨d,z⟩:=h j _ e;cases z
def NoOwn.obj(h:NoOwn ρ)(j:Nat)(m:Bool)(C p:Addr)(fs:List (Nat×Fd)):ρ[j]?≠some (some (.obj m C p fs)):=λe=>by obtain⟨d,z⟩:=h j _ e;cases z
def NoOwn.ob{K:PySem.W.Frag}{H₀:Hp}(h:NoOwn ρ):ObSt K H₀ G H σ ρ:=
 ⟨λ_=>none,λi ds l e=>absurd e (h.own i ds),λi m C p fs e=>absurd e (h.obj i m C p fs)⟩
structure StR(K:PySem.W.Frag)(G₀ H₀ G H:Hp)(σ:St)(ρ:Ev):Prop where
 e:StE K G H σ ρ
 sub0:Same G₀ H₀
 up:Up G₀ H₀ G H
 own:∀(i:Nat) ds,ρ[i]?=some (some (.own ds))->∃l vs,σ[i]?=some (some (.ref l))/\H l=some (.lst vs)/\G l=none/\H₀ l=none/\Reps K G vs ds
 inj:∀(i j:Nat) ds es l,ρ[i]?=some (some (.own ds))->ρ[j]?=some (some (.own es))->σ[i]?=some (some (.ref l))->σ[j]?=some (some (.ref l))->i=j
 ob:ObSt K H₀ G H σ ρ
section
variable{K:PySem.W.Frag}{H₀ G':Hp}
def StR.ups(s:StR K G₀ H₀ G H σ ρ)(u:Up G H G' H'):StR K G₀ H₀ G' H' σ ρ:=⟨s.e.up u,s.sub0,s.up.trans u,(λi ds e=>by
 obtain⟨l,vs,h1,h2,h3,h4,h5⟩:=s.own i ds e;refine⟨l,vs,h1,u.hh _ _ h2,?_,h4,h5.mono u.gg⟩;cases q:G' l with
 |none=>rfl
 |some o=>
  rcases u.fr l o q with z|z;·rw[h3]at z;cases z
  ·rw[h2]at z;cases z),s.inj,by
 obtain⟨ow,o1,o2⟩:=s.ob;exact⟨ow,o1,λi m C p fs e=>⟨(o2 i m C p fs e).1,(o2 i m C p fs e).2.keep (.up u)⟩⟩⟩
def StR.set(s:StR K G₀ H₀ G H σ ρ)(r:Rep K G v d)(i:Nat):StR K G₀ H₀ G H (σ.set i (some v)) (ρ.set i (some (.val d))):=by
 have get:∀(j:Nat) x,(ρ.set i (some (.val d)))[j]?=some (some x)->(j=i/\x=.val d/\i<σ.length)\/(j≠i/\ρ[j]?=some (some x)/\(σ.set i (some v))[j]?=σ[j]?):=λj x h=>by
  by_cases e:i=j
  ·subst e;have hl:i<ρ.length:=by have:=(u8.mp h).1;simpa using this
   rw[uu hl]at h;exact .inl ⟨rfl,by injection (xV h)with q;exact q.symm,by rw[s.e.len];exact hl⟩
  ·rw[t6 e]at h;exact .inr ⟨λz=>e z.symm,h,t6 e⟩
 have ob:ObSt K H₀ G H (σ.set i (some v)) (ρ.set i (some (.val d))):=by
  obtain⟨ow,o1,o2⟩:=s.ob;refine⟨ow,λj ds l h1 h2=>?_,λj m C p fs h1=>?_⟩
  ·rcases get j _ h1 with⟨_,e,_⟩|⟨_,e,e'⟩;·cases e
   ·exact o1 j ds l e (e'▸h2)
  ·rcases get j _ h1 with⟨_,e,_⟩|⟨_,e,e'⟩;·cases e
   ·rw[e'];exact o2 j m C p fs e
 refine⟨⟨s.e.sub,by simp[s.e.len],λj d' h=>?_,ob.rd⟩,s.sub0,s.up,λj ds h=>?_,λj k ds es l h1 h2 h3 h4=>?_,ob⟩
 ·rcases get j _ h with⟨rfl,e,hl⟩|⟨_,e,e'⟩;·cases e;exact⟨v,uu hl,r⟩
  ·rw[e'];exact s.e.val j d' e
 ·rcases get j _ h with⟨_,e,_⟩|⟨_,e,e'⟩;·cases e
  ·rw[e'];exact s.own j ds e
 ·rcases get j _ h1 with⟨_,e,_⟩|⟨_,e,e'⟩;·cases e
  ·rcases get k _ h2 with⟨_,f,_⟩|⟨_,f,f'⟩;·cases f
   ·exact s.inj j k ds es l e f (e'▸h3) (f'▸h4)
end
noncomputable def PGF(X:Cx)(tg:Expr)(asg:D->Ev->R Ev):Prop:=PG X tg (λv σ H Q=>∃G₀ H₀ G ρ d ρ',StR X.K G₀ H₀ G H σ ρ/\Rep X.K G v d/\asg d ρ=.ok ρ'/\∀σ',StR X.K G₀ H₀ G H σ' ρ'->Q σ' H)
section
noncomputable def lP(i:Nat):D->Ev->R Ev:=λd ρ=>.ok (ρ.set i (some (.val d)))
def fo(i:Nat)(hN:X.N.Nodup)(hi:X.N[i]?=some x:=by rfl)(hx:Loc X.env.scope x:=by first|exact Or.inl rfl|exact Or.inr rfl)(hf:X.fn x=true\/X.env.scope.names.lookup x=some .local:=by first|exact .inl rfl|exact .inr rfl):PGF X (.Name x pos) (lP i):=by
 intro pins s σ H v u Q I r h;obtain⟨G₀,H₀,G,ρ,d,ρ',st,rd,e,q⟩:=h;cases e;exact dP hN hi hx hf pins s σ H v u Q I r (q _ (st.set rd i))
end
noncomputable def nY(K:PySem.W.Frag)(G H:Hp)(Q:VK):List D->Prop:=λds=>∀l vs G' H',Up G H G' H'->H' l=none->Reps K G' vs ds->Q (.ref l) (upd H' l (.lst vs))
noncomputable def tL(X:Cx)(g:Ev->R (List D)):TE:=λσ H Q=>∃G ρ,StE X.K G H σ ρ/\(g ρ).post (nY X.K G H Q) (Exx X σ G H)
noncomputable def PFL(X:Cx)(e:Expr)(g:Ev->R (List D)):Prop:=PE X e (tL X g)
def vM{e:Expr}{g:Ev->R (List D)}(h:PFL X e g):PF X e (λρ=>g ρ>>=λds=>.ok (.lst false ds)):=by
 intro pins s σ H Q I hq;refine h pins s σ H Q I ?_;obtain⟨G,ρ,st,hq⟩:=hq
 try dsimp only at hq
 refine⟨G,ρ,st,?_⟩;cases e:g ρ with
 |ok ds=>rw[e]at hq;intro l vs G' H' u hl r;exact hq _ _ _ (u.trans (.new u.sub hl)) (.lst az (r.mono (.into (u.sub.free hl))))
 |ex C=>rw[e]at hq;exact hq
 |no=>rw[e]at hq;exact hq
def EE(h:PFA X es gl):PFL X (.List es pos) (λρ=>gl ρ>>=λds=>if ds.length<=sizeLine then .ok ds else .no):=by
 intro pins s σ H Q I hq;refine Jp h pins s σ H Q I ?_;obtain⟨G,ρ,st,hq⟩:=hq
 try dsimp only at hq
 refine⟨G,ρ,st,?_⟩;cases e:gl ρ with
 |ok ds=>
  rw[e]at hq;intro vs G' H' u r;simp only[R.ok_bind]at hq;split at hq;·rename_i hz;exact⟨by rw[r.length];exact hz,λp hp=>hq p vs G' H' u hp r⟩
  ·exact hq.elim
 |ex C=>rw[e]at hq;exact hq
 |no=>rw[e]at hq;exact hq
noncomputable def rK(env:Env):List (Str×NameKind)->List (Str×Addr)->List (Str×Addr)
 | [],cs=>cs
 | (n,k)::r,cs=>rK env r (if (k==.free)=true then (match env.cells.lookup n with|some c=>(n,c)::cs|none=>cs)else cs)
theorem wN{env:Env}{F:Str×NameKind->List (Str×Addr)->Sem (ForInStep (List (Str×Addr)))}(hF:∀n k r,(k=NameKind.free->∃c,env.cells.lookup n=some c)->F (n,k) r=pure (ForInStep.yield (if (k==.free)=true then (match env.cells.lookup n with|some c=>(n,c)::r|none=>r)else r))):
  ∀(l:List (Str×NameKind))(cs:List (Str×Addr)),(∀x∈l,x.2=.free->∃c,env.cells.lookup x.1=some c)->forIn l cs F=pure (rK env l cs)
 | [],cs,_=>rfl
 | (n,k)::l,cs,h=>by rw[List.forIn_cons,hF n k cs (h (n,k) v3),pure_bind];exact wN hF l _ λy hy=>h y (w4 _ hy)
def gP{env:Env}(h:∀x∈scope.names,x.2=.free->∃c,env.cells.lookup x.1=some c):closureFor scope env=pure (rK env scope.names []):=by
 simp only[closureFor];rw[wN (env:=env) (λn k r hk=>?_) scope.names [] h];·rfl
 ·by_cases hf:(k==NameKind.free)=true;·obtain⟨c,hc⟩:=hk (by simpa using hf);simp only[hf,u6,cellOf,hc,pure_bind]
  ·simp only[hf,uf];rfl
theorem qa{env:Env}:∀(l:List (Str×NameKind))(cs:List (Str×Addr)),(∀x c,cs.lookup x=some c->env.cells.lookup x=some c)->∀x c,(rK env l cs).lookup x=some c->env.cells.lookup x=some c
 | [],cs,h,x,c,e=>h x c e
 | (n,k)::l,cs,h,x,c,e=>by
  unfold rK at e;refine qa l _ (λy d ed=>?_) x c e;split at ed
  ·split at ed
   ·rename_i c' hc';rw[xI]at ed;split at ed;·rename_i q;rw[m9 q];rw[<- xV ed];exact hc'
    ·exact h y d ed
   ·exact h y d ed
  ·exact h y d ed
theorem lF{env:Env}:∀(l:List (Str×NameKind))(cs:List (Str×Addr))(x:Str),((∃c,cs.lookup x=some c)\/((x,NameKind.free)∈l/\∃c,env.cells.lookup x=some c))->∃c,(rK env l cs).lookup x=some c
 | [],cs,x,h=>by
  rcases h with h|⟨h,_⟩;·exact h
  ·cases h
 | (n,k)::l,cs,x,h=>by
  unfold rK;refine lF l _ x ?_;rcases h with⟨c,h⟩|⟨h,c,hc⟩
  ·left;split
   ·split
    ·rename_i c' _;rw[xI];split;·exact⟨_,rfl⟩
     ·exact⟨c,h⟩
    ·exact⟨c,h⟩
   ·exact⟨c,h⟩
  ·rcases xO.mp h with e|h;·cases e;left;rw[if_pos (by rfl),hc];exact⟨c,by simp[xI]⟩
   ·exact .inr ⟨h,c,hc⟩
noncomputable def cy(X:Cx)(N':List Str)(scope:Scope)(C:Addr)(s₂:Shared)(H₂:Hp)(fp:List Addr):Cx:=
 { X with N:=N',s₀:=s₂,H₀:=H₂,env:=compEnvC scope (rK X.env scope.names []) C X.env,outer:=X.stack,stack:=X.stack,ex:=fp,fn:=λ_=>false,pn:=[],xe:=λ_ _=>False }
noncomputable def de{α:Type}:R α->R α
 |.ok a=>.ok a
 |_=>.no
noncomputable def iT(ix:List Nat)(ρ:Ev):Ev:=none::ix.map λ(i:Nat)=>match ρ[i]? with
 |some (some (.val d))=>some (.val d)
 |_=>none
noncomputable def cY(n:Nat)(ix:List Nat)(ρ:Ev):Ev:=List.replicate n none++ix.map λ(i:Nat)=>match ρ[i]? with
 |some (some (.val d))=>some (.val d)
 |_=>none
noncomputable def fO(asg:D->Ev->R Ev)(gt:Ev->R Bool)(ge:Ev->R D):List D->Ev->R (List D)
 | [],_=>.ok []
 |d::ds,ρ=>de (asg d ρ)>>=λρ1=>de (gt ρ1)>>=λk=>if k=true then de (ge ρ1)>>=λx=>fO asg gt ge ds ρ1>>=λxs=>.ok (x::xs)else fO asg gt ge ds ρ1
noncomputable def fV(gt:Ev->R Bool)(ge:Ev->R D):List D->Ev->R (List D):=fO (lP 0) gt ge
theorem ke{asg:D->Ev->R Ev}{gt:Ev->R Bool}{ge:Ev->R D}:∀(ds:List D)(ρ:Ev),(∃xs,fO asg gt ge ds ρ=.ok xs)\/fO asg gt ge ds ρ=.no
 | [],ρ=>.inl ⟨[],rfl⟩
 |d::ds,ρ=>by
  unfold fO;cases asg d ρ with
  |ok ρ1=>
   simp only[de,R.ok_bind];cases gt ρ1 with
   |ok k=>
    simp only[de,R.ok_bind];cases k with
    |true=>
     simp only[u6];cases ge ρ1 with
     |ok x=>
      simp only[de,R.ok_bind];rcases ke (asg:=asg) ds ρ1 with⟨xs,e⟩|e;·rw[e];exact .inl ⟨_,rfl⟩
      ·rw[e];exact .inr rfl
     |ex C=>exact .inr rfl
     |no=>exact .inr rfl
    |false=>simp only[t9,uf];exact ke ds _
   |ex C=>exact .inr rfl
   |no=>exact .inr rfl
  |ex C=>exact .inr rfl
  |no=>exact .inr rfl
noncomputable def fK(gi:Ev->R (List D))(ix:List Nat)(gt:Ev->R Bool)(ge:Ev->R D):Ev->R (List D):=λρ=>gi ρ>>=λitems=>fV gt ge items (iT ix ρ)>>=λds=>if ds.length<=sizeLine then .ok ds else .no
noncomputable def wn(n:Nat)(asg:D->Ev->R Ev)(gi:Ev->R (List D))(ix:List Nat)(gt:Ev->R Bool)(ge:Ev->R D):Ev->R (List D):=λρ=>gi ρ>>=λitems=>fO asg gt ge items (cY n ix ρ)>>=λds=>if ds.length<=sizeLine then .ok ds else .no
noncomputable def PTs(X:Cx)(ifs:List Expr)(gt:Ev->R Bool):Prop:=∀(pins:List (Addr×Obj))(s:Shared)(σ:St)(H:Hp)(Q:Bool->Hp->Prop),Inv X pins σ H s->tTF X gt σ H Q->
 wpAny (model X.prog X.w) X.A (forIn ifs true λc r=>if r=true then do let ok <- isTrue c X.env (eval c X.env);pure (ForInStep.yield ok)else pure (ForInStep.yield r)) (TP X pins σ Q) X.xe s
def eO:PTs X [] (λ_=>.ok true):=by intro pins s σ H Q I h;obtain⟨G,ρ,st,h⟩:=h;exact y9 ⟨H,I,h true G H (.refl st.sub) rfl⟩
def um{c:Expr}{gt:Ev->R Bool}(h:PB X c gt):PTs X [c] gt:=λpins s σ H Q I q=>wpAny_tests_one (h pins s σ H Q I q)
def Un.sameBut{fs ex:List Addr}{h1 h2:Heap}(u:Un fs ex H H' h h1)(k:∀b o,b≠C->h1.get? b=some o->h2.get? b=some o)(hC:h.objs.size<=C):Un fs ex H H' h h2:=by have ne:∀b o,h.get? b=some o->b≠C:=λb o e=>v6 (uP (xh e) hC);exact⟨λb o e n hb hx=>k b o (ne b o e) (u.keep b o e n hb hx),λb o e n hb hx=>let⟨sl,q⟩:=u.slot b o e n hb hx;⟨sl,k b _ (ne b o e) q⟩,u.free,λb o e hx=>let⟨o',q⟩:=u.there b o e hx;⟨o',k b o' (ne b o e) q⟩,u.tups,u.frzs,u.tbls⟩
def HOk.sameBut{w:World}(x:HOk P w H h)(k:∀b o,b≠C->h.get? b=some o->h'.get? b=some o)(hC:H C=none):HOk P w H h':=λa o e=>by
 refine(x a o e).stay (λb u hb q=>k b u ?_ q) (λ_ z=>z) (λ_ _ z=>z);rcases hb with rfl|hb;·exact aC e hC
 ·exact aC hb hC
section
variable{elt:Expr}{ifs:List Expr}{px:Pos}{gt:Ev->R Bool}
structure CompOk(X:Cx)(scope:Scope)(x:Str)(N':List Str)(ix:List Nat):Prop where
 kind:scope.kind=.function
 cell:∀y∈scope.names,y.2≠.cell
 names:∀y∈scope.names,y.2=.local->scope.names.lookup y.1=some .local
 loc:scope.names.lookup x=some .local
 fr:∀y∈scope.names,y.2=.free->X.env.kindOf y.1=some .cell
 nd:N'.Nodup
 hd:N'[0]?=some x
 tl:N'.tail=ix.map λ(i:Nat)=>X.N.getD i Str.empty
 lt:∀i∈ix,i<X.N.length
 fre:∀y∈N'.tail,scope.names.lookup y=some .free/\(y,NameKind.free)∈scope.names
structure CompOkT(X:Cx)(scope:Scope)(n:Nat)(N':List Str)(ix:List Nat):Prop where
 kind:scope.kind=.function
 cell:∀y∈scope.names,y.2≠.cell
 names:∀y∈scope.names,y.2=.local->scope.names.lookup y.1=some .local
 fr:∀y∈scope.names,y.2=.free->X.env.kindOf y.1=some .cell
 le:n<=N'.length
 tl:N'.drop n=ix.map λ(i:Nat)=>X.N.getD i Str.empty
 lt:∀i∈ix,i<X.N.length
 fre:∀y∈N'.drop n,scope.names.lookup y=some .free/\(y,NameKind.free)∈scope.names
def CompOk.t(ok:CompOk X scope x N' ix):CompOkT X scope 1 N' ix:=
 ⟨ok.kind,ok.cell,ok.names,ok.fr,(u8.mp ok.hd).1,List.drop_one▸ok.tl,ok.lt,List.drop_one▸ok.fre⟩
theorem kT{env:Env}(hk:env.scope.kind=.function):∀{names:List (Str×NameKind)}{x:Str},names.lookup x=some .free->env.kindOf x=some .cell->
  (names.map λ(n,k)=>if (k==NameKind.free && env.scope.kind==.function && env.kindOf n==some .cell)then (n,NameKind.cell)else (n,k)).lookup x=some .cell
 | [],_,h,_=>by simp at h
 | (n,k)::r,x,h,hc=>by
  have ih:=@kT env hk r x;show List.lookup x ((if (k==NameKind.free && env.scope.kind==.function && env.kindOf n==some .cell)=true then (n,NameKind.cell)else (n,k))::_)=_;cases hx:x==n with
  |true=>simp only[xI,hx]at h;cases h;have e:=m9 hx;subst e;rw[if_pos (by rw[hk,hc];rfl)];simp[xI]
  |false=>
   simp only[xI,hx]at h;by_cases hc':(k==NameKind.free && env.scope.kind==.function && env.kindOf n==some .cell)=true;·rw[if_pos hc'];simp only[xI,hx];exact ih h hc
   ·rw[if_neg hc'];simp only[xI,hx];exact ih h hc
def A0{n:Nat}(h:(cY n ix ρ)[j]?=some (some (.val d))):∃k i,j=k+n/\ix[k]?=some i/\ρ[i]?=some (some (.val d)):=by
 unfold cY at h;by_cases hj:j<n;·rw[oq (by simpa using hj),l9,if_pos hj]at h;cases h
 ·rw[nA (by simpa using rX.1 hj),qg,v7]at h;cases e:ix[j - n]? with
  |none=>rw[e]at h;cases h
  |some i=>
   rw[e]at h;refine⟨j - n,i,by omega,e,?_⟩;simp only[uo,c7]at h;split at h;·rename_i d' e';cases h;exact e'
   ·cases h
noncomputable def fh(n:Nat)(ix:List Nat)(σ:St):St:=List.replicate n none++ix.map λ(i:Nat)=>(σ[i]?).join
def jW{n:Nat}:NoOwn (cY n ix ρ):=λj x h=>by
 unfold cY at h;by_cases hj:j<n;·rw[oq (by simpa using hj),l9,if_pos hj]at h;cases h
 ·rw[nA (by simpa using rX.1 hj),qg,v7]at h;cases e:ix[j - n]? with
  |none=>rw[e]at h;cases h
  |some i=>
   rw[e]at h;simp only[uo,c7]at h;split at h;·cases h;exact⟨_,rfl⟩
   ·cases h
def qd{K:PySem.W.Frag}(st:StE K G H σ ρ)(n:Nat)(ix:List Nat):StE K G H (fh n ix σ) (cY n ix ρ):=by refine⟨st.sub,by simp[cY,fh],λj d h=>?_,λj m C p fs h=>absurd h (NoOwn.obj jW j m C p fs)⟩;obtain⟨k,i,rfl,e1,e2⟩:=A0 h;obtain⟨v,h1,h2⟩:=st.val i d e2;refine⟨v,?_,h2⟩;unfold fh;rw[nA (by simp),qg,Nat.add_sub_cancel,v7,e1];simp[h1]
def BR{h₁:Heap}{tk:Nat}{m:Str->Option Value}{n:Nat}(ok:CompOkT X scope n N' ix)(hcalm:X.calm=true)(I:Inv X pins σ H s)(hf:∀b∈fp,pI X pins H b)(hfl:∀b∈fp,b<s.heap.objs.size)(hC:s.heap.objs.size<=C)(hn:h₁.Ns C m)(old:∀b o,s.heap.get? b=some o->h₁.get? b=some o)(un:Un (frs X.stack) fp H H' s.heap h₁)(hok:HOk X.prog X.w H' h₁)(hfC:H' C=none)(hfc:∀c:Addr,c<s.heap.objs.size->H c=none->H' c=none):
  Inv (cy X N' scope C s H fp) [] (fh n ix σ) H' { s with heap:=h₁,toks:=tk }:=by
 have cl:∀y c,(rK X.env scope.names []).lookup y=some c->X.env.cells.lookup y=some c:=qa scope.names [] (λy c h=>by simp at h);have nlt:N'.length=n+ix.length:=by have h1:=ut List.length ok.tl;rw[iN,x8]at h1;have:=ok.le;omega
 refine⟨⟨I.ok.mod,by show(relabel scope X.env).kind=_;exact ok.kind,I.ok.glob,I.ok.blt,hC,?_,?_,?_,I.ok.hd,I.ok.frames,.inl rfl,?_,I.bs,w8 I.ok.bsz I.sz,?_,?_,I.stack,I.stkFree,I.ok.tabs.un I.base⟩,rfl,I.bare,un,?_,?_,hfC,?_,?_,hok,?_⟩;·intro y z c h1 h2;exact I.ok.inj y z c (cl y c h1) (cl z c h2)
 ·intro y hy;have h1:(y,NameKind.free)∈scope.names:=by
   have hy':(relabel scope X.env).names.lookup y=some .cell\/(relabel scope X.env).names.lookup y=some .free:=hy;have mem:∀k,(relabel scope X.env).names.lookup y=some k->(k=.cell\/k=.free)->(y,NameKind.free)∈scope.names:=λk e hk=>by
    have hm:=o9 e;obtain⟨⟨n,k'⟩,hm1,hm2⟩:=ur.mp hm;dsimp only at hm2;split at hm2
    ·rename_i hc;cases hm2;have:k'=.free:=by have:=(w5 _ _▸(w5 _ _▸hc).1).1;simpa using this
     rw[<- this];exact hm1
    ·cases hm2;rcases hk with rfl|rfl;·exact absurd rfl (ok.cell _ hm1)
     ·exact hm1
   rcases hy' with h|h;·exact mem _ h (.inl rfl)
   ·exact mem _ h (.inr rfl)
  have hc:=I.ok.has y (.inl (ok.fr _ h1 rfl));exact lF scope.names [] y (.inr ⟨h1,hc⟩)
 ·intro y c hfn;cases hfn
 ·intro b hb;obtain⟨f0,f1,f2,f3,f4,f5⟩:=hf b hb;exact⟨λz=>absurd (hfl b hb) (by rw[z];exact rX.mpr hC),λy c h=>f4 y c (cl y c h)⟩
 ·intro b o e hb;obtain⟨f0,f1,f2,f3,f4,f5⟩:=hf b hb;rcases f3 with f3|f3;·exact I.ok.noex b o e f3
  ·exact absurd (xh (I.ok.bs b o e).1) (rX.mpr f3)
 ·intro b hb hb';obtain⟨f0,f1,f2,f3,f4,f5⟩:=hf b hb;rcases xO.mp (I.stkSub b hb')with e|e;·exact f1 e
  ·exact f2 e
 ·refine⟨m,hn,λi y v h1 h2 h3=>?_⟩;have h1:N'[i]?=some y:=h1;have h2:(fh n ix σ)[i]?=some (some v):=h2;by_cases hi:i<n;·unfold fh at h2;rw[oq (by simpa using hi),l9,if_pos hi]at h2;cases h2
  ·unfold fh at h2;rw[nA (by simpa using rX.1 hi),qg,v7]at h2;cases e:ix[i - n]? with
   |none=>rw[e]at h2;cases h2
   |some i0=>
    rw[e]at h2;have h2':σ[i0]?=some (some v):=by
     cases q:σ[i0]? with
     |none=>rw[uo,q]at h2;cases h2
     |some z=>rw[uo,q]at h2;have:=xV h2;rw[<- this];rfl
    have ht:(N'.drop n)[i - n]?=some y:=by rw[List.getElem?_drop,Nat.add_sub_cancel' (rX.1 hi)];exact h1
    have hy:X.N[i0]?=some y:=by have ht2:=ht;rw[ok.tl,v7,e]at ht2;have hl:=ok.lt i0 (j3 e);have q:=xV ht2;rw[w9 hl];rw[<- q];show some X.N[i0]=some (X.N.getD i0 Str.empty);rw[v9,w9 hl];rfl
    obtain⟨fr1,fr2⟩:=ok.fre y (j3 ht);have kc:=ok.fr _ fr2 rfl;obtain⟨m0,hn0,hl⟩:=I.loc;obtain⟨u,ru,lk⟩:=hl i0 y v hy h2' (.inr (.inl kc));refine⟨u,ru,.inr ⟨.inl (kT I.ok.kind fr1 kc),?_⟩⟩;rcases lk with⟨z,_⟩|⟨_,c,hc,hcell⟩;·rw[kc]at z;cases z
    ·obtain⟨c',hc'⟩:=lF scope.names [] y (.inr ⟨fr2,c,hc⟩);have:=cl y c' hc';rw[hc]at this;cases this;exact⟨c,hc',hcell.keeps old⟩
 ·intro y c h;obtain⟨v,q⟩:=I.cell y c (cl y c h);exact⟨v,q.keeps old⟩
 ·intro y c h;obtain⟨v,q⟩:=I.cell y c (cl y c h);exact hfc c q.lt (I.freeC y c (cl y c h))
 ·intro p hp;exact absurd (show p∈([]:List (Addr×Obj)) from hp) (by simp)
 ·show(fh n ix σ).length=N'.length;rw[nlt];simp[fh]
def xp{prog:Program}{w:World}{A:Around}{R':Result->Shared->Prop}{elt target:Expr}{ifs:List Expr}{it acc:Value}{env:Env}(I:Nat->Shared->Prop)(Hi:∀n s,I n s->wpAny (model prog w) A (pyNext it) (λr s₁=>match r with
 |none=>R' (.ok .next) s₁
 |some v=>wpAny (model prog w) A (letOwnedTupleGo target it v) (λ_ s₁'=>wpAny (model prog w) A (assign target env v) (λ_ s₂=>
 wpAny (model prog w) A (forIn ifs true λc r=>if r=true then do let ok <- isTrue c env (eval c env);pure (ForInStep.yield ok)else pure (ForInStep.yield r)) (λok s₃=>
 if ok=true then wpAny (model prog w) A (eval elt env) (λx s₄=>
 wpAny (model prog w) A (call (.builtin "list.append") [acc,x]) (λ_ s₅=>∃m,m<n/\I m s₅) (λ_ _=>False) s₄) (λ_ _=>False) s₃
 else ∃m,m<n/\I m s₃) (λ_ _=>False) s₂) (λ_ _=>False) s₁') (λ_ _=>False) s₁) (λ_ _=>False) s)(n:Nat)(h:I n s):
  codeAny (model prog w) A (.compLoop (.ListComp elt [⟨target,iter,ifs,0⟩] scope pos) 0 it acc env) R' s:=by
 refine codeAny_loop rfl I (λn s hI=>?_) n h;show wpAny _ A ((compTurn (.ListComp elt [⟨target,iter,ifs,0⟩] scope pos) 0 it acc env).onRaise (λx=>do noteFrame x env;theTreesLotGoes x)) _ _ s;refine wpAny_noted ?_;rw[compTurn_list];refine y8 (iz (y8 (u9 (Hi n s hI) (λr s₁ h₁=>?_) λ_ _ z=>z.elim)));cases r with
 |none=>exact y9 h₁
 |some v=>
  refine y8 (u9 h₁ (λ_ s₁' h₁'=>?_) λ_ _ z=>z.elim);refine y8 (u9 h₁' (λ_ s₂ h₂=>y8 (u9 h₂ (λok s₃ h₃=>?_) λ_ _ z=>z.elim)) λ_ _ z=>z.elim);cases ok with
  |false=>exact y9 ⟨rfl,h₃⟩
  |true=>exact y8 (y8 (u9 h₃ (λx s₄ h₄=>y8 (u9 h₄ (λ_ s₅ h₅=>y9 (y9 ⟨rfl,h₅⟩)) λ_ _ z=>z.elim)) λ_ _ z=>z.elim))
def vB:∀d ρ ρ',lP i d ρ=.ok ρ'->NoOwn ρ->NoOwn ρ':=by
 intro d ρ ρ' e h j x q;have e':ρ.set i (some (.val d))=ρ':=R.ok.inj e;rw[<- e',List.getElem?_set]at q;split at q
 ·split at q;·cases q;exact⟨d,rfl⟩
  ·cases q
 ·exact h j x q
def mB{tgt : Expr}{n : Nat}{tn : Nat -> Heap -> Prop}{J : It}{items : List D}{Q : VK}{RR : Value -> Addr -> Result -> Shared -> Prop}{E : Value -> Shared -> Prop}(ok : CompOkT X scope n N' ix)(hcalm : X.calm = true)(hg : ∀C s₂ H₂ fp, PGF (cy X N' scope C s₂ H₂ fp) tgt asg)(hown : ∀d ρ ρ', asg d ρ = .ok ρ' -> (NoOwn ρ) -> NoOwn ρ')(he : ∀C s₂ H₂ fp, PF (cy X N' scope C s₂ H₂ fp) elt ge)(ht : ∀C s₂ H₂ fp, PTs (cy X N' scope C s₂ H₂ fp) ifs gt)(I : Inv X pins σ H s)(T : Turn X.prog X.w X.K tgt J fp it tn)(st0 : tn 0 s.heap)(hf : ∀b ∈ fp, pI X pins H b)(st : StE X.K G H σ ρ)(hi : ItOk X.K G J items)(h : (fO asg gt ge items (cY n ix ρ) >>= λds => if ds.length <= sizeLine then R.ok ds else .no).post (nY X.K G H Q) (Exx X σ G H))(hR : ∀(Dd C : Addr)(s' : Shared)(m : Str -> Option Value)(vs : List V)(G' H' : Hp), Up G H G' H' -> H' Dd = none -> C≠Dd -> (∀ds, Reps X.K G' vs ds -> True) -> Q (.ref Dd) (upd H' Dd (.lst vs)) -> s'.heap.Ns C m -> s'.os = s.os -> AllBare s'.gens -> H' C = none -> s.heap.objs.size <= C ->
 Un (frs X.stack) fp H (upd H' Dd (.lst vs)) s.heap s'.heap -> HOk X.prog X.w (upd H' Dd (.lst vs)) s'.heap -> RR (.ref Dd) C (.ok .next) s'):
    wpAny (model X.prog X.w) X.A (newList []) (λacc s₃ => wpAny (model X.prog X.w) X.A (newFunctionEnv scope X.env.globals (rK X.env scope.names []) [] X.env.qual none .none (some X.env)) (λcenv s₄ =>codeAny (model X.prog X.w) X.A (.compStart (.ListComp elt [⟨tgt, iter, ifs, 0⟩] scope pos) 0 (.ref it) acc { cenv with scope := relabel scope X.env }) (RR acc cenv.locals) s₄) E s₃) E s := by
  have hfl : ∀b ∈ fp, b < s.heap.objs.size := λb hb => let⟨o, e, _⟩ := T.obj 0 s.heap st0 b hb; xh e;refine sZ (wpAny_newFunctionEnv ok.cell (by intro y hy; simp at hy) (λh₁ hns₁ hsb₁ => ?_) ok.kind);dsimp only at hns₁ hsb₁⊢;generalize hH2 : s.heap.push { cls := .type "list", dict := none, data := .seq ([] : List Value).toArray } = Hq at hns₁ hsb₁⊢;have hC : Hq.objs.size = s.heap.objs.size + 1 := by rw[<- hH2, o8]
  have hDC : s.heap.objs.size≠Hq.objs.size := by rw[hC]; exact v6 (l8 _)
  have hCle : s.heap.objs.size <= Hq.objs.size := by rw[hC]; exact n3 _
  have old : ∀b o, s.heap.get? b = some o -> h₁.get? b = some o := λb o e =>
    hsb₁.extBut b o (by rw[hC]; exact v6 (Zd (xh e))) (yq _ (hH2▸yq _ e));have hacc : h₁.get? s.heap.objs.size = some { cls := .type "list", data := .seq ([] : List Value).toArray } := hsb₁.extBut _ _ hDC (yq _ (hH2▸w6 _ rfl));have hD0 : H s.heap.objs.size = none := I.fresh;have hC0 : H Hq.objs.size = none := I.hok.fresh hCle;have st0' : tn 0 h₁ := T.keep 0 _ _ st0 λb hb o e => old b o e;have I0 : ∀tk, Inv (cy X N' scope Hq.objs.size s H fp) [] (fh n ix σ) (upd H s.heap.objs.size (.lst [])) { s with heap := h₁, toks := tk } := λtk => by
    refine BR ok hcalm I hf hfl hCle hns₁ old (Un.laid old (yh _) hD0) (I.hok.laid old (yh _) ⟨v8 _, [], 0, .nil, hacc⟩) (by rw[am hDC.symm]; exact hC0) λc hc e => ?_;rw[am (v6 hc)]; exact e
  have loop : ∀tk, codeAny (model X.prog X.w) X.A (.compLoop (.ListComp elt [⟨tgt, iter, ifs, 0⟩] scope pos) 0 (.ref it) (.ref s.heap.objs.size) (compEnvC scope (rK X.env scope.names []) Hq.objs.size X.env))
      (RR (.ref s.heap.objs.size) Hq.objs.size) { s with heap := h₁, toks := tk } := λtk => by
    have fpk : ∀{pins' : List (Addr × Obj)}{σ' : St}{H' : Hp}{s' : Shared}, Inv (cy X N' scope Hq.objs.size s H fp) pins' σ' H' s' -> pins' = [] -> (∀b ∈ fp, H' b = none) -> ∀b ∈ fp, pI (cy X N' scope Hq.objs.size s H fp) pins' H' b := λI' e hn b hb =>⟨hn b hb, (I'.ok.exf b hb).1, I'.ok.exfs b hb, .inl hb, (I'.ok.exf b hb).2, by subst e; intro p hp; exact absurd (show p ∈ ([] : List (Addr × Obj)) from hp) (by simp)⟩
    refine xp (λnn s' => ∃(i : Nat)(σ' : St)(G' H' : Hp)(ρ' : Ev)(vs : List V)(ys : List D), nn = items.length - i /\ i <= items.length /\ Inv (cy X N' scope Hq.objs.size s H fp) [] σ' H' s' /\ tn i s'.heap /\ (∀b ∈ fp, H' b = none) /\
      H' s.heap.objs.size = some (.lst vs) /\ G' s.heap.objs.size = none /\ Up G H G' H' /\ StE X.K G' H' σ' ρ' /\ (NoOwn ρ') /\ Reps X.K G' vs ys /\
      (fO asg gt ge (items.drop i) ρ' >>= λzs => if (ys ++ zs).length <= sizeLine then R.ok (ys ++ zs)else .no).post (nY X.K G H Q) (Exx X σ G H)) ?_ items.length
      ⟨0, fh n ix σ, G, upd H s.heap.objs.size (.lst []), cY n ix ρ, [], [], by simp, v8 _, I0 tk, st0', λb hb => by rw[am (v6 (hfl b hb))]; exact(hf b hb).1, az, st.sub.free hD0,
        ⟨λa o e => by rw[am (aC e (st.sub.free hD0))]; exact st.sub a o e, .refl _, .into hD0, λ_ _ e => .inl e⟩,
        ⟨λa o e => by rw[am (aC e (st.sub.free hD0))]; exact st.sub a o e, (qd st n ix).len, (qd st n ix).val, λj m C p fs h => absurd h (NoOwn.obj jW j m C p fs)⟩, jW, .nil, by simpa using h⟩;rintro nn s' ⟨i, σ', G', H', ρ', vs, ys, rfl, hil, I', tn', fr', hD', gD', up', st', no', rp', h'⟩;have hIt := hi i G' H' up'.gg st'.sub;by_cases hlt : i < items.length
    ·
      have hd : items.drop i = items[i] :: items.drop (i + 1) := Ze hlt;rw[hd]at h';obtain⟨go, yl⟩ := hIt.1 items[i] (by simp[hlt]);refine u9 (T.item (cy X N' scope Hq.objs.size s H fp) rfl rfl rfl hcalm i [] s' σ' H' (λ_ _ => False) I' (fpk I' rfl fr') tn' go) (λr s1 ⟨u, hr, h1⟩ => ?_) λ_ _ z => z;subst hr;refine u9 h1 (λ_ s2 ⟨x2, H2, I2, r2, y2, tn2, fr2⟩ => ?_) λ_ _ z => z;obtain⟨G2, up2, rep2⟩ := yl x2 H2 y2;have I2p := I2.pinned (fpk I2 rfl fr2) (T.obj _ _ tn2);have st2 : StE X.K G2 H2 σ' ρ' := st'.up up2;have sr2 : StR X.K G2 H2 G2 H2 σ' ρ' := ⟨st2, up2.sub, .refl up2.sub, λj ds e => absurd e (no'.own j ds), λj k ds es l e => absurd e (no'.own j ds), no'.ob⟩
      have ea : ∃ρ1, asg items[i] ρ' = .ok ρ1 := by
        unfold fO at h';cases q : asg items[i] ρ' with
        |ok k => exact⟨k, rfl⟩
        |_ => rw[q]at h'; exact h'.elim
      obtain⟨ρ1, ea⟩ := ea;unfold fO at h';rw[ea]at h';simp only[de, R.ok_bind]at h';refine u9 (hg Hq.objs.size s H fp _ s2 σ' H2 x2 u (λσ3 H3 => H3 = H2 /\ StR X.K G2 H2 G2 H2 σ3 ρ1) I2p r2
        ⟨G2, H2, G2, ρ', items[i], _, sr2, rep2, ea, λσ3 q => ⟨rfl, q⟩⟩) (λ_ s3 ⟨σ3, H3, I3, e3, sr3⟩ => ?_) λ_ _ z => z;subst e3;have no3 := hown _ _ _ ea no';have hD2 : H3 s.heap.objs.size = some (.lst vs) := up2.hh _ _ hD';have gD2 : G2 s.heap.objs.size = none := by
        cases q : G2 s.heap.objs.size with
        |none => rfl
        |some o =>
          rcases up2.fr _ _ q with z|z;· rw[gD']at z; cases z
          · rw[hD']at z; cases z
      have ek : ∃k, gt ρ1 = .ok k := by
        cases q : gt ρ1 with
        |ok k => exact⟨k, rfl⟩
        |_ => rw[q]at h'; exact h'.elim
      obtain⟨k, ek⟩ := ek;rw[ek]at h';simp only[de, R.ok_bind]at h';refine u9 (ht Hq.objs.size s H fp _ s3 σ3 H3 (λb H4 => b = k /\ ∃G4, Up G2 H3 G4 H4) I3 ⟨G2, _, sr3.e, by rw[ek]; exact λb G4 H4 u4 e4 => ⟨e4, G4, u4⟩⟩) (λb s4 ⟨H4, I4, eb, G4, up4⟩ => ?_) λ_ _ z => z;subst eb;have next : ∀{H7 : Hp}{s7 : Shared}{G7 : Hp}{vs7 : List V}{ys7 : List D}, Inv (cy X N' scope Hq.objs.size s H fp) ([] ++ sV fp s2.heap) σ3 H7 s7 -> H7 s.heap.objs.size = some (.lst vs7) -> G7 s.heap.objs.size = none -> Up G H G7 H7 -> StE X.K G7 H7 σ3 ρ1 -> Reps X.K G7 vs7 ys7 ->
          (fO asg gt ge (items.drop (i + 1)) ρ1 >>= λzs => if (ys7 ++ zs).length <= sizeLine then R.ok (ys7 ++ zs)else .no).post (nY X.K G H Q) (Exx X σ G H) ->
          ∃m, m < items.length - i /\ ∃(i : Nat)(σ' : St)(G' H' : Hp)(ρ' : Ev)(vs : List V)(ys : List D), m = items.length - i /\ i <= items.length /\ Inv (cy X N' scope Hq.objs.size s H fp) [] σ' H' s7 /\ tn i s7.heap /\ (∀b ∈ fp, H' b = none) /\
            H' s.heap.objs.size = some (.lst vs) /\ G' s.heap.objs.size = none /\ Up G H G' H' /\ StE X.K G' H' σ' ρ' /\ (NoOwn ρ') /\ Reps X.K G' vs ys /\
            (fO asg gt ge (items.drop i) ρ' >>= λzs => if (ys ++ zs).length <= sizeLine then R.ok (ys ++ zs)else .no).post (nY X.K G H Q) (Exx X σ G H) := λ{H7 s7 G7 vs7 ys7} I7 hD7 gD7 up7 st7 rp7 h7 => by
        have pin : ∀b ∈ fp, ∀o, s2.heap.get? b = some o -> s7.heap.get? b = some o /\ H7 b = none := λb hb o e => by have := I7.pin (b, o) (o5 _ (o5 _ (kz hb e)));exact⟨this.1, this.2.1⟩
        refine⟨items.length - (i + 1), by omega, i + 1, σ3, G7, H7, _, vs7, ys7, rfl, hlt, I7.unpinned, T.keep _ _ _ tn2 λb hb o e => (pin b hb o e).1, λb hb => ?_, hD7, gD7, up7, st7, no3, rp7, h7⟩;obtain⟨o, e, _⟩ := T.obj _ _ tn2 b hb;exact(pin b hb o e).2
      have hD4 : H4 s.heap.objs.size = some (.lst vs) := up4.hh _ _ hD2;have gD4 : G4 s.heap.objs.size = none := by
        cases q : G4 s.heap.objs.size with
        |none => rfl
        |some o =>
          rcases up4.fr _ _ q with z|z;· rw[gD2]at z; cases z
          · rw[hD2]at z; cases z
      cases b with
      |false =>simp only[t9, uf]at h'⊢;exact next I4 hD4 gD4 ((up'.trans up2).trans up4) (sr3.e.up up4) ((rp'.mono up2.gg).mono up4.gg) h'
      |true =>
        simp only[u6]at h'⊢;have ex : ∃y, ge ρ1 = .ok y := by
          cases q : ge ρ1 with
          |ok y => exact⟨y, rfl⟩
          |_ => rw[q]at h'; exact h'.elim
        obtain⟨y, ey⟩ := ex;rw[ey]at h';simp only[de, R.ok_bind]at h';refine u9 (he Hq.objs.size s H fp _ s4 σ3 H4 (λv H5 => ∃G5, Up G4 H4 G5 H5 /\ Rep X.K G5 v y) I4 ⟨G4, _, sr3.e.up up4, by rw[ey]; exact λv G5 H5 u5 r5 => ⟨G5, u5, r5⟩⟩) (λu5 s5 ⟨v5, H5, I5, r5, G5, up5, rep5⟩ => ?_) λ_ _ z => z;have hD5 : H5 s.heap.objs.size = some (.lst vs) := up5.hh _ _ hD4;have gD5 : G5 s.heap.objs.size = none := by
          cases q : G5 s.heap.objs.size with
          |none => rfl
          |some o =>
            rcases up5.fr _ _ q with z|z;· rw[gD4]at z; cases z
            · rw[hD4]at z; cases z
        have ups := ((up'.trans up2).trans up4).trans up5;rcases ke (asg := asg) (gt := gt) (ge := ge) (items.drop (i + 1)) ρ1 with⟨zs, ez⟩|ez
        · rw[ez]at h';simp only[R.ok_bind]at h';have hz : (ys ++ y :: zs).length <= sizeLine := by
            by_cases hz : (ys ++ y :: zs).length <= sizeLine;· exact hz
            · rw[if_neg hz]at h'; exact h'.elim
          have hvl : vs.length < sizeLine := by rw[rp'.length];rw[ud, v4]at hz;omega
          refine u9 (jy (X := cy X N' scope Hq.objs.size s H fp) _ s5 σ3 H5 (.ref s.heap.objs.size) [v5] (.ref s.heap.objs.size) [u5] (λ_ H6 => H6 = upd H5 s.heap.objs.size (.lst (vs ++ [v5]))) I5 rfl (.cons r5 .nil)
            ⟨_, vs, v5, rfl, rfl, hD5, hvl, rfl⟩) (λ_ s6 ⟨_, H6, I6, _, e6⟩ => ?_) λ_ _ z => z;subst e6;have sub6 : Same G5 (upd H5 s.heap.objs.size (.lst (vs ++ [v5]))) := λa o e => by rw[am (aC e gD5)]; exact up5.sub a o e
          refine next I6 az gD5 ⟨sub6, ups.gg, λa o e => ?_, ups.fr⟩ ?_ (ys7 := ys ++ [y]) ((((rp'.mono up2.gg).mono up4.gg).mono up5.gg).append (.cons rep5 .nil)) ?_
          · rw[am (aC e hD0)]; exact ups.hh a o e
          · exact⟨sub6, ((sr3.e.up up4).up up5).len, ((sr3.e.up up4).up up5).val, λj m C p fs h => absurd h (no3.obj j m C p fs)⟩
          · rw[ez];simp only[R.ok_bind, lm, List.singleton_append];exact h'
        · rw[ez]at h'; exact h'.elim
    ·
      have hie : i = items.length := by omega
      subst hie;rw[Zf]at h';unfold fO at h';simp only[R.ok_bind, t7]at h';refine u9 (T.done (cy X N' scope Hq.objs.size s H fp) rfl rfl rfl hcalm items.length [] s' σ' H' (λ_ _ => False) I' (fpk I' rfl fr') tn' (hIt.2 (yh _))) (λr s1 ⟨hr, I1⟩ => ?_) λ_ _ z => z;subst hr;have hz : ys.length <= sizeLine := by
        by_cases hz : ys.length <= sizeLine;· exact hz
        · rw[if_neg hz]at h'; exact h'.elim
      rw[if_pos hz]at h';have eH : upd (λa => if a = s.heap.objs.size then none else H' a) s.heap.objs.size (.lst vs) = H' := by
        funext a
        unfold upd;by_cases e : a = s.heap.objs.size;· subst e; rw[if_pos rfl]; exact hD'.symm
        · rw[if_neg e];show(if a = s.heap.objs.size then none else H' a) = _;rw[if_neg e]
      have hn : (λa => if a = s.heap.objs.size then none else H' a) s.heap.objs.size = none := by simp
      have upn : Up G H G' (λa => if a = s.heap.objs.size then none else H' a) := by
        refine⟨λa o e => ?_, up'.gg, λa o e => ?_, up'.fr⟩;· have : a≠s.heap.objs.size := aC e gD';simp only[this, uf]; exact up'.sub a o e
        · have : a≠s.heap.objs.size := aC e hD0;simp only[this, uf]; exact up'.hh a o e
      obtain⟨m1, hm1, _⟩ := I1.loc;refine hR s.heap.objs.size Hq.objs.size s1 m1 vs G' _ upn hn hDC.symm (λ_ _ => trivial) (h' _ vs G' _ upn hn rp') hm1 I1.os I1.bare ?_ hCle (by rw[eH]; exact I1.base) (by rw[eH]; exact I1.hok);have := I1.free;show(if Hq.objs.size = s.heap.objs.size then none else H' Hq.objs.size) = none;rw[if_neg hDC.symm]; exact this
  exact codeAny_compStart_list (loop _) (T.self X.A 0 _ _ _ st0' (loop _))

def wV{tn:Nat->Heap->Prop}{J:It}{items:List D}{Q:VK}{RR:Value->Addr->Result->Shared->Prop}{E:Value->Shared->Prop}(ok:CompOk X scope x N' ix)(hcalm:X.calm=true)(he:∀C s₂ H₂ fp,PF (cy X N' scope C s₂ H₂ fp) elt ge)(ht:∀C s₂ H₂ fp,PTs (cy X N' scope C s₂ H₂ fp) ifs gt)(I:Inv X pins σ H s)(T:Turn X.prog X.w X.K (.Name x px) J fp it tn)(st0:tn 0 s.heap)(hf:∀b∈fp,pI X pins H b)(st:StE X.K G H σ ρ)(hi:ItOk X.K G J items)(h:(fV gt ge items (iT ix ρ)>>=λds=>if ds.length<=sizeLine then R.ok ds else .no).post (nY X.K G H Q) (Exx X σ G H))(hR:∀(Dd C:Addr)(s':Shared)(m:Str->Option Value)(vs:List V)(G' H':Hp),Up G H G' H'->H' Dd=none->C≠Dd->(∀ds,Reps X.K G' vs ds->True)->Q (.ref Dd) (upd H' Dd (.lst vs))->s'.heap.Ns C m->s'.os=s.os->AllBare s'.gens->H' C=none->s.heap.objs.size<=C->
 Un (frs X.stack) fp H (upd H' Dd (.lst vs)) s.heap s'.heap->HOk X.prog X.w (upd H' Dd (.lst vs)) s'.heap->RR (.ref Dd) C (.ok .next) s'):
  wpAny (model X.prog X.w) X.A (newList []) (λacc s₃=>wpAny (model X.prog X.w) X.A (newFunctionEnv scope X.env.globals (rK X.env scope.names []) [] X.env.qual none .none (some X.env)) (λcenv s₄=>codeAny (model X.prog X.w) X.A (.compStart (.ListComp elt [⟨.Name x px,iter,ifs,0⟩] scope pos) 0 (.ref it) acc { cenv with scope:=relabel scope X.env }) (RR acc cenv.locals) s₄) E s₃) E s:=
 mB (n:=1) (asg:=lP 0) ok.t hcalm (λC s₂ H₂ fp=>fo (X:=cy X N' scope C s₂ H₂ fp) (pos:=px) 0 ok.nd ok.hd (.inl (lookup_relabel_local ok.loc)) (.inr (lookup_relabel_local ok.loc))) vB he ht I T st0 hf st hi h hR
def cE(ok:CompOk X scope x N' ix)(hcalm:X.calm=true)(hi:PIF X (.Name x px) iter gi)(he:∀C s₂ H₂ fp,PF (cy X N' scope C s₂ H₂ fp) elt ge)(ht:∀C s₂ H₂ fp,PTs (cy X N' scope C s₂ H₂ fp) ifs gt)(hs:∀x,foldedSetIterable iter X.env x=pure x:=by intro _;rfl):PFL X (.ListComp elt [⟨.Name x px,iter,ifs,0⟩] scope pos) (fK gi ix gt ge):=by
 intro pins s σ H Q I h;obtain⟨G,ρ,st,h⟩:=h;rw[eval_ListComp];refine wpAny_comprehension_free (use:=none) rfl hs (gP λy hy hy2=>I.ok.has y.1 (.inl (ok.fr y hy hy2))) ok.kind ok.names ?_;have t:tG X (λG J items=>ItOk X.K G J items) gi σ H (λJ H1=>∃G1 items,Up G H G1 H1/\StE X.K G1 H1 σ ρ/\ItOk X.K G1 J items/\(fV gt ge items (iT ix ρ)>>=λds=>if ds.length<=sizeLine then R.ok ds else .no).post (nY X.K G H Q) (Exx X σ G H)):=by
  refine⟨G,ρ,st,?_⟩;unfold fK at h;cases e:gi ρ with
  |ok items=>rw[e]at h;exact λJ G1 H1 u r=>⟨G1,items,u,st.up u,r,h⟩
  |ex C=>rw[e]at h;exact h
  |no=>rw[e]at h;exact h
 refine thn (hi pins s σ H _ I t) λv s1 h1=>thn h1 λitv s2 h2=>?_;obtain⟨it,fp,tn,J,H2,e,I2,T,st2,f2,G2,items,u2,sE2,iok,h2⟩:=h2;subst e;have h2':(fV gt ge items (iT ix ρ)>>=λds=>if ds.length<=sizeLine then R.ok ds else .no).post (nY X.K G2 H2 Q) (Exx X σ G2 H2):=
  h2.mono (λds q l vs G' H' u hl r=>q l vs G' H' (u2.trans u) hl r) λC q=>q.up u2;refine wV (iter:=iter) (pos:=pos) (RR:=λacc C=>compPost (model X.prog X.w) X.A X.xe none (EP X pins σ Q) acc C) ok hcalm he ht I2 T st2 f2 sE2 iok h2' ?_;intro Dd C s' m vs G' H' up hd hCD _ q hm hos hb hC hCl un hok;refine⟨m,hm,λh' hs'=>?_⟩;have I3:=I2.call' (H':=upd H' Dd (.lst vs)) (s':={ s' with heap:=h' }) (ch:=fp) hos (un.sameBut (λb o hbc e=>hs'.extBut b o hbc e) hCl) (hok.sameBut (λb o hbc e=>hs'.extBut b o hbc e) (by rw[am hCD];exact hC)) hb λb hb'=>by
  obtain⟨f0,f1,f2',f3,f4,f5⟩:=f2 b hb';exact⟨f3,f1,f4,f5⟩
 exact⟨.ref Dd,_,I3,rfl,q⟩
end
inductive O where
 |nx (ρ:Ev)|rt (d:D)|re (d:D) (ρ:Ev)|bk (ρ:Ev)|ct (ρ:Ev)|ex (C:Addr) (ρ:Ev)|no
noncomputable def FlyS(X:Cx)(G₀ H₀:Hp)(ρ:Ev)(C:Addr)(e:Value)(s':Shared):Prop:=∃σ H₁ pins s₁ a,e=.ref a/\Inv X pins σ H₁ s₁/\
 ((∃G₁ h' vs,StR X.K G₀ H₀ G₁ H₁ σ ρ/\Heap.MadeExcOf s₁.heap h' a (.ref C) vs/\s'={ s₁ with heap:=h' })\/(∃G' H',E0 X.prog X.w X.stack H₁ s₁ a C H' s'/\StR X.K G₀ H₀ G' H' σ ρ)\/
  ∃G' H' L,X.env.frame=some L/\D7 X pins L H₁ s₁ a C H' s'/\StR X.K G₀ H₀ G' H' σ ρ)
def FlyS.of{H₀ G₁ H₁:Hp}{e:Value}(sr:StR X.K G₀ H₀ G₁ H₁ σ ρ)(f:MR X σ G₁ H₁ C e s'):FlyS X G₀ H₀ ρ C e s':=by
 obtain⟨pins,s₁,a,e,I,way⟩:=f;refine⟨σ,H₁,pins,s₁,a,e,I,?_⟩;rcases way with⟨h',vs,m,z⟩|⟨G',H',fl,u⟩|⟨G',H',L,hL,fl,u⟩;·exact .inl ⟨G₁,h',vs,sr,m,z⟩
 ·exact .inr (.inl ⟨G',H',fl,sr.ups u⟩)
 ·exact .inr (.inr ⟨G',H',L,hL,fl,sr.ups u⟩)
def FlyS.map{A B A' B':Hp}{ρ':Ev}{e:Value}(f:FlyS X A B ρ C e s')(h:∀σ G H,StR X.K A B G H σ ρ->StR X.K A' B' G H σ ρ'):FlyS X A' B' ρ' C e s':=by
 obtain⟨σ,H₁,pins,s₁,a,e,I,way⟩:=f;refine⟨σ,H₁,pins,s₁,a,e,I,?_⟩;rcases way with⟨G₁,h',vs,sr,m,z⟩|⟨G',H',fl,sr⟩|⟨G',H',L,hL,fl,sr⟩;·exact .inl ⟨G₁,h',vs,h _ _ _ sr,m,z⟩
 ·exact .inr (.inl ⟨G',H',fl,h _ _ _ sr⟩)
 ·exact .inr (.inr ⟨G',H',L,hL,fl,h _ _ _ sr⟩)
noncomputable def hU(X:Cx)(G₀ H₀:Hp)(D:Ends)(o:O):Prop:=match o with
 |.nx ρ=>∀σ G H,StR X.K G₀ H₀ G H σ ρ->D.nx σ H
 |.rt d=>∀v G H,Up G₀ H₀ G H->Rep X.K G v d->D.rt v H
 |.re d ρ=>∀v σ G H,StR X.K G₀ H₀ G H σ ρ->Rep X.K G v d->D.rt v H
 |.bk ρ=>∀σ G H,StR X.K G₀ H₀ G H σ ρ->D.bk σ H
 |.ct ρ=>∀σ G H,StR X.K G₀ H₀ G H σ ρ->D.ct σ H
 |.ex C ρ=>∀e s',FlyS X G₀ H₀ ρ C e s'->X.xe e s'
 |.no=>False
noncomputable def tS(X:Cx)(G₀ H₀:Hp)(g:Ev->O):TS:=λD σ H=>∃G ρ,StR X.K G₀ H₀ G H σ ρ/\hU X G₀ H₀ D (g ρ)
noncomputable def PSF(X:Cx)(st:Stmt)(g:Ev->O):Prop:=∀G₀ H₀,PS X st (tS X G₀ H₀ g)
noncomputable def oB(X:Cx)(st:List Stmt)(g:Ev->O):Prop:=∀G₀ H₀,PSs X st (tS X G₀ H₀ g)
noncomputable def R.out{α:Type}(m:R α)(ρ:Ev)(k:α->O):O:=match m with
 |.ok a=>k a
 |.ex C=>.ex C ρ
 |.no=>.no
noncomputable def O.seq(o:O)(k:Ev->O):O:=match o with
 |.nx ρ=>k ρ
 |o=>o
section
variable{cS a b:List Stmt}{e c:Expr}{g g1 g2:Ev->O}{ga:Ev->R D}{gt:Ev->R Bool}
def Exx.of{H₀:Hp}{D:Ends}(sr:StR X.K G₀ H₀ G H σ ρ)(h:hU X G₀ H₀ D (.ex C ρ)):Exx X σ G H C:=λe s' ⟨G1,H1,u,f⟩=>h e s' (.of (sr.ups u) f)
def AX:oB X [] (λρ=>.nx ρ):=λG₀ H₀ pins s σ H D I h=>by
 obtain⟨G,ρ,sr,h⟩:=h
 try dsimp only at h
 exact zM pins s σ H D I (h σ G H sr)
def wT(h1:PSF X st g1)(h2:oB X cS g2):oB X (st::cS) (λρ=>(g1 ρ).seq g2):=λG₀ H₀ pins s σ H D I h=>by
 refine dE (h1 G₀ H₀) (h2 G₀ H₀) pins s σ H D I ?_;obtain⟨G,ρ,sr,h⟩:=h
 try dsimp only at h
 refine⟨G,ρ,sr,?_⟩;cases q:g1 ρ with
 |nx ρ'=>rw[q]at h;exact λσ' G' H' sr'=>⟨G',ρ',sr',h⟩
 |rt d=>rw[q]at h;exact h
 |re d ρ'=>rw[q]at h;exact h
 |bk ρ'=>rw[q]at h;exact h
 |ct ρ'=>rw[q]at h;exact h
 |ex C ρ'=>rw[q]at h;exact h
 |no=>rw[q]at h;exact h
def BN(he:PF X e ga):PSF X (.Return (some e) pos) (λρ=>(ga ρ).out ρ .rt):=λG₀ H₀ pins s σ H D I h=>by
 refine mQ he pins s σ H D I ?_;obtain⟨G,ρ,sr,h⟩:=h
 try dsimp only at h
 refine⟨G,ρ,sr.e,?_⟩;cases q:ga ρ with
 |ok d=>rw[q]at h;exact λv G' H' u r=>h v G' H' (sr.up.trans u) r
 |ex C=>rw[q]at h;exact Exx.of sr h
 |no=>rw[q]at h;exact h
def zh(he:PF X e ga)(hs:swapsWith e none pos.line X.env=pure false:=by rfl):PSF X (.Expr e pos) (λρ=>(ga ρ).out ρ λ_=>.nx ρ):=λG₀ H₀ pins s σ H D I h=>by
 refine gH he hs pins s σ H D I ?_;obtain⟨G,ρ,sr,h⟩:=h
 try dsimp only at h
 refine⟨G,ρ,sr.e,?_⟩;cases q:ga ρ with
 |ok d=>rw[q]at h;exact λv G' H' u r=>h σ G' H' (sr.ups u)
 |ex C=>rw[q]at h;exact Exx.of sr h
 |no=>rw[q]at h;exact h
def ET(hc:PB X c gt)(ha:oB X a g1)(hb:oB X b g2):PSF X (.If c a b pos) (λρ=>(gt ρ).out ρ λk=>if k=true then g1 ρ else g2 ρ):=λG₀ H₀ pins s σ H D I h=>by
 refine Gg hc (ha G₀ H₀) (hb G₀ H₀) pins s σ H D I ?_;obtain⟨G,ρ,sr,h⟩:=h
 try dsimp only at h
 refine⟨G,ρ,sr.e,?_⟩;cases q:gt ρ with
 |ok k=>
  rw[q]at h;intro b' G' H' u r;subst r;cases b' with
  |true=>rw[if_pos rfl];exact⟨G',ρ,sr.ups u,by simpa[R.out]using h⟩
  |false=>rw[if_neg uq];exact⟨G',ρ,sr.ups u,by simpa[R.out]using h⟩
 |ex C=>rw[q]at h;exact Exx.of sr h
 |no=>rw[q]at h;exact h
def Df(he:PF X e ga)(hg:PGF X tg asg)(hs:swapsWithSole [tg] e pos.line X.env=pure false:=by rfl)(hw:swappedStores [tg] e X.env=pure none:=by rfl)(hn:∀d ρ C,asg d ρ≠.ex C:=by intro _ _ _ z;cases z)(h1:(assignEach [tg] X.env).map (·.2)=[assign tg X.env]:=by rfl):PSF X (.Assign [tg] e pos) (λρ=>(ga ρ).out ρ λd=>(asg d ρ).out ρ .nx):=λG₀ H₀ pins s σ H D I h=>by
 refine hW he hg hs hw h1 pins s σ H D I ?_;obtain⟨G,ρ,sr,h⟩:=h
 try dsimp only at h
 refine⟨G,ρ,sr.e,?_⟩;cases q:ga ρ with
 |ok d=>
  rw[q]at h;simp only[R.out]at h;intro v G' H' u r;cases q2:asg d ρ with
  |ok ρ'=>rw[q2]at h;exact⟨G₀,H₀,G',ρ,d,ρ',sr.ups u,r,q2,λσ' sr'=>h σ' G' H' sr'⟩
  |ex C=>exact absurd q2 (hn d ρ C)
  |no=>rw[q2]at h;exact h.elim
 |ex C=>rw[q]at h;exact Exx.of sr h
 |no=>rw[q]at h;exact h
def Bz(i:Nat)(hN:X.N.Nodup)(he:PF X e ga)(hi:X.N[i]?=some x:=by rfl)(hx:Loc X.env.scope x:=by first|exact Or.inl rfl|exact Or.inr rfl)(hs:swapsWithSole [.Name x p] e pos.line X.env=pure false:=by rfl)(hw:swappedStores [.Name x p] e X.env=pure none:=by rfl)(hf:X.fn x=true\/X.env.scope.names.lookup x=some .local:=by first|exact .inl rfl|exact .inr rfl):
  PSF X (.Assign [.Name x p] e pos) (λρ=>(ga ρ).out ρ λd=>.nx (ρ.set i (some (.val d)))):=Df he (fo i hN hi hx hf) hs hw
def StR.setOwn{K:PySem.W.Frag}{H₀:Hp}(s:StR K G₀ H₀ G H σ ρ){l:Addr}(hl:H l=none)(r:Reps K G vs ds)(i:Nat):
  StR K G₀ H₀ G (upd H l (.lst vs)) (σ.set i (some (.ref l))) (ρ.set i (some (.own ds))):=by
 have gl:G l=none:=s.e.sub.free hl;have sub:Same G (upd H l (.lst vs)):=λa o e=>by rw[am (aC e gl)];exact s.e.sub a o e
 have get:∀(j:Nat) x,(ρ.set i (some (.own ds)))[j]?=some (some x)->(j=i/\x=.own ds/\i<σ.length)\/(j≠i/\ρ[j]?=some (some x)/\(σ.set i (some (.ref l)))[j]?=σ[j]?):=λj x h=>by
  by_cases e:i=j
  ·subst e;have hl:i<ρ.length:=by have:=(u8.mp h).1;simpa using this
   rw[uu hl]at h;exact .inl ⟨rfl,by injection (xV h)with q;exact q.symm,by rw[s.e.len];exact hl⟩
  ·rw[t6 e]at h;exact .inr ⟨λz=>e z.symm,h,t6 e⟩
 have ob:ObSt K H₀ G (upd H l (.lst vs)) (σ.set i (some (.ref l))) (ρ.set i (some (.own ds))):=by
  obtain⟨ow,o1,o2⟩:=s.ob;have nl:∀{a:Addr}{o:HO},H a=some o->a≠l:=λe z=>by rw[z,hl]at e;cases e
  refine⟨λa=>if a=l then some (i,0)else ow a,λj es l' h1 h2=>?_,λj m C p fs h1=>?_⟩
  ·rcases get j _ h1 with⟨rfl,e,hj⟩|⟨_,e,e'⟩;·rw[uu hj]at h2;cases h2;exact if_pos rfl
   ·rw[e']at h2;obtain⟨l2,vs2,q1,q2,_⟩:=s.own j es e;rw[h2]at q1;cases q1;exact(if_neg (nl q2)).trans (o1 j es l' e h2)
  ·rcases get j _ h1 with⟨_,e,_⟩|⟨_,e,e'⟩;·cases e
   ·rw[e'];refine⟨(o2 j m C p fs e).1,(o2 j m C p fs e).2.keep ⟨λa t o _ q=>?_,.refl _,λa t o _ _ n=>n,λa t o q1 q2=>?_,λa o _ _ n=>n⟩⟩;·rw[am (nl q)];exact q
    ·exact(if_neg (nl q2)).trans q1
 refine⟨⟨sub,by simp[s.e.len],λj d' h=>?_,ob.rd⟩,s.sub0,⟨sub,s.up.gg,λa o e=>?_,s.up.fr⟩,λj es h=>?_,λj k es fs l' h1 h2 h3 h4=>?_,ob⟩
 ·rcases get j _ h with⟨_,e,_⟩|⟨_,e,e'⟩;·cases e
  ·rw[e'];exact s.e.val j d' e
 ·rw[am (aC (s.up.hh a o e) hl)];exact s.up.hh a o e
 ·rcases get j _ h with⟨rfl,e,hj⟩|⟨_,e,e'⟩;·cases e;exact⟨l,vs,uu hj,az,gl,s.up.hh.free hl,r⟩
  ·obtain⟨l',vs',h1,h2,h3,h4,h5⟩:=s.own j es e;exact⟨l',vs',by rw[e'];exact h1,by rw[am (aC h2 hl)];exact h2,h3,h4,h5⟩
 ·rcases get j _ h1 with⟨rfl,e,hj⟩|⟨nj,e,e'⟩
  ·rcases get k _ h2 with⟨rfl,f,_⟩|⟨nk,f,f'⟩;·rfl
   ·obtain⟨l2,vs2,q1,q2,_⟩:=s.own k fs f;rw[uu hj]at h3;rw[f',q1]at h4;cases h3;cases h4;rw[hl]at q2;cases q2
  ·rcases get k _ h2 with⟨rfl,f,hk⟩|⟨nk,f,f'⟩;·obtain⟨l2,vs2,q1,q2,_⟩:=s.own j es e;rw[uu hk]at h4;rw[e',q1]at h3;cases h3;cases h4;rw[hl]at q2;cases q2
   ·exact s.inj j k es fs l' e f (e'▸h3) (f'▸h4)
def Dp(i:Nat)(hN:X.N.Nodup)(he:PFL X e gl)(hi:X.N[i]?=some x:=by rfl)(hx:Loc X.env.scope x:=by first|exact Or.inl rfl|exact Or.inr rfl)(hs:swapsWithSole [.Name x p] e pos.line X.env=pure false:=by rfl)(hw:swappedStores [.Name x p] e X.env=pure none:=by rfl)(hf:X.fn x=true\/X.env.scope.names.lookup x=some .local:=by first|exact .inl rfl|exact .inr rfl):
  PSF X (.Assign [.Name x p] e pos) (λρ=>(gl ρ).out ρ λds=>.nx (ρ.set i (some (.own ds)))):=λG₀ H₀ pins s σ H D I h=>by
 refine hW he (dP (i:=i) hN hi hx hf) hs hw rfl pins s σ H D I ?_;obtain⟨G,ρ,sr,h⟩:=h
 try dsimp only at h
 refine⟨G,ρ,sr.e,?_⟩;cases q:gl ρ with
 |ok ds=>rw[q]at h;exact λl vs G' H' u hl r=>h _ G' _ ((sr.ups u).setOwn hl r i)
 |ex C=>rw[q]at h;exact Exx.of sr h
 |no=>rw[q]at h;exact h
def StR.mut{K:PySem.W.Frag}{H₀:Hp}(s:StR K G₀ H₀ G H σ ρ){l:Addr}{es:List D}(e:ρ[i]?=some (some (.own ds)))(hs:σ[i]?=some (some (.ref l)))(r:Reps K G vs es):
  StR K G₀ H₀ G (upd H l (.lst vs)) σ (ρ.set i (some (.own es))):=by
 obtain⟨l0,vs0,h1,h2,h3,h4,h5⟩:=s.own i ds e;rw[hs]at h1;cases h1;have sub:Same G (upd H l (.lst vs)):=λa o e=>by rw[am (aC e h3)];exact s.e.sub a o e
 have hl:i<ρ.length:=(u8.mp e).1;have get:∀(j:Nat) x,(ρ.set i (some (.own es)))[j]?=some (some x)->(j=i/\x=.own es)\/(j≠i/\ρ[j]?=some (some x)):=λj x h=>by
  by_cases e:i=j;·subst e;rw[uu hl]at h;exact .inl ⟨rfl,by injection (xV h)with q;exact q.symm⟩
  ·rw[t6 e]at h;exact .inr ⟨λz=>e z.symm,h⟩
 have ob:ObSt K H₀ G (upd H l (.lst vs)) σ (ρ.set i (some (.own es))):=by
  obtain⟨ow,o1,o2⟩:=s.ob;have ol:=o1 i ds l e hs;refine⟨ow,λj fs l' q1 q2=>?_,λj m C p fs q1=>?_⟩
  ·rcases get j _ q1 with⟨rfl,_⟩|⟨nj,f1⟩;·exact o1 j ds l' e q2
   ·exact o1 j fs l' f1 q2
  ·rcases get j _ q1 with⟨_,e'⟩|⟨nj,f1⟩;·cases e'
   ·have ne:∀a t,ow a=some (j,t)->a≠l:=λa t q z=>by rw[z,ol]at q;cases q;exact nj rfl
    refine⟨(o2 j m C p fs f1).1,(o2 j m C p fs f1).2.keep ⟨λa t o q1 q=>?_,.refl _,λa t o _ _ n=>n,λa t o q1 _=>q1,λa o _ _ n=>n⟩⟩;·rw[am (ne a t q1)];exact q
 refine⟨⟨sub,by simp[s.e.len],λj d' h=>?_,ob.rd⟩,s.sub0,⟨sub,s.up.gg,λa o e=>?_,s.up.fr⟩,λj fs h=>?_,λj k fs gs l' q1 q2 q3 q4=>?_,ob⟩
 ·rcases get j _ h with⟨_,e⟩|⟨_,e⟩;·cases e
  ·exact s.e.val j d' e
 ·rw[am (aC e h4)];exact s.up.hh a o e
 ·rcases get j _ h with⟨rfl,e'⟩|⟨nj,e'⟩;·cases e';exact⟨l,vs,hs,az,h3,h4,r⟩
  ·obtain⟨l',vs',p1,p2,p3,p4,p5⟩:=s.own j fs e';have:l'≠l:=λz=>by subst z;exact nj (s.inj j i fs ds l' e' e p1 hs)
   exact⟨l',vs',p1,by rw[am this];exact p2,p3,p4,p5⟩
 ·rcases get j _ q1 with⟨rfl,_⟩|⟨nj,f1⟩
  ·rcases get k _ q2 with⟨rfl,_⟩|⟨nk,f2⟩;·rfl
   ·exact s.inj j k ds gs l' e f2 q3 q4
  ·rcases get k _ q2 with⟨rfl,_⟩|⟨nk,f2⟩;·exact s.inj j k fs ds l' f1 e q3 q4
   ·exact s.inj j k fs gs l' f1 f2 q3 q4
noncomputable def frz(i:Nat)(ρ:Ev):Ev:=match ρ[i]? with
 |some (some (.own ds))=>ρ.set i (some (.val (.lst false ds)))
 |_=>ρ
def StR.frzTo{K:PySem.W.Frag}{H₀:Hp}(s:StR K G₀ H₀ G H σ ρ)(i:Nat):∃G',StR K G₀ H₀ G' H σ (L2.frz i ρ)/\(G'=G\/∃l vs,G l=none/\G'=upd G l (.lst vs)):=by
 unfold L2.frz;split
 ·rename_i ds e;obtain⟨l,vs,h1,h2,h3,h4,h5⟩:=s.own i ds e;have hl:i<ρ.length:=(u8.mp e).1;have g0:G₀ l=none:=s.sub0.free h4;have into:Same G (upd G l (.lst vs)):=.into h3;have sub:Same (upd G l (.lst vs)) H:=λa o q=>by
   by_cases ea:a=l;·subst ea;rw[az]at q;rw[<- q];exact h2
   ·rw[am ea]at q;exact s.e.sub a o q
  have get:∀(j:Nat) x,(ρ.set i (some (.val (.lst false ds))))[j]?=some (some x)->(j=i/\x=.val (.lst false ds))\/(j≠i/\ρ[j]?=some (some x)):=λj x h=>by
   by_cases e:i=j;·subst e;rw[uu hl]at h;exact .inl ⟨rfl,by injection (xV h)with q;exact q.symm⟩
   ·rw[t6 e]at h;exact .inr ⟨λz=>e z.symm,h⟩
  have ob:ObSt K H₀ (upd G l (.lst vs)) H σ (ρ.set i (some (.val (.lst false ds)))):=by
   obtain⟨ow,o1,o2⟩:=s.ob;have ol:=o1 i ds l e h1;refine⟨ow,λj fs l' q1 q2=>?_,λj m C p fs q1=>?_⟩
   ·rcases get j _ q1 with⟨_,e'⟩|⟨nj,f1⟩;·cases e'
    ·exact o1 j fs l' f1 q2
   ·rcases get j _ q1 with⟨_,e'⟩|⟨nj,f1⟩;·cases e'
    ·have ne:∀a t,ow a=some (j,t)->a≠l:=λa t q z=>by rw[z,ol]at q;cases q;exact nj rfl
     refine⟨(o2 j m C p fs f1).1,(o2 j m C p fs f1).2.keep ⟨λa t o _ q=>q,into,λa t o q1 _ n=>?_,λa t o q1 _=>q1,λa o _ _ n=>n⟩⟩;·rw[am (ne a t q1)];exact n
  refine⟨upd G l (.lst vs),⟨⟨sub,by simp[s.e.len],λj d' h=>?_,ob.rd⟩,s.sub0,⟨sub,s.up.gg.trans into,s.up.hh,λa o q=>?_⟩,λj fs h=>?_,λj k fs gs l' q1 q2 q3 q4=>?_,ob⟩,.inr ⟨l,vs,h3,rfl⟩⟩
  ·rcases get j _ h with⟨rfl,e'⟩|⟨_,e'⟩;·cases e';exact⟨.ref l,h1,.lst az (h5.mono into)⟩
   ·obtain⟨v,p1,p2⟩:=s.e.val j d' e';exact⟨v,p1,p2.mono into⟩
  ·by_cases ea:a=l;·subst ea;exact .inr h4
   ·rw[am ea]at q;exact s.up.fr a o q
  ·rcases get j _ h with⟨_,e'⟩|⟨nj,e'⟩;·cases e'
   ·obtain⟨l',vs',p1,p2,p3,p4,p5⟩:=s.own j fs e';have:l'≠l:=λz=>by subst z;exact nj (s.inj j i fs ds l' e' e p1 h1)
    exact⟨l',vs',p1,p2,by rw[am this];exact p3,p4,p5.mono into⟩
  ·rcases get j _ q1 with⟨_,e'⟩|⟨nj,f1⟩;·cases e'
   ·rcases get k _ q2 with⟨_,e'⟩|⟨nk,f2⟩;·cases e'
    ·exact s.inj j k fs gs l' f1 f2 q3 q4
 ·exact⟨G,s,.inl rfl⟩
def StR.frz{K:PySem.W.Frag}{H₀:Hp}(s:StR K G₀ H₀ G H σ ρ)(i:Nat):∃G',StR K G₀ H₀ G' H σ (L2.frz i ρ):=
 let⟨G',h,_⟩:=s.frzTo i;⟨G',h⟩
def AN{sts:List Stmt}(i:Nat)(h:oB X sts g):oB X sts (λρ=>g (frz i ρ)):=λG₀ H₀ pins s σ H D I q=>by obtain⟨G,ρ,sr,q⟩:=q;obtain⟨G',sr'⟩:=sr.frz i;exact h G₀ H₀ pins s σ H D I ⟨G',_,sr',q⟩
noncomputable def ownAt(ρ:Ev)(i:Nat):R (List D):=match ρ[i]? with
 |some (some (.own ds))=>.ok ds
 |_=>.no
def ownAt.ok{k:List D->O}{D:Ends}{H₀:Hp}(h:hU X G₀ H₀ D ((ownAt ρ i).out ρ k)):∃ds,ρ[i]?=some (some (.own ds))/\hU X G₀ H₀ D (k ds):=by
 unfold ownAt at h;split at h;·rename_i ds e;exact⟨ds,e,h⟩
 ·exact h.elim
def vt(i:Nat){ap cp:Pos}(he:PF X e ga)(hi:X.N[i]?=some x:=by rfl)(hv:Vis X.env.scope x:=by first|exact Or.inl rfl|exact Or.inr (Or.inl rfl))(hd:(x==("__debug__":Str))=false:=by decide)(hcd:(x==("__classdict__":Str))=false:=by decide)(hs1:starEach [e] X.env=(false,eval e X.env)::starEach [] X.env:=by rfl)(hbase:attributeBase (.Name x p) "append" X.env (eval (.Name x p) X.env)=eval (.Name x p) X.env:=by rfl)(hfew:((backTo cp (starEach [e] X.env)).all (λx=>!x.1) && (backToKw cp (keywordEach [] X.env)).all (λx=>x.1.isSome)
 && decide ([e].length+([]:List Keyword).length+(if ([]:List Keyword).isEmpty then 0 else 1)<30))=true:=by rfl)(hline:(ap.endLine==cp.line)=true:=by rfl)(hs:swapsWith (.Call (.Attribute (.Name x p) "append" ap) [e] [] cp) none pos.line X.env=pure false:=by rfl):
  PSF X (.Expr (.Call (.Attribute (.Name x p) "append" ap) [e] [] cp) pos) (λρ=>(ownAt ρ i).out ρ λds=>(ga ρ).out ρ λd=>if ds.length<sizeLine then .nx (ρ.set i (some (.own (ds++[d]))))else .no):=λG₀ H₀ pins s σ H D I h=>by
 refine gH (xv j9 Zg Zh jy (cK hi hv hd hcd) (bE he eJ hs1) hbase hfew hline hs1 rfl) hs pins s σ H D I ?_;obtain⟨G,ρ,sr,h⟩:=h
 try dsimp only at h
 obtain⟨ds,e1,h⟩:=ownAt.ok h;obtain⟨l,vs,h1,h2,h3,h4,h5⟩:=sr.own i ds e1;refine⟨.ref l,h1,.inl ⟨rfl,vs,.of h2⟩,G,ρ,sr.e,?_⟩;cases q:ga ρ with
 |ok d=>
  rw[q]at h;simp only[R.out]at h;intro v G' H' u r;by_cases hz:ds.length<sizeLine;·rw[if_pos hz]at h;refine⟨l,vs,v,rfl,rfl,u.hh _ _ h2,by rw[h5.length];exact hz,h _ G' _ ?_⟩;exact(sr.ups u).mut e1 h1 ((h5.mono u.gg).append (.cons r .nil))
  ·rw[if_neg hz]at h;exact h.elim
 |ex C=>rw[q]at h;exact Exx.of sr h
 |no=>rw[q]at h;exact h
noncomputable def asL:D->R (List D)
 |.lst false xs=>.ok xs
 |_=>.no
def uN(i:Nat){ap cp:Pos}(he:PF X e ga)(hi:X.N[i]?=some x:=by rfl)(hv:Vis X.env.scope x:=by first|exact Or.inl rfl|exact Or.inr (Or.inl rfl))(hd:(x==("__debug__":Str))=false:=by decide)(hcd:(x==("__classdict__":Str))=false:=by decide)(hs1:starEach [e] X.env=(false,eval e X.env)::starEach [] X.env:=by rfl)(hbase:attributeBase (.Name x p) "extend" X.env (eval (.Name x p) X.env)=eval (.Name x p) X.env:=by rfl)(hfew:((backTo cp (starEach [e] X.env)).all (λx=>!x.1) && (backToKw cp (keywordEach [] X.env)).all (λx=>x.1.isSome)
 && decide ([e].length+([]:List Keyword).length+(if ([]:List Keyword).isEmpty then 0 else 1)<30))=true:=by rfl)(hline:(ap.endLine==cp.line)=true:=by rfl)(hs:swapsWith (.Call (.Attribute (.Name x p) "extend" ap) [e] [] cp) none pos.line X.env=pure false:=by rfl):
  PSF X (.Expr (.Call (.Attribute (.Name x p) "extend" ap) [e] [] cp) pos) (λρ=>(ownAt ρ i).out ρ λds=>(ga ρ).out ρ λd=>(asL d).out ρ λes=>if ds.length+es.length<=sizeLine then .nx (ρ.set i (some (.own (ds++es))))else .no):=λG₀ H₀ pins s σ H D I h=>by
 refine gH (xv j9 PySem.F.slot_list_extend PySem.F.type_list_extend Ac (cK hi hv hd hcd) (bE he eJ hs1) hbase hfew hline hs1 rfl) hs pins s σ H D I ?_;obtain⟨G,ρ,sr,h⟩:=h
 try dsimp only at h
 obtain⟨ds,e1,h⟩:=ownAt.ok h;obtain⟨l,vs,h1,h2,h3,h4,h5⟩:=sr.own i ds e1;refine⟨.ref l,h1,.inl ⟨rfl,vs,.of h2⟩,G,ρ,sr.e,?_⟩;cases q:ga ρ with
 |ok d=>
  rw[q]at h;simp only[R.out]at h;intro v G' H' u r;cases r with
  |lst hb t=>
   rename_i b ws es;have h:hU X G₀ H₀ D (if ds.length+es.length<=sizeLine then .nx (ρ.set i (some (.own (ds++es))))else .no):=h;by_cases hz:ds.length+es.length<=sizeLine;·rw[if_pos hz]at h;refine⟨l,b,vs,ws,rfl,rfl,u.hh _ _ h2,u.sub _ _ hb,by rw[h5.length,t.length];exact hz,h _ G' _ ?_⟩;exact(sr.ups u).mut e1 h1 ((h5.mono u.gg).append t)
   ·rw[if_neg hz]at h;exact h.elim
  |_=>exact h.elim
 |ex C=>rw[q]at h;exact Exx.of sr h
 |no=>rw[q]at h;exact h
noncomputable def da(asg:D->Ev->R Ev)(g:Ev->O):List D->Ev->O
 | [],ρ=>.nx ρ
 |d::ds,ρ=>(asg d ρ).out ρ λρ1=>match g ρ1 with
  |.nx ρ2=>da asg g ds ρ2
  |.ct ρ2=>da asg g ds ρ2
  |.bk ρ2=>.nx ρ2
  |.rt d=>.rt d
  |.re d ρ2=>.re d ρ2
  |.ex C ρ2=>.ex C ρ2
  |.no=>.no
noncomputable def mix(H₀ G₁:Hp):Hp:=λa=>match G₁ a with
 |some o=>some o
 |none=>H₀ a
def qf{H₀ G₁:Hp}{a:Addr}(h:mix H₀ G₁ a=none):G₁ a=none/\H₀ a=none:=by
 unfold mix at h;cases q:G₁ a with
 |none=>rw[q]at h;exact⟨rfl,h⟩
 |some o=>rw[q]at h;cases h
section
variable{K:PySem.W.Frag}{H₀ G₁ H₁:Hp}
def StR.to(s:StR K G₀ H₀ G₁ H₁ σ ρ):StR K G₁ (mix H₀ G₁) G₁ H₁ σ ρ:=by
 refine⟨s.e,λa o e=>?_,⟨s.e.sub,.refl _,λa o e=>?_,λ_ _ e=>.inl e⟩,λi ds e=>?_,s.inj,?_⟩;·unfold mix;rw[e]
 ·unfold mix at e;cases q:G₁ a with
  |none=>rw[q]at e;exact s.up.hh a o e
  |some o'=>rw[q]at e;cases e;exact s.e.sub a o q
 ·obtain⟨l,vs,h1,h2,h3,h4,h5⟩:=s.own i ds e;exact⟨l,vs,h1,h2,h3,by unfold mix;rw[h3];exact h4,h5⟩
 ·obtain⟨ow,o1,o2⟩:=s.ob;exact⟨ow,o1,λi m C p fs e=>⟨(o2 i m C p fs e).1,(o2 i m C p fs e).2.keep ⟨λa t o _ q=>q,.refl _,λa t o _ _ n=>n,λa t o q1 _=>q1,λa o _ g n=>by unfold mix;rw[g];exact n⟩⟩⟩
def Up.back(u:Up G₀ H₀ G₁ H₁)(v:Up G₁ (mix H₀ G₁) G H):Up G₀ H₀ G H:=by
 refine⟨v.sub,u.gg.trans v.gg,λa o e=>?_,λa o e=>?_⟩
 ·cases q:G₁ a with
  |none=>exact v.hh a o (by unfold mix;rw[q];exact e)
  |some o'=>have h1:=u.sub a o' q;have h2:=u.hh a o e;rw[h1]at h2;cases h2;exact v.hh a o (by unfold mix;rw[q])
 ·rcases v.fr a o e with h|h;·exact u.fr a o h
  ·exact .inr (qf h).2
def StR.back(s0:Same G₀ H₀)(u:Up G₀ H₀ G₁ H₁)(s:StR K G₁ (mix H₀ G₁) G H σ ρ):StR K G₀ H₀ G H σ ρ:=
 ⟨s.e,s0,u.back s.up,λi ds e=>let⟨l,vs,h1,h2,h3,h4,h5⟩:=s.own i ds e;⟨l,vs,h1,h2,h3,(qf h4).2,h5⟩,s.inj,by
 obtain⟨ow,o1,o2⟩:=s.ob;exact⟨ow,o1,λi m C p fs e=>⟨(o2 i m C p fs e).1,(o2 i m C p fs e).2.keep ⟨λa t o _ q=>q,.refl _,λa t o _ _ n=>n,λa t o q1 _=>q1,λa o _ _ n=>(qf n).2⟩⟩⟩⟩
end
def Cd(hp:PassesOwn (model X.prog X.w) X.A X.env X.xe)(hcalm:X.calm=true)(hi:PIF X tg iter gi)(hg:PGF X tg asg)(hb:oB X body g)(hs:∀x,foldedSetIterable iter X.env x=pure x:=by intro _;rfl)(hn:∀d ρ C,asg d ρ≠.ex C:=by intro _ _ _ z;cases z):PSF X (.For tg iter body [] pos) (λρ=>(gi ρ).out ρ λitems=>da asg g items ρ):=λG₀ H₀ pins s σ H D I h=>by
 obtain⟨G,ρ,sr,h⟩:=h
 try dsimp only at h
 cases q:gi ρ with
 |ok items=>
  rw[q]at h;simp only[R.out]at h;have key:∀(J:It)(G1 H1:Hp),Up G H G1 H1->ItOk X.K G1 J items->∃W:Nat->Nat->St->Hp->Prop,(∃m,W 0 m σ H1)/\∀i m σ H,W i m σ H->
    (J.stop i H/\D.nx σ H)\/(J.go i H/\∃N:St->Hp->Prop,(∀σ' H',N σ' H'->∃m',m'<m/\W (i+1) m' σ' H')/\∀x H',J.yld i H x H'->(λv σ H Q=>∃G₀ H₀ G ρ d ρ',StR X.K G₀ H₀ G H σ ρ/\Rep X.K G v d/\asg d ρ=.ok ρ'/\∀σ',StR X.K G₀ H₀ G H σ' ρ'->Q σ' H) x σ H' λσ2 H2=>(λD σ H=>∃G₀ H₀,tS X G₀ H₀ g D σ H) { D with nx:=N,ct:=N,bk:=D.nx } σ2 H2):=by
   intro J G1 H1 u1 iok;have sr1:=sr.ups u1;refine⟨λi m σ' H'=>m=items.length - i/\i<=items.length/\∃G' ρ',StR X.K G1 (mix H₀ G1) G' H' σ' ρ'/\hU X G₀ H₀ D (da asg g (items.drop i) ρ'),⟨items.length,by simp,v8 _,G1,ρ,sr1.to,by simpa using h⟩,?_⟩;rintro i m σ' H' ⟨rfl,hil,G',ρ',sr',h'⟩;have hIt:=iok i G' H' sr'.up.gg sr'.e.sub;by_cases hlt:i<items.length
   ·have hd:items.drop i=items[i]::items.drop (i+1):=Ze hlt;rw[hd]at h';obtain⟨go,yl⟩:=hIt.1 items[i] (by simp[hlt]);refine .inr ⟨go,λσ2 H2=>i+1<=items.length/\∃G2 ρ2,StR X.K G1 (mix H₀ G1) G2 H2 σ2 ρ2/\hU X G₀ H₀ D (da asg g (items.drop (i+1)) ρ2),λσ2 H2 q2=>⟨items.length - (i+1),by omega,rfl,q2⟩,λx H2 y=>?_⟩;obtain⟨G2,up2,rep2⟩:=yl x H2 y;unfold da at h';cases q2:asg items[i] ρ' with
    |ok ρ1=>
     rw[q2]at h';simp only[R.out]at h';refine⟨G1,mix H₀ G1,G2,ρ',items[i],ρ1,sr'.ups up2,rep2,q2,λσ3 sr3=>⟨G1,mix H₀ G1,G2,ρ1,sr3,?_⟩⟩;cases q3:g ρ1 with
     |nx ρ2=>rw[q3]at h';exact λσ4 G4 H4 sr4=>⟨hlt,G4,ρ2,sr4,h'⟩
     |ct ρ2=>rw[q3]at h';exact λσ4 G4 H4 sr4=>⟨hlt,G4,ρ2,sr4,h'⟩
     |bk ρ2=>rw[q3]at h';exact λσ4 G4 H4 sr4=>h' σ4 G4 H4 (sr4.back sr.sub0 sr1.up)
     |rt d=>rw[q3]at h';exact λv G4 H4 u4 r4=>h' v G4 H4 (sr1.up.back u4) r4
     |re d ρ2=>rw[q3]at h';exact λv σ4 G4 H4 sr4 r4=>h' v σ4 G4 H4 (sr4.back sr.sub0 sr1.up) r4
     |ex C ρ2=>rw[q3]at h';exact λe s' f4=>h' e s' (f4.map λσ4 G4 H4 sr4=>sr4.back sr.sub0 sr1.up)
     |no=>rw[q3]at h';exact h'
    |ex C=>exact absurd q2 (hn _ _ C)
    |no=>rw[q2]at h';exact h'.elim
   ·have hie:i=items.length:=by omega
    subst hie;rw[Zf]at h';exact .inl ⟨hIt.2 (yh _),h' σ' G' H' (sr'.back sr.sub0 sr1.up)⟩
  have hb':PSs X body (λD σ H=>∃G₀ H₀,tS X G₀ H₀ g D σ H):=λpins s σ H D I ⟨G₀,H₀,q⟩=>hb G₀ H₀ pins s σ H D I q;refine Ec hp hcalm hi hg hb' hs pins s σ H D I ⟨G,ρ,sr.e,?_⟩;rw[q];exact λJ G1 H1 u1 iok=>key J G1 H1 u1 iok
 |ex C=>rw[q]at h;have hb':PSs X body (λD σ H=>∃G₀ H₀,tS X G₀ H₀ g D σ H):=λpins s σ H D I ⟨G₀,H₀,q⟩=>hb G₀ H₀ pins s σ H D I q;refine Ec hp hcalm hi hg hb' hs pins s σ H D I ⟨G,ρ,sr.e,?_⟩;rw[q];exact Exx.of sr h
 |no=>rw[q]at h;exact h.elim
end
noncomputable def spF(K:PySem.W.Frag)(f:List D->R D):Sp:=λvs H Q E=>∃G ds,Same G H/\Reps K G vs ds/\(f ds).post (Fin G H (Rep K) Q) (λC=>∀G' H',Up G H G' H'->E (.ref C) none H')
noncomputable abbrev FnF(P:Program)(w:World)(K:PySem.W.Frag)(mg:Str->Option Value)(base:Heap)(k:Nat)(f:Addr)(fd:FuncData)(ps:List Str)(g:List D->R D):Prop:=FnOk P w K mg base (CXo P w) k f fd ps (λvs H Q E=>vs.length=ps.length/\spF K g vs H Q E)
section
variable{e:Expr}{g:List D->R D}
def Eu(F:FnF X.prog X.w X.K X.mg X.base k f fd ps g)(hr:Room k X.A)(hg:Gl X x)(hm:X.mg x=some (.ref f))(hk:PySem.W.keepIn X.K (.ref f)=true)(hb:Binds X.K fd ps [])(ha:PFA X (e::es) gl)(hdb:(x==("__debug__":Str))=false:=by decide)(he:starEach (e::es) X.env=(false,eval e X.env)::starEach es X.env:=by rfl)(hpl:(backTo pos (starEach es X.env)).any (·.1)=false:=by rfl):
  PF X (.Call (.Name x p) (e::es) [] pos) (λρ=>gl ρ>>=λds=>if ds.length=ps.length then g ds else .no):=by
 intro pins s σ H Q I h;obtain⟨G,ρ,st,h⟩:=h;have t:tAF X gl σ H (λvs H1=>∃G1 ds,Up G H G1 H1/\Same G1 H1/\Reps X.K G1 vs ds/\ds.length=ps.length/\(g ds).post (Fin G1 H1 (Rep X.K) Q) (Exx X σ G1 H1)):=by
  refine tG.intro st h λds vs G1 H1 u1 st1 r1 h1=>?_;by_cases hl:ds.length=ps.length;·rw[if_pos hl]at h1;exact⟨G1,ds,u1,st1.sub,r1,hl,h1⟩
  ·rw[if_neg hl]at h1;exact h1.elim
 refine qk (iX I hg hm ?_ hdb);refine l4 (h₀:=X.base) I.ok.mod.kin hk (thn (ha pos pins s σ H _ I t) λus s1 q=>⟨?_,?_⟩) he hpl;·obtain⟨vs,H1,I1,r,_⟩:=q;exact I1.kIn
 obtain⟨vs,H1,I1,r,G1,ds,u1,sub1,rp,hl,h1⟩:=q;have hvl:vs.length=ps.length:=by rw[rp.length];exact hl
 have hul:(us++[]).length=ps.length:=by rw[t7,<- r.length];exact hvl
 have hbb:=hb s1 us I1.kIn hul;rw[t7]at hbb;refine l5 (qE (F.run X.A X.stack s1 H1 ⟨us,[]⟩ us vs Q (λc _ H'=>∃C G',c=.ref C/\Up G1 H1 G' H'/\Exx X σ G1 H1 C) hr I1.env0 hbb r ⟨hvl,G1,ds,sub1,rp,h1.mono (λ_ q=>q) λC q G' H' u=>⟨C,G',rfl,u,q⟩⟩) λr' s' hq=>?_);cases r' with
 |error e'=>obtain⟨a,C,H',rfl,fl,C',G',ec,u,q⟩:=hq;cases ec;exact q _ _ ⟨G1,H1,.refl sub1,pins,s1,a,rfl,I1,.inr (.inl ⟨G',H',fl,u⟩)⟩
 |ok fl=>
  cases fl with
  |ret u=>exact I1.after hq
  |_=>exact False.elim hq
end
def ObjOk.there{w:World}{o:HO}(x:ObjOk P w H h a o):∃ob,h.get? a=some ob:=by
 cases o with
 |lst xs=>obtain⟨_,_,_,_,e⟩:=x;exact⟨_,e⟩
 |tup xs=>obtain⟨_,_,_,o,e,_⟩:=x;exact⟨_,e⟩
 |dK kvs=>obtain⟨_,_,_,_,o,_,_,e,_⟩:=x;exact⟨_,e⟩
 |dT kvs=>obtain⟨_,_,_,_,o,_,_,e,_⟩:=x;exact⟨_,e⟩
 |set S n=>obtain⟨o,_,_,_,e,_⟩:=x;exact⟨_,e⟩
 |ins C dx fs=>obtain⟨_,_,_,e,_⟩:=x;exact⟨_,e⟩
 |own y=>obtain⟨_,e⟩:=x;exact⟨_,e⟩
 |xd fs=>obtain⟨_,⟨_,_,_,e,_⟩,_⟩:=x;exact⟨_,e⟩
 |rng lo hi=>obtain⟨_,_,_,e⟩:=x;exact⟨_,e⟩
 |frz ob u=>obtain⟨e,_⟩:=x;exact⟨_,e⟩
 |tbl ps=>obtain⟨_,e,_⟩:=x;exact⟨_,e⟩
 |met f y=>exact⟨_,show h.get? a=some _ from x⟩
 |ext φ=>obtain⟨_,⟨_,e⟩,_⟩:=x;exact⟨_,e⟩
def CO{env:Env}{outer:List Env}{L:Addr}(h:env.frame=some L):frs (env::outer)=L::frs outer:=by unfold frs;rw[aT,h]
section
variable{w:World}{h1 h2 hm:Heap}{l l':List Addr}{B:Heap}
def HOk.flight(x:HOk P w H' h1)(hb:B.StaysIn h2)(hk:∀b o,b∉l->((∃o0,hm.get? b=some o0)\/∃u,H' b=some u)->h1.get? b=some o->B.get? b=some o)(hl:∀b∈l,H' b=none):HOk P w H' h2:=λa o e=>by
 refine(x a o e).stay (λb u hbb q=>hb b u (hk b u (λz=>?_) (.inr ?_) q)) (λ_ z=>z) (λ_ _ z=>z)
 ·rcases hbb with rfl|hbb;·rw[hl _ z]at e;cases e
  ·rw[hl _ z]at hbb;cases hbb
 ·rcases hbb with rfl|hbb;·exact⟨_,e⟩
  ·exact⟨_,hbb⟩
def Un.flight{ex:List Addr}(u:Un l' ex H H' h h1)(hb:B.StaysIn h2)(sm:h1.UpToSlots h2)(hk:∀b o,b∉l->((∃o0,hm.get? b=some o0)\/∃u,H' b=some u)->h1.get? b=some o->B.get? b=some o)(lt:∀b o,h.get? b=some o->∃o0,hm.get? b=some o0)(hl:∀b∈l,b∈l'\/h.objs.size<=b)(hd:∀b∈l,∀o,h1.get? b=some o->∀vs,o.data≠.fields vs):Un l' ex H H' h h2:=by
 refine⟨λb o e nn hb' hx=>?_,λb o e nn hb' hx=>?_,u.free,λb o e hx=>?_,u.tups,u.frzs,u.tbls⟩
 ·have q:=u.keep b o e nn hb' hx;refine hb b o (hk b o (λz=>?_) (.inl (lt b o e)) q);rcases hl b z with z|z;·exact hb' z
  ·exact absurd (xh e) (rX.mpr z)
 ·obtain⟨sl,q⟩:=u.slot b o e nn hb' hx;by_cases z:b∈l;·obtain⟨sl',q'⟩:=sm b _ q (hd b z _ q);exact⟨sl',q'⟩
  ·exact⟨sl,hb b _ (hk b _ z (.inl (lt b o e)) q)⟩
 ·obtain⟨o',q⟩:=u.there b o e hx;by_cases z:b∈l;·obtain⟨sl',q'⟩:=sm b _ q (hd b z _ q);exact⟨_,q'⟩
  ·exact⟨o',hb b _ (hk b _ z (.inl (lt b o e)) q)⟩
end
def FunFrames.data{base:Heap}:∀{l:List Env},h.FunFrames base l->∀b∈frs l,∃o,h.get? b=some o/\(∀vs,o.data≠.fields vs)/\base.get? b=none:=λ{l} hf b hb=>by obtain⟨h1,o,h2,h3⟩:=hf.mem hb;exact⟨o,h2,h3,h1⟩
noncomputable def gCx(P:Program)(w:World)(K:PySem.W.Frag)(mg:Str->Option Value)(base:Heap)(N:List Str)(env:Env)(fn:Str->Bool)(A:Around)(outer:List Env)(s:Shared)(H:Hp)(E:XK):Cx where
 prog:=P
 w:=w
 K:=K
 mg:=mg
 base:=base
 A:=A.deeper env
 N:=N
 s₀:=s
 H₀:=H
 env:=env
 outer:=outer
 stack:=env::outer
 ex:=[]
 calm:=true
 fn:=fn
 pn:=[]
 xe:=λe s'=>wpAny (model P w) (A.deeper env) (leaving env e) (λ_ s''=>CXo P w outer H s E e s'') (λe' s''=>CXo P w outer H s E e' s'') s'
def Al{w : World}{K : PySem.W.Frag}{mg : Str -> Option Value}{base : Heap}{N : List Str}{env : Env}{fn : Str -> Bool}{A : Around}{outer : List Env}{E : XK}{e : Value}(hloc : env.locals = s.heap.objs.size)(hf : env.frame = some s.heap.objs.size)(fl : FlyS (gCx P w K mg base N env fn A outer s H E) G H ρ C e s')(hE : ∀G' H', Up G H G' H' -> E (.ref C) none H'): (gCx P w K mg base N env fn A outer s H E).xe e s' := by
  obtain⟨σ, H₁, pins, s₁, a, rfl, I, way⟩ := fl;have hfr : (A.deeper (env)).frames = some (env :: outer) := I.ok.frames;have hst : frs (env :: outer) = s.heap.objs.size :: frs outer := CO hf;have old : ∀b o, s.heap.get? b = some o -> ∃o0, s₁.heap.get? b = some o0 := λb o e => I.base.there b o e (by show b∉([] : List Addr); simp);show wpAny (model P w) (A.deeper (env)) (leaving (env) (.ref a)) (λ_ s'' => CXo P w outer H s E (.ref a) s'') (λe' s'' => CXo P w outer H s E e' s'') s';have fin : ∀{H' : Hp}{G' : Hp}{s' : Shared}{h'' B : Heap}{a0 : Value}, Inv (gCx P w K mg base N env fn A outer s H E) pins σ H' s' -> StR K G H G' H' σ ρ -> H' a = none -> Heap.FlyingW B outer a (.ref C) a0 h'' -> s'.heap.UpToSlots h'' ->
      (∀b o, b∉s.heap.objs.size :: frs outer -> ((∃o0, s₁.heap.get? b = some o0) \/ ∃u, H' b = some u) -> s'.heap.get? b = some o -> B.get? b = some o) -> CXo P w outer H s E (.ref a) { s' with heap := h'' } := by
    intro H' G' s' h'' B a0 J up ha fl sm hk;have J0 : H' s.heap.objs.size = none := by have q : H' env.locals = none := J.free; rw[hloc]at q; exact q
    have fr0 : ∀b ∈ frs outer, H' b = none := λb hb => J.stkFree b (by show b ∈ frs (env :: outer); rw[hst]; exact w4 _ hb);have frA : ∀b ∈ s.heap.objs.size :: frs outer, H' b = none := λb hb => by
      rcases xO.mp hb with rfl|hb;· exact J0
      · exact fr0 b hb
    have dat : ∀b ∈ s.heap.objs.size :: frs outer, ∀o, s'.heap.get? b = some o -> ∀vs, o.data≠.fields vs := λb hb o e => by obtain⟨o', e', d', _⟩ := FunFrames.data J.stack b (by show b ∈ frs (env :: outer); rw[hst]; exact hb);rw[e]at e'; cases e'; exact d'
    have hok : HOk P w H' h'' := J.hok.flight fl.1 hk frA;have un : Un (frs outer) [] H H' s.heap h'' := Un.flight J.base fl.1 sm hk old (λb hb => (xO.mp hb).elim (λz => .inr (by rw[z]; exact yh _)) .inl) dat;refine⟨a, C, H', rfl, ⟨J.os, J.bare, un, hok, ha, B, a0, fl, λb o hb ho e => ?_⟩, hE G' H' up.up⟩;have nb : b∉s.heap.objs.size :: frs outer := λz => by
      rcases xO.mp z with z|z
      · rcases ho with⟨o0, ho⟩ | ⟨u, ho⟩;· rw[z]at ho; exact o4 _ (xh ho)
        · rw[z, J0]at ho; cases ho
      · exact hb z
    have ho' : (∃o0, s₁.heap.get? b = some o0) \/ ∃u, H' b = some u := ho.imp (λ⟨o0, z⟩ => old b o0 z) id;have ex : ∃o', s'.heap.get? b = some o' := by
      rcases ho with⟨o0, ho⟩ | ⟨u, ho⟩;· exact J.base.there b o0 ho (by show b∉([] : List Addr); simp)
      · exact(J.hok b u ho).there
    obtain⟨o', e'⟩ := ex;have q := hk b o' nb ho' e';have q2 := fl.1 b o' q;have e2 : h''.get? b = some o := e;rw[q2]at e2;cases e2;exact q
  rcases way with⟨G₁, h', vs, sr, made, rfl⟩ | ⟨G', H', ⟨os, bare, un, hok, ha, B, a0, fl, hk⟩, up⟩ | ⟨G', H', L', hL, ⟨os, bare, ⟨ch, hch, un⟩, hok, ha, _, B, a0, fl, hk⟩, up⟩
  ·
    have J : Inv (gCx P w K mg base N env fn A outer s H E) pins σ H₁ { s₁ with heap := h' } := I.kept (t' := s₁.toks) made.keeps;have hin : ∀en ∈ (env :: outer), ∀b, en.frame = some b -> b ∈ s.heap.objs.size :: frs outer := λen he b hb => by rw[<- hst]; exact j1.mpr ⟨en, he, hb⟩
    refine wpAny_leaves_madeW (base := PySem.W.hideAll s₁.heap (s.heap.objs.size :: frs outer)) hfr hf (λb o q => PySem.W.of_hideAll _ q) (PySem.W.funFrames_hide I.stack hin) made λh'' t fl' _ _ sm => ?_;have ha : H₁ a = none := by
      cases q : H₁ a with
      |none => rfl
      |some u =>obtain⟨ob, e⟩ := (I.hok a u q).there;rw[made.new]at e; cases e
    refine fin J sr ha fl' sm λb o hb ho e => ?_;have e1 : s₁.heap.get? b = some o := by
      rcases ho with⟨o0, ho⟩ | ⟨u, ho⟩;· have q := made.keeps b o0 ho;have e' : h'.get? b = some o := e;rw[q]at e'; cases e'; exact ho
      · obtain⟨ob, ho⟩ := (I.hok b u ho).there;have q := made.keeps b ob ho;have e' : h'.get? b = some o := e;rw[q]at e'; cases e'; exact ho
    exact PySem.W.hideAll_get _ e1 hb
  · have J := I.call' (s' := s') (ch := []) os un hok bare (λb z => absurd z (by simp));exact wpAny_leaves_onW hfr hf fl λh'' fl' sm => fin J up ha fl' sm λb o hb ho e => hk b o (by show b∉frs (env :: outer); rw[hst]; exact hb) ho e
  · have J := I.call' (s' := s') (ch := ch) os un hok bare hch;have eL : s.heap.objs.size = L' := xV (hf.symm.trans hL);rw[<- eL]at fl;refine y8 (wpAny_noteFrame_againW hf fl.2.2.2 (wpAny_landsW fl λh'' fl' sm => ?_));obtain⟨k1, k2, ⟨_, _, k3⟩, k4⟩ := fl';exact fin J up ha ⟨k1, k2, k3, k4⟩ sm λb o hb ho e => hk b o (by show b∉frs (env :: outer); rw[hst]; exact hb) ho e

def jE{w:World}{K:PySem.W.Frag}{mg:Str->Option Value}{base:Heap}{N:List Str}{A:Around}{outer:List Env}{E:XK}{e:Value}(fl:FlyS (fc (CXo P w) P w K mg base N qual scope f cd A outer s H E) G H ρ C e s')(hE:∀G' H',Up G H G' H'->E (.ref C) none H'):(fc (CXo P w) P w K mg base N qual scope f cd A outer s H E).xe e s':=
 Al (env:=envOfC qual scope s.heap.objs.size f cd) (fn:=λ_=>true) rfl rfl fl hE
noncomputable def ai(n:Nat)(ds:List D):Ev:=ds.map (λd=>some (.val d))++List.replicate (n - ds.length) none
noncomputable def ao(o:O):R D:=match o with
 |.rt d=>.ok d
 |.re d _=>.ok d
 |.nx _=>.ok .non
 |.ex C _=>.ex C
 |_=>.no
def lS{K:PySem.W.Frag}{N:List Str}(sub:Same G H)(r:Reps K G vs ds):StR K G H G H (gW N vs) (ai N.length ds):=by
 have hl:=r.length;have get:∀(i:Nat) x,(ai N.length ds)[i]?=some (some x)->∃d,ds[i]?=some d/\x=.val d:=λi x e=>by
  unfold ai at e;by_cases hi:i<ds.length
  ·rw[oq (by simpa using hi),v7]at e;cases q:ds[i]? with
   |none=>rw[q]at e;cases e
   |some d=>rw[q]at e;cases e;exact⟨d,rfl,rfl⟩
  ·rw[nA (by simpa using hi),l9]at e;split at e <;> cases e
 have no:NoOwn (ai N.length ds):=λi x e=>by obtain⟨d',_,q⟩:=get i _ e;exact⟨d',q⟩
 refine⟨⟨sub,by simp[gW,ai,hl],λi d e=>?_,λi m C p fs e=>absurd e (no.obj i m C p fs)⟩,sub,.refl sub,λi es e=>?_,λi j es fs l e=>?_,no.ob⟩;·obtain⟨d',e',q⟩:=get i _ e;cases q;obtain⟨v,ev,rv⟩:=r.get e';refine⟨v,?_,rv⟩;unfold gW;rw[oq (by have:=(u8.mp ev).1;simpa using this),v7,ev];rfl
 ·obtain⟨d',_,q⟩:=get i _ e;cases q
 ·obtain⟨d',_,q⟩:=get i _ e;cases q
def Fun.okF{w:World}{K:PySem.W.Frag}{mg:Str->Option Value}{base:Heap}{N:List Str}(F:Fun K x qual st f fd)(S:FnScope N ps (af st)){g:Ev->O}(hbody:∀(cdv:Value)(A:Around)(outer:List Env)(s:Shared)(H:Hp)(E:XK),Room k (A.deeper (envOfC qual (af st) s.heap.objs.size f cdv))->oB (fc (CXo P w) P w K mg base N qual (af st) f cdv A outer s H E) (aJ st) g):
  FnF P w K mg base (k+1) f fd ps (λds=>ao (g (ai N.length ds))):=by
 obtain⟨oc,od,kV,doc,pm,an,cdv,ct,osl,rfl,lk,hcd⟩:=F.ex;refine A5 lk hcd S (λvs H Q E h=>h.1) λA outer s H vs Q E hr hsp=>?_;obtain⟨hl,G,ds,sub,r,h⟩:=hsp;refine⟨_,hbody cdv A outer s H E hr G H,G,ai N.length ds,lS sub r,?_⟩;dsimp only at h;cases q:g (ai N.length ds)with
 |nx ρ=>rw[q]at h;exact λσ G' H' sr=>h .non G' H' sr.up .non
 |rt d=>rw[q]at h;exact λv G' H' u rv=>h v G' H' u rv
 |re d ρ=>rw[q]at h;exact λv σ G' H' sr rv=>h v G' H' sr.up rv
 |bk ρ=>rw[q]at h;exact h.elim
 |ct ρ=>rw[q]at h;exact h.elim
 |ex C ρ=>rw[q]at h;exact λe s' fl=>jE fl h
 |no=>rw[q]at h;exact h.elim
theorem oC:fillsNumberSlot (.type "tuple") "mul"=pure false:=
 PySem.fillsNumberSlot_seq (id:="tuple.__mul__") (r:=some (.builtin "tuple.__rmul__")) F.slot_tuple_mul.lookup (by decide +kernel) F.slot_tuple_rmul.lookup (by decide +kernel)
theorem FS:seqRepeat? (.type "tuple")=pure (some (.builtin "tuple.__mul__")):=by unfold seqRepeat?;rw[PySem.seqSlot_of (T:="tuple") (name:="__mul__") (id:="tuple.__mul__") F.slot_tuple_mul.lookup (by decide +kernel),PySem.seqSlot_of (T:="tuple") (name:="__rmul__") (id:="tuple.__rmul__") F.slot_tuple_rmul.lookup (by decide +kernel)];rfl
open Builtin in
def sO(a:Int)(t:Tok)(l:Addr)(items:Array Value)(n:Nat)(dd:Option Addr)(sl:Array (Option Value)):
  Meets (Builtin.«int.__rmul__» ⟨[.int a t,.ref l],[]⟩) (λ_ Rr s=>s.heap.get? l=some { cls:=.type "tuple",dict:=dd,data:=.seq items n,slots:=sl }/\Rr (.ok (.ret Value.notImplemented)) s):=
 .of_wp λprog w A Rr s h=>by obtain⟨hp,g,d,tk,os⟩:=s;obtain⟨hl,h⟩:=h;wp_walk;exact⟨_,rfl,h⟩
section
open Builtin AutoSeq1
variable(l:Addr)(items:Array Value)(n:Nat)(dd:Option Addr)(sl:Array (Option Value))(x:Int)(u:Tok)(h1:(decide (x < -(2 ^ 63)) || decide (x ≥ 2 ^ 63))=false)
include h1
def Bx(hc:(items.isEmpty || x==1)=true):
  Meets (Builtin.«tuple.__mul__» ⟨[.ref l,.int x u],[]⟩) (λ_ Rr s=>s.heap.get? l=some { cls:=.type "tuple",dict:=dd,data:=.seq items n,slots:=sl }/\Rr (.ok (.ret (.ref l))) s):=
 .of_wp λprog w A Rr s h=>by
  obtain⟨hp,g,d,tk,os⟩:=s;obtain⟨hl,h⟩:=h;have f1:=idx_int
  wp_walk
  refine Zi (by rw[h1];rfl) ?_;refine y8 (j4 (show IsTup hp l items from⟨_,hl,rfl,n,rfl⟩) ?_);dsimp only;rw[if_pos hc];unfold Tuple.tupleIsExact;refine y8 (y8 (j5 ⟨_,hl,rfl⟩ (y9 ?_)));rw[if_pos (by decide)];exact y8 (wpAny_rule (y9 ⟨_,rfl,h⟩))
def Dy(hc : ¬ (items.isEmpty || x==1)=true)(h2:(decide (x<=0) || items.isEmpty)=true):
  Meets (Builtin.«tuple.__mul__» ⟨[.ref l,.int x u],[]⟩) (λ_ Rr s=>s.heap.get? l=some { cls:=.type "tuple",dict:=dd,data:=.seq items n,slots:=sl }/\Rr (.ok (.ret (.ref s.heap.objs.size))) { s with heap:=s.heap.push { cls:=.type "tuple",data:=.seq #[] } }):=
 .of_wp λprog w A Rr s h=>by
  obtain⟨hp,g,d,tk,os⟩:=s;obtain⟨hl,h⟩:=h;have f1:=idx_int
  wp_walk
  refine Zi (by rw[h1];rfl) ?_;refine y8 (j4 (show IsTup hp l items from⟨_,hl,rfl,n,rfl⟩) ?_);dsimp only;rw[if_neg hc,if_pos h2];exact y8 (m:=Builtin.Tuple.tupleExact _) (sZ (y9 ⟨_,rfl,h⟩) (v8 _))
def Bv(hc : ¬ (items.isEmpty || x==1)=true)(h2 : ¬ (decide (x<=0) || items.isEmpty)=true)(hz:items.size * x.toNat<=sizeLine):
  Meets (Builtin.«tuple.__mul__» ⟨[.ref l,.int x u],[]⟩) (λ_ Rr s=>s.heap.get? l=some { cls:=.type "tuple",dict:=dd,data:=.seq items n,slots:=sl }/\
   Rr (.ok (.ret (.ref s.heap.objs.size))) { s with heap:=s.heap.push { cls:=.type "tuple",data:=.seq (List.foldl (λx1 x2=>x1++x2) #[] (List.replicate x.toNat items)) } }):=
 .of_wp λprog w A Rr s h=>by
  obtain⟨hp,g,d,tk,os⟩:=s;obtain⟨hl,h⟩:=h;have f1:=idx_int;have hx:0<x:=by
   cases q:decide (x<=0)with
   |true=>rw[q]at h2;exact absurd rfl h2
   |false=>exact Int.not_le.mp (of_decide_eq_false q)
  have ez:(items.size:Int) * x=((items.size * x.toNat:Nat):Int):=by rw[Int.natCast_mul,Zj (Int.le_of_lt hx)]
  have hlim:(sizeLine:Nat)<=(2 ^ 63 - 1) / 8:=by decide
  have h3 : ¬ ((items.size:Int) * x > (2 ^ 63 - 1) / 8):=by
   rw[ez];have:((sizeLine:Nat):Int)<=(2 ^ 63 - 1) / 8:=by decide
   omega
  have h4 : ¬ (Tuple.tupleTooMany ((items.size:Int) * x)=true):=by unfold Tuple.tupleTooMany;rw[ez];intro q;have:=lZ q;omega
  have hfz:(List.foldl (λx1 x2=>x1++x2) #[] (List.replicate x.toNat items)).size<=sizeLine:=by have e:=jp items.toList x.toNat [];simp only[rT,Array.toArray_toList]at e;rw[e,xi,pV,n8,g9];exact hz
  wp_walk
  refine Zi (by rw[h1];rfl) ?_;refine y8 (j4 (show IsTup hp l items from⟨_,hl,rfl,n,rfl⟩) ?_);dsimp only;rw[if_neg hc,if_neg h2,if_neg h3,if_neg h4];exact y8 (m:=Builtin.Tuple.tupleExact _) (sZ (y9 ⟨_,rfl,h⟩) hfz)
end
section
noncomputable def Jx(K:PySem.W.Frag):R2:=λx y H Q=>∃l k xs,x=.ref l/\y=.int k/\SqT K H l xs/\-(2 ^ 63)<=k/\k<2 ^ 63/\xs.length * k.toNat<=sizeLine/\
 (xs=[]\/k=1->Q (.ref l) H)/\(xs≠[]->k≠1->∀p,H p=none->Q (.ref p) (upd H p (.tup (List.replicate k.toNat xs).flatten)))
theorem op_repT:OpR X (binaryOp .Mult) (Jx X.K):=by
 intro pins s σ H x y v u Q I rx ry h;obtain⟨l,k,xs,rfl,rfl,hH,h1,h2,hz,q0,q1⟩:=h;cases rx;obtain⟨t,rfl⟩:=ry;obtain⟨its,r,p,hzz⟩:=I.tuple hH;obtain⟨⟨cls,dd,data,sl⟩,ho,hc,n,hd⟩:=id p;simp only at hc hd;subst hc hd;have hlen:its.length=xs.length:=r.length.symm;have hin:(decide (k < -(2 ^ 63)) || decide (k ≥ 2 ^ 63))=false:=by rw[u7 (by omega),u7 (by omega)];rfl
 have emp:its.toArray.isEmpty=decide (xs=[]):=by
  cases its with
  |nil=>cases r;rfl
  |cons a b=>cases r;rfl
 refine wpAny_binaryOp_repeat_ref (T:="tuple") (U:="int") (by decide) ⟨_,ho,rfl⟩ (λs'=>mJ s' k t) oC F.fills_int_mul iU FS F.slot_int_index.lookup
  (qt iU (mJ s k t) F.entry_int_rmul (F.args_int_rmul_2 _ _) (sO k t l its.toArray n dd sl) ⟨ho,rfl,⟨_,ho,rfl⟩,?_⟩);by_cases hc:(its.toArray.isEmpty || k==1)=true;·refine qt Zk ⟨_,ho,rfl⟩ Zl (Zm _ _) (Bx l its.toArray n dd sl k t hin hc) ⟨ho,.ref l,H,I,rfl,q0 ?_⟩;rw[emp]at hc;simpa using hc
 ·have hne:xs≠[]/\k≠1:=by rw[emp]at hc;simpa using hc
  have fin:∀its',its'=(List.replicate k.toNat its).flatten->EP X pins σ Q (.ref s.heap.objs.size) { s with heap:=s.heap.push { cls:=.type "tuple",data:=.seq its'.toArray } }:=λits' e=>by subst e;refine⟨.ref s.heap.objs.size,_,I.laid (t':=s.toks) (o:=.tup (List.replicate k.toNat xs).flatten) (λb ob q=>yq _ q) (yh _) ?_,rfl,q1 hne.1 hne.2 _ I.fresh⟩;exact⟨by rw[pV,g9];exact hz,_,r.rep k.toNat,n9 _ _⟩
  by_cases h0:(decide (k<=0) || its.toArray.isEmpty)=true
  ·refine qt Zk ⟨_,ho,rfl⟩ Zl (Zm _ _) (Dy l its.toArray n dd sl k t hin hc h0) ⟨ho,?_⟩;refine fin [] ?_;have:k<=0:=by rw[emp,u7 hne.1,Bool.or_false]at h0;exact lZ h0
   rw[Int.toNat_of_nonpos this];rfl
  ·refine qt Zk ⟨_,ho,rfl⟩ Zl (Zm _ _) (Bv l its.toArray n dd sl k t hin hc h0 (by rw[xi,hlen];exact hz)) ⟨ho,?_⟩;have e:=jp its k.toNat [];simp only[rT]at e;rw[e];exact fin _ rfl
def Et(x:Str)(n:Int):(Txt.mul x n).cps.toList=(List.replicate n.toNat x.cps.toList).flatten:=by
 unfold Txt.mul;by_cases h1:n<1;·rw[if_pos h1,Int.toNat_of_nonpos (by omega)];rfl
 ·rw[if_neg h1];by_cases h2:(n==1 || x.length==0)=true
  ·rw[if_pos h2];rcases Bool.or_eq_true_iff.mp h2 with h|h
   ·have:n=1:=by simpa using h
    subst this;show _=(List.replicate 1 x.cps.toList).flatten;simp
   ·have:x.cps.toList=[]:=ZI (by rw[Str.len_list];simpa using h);rw[this];simp
  ·rw[if_neg h2];have:∀(m:Nat)(acc:Array Nat),((List.replicate m x.cps).foldl (·++·) acc).toList=acc.toList++(List.replicate m x.cps.toList).flatten:=by
    intro m;induction m with
    |zero=>intro acc;simp
    |succ m ih=>intro acc;rw[r9,oH,ih,r9,oE];simp
   simpa using this n.toNat #[]
def op_mul_str:OpR X (binaryOp .Mult) (λx y H Q=>∃(i:Str)(k:Int),x=.str i/\y=.int k/\-(2 ^ 63)<=k/\k<2 ^ 63/\i.length * k.toNat<=sizeLine/\Q (.str (Txt.mul i k)) H):=by
 intro pins s σ H x y v u Q I rx ry h;obtain⟨i,k,rfl,rfl,h1,h2,hz,q⟩:=h;obtain⟨t,rfl⟩:=rx;obtain⟨t',rfl⟩:=ry;refine SB.mul ⟨by rw[u7 (by omega),u7 (by omega)];rfl,λh3 h4=>?_,λh3 h4=>?_⟩ λt'' n=>⟨.str _,H,I.tok _,⟨_,rfl⟩,q⟩
 ·have hk:0<k:=by omega
  intro h5;have h6:(2 ^ 63 - 1) / k * k<=2 ^ 63 - 1:=Int.ediv_mul_le _ (by omega);have h7:(((i.length * k.toNat:Nat)):Int)=(i.length:Int) * k:=by rw[Int.natCast_mul,Zj (by omega)]
  have h8:((2 ^ 63 - 1) / k+1) * k<=(i.length:Int) * k:=Int.mul_le_mul_of_nonneg_right (by omega) (by omega);have h9:2 ^ 63 - 1<((2 ^ 63 - 1) / k+1) * k:=Int.lt_ediv_add_one_mul_self _ hk;have h10:((sizeLine:Nat):Int)<2 ^ 63 - 1:=by decide
  omega
 ·unfold Builtin.Str.tooLong;exact u7 (by omega)
noncomputable def fQ:D->D->Option D
 |.int i,.int j=>if (-(2 ^ 64)<i/\i<2 ^ 64)\/(-(2 ^ 64)<j/\j<2 ^ 64)then some (.int (i * j))else none
 |.str x,.int k=>if -(2 ^ 63)<=k/\k<2 ^ 63/\x.length * k.toNat<=sizeLine then some (.str (List.replicate k.toNat x).flatten)else none
 |.tup xs,.int k=>if -(2 ^ 63)<=k/\k<2 ^ 63/\xs.length * k.toNat<=sizeLine then some (.tup (List.replicate k.toNat xs).flatten)else none
 |.lst false xs,.int k=>if -(2 ^ 63)<=k/\k<2 ^ 63/\xs.length * k.toNat<=sizeLine then some (.lst false (List.replicate k.toNat xs).flatten)else none
 |_,_=>none
noncomputable def Ik(K:PySem.W.Frag):R2:=λx y H Q=>rI CMul (λi j=>.int (i * j)) x y H Q\/(∃(i:Str)(k:Int),x=.str i/\y=.int k/\-(2 ^ 63)<=k/\k<2 ^ 63/\i.length * k.toNat<=sizeLine/\Q (.str (Txt.mul i k)) H)\/Jx K x y H Q\/MJ x y H Q
def EW:OpR X (binaryOp .Mult) (Ik X.K):=op_mul.or (op_mul_str.or (op_repT.or JA))
def Jw(K:PySem.W.Frag):ROk K (Ik K) fQ:=by
 intro G H x y dx dy d Q s rx ry e q;unfold fQ at e;split at e
 ·split at e;·rename_i hc;cases e;exact .inl ⟨_,_,rx.int_inv,ry.int_inv,hc,q _ G H (.refl s) (.int _)⟩
  ·cases e
 ·split at e;·rename_i hc;cases e;obtain⟨i,rfl,ei,hi⟩:=rx.str_inv;subst ei;rw[Str.len_list]at hc;exact .inr (.inl ⟨i,_,rfl,ry.int_inv,hc.1,hc.2.1,hc.2.2,q _ G H (.refl s) (.strL (Et i _) (by rw[pV,Str.len_list,g9];exact hc.2.2))⟩)
  ·cases e
 ·split at e
  ·rename_i k hc;cases e;obtain⟨a,vs,rfl,ha,ra⟩:=rx.tup_inv;refine .inr (.inr (.inl ⟨a,_,vs,rfl,ry.int_inv,ha.mono s,hc.1,hc.2.1,by rw[ra.length];exact hc.2.2,λz=>?_,λ_ _ p hp=>q _ _ _ (.new s hp) (.tup (.of az) ((ra.rep _).mono (.into (s.free hp))))⟩));rcases z with z|z
   ·subst z;cases ra;have e:(List.replicate k.toNat ([]:List D)).flatten=[]:=by simp
    rw[e]at q;exact q _ G H (.refl s) (.tup ha .nil)
   ·subst z;have e:∀l:List D,(List.replicate (1:Int).toNat l).flatten=l:=λl=>by show(List.replicate 1 l).flatten=l;simp
    rw[e]at q;exact q _ G H (.refl s) (.tup ha ra)
  ·cases e
 ·split at e;·rename_i hc;cases e;obtain⟨a,vs,rfl,ha,ra⟩:=rx.lst_inv;exact .inr (.inr (.inr ⟨a,_,vs,rfl,ry.int_inv,s _ _ ha,hc.1,hc.2.1,by rw[ra.length];exact hc.2.2,λp hp=>q _ _ _ (.new s hp) (.lst az ((ra.rep _).mono (.into (s.free hp))))⟩))
  ·cases e
 ·cases e
def eM{a b:Expr}{ga:Ev->R D}(ha:PF X a ga)(hb:PF X b gb):PF X (.BinOp a .Mult b pos) (g2 fQ ga gb):=rB EW (Jw _) ha hb
end
end L2
namespace L2
open PySem PySem.W PySem.Spec PySem.Calls PyProof.Rows
structure ExcCls(K:Frag)(C:Addr):Prop where
 ga:findIn K (.ref C) "__getattribute__"=some (some (.builtin "BaseException.__getattribute__"))
 gt:findIn K (.ref C) "__getattr__"=some none
 cl:findIn K (.ref C) "__class__"=some (some (.builtin "object.__class__"))
 sp:specialIn K (.builtin "object.__class__") "__get__"=some (some (.builtin "getset_descriptor.__get__"))
 tk:takesIn K (.builtin "object.__class__")=some true
 mo:mroIn K C (.type "object")=some true
 be:subIn K (.ref C) (.type "BaseException")=some true
 some:(clsIn K C).isSome=true
section
variable{prog:Program}{w:World}{A:Around}{K:Frag}
section
open Builtin Builtin.ObjectAttr Builtin.Getset_descriptor
end
end
section
variable{A:Around}{Q:Value->Shared->Prop}
noncomputable def tyN:D->Option String
 |.non=>some "NoneType"
 |.bl _=>some "bool"
 |.int _=>some "int"
 |.str _=>some "str"
 |.tup _=>some "tuple"
 |.lst _ _=>some "list"
 |.exc _=>none
 |.dct _ _=>none
def JT{x:V}{u c:Value}{T:String}{b:Bool}(I:Inv X pins σ H s)(sub:Same G H)(r:Rep X.K G x d)(ru:RelV x u)(ht:tyN d=some T)(e:kitOne X.K (.type T) c=some b)(h:∀tk,Q (.bool b) { s with toks:=tk }):
  wpAny (model X.prog X.w) A (call (.builtin "isinstance") [u,c]) Q E s:=by
 cases r with
 |non=>cases ht;cases ru;exact kia_one kitx_none I.kIn True.intro e (λz=>nomatch z) h
 |bl y=>cases ht;cases ru;exact kia_one kitx_bool I.kIn True.intro e (λz=>nomatch z) h
 |int i=>cases ht;obtain⟨t,rfl⟩:=ru;exact kia_one kitx_int I.kIn True.intro e (λz=>nomatch z) h
 |str y hy=>cases ht;obtain⟨t,rfl⟩:=ru;exact kia_one kitx_str I.kIn True.intro e (λz=>nomatch z) h
 |tup hh t=>cases ht;cases ru;obtain⟨its,rv,⟨o,h1,h2,_⟩,_⟩:=I.tuple (hh.mono sub);exact kia_one kitx_tuple I.kIn ⟨o,h1,h2⟩ e (λz=>nomatch z) h
 |lst hh t=>cases ht;cases ru;obtain⟨its,rv,⟨o,n,h1,h2,_⟩,_⟩:=I.list ((SqL.of hh:SqL X.K G _ _).mono sub);exact kia_one kitx_list I.kIn ⟨o,h1,h2⟩ e (λz=>nomatch z) h
 |fls hh t=>cases ht;cases ru;obtain⟨its,rv,⟨o,n,h1,h2,_⟩,_⟩:=I.list (hh.mono sub);exact kia_one kitx_list I.kIn ⟨o,h1,h2⟩ e (λz=>nomatch z) h
 |exc hh=>cases ht
 |dct _ _ _=>cases ht
end
section
variable{e:Expr}{ga:Ev->R D}{p2:Pos}
noncomputable def gZ(f:String->Bool)(d:D):R D:=match tyN d with
 |some t=>.ok (.bl (f t))
 |none=>.no
def ni{T:String}(f:String->Bool)(hf:∀K:Frag,∀t∈["NoneType","bool","int","str","tuple","list"],kitOne K (.type t) (.type T)=some (f t))(hg:Gl X "isinstance")(hm:X.mg "isinstance"=none)(hg2:Gl X y)(hm2:X.mg y=none)(hv:bootBuiltins y=some (.type T))(ha:PF X e ga)(hs1:starEach [e,.Name y p2] X.env=(false,eval e X.env)::starEach [.Name y p2] X.env:=by rfl)(hn:y≠"__name__":=by decide)(hdb:(y==("__debug__":Str))=false:=by decide):
  PF X (.Call (.Name "isinstance" p) [e,.Name y p2] [] pos) (λρ=>ga ρ>>=gZ f):=by
 intro pins s σ H Q I h;have hc:kg X (.builtin "isinstance") (λxs H Q=>∃x G d,xs=[x,.ty T]/\Same G H/\Rep X.K G x d/\∃t,tyN d=some t/\Q (.bl (f t)) H):=by
  intro pins s σ H xs us Q I r ⟨x,G,d,ex,sub,rd,t,et,q⟩;subst ex;obtain⟨u,u2,rfl,r1,r2⟩:=r.two;cases r2;refine JT I sub rd r1 et (hf X.K t ?_) λtk=>⟨.bl (f t),H,I.tok tk,rfl,q⟩
  cases d <;> cases et <;> simp
 refine qq hc hg hm PyProof.Rows.Boot.«isinstance» (bE ha (bE (uW (v:=.ty T) hg2 hm2 hv rfl hn hdb) eJ) hs1) (by decide) (by decide) hs1 rfl pins s σ H Q I ?_;obtain⟨G,ρ,st,h⟩:=h;refine tG.intro st h λx v G1 H1 u1 st1 r1 h1=>?_;refine⟨v,G1,x,rfl,st1.sub,r1,?_⟩;unfold gZ at h1;cases et:tyN x with
 |none=>rw[et]at h1;exact h1.elim
 |some t=>rw[et]at h1;exact⟨t,rfl,h1 _ G1 H1 (.refl st1.sub) (.bl _)⟩
end
end L2
namespace L2
open PySem PySem.Spec PyProof.Rows
noncomputable def Br:List D->Option (List Bool)
 | []=>some []
 |.bl b::ds=>(Br ds).map (b::·)
 |_=>none
theorem Reps.bls{K:PySem.W.Frag}:∀{vs:List V}{ds:List D}{bs:List Bool},Reps K G vs ds->Br ds=some bs->vs=bs.map .bl
 |_,_,bs,.nil,e=>by cases e;rfl
 |_,_,bs,.cons r t,e=>by
  cases r with
  |bl b=>
   rename_i ds;unfold Br at e;cases q:Br ds with
   |none=>rw[q]at e;cases e
   |some cs=>rw[q]at e;cases e;rw[Reps.bls t q];rfl
  |_=>simp[Br]at e
theorem Vals.bls:∀{bs:List Bool}{us:List Value},Vals (bs.map V.bl) us->us=bs.map Value.bool
 | [],_,.nil=>rfl
 |b::bs,_,.cons r t=>by rw[Vals.bls t,show _=Value.bool b from r];rfl
section
variable{e o:Expr}{ga:Ev->R D}
noncomputable def ND(K:PySem.W.Frag)(f:List Bool->Bool):List V->Hp->VK->Prop:=λxs H Q=>∃p bs,xs=[.ref p]/\SqL K H p (bs.map V.bl)/\Q (.bl (f bs)) H
def A1(A:Around)(prog:Program)(w:World)(bs:List Bool):TruthOf prog w A (λi v=>(bs.map Value.bool).toArray[i]?=some v) (λi=>bs.getD i true):=by
 intro i v s Q E hP hQ;rw[List.getElem?_toArray,v7]at hP;cases q:bs[i]? with
 |none=>rw[q]at hP;cases hP
 |some b=>
  rw[q]at hP;cases hP;have e:bs.getD i true=b:=by rw[v9,q];rfl
  have hQ:Q (bs.getD i true) s:=hQ;rw[e]at hQ;exact sJ hQ
def AF(hc:X.calm=true):kg X (.builtin "all") (ND X.K λbs=>bs.all id):=by
 intro pins s σ H xs us Q I r ⟨p,bs,ex,hs,q⟩;subst ex;obtain⟨u,rfl,r1⟩:=r.one;cases r1;obtain⟨its,rv,pl,hz⟩:=I.list hs;obtain rfl:=rv.bls;have hh:X.A.in1.handled=none:=I.ok.hd hc;have hlt:p<s.heap.objs.size:=by obtain⟨o,n,e,_⟩:=id pl;exact xh e
 refine call_all_walk (c6 pl.isList ?_);refine⟨s.heap.objs.size,[s.heap.objs.size,p],[s.heap.objs.size],_,_,_,λi=>bs.getD i true,rfl,jk hh s.heap.objs.size p (v6 hlt) (bs.map Value.bool).toArray,⟨⟨_,w6 _ rfl,rfl,rfl⟩,?_⟩,A1 _ _ _ bs,λh' tk hk=>?_⟩;·obtain⟨o,n,e,c,_,d⟩:=id pl;exact⟨o,yq _ e,c,n,d⟩
 ·have e:(List.range (bs.map Value.bool).toArray.size).all (λi=>bs.getD i true)=bs.all id:=by rw[xi,x8];exact nH rfl
  rw[e];refine⟨.bl _,H,I.kept (t':=tk) λb o eb=>hk b o (λz=>?_) (yq _ eb),rfl,q⟩;have:b=s.heap.objs.size:=by simpa using z
  exact o4 _ (this▸xh eb)
noncomputable def Ag:List D->Option D
 | [.lst _ ds]=>(Br ds).map λbs=>.bl (bs.all id)
 |_=>none
def HM(hc:X.calm=true)(hg:Gl X "all")(hm:X.mg "all"=none)(ha:PFA X [e] gl)(he:starEach [e] X.env=[(false,eval e X.env)]:=by rfl):PF X (.Call (.Name "all" p) [e] [] pos) (λρ=>gl ρ>>=λds=>ofO (Ag ds)):=
 lL (AF hc) (by
  intro G H xs ds d Q s r e q;unfold Ag at e;split at e
  ·rename_i f ds;obtain⟨v,rfl,r1⟩:=r.one;obtain⟨a,vs,rfl,h,t⟩:=r1.seq_inv;cases eb:Br ds with
   |none=>rw[eb]at e;cases e
   |some bs=>rw[eb]at e;cases e;obtain rfl:=t.bls eb;exact⟨a,bs,rfl,h.mono s,q _ G H (.refl s) (.bl _)⟩
  ·cases e) hg hm PyProof.Rows.Boot.«all» ha (he:=by rw[he];rfl)
noncomputable def Kh(K:PySem.W.Frag)(T:String)(r:V->List V->Hp->VK->Prop)(f:D->List D->Option D):Prop:=∀(G H:Hp)(x:V)(xs:List V)(dx:D)(ds:List D)(d:D)(Q:VK),Same G H->Rep K G x dx->Reps K G xs ds->f dx ds=some d->Fin G H (Rep K) Q d->r x xs H Q
noncomputable def oG(T:String):D->Bool
 |.str _=>T=="str"
 |.lst _ _=>T=="list"
 |_=>false
def uI{T id:String}{name:Str}{ap cp:Pos}{r:V->List V->Hp->VK->Prop}{f:D->List D->Option D}(pa:PlainAttrs T)(slot:PySem.Slot T name id)(hty:typeOf (.builtin id)=pure (.type "method_descriptor"))(hm:MtR X id r)(hf:Kh X.K T r f)(ho:PF X o ga)(ha:PFA X (e::es) gl)(hbase:attributeBase o name X.env (eval o X.env)=eval o X.env:=by rfl)(hfew:((backTo cp (starEach (e::es) X.env)).all (λx=>!x.1) && (backToKw cp (keywordEach [] X.env)).all (λx=>x.1.isSome)
 && decide ((e::es).length+([]:List Keyword).length+(if ([]:List Keyword).isEmpty then 0 else 1)<30))=true:=by rfl)(hline:(ap.endLine==cp.line)=true:=by rfl)(hs:starEach (e::es) X.env=(false,eval e X.env)::starEach es X.env:=by rfl)(hplain:(backTo cp (starEach es X.env)).any (·.1)=false:=by rfl):
  PF X (.Call (.Attribute o name ap) (e::es) [] cp) (λρ=>ga ρ>>=λx=>if oG T x=true then gl ρ>>=λds=>ofO (f x ds)else .no):=by
 intro pins s σ H Q I h;refine xv pa slot hty hm ho ha hbase hfew hline hs hplain pins s σ H Q I ?_;obtain⟨G,ρ,st,h⟩:=h;refine tG.intro st h λx v G1 H1 u1 st1 r1 h1=>?_;by_cases hk:oG T x=true
 ·rw[if_pos hk]at h1;have ty:tyV X.K T v H1:=by
   cases r1 with
   |str y hy=>exact show T="str" by simpa[oG]using hk
   |lst hh t=>exact .inl ⟨by simpa[oG]using hk,_,.of (st1.sub _ _ hh)⟩
   |fls hh t=>exact .inl ⟨by simpa[oG]using hk,_,hh.mono st1.sub⟩
   |_=>cases hk
  refine⟨ty,tG.intro st1 h1 λds vs G2 H2 u2 st2 r2 h2=>?_⟩;obtain⟨d,e',q⟩:=ofO.ok h2;exact hf G2 H2 v vs x ds d Q st2.sub (r1.mono u2.gg) r2 e' q
 ·rw[if_neg hk]at h1;exact h1.elim
noncomputable def fG(x y:List Nat):List Nat:=(Txt.rstripChars ⟨x.toArray⟩ ⟨y.toArray⟩).cps.toList
noncomputable def jh:D->List D->Option D
 |.str x,[.str y]=>some (.str (fG x y))
 |_,_=>none
def Str.of_list{x:List Nat}(e:y.cps.toList=x):(⟨x.toArray⟩:Str)=y:=by subst e;simp
noncomputable def yx:V->List V->Hp->VK->Prop:=λx vs H Q=>∃y z:Str,x=.str y/\vs=[.str z]/\y.length<=sizeLine/\Q (.str (Txt.rstripChars y z)) H
def zG:MtR X "str.rstrip" yx:=by intro pins s σ H x xs v us Q I rx rv ⟨y,z,ex,exs,hz,q⟩;subst ex exs;obtain⟨t,rfl⟩:=rx;obtain⟨u,rfl,r1⟩:=rv.one;obtain⟨t',rfl⟩:=r1;exact SCL.rstripChars (λt'' k _=>⟨.str _,H,I.tok _,⟨_,rfl⟩,q⟩) hz
def Bm(K:PySem.W.Frag):Kh K "str" yx jh:=by
 intro G H x xs dx ds d Q s rx rs e q;unfold jh at e;split at e
 ·cases e;obtain⟨v,rfl,r1⟩:=rs.one;obtain⟨i,rfl,ei,hi⟩:=rx.str_inv;obtain⟨j,rfl,ej,hj⟩:=r1.str_inv;refine⟨i,j,rfl,rfl,hi,q _ G H (.refl s) (.strL ?_ ?_)⟩;·unfold fG;rw[Str.of_list ei,Str.of_list ej]
  ·unfold fG;rw[Str.of_list ei,Str.of_list ej,Str.len_list];exact Nat.le_trans (len_rstripChars i j) hi
 ·cases e
def zf{ap cp:Pos}(ho:PF X o ga)(ha:PFA X [e] gl)(hbase:attributeBase o "rstrip" X.env (eval o X.env)=eval o X.env:=by rfl)(hfew:((backTo cp (starEach [e] X.env)).all (λx=>!x.1) && (backToKw cp (keywordEach [] X.env)).all (λx=>x.1.isSome)
 && decide ([e].length+([]:List Keyword).length+(if ([]:List Keyword).isEmpty then 0 else 1)<30))=true:=by rfl)(hline:(ap.endLine==cp.line)=true:=by rfl)(hs:starEach [e] X.env=(false,eval e X.env)::starEach [] X.env:=by rfl):
  PF X (.Call (.Attribute o "rstrip" ap) [e] [] cp) (λρ=>ga ρ>>=λx=>if oG "str" x=true then gl ρ>>=λds=>ofO (jh x ds)else .no):=
 uI Zn PySem.F.slot_str_rstrip PySem.F.type_str_rstrip zG (Bm _) ho ha hbase hfew hline hs rfl
end
noncomputable def pQ:List Nat->List D->Ev->R Ev
 | [],[],ρ=>.ok ρ
 |i::is,d::ds,ρ=>pQ is ds (ρ.set i (some (.val d)))
 |_,_,_=>.no
theorem pL:∀(is:List Nat)(ds:List D)(ρ:Ev)(C:Addr),pQ is ds ρ≠.ex C
 | [],[],_,_=>by intro z;cases z
 | [],_::_,_,_=>by intro z;cases z
 |_::_,[],_,_=>by intro z;cases z
 |i::is,d::ds,ρ,C=>pL is ds _ C
section
variable{e:Expr}{ga:Ev->R D}
noncomputable def Ki(X:Cx)(es:List Expr)(is:List Nat):Prop:=PGs X es (λvs σ H Q=>∃G₀ H₀ G ρ ds ρ',StR X.K G₀ H₀ G H σ ρ/\Reps X.K G vs ds/\pQ is ds ρ=.ok ρ'/\∀σ',StR X.K G₀ H₀ G H σ' ρ'->Q σ' H)
def jx:Ki X [] []:=by
 intro pins s σ H vs us Q I r h;obtain⟨G₀,H₀,G,ρ,ds,ρ',sr,rd,e,q⟩:=h;refine Be pins s σ H vs us Q I r ?_;cases rd with
 |nil=>cases e;exact⟨rfl,q σ sr⟩
 |cons _ _=>cases e
def cL(i:Nat)(hN:X.N.Nodup)(h2:Ki X es is)(hi:X.N[i]?=some x:=by rfl)(hx:Loc X.env.scope x:=by first|exact Or.inl rfl|exact Or.inr rfl)(hs:(assignEach (.Name x p::es) X.env).map (·.2)=assign (.Name x p) X.env::(assignEach es X.env).map (·.2):=by rfl)(hf:X.fn x=true\/X.env.scope.names.lookup x=some .local:=by first|exact .inl rfl|exact .inr rfl):
  Ki X (.Name x p::es) (i::is):=by
 intro pins s σ H vs us Q I r h;obtain⟨G₀,H₀,G,ρ,ds,ρ',sr,rd,e,q⟩:=h;refine lO (dP (i:=i) hN hi hx hf) h2 hs pins s σ H vs us Q I r ?_;cases rd with
 |nil=>cases e
 |cons r1 t1=>exact⟨_,_,rfl,G₀,H₀,G,_,_,ρ',sr.set r1 i,t1,e,q⟩
noncomputable def uh(is:List Nat)(d:D)(ρ:Ev):R Ev:=match d with
 |.tup ds=>pQ is ds ρ
 |_=>.no
theorem sg:∀(is:List Nat)(ds:List D)(ρ ρ':Ev),pQ is ds ρ=.ok ρ'->ds.length=is.length
 | [],[],_,_,_=>rfl
 | [],_::_,_,_,e=>by cases e
 |_::_,[],_,_,e=>by cases e
 |i::is,d::ds,ρ,ρ',e=>by simp[sg is ds _ ρ' e]
def mz(hc:X.calm=true)(h:Ki X es is)(hn:(assignEach es X.env).length=is.length:=by rfl)(hst:(assignEach es X.env).findIdx? (·.1)=none:=by rfl):PGF X (.Tuple es k pos) (uh is):=by
 intro pins s σ H v u Q I r q;obtain⟨G₀,H₀,G,ρ,d,ρ',sr,rd,e,q⟩:=q;refine DW hc h hn hst pins s σ H v u Q I r ?_;cases rd with
 |tup hh t=>rename_i ds;exact⟨_,_,rfl,hh.mono sr.e.sub,by rw[t.length];exact sg is ds ρ ρ' e,G₀,H₀,G,ρ,ds,ρ',sr,t,e,q⟩
 |_=>cases e
def jP(is:List Nat):∀(d:D)(ρ:Ev)(C:Addr),uh is d ρ≠.ex C:=λd ρ C=>by
 cases d with
 |tup ds=>exact pL is ds ρ C
 |_=>intro z;cases z
def xb{np cp:Pos}{bm:List Value}{B newId initId:String}(Oc:OwnCls x C bm newId X.mg X.base)(FB:ExcBaseFacts B newId initId bm)(hh:X.A.handled=none)(hg:Gl X x)(ha:PFA X [e] gl)(hdb:(x==("__debug__":Str))=false:=by decide)(hs:starEach [e] X.env=(false,eval e X.env)::starEach [] X.env:=by rfl)(hz:∀ρ ds,gl ρ=.ok ds->ds.length<=1:=by intro _ _ z;first|(cases z;decide)|skip):
  PSF X (.Raise (some (.Call (.Name x np) [e] [] cp)) none pos) (λρ=>(gl ρ).out ρ λ_=>.ex C ρ):=λG₀ H₀ pins s σ H D I h=>by
 obtain⟨G,ρ,sr,h⟩:=h;dsimp only at h;obtain⟨tl,N,nm,qn,bs,hdct,sn,sub,ab,col,dd,k0,k1,k2,k3,k5,mN,hC,hN,hni,T⟩:=Oc.obj;refine wpAny_Raise_call_subT (C:=C) (nm:=nm) (q:=qn) (N:=N) (bs:=bs) (bm:=tl) (hdct:=hdct) (sn:=sn) (sub:=sub) (ab:=ab) (col:=col) (dd:=dd) (k0:=k0) (k1:=k1) (k2:=k2) (k3:=k3) (k5:=k5)
  FB (mN:=mN) (T.hasType FB.hasBase) hh (by rw[hs];rfl) hni (iX I hg Oc.bound ⟨rfl,?_⟩ hdb);have t:tAF X gl σ H (λvs H1=>vs.length<=sizeLine/\∃G1,Up G H G1 H1/\hU X G₀ H₀ D (.ex C ρ)):=by
  refine⟨G,ρ,sr.e,?_⟩;cases q:gl ρ with
  |ok ds=>rw[q]at h;intro vs G1 H1 u r;exact⟨by rw[r.length];exact w8 (hz ρ ds q) (by decide),G1,u,h⟩
  |ex C'=>rw[q]at h;exact Exx.of sr h
  |no=>rw[q]at h;exact h
 have hA:=ha cp pins s σ H _ I t;rw[hs]at hA⊢;refine Calls.evalArgs_plain (u9 hA (λvs s₂ q=>?_) λ_ _ y=>y);obtain⟨vs',H1,I1,r,hz,G1,u,h⟩:=q;exact⟨rfl,by show vs.length<=sizeLine;rw[<- r.length];exact hz,I1.bk _ _ hC,hN.keeps I1.bk,T.keeps I1.bk,λh' a made=>h _ _ (.of (sr.ups u) ⟨pins,s₂,a,rfl,I1,.inl ⟨h',vs,made,rfl⟩⟩)⟩
end
section
def Inv.cx{A':Around}{calm':Bool}{pn' pins':List (Addr×Obj)}{xe':Value->Shared->Prop}(I:Inv X pins σ H s)(hp:∀p∈pn'++pins',p∈X.pn++pins)(hA:A'.frames=X.A.frames)(hd:calm'=true->A'.handled=none):
  Inv { X with A:=A',calm:=calm',pn:=pn',xe:=xe' } pins' σ H s:=
 ⟨⟨I.ok.mod,I.ok.kind,I.ok.glob,I.ok.blt,I.ok.above,I.ok.inj,I.ok.has,I.ok.cab,hd,hA.trans I.ok.frames,I.ok.stk,I.ok.exf,I.ok.bs,I.ok.bsz,I.ok.noex,I.ok.exfs,I.ok.funs,I.ok.frf,I.ok.tabs⟩,
  I.os,I.bare,I.base,I.loc,I.cell,I.free,I.freeC,λp q=>I.pin p (hp p q),I.hok,I.len⟩
end
noncomputable def MB(gb gs:Ev->O)(f:Addr->Option Bool)(i:Nat):Ev->O:=λρ=>match gb ρ with
 |.ex C ρ'=>(match f C with
  |some true=>(match gs (ρ'.set i (some (.val (.exc C))))with
   |.nx ρ''=>.nx (ρ''.set i none)
   |.rt d=>.rt d
   |_=>.no)
  |_=>.no)
 |o=>o
structure Callee(P:Program)(w:World)(K:PySem.W.Frag)(mg:Str->Option Value)(base:Heap)(x:Str)(k n:Nat)(g:List D->R D):Prop where
 ex:∃f fd ps,FnF P w K mg base k f fd ps g/\mg x=some (.ref f)/\PySem.W.keepIn K (.ref f)=true/\Binds K fd ps []/\ps.length=n
def C9{n:Nat}{g:List D->R D}{e:Expr}(c:Callee X.prog X.w X.K X.mg X.base x k n g)(hr:Room k X.A)(ha:PFA X (e::es) gl)(hg:Gl X x:=by rfl)(hdb:(x==("__debug__":Str))=false:=by decide)(he:starEach (e::es) X.env=(false,eval e X.env)::starEach es X.env:=by rfl)(hpl:(backTo pos (starEach es X.env)).any (·.1)=false:=by rfl):
  PF X (.Call (.Name x p) (e::es) [] pos) (λρ=>gl ρ>>=λds=>if ds.length=n then g ds else .no):=by
 obtain⟨f,fd,ps,F,hm,hk,hb,rfl⟩:=c.ex;exact Eu F hr hg hm hk hb ha hdb he hpl
def FnF.to{w:World}{K:PySem.W.Frag}{mg:Str->Option Value}{base:Heap}{g g':List D->R D}(F:FnF P w K mg base k f fd ps g)(h:∀ds,ds.length=ps.length->g' ds=.no\/g ds=g' ds):FnF P w K mg base k f fd ps g':=by
 refine F.imp λvs H Q E ⟨hl,G,ds,sub,r,q⟩=>⟨hl,G,ds,sub,r,?_⟩
 rcases h ds (by rw[<- r.length];exact hl)with z|z;·rw[z]at q;exact q.elim
 ·rw[z];exact q
def Fun.callee{w:World}{K:PySem.W.Frag}{mg:Str->Option Value}{base:Heap}{g:List D->R D}(F:Fun K x x st f fd)(hm:mg x=some (.ref f))(ok:FnF P w K mg base k f fd ps g)(h:∀(kV doc pm:Value)(an:Option Addr)(cdv ct:Value)(us:List Value),us.length=ps.length->bindArgs (PySem.W.fnOf x x (dh st) (aJ st) (af st) .none kV doc pm an cdv ct) ⟨us,[]⟩=pure (ps.zip us)):Callee P w K mg base x k ps.length g:=
 ⟨f,fd,ps,ok,hm,F.kp,F.binds h,rfl⟩
def iw{T:String}{f:String->Bool}(h:∀K:PySem.W.Frag,PySem.W.kitOne K (.type "NoneType") (.type T)=some (f "NoneType")/\PySem.W.kitOne K (.type "bool") (.type T)=some (f "bool")/\PySem.W.kitOne K (.type "int") (.type T)=some (f "int")/\
 PySem.W.kitOne K (.type "str") (.type T)=some (f "str")/\PySem.W.kitOne K (.type "tuple") (.type T)=some (f "tuple")/\PySem.W.kitOne K (.type "list") (.type T)=some (f "list")):
  ∀K:PySem.W.Frag,∀t∈["NoneType","bool","int","str","tuple","list"],PySem.W.kitOne K (.type t) (.type T)=some (f t):=λK t ht=>by
 obtain⟨h1,h2,h3,h4,h5,h6⟩:=h K;simp only[xO,n5,n6]at ht;rcases ht with rfl|rfl|rfl|rfl|rfl|rfl <;> assumption
noncomputable def isInt(t:String):Bool:=t=="int" || t=="bool"
section
variable{e:Expr}{ga:Ev->R D}{p2:Pos}
def CA(hm:X.mg "isinstance"=none)(ha:PF X e ga)(hm2:X.mg "int"=none)(hg2:Gl X "int":=by rfl)(hg:Gl X "isinstance":=by rfl)(hs1:starEach [e,.Name "int" p2] X.env=(false,eval e X.env)::starEach [.Name "int" p2] X.env:=by rfl):PF X (.Call (.Name "isinstance" p) [e,.Name "int" p2] [] pos) (λρ=>ga ρ>>=gZ isInt):=
 ni (T:="int") isInt (iw λK=>⟨rfl,rfl,rfl,rfl,rfl,rfl⟩) hg hm hg2 hm2 PyProof.Rows.Boot.«int» ha hs1
def AW(hm:X.mg "isinstance"=none)(ha:PF X e ga)(hm2:X.mg "bool"=none)(hg2:Gl X "bool":=by rfl)(hg:Gl X "isinstance":=by rfl)(hs1:starEach [e,.Name "bool" p2] X.env=(false,eval e X.env)::starEach [.Name "bool" p2] X.env:=by rfl):PF X (.Call (.Name "isinstance" p) [e,.Name "bool" p2] [] pos) (λρ=>ga ρ>>=gZ (·=="bool")):=
 ni (T:="bool") (·=="bool") (iw λK=>⟨rfl,rfl,rfl,rfl,rfl,rfl⟩) hg hm hg2 hm2 PyProof.Rows.Boot.«bool» ha hs1
def CZ(hm:X.mg "isinstance"=none)(ha:PF X e ga)(hm2:X.mg "str"=none)(hg2:Gl X "str":=by rfl)(hg:Gl X "isinstance":=by rfl)(hs1:starEach [e,.Name "str" p2] X.env=(false,eval e X.env)::starEach [.Name "str" p2] X.env:=by rfl):PF X (.Call (.Name "isinstance" p) [e,.Name "str" p2] [] pos) (λρ=>ga ρ>>=gZ (·=="str")):=
 ni (T:="str") (·=="str") (iw λK=>⟨rfl,rfl,rfl,rfl,rfl,rfl⟩) hg hm hg2 hm2 PyProof.Rows.Boot.«str» ha hs1
def xf(hm:X.mg "isinstance"=none)(ha:PF X e ga)(hm2:X.mg "tuple"=none)(hg2:Gl X "tuple":=by rfl)(hg:Gl X "isinstance":=by rfl)(hs1:starEach [e,.Name "tuple" p2] X.env=(false,eval e X.env)::starEach [.Name "tuple" p2] X.env:=by rfl):PF X (.Call (.Name "isinstance" p) [e,.Name "tuple" p2] [] pos) (λρ=>ga ρ>>=gZ (·=="tuple")):=
 ni (T:="tuple") (·=="tuple") (iw λK=>⟨rfl,rfl,rfl,rfl,rfl,rfl⟩) hg hm hg2 hm2 PyProof.Rows.Boot.«tuple» ha hs1
def A9(hm:X.mg "isinstance"=none)(ha:PF X e ga)(hm2:X.mg "list"=none)(hg2:Gl X "list":=by rfl)(hg:Gl X "isinstance":=by rfl)(hs1:starEach [e,.Name "list" p2] X.env=(false,eval e X.env)::starEach [.Name "list" p2] X.env:=by rfl):PF X (.Call (.Name "isinstance" p) [e,.Name "list" p2] [] pos) (λρ=>ga ρ>>=gZ (·=="list")):=
 ni (T:="list") (·=="list") (iw λK=>⟨rfl,rfl,rfl,rfl,rfl,rfl⟩) hg hm hg2 hm2 PyProof.Rows.Boot.«list» ha hs1
end
noncomputable def cF(ga:Ev->R D):Ev->O:=λρ=>(ga ρ).out ρ .rt
noncomputable def aw(g1 g2:Ev->O):Ev->O:=λρ=>(g1 ρ).seq g2
noncomputable def oIf(gt:Ev->R Bool)(g1 g2:Ev->O):Ev->O:=λρ=>(gt ρ).out ρ λk=>if k=true then g1 ρ else g2 ρ
noncomputable def oNx:Ev->O:=λρ=>.nx ρ
noncomputable def fA(i:Nat)(ga:Ev->R D):Ev->O:=λρ=>(ga ρ).out ρ λd=>.nx (ρ.set i (some (.val d)))
noncomputable def Ep(i:Nat)(gl:Ev->R (List D)):Ev->O:=λρ=>(gl ρ).out ρ λds=>.nx (ρ.set i (some (.own ds)))
noncomputable def kA(ga:Ev->R D):Ev->O:=λρ=>(ga ρ).out ρ λ_=>.nx ρ
noncomputable def uy(asg:D->Ev->R Ev)(gi:Ev->R (List D))(g:Ev->O):Ev->O:=λρ=>(gi ρ).out ρ λitems=>da asg g items ρ
noncomputable def iy(C:Addr)(gl:Ev->R (List D)):Ev->O:=λρ=>(gl ρ).out ρ λ_=>.ex C ρ
noncomputable def Ng(asg:D->Ev->R Ev)(ga:Ev->R D):Ev->O:=λρ=>(ga ρ).out ρ λd=>(asg d ρ).out ρ .nx
noncomputable def Ce(i:Nat)(g:Ev->O):Ev->O:=λρ=>g (frz i ρ)
noncomputable def aq{α β:Type}(f:α->R β)(ga:Ev->R α):Ev->R β:=λρ=>ga ρ>>=f
noncomputable def gOf(f:List D->Option D)(gl:Ev->R (List D)):Ev->R D:=λρ=>gl ρ>>=λds=>ofO (f ds)
noncomputable def aa(ga:Ev->R D)(gl:Ev->R (List D)):Ev->R (List D):=λρ=>ga ρ>>=λx=>gl ρ>>=λxs=>.ok (x::xs)
noncomputable def aD(n:Nat)(g:List D->R D)(gl:Ev->R (List D)):Ev->R D:=λρ=>gl ρ>>=λds=>if ds.length=n then g ds else .no
noncomputable def bD(gl:Ev->R (List D)):Ev->R D:=λρ=>gl ρ>>=λds=>.ok (.lst false ds)
noncomputable def nX(gl:Ev->R (List D)):Ev->R (List D):=λρ=>gl ρ>>=λds=>if ds.length<=sizeLine then .ok ds else .no
noncomputable def gB2(f:D->D->Option D)(ga gb:Ev->R D):Ev->R Bool:=λρ=>g2 f ga gb ρ>>=asB
noncomputable def gB3(f f':D->D->Option D)(ga gb gc:Ev->R D):Ev->R Bool:=λρ=>g3 f f' ga gb gc ρ>>=asB
noncomputable def gBn(gt:Ev->R Bool):Ev->R Bool:=λρ=>gt ρ>>=λk=>.ok (!k)
noncomputable def mU(ga:Ev->R D):Ev->R (Option Int):=λρ=>ga ρ>>=λx=>asI x>>=λi=>.ok (some i)
noncomputable def ox(T:String)(f:D->List D->Option D)(ga:Ev->R D)(gl:Ev->R (List D)):Ev->R D:=λρ=>ga ρ>>=λx=>if oG T x=true then gl ρ>>=λds=>ofO (f x ds)else .no
def Callee.mono{w:World}{K:PySem.W.Frag}{mg:Str->Option Value}{base:Heap}{n:Nat}{g:List D->R D}(c:Callee P w K mg base x k n g)(k':Nat)(h:k<=k':=by decide):Callee P w K mg base x k' n g:=by obtain⟨f,fd,ps,F,hm,hk,hb,e⟩:=c.ex;exact⟨f,fd,ps,{ F with run:=λA outer s H args us vs Q E hr=>F.run A outer s H args us vs Q E (hr.mono h) },hm,hk,hb,e⟩
section
variable{cS sa sb:List Stmt}{e a b c o:Expr}{g gs1 gs2:Ev->O}{ga gc:Ev->R D}{gt:Ev->R Bool}{p2:Pos}
def ag(h1:PSF X st gs1)(h2:oB X cS gs2):oB X (st::cS) (aw gs1 gs2):=wT h1 h2
def ar:oB X [] oNx:=AX
def bq(he:PF X e ga):PSF X (.Return (some e) pos) (cF ga):=BN he
def iK(hc:PB X c gt)(ha:oB X sa gs1)(hb:oB X sb gs2):PSF X (.If c sa sb pos) (oIf gt gs1 gs2):=ET hc ha hb
def KW(i:Nat)(hN:X.N.Nodup)(he:PF X e ga)(hi:X.N[i]?=some x:=by rfl)(hx:Loc X.env.scope x:=by first|exact Or.inl rfl|exact Or.inr rfl)(hs:swapsWithSole [.Name x p] e pos.line X.env=pure false:=by rfl)(hw:swappedStores [.Name x p] e X.env=pure none:=by rfl)(hf:X.fn x=true\/X.env.scope.names.lookup x=some .local:=by first|exact .inl rfl|exact .inr rfl):
  PSF X (.Assign [.Name x p] e pos) (fA i ga):=Bz i hN he hi hx hs hw hf
def xQ(i:Nat)(hN:X.N.Nodup)(he:PFL X e gl)(hi:X.N[i]?=some x:=by rfl)(hx:Loc X.env.scope x:=by first|exact Or.inl rfl|exact Or.inr rfl)(hs:swapsWithSole [.Name x p] e pos.line X.env=pure false:=by rfl)(hw:swappedStores [.Name x p] e X.env=pure none:=by rfl)(hf:X.fn x=true\/X.env.scope.names.lookup x=some .local:=by first|exact .inl rfl|exact .inr rfl):
  PSF X (.Assign [.Name x p] e pos) (Ep i gl):=Dp i hN he hi hx hs hw hf
def ib(he:PF X e ga)(hs:swapsWith e none pos.line X.env=pure false:=by rfl):PSF X (.Expr e pos) (kA ga):=zh he hs
def oO(hp:PassesOwn (model X.prog X.w) X.A X.env X.xe)(hcalm:X.calm=true)(hi:PIF X tg iter gi)(hg:PGF X tg asg)(hb:oB X body g)(hs:∀x,foldedSetIterable iter X.env x=pure x:=by intro _;rfl)(hn:∀d ρ C,asg d ρ≠.ex C:=by intro _ _ _ z;cases z):PSF X (.For tg iter body [] pos) (uy asg gi g):=Cd hp hcalm hi hg hb hs hn
def dc(hg:Gl X "len")(hm:X.mg "len"=none)(ha:PFA X [e] gl)(he:starEach [e] X.env=[(false,eval e X.env)]:=by rfl):PF X (.Call (.Name "len" p) [e] [] pos) (gOf eI gl):=IB hg hm ha he
def AH(hc:X.calm=true)(hg:Gl X "all")(hm:X.mg "all"=none)(ha:PFA X [e] gl)(he:starEach [e] X.env=[(false,eval e X.env)]:=by rfl):PF X (.Call (.Name "all" p) [e] [] pos) (gOf Ag gl):=HM hc hg hm ha he
def ac(ha:PF X e ga)(hr:PFA X es gl)(hs:starEach (e::es) X.env=(false,eval e X.env)::starEach es X.env:=by rfl):PFA X (e::es) (aa ga gl):=CI ha hr hs
def aA{n:Nat}{f:List D->R D}(c:Callee X.prog X.w X.K X.mg X.base x k n f)(hr:Room k X.A)(ha:PFA X (e::es) gl)(hg:Gl X x:=by rfl)(hdb:(x==("__debug__":Str))=false:=by decide)(he:starEach (e::es) X.env=(false,eval e X.env)::starEach es X.env:=by rfl)(hpl:(backTo pos (starEach es X.env)).any (·.1)=false:=by rfl):
  PF X (.Call (.Name x p) (e::es) [] pos) (aD n f gl):=C9 c hr ha hg hdb he hpl
def gA{gens:List Comprehension}{sc:Scope}(h:PFL X (.ListComp e gens sc pos) gl):PF X (.ListComp e gens sc pos) (bD gl):=vM h
def kR(h:PFL X (.List es pos) gl):PF X (.List es pos) (bD gl):=vM h
def gQ(h:PFA X es gl):PFL X (.List es pos) (nX gl):=EE h
def dI(h:PFA X es gl):PF X (.Tuple es k pos) (aq mkT gl):=Ir h
def oz(ha:PF X a ga):PF X (.UnaryOp .USub a pos) (aq qX ga):=J9 ha
def Fw(hm:X.mg "isinstance"=none)(ha:PF X e ga)(hm2:X.mg "int"=none)(hg2:Gl X "int":=by rfl)(hg:Gl X "isinstance":=by rfl)(hs1:starEach [e,.Name "int" p2] X.env=(false,eval e X.env)::starEach [.Name "int" p2] X.env:=by rfl):PF X (.Call (.Name "isinstance" p) [e,.Name "int" p2] [] pos) (aq (gZ isInt) ga):=CA hm ha hm2 hg2 hg hs1
def BL(hm:X.mg "isinstance"=none)(ha:PF X e ga)(hm2:X.mg "bool"=none)(hg2:Gl X "bool":=by rfl)(hg:Gl X "isinstance":=by rfl)(hs1:starEach [e,.Name "bool" p2] X.env=(false,eval e X.env)::starEach [.Name "bool" p2] X.env:=by rfl):PF X (.Call (.Name "isinstance" p) [e,.Name "bool" p2] [] pos) (aq (gZ (·=="bool")) ga):=AW hm ha hm2 hg2 hg hs1
def E8(hm:X.mg "isinstance"=none)(ha:PF X e ga)(hm2:X.mg "str"=none)(hg2:Gl X "str":=by rfl)(hg:Gl X "isinstance":=by rfl)(hs1:starEach [e,.Name "str" p2] X.env=(false,eval e X.env)::starEach [.Name "str" p2] X.env:=by rfl):PF X (.Call (.Name "isinstance" p) [e,.Name "str" p2] [] pos) (aq (gZ (·=="str")) ga):=CZ hm ha hm2 hg2 hg hs1
def ia(hm:X.mg "isinstance"=none)(ha:PF X e ga)(hm2:X.mg "tuple"=none)(hg2:Gl X "tuple":=by rfl)(hg:Gl X "isinstance":=by rfl)(hs1:starEach [e,.Name "tuple" p2] X.env=(false,eval e X.env)::starEach [.Name "tuple" p2] X.env:=by rfl):PF X (.Call (.Name "isinstance" p) [e,.Name "tuple" p2] [] pos) (aq (gZ (·=="tuple")) ga):=xf hm ha hm2 hg2 hg hs1
def oU(h:PF X e ga):PFO X (some e) (mU ga):=B9 h
def GF(ha:PF X a ga)(hb:PF X b gb):PB X (.Compare a [.Lt] [b] pos) (gB2 ltD ga gb):=Lc ha hb
def KA(ha:PF X a ga)(hb:PF X b gb):PB X (.Compare a [.LtE] [b] pos) (gB2 leD ga gb):=LN ha hb
def Bg(ha:PF X a ga)(hb:PF X b gb):PB X (.Compare a [.Gt] [b] pos) (gB2 gtD ga gb):=Mg ha hb
def tu(hu:X.A.units+64<cLine)(ha:PF X a ga)(hb:PF X b gb):PB X (.Compare a [.Eq] [b] pos) (gB2 eqF ga gb):=LI hu ha hb
def kB(hu:X.A.units+64<cLine)(ha:PF X a ga)(hb:PF X b gb):PB X (.Compare a [.NotEq] [b] pos) (gB2 neF ga gb):=La hu ha hb
def KI(ha:PF X a ga)(hb:PF X b gb):PB X (.Compare a [.Is] [b] pos) (gB2 isF ga gb):=Kr ha hb
def Aa(ha:PF X a ga)(hb:PF X b gb)(hc:PF X c gc)(hm:lastMarks [.LtE,.LtE] [b,c]=false:=by with_unfolding_all rfl):PB X (.Compare a [.LtE,.LtE] [b,c] pos) (gB3 leD leD ga gb gc):=Gy ha hb hc hm
def cX(ha:PB X a gt):PB X (.UnaryOp .Not a pos) (gBn gt):=JD ha
def dj(h:PF X (.Call a es [] pos) ga):PB X (.Call a es [] pos) (aq ie ga):=zW h
def ju{op:BoolOp}(h:PBW X (.BoolOp op es pos) gt):PB X (.BoolOp op es pos) gt:=λpins s σ H Q I q=>h _ pins s σ H Q I q
def CY{ap cp:Pos}(ho:PF X o ga)(ha:PFA X [e] gl)(hbase:attributeBase o "rstrip" X.env (eval o X.env)=eval o X.env:=by rfl)(hfew:((backTo cp (starEach [e] X.env)).all (λx=>!x.1) && (backToKw cp (keywordEach [] X.env)).all (λx=>x.1.isSome)
 && decide ([e].length+([]:List Keyword).length+(if ([]:List Keyword).isEmpty then 0 else 1)<30))=true:=by rfl)(hline:(ap.endLine==cp.line)=true:=by rfl)(hs:starEach [e] X.env=(false,eval e X.env)::starEach [] X.env:=by rfl):
  PF X (.Call (.Attribute o "rstrip" ap) [e] [] cp) (ox "str" jh ga gl):=zf ho ha hbase hfew hline hs
def eR(ha:PF X a ga):PIF X tg a (aq bA ga):=FT ha
def pW(hg:Gl X "range")(hm:X.mg "range"=none)(ha:PFA X [a] gl)(hs:starEach [a] X.env=[(false,eval a X.env)]:=by rfl):PIF X tg (.Call (.Name "range" p) [a] [] pos) (aq cG gl):=xz hg hm ha hs
end
@[simp] theorem R.ok_out{α:Type}(a:α)(ρ:Ev)(k:α->O):(R.ok a).out ρ k=k a:=rfl
@[simp] theorem R.ex_out{α:Type}(C:Addr)(ρ:Ev)(k:α->O):(R.ex C:R α).out ρ k=.ex C ρ:=rfl
@[simp] theorem kH{α:Type}(a:α):de (R.ok a)=R.ok a:=rfl
theorem mH{gt:Ev->R Bool}{ge:Ev->R D}(p:D->Bool)(h:D->D)(tl:Ev):∀(ds:List D)(a:Option Sl),(∀d∈ds,gt (some (.val d)::tl)=.ok (p d)/\(p d=true->ge (some (.val d)::tl)=.ok (h d)))->fV gt ge ds (a::tl)=.ok ((ds.filter p).map h)
 | [],a,_=>rfl
 |d::ds,a,H=>by
  have ih:=mH p h tl ds (some (.val d)) λx m=>H x (w4 _ m);obtain⟨e1,e2⟩:=H d (v3 ..);show(de (gt (some (.val d)::tl))>>=λk=>if k=true then de (ge (some (.val d)::tl))>>=λx=>fV gt ge ds (some (.val d)::tl)>>=λxs=>.ok (x::xs)else fV gt ge ds (some (.val d)::tl))=_;rw[e1,kH,R.ok_bind,ih];cases q:p d with
  |true=>rw[if_pos rfl,e2 q,kH,R.ok_bind,R.ok_bind,List.filter_cons_of_pos q];rfl
  |false=>rw[if_neg uq,List.filter_cons_of_neg (by rw[q];exact uq)]
def jr{gt:Ev->R Bool}(h:D->D)(tl:Ev)(ds:List D)(a:Option Sl)(H:∀d∈ds,gt (some (.val d)::tl)=.ok true/\ge (some (.val d)::tl)=.ok (h d)):fV gt ge ds (a::tl)=.ok (ds.map h):=by rw[mH (λ_=>true) h tl ds a λd m=>⟨(H d m).1,λ_=>(H d m).2⟩,List.filter_eq_self.2 λ_ _=>rfl]
theorem wK(f:D->Bool):∀ds:List D,Br (ds.map λd=>.bl (f d))=some (ds.map f)
 | []=>rfl
 |d::ds=>by
  have ih:=wK f ds;rw[x9,x9];unfold Br
  first|(rw[ih];rfl)|(simp only[ih];rfl)|simp[ih]
def lH(f:D->Bool)(k:Bool)(ds:List D):Ag [.lst k (ds.map λd=>.bl (f d))]=some (.bl (ds.all f)):=by show(Br (ds.map λd=>.bl (f d))).map _=_;rw[wK];show some (D.bl ((ds.map f).all id))=_;rw[jz];rfl
def zn(a b:Nat):(!decide (([b]:List Nat)<[a]))=decide (a<=b):=by
 have:(([b]:List Nat)<[a]) ↔ b<a:=by
  constructor
  ·intro h;cases h with
   |rel h=>exact h
   |cons h=>cases h
  ·intro h;exact .rel h
 by_cases h:a<=b
 ·have h2 : ¬ ([b]:List Nat)<[a]:=λq=>by have:=this.1 q;omega
  simp[h,h2]
 ·have h2:([b]:List Nat)<[a]:=this.2 (by omega);simp[h,h2]
def dz(hk:scope.kind=.function:=by rfl)(h1:(∀y∈scope.names,y.2≠.cell)/\(∀y∈scope.names,y.2=.local->scope.names.lookup y.1=some .local)/\scope.names.lookup x=some .local/\(∀y∈scope.names,y.2=.free->y.1∈N'.tail)/\N'.Nodup/\N'[0]?=some x/\
 ∀y∈N'.tail,scope.names.lookup y=some .free/\(y,NameKind.free)∈scope.names:=by decide +kernel)(h2:N'.tail.map X.env.kindOf=N'.tail.map λ_=>some NameKind.cell:=by rfl)(h3:N'.tail=ix.map (λ(i:Nat)=>X.N.getD i Str.empty):=by rfl)(h4:ix.all (λi=>decide (i<X.N.length))=true:=by rfl):CompOk X scope x N' ix:=by
 obtain⟨a,b,c,d,e,f,g⟩:=h1;refine⟨hk,a,b,c,λy hy h=>?_,e,f,h3,λi hi=>?_,g⟩;·exact Zo.1 h2 _ (d y hy h)
 ·exact lZ (wX.1 h4 i hi)
def rd0(d:D)(ρ:Ev):rdV (some (.val d)::ρ) 0=.ok d:=rfl
def rd1(a0:Option Sl)(d:D)(ρ:Ev):rdV (a0::some (.val d)::ρ) 1=.ok d:=rfl
def rd2(a0 a1:Option Sl)(d:D)(ρ:Ev):rdV (a0::a1::some (.val d)::ρ) 2=.ok d:=rfl
def rd3(a0 a1 a2:Option Sl)(d:D)(ρ:Ev):rdV (a0::a1::a2::some (.val d)::ρ) 3=.ok d:=rfl
def rd4(a0 a1 a2 a3:Option Sl)(d:D)(ρ:Ev):rdV (a0::a1::a2::a3::some (.val d)::ρ) 4=.ok d:=rfl
def rd5(a0 a1 a2 a3 a4:Option Sl)(d:D)(ρ:Ev):rdV (a0::a1::a2::a3::a4::some (.val d)::ρ) 5=.ok d:=rfl
def rd6(a0 a1 a2 a3 a4 a5:Option Sl)(d:D)(ρ:Ev):rdV (a0::a1::a2::a3::a4::a5::some (.val d)::ρ) 6=.ok d:=rfl
section
variable{f:List D->R D}{ga gc gd:Ev->R D}
def DR:aD 1 f (aa ga λ_=>.ok []) ρ=ga ρ>>=λx=>f [x]:=by unfold aD aa;cases ga ρ <;> rfl
def yU:aD 2 f (aa ga (aa gb λ_=>.ok [])) ρ=ga ρ>>=λx=>gb ρ>>=λy=>f [x,y]:=by
 unfold aD aa;cases ga ρ <;> try rfl
 simp only[aa,R.ok_bind];cases gb ρ <;> rfl
def Bd:aD 3 f (aa ga (aa gb (aa gc λ_=>.ok []))) ρ=ga ρ>>=λx=>gb ρ>>=λy=>gc ρ>>=λz=>f [x,y,z]:=by
 unfold aD aa;cases ga ρ <;> try rfl
 simp only[aa,R.ok_bind];cases gb ρ <;> try rfl
 simp only[R.ok_bind];cases gc ρ <;> rfl
end
noncomputable def At(N:List Str)(i:Nat)(x:Str):Prop:=N[i]?=some x
def at0{l:List Str}:At (x::l) 0 x:=rfl
def at1{l:List Str}:At (y0::x::l) 1 x:=rfl
def at2{l:List Str}:At (y0::y1::x::l) 2 x:=rfl
def at3{l:List Str}{y2:Str}:At (y0::y1::y2::x::l) 3 x:=rfl
def at4{l:List Str}{y2 y3:Str}:At (y0::y1::y2::y3::x::l) 4 x:=rfl
def at5{l:List Str}{y2 y3 y4:Str}:At (y0::y1::y2::y3::y4::x::l) 5 x:=rfl
def at6{l:List Str}{y2 y3 y4 y5:Str}:At (y0::y1::y2::y3::y4::y5::x::l) 6 x:=rfl
def at7{l:List Str}{y2 y3 y4 y5 y6:Str}:At (y0::y1::y2::y3::y4::y5::y6::x::l) 7 x:=rfl
def at8{l:List Str}{y2 y3 y4 y5 y6 y7:Str}:At (y0::y1::y2::y3::y4::y5::y6::y7::x::l) 8 x:=rfl
section
variable{N:List Str}
def ae{w:World}{K:PySem.W.Frag}{mg:Str->Option Value}{base:Heap}{A:Around}{outer:List Env}{E:XK}(h:At N i x)(hv:Vis (fc CX P w K mg base N qual scope f cdv A outer s H E).env.scope x:=by first|exact Or.inl rfl|exact Or.inr (Or.inl rfl)|exact Or.inr (Or.inr rfl))(hd:(x==("__debug__":Str))=false:=by decide)(hcd:(x==("__classdict__":Str))=false:=by decide):PF (fc CX P w K mg base N qual scope f cdv A outer s H E) (.Name x pos) (λρ=>rdV ρ i):=wb i h hv hd hcd
def bt{s₂:Shared}{H₂:Hp}(h:At N i x)(hv:Vis (cy X N scope C s₂ H₂ fp).env.scope x:=by first|exact Or.inl rfl|exact Or.inr (Or.inl rfl)|exact Or.inr (Or.inr rfl))(hd:(x==("__debug__":Str))=false:=by decide)(hcd:(x==("__classdict__":Str))=false:=by decide):PF (cy X N scope C s₂ H₂ fp) (.Name x pos) (λρ=>rdV ρ i):=wb i h hv hd hcd
def cW{w:World}{K:PySem.W.Frag}{mg:Str->Option Value}{base:Heap}{A:Around}{outer:List Env}{E:XK}{e:Expr}{ga:Ev->R D}(h:At N i x)(hN:N.Nodup)(he:PF (fc CX P w K mg base N qual scope f cdv A outer s H E) e ga)(hx:Loc (fc CX P w K mg base N qual scope f cdv A outer s H E).env.scope x:=by first|exact Or.inl rfl|exact Or.inr rfl)(hs:swapsWithSole [.Name x p] e pos.line (fc CX P w K mg base N qual scope f cdv A outer s H E).env=pure false:=by rfl)(hw:swappedStores [.Name x p] e (fc CX P w K mg base N qual scope f cdv A outer s H E).env=pure none:=by rfl)(hf:(fc CX P w K mg base N qual scope f cdv A outer s H E).fn x=true\/(fc CX P w K mg base N qual scope f cdv A outer s H E).env.scope.names.lookup x=some .local:=by first|exact .inl rfl|exact .inr rfl):
  PSF (fc CX P w K mg base N qual scope f cdv A outer s H E) (.Assign [.Name x p] e pos) (fA i ga):=KW i hN he h hx hs hw hf
end
def Fh{ga:Ev->R D}(h:aa ga (λ_=>.ok []) ρ=.ok ds):ds.length<=1:=by
 unfold aa at h;cases e:ga ρ with
 |ok x=>rw[e]at h;cases h;exact yh _
 |ex C=>rw[e]at h;cases h
 |no=>rw[e]at h;cases h
structure Ref(x:Str)(C:Addr)(mg:Str->Option Value)(base:Heap):Prop where
 ex:∃bm B newId initId,OwnCls x C bm newId mg base/\ExcBaseFacts B newId initId bm
def ip{e:Expr}{ga:Ev->R D}{np cp:Pos}(r:Ref x C X.mg X.base)(hh:X.A.handled=none)(ha:PF X e ga)(hg:Gl X x:=by rfl)(hdb:(x==("__debug__":Str))=false:=by decide)(hs:starEach [e] X.env=(false,eval e X.env)::starEach [] X.env:=by rfl):
  PSF X (.Raise (some (.Call (.Name x np) [e] [] cp)) none pos) (iy C (aa ga λ_=>.ok [])):=by
 obtain⟨bm,B,newId,initId,Oc,FB⟩:=r.ex;exact xb Oc FB hh hg (ac ha ad hs) hdb hs (λρ ds h=>Fh h)
noncomputable def L8(i:Nat)(ga:Ev->R D):Ev->O:=λρ=>(ownAt ρ i).out ρ λds=>(ga ρ).out ρ λd=>(asL d).out ρ λes=>if ds.length+es.length<=sizeLine then .nx (ρ.set i (some (.own (ds++es))))else .no
noncomputable def yk(i:Nat)(ga:Ev->R D):Ev->O:=λρ=>(ownAt ρ i).out ρ λds=>(ga ρ).out ρ λd=>if ds.length<sizeLine then .nx (ρ.set i (some (.own (ds++[d]))))else .no
noncomputable def Oi(i j:Nat)(gl:Ev->R (List D)):Ev->O:=λρ=>(gl ρ).out ρ λds=>(pQ [i,j] ds ρ).out ρ .nx
section
variable{cS:List Stmt}{e c o:Expr}{g:Ev->O}{ga:Ev->R D}{p2:Pos}
def BV(i:Nat){ap cp:Pos}(he:PF X e ga)(hi:X.N[i]?=some x:=by rfl)(hv:Vis X.env.scope x:=by first|exact Or.inl rfl|exact Or.inr (Or.inl rfl))(hd:(x==("__debug__":Str))=false:=by decide)(hcd:(x==("__classdict__":Str))=false:=by decide)(hs1:starEach [e] X.env=(false,eval e X.env)::starEach [] X.env:=by rfl)(hbase:attributeBase (.Name x p) "extend" X.env (eval (.Name x p) X.env)=eval (.Name x p) X.env:=by rfl)(hfew:((backTo cp (starEach [e] X.env)).all (λx=>!x.1) && (backToKw cp (keywordEach [] X.env)).all (λx=>x.1.isSome)
 && decide ([e].length+([]:List Keyword).length+(if ([]:List Keyword).isEmpty then 0 else 1)<30))=true:=by rfl)(hline:(ap.endLine==cp.line)=true:=by rfl)(hs:swapsWith (.Call (.Attribute (.Name x p) "extend" ap) [e] [] cp) none pos.line X.env=pure false:=by rfl):
  PSF X (.Expr (.Call (.Attribute (.Name x p) "extend" ap) [e] [] cp) pos) (L8 i ga):=uN i he hi hv hd hcd hs1 hbase hfew hline hs
def fy(i:Nat){ap cp:Pos}(he:PF X e ga)(hi:X.N[i]?=some x:=by rfl)(hv:Vis X.env.scope x:=by first|exact Or.inl rfl|exact Or.inr (Or.inl rfl))(hd:(x==("__debug__":Str))=false:=by decide)(hcd:(x==("__classdict__":Str))=false:=by decide)(hs1:starEach [e] X.env=(false,eval e X.env)::starEach [] X.env:=by rfl)(hbase:attributeBase (.Name x p) "append" X.env (eval (.Name x p) X.env)=eval (.Name x p) X.env:=by rfl)(hfew:((backTo cp (starEach [e] X.env)).all (λx=>!x.1) && (backToKw cp (keywordEach [] X.env)).all (λx=>x.1.isSome)
 && decide ([e].length+([]:List Keyword).length+(if ([]:List Keyword).isEmpty then 0 else 1)<30))=true:=by rfl)(hline:(ap.endLine==cp.line)=true:=by rfl)(hs:swapsWith (.Call (.Attribute (.Name x p) "append" ap) [e] [] cp) none pos.line X.env=pure false:=by rfl):
  PSF X (.Expr (.Call (.Attribute (.Name x p) "append" ap) [e] [] cp) pos) (yk i ga):=vt i he hi hv hd hcd hs1 hbase hfew hline hs
def EO(h:PF X (.Name x pos) ga):PB X (.Name x pos) (aq ie ga):=zW h
def uv{sts:List Stmt}(i:Nat)(h:oB X sts g):oB X sts (Ce i g):=AN i h
end
structure Errs(K:PySem.W.Frag)(mg:Str->Option Value)(rs:List Addr)(ts:List (Str×Addr)):Prop where
 na:∀t∈ts,mg t.1=some (.ref t.2)
 ec:∀r∈rs,ExcCls K r
 kit:∀r∈rs,∀t∈ts,PySem.W.kitOne K (.ref r) (.ref t.2)=some (r==t.2)
 ve:∀r∈rs,PySem.W.kitOne K (.ref r) (.type "ValueError")=some true
 le:∃L,mg "LineError"=some (.ref L)/\∀r∈rs,PySem.W.exmOne K (.ref r) (.ref L)=some true
noncomputable def fl:Nat->D->Bool
 | 0,_=>false
 |n+1,.tup xs=>xs.all (fl n)
 |_+1,.lst _ _=>false
 |_+1,.exc _=>false
 |_+1,.dct _ _=>false
 |_+1,_=>true
theorem nq{K:PySem.W.Frag}{G G2:Hp}{n:Nat}(ih:∀v d,fl n d=true->Rep K G v d->Rep K G2 v d):∀{vs:List V}{ds:List D},ds.all (fl n)=true->Reps K G vs ds->Reps K G2 vs ds
 |_,_,_,.nil=>.nil
 |_,_,h,.cons r t=>by rw[oR,w5]at h;exact .cons (ih _ _ h.1 r) (nq ih h.2 t)
theorem nR{K:PySem.W.Frag}{G G2:Hp}(h:∀a o,G a=some o->(∀vs,o≠HO.lst vs)->G2 a=some o):∀(n:Nat)(v:V)(d:D),fl n d=true->Rep K G v d->Rep K G2 v d
 | 0,_,_,hf,_=>by simp[fl]at hf
 |n+1,v,d,hf,r=>by
  cases r with
  |non=>exact .non
  |bl b=>exact .bl b
  |int i=>exact .int i
  |str x hx=>exact .str x hx
  |tup hs t=>
   refine .tup ?_ (nq (λv d=>nR h n v d) hf t);rcases hs with (q|⟨o,q⟩)|q;·exact .inl (.inl (h _ _ q λvs z=>by cases z))
   ·exact .inl (.inr ⟨o,h _ _ q λvs z=>by cases z⟩)
   ·exact .inr q
  |lst hs t=>simp[fl]at hf
  |fls hs t=>simp[fl]at hf
  |exc hs=>simp[fl]at hf
  |dct _ _ _=>simp[fl]at hf
def StR.peek{K:PySem.W.Frag}{H₀:Hp}(s:StR K G₀ H₀ G H σ ρ)(i:Nat):∃G1,StE K G1 H σ (L2.frz i ρ)/\
  ∀G' H',Up G1 H G' H'->∃G2,Up G H G2 H'/\∀a o,G' a=some o->(∀vs,o≠HO.lst vs)->G2 a=some o:=by
 obtain⟨G1,sr,e|⟨l,vs,hl,e⟩⟩:=s.frzTo i;·subst e;exact⟨G1,sr.e,λG' H' u=>⟨G',u,λa o q _=>q⟩⟩
 ·subst e;refine⟨_,sr.e,λG' H' u=>⟨λa=>if a=l then none else G' a,⟨λa o q=>?_,λa o q=>?_,u.hh,λa o q=>?_⟩,λa o q hq=>?_⟩⟩
  ·have q:(if a=l then none else G' a)=some o:=q;split at q;·cases q
   ·exact u.sub a o q
  ·have ne:a≠l:=λz=>by subst z;rw[hl]at q;cases q
   show(if a=l then none else G' a)=some o;rw[if_neg ne];exact u.gg a o (by rw[am ne];exact q)
  ·have q:(if a=l then none else G' a)=some o:=q;split at q;·cases q
   ·rename_i ne;rcases u.fr a o q with z|z;·rw[am ne]at z;exact .inl z
    ·exact .inr z
  ·have ne:a≠l:=λz=>by subst z;have:=u.gg a _ az;rw[q]at this;cases this;exact hq vs rfl
   show(if a=l then none else G' a)=some o;rw[if_neg ne];exact q
section
variable{cS a b:List Stmt}{e c:Expr}{g g1 g2:Ev->O}{ga:Ev->R D}{gt:Ev->R Bool}
noncomputable def He(i:Nat)(gt:Ev->R Bool)(g1 g2:Ev->O):Ev->O:=λρ=>(de (gt (frz i ρ))).out ρ λk=>if k=true then g1 ρ else g2 ρ
def E7(i:Nat)(hc:PB X c gt)(ha:oB X a g1)(hb:oB X b g2):PSF X (.If c a b pos) (He i gt g1 g2):=λG₀ H₀ pins s σ H D I h=>by
 refine Gg hc (ha G₀ H₀) (hb G₀ H₀) pins s σ H D I ?_;obtain⟨G,ρ,sr,h⟩:=h;have h:hU X G₀ H₀ D ((de (gt (frz i ρ))).out ρ λk=>if k=true then g1 ρ else g2 ρ):=h;obtain⟨G1,st1,pk⟩:=sr.peek i;refine⟨G1,_,st1,?_⟩;cases q:gt (frz i ρ)with
 |ok k=>
  rw[q]at h;intro b' G' H' u r;subst r;obtain⟨G2,u2,_⟩:=pk G' H' u;cases b' with
  |true=>rw[if_pos rfl];exact⟨G2,ρ,sr.ups u2,by simpa[R.out,de]using h⟩
  |false=>rw[if_neg uq];exact⟨G2,ρ,sr.ups u2,by simpa[R.out,de]using h⟩
 |_=>rw[q]at h;exact h.elim
noncomputable def Bb(j i:Nat)(ga:Ev->R D):Ev->O:=λρ=>(de (ga (frz j ρ))).out ρ λd=>if fl 10 d=true then .nx (ρ.set i (some (.val d)))else .no
def D1(j i:Nat)(hN:X.N.Nodup)(he:PF X e ga)(hi:X.N[i]?=some x:=by rfl)(hx:Loc X.env.scope x:=by first|exact Or.inl rfl|exact Or.inr rfl)(hs:swapsWithSole [.Name x p] e pos.line X.env=pure false:=by rfl)(hw:swappedStores [.Name x p] e X.env=pure none:=by rfl)(hf:X.fn x=true\/X.env.scope.names.lookup x=some .local:=by first|exact .inl rfl|exact .inr rfl):
  PSF X (.Assign [.Name x p] e pos) (Bb j i ga):=λG₀ H₀ pins s σ H D I h=>by
 refine hW he (dP (i:=i) hN hi hx hf) hs hw rfl pins s σ H D I ?_;obtain⟨G,ρ,sr,h⟩:=h;have h:hU X G₀ H₀ D ((de (ga (frz j ρ))).out ρ λd=>if fl 10 d=true then .nx (ρ.set i (some (.val d)))else .no):=h;obtain⟨G1,st1,pk⟩:=sr.peek j;refine⟨G1,_,st1,?_⟩;cases q:ga (frz j ρ)with
 |ok d=>
  rw[q]at h;intro v G' H' u r;obtain⟨G2,u2,tr⟩:=pk G' H' u;have h:hU X G₀ H₀ D (if fl 10 d=true then .nx (ρ.set i (some (.val d)))else .no):=h;by_cases hfl:fl 10 d=true;·rw[if_pos hfl]at h;exact h _ G2 _ ((sr.ups u2).set (nR tr 10 v d hfl r) i)
  ·rw[if_neg hfl]at h;exact h.elim
 |_=>rw[q]at h;exact h.elim
noncomputable def LO(j i:Nat)(ga:Ev->R D):Ev->O:=λρ=>(ownAt ρ i).out ρ λds=>(de (ga (frz j ρ))).out ρ λd=>if ds.length<sizeLine/\fl 10 d=true then .nx (ρ.set i (some (.own (ds++[d]))))else .no
noncomputable def xy(i:Nat)(gk ga:Ev->R D):Ev->O:=λρ=>(ownAt ρ i).out ρ λds=>(de (ga (frz i ρ))).out ρ λd=>(de (gk (frz i ρ)>>=asI)).out ρ λk=>match ixN ds.length k with
 |some n=>if fl 10 d=true then .nx (ρ.set i (some (.own (ds.set n d))))else .no
 |none=>.no
def Au(i:Nat){tp:Pos}{ix:Expr}{gk:Ev->R D}(he:PF X e ga)(hk:PF X ix gk)(hi:X.N[i]?=some x:=by rfl)(hv:Vis X.env.scope x:=by first|exact Or.inl rfl|exact Or.inr (Or.inl rfl))(hd:(x==("__debug__":Str))=false:=by decide)(hcd:(x==("__classdict__":Str))=false:=by decide)(hs:swapsWithSole [.Subscript (.Name x p) ix tp] e pos.line X.env=pure false:=by rfl)(hw:swappedStores [.Subscript (.Name x p) ix tp] e X.env=pure none:=by rfl)(h1':(assignEach [.Subscript (.Name x p) ix tp] X.env).map (·.2)=[assign (.Subscript (.Name x p) ix tp) X.env]:=by rfl)(ha:∀v,assign (.Subscript (.Name x p) ix tp) X.env v=(do
 let ov <- holding [v] (eval (.Name x p) X.env);let iv <- holding [v,ov] (eval ix X.env)
 standAt tp
 holding [v,ov,iv] (setItem ov iv v)
 release [v,ov,iv] []):=by intro _;rfl):
  PSF X (.Assign [.Subscript (.Name x p) ix tp] e pos) (xy i gk ga):=λG₀ H₀ pins s σ H D I h=>by
 refine hW he (D3 (cK hi hv hd hcd) hk Cc ha) hs hw h1' pins s σ H D I ?_;obtain⟨G,ρ,sr,h⟩:=h;have h:hU X G₀ H₀ D ((ownAt ρ i).out ρ λds=>(de (ga (frz i ρ))).out ρ λd=>(de (gk (frz i ρ)>>=asI)).out ρ λk=>match ixN ds.length k with
  |some n=>if fl 10 d=true then .nx (ρ.set i (some (.own (ds.set n d))))else .no
  |none=>.no):=h;obtain⟨ds,e1,h⟩:=ownAt.ok h;obtain⟨l,vs,h1,h2,h3,h4,h5⟩:=sr.own i ds e1;obtain⟨G1,st1,pk⟩:=sr.peek i;refine⟨G1,_,st1,?_⟩;cases q:ga (frz i ρ)with
 |ok d=>
  rw[q]at h;intro v G' H' u r;have h:hU X G₀ H₀ D ((de (gk (frz i ρ)>>=asI)).out ρ λk=>match ixN ds.length k with
   |some n=>if fl 10 d=true then .nx (ρ.set i (some (.own (ds.set n d))))else .no
   |none=>.no):=h;show KG _ _ _ v σ H' _;refine⟨.ref l,h1,G',_,st1.up u,?_⟩;cases q2:gk (frz i ρ)with
  |ok kd=>
   rw[q2]at h;intro kv G'' H'' u' rk;cases rk with
   |int k=>
    have h:hU X G₀ H₀ D (match ixN ds.length k with
     |some n=>if fl 10 d=true then .nx (ρ.set i (some (.own (ds.set n d))))else .no
     |none=>.no):=h;obtain⟨G2,u2,tr⟩:=pk G'' H'' (u.trans u');cases q3:ixN ds.length k with
    |none=>rw[q3]at h;exact h.elim
    |some n=>
     rw[q3]at h;have h:hU X G₀ H₀ D (if fl 10 d=true then .nx (ρ.set i (some (.own (ds.set n d))))else .no):=h;by_cases hz:fl 10 d=true;·rw[if_pos hz]at h;refine⟨l,vs,k,n,rfl,rfl,(u.trans u').hh _ _ h2,by rw[h5.length];exact q3,h _ G2 _ ?_⟩;exact(sr.ups u2).mut e1 h1 (.set (nR tr 10 v d hz (r.mono u'.gg)) n (h5.mono u2.gg))
     ·rw[if_neg hz]at h;exact h.elim
   |_=>exact h.elim
  |_=>rw[q2]at h;exact h.elim
 |_=>rw[q]at h;exact h.elim
noncomputable def NM:D->R (List D)
 |.lst _ xs=>.ok xs
 |.tup xs=>.ok xs
 |_=>.no
noncomputable def Gn:List D->R (List D)
 | [d]=>NM d
 |_=>.no
noncomputable def zO(gl:Ev->R (List D)):Ev->R (List D):=λρ=>gl ρ>>=Gn
def oZ(hg:Gl X "list")(hm:X.mg "list"=none)(ha:PFA X [e] gl)(he:starEach [e] X.env=(false,eval e X.env)::starEach [] X.env:=by rfl):PFL X (.Call (.Name "list" p) [e] [] pos) (zO gl):=by
 intro pins s σ H Q I hq;refine jQ kP hg hm PyProof.Rows.Boot.«list» ha (by decide) (by decide) he rfl pins s σ H Q I ?_;obtain⟨G,ρ,st,hq⟩:=hq;have hq:(gl ρ>>=Gn).post (nY X.K G H Q) (Exx X σ G H):=hq;refine⟨G,ρ,st,?_⟩;cases q:gl ρ with
 |ok ds=>
  rw[q]at hq;intro vs G' H' u r;have hq:(Gn ds).post (nY X.K G H Q) (Exx X σ G H):=hq;unfold Gn at hq;split at hq
  ·obtain⟨v,rfl,rv⟩:=r.one;cases rv with
   |lst hs t=>exact⟨_,_,rfl,.inl (.of (u.sub _ _ hs)),λl hl=>hq l _ G' H' u hl t⟩
   |fls hs t=>exact⟨_,_,rfl,.inl (hs.mono u.sub),λl hl=>hq l _ G' H' u hl t⟩
   |tup hs t=>exact⟨_,_,rfl,.inr (hs.mono u.sub),λl hl=>hq l _ G' H' u hl t⟩
   |_=>exact hq.elim
  ·exact hq.elim
 |ex C=>rw[q]at hq;exact hq
 |no=>rw[q]at hq;exact hq
def AE{a b:Expr}(hg:Gl X "range")(hm:X.mg "range"=none)(ha:PFA X [a,b] gl)(hs:starEach [a,b] X.env=[(false,eval a X.env),(false,eval b X.env)]:=by rfl)(hs2:starEach [b] X.env=[(false,eval b X.env)]:=by rfl):PIF X tg (.Call (.Name "range" p) [a,b] [] pos) (aq jm gl):=wR hg hm ha hs hs2
end
end L2
namespace L2
open PySem PySem.Spec PyProof.Rows PySem.W
section
variable{A:Around}{Q:Value->Shared->Prop}
def EF{x:V}{u:Value}{T:String}{b:Bool}{tp:Addr}{cs:List Value}(I:Inv X pins σ H s)(sub:Same G H)(r:Rep X.K G x d)(ru:RelV x u)(ht:tyN d=some T)(htp:IsTup s.heap tp cs.toArray)(e:kitAny X.K (.type T) cs=some b)(h:∀tk,Q (.bool b) { s with toks:=tk }):
  wpAny (model X.prog X.w) A (call (.builtin "isinstance") [u,.ref tp]) Q E s:=by
 obtain⟨⟨cls,dd,data,sl⟩,ho,hc,n,hd⟩:=htp;simp only at hc hd;subst hc hd;cases r with
 |non=>cases ht;cases ru;exact kia_tup kitx_none I.kIn True.intro ho e (λz=>nomatch z) h
 |bl y=>cases ht;cases ru;exact kia_tup kitx_bool I.kIn True.intro ho e (λz=>nomatch z) h
 |int i=>cases ht;obtain⟨t,rfl⟩:=ru;exact kia_tup kitx_int I.kIn True.intro ho e (λz=>nomatch z) h
 |str y hy=>cases ht;obtain⟨t,rfl⟩:=ru;exact kia_tup kitx_str I.kIn True.intro ho e (λz=>nomatch z) h
 |tup hh t=>cases ht;cases ru;obtain⟨its,rv,⟨o,h1,h2,_⟩,_⟩:=I.tuple (hh.mono sub);exact kia_tup kitx_tuple I.kIn ⟨o,h1,h2⟩ ho e (λz=>nomatch z) h
 |lst hh t=>cases ht;cases ru;obtain⟨its,rv,⟨o,n,h1,h2,_⟩,_⟩:=I.list ((SqL.of hh:SqL X.K G _ _).mono sub);exact kia_tup kitx_list I.kIn ⟨o,h1,h2⟩ ho e (λz=>nomatch z) h
 |fls hh t=>cases ht;cases ru;obtain⟨its,rv,⟨o,n,h1,h2,_⟩,_⟩:=I.list (hh.mono sub);exact kia_tup kitx_list I.kIn ⟨o,h1,h2⟩ ho e (λz=>nomatch z) h
 |exc hh=>cases ht
 |dct _ _ _=>cases ht
end
noncomputable def Eb(t:String):Bool:=t=="list" || t=="tuple"
def JC(K:Frag):∀t∈["NoneType","bool","int","str","tuple","list"],kitAny K (.type t) [.type "list",.type "tuple"]=some (Eb t):=by intro t ht;simp only[xO,n5,n6]at ht;rcases ht with rfl|rfl|rfl|rfl|rfl|rfl <;> rfl
section
variable{e:Expr}{ga:Ev->R D}{p2 p3 p4:Pos}
def DL(hm:X.mg "isinstance"=none)(ha:PF X e ga)(hm2:X.mg "list"=none)(hm3:X.mg "tuple"=none)(hg2:Gl X "list":=by rfl)(hg3:Gl X "tuple":=by rfl)(hg:Gl X "isinstance":=by rfl)(hs1:starEach [e,.Tuple [.Name "list" p2,.Name "tuple" p3] k p4] X.env=(false,eval e X.env)::starEach [.Tuple [.Name "list" p2,.Name "tuple" p3] k p4] X.env:=by rfl)(hs2:starEach [.Tuple [.Name "list" p2,.Name "tuple" p3] k p4] X.env=(false,eval (.Tuple [.Name "list" p2,.Name "tuple" p3] k p4) X.env)::starEach [] X.env:=by rfl):
  PF X (.Call (.Name "isinstance" p) [e,.Tuple [.Name "list" p2,.Name "tuple" p3] k p4] [] pos) (aq (gZ Eb) ga):=by
 intro pins s σ H Q I h;have hc:kg X (.builtin "isinstance") (λxs H Q=>∃x G d tp,xs=[x,.ref tp]/\Same G H/\Rep X.K G x d/\H tp=some (.tup [.ty "list",.ty "tuple"])/\∃t,tyN d=some t/\Q (.bl (Eb t)) H):=by
  intro pins s σ H xs us Q I r ⟨x,G,d,tp,ex,sub,rd,htp,t,et,q⟩;subst ex;obtain⟨u,u2,rfl,r1,r2⟩:=r.two;cases r2;obtain⟨its,rv,it,_⟩:=I.tuple (xs:=[.ty "list",.ty "tuple"]) (.of htp);obtain⟨c1,c2,rfl,q1,q2⟩:=rv.two;cases q1;cases q2;refine EF I sub rd r1 et it (JC X.K t ?_) λtk=>⟨.bl (Eb t),H,I.tok tk,rfl,q⟩
  cases d <;> cases et <;> simp
 refine qq hc hg hm PyProof.Rows.Boot.«isinstance» (bE ha (bE (AI (bE (uW (v:=.ty "list") hg2 hm2 PyProof.Rows.Boot.«list» rfl (by decide) (by decide)) (bE (uW (v:=.ty "tuple") hg3 hm3 PyProof.Rows.Boot.«tuple» rfl (by decide) (by decide)) eJ rfl) rfl)) eJ hs2) hs1) (by decide) (by decide) hs1 rfl pins s σ H Q I ?_;obtain⟨G,ρ,st,h⟩:=h;refine tG.intro st h λx v G1 H1 u1 st1 r1 h1=>?_;refine⟨by show 2<=sizeLine;decide,λtp htp=>?_⟩;have sub:Same G1 (upd H1 tp (.tup [.ty "list",.ty "tuple"])):=λa o q=>by rw[am (aC (st1.sub a o q) htp)];exact st1.sub a o q
 refine⟨v,G1,x,tp,rfl,sub,r1,az,?_⟩;unfold gZ at h1;cases et:tyN x with
 |none=>rw[et]at h1;exact h1.elim
 |some t=>rw[et]at h1;exact⟨t,rfl,h1 _ G1 _ ⟨sub,.refl _,.into htp,λ_ _ z=>.inl z⟩ (.bl _)⟩
end
noncomputable def lr:List D->Option (List (List Nat))
 | []=>some []
 |.str x::ds=>(lr ds).map (x::·)
 |_=>none
noncomputable def tW(sep:List Nat):List (List Nat)->List Nat
 | []=>[]
 | [x]=>x
 |x::y::r=>x++sep++tW sep (y::r)
noncomputable def Bu:D->List D->Option D
 |.str s,[.lst _ ds]=>match lr ds with
  |some xs=>if (xs.map List.length).sum+xs.length * s.length<=sizeLine then some (.str (tW s xs))else none
  |none=>none
 |_,_=>none
theorem Reps.strs{K:PySem.W.Frag}:∀{vs:List V}{ds:List D}{xs:List (List Nat)},Reps K G vs ds->lr ds=some xs->∃ys:List Str,vs=ys.map V.str/\ys.map (λy=>y.cps.toList)=xs
 |_,_,_,.nil,h=>by cases h;exact⟨[],rfl,rfl⟩
 |_,_,xs,.cons (d:=d) r t,h=>by
  cases d <;> first|(cases h;done)|skip
  rename_i x;rename_i ds';cases q:lr ds' with
  |none=>simp[lr,q]at h
  |some zs=>simp[lr,q]at h;obtain⟨ys,e1,e2⟩:=Reps.strs t q;obtain⟨y,rfl,ey,_⟩:=r.str_inv;exact⟨y::ys,by rw[e1];rfl,by rw[x9,e2,ey];exact h⟩
theorem Vals.strs:∀{ys:List Str}{us:List Value},Vals (ys.map V.str) us->StrsAre us ys
 | [],_,h=>by cases h;exact .nil
 |y::ys,_,h=>by
  cases h with
  |cons a b=>obtain⟨t,rfl⟩:=a;exact .cons y t (Vals.strs b)
def sR(s:Str):∀ys:List Str,(Txt.join s ys).cps.toList=tW s.cps.toList (ys.map λy=>y.cps.toList):=by
 intro ys;show(Builtin.Str.glued s ys).cps.toList=_;rw[StrLaws.glued_eq_join];induction ys with
 |nil=>rfl
 |cons y r ih=>
  cases r with
  |nil=>rfl
  |cons z r=>show(y++s++Str.join s (z::r)).cps.toList=_;rw[Str.app_list,Str.app_list,ih];rfl
theorem kU(s:List Nat):∀xs:List (List Nat),(tW s xs).length<=(xs.map List.length).sum+xs.length * s.length
 | []=>by simp[tW]
 | [x]=>by simp[tW]
 |x::y::r=>by have:=kU s (y::r);simp only[tW,ud,x9,c8,v4,Nat.succ_mul]at this⊢;omega
noncomputable def IC(K:PySem.W.Frag):V->List V->Hp->VK->Prop:=λx vs H Q=>∃(y:Str)(p:Addr)(ys:List Str),x=.str y/\vs=[.ref p]/\SqL K H p (ys.map V.str)/\(ys.map (·.length)).sum+ys.length * y.length<=16777216/\Q (.str (Txt.join y ys)) H
def FN:MtR X "str.join" (IC X.K):=by intro pins s σ H x xs v us Q I rx rv ⟨y,p,ys,ex,exs,hl,hz,q⟩;subst ex exs;obtain⟨t,rfl⟩:=rx;obtain⟨u,rfl,r1⟩:=rv.one;cases r1;obtain⟨its,rvs,pl,_⟩:=I.list hl;exact join_list pl.isList (Vals.strs (by simpa using rvs)) hz λt' k=>⟨.str _,H,I.tok _,⟨_,rfl⟩,q⟩
def FO(K:PySem.W.Frag):Kh K "str" (IC K) Bu:=by
 intro G H x xs dx ds d Q s rx rs e q;unfold Bu at e;split at e
 ·split at e
  ·rename_i zs hz;split at e
   ·rename_i hle;cases e;obtain⟨v,rfl,r1⟩:=rs.one;obtain⟨y,rfl,ey,hy⟩:=rx.str_inv;obtain⟨a,vs,rfl,hs,rr⟩:=r1.seq_inv;obtain⟨ys,e1,e2⟩:=rr.strs hz;subst e1;subst e2;subst ey;have hle':(ys.map (·.length)).sum+ys.length * y.length<=16777216:=by
     have e3:(ys.map λy=>y.cps.toList).map List.length=ys.map (·.length):=by rw[pS];exact mP λz _=>Str.len_list z
     rw[e3,x8,Str.len_list]at hle;exact hle
    refine⟨y,a,ys,rfl,rfl,hs.mono s,hle',q _ G H (.refl s) (.strL (sR y ys) ?_)⟩;exact w8 (kU _ _) hle
   ·cases e
  ·cases e
 ·cases e
def Hr{o e:Expr}{ga:Ev->R D}{ap cp:Pos}(ho:PF X o ga)(ha:PFA X [e] gl)(hbase:attributeBase o "join" X.env (eval o X.env)=eval o X.env:=by rfl)(hfew:((backTo cp (starEach [e] X.env)).all (λx=>!x.1) && (backToKw cp (keywordEach [] X.env)).all (λx=>x.1.isSome)
 && decide ([e].length+([]:List Keyword).length+(if ([]:List Keyword).isEmpty then 0 else 1)<30))=true:=by rfl)(hline:(ap.endLine==cp.line)=true:=by rfl)(hs:starEach [e] X.env=(false,eval e X.env)::starEach [] X.env:=by rfl):
  PF X (.Call (.Attribute o "join" ap) [e] [] cp) (ox "str" Bu ga gl):=uI Zn PySem.F.slot_str_join PySem.F.type_str_join FN (FO _) ho ha hbase hfew hline hs rfl
noncomputable def ou:List D->Option (List Int)
 | []=>some []
 |.int i::ds=>(ou ds).map (i::·)
 |_=>none
noncomputable def Km:List D->Option D
 | [.lst _ ds]=>match ou ds with
  |some (n::ns)=>some (.int (ns.foldl max n))
  |_=>none
 |_=>none
theorem Reps.nums{K:PySem.W.Frag}:∀{vs:List V}{ds:List D}{ns:List Int},Reps K G vs ds->ou ds=some ns->vs=ns.map V.int
 |_,_,_,.nil,h=>by cases h;rfl
 |_,_,ns,.cons (d:=d) r t,h=>by
  cases d <;> first|(cases h;done)|skip
  rename_i x;rename_i ds';cases q:ou ds' with
  |none=>simp[ou,q]at h
  |some zs=>simp[ou,q]at h;subst h;rw[Reps.nums t q,r.int_inv];rfl
theorem Vals.nums:∀{ns:List Int}{us:List Value},Vals (ns.map V.int) us->us.length=ns.length/\∀(i:Nat) u,us[i]?=some u->∃t,u=.int (ns.getD i 0) t
 | [],_,h=>by cases h;exact⟨rfl,λi u e=>by simp at e⟩
 |n::ns,_,h=>by
  cases h with
  |cons a b=>
   obtain⟨t,rfl⟩:=a;obtain⟨hl,hg⟩:=Vals.nums b;refine⟨by simp[hl],λi u e=>?_⟩;cases i with
   |zero=>simp at e;exact⟨t,e.symm⟩
   |succ i=>simp at e;simpa using hg i u e
theorem lg:∀(ns:List Int)(n:Int),n<=ns.foldl max n/\(∀a∈ns,a<=ns.foldl max n)/\(ns.foldl max n=n\/ns.foldl max n∈ns)
 | [],n=>⟨by simp,by simp,by simp⟩
 |m::ns,n=>by
  obtain⟨h1,h2,h3⟩:=lg ns (max n m);refine⟨?_,?_,?_⟩;·simp only[oH];omega
  ·intro a ha;simp only[oH];rcases xO.1 ha with rfl|ha;·omega
   ·exact h2 a ha
  ·simp only[oH];rcases h3 with h3|h3
   ·rw[h3];rcases Int.le_total n m with q|q;·rw[Int.max_eq_right q];exact .inr (v3 ..)
    ·rw[Int.max_eq_left q];exact .inl rfl
   ·exact .inr (w4 _ h3)
def BW{ns:List Int}{n a:Int}(h:a∈n::ns):∃j,j<(n::ns).length/\(n::ns).getD j 0=a:=by obtain⟨j,hj,e⟩:=List.mem_iff_getElem.1 h;exact⟨j,hj,by rw[v9,w9 hj];exact e⟩
def lK{ns:List Int}{n:Int}(h:j<(n::ns).length):(n::ns).getD j 0∈n::ns:=by rw[v9,w9 h];exact lT h
section
def zY(hc:X.calm=true):kg X (.builtin "max") (λxs H Q=>∃p n ns,xs=[.ref p]/\SqL X.K H p ((n::ns).map V.int)/\Q (.int (ns.foldl max n)) H):=by
 intro pins s σ H xs us Q I r ⟨p,n,ns,ex,hs,q⟩;subst ex;obtain⟨u,rfl,r1⟩:=r.one;cases r1;obtain⟨its,rv,pl,hz⟩:=I.list hs;obtain⟨hlen,hget⟩:=Vals.nums rv;have hh:X.A.in1.handled=none:=I.ok.hd hc;have hlt:p<s.heap.objs.size:=by obtain⟨o,n,e,_⟩:=id pl;exact xh e
 refine call_max_walk (c6 pl.isList ?_);refine⟨s.heap.objs.size,[s.heap.objs.size,p],[s.heap.objs.size],_,_,_,_,rfl,jk hh s.heap.objs.size p (v6 hlt) its.toArray,⟨⟨_,w6 _ rfl,rfl,rfl⟩,?_⟩,?_,?_,CmpOf.ints_gt (λi=>(n::ns).getD i 0) (λi v hv=>hget i v (by simpa using hv)),λv h' tk hP hk=>?_⟩;·obtain⟨o,n,e,c,_,d⟩:=id pl;exact⟨o,yq _ e,c,n,d⟩
 ·intro b hb;have e:(s.heap.push { cls:=.type "list_iterator",data:=.fields #[.ref p,.int 0 0] }).objs.size=s.heap.objs.size+1:=o8 _ _;show b<(s.heap.push { cls:=.type "list_iterator",data:=.fields #[.ref p,.int 0 0] }).objs.size;rw[e];simp only[xO,n5,n6]at hb;rcases hb with rfl|rfl;·exact l8 _
  ·exact Zd hlt
 ·rw[xi,hlen];simp
 ·have hP':its.toArray[argBest (λi j=>decide ((n::ns).getD i 0 > (n::ns).getD j 0)) (its.toArray.size - 1)]?=some v:=hP;rw[List.getElem?_toArray]at hP';obtain⟨t,rfl⟩:=hget _ v hP';have e1:its.toArray.size - 1=ns.length:=by rw[xi,hlen];simp
  obtain⟨a1,a2⟩:=argBest_gt (λi=>(n::ns).getD i 0) ns.length;have e2:(n::ns).getD (argBest (λi j=>decide ((n::ns).getD i 0 > (n::ns).getD j 0)) ns.length) 0=ns.foldl max n:=by
   obtain⟨m1,m2,m3⟩:=lg ns n;refine Int.le_antisymm ?_ ?_
   ·have:=lK (ns:=ns) (n:=n) (j:=argBest (λi j=>decide ((n::ns).getD i 0 > (n::ns).getD j 0)) ns.length) (by rw[v4];exact Nat.lt_succ_of_le a1);rcases xO.1 this with q|q;·rw[q];exact m1
    ·exact m2 _ q
   ·obtain⟨j,hj,e⟩:=BW (ns:=ns) (n:=n) (a:=ns.foldl max n) (by
     rcases m3 with q|q;·rw[q];exact v3 ..
     ·exact w4 _ q);rw[<- e];exact a2 j (by simp at hj;omega)
  rw[e1,e2];refine⟨.int _,H,I.kept (t':=tk) λb o eb=>hk b o (λz=>?_) (yq _ eb),⟨_,rfl⟩,q⟩;have:b=s.heap.objs.size:=by simpa using z
  exact o4 _ (this▸xh eb)
def GM(K:PySem.W.Frag):JW K (λxs H Q=>∃p n ns,xs=[.ref p]/\SqL K H p ((n::ns).map V.int)/\Q (.int (ns.foldl max n)) H) Km:=by
 intro G H xs ds d Q s r e q;unfold Km at e;split at e
 ·split at e;·rename_i n ns hn;cases e;obtain⟨v,rfl,r1⟩:=r.one;obtain⟨a,vs,rfl,hs,rr⟩:=r1.seq_inv;obtain rfl:=rr.nums hn;exact⟨a,n,ns,rfl,hs.mono s,q _ G H (.refl s) (.int _)⟩
  ·cases e
 ·cases e
def Iu{e:Expr}(hc:X.calm=true)(hg:Gl X "max")(hm:X.mg "max"=none)(ha:PFA X [e] gl)(he:starEach [e] X.env=(false,eval e X.env)::starEach [] X.env:=by rfl):
  PF X (.Call (.Name "max" p) [e] [] pos) (gOf Km gl):=lL (zY hc) (GM _) hg hm PyProof.Rows.Boot.«max» ha (by decide) (by decide) he rfl
def pP{e:Expr}{ga:Ev->R D}{p2:Pos}(hm:X.mg "isinstance"=none)(ha:PF X e ga)(hm2:X.mg "list"=none)(hg2:Gl X "list":=by rfl)(hg:Gl X "isinstance":=by rfl)(hs1:starEach [e,.Name "list" p2] X.env=(false,eval e X.env)::starEach [.Name "list" p2] X.env:=by rfl):PF X (.Call (.Name "isinstance" p) [e,.Name "list" p2] [] pos) (aq (gZ (·=="list")) ga):=A9 hm ha hm2 hg2 hg hs1
end
end L2
namespace L2
open PySem PySem.Spec PyProof.Rows
open Sem (wp)
open AutoSeq1 (wpAny_loadPart')
def Ig:isSubtype (.type "enumerate") (.type "enumerate")=pure true:=PySem.sub_enumerate
def EI(l:Addr)(its:Array Value)(n:Nat)(dct:Option Addr)(sl:Array (Option Value)):
  Meets (Builtin.«enumerate.__new__» ⟨[.type "enumerate",.ref l],[]⟩) (λ_ Rr s=>s.heap.get? l=some { cls:=.type "tuple",dict:=dct,data:=.seq its n,slots:=sl }/\
   Rr (.ok (.ret (.ref (s.heap.push { cls:=.type "tuple_iterator",data:=.fields #[.ref l,.int 0 0] }).objs.size)))
    { s with heap:=(s.heap.push { cls:=.type "tuple_iterator",data:=.fields #[.ref l,.int 0 0] }).push { cls:=.type "enumerate",data:=.fields #[.none,.bool false,.ref s.heap.objs.size,rawInt 0,.none,.none] } }):=
 .of_wp λprog w A Rr s h=>by
  obtain⟨hp,g,d,tk,os⟩:=s;obtain⟨hl,h⟩:=h;have hsub:=Ig;have hT:Heap.IsTuple (Shared.heap ⟨hp,g,d,tk,os⟩) l its:=⟨_,hl,rfl,n,rfl⟩
  wp_walk using Zp hl
  refine wpAny_stack_any λst=>y9 ?_;split;·rename_i c _ _ _ _ _;cases (c==Value.type "enumerate") <;> (wp_walk using Zp hl,Zc hT;exact⟨_,rfl,h⟩)
  ·wp_walk using Zp hl,Zc hT
   exact⟨_,rfl,h⟩
section
variable{prog:Program}{w:World}{A:Around}
def GK{itT:String}{l:Addr}{c:Int}{Q:Value->Shared->Prop}(h:∀h',IsEnum h' (s.heap.objs.size+1) s.heap.objs.size c .none->h'.get? s.heap.objs.size=some { cls:=.type itT,data:=.fields #[.ref l,.int 0 0] }->h'.objs.size=s.heap.objs.size+2->
 (∀b o,s.heap.get? b=some o->h'.get? b=some o)->Q (.ref (s.heap.objs.size+1)) { s with heap:=h' }):
  wants (λobj s₁=>s₁.TypeIs obj "enumerate"/\Q obj s₁) E (.ok (.ret (.ref (s.heap.push { cls:=.type itT,data:=.fields #[.ref l,.int 0 0] }).objs.size)))
   { s with heap:=(s.heap.push { cls:=.type itT,data:=.fields #[.ref l,.int 0 0] }).push { cls:=.type "enumerate",data:=.fields #[.none,.bool false,.ref s.heap.objs.size,rawInt c,.none,.none] } }:=by
 have hz:(s.heap.push { cls:=.type itT,data:=.fields #[.ref l,.int 0 0] }).objs.size=s.heap.objs.size+1:=o8 ..;have he:IsEnum ((s.heap.push { cls:=.type itT,data:=.fields #[.ref l,.int 0 0] }).push { cls:=.type "enumerate",data:=.fields #[.none,.bool false,.ref s.heap.objs.size,rawInt c,.none,.none] }) (s.heap.objs.size+1) s.heap.objs.size c .none:=by have q:=w6 (s.heap.push { cls:=.type itT,data:=.fields #[.ref l,.int 0 0] }) (o:={ cls:=.type "enumerate",data:=.fields #[.none,.bool false,.ref s.heap.objs.size,rawInt c,.none,.none] }) rfl;rw[hz]at q;exact q
 show _/\_;rw[hz];exact⟨⟨_,he,rfl⟩,h _ he (yq _ (w6 _ rfl)) (by rw[o8,hz]) λb o x=>yq _ (yq _ x)⟩
theorem CN{l:Addr}{its:Array Value}{n:Nat}{dct:Option Addr}{sl:Array (Option Value)}{Q:Value->Shared->Prop}(hl:s.heap.get? l=some { cls:=.type "tuple",dict:=dct,data:=.seq its n,slots:=sl })(h:∀h',IsEnum h' (s.heap.objs.size+1) s.heap.objs.size 0 .none->h'.get? s.heap.objs.size=some { cls:=.type "tuple_iterator",data:=.fields #[.ref l,.int 0 0] }->h'.objs.size=s.heap.objs.size+2->
 (∀b o,s.heap.get? b=some o->h'.get? b=some o)->Q (.ref (s.heap.objs.size+1)) { s with heap:=h' }):
  wpAny (model prog w) A (call (.type "enumerate") [.ref l]) Q E s:=
 callType_new F.called_enumerate (by decide) (F.typeCall_enumerate_1 _) (F.newCall_enumerate_1 _) (λobj=>F.args_object_init_2 obj _) F.entry_enumerate_new (EI l its n dct sl) ⟨hl,GK h⟩
def GD{t:Addr}{its:Array Value}{x:Value}{Q:Value->Shared->Prop}(hit:s.heap.IsTupleIter it t i)(ht:s.heap.IsTuple t its)(hx:its[i]?=some x)(hQ:∀h',h'.IsTupleIter it t (i+1)->Heap.SameBut it s.heap h'->Q x { s with heap:=h' }):wpAny (model prog w) A (Builtin.SmallTypes.nextOf (.ref it)) Q E s:=by
 obtain⟨ob,h1,h2,h3⟩:=id hit;obtain⟨ot,k1,_,m,k2⟩:=ht;unfold Builtin.SmallTypes.nextOf;refine y8 (nE (name:=Str.ofString "__next__") hit.typeIs c9 (r8 c9 hit.typeIs ZJ ?_ (ZK _)));refine y8 (m:=field (.ref it) 0) (s9 h1 h3 (x:=.ref t) rfl ?_);show wpAny _ _ (if (Value.ref t==Value.none)=true then _ else _) _ _ s;rw[if_neg (by exact uq)];refine y8 (m:=field (.ref it) 1) (s9 h1 h3 (x:=.int i 0) rfl (y8 (m:=seqItems? (.ref t)) (l6 k1 k2 ?_)));simp only[t5,hx];refine y8 (wpAny_setField h1 h3 (by simp) (y9 ⟨x,rfl,y9 (hQ _ ⟨_,Z5 _ h1 (Obj.isFreed_of_fields (Obj.data_mapFields h3 _)),(Obj.cls_mapFields ..).trans h2,?_⟩ (jO ..))⟩));rw[Obj.data_mapFields h3];simp[rawInt]
def Ek{t:Addr}{its:Array Value}{Q:Value->Shared->Prop}(hh:A.handled=none)(hit:s.heap.IsTupleIter it t i)(ht:s.heap.IsTuple t its)(hx:its[i]?=none)(hE:∀h' e,Heap.ExtBut it s.heap h'->(∃o,h'.get? e=some o/\o.cls=.type "StopIteration")->E (.ref e) { s with heap:=h' }):wpAny (model prog w) A (Builtin.SmallTypes.nextOf (.ref it)) Q E s:=by
 obtain⟨ob,h1,h2,h3⟩:=id hit;obtain⟨ot,k1,_,m,k2⟩:=ht;unfold Builtin.SmallTypes.nextOf;refine y8 (nE (name:=Str.ofString "__next__") hit.typeIs c9 (r8 c9 hit.typeIs ZJ ?_ (ZK _)));refine y8 (m:=field (.ref it) 0) (s9 h1 h3 (x:=.ref t) rfl ?_);show wpAny _ _ (if (Value.ref t==Value.none)=true then _ else _) _ _ s;rw[if_neg (by exact uq)];refine y8 (m:=field (.ref it) 1) (s9 h1 h3 (x:=.int i 0) rfl (y8 (m:=seqItems? (.ref t)) (l6 k1 k2 ?_)));simp only[t5,hx];refine y8 (wpAny_rule (y8 (wpAny_setField h1 h3 (by simp) (y8 (m:=newExc (.type "StopIteration") []) ?_))));simp only[newExc,newTuple];refine y8 (sZ (y8 (m:=firstArgMember _ _) (cw (a:=Value.none) (by first|rfl|(simp only[firstArgMember];rfl)) (sZ ?_ (by size_fits)))) (by size_fits));simp only[raiseNew];refine y8 (wpAny_handled ?_)
 first|rw[show A.in1.handled=none from hh]|rw[hh]
 exact y8 (y9 (wpAny_throw (hE _ _ (((jO ..).extBut.push _).push _) ⟨_,w6 _ rfl,rfl⟩)))
end
def IH{prog:Program}{w:World}{A:Around}(hh:A.handled=none)(it l:Addr)(hne:l≠it)(its:Array Value)(c:Nat):
  Draws prog w A it [it,l] (c+its.size) (λi v=>∃k,i=c+k/\its[k]?=some v) (λi h=>∃k,i=c+k/\h.IsTupleIter it l k/\h.IsTuple l its) where
 live:=λ_ _ ⟨_,_,st,_⟩=>let⟨o,ho,_⟩:=st;⟨o,ho⟩
 frame:=λ_ _ _ ⟨k,e,st,t⟩ hk=>⟨k,e,st.at λo e=>hk it (by simp) o e,let⟨o,ho,r⟩:=t;⟨o,hk l (by simp) o ho,r⟩⟩
 item:=λi s Q E hi ⟨k,e,st,t⟩ hQ=>by
  have hk:k<its.size:=by omega
  refine GD st t (x:=its[k]) (by simp[hk]) λh' st' sb=>hQ _ h' s.toks ⟨k,e,by simp[hk]⟩ ⟨k+1,by omega,st',?_⟩ sb;obtain⟨o,ho,r⟩:=t;exact⟨o,(sb.2 l hne).trans ho,r⟩
 done:=λs Q E ⟨k,e,st,t⟩ hE=>Ek hh st t (Zb (by omega)) hE
def Jj{prog:Program}{w:World}{A:Around}(hh:A.handled=none)(it l:Addr)(hne:l≠it)(its:Array Value)(c:Nat):
  Draws prog w A it [it,l] (c+its.size) (λi v=>∃k,i=c+k/\its[k]?=some v) (λi h=>∃k,i=c+k/\h.IsListIter it l k/\h.IsList l its) where
 live:=λ_ _ ⟨_,_,st,_⟩=>let⟨o,ho,_⟩:=st;⟨o,ho⟩
 frame:=λ_ _ _ ⟨k,e,st,t⟩ hk=>⟨k,e,st.at λo e=>hk it (by simp) o e,t.at λo e=>hk l (by simp) o e⟩
 item:=λi s Q E hi ⟨k,e,st,t⟩ hQ=>by
  have hk:k<its.size:=by omega
  exact wpAny_nextOf_list_item st t (x:=its[k]) (by simp[hk]) λh' st' sb=>hQ _ h' s.toks ⟨k,e,by simp[hk]⟩ ⟨k+1,by omega,st',t.extBut sb.extBut hne⟩ sb
 done:=λs Q E ⟨k,e,st,t⟩ hE=>wpAny_nextOf_list_end hh st t (Zb (by omega)) hE
def Inv.turned2{σ:List (Option V)}{t':Nat}{e:Addr}(I:Inv X pins σ H s)(k:∀b o,b≠it->b≠e->s.heap.get? b=some o->h'.get? b=some o)(f1:pI X pins H it)(f2:pI X pins H e):
  Inv X pins σ H { s with heap:=h',toks:=t' }:=by
 obtain⟨a0,a1,a2,a3,a4,a5⟩:=f1;obtain⟨b0,b1,b2,b3,b4,b5⟩:=f2;have n1:∀b u,H b=some u->b≠it:=λb u q z=>by rw[z,a0]at q;cases q
 have n2:∀b u,H b=some u->b≠e:=λb u q z=>by rw[z,b0]at q;cases q
 have kk:∀b o,b∉[it,e]->s.heap.get? b=some o->h'.get? b=some o:=λb o hb q=>k b o (λz=>hb (by simp[z])) (λz=>hb (by simp[z])) q;refine I.step (g':=s.gens) (d':=s.drawn) (ch:=[it,e]) (λb hb=>?_) (λb o _ _ hc q _=>kk b o hc q) (λb o _ _ hc q _=>⟨o.slots,kk b o hc q⟩) (λ_ _ _ _ n=>n) (λb o hc q=>⟨o,kk b o hc q⟩) (λ_ _ q=>q) (λ_ _ _ q=>q) (λb ps q=>⟨#[],by rw[q];simp⟩) (λm hm=>?_) (λb u q=>?_) I.bare
 ·simp only[xO,n5,n6]at hb;rcases hb with rfl|rfl;·exact⟨a3,a1,a4,a5⟩
  ·exact⟨b3,b1,b4,b5⟩
 ·obtain⟨o,es,ep,ho,r⟩:=hm;exact⟨o,es,ep,k _ o (uw a1) (uw b1) ho,r⟩
 ·refine(I.hok b u q).stay (λc v hc q'=>k c v ?_ ?_ q') (λ_ q'=>q') λ_ _ q'=>q'
  ·rcases hc with z|z;·rw[z];exact n1 b u q
   ·exact n1 c _ z
  ·rcases hc with z|z;·rw[z];exact n2 b u q
   ·exact n2 c _ z
noncomputable def Ite(sq:Hp->List V->Prop)(c:Nat):It:=⟨λi H=>∃xs x,sq H xs/\xs[i]?=some x,
 λi H v H'=>∃p x,v=.ref p/\H p=none/\H'=upd H p (.tup [.int ((c+i:Nat):Int),x])/\∀xs,sq H xs->xs[i]?=some x,λi H=>∃xs,sq H xs/\xs.length<=i⟩
section
variable{w:World}{K:PySem.W.Frag}{tp:Pos}
structure Inner(P:Program)(w:World)(K:PySem.W.Frag)(sq:Hp->List V->Prop)(a it:Addr)(iter:Nat->Heap->Prop):Prop where
 obj:∀i h,iter i h->∃o,h.get? it=some o/\∀v,o.data≠.cell v
 at_:∀i h h',iter i h->(∀o,h.get? it=some o->h'.get? it=some o)->iter i h'
 inj:∀(X:Cx),X.K=K->∀(pins:List (Addr×Obj))(σ:St)(H:Hp)(s:Shared) xs ys,Inv X pins σ H s->sq H xs->sq H ys->xs=ys
 dr:∀(X:Cx),X.prog=P->X.w=w->X.K=K->X.calm=true->∀(pins:List (Addr×Obj))(σ:St)(H:Hp)(s:Shared)(xs:List V)(c:Nat),Inv X pins σ H s->sq H xs->(∀i,iter i s.heap->a≠it)->
  ∃its:List Value,Vals xs its/\xs.length<=sizeLine/\∃(Pd:Nat->Value->Prop)(St:Nat->Heap->Prop),Draws P w X.A.in1 it [it,a] (c+its.length) Pd St/\(∀k v,Pd (c+k) v->its[k]?=some v)/\
   (∀k h,iter k h->(∀o,s.heap.get? a=some o->h.get? a=some o)->a≠it->St (c+k) h)/\∀k h,St (c+k) h->iter k h
 fin:∀(X:Cx),X.prog=P->X.w=w->X.K=K->X.calm=true->∀(pins:List (Addr×Obj))(σ:St)(H:Hp)(s:Shared)(xs:List V)(i:Nat)(Q:Value->Shared->Prop)(E:Value->Shared->Prop),Inv X pins σ H s->sq H xs->xs.length<=i->iter i s.heap->
  (∀h' x,Heap.ExtBut it s.heap h'->(∃o,h'.get? x=some o/\o.cls=.type "StopIteration")->E (.ref x) { s with heap:=h' })->wpAny (model P w) X.A.in1 (Builtin.SmallTypes.nextOf (.ref it)) Q E s
def zk{b:Addr}{ob:Obj}(hb:b<h.objs.size)(q:(h.push ob).get? b=some o):h.get? b=some o:=by unfold Heap.get? Heap.push at *;simpa[Array.getElem?_push,v6 hb]using q
theorem Hx{prog:Program}{A:Around}{e:Addr}{c:Int}{old:Value}{Q:Option Value->Shared->Prop}(he:IsEnum s.heap e it c old)(hn:∀(Q':Value->Shared->Prop)(E':Value->Shared->Prop),(∀h' x,Heap.ExtBut it s.heap h'->(∃o,h'.get? x=some o/\o.cls=.type "StopIteration")->E' (.ref x) { s with heap:=h' })->wpAny (model prog w) A.in1 (Builtin.SmallTypes.nextOf (.ref it)) Q' E' s)(hQ:∀h',Heap.ExtBut it s.heap h'->Q none { s with heap:=h' }):wpAny (model prog w) A (pyNext (.ref e)) Q E s:=by
 have ht:s.TypeIs (.ref e) "enumerate":=⟨_,he,rfl⟩
 unfold pyNext;refine y8 (wpAny_attempt (nE (name:=Str.ofString "__next__") ht F.slot_enumerate_next (r8 F.slot_enumerate_next ht F.entry_enumerate_next ?_ (F.args_enumerate_next_1 _))));refine y8 (m:=field (.ref e) 2) (s9 he rfl (x:=.ref it) rfl (y8 (hn _ _ λh' x hb hx=>?_)));obtain⟨o,ho,hc⟩:=hx;exact y8 (wpAny_isInstance (T:="StopIteration") (b:=true) ⟨o,ho,hc⟩ isSubtype_stop (y9 (hQ _ hb)))
def A4{e:Addr}{iter:Nat->Heap->Prop}(N:Inner P w K sq a it iter)(c:Nat)(hei:e≠it)(hea:e≠a)(hai:a≠it):
  Turn P w K (.Tuple elts kt tp) (Ite sq c) [e,it] e (λi h=>(∃old,IsEnum h e it ((c+i:Nat):Int) old)/\iter i h) where
 mem:=by simp
 obj:=λi h st b hb=>by
  simp only[xO,n5,n6]at hb;rcases hb with rfl|rfl
  ·obtain⟨old,q⟩:=st.1;exact⟨_,q,λv z=>by cases z⟩
  ·exact N.obj i h st.2
 keep:=λi h h' st k=>⟨st.1.imp λold q=>k e (by simp) _ q,N.at_ i h h' st.2 λo q=>k it (by simp) o q⟩
 item:=by
  intro X hP hw hK hc i pins s σ H E I hf st hg;obtain⟨xs,x,hq,hx⟩:=hg;obtain⟨⟨old,he⟩,hi⟩:=st;obtain⟨its,rv,hz,Pd,St,Dr,p1,p2,p3⟩:=N.dr X hP hw hK hc pins σ H s xs c I hq λ_ _=>hai;obtain⟨u,hu,ru⟩:=rv.get hx;have hil:i<its.length:=(u8.mp hu).1;have fe:=hf e (by simp);have fi:=hf it (by simp);subst hP hw;refine wpAny_pyNext_enum_itemD Dr he (p2 i _ hi (λ_ q=>q) hai) (by omega) hei (by simp only[xO,n5,n6,not_or];exact⟨hei,hea⟩) λy h1 tk hy ho hs1 ht hsz hk=>?_;have ey:y=u:=by have q:=p1 i y hy;rw[hu]at q;exact(xV q).symm
  subst ey;refine⟨_,rfl,wpAny_letOwnedTupleGo_enum ho λh2 he2 sb=>?_⟩;have helt:e<s.heap.objs.size:=xh he;have hpe:s.heap.objs.size≠e:=r6 helt;obtain⟨oi,hoi,_⟩:=N.obj i _ hi;have hpi:s.heap.objs.size≠it:=r6 (xh hoi);have hp:H s.heap.objs.size=none:=I.hok.fresh (yh _);have Ia:Inv X pins σ (upd H s.heap.objs.size (.tup [.int ((c+i:Nat):Int),x])) { s with heap:=s.heap.push { cls:=.type "tuple",data:=.seq #[.int ((c+i:Nat):Int) tk,y] } }:=by refine I.laid (t':=s.toks) (λb o q=>yq _ q) (yh _) ?_;exact⟨by show 2<=sizeLine;decide,[.int ((c+i:Nat):Int) tk,y],.cons ⟨tk,rfl⟩ (.cons ru .nil),n9 _ _⟩
  have fe':pI X pins (upd H s.heap.objs.size (.tup [.int ((c+i:Nat):Int),x])) e:=⟨by rw[am (uw hpe)];exact fe.1,fe.2⟩
  have fi':pI X pins (upd H s.heap.objs.size (.tup [.int ((c+i:Nat):Int),x])) it:=⟨by rw[am (uw hpi)];exact fi.1,fi.2⟩
  have ht2:h2.get? s.heap.objs.size=some { cls:=.type "tuple",data:=.seq #[.int ((c+i:Nat):Int) tk,y] }:=(sb.2 _ hpe).trans ht;have Ib:Inv X pins σ (upd H s.heap.objs.size (.tup [.int ((c+i:Nat):Int),x])) { s with heap:=h2,toks:=tk+1 }:=by
   refine Ia.turned2 (t':=tk+1) (λb o n1 n2 q=>?_) fi' fe';by_cases z:b=s.heap.objs.size;·subst z;have q':=w6 s.heap (o:={ cls:=.type "tuple",data:=.seq #[.int ((c+i:Nat):Int) tk,y] }) rfl;have q:(s.heap.push { cls:=.type "tuple",data:=.seq #[.int ((c+i:Nat):Int) tk,y] }).get? s.heap.objs.size=some o:=q;rw[q']at q;rw[ht2];exact q
   ·have q:(s.heap.push { cls:=.type "tuple",data:=.seq #[.int ((c+i:Nat):Int) tk,y] }).get? b=some o:=q;have q2:s.heap.get? b=some o:=by
     rcases Nat.lt_or_ge b s.heap.objs.size with hb|hb;·exact zk hb q
     ·have hlt:b<(s.heap.push { cls:=.type "tuple",data:=.seq #[.int ((c+i:Nat):Int) tk,y] }).objs.size:=xh q;rw[o8]at hlt;exact absurd (Nat.le_antisymm (Nat.le_of_lt_succ hlt) hb) z
    exact(sb.2 b n2).trans (hk b o n2 n1 q2)
  refine⟨.ref s.heap.objs.size,_,Ib,rfl,⟨_,x,rfl,hp,rfl,λys hy'=>by rw[N.inj X hK pins σ H s ys xs I hy' hq];exact hx⟩,⟨⟨y,by have q:=he2;rw[show((c+(i+1):Nat):Int)=((c+i:Nat):Int)+1 by omega];exact q⟩,?_⟩,λb hb=>?_⟩;·refine N.at_ (i+1) h1 h2 (p3 (i+1) h1 hs1) λo q=>(sb.2 it (uw hei)).trans q
  ·simp only[xO,n5,n6]at hb;rcases hb with rfl|rfl;·exact fe'.1
   ·exact fi'.1
 done:=by intro X hP hw hK hc i pins s σ H E I hf st hg;obtain⟨xs,hq,hx⟩:=hg;obtain⟨⟨old,he⟩,hi⟩:=st;have fi:=hf it (by simp);have fin:=N.fin X hP hw hK hc pins σ H s xs i;subst hP hw;exact Hx he (λQ' E' hE=>fin Q' E' I hq hx hi hE) λh' hb=>⟨rfl,I.turned (t':=s.toks) (λb o n q=>hb b o n q) fi.1 fi.2.1 fi.2.2.2.1 fi.2.2.2.2.1 fi.2.2.2.2.2⟩
 self:=λA i s Q E st h=>by obtain⟨⟨old,he⟩,_⟩:=st;exact b6 he h
def Af(a it:Addr):Inner P w K (λH xs=>SqT K H a xs) a it (λi h=>h.IsTupleIter it a i) where
 obj:=λi h st=>let⟨o,q,c,d⟩:=st;⟨o,q,λv z=>by rw[d]at z;cases z⟩
 at_:=λi h h' st k=>st.at k
 inj:=λX hK pins σ H s xs ys I h1 h2=>by subst hK;exact I.tuple_inj h1 h2
 dr:=λX hP hw hK hc pins σ H s xs c I hq hne=>by
  subst hP hw hK;obtain⟨its,rv,p,hz⟩:=I.tuple hq;have hh:X.A.in1.handled=none:=I.ok.hd hc;by_cases hai:a=it;·exact⟨its,rv,hz,λ_ _=>False,λ_ _=>False,⟨λ_ _ z=>z.elim,λ_ _ _ z _=>z,λ_ _ _ _ _ z _=>z.elim,λ_ _ _ z _=>z.elim⟩,λ_ _ z=>z.elim,λ_ _ _ _ z=>absurd hai z,λ_ _ z=>z.elim⟩
  ·have Dq:=IH (prog:=X.prog) (w:=X.w) hh it a hai its.toArray c;rw[xi]at Dq;refine⟨its,rv,hz,λi v=>∃k,i=c+k/\its.toArray[k]?=some v,λi h=>∃k,i=c+k/\h.IsTupleIter it a k/\h.IsTuple a its.toArray,Dq,λk v q=>?_,λk h st kp _=>⟨k,rfl,st,?_⟩,λk h q=>?_⟩
   ·obtain⟨k',e,q⟩:=q;have:k=k':=by omega
    subst this;simpa using q
   ·obtain⟨o,ho,r⟩:=p;exact⟨o,kp o ho,r⟩
   ·obtain⟨k',e,st,_⟩:=q;have:k=k':=by omega
    subst this;exact st
 fin:=λX hP hw hK hc pins σ H s xs i Q E I hq hx st hE=>by subst hP hw hK;obtain⟨its,rv,p,hz⟩:=I.tuple hq;have hl:=rv.length;exact Ek (I.ok.hd hc) st (show s.heap.IsTuple a its.toArray from p) (by simp;omega) hE
def tz(a it:Addr):Inner P w K (λH xs=>SqL K H a xs) a it (λi h=>h.IsListIter it a i) where
 obj:=λi h st=>let⟨o,q,c,d⟩:=st;⟨o,q,λv z=>by rw[d]at z;cases z⟩
 at_:=λi h h' st k=>st.at k
 inj:=λX hK pins σ H s xs ys I h1 h2=>by subst hK;exact I.list_inj h1 h2
 dr:=λX hP hw hK hc pins σ H s xs c I hq hne=>by
  subst hP hw hK;obtain⟨its,rv,p,hz⟩:=I.list hq;have hh:X.A.in1.handled=none:=I.ok.hd hc;by_cases hai:a=it;·exact⟨its,rv,hz,λ_ _=>False,λ_ _=>False,⟨λ_ _ z=>z.elim,λ_ _ _ z _=>z,λ_ _ _ _ _ z _=>z.elim,λ_ _ _ z _=>z.elim⟩,λ_ _ z=>z.elim,λ_ _ _ _ z=>absurd hai z,λ_ _ z=>z.elim⟩
  ·have Dq:=Jj (prog:=X.prog) (w:=X.w) hh it a hai its.toArray c;rw[xi]at Dq;refine⟨its,rv,hz,λi v=>∃k,i=c+k/\its.toArray[k]?=some v,λi h=>∃k,i=c+k/\h.IsListIter it a k/\h.IsList a its.toArray,Dq,λk v q=>?_,λk h st kp _=>⟨k,rfl,st,?_⟩,λk h q=>?_⟩
   ·obtain⟨k',e,q⟩:=q;have:k=k':=by omega
    subst this;simpa using q
   ·obtain⟨o,ho,r⟩:=p.isList;exact⟨o,kp o ho,r⟩
   ·obtain⟨k',e,st,_⟩:=q;have:k=k':=by omega
    subst this;exact st
 fin:=λX hP hw hK hc pins σ H s xs i Q E I hq hx st hE=>by subst hP hw hK;obtain⟨its,rv,p,hz⟩:=I.list hq;have hl:=rv.length;exact wpAny_nextOf_list_end (I.ok.hd hc) st p.isList (by simp;omega) hE
end
end L2
namespace L2
open PySem PySem.Spec PyProof.Rows
noncomputable def bi(c:Nat)(xs:List D):List D:=(List.range xs.length).map λi=>.tup [.int ((c+i:Nat):Int),xs.getD i .non]
def sP{c:Nat}{xs:List D}(h:(bi c xs)[i]?=some d):∃x,xs[i]?=some x/\d=.tup [.int ((c+i:Nat):Int),x]:=by
 unfold bi at h;rw[v7]at h;by_cases hi:i<xs.length
 ·rw[List.getElem?_range hi]at h;refine⟨xs[i],w9 hi,?_⟩;have e:xs.getD i .non=xs[i]:=by rw[v9,w9 hi];rfl
  rw[<- e];exact(xV h).symm
 ·rw[List.getElem?_eq_none (by simp;omega)]at h;cases h
def nO(c:Nat)(xs:List D):(bi c xs).length=xs.length:=by simp[bi]
def ItOk.enum{K:PySem.W.Frag}{c:Nat}(hs:∀G1 H1,Same G G1->Same G1 H1->sq H1 vs)(r:Reps K G vs ds):ItOk K G (Ite sq c) (bi c ds):=by intro i G1 H1 s1 s2;refine⟨λd e=>?_,λhl=>⟨vs,hs G1 H1 s1 s2,by rw[nO]at hl;rw[r.length];exact hl⟩⟩;obtain⟨dx,ex,rfl⟩:=sP e;obtain⟨v,ev,rv⟩:=r.get ex;refine⟨⟨vs,v,hs G1 H1 s1 s2,ev⟩,λx H' y=>?_⟩;obtain⟨p,x',rfl,hp,rfl,y⟩:=y;have z:=y vs (hs G1 H1 s1 s2);rw[ev]at z;cases z;refine⟨upd G1 p (.tup [.int ((c+i:Nat):Int),v]),.new s2 hp,.tup (.of az) (.cons (.int _) (.cons ((rv.mono s1).mono (.into (s2.free hp))) .nil))⟩
section
variable{tp:Pos}{Rr:It->Hp->Prop}
def pO{l:Addr}{iter:Nat->Heap->Prop}{c:Nat}(I:Inv X pins σ H s)(N:Inner X.prog X.w X.K sq l (s.heap.objs.size) iter)(hl:l<s.heap.objs.size)(he:IsEnum h' (s.heap.objs.size+1) s.heap.objs.size (c:Int) .none)(hi:iter 0 h')(hk:∀b o,s.heap.get? b=some o->h'.get? b=some o)(q:Rr (Ite sq c) H):PIE X pins σ (.Tuple elts kt tp) Rr (.ref (s.heap.objs.size+1)) { s with heap:=h' }:=by
 have hlt:s.heap.objs.size<=s.heap.objs.size+1:=n3 _;refine⟨_,_,_,_,H,rfl,I.kept (t':=s.toks) hk,A4 N c (r6 (l8 _)) (r6 (Zd hl)) (v6 hl),⟨⟨_,he⟩,hi⟩,λb hb=>?_,q⟩;simp only[xO,n5,n6]at hb;rcases hb with rfl|rfl;·exact I.fpOk hlt (I.hok.fresh hlt)
 ·exact I.fpOk (yh _) (I.hok.fresh (yh _))
def SqT.lt'(I:Inv X pins σ H s)(h:SqT X.K H a xs):a<s.heap.objs.size:=by obtain⟨its,rv,⟨o,q,_⟩,_⟩:=I.tuple h;exact xh q
def SqL.lt'(I:Inv X pins σ H s)(h:SqL X.K H a xs):a<s.heap.objs.size:=by obtain⟨its,rv,p,_⟩:=I.list h;obtain⟨o,q,_⟩:=p.isList;exact xh q
end
noncomputable def lu:D->R (List D)
 |.lst _ xs=>.ok (bi 0 xs)
 |.tup xs=>.ok (bi 0 xs)
 |_=>.no
noncomputable def Em:D->D->R (List D)
 |.tup xs,.int c=>if 0<=c/\c<1073741824 then .ok (bi c.toNat xs)else .no
 |_,_=>.no
section
variable{a b:Expr}{ga:Ev->R D}{tp kp:Pos}
def qW(hg:Gl X "enumerate")(hm:X.mg "enumerate"=none)(ha:PF X a ga)(hs:starEach [a] X.env=(false,eval a X.env)::starEach [] X.env:=by rfl):
  PIF X (.Tuple elts kt tp) (.Call (.Name "enumerate" p) [a] [] pos) (aq lu ga):=by
 intro pins s σ H Rr I h;obtain⟨G,ρ,st,h⟩:=h;have ta:BO (tF X ga) KJ σ H (λvs H1=>∃v,vs=[v]/\∃G1 d,Up G H G1 H1/\Rep X.K G1 v d/\Same G1 H1/\(lu d).post (Fin G1 H1 (λG J items=>ItOk X.K G J items) Rr) (Exx X σ G1 H1)):=
  tG.intro st h λd v G1 H1 u1 st1 r1 h1=>⟨v,rfl,G1,d,u1,r1,st1.sub,h1⟩
 refine Call_ (nT I hg hm PyProof.Rows.Boot.«enumerate» (PyProof.Rows.callWith_type1 (thn ((bE ha eJ hs) pos pins s σ H _ I ta) λus s1 ⟨vs,H1,I1,r1,q1⟩=>?_) hs rfl));obtain⟨v,hv,G1,d,u1,rd,sub,h1⟩:∃v,vs=[v]/\∃G1 d,Up G H G1 H1/\Rep X.K G1 v d/\Same G1 H1/\(lu d).post (Fin G1 H1 (λG J items=>ItOk X.K G J items) Rr) (Exx X σ G1 H1):=q1;subst hv;obtain⟨u,rfl,rv⟩:=r1.one;cases rd with
 |lst hq t=>cases rv;have hq':SqL X.K G1 _ _:=.of hq;obtain⟨its,rvs,p,hz⟩:=I1.list (hq'.mono sub);exact call_enumerate_list p.isList λh' he hi hsz hk=>b6 he (pO (c:=0) I1 (tz _ _) (SqL.lt' I1 (hq'.mono sub)) he hi hk (h1 _ G1 H1 (.refl sub) (ItOk.enum (λG2 H2 s1 s2=>(hq'.mono s1).mono s2) t)))
 |fls hq t=>cases rv;obtain⟨its,rvs,p,hz⟩:=I1.list (hq.mono sub);exact call_enumerate_list p.isList λh' he hi hsz hk=>b6 he (pO (c:=0) I1 (tz _ _) (SqL.lt' I1 (hq.mono sub)) he hi hk (h1 _ G1 H1 (.refl sub) (ItOk.enum (λG2 H2 s1 s2=>(hq.mono s1).mono s2) t)))
 |tup hq t=>cases rv;obtain⟨its,rvs,⟨⟨cls,dd,data,sl⟩,ho,hc,n,hd⟩,hz⟩:=I1.tuple (hq.mono sub);simp only at hc hd;subst hc hd;exact CN ho λh' he hi hsz hk=>b6 he (pO (c:=0) I1 (Af _ _) (SqT.lt' I1 (hq.mono sub)) he ⟨_,hi,rfl,rfl⟩ hk (h1 _ G1 H1 (.refl sub) (ItOk.enum (λG2 H2 s1 s2=>(hq.mono s1).mono s2) t)))
 |_=>exact h1.elim
noncomputable def Ix(ga gb:Ev->R D):Ev->R (List D):=λρ=>ga ρ>>=λx=>gb ρ>>=λc=>Em x c
end
theorem rQ:∀(is:List Nat)(ds:List D)(ρ ρ':Ev),pQ is ds ρ=.ok ρ'->(NoOwn ρ)->NoOwn ρ'
 | [],[],ρ,ρ',e,h=>by cases e;exact h
 | [],_::_,_,_,e,_=>by cases e
 |_::_,[],_,_,e,_=>by cases e
 |i::is,d::ds,ρ,ρ',e,h=>rQ is ds _ ρ' e (vB (i:=i) d ρ _ rfl h)
def Cm:∀d ρ ρ',uh is d ρ=.ok ρ'->(NoOwn ρ)->NoOwn ρ':=λd ρ ρ' e h=>by
 cases d with
 |tup ds=>exact rQ is ds ρ ρ' e h
 |_=>cases e
def Da{n:Nat}(hk:scope.kind=.function:=by rfl)(h1:(∀y∈scope.names,y.2≠.cell)/\(∀y∈scope.names,y.2=.local->scope.names.lookup y.1=some .local)/\(∀y∈scope.names,y.2=.free->y.1∈N'.drop n)/\n<=N'.length/\
 ∀y∈N'.drop n,scope.names.lookup y=some .free/\(y,NameKind.free)∈scope.names:=by decide +kernel)(h2:(N'.drop n).map X.env.kindOf=(N'.drop n).map λ_=>some NameKind.cell:=by rfl)(h3:N'.drop n=ix.map (λ(i:Nat)=>X.N.getD i Str.empty):=by rfl)(h4:ix.all (λi=>decide (i<X.N.length))=true:=by rfl):CompOkT X scope n N' ix:=by
 obtain⟨a,b,d,f,g⟩:=h1;refine⟨hk,a,b,λy hy h=>?_,f,h3,λi hi=>?_,g⟩;·exact Zo.1 h2 _ (d y hy h)
 ·exact lZ (wX.1 h4 i hi)
section
variable{elt tgt:Expr}{ifs:List Expr}{n:Nat}{gt:Ev->R Bool}
def zC(ok:CompOkT X scope n N' ix)(hcalm:X.calm=true)(hg:∀C s₂ H₂ fp,PGF (cy X N' scope C s₂ H₂ fp) tgt asg)(hown:∀d ρ ρ',asg d ρ=.ok ρ'->(NoOwn ρ)->NoOwn ρ')(hi:PIF X tgt iter gi)(he:∀C s₂ H₂ fp,PF (cy X N' scope C s₂ H₂ fp) elt ge)(ht:∀C s₂ H₂ fp,PTs (cy X N' scope C s₂ H₂ fp) ifs gt)(hs:∀x,foldedSetIterable iter X.env x=pure x:=by intro _;rfl):PFL X (.ListComp elt [⟨tgt,iter,ifs,0⟩] scope pos) (wn n asg gi ix gt ge):=by
 intro pins s σ H Q I h;obtain⟨G,ρ,st,h⟩:=h;rw[eval_ListComp];refine wpAny_comprehension_free (use:=none) rfl hs (gP λy hy hy2=>I.ok.has y.1 (.inl (ok.fr y hy hy2))) ok.kind ok.names ?_;have t:tG X (λG J items=>ItOk X.K G J items) gi σ H (λJ H1=>∃G1 items,Up G H G1 H1/\StE X.K G1 H1 σ ρ/\ItOk X.K G1 J items/\(fO asg gt ge items (cY n ix ρ)>>=λds=>if ds.length<=sizeLine then R.ok ds else .no).post (nY X.K G H Q) (Exx X σ G H)):=by
  refine⟨G,ρ,st,?_⟩;unfold wn at h;cases e:gi ρ with
  |ok items=>rw[e]at h;exact λJ G1 H1 u r=>⟨G1,items,u,st.up u,r,h⟩
  |ex C=>rw[e]at h;exact h
  |no=>rw[e]at h;exact h
 refine thn (hi pins s σ H _ I t) λv s1 h1=>thn h1 λitv s2 h2=>?_;obtain⟨it,fp,tn,J,H2,e,I2,T,st2,f2,G2,items,u2,sE2,iok,h2⟩:=h2;subst e;have h2':(fO asg gt ge items (cY n ix ρ)>>=λds=>if ds.length<=sizeLine then R.ok ds else .no).post (nY X.K G2 H2 Q) (Exx X σ G2 H2):=
  h2.mono (λds q l vs G' H' u hl r=>q l vs G' H' (u2.trans u) hl r) λC q=>q.up u2;refine mB (iter:=iter) (pos:=pos) (RR:=λacc C=>compPost (model X.prog X.w) X.A X.xe none (EP X pins σ Q) acc C) ok hcalm hg hown he ht I2 T st2 f2 sE2 iok h2' ?_;intro Dd C s' m vs G' H' up hd hCD _ q hm hos hb hC hCl un hok;refine⟨m,hm,λh' hs'=>?_⟩;have I3:=I2.call' (H':=upd H' Dd (.lst vs)) (s':={ s' with heap:=h' }) (ch:=fp) hos (un.sameBut (λb o hbc e=>hs'.extBut b o hbc e) hCl) (hok.sameBut (λb o hbc e=>hs'.extBut b o hbc e) (by rw[am hCD];exact hC)) hb λb hb'=>by
  obtain⟨f0,f1,f2',f3,f4,f5⟩:=f2 b hb';exact⟨f3,f1,f4,f5⟩
 exact⟨.ref Dd,_,I3,rfl,q⟩
end
noncomputable def Hf:List D->Option D
 | [.lst _ ds]=>match ou ds with
  |some ns=>some (.int ns.sum)
  |none=>none
 | [.tup ds]=>match ou ds with
  |some ns=>some (.int ns.sum)
  |none=>none
 |_=>none
theorem Vals.ints:∀{ns:List Int}{its:List Value},Vals (ns.map V.int) its->IntsAre its ns
 | [],_,.nil=>.nil
 |n::ns,_,.cons r t=>by obtain⟨tk,rfl⟩:=r;exact .cons n tk (Vals.ints t)
section
def sy{ns:List Int}(rv:Vals (ns.map V.int) its):∃xs:Array (Int×Tok),its.toArray=intItems xs/\preSum (numAt xs) xs.size=ns.sum:=by
 have hi:=Vals.ints rv;obtain⟨xs,hx⟩:=hi.allInts.items;have e1:ns=xs.toList.map (·.1):=by rw[<- nums_intItems,<- hx];exact(show numsOf its.toArray.toList=ns from hi.numsOf).symm
 exact⟨xs,hx,by rw[preSum_eq,jR (by simp),e1]⟩
def A3(hc:X.calm=true):kg X (.builtin "sum") (λxs H Q=>∃p,∃ns:List Int,xs=[.ref p]/\(SqL X.K H p (ns.map V.int)\/SqT X.K H p (ns.map V.int))/\Q (.int ns.sum) H):=by
 intro pins s σ H xs us Q I r ⟨p,ns,ex,hs,q⟩;subst ex;obtain⟨u,rfl,r1⟩:=r.one;cases r1;rcases hs with hs|hs
 ·obtain⟨its,rv,pl,hz⟩:=I.list hs;obtain⟨xs,hx,e2⟩:=sy rv;refine sum_intListG (I.ok.hd hc) (hx▸pl.isList) λh' tk t' hk=>?_;rw[e2];exact⟨.int _,H,I.kept (t':=tk) hk,⟨_,rfl⟩,q⟩
 ·obtain⟨its,rv,pl,hz⟩:=I.tuple hs;obtain⟨xs,hx,e2⟩:=sy rv;have ht:s.heap.IsTuple p its.toArray:=pl;refine PySem.W.ktm_sumG (I.ok.hd hc) (hx▸ht) λh' tk t' hk=>?_;rw[e2];exact⟨.int _,H,I.kept (t':=tk) hk,⟨_,rfl⟩,q⟩
def Ez(K:PySem.W.Frag):JW K (λxs H Q=>∃p,∃ns:List Int,xs=[.ref p]/\(SqL K H p (ns.map V.int)\/SqT K H p (ns.map V.int))/\Q (.int ns.sum) H) Hf:=by
 intro G H xs ds d Q s r e q;unfold Hf at e;split at e
 ·split at e;·rename_i ns hn;cases e;obtain⟨v,rfl,r1⟩:=r.one;obtain⟨a,vs,rfl,hs,rr⟩:=r1.seq_inv;obtain rfl:=rr.nums hn;exact⟨a,ns,rfl,.inl (hs.mono s),q _ G H (.refl s) (.int _)⟩
  ·cases e
 ·split at e;·rename_i ns hn;cases e;obtain⟨v,rfl,r1⟩:=r.one;obtain⟨a,vs,rfl,hs,rr⟩:=r1.tup_inv;obtain rfl:=rr.nums hn;exact⟨a,ns,rfl,.inr (hs.mono s),q _ G H (.refl s) (.int _)⟩
  ·cases e
 ·cases e
def LF{e:Expr}(hc:X.calm=true)(hg:Gl X "sum")(hm:X.mg "sum"=none)(ha:PFA X [e] gl)(he:starEach [e] X.env=(false,eval e X.env)::starEach [] X.env:=by rfl):
  PF X (.Call (.Name "sum" p) [e] [] pos) (gOf Hf gl):=lL (A3 hc) (Ez _) hg hm PyProof.Rows.Boot.«sum» ha (by decide) (by decide) he rfl
end
noncomputable def KH(i j:Nat)(ga:Ev->R D)(gl:Ev->R (List D)):Ev->O:=λρ=>(ga ρ).out ρ λd=>(gl ρ).out ρ λds=>.nx ((ρ.set i (some (.val d))).set j (some (.own ds)))
def Inv.turnedL{σ:List (Option V)}{t':Nat}(I:Inv X pins σ H s)(k:∀b o,b∉ch->s.heap.get? b=some o->h'.get? b=some o)(f:∀b∈ch,pI X pins H b):
  Inv X pins σ H { s with heap:=h',toks:=t' }:=by
 have n1:∀b u,H b=some u->b∉ch:=λb u q z=>by rw[(f b z).1]at q;cases q
 refine I.step (g':=s.gens) (d':=s.drawn) (ch:=ch) (λb hb=>?_) (λb o _ _ hc q _=>k b o hc q) (λb o _ _ hc q _=>⟨o.slots,k b o hc q⟩) (λ_ _ _ _ n=>n) (λb o hc q=>⟨o,k b o hc q⟩) (λ_ _ q=>q) (λ_ _ _ q=>q) (λb ps q=>⟨#[],by rw[q];simp⟩) (λm hm=>?_) (λb u q=>?_) I.bare;·obtain⟨a0,a1,a2,a3,a4,a5⟩:=f b hb;exact⟨a3,a1,a4,a5⟩
 ·obtain⟨o,es,ep,ho,r⟩:=hm;exact⟨o,es,ep,k _ o (λz=>(f _ z).2.1 rfl) ho,r⟩
 ·refine(I.hok b u q).stay (λc v hc q'=>k c v ?_ q') (λ_ q'=>q') λ_ _ q'=>q';rcases hc with z|z;·rw[z];exact n1 b u q
  ·exact n1 c _ z
noncomputable def Kn:D->D->R D
 |.str x,.int k=>if k = -1 then .ok (.str x.reverse)else .no
 |.lst _ xs,.int k=>if k = -1 then .ok (.lst false xs.reverse)else .no
 |_,_=>.no
noncomputable def NY(ga gs:Ev->R D):Ev->R D:=λρ=>ga ρ>>=λx=>gs ρ>>=λk=>Kn x k
noncomputable def we(gt:Ev->R Bool)(g:Ev->O):Nat->Ev->O
 | 0,_=>.no
 |n+1,ρ=>(gt ρ).out ρ λk=>if k=true then (match g ρ with
  |.nx ρ2=>we gt g n ρ2
  |.ct ρ2=>we gt g n ρ2
  |.bk ρ2=>.nx ρ2
  |.rt d=>.rt d
  |.re d ρ2=>.re d ρ2
  |.ex C ρ2=>.ex C ρ2
  |.no=>.no)else .nx ρ
noncomputable def HR(n:Nat)(gt:Ev->R Bool)(g:Ev->O):Ev->O:=λρ=>we gt g n ρ
noncomputable def yR(gs:List (Ev->R D))(ρ:Ev):D->R D
 |.int i=>if 0<=i then (match gs[i.toNat]? with
  |some g=>g ρ
  |none=>.no)else .no
 |_=>.no
noncomputable def Mc(gs:List (Ev->R D))(gi:Ev->R D):Ev->R D:=λρ=>gi ρ>>=yR gs ρ
def Jt{gi:Ev->R D}:Mc gs gi ρ=gi ρ>>=yR gs ρ:=rfl
def HC{g:Ev->R D}:yR (g::gs) ρ (.int 0)=g ρ:=rfl
def HV{f g:Ev->R D}:yR (f::g::gs) ρ (.int 1)=g ρ:=rfl
noncomputable def inD(x:D):List D->Option Bool
 | []=>some false
 |y::ys=>(eqD 40 y x).bind λk=>if k=true then some true else inD x ys
noncomputable def inF:D->D->Option D
 |x,.lst _ ys=>if inD x ys=some false then some (.bl false)else none
 |_,_=>none
section
variable{a b:Expr}{ga:Ev->R D}
def CJ{z:Str}{l:List Nat}{t:Tok}(hg:Gl X x)(hm:X.mg x=some (.str z t))(hl:z.cps.toList=l:=by rfl)(hz:l.length<=1000:=by decide)(hd:(x==("__debug__":Str))=false:=by decide):PF X (.Name x pos) (λ_=>.ok (.str l)):=
 iP (qi (v:=.str z) hg hm ⟨t,rfl⟩ hd) λ_ _=>.strL hl (w8 hz (by decide))
structure KTup(K:PySem.W.Frag)(c:Addr)(ls:List (List Nat)):Prop where
 ex:∃(o:Obj)(its:Array Value)(n:Nat)(vs:List V),K.lookup c=some o/\o.cls=.type "tuple"/\o.data=.seq its n/\its.size<=sizeLine/\Vals vs its.toList/\∀G,Reps K G vs (ls.map .str)
end
noncomputable def NT(n:Nat):List Nat:=(Nat.toDigits 10 n).map Char.toNat
section
variable{a b c e e1 e2 e3 e4 e5:Expr}{ga gc g1 g2' g3' g4 g5:Ev->R D}
noncomputable def NN:D->R D
 |.int i=>if 0<=i/\i<10000000000 then .ok (.str (NT i.toNat))else .no
 |.str x=>.ok (.str x)
 |_=>.no
noncomputable def uD:List (Ev->R D)->List Nat->Ev->R D
 | [],out=>λ_=>.ok (.str out)
 |g::gs,out=>λρ=>g ρ>>=λd=>match d with
  |.str x=>if (out++x).length<=sizeLine then uD gs (out++x) ρ else .no
  |_=>.no
noncomputable def Lv(gs:List (Ev->R D)):Ev->R D:=uD gs []
end
noncomputable def Cf(j i:Nat)(gl:Ev->R (List D)):Ev->O:=λρ=>(de (gl (frz j ρ))).out ρ λds=>if ds.all (fl 10)=true then .nx (ρ.set i (some (.own ds)))else .no
section
variable{prog:Program}{w:World}{A:Around}
structure Z3(z TI TO i1 i2 i3 l1 l2 l3:Addr):Prop where
 nd:[z,TI,TO,i1,i2,i3].Nodup
 ap:∀l∈[l1,l2,l3],l∉[z,TO,i1,i2,i3]
end
noncomputable def vF(asg:D->Ev->R Ev)(gt:Ev->R Bool)(ge:Ev->R D):List D->Ev->R (List D)
 | [],_=>.ok []
 |d::ds,ρ=>de (asg d ρ)>>=λρ1=>de (gt ρ1)>>=λk=>if k=true then ge ρ1>>=λx=>vF asg gt ge ds ρ1>>=λxs=>.ok (x::xs)else vF asg gt ge ds ρ1
noncomputable def JX(gi:Ev->R (List D))(ix:List Nat)(gt:Ev->R Bool)(ge:Ev->R D):Ev->R (List D):=λρ=>gi ρ>>=λitems=>if items.length<=sizeLine then vF (lP 0) gt ge items (iT ix ρ)else .no
section
variable{a b c e ix:Expr}{ga gi:Ev->R D}{p1 p2 p3 pl sp:Pos}
noncomputable def Im(c:Nat):List Nat->Option (List Nat×List Nat)
 | []=>none
 |d::r=>if d=c then some ([],r)else (Im c r).map λp=>(d::p.1,p.2)
noncomputable def EK(c:Nat)(x:List Nat):List Nat×List Nat×List Nat:=match Im c x with
 |some (p,q)=>(p,[c],q)
 |none=>(x,[],[])
noncomputable def L3:D->List D->Option D
 |.str x,[.str [c]]=>if x.length<=10000 then some (.tup [.str (EK c x).1,.str (EK c x).2.1,.str (EK c x).2.2])else none
 |_,_=>none
def Ic{f g h:Ev->R D}:yR (f::g::h::gs) ρ (.int 2)=h ρ:=rfl
end
def Me{w:World}{K:PySem.W.Frag}{mg:Str->Option Value}{base:Heap}{name:Str}{dV kV ct:Value}{N:List Str}{A:Around}{outer:List Env}{args:Args}{Q:VK}{E:XK}{t:TS}(lk:K.lookup f=some ⟨oc,od,.func (PySem.W.fnOf name qual params body scope dV kV doc pm an cdv ct),osl⟩)(hcd:PySem.W.codeIn K cdv qual=true)(S:FnScope N ps scope)(hl:vs.length=ps.length)(hr:Room (k+1) A)(e0:Env0 P w K mg base A outer s H)(hb:BindsTo s (PySem.W.fnOf name qual params body scope dV kV doc pm an cdv ct) args (ps.zip us))(r:Vals vs us)(ht:PSs (fc CX P w K mg base N qual scope f cdv A outer s H E) body t)(hq:t { nx:=λ_ H'=>Q .non H',rt:=Q } (gW N vs) H):
  codeAny (model P w) A (.call (.ref f) args) (CR CX outer P w H s Q E) s:=by
 have KX:K.In s.heap:=e0.mod.kin.keeps λb o e=>(e0.bs b o e).1;have lim:s.heap.NoLimit:=e0.mod.nolimit.keeps λb o e=>(e0.bs b o e).1;have hkind:∀y∈ps.zip us,scope.names.lookup y.1=some .local\/(scope.names.lookup y.1=some .cell/\((cellsFrom (s.heap.objs.size+1) scope.names []).lookup y.1).isSome=true):=λ⟨n,v⟩ hy=>by
  rcases S.par n (iM hy).1 with q|q;·exact .inl q
  ·exact .inr ⟨q,PySem.W.cellsFrom_some _ _ _ (.inl q)⟩
 refine codeAny_call_function hr.depth (KX _ _ lk) rfl S.co S.gen rfl (PySem.W.codeRec_of KX hcd) (hb _ _ _ _ ?_);refine ZD S.kind hkind λenv he s1 x=>?_;subst he;refine⟨lim.keeps x.toInCall.keep,codeAny_func ?_⟩;have I:Inv (fc CX P w K mg base N qual scope f cdv A outer s H E) [] (gW N vs) H s1:=td S hr.hd e0 hl r x;refine u9 (ht [] s1 (gW N vs) H _ I hq) (λfl s' hs=>?_) λe s' hs=>hs;have fin:∀{σ':St}{H':Hp}{v:V}{u:Value},Inv (fc CX P w K mg base N qual scope f cdv A outer s H E) [] σ' H' s'->RelV v u->Q v H'->CE outer P w H s Q u s':=
  λ{σ' H' v u} J rv q=>⟨v,H',J.os,J.bare,J.base,J.hok,rv,q⟩
 cases fl with
 |ret u=>obtain⟨v,σ',H',J,rv,q⟩:=hs;exact fin J rv q
 |next=>obtain⟨σ',H',J,q⟩:=hs;exact fin (v:=V.non) (u:=Value.none) J rfl q
 |brk=>obtain⟨_,_,_,q⟩:=hs;exact False.elim q
 |cont=>obtain⟨_,_,_,q⟩:=hs;exact False.elim q
noncomputable abbrev vn(P:Program)(w:World)(K:PySem.W.Frag)(mg:Str->Option Value)(base:Heap)(N:List Str)(qual:Str)(scope:Scope)(cl:List (Str×Addr))(f:Addr)(cd:Value)(A:Around)(outer:List Env)(s:Shared)(H:Hp)(E:XK):Cx:=
 gCx P w K mg base N (PySem.W.envX qual scope s.heap.objs.size f cd cl) (λ_=>false) A outer s H E
structure ClOk(N:List Str)(scope:Scope)(cl:List (Str×Addr))(σ:St)(H:Hp)(h:Heap):Prop where
 kind:scope.kind=.function
 nocell:∀y∈scope.names,y.2≠.cell
 inj:∀y z c,cl.lookup y=some c->cl.lookup z=some c->y=z
 has:∀y,scope.names.lookup y=some .free->∃c,cl.lookup y=some c
 cell:∀y c,cl.lookup y=some c->H c=none/\∃v,h.IsCell c v
 val:∀(i:Nat) y v,N[i]?=some y->σ[i]?=some (some v)->∃u c,RelV v u/\scope.names.lookup y=some .free/\cl.lookup y=some c/\h.IsCell c (some u)
 len:σ.length=N.length
def GU{w:World}{K:PySem.W.Frag}{mg:Str->Option Value}{base:Heap}{N:List Str}{cl:List (Str×Addr)}{A:Around}{outer:List Env}{E:XK}{tk:Nat}(C:ClOk N scope cl σ H s.heap)(hd:A.handled=none)(e0:Env0 P w K mg base A outer s H)(hns:h'.Ns s.heap.objs.size λx=>List.lookup x ([]:List (Str×Value)).reverse)(hk:∀b o,s.heap.get? b=some o->h'.get? b=some o):
  Inv (vn P w K mg base N qual scope cl f cd A outer s H E) [] σ H { s with heap:=h',toks:=tk }:=by
 have noA:∀b:Addr,b∉(vn P w K mg base N qual scope cl f cd A outer s H E).ex:=λb z=>absurd (show b∈([]:List Addr) from z) (by simp);refine⟨⟨e0.mod,C.kind,rfl,rfl,yh _,C.inj,λy hy=>?_,λy c z _=>?_,λ_=>hd,Around.frames_deeper e0.frames,.inr ⟨rfl,rfl⟩,λb z=>absurd z (noA b),e0.bs,e0.bsz,λb _ _=>noA b,λb z=>absurd z (noA b),e0.funs,e0.frf,e0.tabs⟩,
  rfl,e0.bare,Un.kept hk,⟨_,hns,λi y v h1 h2 h3=>?_⟩,λy c h=>?_,e0.hok.fresh (yh _),λy c h=>(C.cell y c h).1,λp hp=>absurd (show p∈([]:List (Addr×Obj)) from hp) (by simp),e0.hok.kept hk,C.len⟩
 ·have hy:scope.names.lookup y=some .cell\/scope.names.lookup y=some .free:=hy;rcases hy with hy|hy;·exact absurd rfl (C.nocell _ (o9 hy))
  ·exact C.has y hy
 ·cases z
 ·obtain⟨u,c,r,k,e,q⟩:=C.val i y v h1 h2;exact⟨u,r,.inr ⟨.inr k,c,e,q.keeps hk⟩⟩
 ·obtain⟨_,v,q⟩:=C.cell y c h;exact⟨v,q.keeps hk⟩
section
variable{Y:Cx}{σY:St}{N:List Str}{body:Expr}{cl:List (Str×Addr)}{ctv:Value}{te:TE}{Q:VK}{E:XK}
def CT(J:Inv Y pins σY H s)(hr:Room (k+1) Y.A)(hf:s.heap.get? f=some o)(hfd:o.data=.func (PySem.W.kla_fn "<lambda>" qual params body scope cl pm cd ctv))(hcd:s.heap.CodeRec cd qual)(hp:bindArgs (PySem.W.kla_fn "<lambda>" qual params body scope cl pm cd ctv) ⟨[],[]⟩=pure [])(hco:scope.isCoroutine=false)(hge:scope.isGenerator=false)(C:ClOk N scope cl σ H s.heap)(hb:PE (vn Y.prog Y.w Y.K Y.mg Y.base N qual scope cl f cd Y.A Y.stack s H E) body te)(h:te σ H Q):
  wpAny (model Y.prog Y.w) Y.A (call (.ref f) []) (EP Y pins σY Q) (λe s'=>CXo Y.prog Y.w Y.stack H s E e s') s:=by
 have lim:s.heap.NoLimit:=J.nolimit;refine l5 (qE (R:=CR (CXo Y.prog Y.w) Y.stack Y.prog Y.w H s Q E) ?_ λr s' hq=>?_);·refine PySem.W.kla_callFunE hr.depth hf hfd hco hge rfl hcd (cw hp ?_);refine wpAny_newFunctionEnv C.nocell (by intro y hy;simp at hy) (λh₁ hns₁ hsb₁=>?_) C.kind;have old:∀b ob,s.heap.get? b=some ob->h₁.get? b=some ob:=λb ob e=>hsb₁.extBut b ob (v6 (xh e)) (yq _ e);refine⟨lim.keeps old,PySem.W.kla_codeExpr ?_⟩;refine u9 (hb [] _ σ H Q (GU C hr.hd J.env0 hns₁ old) h) (λu s' hs=>?_) λe s' hs=>hs;obtain⟨v,H',I',rv,q⟩:=hs;exact⟨v,H',I'.os,I'.bare,I'.base,I'.hok,rv,q⟩
 ·cases r with
  |error e=>exact hq
  |ok fl=>
   cases fl with
   |ret u=>exact J.after hq
   |_=>exact False.elim hq
end
def xM{a b c cv:Value}:∀{l:List Value},TriplesOk l->codeAmong pos (l++[a,b,c])=some cv->cv=c\/codeAmong pos l=some cv:=λ{l}=>by
 induction l using TriplesOk.induct with
 |case1=>
  intro _ h;left;rw[rT,codeAmong.eq_def]at h
  repeat' split at h
  all_goals simp_all[codeAmong]
 |case2 i t j u v r ih=>
  intro ht h;rw[TriplesOk.eq_2]at ht;simp only[b7]at h;rw[codeAmong.eq_1]at h⊢;split at h;·rename_i q;rw[if_pos q];exact .inr h
  ·rename_i q;rw[if_neg q];exact ih ht h
 |case3 x h1 h2=>intro ht;rw[TriplesOk.eq_3 x h1 h2]at ht;exact ht.elim
section
variable{body:Expr}{c P:Addr}{ps:Array Value}{Q:Value->Shared->Prop}
structure Lam(X:Cx)(pins:List (Addr×Obj))(σ:St)(H:Hp)(s:Shared)(params:Arguments)(body:Expr)(scope:Scope)(f:Addr)(cd ctv pm:Value)(H1:Hp)(s1:Shared):Prop where
 inv:Inv X pins σ H1 s1
 hh:Same H H1
 new:∀a,H a=none->H1 a=none\/s.heap.objs.size<=a
 free:H1 f=none
 fn:s1.heap.get? f=some { cls:=.type "function",data:=.func (PySem.W.kla_fn "<lambda>" (X.env.qual++"<lambda>") params body scope (rK X.env scope.names []) pm cd ctv) }
 codeH:∃c o vs t u,cd=.ref c/\H1 c=some (.frz o u)/\o.data=.fields vs/\vs[1]?=some (.str (X.env.qual++"<lambda>") t)
def B6(I:Inv X pins σ H s)(hdef:defaultsOf params X.env=([],[]))(hc:X.env.code=.ref c)(hcd:PySem.W.CodeHd s.heap c P)(hT:H P=some (.tbl ps))(hq:AU ps=X.env.qual++"<lambda>")(hbm:s.heap.BuiltinsAt X.mg P)(hfr:∀y∈scope.names,y.2=.free->X.env.kindOf y.1=some .cell)(hgP:mainGlobals≠P)(h:∀f cd ctv pm H1 s1,Lam X pins σ H s params body scope f cd ctv pm H1 s1->Q (.ref f) s1):
  wpAny (model X.prog X.w) X.A (eval (.Lambda params body scope pos) X.env) Q X.xe s:=by
 have clos:closureFor scope X.env=pure (rK X.env scope.names []):=gP λy hy hk=>I.ok.has y.1 (.inl (hfr y hy hk));have hns:s.heap.Ns mainGlobals X.mg:=by obtain⟨o,es,ep,e,r⟩:=I.ok.mod.glob;exact⟨o,es,ep,I.bk _ _ e,r⟩
 obtain⟨qs,hP,tr,co⟩:=I.hok P _ hT;have neP:∀{b:Addr},H b=none->b≠P:=λe z=>by rw[z,hT]at e;cases e
 refine PySem.W.kla_eval hdef ?_;cases q:codeAmong pos qs.toList with
 |some cv=>obtain⟨c',o',vs',t',e1,e2,e3,e4⟩:=co pos cv q;refine PySem.W.kla_makeFunctionHit clos I.ok.glob hns hc hcd hP tr q hbm λctv h' tk old sz=>?_;have old2:∀b o,s.heap.get? b=some o->∀ob,(h'.push ob).get? b=some o:=λb o e ob=>yq _ (old b o e);refine h _ cv ctv _ H _ ⟨I.kept (t':=tk) λb o e=>old2 b o e _,.refl _,λa e=>.inl e,I.hok.fresh sz,w6 _ rfl,⟨c',o',vs',t',_,e1,e2,e3,?_⟩⟩;rw[<- hq];exact e4
 |none=>
  refine PySem.W.kla_makeFunction clos I.ok.glob hns hc hcd hP tr q hgP hbm λc' ctv h' tk ext lo hi cr tab=>?_;have fr:H c'=none:=I.hok.fresh lo;obtain⟨c2,oc,vs,t,z1,z2,z3,z4⟩:=cr;cases z1;have old:∀b o,b≠P->s.heap.get? b=some o->∀ob,(h'.push ob).get? b=some o:=λb o n e ob=>yq _ (ext b o n e);have neU:∀{b:Addr}{o:HO},H b=some o->upd H c' (.frz oc (.own P)) b=some o:=λe=>by rw[am (aC e fr)];exact e
  have un:∀ob,Un (frs X.stack) [] H (upd H c' (.frz oc (.own P))) s.heap (h'.push ob):=λob=>by
   refine⟨λb o e n _ _=>old b o (neP n) e ob,λb o e n _ _=>⟨o.slots,old b o (neP n) e ob⟩,λb o e n _=>?_,λb o e _=>?_,λb xs e=>neU e,λb o u e=>neU e,λb ps e=>⟨#[],by rw[neU e];simp⟩⟩;·rw[am (λz=>by have:=xh e;rw[z]at this;exact absurd this (rX.mpr lo))];exact n
   ·by_cases z:b=P;·rw[z];exact⟨_,yq _ tab⟩
    ·exact⟨o,old b o z e ob⟩
  have hok:∀ob,HOk X.prog X.w (upd H c' (.frz oc (.own P))) (h'.push ob):=λob b o e=>by
   by_cases z:b=c';·subst z;rw[az]at e;cases e;exact⟨yq _ z2,oc,yq _ z2⟩
   ·rw[am z]at e;by_cases zP:b=P
    ·subst zP;rw[hT]at e;cases e;refine⟨_,yq _ tab,?_,λpos' cv q'=>?_⟩;·rw[Zq];exact TriplesOk_snoc _ _ _ _ tr
     ·rw[Zq]at q';rcases xM tr q' with y|y
      ·subst y;refine⟨c',oc,vs,t,rfl,az,z3,?_⟩;rw[hq];exact z4
      ·obtain⟨c2,o3,vs3,t3,y1,y2,y3⟩:=co pos' cv y;exact⟨c2,o3,vs3,t3,y1,neU y2,y3⟩
    ·refine(I.hok b o e).stay (λb' u hb' q'=>old b' u (λz=>?_) q' ob) (λb' e'=>neU e') (λb' xs e'=>neU e') (λb' ob' u' e'=>neU e');rcases hb' with hb'|hb';·exact zP (hb'▸z)
     ·rw[z,hT]at hb';cases hb'
  refine h _ (.ref c') ctv _ (upd H c' (.frz oc (.own P))) _ ⟨I.call' (s':={ s with heap:=_,toks:=tk }) (ch:=[]) rfl (un _) (hok _) I.bare (λb z=>absurd z (by simp)),λb o e=>neU e,λa e=>?_,?_,w6 _ rfl,⟨c',oc,vs,t,_,rfl,az,z3,z4⟩⟩
  ·by_cases z:a=c';·exact .inr (z▸lo)
   ·exact .inl (by rw[am z];exact e)
  ·rw[am (r6 hi)];refine I.hok.fresh (w8 lo (io hi))
end
structure FnFH(P:Program)(w:World)(K:PySem.W.Frag)(mg:Str->Option Value)(base:Heap)(k:Nat)(f:Addr)(fd:FuncData)(ps:List Str)(g:List D->R D):Prop where
 run:∀(A:Around)(x:Addr)(outer:List Env)(s:Shared)(H:Hp)(args:Args)(us:List Value)(vs:List V)(Q:VK)(E:XK),Room k A->Env0 P w K mg base A outer s H->BindsTo s fd args (ps.zip us)->Vals vs us->(vs.length=ps.length/\spF K g vs H Q E)->
  codeAny (model P w) (A.mark (some (.ref x))) (.call (.ref f) args) (CR (CXo P w) outer P w H s Q E) s
structure CalleeH(P:Program)(w:World)(K:PySem.W.Frag)(mg:Str->Option Value)(base:Heap)(x:Str)(k n:Nat)(g:List D->R D):Prop where
 ex:∃f fd ps,FnFH P w K mg base k f fd ps g/\mg x=some (.ref f)/\PySem.W.keepIn K (.ref f)=true/\Binds K fd ps []/\ps.length=n
noncomputable def IQ(P:Program)(w:World)(K:PySem.W.Frag)(mg:Str->Option Value)(base:Heap)(k:Nat)(s1:Shared)(G1 H1:Hp)(f:Addr)(m:R D):Prop:=
 ∀(Y:Cx)(pins:List (Addr×Obj))(σY:St)(G2 H2:Hp)(s2:Shared)(fs:List Addr)(Q:VK),Y.prog=P->Y.w=w->Y.K=K->Y.mg=mg->Y.base=base->Inv Y pins σY H2 s2->Room k Y.A->Un fs [] H1 H2 s1.heap s2.heap->Up G1 H1 G2 H2->
  m.post (Fin G2 H2 (Rep Y.K) Q) (Exx Y σY G2 H2)->(∃o fd,s2.heap.get? f=some o/\o.data=.func fd)/\wpAny (model Y.prog Y.w) Y.A (call (.ref f) []) (EP Y pins σY Q) Y.xe s2
def IsCell.un{fs:List Addr}{H2:Hp}{h1 h2:Heap}{c:Addr}{v:Option Value}(u:Un fs [] H1 H2 h1 h2)(hn:H1 c=none)(h:h1.IsCell c v):h2.IsCell c v:=by obtain⟨o,e,d⟩:=h;obtain⟨sl,q⟩:=u.any e hn (by simp);exact⟨_,q,d⟩
def ClOk.un{fs:List Addr}{N:List Str}{cl:List (Str×Addr)}{H2:Hp}{h1 h2:Heap}(C:ClOk N scope cl σ H1 h1)(u:Un fs [] H1 H2 h1 h2):ClOk N scope cl σ H2 h2:=
 ⟨C.kind,C.nocell,C.inj,C.has,λy c e=>by
  obtain⟨n,v,q⟩:=C.cell y c e;obtain⟨o,e1,d⟩:=id q;exact⟨u.free c o e1 n (by simp),v,IsCell.un u n q⟩,λi y v e1 e2=>by
  obtain⟨x,c,r,k,e,q⟩:=C.val i y v e1 e2;exact⟨x,c,r,k,e,IsCell.un u (C.cell y c e).1 q⟩,C.len⟩
def StE.r{K:PySem.W.Frag}(st:StE K G H σ ρ)(h:NoOwn ρ):StR K G H G H σ ρ:=
 ⟨st,st.sub,.refl st.sub,λi ds e=>absurd e (h.own i ds),λi j ds es l e=>absurd e (h.own i ds),h.ob⟩
structure Told(P:Program)(w:World)(K:PySem.W.Frag)(mg:Str->Option Value)(base:Heap)(x:Str)(k j:Nat)(g:R D->R D):Prop where
 ex:∃ft,mg x=some (.ref ft)/\PySem.W.keepIn K (.ref ft)=true/\∀(A:Around)(outer:List Env)(s1:Shared)(G1 H1:Hp)(f:Addr)(m:R D)(Q:VK)(E:XK),Room k A->Env0 P w K mg base A outer s1 H1->Same G1 H1->IQ P w K mg base j s1 G1 H1 f m->
  (g m).post (Fin G1 H1 (Rep K) Q) (λC=>∀G' H',Up G1 H1 G' H'->E (.ref C) none H')->codeAny (model P w) A (.call (.ref ft) ⟨[.ref f],[]⟩) (CR (CXo P w) outer P w H1 s1 Q E) s1
section
variable{w:World}{K:PySem.W.Frag}{mg:Str->Option Value}{base:Heap}{ft:Addr}{b₀:Stmt}{suite:List Stmt}{p1 p2 p3 tp hp tpos:Pos}{nm tn:Str}{gs:Ev->O}{fe:Addr->Option Bool}{Ct:Addr}
def Cg{M:Model}(e:h.get? f=some o)(d:o.data=.func fd):PySem.W.Looks M h (keeperOf (.ref f)) .frame:=by unfold keeperOf;exact(PySem.W.Looks.ld e).andThen (by rw[d];exact .now)
end
structure LamAt(X:Cx):Prop where
 ex:∃c P q,X.env.code=.ref c/\(∀h,X.K.In h->PySem.W.CodeHd h c P)/\yi X.base P q/\q=X.env.qual++"<lambda>"/\X.base.BuiltinsAt X.mg P/\mainGlobals≠P
structure LamOk(X:Cx)(scope:Scope)(N':List Str)(ix:List Nat):Prop where
 kind:scope.kind=.function
 co:scope.isCoroutine=false
 gen:scope.isGenerator=false
 cell:∀y∈scope.names,y.2≠.cell
 fr:∀y∈scope.names,y.2=.free->X.env.kindOf y.1=some .cell
 tl:N'=ix.map λ(i:Nat)=>X.N.getD i Str.empty
 lt:∀i∈ix,i<X.N.length
 fre:∀y∈N',scope.names.lookup y=some .free/\(y,NameKind.free)∈scope.names
def wx(hk:scope.kind=.function:=by rfl)(hc:scope.isCoroutine=false:=by rfl)(hg:scope.isGenerator=false:=by rfl)(h1:(∀y∈scope.names,y.2≠.cell)/\(∀y∈scope.names,y.2=.free->y.1∈N')/\∀y∈N',scope.names.lookup y=some .free/\(y,NameKind.free)∈scope.names:=by decide +kernel)(h2:N'.map X.env.kindOf=N'.map λ_=>some NameKind.cell:=by rfl)(h3:N'=ix.map (λ(i:Nat)=>X.N.getD i Str.empty):=by rfl)(h4:ix.all (λi=>decide (i<X.N.length))=true:=by rfl):LamOk X scope N' ix:=by
 obtain⟨a,b,c⟩:=h1;exact⟨hk,hc,hg,a,λy hy h=>Zo.1 h2 _ (b y hy h),h3,λi hi=>lZ (wX.1 h4 i hi),c⟩
section
variable{body:Expr}{lp:Pos}{g:R D->R D}
def EY(ok:LamOk X scope N' ix)(I:Inv X pins σ H s):ClOk N' scope (rK X.env scope.names []) (fh 0 ix σ) H s.heap:=by
 have cl:∀y c,(rK X.env scope.names []).lookup y=some c->X.env.cells.lookup y=some c:=qa scope.names [] (λy c h=>by simp at h);have hasf:∀y,(y,NameKind.free)∈scope.names->∃c,(rK X.env scope.names []).lookup y=some c:=λy hy=>lF scope.names [] y (.inr ⟨hy,I.ok.has y (.inl (ok.fr _ hy rfl))⟩);refine⟨ok.kind,ok.cell,λy z c h1 h2=>I.ok.inj y z c (cl y c h1) (cl z c h2),λy hy=>hasf y (o9 hy),λy c h=>⟨I.freeC y c (cl y c h),I.cell y c (cl y c h)⟩,λi y v h1 h2=>?_,?_⟩
 ·unfold fh at h2;rw[List.replicate_zero,rT,v7]at h2;cases e:ix[i]? with
  |none=>rw[e]at h2;cases h2
  |some i0=>
   rw[e]at h2;have h2':σ[i0]?=some (some v):=by
    cases q:σ[i0]? with
    |none=>rw[uo,q]at h2;cases h2
    |some z=>rw[uo,q]at h2;have:=xV h2;rw[<- this];rfl
   have hy:X.N[i0]?=some y:=by have ht2:=h1;rw[ok.tl,v7,e]at ht2;have hl:=ok.lt i0 (j3 e);have q:=xV ht2;rw[w9 hl,<- q];show some X.N[i0]=some (X.N.getD i0 Str.empty);rw[v9,w9 hl];rfl
   obtain⟨fr1,fr2⟩:=ok.fre y (j3 h1);have kc:=ok.fr _ fr2 rfl;obtain⟨m0,hn0,hl⟩:=I.loc;obtain⟨u,ru,lk⟩:=hl i0 y v hy h2' (.inr (.inl kc));rcases lk with⟨z,_⟩|⟨_,c,hc,hcell⟩;·rw[kc]at z;cases z
   ·obtain⟨c',hc'⟩:=hasf y fr2;have:=cl y c' hc';rw[hc]at this;cases this;exact⟨u,c,ru,fr1,hc',hcell⟩
 ·unfold fh;rw[ok.tl];simp
end
def oT{w:World}{K:PySem.W.Frag}{mg:Str->Option Value}{base:Heap}{N:List Str}{cl:List (Str×Addr)}{A:Around}{outer:List Env}{E:XK}(h:At N i x)(hv:Vis (vn P w K mg base N qual scope cl f cd A outer s H E).env.scope x:=by first|exact Or.inl rfl|exact Or.inr (Or.inl rfl)|exact Or.inr (Or.inr rfl))(hd:(x==("__debug__":Str))=false:=by decide)(hcd:(x==("__classdict__":Str))=false:=by decide):PF (vn P w K mg base N qual scope cl f cd A outer s H E) (.Name x pos) (λρ=>rdV ρ i):=wb i h hv hd hcd
structure LamDef(K:PySem.W.Frag)(mg:Str->Option Value)(fd:FuncData)(Pt:Addr):Prop where
 ex:∃c,fd.code=.ref c/\∀h,K.In h->PySem.W.CodeHd h c Pt
 ne:mainGlobals≠Pt
structure LamB(K:PySem.W.Frag)(mg:Str->Option Value)(base:Heap)(qual:Str)(fd:FuncData)(Pt:Addr):Prop where
 ld:LamDef K mg fd Pt
 tb:yi base Pt (qual++".<locals>."++"<lambda>")
 bm:base.BuiltinsAt mg Pt
noncomputable def hid(H:Hp)(ow:jq):Hp:=λa=>if (ow a).isSome=true then none else H a
def Bw{o:HO}(h:hid H ow a=some o):H a=some o/\ow a=none:=by
 unfold hid at h;split at h;·cases h
 ·rename_i q;exact⟨h,by cases e:ow a with|none=>rfl|some t=>rw[e]at q;exact absurd rfl q⟩
def jn{t:Nat×Nat}(h:ow a=some t):hid H ow a=none:=by unfold hid;rw[h];exact if_pos rfl
def ii(h:ow a=none):hid H ow a=H a:=by unfold hid;rw[h];exact if_neg (by simp)
def FE(H:Hp)(ow:jq):Same (hid H ow) H:=λa o e=>(Bw e).1
noncomputable def uG(i j:Nat)(ow:jq):jq:=λa=>match ow a with
 |some (i',t)=>if i'=i then some (j,t)else none
 |none=>none
def pN{t:Nat}(h:ow a=some (i,t)):uG i j ow a=some (j,t):=by unfold uG;rw[h];exact if_pos rfl
def BZ{t:Nat×Nat}(h:uG i j ow a=some t):ow a=some (i,t.2)/\t.1=j:=by
 unfold uG at h;split at h
 ·rename_i i' t' e;split at h;·rename_i z;subst z;cases h;exact⟨e,rfl⟩
  ·cases h
 ·cases h
section
variable{K:PySem.W.Frag}{H₀:Hp}{m:Bool}{p:Addr}{fs:List (Nat×Fd)}
def FdAt.hid{m':Bool}:∀{fd:Fd}{v:V},FdAt K H₀ G H ow i m k fd v->FdAt K (L2.hid H ow) G H ow i m' k fd v
 |.val d,v,r=>r
 |.own ds,v,⟨l,ws,e,h1,h2,h3,h4,h5⟩=>⟨l,ws,e,h1,h2,λ_=>jn h5,h4,h5⟩
theorem FdsAt.hid{m':Bool}:∀{fs:List (Nat×Fd)}{vs:List (Str×V)},FdsAt K H₀ G H ow i m fs vs->FdsAt K (L2.hid H ow) G H ow i m' fs vs
 |_,_,.nil=>.nil
 |_,_,.cons h nk r t=>.cons h nk (FdAt.hid r) (FdsAt.hid t)
def InsAt.hid(h:InsAt K H₀ G H ow i m C p fs)(m':Bool):InsAt K (L2.hid H ow) G H ow i m' C p fs:=by obtain⟨dx,vs,h1,h2,h3,h4,h5,h6,h7,h8⟩:=h;exact⟨dx,vs,h1,h2,h3,h4,λ_=>⟨jn h6,jn h7⟩,h6,h7,h8.hid⟩
def DcoAt.hid(h:DcoAt K H₀ G H ow i m p fs)(m':Bool):DcoAt K (L2.hid H ow) G H ow i m' p fs:=
 let⟨o,xs,ks,ds,h1,h2,h3,h4,h5,h6,h7⟩:=h
 ⟨o,xs,ks,ds,h1,h2,λ_=>jn h4,h4,h5,h6,h7⟩
def ObjAt.hid(h:ObjAt K H₀ G H ow i m C p fs)(m':Bool):ObjAt K (L2.hid H ow) G H ow i m' C p fs:=h.imp (λz=>⟨z.1,z.2.hid m'⟩) λz=>⟨z.1,z.2.hid m'⟩
def FdAt.ro{H₀':Hp}:∀{fd:Fd}{v:V},FdAt K H₀ G H ow i m k fd v->FdAt K H₀' G H ow i false k fd v
 |.val d,v,r=>r
 |.own ds,v,⟨l,ws,e,h1,h2,h3,h4,h5⟩=>⟨l,ws,e,h1,h2,λz=>absurd z (by decide),h4,h5⟩
theorem FdsAt.ro{H₀':Hp}:∀{fs:List (Nat×Fd)}{vs:List (Str×V)},FdsAt K H₀ G H ow i m fs vs->FdsAt K H₀' G H ow i false fs vs
 |_,_,.nil=>.nil
 |_,_,.cons h nk r t=>.cons h nk (FdAt.ro r) (FdsAt.ro t)
def InsAt.ro(h:InsAt K H₀ G H ow i m C p fs)(H₀':Hp):InsAt K H₀' G H ow i false C p fs:=by obtain⟨dx,vs,h1,h2,h3,h4,h5,h6,h7,h8⟩:=h;exact⟨dx,vs,h1,h2,h3,h4,λz=>absurd z (by decide),h6,h7,h8.ro⟩
def DcoAt.ro(h:DcoAt K H₀ G H ow i m p fs)(H₀':Hp):DcoAt K H₀' G H ow i false p fs:=
 let⟨o,xs,ks,ds,h1,h2,h3,h4,h5,h6,h7⟩:=h
 ⟨o,xs,ks,ds,h1,h2,λz=>(nomatch z),h4,h5,h6,h7⟩
def ObjAt.ro(h:ObjAt K H₀ G H ow i m C p fs)(H₀':Hp):ObjAt K H₀' G H ow i false C p fs:=h.imp (λz=>⟨z.1,z.2.ro H₀'⟩) λz=>⟨z.1,z.2.ro H₀'⟩
end
noncomputable def dv(m:Bool)(C p:Addr)(fs:List (Nat×Fd))(n:Nat)(ds:List D):Ev:=some (.obj m C p fs)::(ds.map (λd=>some (.val d))++List.replicate (n - (ds.length+1)) none)
def rV{K:PySem.W.Frag}{H₀:Hp}{m:Bool}{p:Addr}{fs:List (Nat×Fd)}{N:List Str}{us:List V}(sub0:Same G H₀)(up:Up G H₀ G H)(r:Reps K G us ds)(ob:ObjAt K H₀ G H ow 0 m C p fs):
  StR K G H₀ G H (gW N (.ref p::us)) (dv m C p fs N.length ds):=by
 have hl:=r.length;have get:∀(i:Nat) x,(dv m C p fs N.length ds)[i]?=some (some x)->(i=0/\x=.obj m C p fs)\/∃k d,i=k+1/\ds[k]?=some d/\x=.val d:=λi x e=>by
  cases i with
  |zero=>left;cases e;exact⟨rfl,rfl⟩
  |succ k=>
   right;unfold dv at e;rw[List.getElem?_cons_succ]at e;by_cases hi:k<ds.length
   ·rw[oq (by simpa using hi),v7]at e;cases q:ds[k]? with
    |none=>rw[q]at e;cases e
    |some d=>rw[q]at e;cases e;exact⟨k,d,rfl,q,rfl⟩
   ·rw[nA (by simpa using hi),l9]at e;split at e <;> cases e
 have obs:ObSt K H₀ G H (gW N (.ref p::us)) (dv m C p fs N.length ds):=by
  refine⟨ow,λi es l e=>?_,λi m' C' p' fs' e=>?_⟩;·rcases get i _ e with⟨_,z⟩|⟨k,d,_,_,z⟩ <;> cases z
  ·rcases get i _ e with⟨rfl,z⟩|⟨k,d,_,_,z⟩;·cases z;exact⟨rfl,ob⟩
   ·cases z
 refine⟨⟨up.sub,?_,λi d e=>?_,obs.rd⟩,sub0,up,λi es e=>?_,λi j es fs l e=>?_,obs⟩;·simp[gW,dv,hl]
 ·rcases get i _ e with⟨_,z⟩|⟨k,d',rfl,e',z⟩;·cases z
  ·cases z;obtain⟨v,ev,rv⟩:=r.get e';refine⟨v,?_,rv⟩;unfold gW;rw[x9,b7,List.getElem?_cons_succ,oq (by have:=(u8.mp ev).1;simpa using this),v7,ev];rfl
 ·rcases get i _ e with⟨_,z⟩|⟨k,d,_,_,z⟩ <;> cases z
 ·rcases get i _ e with⟨_,z⟩|⟨k,d,_,_,z⟩ <;> cases z
inductive RM where
 |ok (d:D) (fs:List (Nat×Fd))|rd (d:D)|ex (C:Addr)|no
noncomputable abbrev MF:=List (Nat×Fd)->List D->RM
noncomputable def dU(C:Addr)(g:Ev->O)(n:Nat)(F:MF):Prop:=∀p fs ds,match F fs ds with
 |.ok d fs'=>∃ρ',ρ'[0]?=some (some (.obj true C p fs'))/\(g (dv true C p fs n ds)=.re d ρ'\/(g (dv true C p fs n ds)=.nx ρ'/\d=.non))
 |.rd d=>g (dv false C p fs n ds)=.rt d
 |.ex E=>∃ρ',g (dv false C p fs n ds)=.ex E ρ'
 |.no=>True
noncomputable def spM(K:PySem.W.Frag)(C:Addr)(F:MF):Sp:=λvs H Q E=>∃G p us ds fs ow,vs=.ref p::us/\Reps K G us ds/\Same G H/\(∀a t,ow a=some t->G a=none)/\ObjAt K (λ_=>none) G H ow 0 true C p fs/\match F fs ds with
 |.ok d fs'=>∀v G' H' ow',Up G (hid H ow) G' H'->ObjAt K (hid H ow) G' H' ow' 0 true C p fs'->Rep K G' v d->Q v H'
 |.rd d=>∀v G' H',Up G H G' H'->Rep K G' v d->Q v H'
 |.ex C'=>∀G' H',Up G H G' H'->E (.ref C') none H'
 |.no=>False
noncomputable abbrev FnM(P:Program)(w:World)(K:PySem.W.Frag)(mg:Str->Option Value)(base:Heap)(k:Nat)(f:Addr)(fd:FuncData)(ps:List Str)(C:Addr)(F:MF):Prop:=FnOk P w K mg base (CXo P w) k f fd ps (λvs H Q E=>vs.length=ps.length/\spM K C F vs H Q E)
def JJ(sub:Same G H)(hg:∀a t,ow a=some t->G a=none):Same G (hid H ow)/\Up G (hid H ow) G H:=by
 have s:Same G (hid H ow):=λa o e=>by
  cases q:ow a with
  |none=>rw[ii q];exact sub a o e
  |some t=>rw[hg a t q]at e;cases e
 exact⟨s,sub,.refl _,FE H ow,λ_ _ e=>.inl e⟩
def Fun.okM{w:World}{K:PySem.W.Frag}{mg:Str->Option Value}{base:Heap}{N:List Str}{F:MF}(Fn:Fun K x qual st f fd)(S:FnScope N ps (af st)){g:Ev->O}(ok:dU C g N.length F)(hbody:∀(cdv:Value)(A:Around)(outer:List Env)(s:Shared)(H:Hp)(E:XK),Room k (A.deeper (envOfC qual (af st) s.heap.objs.size f cdv))->oB (fc (CXo P w) P w K mg base N qual (af st) f cdv A outer s H E) (aJ st) g):
  FnM P w K mg base (k+1) f fd ps C F:=by
 obtain⟨oc,od,kV,doc,pm,an,cdv,ct,osl,rfl,lk,hcd⟩:=Fn.ex;refine A5 lk hcd S (λvs H Q E h=>h.1) λA outer s H vs Q E hr hsp=>?_;obtain⟨hl,G,p,us,ds,fs,ow,rfl,r,sub,og,ob,h⟩:=hsp;have o:=ok p fs ds;have rdo:StR K G H G H (gW N (.ref p::us)) (dv false C p fs N.length ds):=rV sub (.refl sub) r (ob.ro H);cases q:F fs ds with
 |no=>rw[q]at h;exact h.elim
 |rd d=>rw[q]at h o;refine⟨_,hbody cdv A outer s H E hr G H,G,_,rdo,?_⟩;have o:g (dv false C p fs N.length ds)=.rt d:=o;rw[o];exact λv G' H' u rv=>h v G' H' u rv
 |ex C'=>rw[q]at h o;obtain⟨ρ',o⟩:=o;refine⟨_,hbody cdv A outer s H E hr G H,G,_,rdo,?_⟩;rw[o];exact λe s' fl=>jE fl h
 |ok d fs'=>
  rw[q]at h o;obtain⟨ρ',e0,o⟩:=o;obtain⟨s0,u0⟩:=JJ sub og;refine⟨_,hbody cdv A outer s H E hr G (hid H ow),G,dv true C p fs N.length ds,rV s0 u0 r (ob.hid true),?_⟩;have fin:∀σ G' H',StR K G (hid H ow) G' H' σ ρ'->∃ow',ObjAt K (hid H ow) G' H' ow' 0 true C p fs':=λσ G' H' sr=>by obtain⟨ow',_,o2⟩:=sr.ob;exact⟨ow',(o2 0 true C p fs' e0).2⟩
  rcases o with o|⟨o,rfl⟩;·rw[o];intro v σ G' H' sr rv;obtain⟨ow',z⟩:=fin σ G' H' sr;exact h v G' H' ow' sr.up z rv
  ·rw[o];intro σ G' H' sr;obtain⟨ow',z⟩:=fin σ G' H' sr;exact h .non G' H' ow' sr.up z .non
noncomputable def li(i:Nat)(m:Bool)(H₀ G H:Hp)(ow:jq):jq:=λa=>open Classical in if (∃o,H a=some o)/\G a=none/\(m=true->H₀ a=none)then uG i 0 ow a else none
section
variable{K:PySem.W.Frag}{H₀:Hp}{m:Bool}{p:Addr}{fs:List (Nat×Fd)}
def qO{t:Nat}{o:HO}(h:ow a=some (i,t))(e:H a=some o)(g:G a=none)(z:m=true->H₀ a=none):li i m H₀ G H ow a=some (0,t):=by unfold li;rw[if_pos ⟨⟨o,e⟩,g,z⟩];exact pN h
def ij{t:Nat×Nat}(h:li i m H₀ G H ow a=some t):ow a=some (i,t.2)/\(∃o,H a=some o)/\G a=none/\(m=true->H₀ a=none):=by
 unfold li at h;split at h;·rename_i q;exact⟨(BZ h).1,q⟩
 ·cases h
def FdAt.cut:∀{fd:Fd}{v:V},FdAt K H₀ G H ow i m k fd v->FdAt K (λ_=>none) G H (li i m H₀ G H ow) 0 true k fd v
 |.val d,v,r=>r
 |.own ds,v,⟨l,ws,e,h1,h2,h3,h4,h5⟩=>⟨l,ws,e,h1,h2,λ_=>rfl,h4,qO h5 h1 h2 h3⟩
theorem FdsAt.cut:∀{fs:List (Nat×Fd)}{vs:List (Str×V)},FdsAt K H₀ G H ow i m fs vs->FdsAt K (λ_=>none) G H (li i m H₀ G H ow) 0 true fs vs
 |_,_,.nil=>.nil
 |_,_,.cons h nk r t=>.cons h nk (FdAt.cut r) (FdsAt.cut t)
def InsAt.cut(h:InsAt K H₀ G H ow i m C p fs):InsAt K (λ_=>none) G H (li i m H₀ G H ow) 0 true C p fs:=by obtain⟨dx,vs,h1,h2,h3,h4,h5,h6,h7,h8⟩:=h;exact⟨dx,vs,h1,h2,h3,h4,λ_=>⟨rfl,rfl⟩,qO h6 h1 h3 λz=>(h5 z).1,qO h7 h2 h4 λz=>(h5 z).2,h8.cut⟩
def DcoAt.cut(h:DcoAt K H₀ G H ow i m p fs):DcoAt K (λ_=>none) G H (li i m H₀ G H ow) 0 true p fs:=
 let⟨o,xs,ks,ds,h1,h2,h3,h4,h5,h6,h7⟩:=h
 ⟨o,xs,ks,ds,h1,h2,λ_=>rfl,qO h4 h1 h2 h3,h5,h6,h7⟩
def ObjAt.cut(h:ObjAt K H₀ G H ow i m C p fs):ObjAt K (λ_=>none) G H (li i m H₀ G H ow) 0 true C p fs:=h.imp (λz=>⟨z.1,z.2.cut⟩) λz=>⟨z.1,z.2.cut⟩
end
section
variable{K:PySem.W.Frag}{H₀ H₀':Hp}{ow2:jq}{p:Addr}
def FdAt.newtag(h:∀a t,ow a=some (0,t)->H₀ a=none->ow2 a=some (i,t))(z:∀a,H₀ a=none->H₀' a=none):∀{fd:Fd}{v:V},FdAt K H₀ G H ow 0 true k fd v->FdAt K H₀' G H ow2 i true k fd v
 |.val d,v,r=>r
 |.own ds,v,⟨l,ws,e,h1,h2,h3,h4,h5⟩=>⟨l,ws,e,h1,h2,λ_=>z l (h3 rfl),h4,h l _ h5 (h3 rfl)⟩
theorem FdsAt.newtag(h:∀a t,ow a=some (0,t)->H₀ a=none->ow2 a=some (i,t))(z:∀a,H₀ a=none->H₀' a=none):∀{fs:List (Nat×Fd)}{vs:List (Str×V)},FdsAt K H₀ G H ow 0 true fs vs->FdsAt K H₀' G H ow2 i true fs vs
 |_,_,.nil=>.nil
 |_,_,.cons k nk r t=>.cons k nk (FdAt.newtag h z r) (FdsAt.newtag h z t)
def InsAt.newtag{fs:List (Nat×Fd)}(h:∀a t,ow a=some (0,t)->H₀ a=none->ow2 a=some (i,t))(z:∀a,H₀ a=none->H₀' a=none)(o:InsAt K H₀ G H ow 0 true C p fs):InsAt K H₀' G H ow2 i true C p fs:=by obtain⟨dx,vs,h1,h2,h3,h4,h5,h6,h7,h8⟩:=o;exact⟨dx,vs,h1,h2,h3,h4,λ_=>⟨z p (h5 rfl).1,z dx (h5 rfl).2⟩,h p _ h6 (h5 rfl).1,h dx _ h7 (h5 rfl).2,h8.newtag h z⟩
def DcoAt.newtag{fs:List (Nat×Fd)}(h:∀a t,ow a=some (0,t)->H₀ a=none->ow2 a=some (i,t))(z:∀a,H₀ a=none->H₀' a=none)(o:DcoAt K H₀ G H ow 0 true p fs):DcoAt K H₀' G H ow2 i true p fs:=
 let⟨o,xs,ks,ds,h1,h2,h3,h4,h5,h6,h7⟩:=o
 ⟨o,xs,ks,ds,h1,h2,λ_=>z p (h3 rfl),h p 0 h4 (h3 rfl),h5,h6,h7⟩
def ObjAt.newtag{fs:List (Nat×Fd)}(h:∀a t,ow a=some (0,t)->H₀ a=none->ow2 a=some (i,t))(z:∀a,H₀ a=none->H₀' a=none)(o:ObjAt K H₀ G H ow 0 true C p fs):ObjAt K H₀' G H ow2 i true C p fs:=o.imp (λy=>⟨y.1,y.2.newtag h z⟩) λy=>⟨y.1,y.2.newtag h z⟩
end
def StR.meth{K:PySem.W.Frag}{H₀ G':Hp}{p:Addr}{fs:List (Nat×Fd)}{ow':jq}(s:StR K G₀ H₀ G H σ ρ)(e:ρ[i]?=some (some (.obj true C p fs)))(o1:∀(j:Nat) ds l,ρ[j]?=some (some (.own ds))->σ[j]?=some (some (.ref l))->ow l=some (j,0))(o2:∀(j:Nat) m C p fs,ρ[j]?=some (some (.obj m C p fs))->σ[j]?=some (some (.ref p))/\ObjAt K H₀ G H ow j m C p fs)(u:Up G (hid H (li i true H₀ G H ow)) G' H')(ob:ObjAt K (hid H (li i true H₀ G H ow)) G' H' ow' 0 true C p fs'):StR K G₀ H₀ G' H' σ (ρ.set i (some (.obj true C p fs'))):=by
 have hl:i<ρ.length:=(u8.mp e).1;have get:∀(j:Nat) x,(ρ.set i (some (.obj true C p fs')))[j]?=some (some x)->(j=i/\x=.obj true C p fs')\/(j≠i/\ρ[j]?=some (some x)):=λj x h=>by
  by_cases z:i=j;·subst z;rw[uu hl]at h;exact .inl ⟨rfl,by injection (xV h)with q;exact q.symm⟩
  ·rw[t6 z]at h;exact .inr ⟨λq=>z q.symm,h⟩
 have keep:∀a o,H a=some o->li i true H₀ G H ow a=none->H' a=some o:=λa o q n=>u.hh a o (by rw[ii n];exact q);have out0:∀a,H₀ a≠none->li i true H₀ G H ow a=none:=λa q=>by
  cases z:li i true H₀ G H ow a with
  |none=>rfl
  |some t=>exact absurd ((ij z).2.2.2 rfl) q
 have outT:∀a j t,j≠i->ow a=some (j,t)->li i true H₀ G H ow a=none:=λa j t nj q=>by
  cases z:li i true H₀ G H ow a with
  |none=>rfl
  |some t'=>have:=(ij z).1;rw[q]at this;cases this;exact absurd rfl nj
 have gn:∀a o,H a=some o->G a=none->li i true H₀ G H ow a=none->G' a=none:=λa o q g n=>by
  cases z:G' a with
  |none=>rfl
  |some o'=>
   rcases u.fr a o' z with z|z;·rw[g]at z;cases z
   ·rw[ii n,q]at z;cases z
 have up:Up G₀ H₀ G' H':=by
  refine⟨u.sub,s.up.gg.trans u.gg,λa o q=>keep a o (s.up.hh a o q) (out0 a (by rw[q];simp)),λa o q=>?_⟩;rcases u.fr a o q with z|z;·exact s.up.fr a o z
  ·by_cases n:li i true H₀ G H ow a=none;·rw[ii n]at z;exact .inr (s.up.hh.free z)
   ·cases y:li i true H₀ G H ow a with
    |none=>exact absurd y n
    |some t=>exact .inr ((ij y).2.2.2 rfl)
 have ob':ObSt K H₀ G' H' σ (ρ.set i (some (.obj true C p fs'))):=by
  refine⟨λa=>open Classical in if hid H (li i true H₀ G H ow) a=none then uG 0 i ow' a else ow a,λj ds l h1 h2=>?_,λj m' C' p' fs'' h1=>?_⟩
  ·rcases get j _ h1 with⟨_,z⟩|⟨nj,f1⟩;·cases z
   ·have ol:=o1 j ds l f1 h2;obtain⟨l2,vs,q1,q2,_⟩:=s.own j ds f1;rw[h2]at q1;cases q1;have n:=outT l j 0 nj ol;refine(if_neg ?_).trans ol;rw[ii n,q2];simp
  ·rcases get j _ h1 with⟨rfl,z⟩|⟨nj,f1⟩
   ·cases z;refine⟨(o2 j true C p fs e).1,?_⟩;refine ob.newtag (λa t q n=>(if_pos n).trans (pN q)) λa n=>?_;by_cases y:li j true H₀ G H ow a=none;·rw[ii y]at n;exact s.up.hh.free n
    ·cases y':li j true H₀ G H ow a with
     |none=>exact absurd y' y
     |some t=>exact(ij y').2.2.2 rfl
   ·refine⟨(o2 j m' C' p' fs'' f1).1,(o2 j m' C' p' fs'' f1).2.keep ⟨λa t o q1 q=>keep a o q (outT a j t nj q1),u.gg,λa t o q1 q n=>gn a o q n (outT a j t nj q1),λa t o q1 q=>?_,λa o _ _ n=>n⟩⟩;refine(if_neg ?_).trans q1;rw[ii (outT a j t nj q1),q];simp
 refine⟨⟨u.sub,by simp[s.e.len],λj d h=>?_,ob'.rd⟩,s.sub0,up,λj ds h=>?_,λj k ds es l q1 q2 q3 q4=>?_,ob'⟩
 ·rcases get j _ h with⟨_,z⟩|⟨_,f1⟩;·cases z
  ·obtain⟨v,p1,p2⟩:=s.e.val j d f1;exact⟨v,p1,p2.mono u.gg⟩
 ·rcases get j _ h with⟨_,z⟩|⟨nj,f1⟩;·cases z
  ·obtain⟨l,vs,p1,p2,p3,p4,p5⟩:=s.own j ds f1;have n:=outT l j 0 nj (o1 j ds l f1 p1);exact⟨l,vs,p1,keep l _ p2 n,gn l _ p2 p3 n,p4,p5.mono u.gg⟩
 ·rcases get j _ q1 with⟨_,z⟩|⟨nj,f1⟩;·cases z
  ·rcases get k _ q2 with⟨_,z⟩|⟨nk,f2⟩;·cases z
   ·exact s.inj j k ds es l f1 f2 q3 q4
end L2
variable{F I_offer_with_order aN:L2.MF}
namespace L2
open PySem PySem.Spec PyProof.Rows
def nM:∀j,j<fnames.length->∀k,k<fnames.length->dw j=dw k->j=k:=by decide +kernel
noncomputable def jL(k:Nat)(fd:Fd):List (Nat×Fd)->List (Nat×Fd)
 | []=>[(k,fd)]
 | (j,x)::r=>if j=k then (j,fd)::r else (j,x)::jL k fd r
theorem mr{k j:Nat}{fd:Fd}(h:j≠k):∀{fs:List (Nat×Fd)},fs.lookup j=none->(jL k fd fs).lookup j=none
 | [],_=>by
  have z:(j==k)=false:=by simp[h]
  simp only[jL,xI,z,List.lookup_nil]
 | (a,x)::r,e=>by
  have ha:(j==a)=false:=by
   cases q:j==a with
   |false=>rfl
   |true=>simp only[xI,q]at e;cases e
  have er:r.lookup j=none:=by simpa only[xI,ha]using e
  unfold jL;by_cases z:a=k;·rw[if_pos z];simpa only[xI,ha]using er
  ·rw[if_neg z];simp only[xI,ha];exact mr h er
section
variable{K:PySem.W.Frag}{H₀:Hp}{m:Bool}
theorem FdsAt.keys:∀{fs:List (Nat×Fd)}{vs:List (Str×V)},FdsAt K H₀ G H ow i m fs vs->∀j fd,fs.lookup j=some fd->j<fnames.length
 |_,_,.nil,j,fd,e=>by simp at e
 |_,_,.cons (k:=a) h nk r t,j,fd,e=>by
  cases q:j==a with
  |true=>rw[s8.mp q];exact h
  |false=>simp only[xI,q]at e;exact FdsAt.keys t j fd e
theorem FdsAt.get:∀{fs:List (Nat×Fd)}{vs:List (Str×V)}{fd:Fd},FdsAt K H₀ G H ow i m fs vs->fs.lookup k=some fd->∃v,vs.lookup (dw k)=some v/\FdAt K H₀ G H ow i m k fd v
 |_,_,_,.nil,e=>by simp at e
 |_,_,fd,.cons (k:=a) h nk r t,e=>by
  cases q:k==a with
  |true=>have z:=s8.mp q;subst z;simp only[xI,q]at e;cases e;exact⟨_,by simp[xI],r⟩
  |false=>
   simp only[xI,q]at e;obtain⟨v,e1,e2⟩:=FdsAt.get t e;have hk:=t.keys k fd e;have ne:(dw k==dw a)=false:=by
    cases z:dw k==dw a with
    |false=>rfl
    |true=>have:=nM k hk a h (m9 z);rw[this]at q;simp at q
   exact⟨v,by simp only[xI,ne];exact e1,e2⟩
theorem FdsAt.put{fd:Fd}(hk:k<fnames.length)(r:FdAt K H₀ G H ow i m k fd v):∀{fs:List (Nat×Fd)}{vs:List (Str×V)},FdsAt K H₀ G H ow i m fs vs->FdsAt K H₀ G H ow i m (jL k fd fs) (pv (dw k) v vs)
 |_,_,.nil=>.cons hk rfl r .nil
 |_,_,.cons (k:=a) h nk r' t=>by
  unfold jL pv;by_cases z:a=k;·subst z;rw[if_pos rfl,if_pos rfl];exact .cons h nk r t
  ·rw[if_neg z,if_neg (λq=>z (nM a h k hk q))];exact .cons h (mr (λq=>z q) nk) r' (FdsAt.put hk r t)
theorem FdsAt.len:∀{fs:List (Nat×Fd)}{vs:List (Str×V)},FdsAt K H₀ G H ow i m fs vs->vs.length=fs.length
 |_,_,.nil=>rfl
 |_,_,.cons h nk r t=>by simp[FdsAt.len t]
theorem FdsAt.keepL{ow2:jq}(h:∀l ws,H l=some (.lst ws)->H' l=some (.lst ws)/\ow2 l=ow l):∀{fs:List (Nat×Fd)}{vs:List (Str×V)},FdsAt K H₀ G H ow i m fs vs->FdsAt K H₀ G H' ow2 i m fs vs
 |_,_,.nil=>.nil
 |_,_,.cons (fd:=fd) hk nk r t=>.cons hk nk (by
   cases fd with
   |val d=>exact r
   |own ds=>obtain⟨l,ws,e,h1,h2,h3,h4,h5⟩:=r;exact⟨l,ws,e,(h l ws h1).1,h2,h3,h4,by rw[(h l ws h1).2];exact h5⟩) (FdsAt.keepL h t)
theorem FdsAt.mutL{l:Addr}{us:List V}{es:List D}(re:Reps K G us es)(ol:ow l=some (i,k+1))(gl:G l=none)(hl:m=true->H₀ l=none):∀{fs:List (Nat×Fd)}{vs:List (Str×V)}{ds:List D},FdsAt K H₀ G H ow i m fs vs->fs.lookup k=some (.own ds)->vs.lookup (dw k)=some (.ref l)->
  FdsAt K H₀ G (upd H l (.lst us)) ow i m (jL k (.own es) fs) vs
 |_,_,_,.nil,e,_=>by simp at e
 |_,_,ds,.cons (k:=a) (fd:=fd) (v:=v) (fs:=fs) (vs:=vs) h nk r t,e,e2=>by
  have stay:∀{j:Nat}{fd:Fd}{v:V},j≠k->FdAt K H₀ G H ow i m j fd v->FdAt K H₀ G (upd H l (.lst us)) ow i m j fd v:=λ{j fd v} nj q=>by
   cases fd with
   |val d=>exact q
   |own ds=>obtain⟨l',ws,e,h1,h2,h3,h4,h5⟩:=q;refine⟨l',ws,e,?_,h2,h3,h4,h5⟩;rw[am];exact h1;intro z;rw[z,ol]at h5;cases h5;exact nj rfl
  have stays:∀{fs:List (Nat×Fd)}{vs:List (Str×V)},fs.lookup k=none->FdsAt K H₀ G H ow i m fs vs->FdsAt K H₀ G (upd H l (.lst us)) ow i m fs vs:=by
   intro fs vs n q;induction q with
   |nil=>exact .nil
   | @cons b fd' v' fs' vs' h' nk' r' t' ih=>
    have nb:(k==b)=false:=by
     cases z:k==b with
     |false=>rfl
     |true=>simp only[xI,z]at n;cases n
    have nt:fs'.lookup k=none:=by simpa only[xI,nb]using n
    exact .cons h' nk' (stay (λz=>by rw[z]at nb;simp at nb) r') (ih nt)
  unfold jL;by_cases z:a=k
  ·subst z;rw[if_pos rfl];have ev:v=.ref l:=by simpa[xI]using e2
   subst ev;exact .cons h nk ⟨l,us,rfl,az,gl,hl,re,ol⟩ (stays nk t)
  ·rw[if_neg z];have q1:(k==a)=false:=by simp;exact λq=>z q.symm
   have e':fs.lookup k=some (.own ds):=by simpa only[xI,q1]using e
   have hk:=t.keys k _ e';have q2:(dw k==dw a)=false:=by
    cases y:dw k==dw a with
    |false=>rfl
    |true=>exact absurd (nM k hk a h (m9 y)) λq=>z q.symm
   have e2':vs.lookup (dw k)=some (.ref l):=by simpa only[xI,q2]using e2
   exact .cons h (mr z nk) (stay z r) (FdsAt.mutL re ol gl hl t e' e2')
end
def StR.objTo{K:PySem.W.Frag}{H₀:Hp}{p:Addr}{fs:List (Nat×Fd)}{ow2:jq}(s:StR K G₀ H₀ G H σ ρ)(e:ρ[i]?=some (some (.obj true C p fs)))(o1:∀(j:Nat) ds l,ρ[j]?=some (some (.own ds))->σ[j]?=some (some (.ref l))->ow l=some (j,0))(o2:∀(j:Nat) m C p fs,ρ[j]?=some (some (.obj m C p fs))->σ[j]?=some (some (.ref p))/\ObjAt K H₀ G H ow j m C p fs)(hh:∀a o,H a=some o->(∀t,ow a≠some (i,t))->H' a=some o)(h0:Same H₀ H')(sub:Same G H')(oo:∀a j t o,j≠i->ow a=some (j,t)->H a=some o->ow2 a=some (j,t))(ob:ObjAt K H₀ G H' ow2 i true C p fs'):StR K G₀ H₀ G H' σ (ρ.set i (some (.obj true C p fs'))):=by
 have hl:i<ρ.length:=(u8.mp e).1;have get:∀(j:Nat) x,(ρ.set i (some (.obj true C p fs')))[j]?=some (some x)->(j=i/\x=.obj true C p fs')\/(j≠i/\ρ[j]?=some (some x)):=λj x h=>by
  by_cases z:i=j;·subst z;rw[uu hl]at h;exact .inl ⟨rfl,by injection (xV h)with q;exact q.symm⟩
  ·rw[t6 z]at h;exact .inr ⟨λq=>z q.symm,h⟩
 have ob':ObSt K H₀ G H' σ (ρ.set i (some (.obj true C p fs'))):=by
  refine⟨ow2,λj ds l h1 h2=>?_,λj m' C' p' fs'' h1=>?_⟩
  ·rcases get j _ h1 with⟨_,z⟩|⟨nj,f1⟩;·cases z
   ·obtain⟨l2,vs,q1,q2,_⟩:=s.own j ds f1;rw[h2]at q1;cases q1;exact oo l j 0 _ nj (o1 j ds l f1 h2) q2
  ·rcases get j _ h1 with⟨rfl,z⟩|⟨nj,f1⟩;·cases z;exact⟨(o2 j true C p fs e).1,ob⟩
   ·exact⟨(o2 j m' C' p' fs'' f1).1,(o2 j m' C' p' fs'' f1).2.keep ⟨λa t o q1 q=>hh a o q (λt' z=>by rw[q1]at z;cases z;exact nj rfl),.refl _,λa t o _ _ n=>n,λa t o q1 q=>oo a j t o nj q1 q,λa o _ _ n=>n⟩⟩
 refine⟨⟨sub,by simp[s.e.len],λj d h=>?_,ob'.rd⟩,s.sub0,⟨sub,s.up.gg,h0,s.up.fr⟩,λj ds h=>?_,λj k ds es l q1 q2 q3 q4=>?_,ob'⟩
 ·rcases get j _ h with⟨_,z⟩|⟨_,f1⟩;·cases z
  ·exact s.e.val j d f1
 ·rcases get j _ h with⟨_,z⟩|⟨nj,f1⟩;·cases z
  ·obtain⟨l,vs,p1,p2,p3,p4,p5⟩:=s.own j ds f1;exact⟨l,vs,p1,hh l _ p2 (λt z=>by rw[o1 j ds l f1 p1]at z;cases z;exact nj rfl),p3,p4,p5⟩
 ·rcases get j _ q1 with⟨_,z⟩|⟨nj,f1⟩;·cases z
  ·rcases get k _ q2 with⟨_,z⟩|⟨nk,f2⟩;·cases z
   ·exact s.inj j k ds es l f1 f2 q3 q4
section
variable{K:PySem.W.Frag}{H₀:Hp}{p dx:Addr}{fs:List (Nat×Fd)}{vs:List (Str×V)}
def StR.fmut(s:StR K G₀ H₀ G H σ ρ)(e:ρ[i]?=some (some (.obj true C p fs))){es:List D}{us:List V}(ek:fs.lookup k=some (.own ds))(re:Reps K G us es){l:Addr}(hp:H p=some (.ins C dx vs))(el:vs.lookup (dw k)=some (.ref l)):
  StR K G₀ H₀ G (upd H l (.lst us)) σ (ρ.set i (some (.obj true C p (jL k (.own es) fs)))):=by
 obtain⟨ow,o1,o2⟩:=s.ob;obtain⟨hne,dx',vs',h1,h2,h3,h4,h5,h6,h7,h8⟩:=(o2 i true C p fs e).2.insH hp;rw[hp]at h1;cases h1;obtain⟨v,e1,l',ws,ev,g1,g2,g3,g4,g5⟩:=h8.get ek;rw[el]at e1;cases e1;cases ev;have np:∀{a:Addr}{o:HO},H a=some o->(∀xs,o≠.lst xs)->a≠l:=λq n z=>by rw[z,g1]at q;cases q;exact n _ rfl
 refine s.objTo e o1 o2 (ow2:=ow) (λa o q n=>?_) (λa o q=>?_) (λa o q=>?_) (λa j t o _ q _=>q) ?_;·rw[am (λz=>n _ (z▸g5))];exact q
 ·rw[am (λz=>by rw[z,g3 rfl]at q;cases q)];exact s.up.hh a o q
 ·rw[am (λz=>by rw[z,g2]at q;cases q)];exact s.e.sub a o q
 ·refine .inl ⟨hne,dx,vs,?_,?_,h3,h4,h5,h6,h7,h8.mutL re g5 g2 g3 ek el⟩;·rw[am (np hp λ_ z=>by cases z)];exact hp
  ·rw[am (np h2 λ_ z=>by cases z)];exact h2
def StR.fputL(s:StR K G₀ H₀ G H σ ρ)(e:ρ[i]?=some (some (.obj true C p fs)))(hk:k<fnames.length){l:Addr}{us:List V}(hl:H l=none)(r:Reps K G us ds)(hp:H p=some (.ins C dx vs)):
  StR K G₀ H₀ G (upd (upd H l (.lst us)) p (.ins C dx (pv (dw k) (.ref l) vs))) σ (ρ.set i (some (.obj true C p (jL k (.own ds) fs)))):=by
 obtain⟨ow,o1,o2⟩:=s.ob;obtain⟨hne,dx',vs',h1,h2,h3,h4,h5,h6,h7,h8⟩:=(o2 i true C p fs e).2.insH hp;rw[hp]at h1;cases h1;have nl:∀{a:Addr}{o:HO},H a=some o->a≠l:=λq z=>by rw[z,hl]at q;cases q
 have gl:G l=none:=s.e.sub.free hl;have h0l:H₀ l=none:=s.up.hh.free hl;refine s.objTo e o1 o2 (ow2:=λa=>if a=l then some (i,k+1)else ow a) (λa o q n=>?_) (λa o q=>?_) (λa o q=>?_) (λa j t o _ q q2=>(if_neg (nl q2)).trans q) ?_;·rw[am (λz=>n _ (z▸h6)),am (nl q)];exact q
 ·rw[am (λz=>by rw[z,(h5 rfl).1]at q;cases q),am (nl (s.up.hh a o q))];exact s.up.hh a o q
 ·rw[am (λz=>by rw[z,h3]at q;cases q),am (nl (s.e.sub a o q))];exact s.e.sub a o q
 ·refine .inl ⟨hne,dx,_,az,?_,h3,h4,h5,(if_neg (nl hp)).trans h6,(if_neg (nl h2)).trans h7,?_⟩;·rw[am (λz=>by rw[z,hp]at h2;cases h2),am (nl h2)];exact h2
  ·refine FdsAt.put (fd:=.own ds) hk ⟨l,us,rfl,?_,gl,λ_=>h0l,r,if_pos rfl⟩ (h8.keepL λl' ws q=>⟨?_,if_neg (nl q)⟩);·rw[am (λz=>nl hp z.symm),az]
   ·rw[am (λz=>by rw[z,hp]at q;cases q),am (nl q)];exact q
end
noncomputable def tK(C:Addr)(ρ:Ev)(i:Nat):R (List (Nat×Fd)):=match ρ[i]? with
 |some (some (.obj _ C' _ fs))=>if C'=C then .ok fs else .no
 |_=>.no
noncomputable def qZ(C:Addr)(ρ:Ev)(i:Nat):R (Addr×List (Nat×Fd)):=match ρ[i]? with
 |some (some (.obj true C' p fs))=>if C'=C then .ok (p,fs)else .no
 |_=>.no
noncomputable def fldL(fs:List (Nat×Fd))(k:Nat):R (List D):=match fs.lookup k with
 |some (.own ds)=>.ok ds
 |_=>.no
noncomputable def vJ(C:Addr)(i k:Nat)(gb:Ev->R D):Ev->R D:=λρ=>tK C ρ i>>=λfs=>fldL fs k>>=λds=>gb ρ>>=λd=>ofO (ixD (.lst false ds) d)
noncomputable def Fq(C:Addr)(i k:Nat):Ev->R D:=λρ=>tK C ρ i>>=λfs=>fldL fs k>>=λds=>.ok (.int ds.length)
noncomputable def Gh(C:Addr)(i k:Nat)(ga:Ev->R D):Ev->O:=λρ=>(qZ C ρ i).out ρ λo=>(fldL o.2 k).out ρ λds=>(ga ρ).out ρ λd=>if ds.length<sizeLine then .nx (ρ.set i (some (.obj true C o.1 (jL k (.own (ds++[d])) o.2))))else .no
noncomputable def ze(C:Addr)(i k:Nat)(gl:Ev->R (List D)):Ev->O:=λρ=>(qZ C ρ i).out ρ λo=>(gl ρ).out ρ λds=>if o.2.length<900 then .nx (ρ.set i (some (.obj true C o.1 (jL k (.own ds) o.2))))else .no
noncomputable def EG(ga:Ev->R D):Ev->O:=λρ=>(ga ρ).out ρ λd=>.re d ρ
structure CF(K:PySem.W.Frag)(C:Addr)(ks:List Nat):Prop where
 cl:Cls K C
 ne:C≠DC
 na:∀k∈ks,k<fnames.length/\NoAttr K C (dw k)
def yu{α:Type}{k:List (Nat×Fd)->R α}{P:α->Prop}{E:Addr->Prop}(h:(tK C ρ i>>=k).post P E):∃m p fs,ρ[i]?=some (some (.obj m C p fs))/\(k fs).post P E:=by
 unfold tK at h;split at h
 ·rename_i m C' p fs e;by_cases z:C'=C;·subst z;rw[if_pos rfl]at h;exact⟨m,p,fs,e,h⟩
  ·rw[if_neg z]at h;exact h.elim
 ·exact h.elim
def FQ{fs:List (Nat×Fd)}{n:Nat}{α:Type}{k:List D->R α}{P:α->Prop}{E:Addr->Prop}(h:(fldL fs n>>=k).post P E):∃ds,fs.lookup n=some (.own ds)/\(k ds).post P E:=by
 unfold fldL at h;split at h;·rename_i ds e;exact⟨ds,e,h⟩
 ·exact h.elim
def mK{H₀:Hp}{D:Ends}{k:Addr×List (Nat×Fd)->O}(h:hU X G₀ H₀ D ((qZ C ρ i).out ρ k)):∃p fs,ρ[i]?=some (some (.obj true C p fs))/\hU X G₀ H₀ D (k (p,fs)):=by
 unfold qZ at h;split at h
 ·rename_i C' p fs e;by_cases z:C'=C;·subst z;rw[if_pos rfl]at h;exact⟨p,fs,e,h⟩
  ·rw[if_neg z]at h;exact h.elim
 ·exact h.elim
def Cy{H₀:Hp}{D:Ends}{fs:List (Nat×Fd)}{n:Nat}{k:List L2.D->O}(h:hU X G₀ H₀ D ((fldL fs n).out ρ k)):∃ds,fs.lookup n=some (.own ds)/\hU X G₀ H₀ D (k ds):=by
 unfold fldL at h;split at h;·rename_i ds e;exact⟨ds,e,h⟩
 ·exact h.elim
section
variable{e b:Expr}{ga:Ev->R D}{f:Str}{p1 p2 p3 ap cp:Pos}
def StE.fldL{K:PySem.W.Frag}{m:Bool}{p:Addr}{fs:List (Nat×Fd)}(st:StE K G H σ ρ)(e:ρ[i]?=some (some (.obj m C p fs)))(ek:fs.lookup k=some (.own ds)):
  ∃dx vs l ws,σ[i]?=some (some (.ref p))/\H p=some (.ins C dx vs)/\vs.lookup (dw k)=some (.ref l)/\H l=some (.lst ws)/\Reps K G ws ds:=by
 obtain⟨es,ow,ob⟩:=st.obs i m C p fs e;obtain⟨dx,vs,h1,h2,h3,h4,h5,h6,h7,h8⟩:=ob.insL ek;obtain⟨v,e1,l,ws,rfl,g1,g2,g3,g4,g5⟩:=h8.get ek;exact⟨dx,vs,l,ws,es,h1,e1,g1,g4⟩
def ym(i k:Nat)(c:CF X.K C ks)(hk:k∈ks)(hb:PF X b gb)(hi:X.N[i]?=some x:=by rfl)(hv:Vis X.env.scope x:=by first|exact Or.inl rfl|exact Or.inr (Or.inl rfl)|exact Or.inr (Or.inr rfl))(hf:f=dw k:=by rfl)(hd:(x==("__debug__":Str))=false:=by decide)(hcd:(x==("__classdict__":Str))=false:=by decide)(hba:attributeBase (.Name x p1) f X.env (eval (.Name x p1) X.env)=eval (.Name x p1) X.env:=by rfl)(hs:pX b:=by exact λ_ _=>rfl):
  PF X (.Subscript (.Attribute (.Name x p1) f p2) b pos) (vJ C i k gb):=λpins s σ H Q I h=>by
 subst hf;refine E4 ix_list (DQ (cK hi hv hd hcd) hba) hb hs pins s σ H Q I ?_;obtain⟨G,ρ,st,h⟩:=h;obtain⟨m,p,fs,e1,h⟩:=yu h;obtain⟨ds,e2,h⟩:=FQ h;obtain⟨dx,vs,l,ws,h1,h2,h3,h4,h5⟩:=st.fldL e1 e2;refine⟨.ref p,h1,p,C,dx,vs,.ref l,rfl,h2,c.cl,(c.na k hk).2,h3,?_⟩;refine tG.intro st h λd v G1 H1 u1 st1 r1 h'=>?_;obtain⟨d',e3,q⟩:=ofO.ok h';cases d with
 |int j=>have e3:atI ds j=some d':=e3;obtain⟨v',e4,r4⟩:=(h5.mono u1.gg).atI e3;exact⟨l,ws,j,v',rfl,r1.int_inv,.of (u1.hh _ _ h4),e4,q v' G1 H1 (.refl st1.sub) r4⟩
 |_=>cases e3
def Il(i k:Nat)(c:CF X.K C ks)(hk:k∈ks)(he:PF X e ga)(hi:X.N[i]?=some x:=by rfl)(hv:Vis X.env.scope x:=by first|exact Or.inl rfl|exact Or.inr (Or.inl rfl)|exact Or.inr (Or.inr rfl))(hf:f=dw k:=by rfl)(hd:(x==("__debug__":Str))=false:=by decide)(hcd:(x==("__classdict__":Str))=false:=by decide)(hba:attributeBase (.Name x p1) f X.env (eval (.Name x p1) X.env)=eval (.Name x p1) X.env:=by rfl)(hs1:starEach [e] X.env=(false,eval e X.env)::starEach [] X.env:=by rfl)(hbase:attributeBase (.Attribute (.Name x p1) f p2) "append" X.env (eval (.Attribute (.Name x p1) f p2) X.env)=eval (.Attribute (.Name x p1) f p2) X.env:=by rfl)(hfew:((backTo cp (starEach [e] X.env)).all (λx=>!x.1) && (backToKw cp (keywordEach [] X.env)).all (λx=>x.1.isSome)
 && decide ([e].length+([]:List Keyword).length+(if ([]:List Keyword).isEmpty then 0 else 1)<30))=true:=by rfl)(hline:(ap.endLine==cp.line)=true:=by rfl)(hs:swapsWith (.Call (.Attribute (.Attribute (.Name x p1) f p2) "append" ap) [e] [] cp) none pos.line X.env=pure false:=by rfl):
  PSF X (.Expr (.Call (.Attribute (.Attribute (.Name x p1) f p2) "append" ap) [e] [] cp) pos) (Gh C i k ga):=λG₀ H₀ pins s σ H D I h=>by
 subst hf;refine gH (xv j9 Zg Zh jy (DQ (cK hi hv hd hcd) hba) (bE he eJ hs1) hbase hfew hline hs1 rfl) hs pins s σ H D I ?_;obtain⟨G,ρ,sr,h⟩:=h;obtain⟨p,fs,e1,h⟩:=mK h;obtain⟨ds,e2,h⟩:=Cy h;obtain⟨dx,vs,l,ws,h1,h2,h3,h4,h5⟩:=sr.e.fldL e1 e2;refine⟨.ref p,h1,p,C,dx,vs,.ref l,rfl,h2,c.cl,(c.na k hk).2,h3,.inl ⟨rfl,ws,.of h4⟩,G,ρ,sr.e,?_⟩;cases q:ga ρ with
 |ok d=>
  rw[q]at h;simp only[R.out]at h;intro v G' H' u r;by_cases hz:ds.length<sizeLine;·rw[if_pos hz]at h;refine⟨l,ws,v,rfl,rfl,u.hh _ _ h4,by rw[h5.length];exact hz,h _ G' _ ?_⟩;exact(sr.ups u).fmut e1 e2 ((h5.mono u.gg).append (.cons r .nil)) (u.hh _ _ h2) h3
  ·rw[if_neg hz]at h;exact h.elim
 |ex C=>rw[q]at h;exact Exx.of sr h
 |no=>rw[q]at h;exact h
def zZ(i k:Nat)(c:CF X.K C ks)(hk:k∈ks)(he:PFL X e gl)(hi:X.N[i]?=some x:=by rfl)(hv:Vis X.env.scope x:=by first|exact Or.inl rfl|exact Or.inr (Or.inl rfl)|exact Or.inr (Or.inr rfl))(hf:f=dw k:=by rfl)(hd:(x==("__debug__":Str))=false:=by decide)(hcd:(x==("__classdict__":Str))=false:=by decide)(hs:swapsWith e (some (.Attribute (.Name x p1) f p2)) pos.line X.env=pure false:=by rfl):
  PSF X (.Assign [.Attribute (.Name x p1) f p2] e pos) (ze C i k gl):=λG₀ H₀ pins s σ H D I h=>by
 subst hf;refine IM (cK hi hv hd hcd) he hs pins s σ H D I ?_;obtain⟨G,ρ,sr,h⟩:=h;obtain⟨p,fs,e1,h⟩:=mK h;refine⟨G,ρ,sr.e,?_⟩;cases q:gl ρ with
 |ok ds=>
  rw[q]at h;simp only[R.out]at h;intro l us G' H' u hl r;obtain⟨h1,ow,ob0⟩:=sr.e.obs i true C p fs e1;obtain⟨dx,vs,g1,g2,g3,g4,g5,g6,g7,g8⟩:=ob0.ins c.ne;by_cases hz:fs.length<900;·rw[if_pos hz]at h;have hp:=u.hh _ _ g1;refine⟨.ref p,h1,p,C,dx,vs,rfl,?_,c.cl,(c.na k hk).2,by rw[g8.len];omega,h _ G' _ ((sr.ups u).fputL e1 (c.na k hk).1 hl r hp)⟩;rw[am (λz=>by rw[z,hl]at hp;cases hp)];exact hp
  ·rw[if_neg hz]at h;exact h.elim
 |ex C=>rw[q]at h;exact Exx.of sr h
 |no=>rw[q]at h;exact h
def JV(he:PF X e ga):PSF X (.Return (some e) pos) (EG ga):=λG₀ H₀ pins s σ H D I h=>by
 refine mQ he pins s σ H D I ?_;obtain⟨G,ρ,sr,h⟩:=h;have h:hU X G₀ H₀ D ((ga ρ).out ρ λd=>.re d ρ):=h;refine⟨G,ρ,sr.e,?_⟩;cases q:ga ρ with
 |ok d=>rw[q]at h;exact λv G' H' u r=>h v σ G' H' (sr.ups u) r
 |ex C=>rw[q]at h;exact Exx.of sr h
 |no=>rw[q]at h;exact h
end
structure MCallee(P:Program)(w:World)(K:PySem.W.Frag)(mg:Str->Option Value)(base:Heap)(C:Addr)(mn:Str)(k n:Nat)(F:MF):Prop where
 ex:∃f fd ps,FnM P w K mg base k f fd ps C F/\Meth K C mn f/\Binds K fd ps []/\ps.length=n+1
def MCallee.mono{w:World}{K:PySem.W.Frag}{mg:Str->Option Value}{base:Heap}{mn:Str}{n:Nat}(c:MCallee P w K mg base C mn k n F)(k':Nat)(h:k<=k':=by decide):MCallee P w K mg base C mn k' n F:=by obtain⟨f,fd,ps,M,hm,hb,e⟩:=c.ex;exact⟨f,fd,ps,{ M with run:=λA outer s H args us vs Q E hr=>M.run A outer s H args us vs Q E (hr.mono h) },hm,hb,e⟩
theorem FdsAt.none{K:PySem.W.Frag}{H₀:Hp}{m:Bool}{mn:Str}(hn:∀k,k<fnames.length->(mn==dw k)=false):∀{fs:List (Nat×Fd)}{vs:List (Str×V)},FdsAt K H₀ G H ow i m fs vs->vs.lookup mn=Option.none
 |_,_,.nil=>rfl
 |_,_,.cons (k:=a) h nk r t=>by simp only[xI,hn a h];exact FdsAt.none hn t
section
variable{n:Nat}{p:Addr}{fs:List (Nat×Fd)}{Q:VK}
def lG(M:FnM X.prog X.w X.K X.mg X.base k f fd ps C F)(hr:Room k X.A)(hb:Binds X.K fd ps [])(hl:ps.length=n+1)(I:Inv X pins σ H s)(r:Vals vs us)(rp:Reps X.K G vs ds)(hn:ds.length=n)(sub:Same G H)(og:∀a t,ow a=some t->G a=none)(ob:ObjAt X.K (λ_=>none) G H ow 0 true C p fs)(h:match F fs ds with
 |.ok d fs'=>∀v G' H' ow',Up G (hid H ow) G' H'->ObjAt X.K (hid H ow) G' H' ow' 0 true C p fs'->Rep X.K G' v d->Q v H'
 |.rd d=>∀v G' H',Up G H G' H'->Rep X.K G' v d->Q v H'
 |.ex C'=>Exx X σ G H C'
 |.no=>False):wpAny (model X.prog X.w) X.A (call (.ref f) (.ref p::us)) (EP X pins σ Q) X.xe s:=by
 have hvl:(V.ref p::vs).length=ps.length:=by rw[hl,v4,rp.length,hn]
 have hul:(Value.ref p::us++[]).length=ps.length:=by rw[t7,v4,<- r.length,<- v4 (a:=V.ref p)];exact hvl
 have hbb:=hb s (.ref p::us) I.kIn hul;rw[t7]at hbb;refine l5 (qE (M.run X.A X.stack s H ⟨.ref p::us,[]⟩ (.ref p::us) (.ref p::vs) Q (λc _ H'=>∃C G',c=.ref C/\Up G H G' H'/\Exx X σ G H C) hr I.env0 hbb (.cons rfl r) ⟨hvl,G,p,vs,ds,fs,ow,rfl,rp,sub,og,ob,?_⟩) λr' s' hq=>?_)
 ·cases q:F fs ds with
  |ok d fs'=>rw[q]at h;exact h
  |rd d=>rw[q]at h;exact h
  |ex C'=>rw[q]at h;exact λG' H' u=>⟨C',G',rfl,u,h⟩
  |no=>rw[q]at h;exact h.elim
 ·cases r' with
  |error e'=>obtain⟨a,C,H',rfl,fl,C',G',ec,u,q⟩:=hq;cases ec;exact q _ _ ⟨G,H,.refl sub,pins,s,a,rfl,I,.inr (.inl ⟨G',H',fl,u⟩)⟩
  |ok fl=>
   cases fl with
   |ret u=>exact I.after hq
   |_=>exact False.elim hq
end
noncomputable def RM.read:RM->R D
 |.rd d=>.ok d
 |.ex C=>.ex C
 |_=>.no
noncomputable def J3(C:Addr)(i n:Nat)(F:MF)(gl:Ev->R (List D)):Ev->R D:=λρ=>tK C ρ i>>=λfs=>gl ρ>>=λds=>if ds.length=n then (F fs ds).read else .no
noncomputable def gC(C:Addr)(i:Nat)(F:MF):Ev->R D:=λρ=>tK C ρ i>>=λfs=>(F fs []).read
noncomputable def RM.out(r:RM)(C p:Addr)(i:Nat)(ρ:Ev):O:=match r with
 |.ok _ fs'=>.nx (ρ.set i (some (.obj true C p fs')))
 |.rd _=>.nx ρ
 |.ex E=>.ex E ρ
 |.no=>.no
noncomputable def FH(C:Addr)(i n:Nat)(F:MF)(gl:Ev->R (List D)):Ev->O:=λρ=>(qZ C ρ i).out ρ λo=>(gl ρ).out ρ λds=>if ds.length=n then (F o.2 ds).out C o.1 i ρ else .no
noncomputable def Jy(C:Addr)(i:Nat)(F:MF):Ev->O:=λρ=>(qZ C ρ i).out ρ λo=>(F o.2 []).out C o.1 i ρ
section
variable{e:Expr}{mn:Str}{n:Nat}{p1 ap ep:Pos}
def lI{pl:Sem Bool}(i:Nat)(c:CF X.K C ks)(m:MCallee X.prog X.w X.K X.mg X.base C mn k 0 F)(hr:Room k X.A)(hi:X.N[i]?=some x:=by rfl)(hv:Vis X.env.scope x:=by first|exact Or.inl rfl|exact Or.inr (Or.inl rfl)|exact Or.inr (Or.inr rfl))(hd:(x==("__debug__":Str))=false:=by decide)(hcd:(x==("__classdict__":Str))=false:=by decide)(hmn:∀k,k<fnames.length->(mn==dw k)=false:=by decide)(ht:eval (.Call (.Attribute (.Name x p1) mn ap) [] [] pos) X.env=(do
 let ov <- eval (.Name x p1) X.env
 standAt ap.atName
 let (f,first) <- holding [ov] (getMethod ov mn pl)
 callWith pos f first (backTo pos (starEach [] X.env)) (backToKw pos (keywordEach [] X.env))):=by rfl):
  PF X (.Call (.Attribute (.Name x p1) mn ap) [] [] pos) (gC C i F):=λpins s σ H Q I h=>by
 obtain⟨f,fd,ps,M,hm,hb,hl⟩:=m.ex;obtain⟨G,ρ,st,h⟩:=h;obtain⟨mm,p,fs,e1,h⟩:=yu h;obtain⟨h1,ow1,ob1⟩:=st.obs i mm C p fs e1;have v:PE X (.Name x p1) (Bt i):=cK hi hv hd hcd;refine Zr (pl:=pl) (thn (v pins s σ H (λu H'=>u=.ref p/\H'=H) I ⟨_,h1,rfl,rfl⟩) λu s1 ⟨v',H',I',rv,ev,eh⟩=>?_) ht;subst ev eh;obtain rfl:u=Value.ref p:=rv;obtain⟨dx,vs,g1,g2,g3,g4,g5,g6,g7,g8⟩:=ob1.ins c.ne;refine kh I' g1 c.cl hm (g8.none hmn) ?_;refine PySem.W.callWith_K0 (first:=[.ref p]) I'.kIn hm.kp (lG (us:=[]) M hr hb hl I' .nil .nil rfl st.sub (λa t q=>(ij q).2.2.1) ob1.cut ?_);cases q:F fs []with
 |ok d fs'=>rw[q]at h;exact h.elim
 |rd d=>rw[q]at h;exact h
 |ex C'=>rw[q]at h;exact h
 |no=>rw[q]at h;exact h.elim
def Fb{pl:Sem Bool}(i:Nat)(c:CF X.K C ks)(m:MCallee X.prog X.w X.K X.mg X.base C mn k n F)(hr:Room k X.A)(ha:PFA X (e::es) gl)(hi:X.N[i]?=some x:=by rfl)(hv:Vis X.env.scope x:=by first|exact Or.inl rfl|exact Or.inr (Or.inl rfl)|exact Or.inr (Or.inr rfl))(hd:(x==("__debug__":Str))=false:=by decide)(hcd:(x==("__classdict__":Str))=false:=by decide)(hmn:∀k,k<fnames.length->(mn==dw k)=false:=by decide)(hst:starEach (e::es) X.env=(false,eval e X.env)::starEach es X.env:=by rfl)(hpl:(backTo pos (starEach es X.env)).any (·.1)=false:=by rfl)(hs:swapsWith (.Call (.Attribute (.Name x p1) mn ap) (e::es) [] pos) none ep.line X.env=pure false:=by rfl)(ht:eval (.Call (.Attribute (.Name x p1) mn ap) (e::es) [] pos) X.env=(do
 let ov <- eval (.Name x p1) X.env
 standAt ap.atName
 let (f,first) <- holding [ov] (getMethod ov mn pl)
 callWith pos f first (backTo pos (starEach (e::es) X.env)) (backToKw pos (keywordEach [] X.env))):=by rfl):
  PSF X (.Expr (.Call (.Attribute (.Name x p1) mn ap) (e::es) [] pos) ep) (FH C i n F gl):=λG₀ H₀ pins s σ H D I h=>by
 obtain⟨f,fd,ps,M,hm,hb,hl⟩:=m.ex;obtain⟨G,ρ,sr,h⟩:=h;obtain⟨p,fs,e1,h⟩:=mK h;obtain⟨h1,_,_⟩:=sr.e.obs i true C p fs e1;have v:PE X (.Name x p1) (Bt i):=cK hi hv hd hcd;have pe:PE X (.Call (.Attribute (.Name x p1) mn ap) (e::es) [] pos) (λσ' H' Q=>σ'=σ/\H'=H/\∀v H2,D.nx σ H2->Q v H2):=by
  rintro pn2 sh2 σ' H' Q J ⟨rfl,rfl,hQ⟩;refine Zr (pl:=pl) (thn (v pn2 sh2 σ' H' (λu H2=>u=.ref p/\H2=H') J ⟨_,h1,rfl,rfl⟩) λu s1 ⟨v',H2,I',rv,ev,eh⟩=>?_) ht;subst ev eh;obtain rfl:u=Value.ref p:=rv;obtain⟨_,ow,ob0⟩:=sr.e.obs i true C p fs e1;obtain⟨dx,vs,g1,g2,g3,g4,g5,g6,g7,g8⟩:=ob0.ins c.ne;refine kh I' g1 c.cl hm (g8.none hmn) ?_;have t:tAF X gl σ' H2 (λvs H1=>∃G1 ds,Up G H2 G1 H1/\Reps X.K G1 vs ds/\ds.length=n/\hU X G₀ H₀ D ((F fs ds).out C p i ρ)):=by
   refine⟨G,ρ,sr.e,?_⟩;cases q:gl ρ with
   |ok ds=>
    rw[q]at h;simp only[R.out]at h;intro vs G1 H1 u r;by_cases hz:ds.length=n;·rw[if_pos hz]at h;exact⟨G1,ds,u,r,hz,h⟩
    ·rw[if_neg hz]at h;exact h.elim
   |ex C=>rw[q]at h;exact Exx.of sr h
   |no=>rw[q]at h;exact h
  refine l4 (first:=[.ref p]) (h₀:=X.base) J.ok.mod.kin hm.kp (thn (ha pos pn2 s1 σ' H2 _ I' t) λus s2 q=>⟨?_,?_⟩) hst hpl;·obtain⟨vs,H1,I1,r,_⟩:=q;exact I1.kIn
  obtain⟨vs,H1,I1,r,G1,ds,u1,rp,hz,h2⟩:=q;have sr1:=sr.ups u1;obtain⟨ow1,o1,o2⟩:=sr1.ob;refine lG M hr hb hl I1 r rp hz sr1.e.sub (λa t q=>(ij q).2.2.1) (o2 i true C p fs e1).2.cut ?_;cases q:F fs ds with
  |ok d fs'=>rw[q]at h2;exact λv G' H' ow' u ob _=>hQ v H' (h2 _ G' H' (sr1.meth e1 o1 o2 u ob))
  |rd d=>rw[q]at h2;exact λv G' H' u _=>hQ v H' (h2 _ G' H' (sr1.ups u))
  |ex C'=>rw[q]at h2;exact Exx.of sr1 h2
  |no=>rw[q]at h2;exact h2.elim
 exact gH pe hs pins s σ H D I ⟨rfl,rfl,λv H2 q=>q⟩
end
structure MkC(P:Program)(w:World)(K:PySem.W.Frag)(mg:Str->Option Value)(base:Heap)(C:Addr)(cn:Str)(k n:Nat)(F:MF):Prop where
 ex:∃f fd ps,FnM P w K mg base k f fd ps C F/\Mk K C f/\mg cn=some (.ref C)/\Binds K fd ps []/\ps.length=n+1
 ne:C≠DC
section
variable{n:Nat}{Q:VK}
def CC(hC:C≠DC)(M:Mk X.K C f)(Fi:FnM X.prog X.w X.K X.mg X.base k f fd ps C F)(hr:Room (k+1) X.A)(hb:Binds X.K fd ps [])(hl:ps.length=n+1)(I:Inv X pins σ H s)(r:Vals vs us)(rp:Reps X.K G vs ds)(hn:ds.length=n)(sub:Same G H)(h:match F [] ds with
 |.ok d fs'=>d=.non/\∀x G' H' ow',Up G H G' H'->ObjAt X.K H G' H' ow' 0 true C x fs'->Q (.ref x) H'
 |.ex C'=>Exx X σ G H C'
 |_=>False):wpAny (model X.prog X.w) X.A (call (.ref C) us) (EP X pins σ Q) X.xe s:=by
 have I2:=Inv.made (C:=C) I;generalize hx:s.heap.objs.size+1=x at I2;generalize hd:s.heap.objs.size=dx at I2;have fx:H x=none:=I.hok.fresh (by rw[<- hx];exact n3 _);have fd':H dx=none:=I.hok.fresh (by rw[<- hd];exact yh _);have ne:dx≠x:=by rw[<- hx,<- hd];exact v6 (l8 _)
 have gx:G x=none:=sub.free fx;have gd:G dx=none:=sub.free fd';have hh:Same H (upd (upd H dx (.own x)) x (.ins C dx [])):=λa o e=>by rw[am (aC e fx),am (aC e fd')];exact e
 have sub2:Same G (upd (upd H dx (.own x)) x (.ins C dx [])):=sub.trans hh;have up2:Up G H G (upd (upd H dx (.own x)) x (.ins C dx [])):=⟨sub2,.refl _,hh,λ_ _ e=>.inl e⟩
 let ow:jq:=λa=>if a=x\/a=dx then some (0,0)else none;have og:∀a t,ow a=some t->G a=none:=λa t q=>by
  by_cases z:a=x\/a=dx
  ·rcases z with z|z;·rw[z];exact gx
   ·rw[z];exact gd
  ·have:ow a=none:=if_neg z;rw[this]at q;cases q
 have ob:ObjAt X.K (λ_=>none) G (upd (upd H dx (.own x)) x (.ins C dx [])) ow 0 true C x []:=
  .inl ⟨hC,dx,[],az,by rw[am ne,az],gx,gd,λ_=>⟨rfl,rfl⟩,if_pos (.inl rfl),if_pos (.inr rfl),.nil⟩;have eh:hid (upd (upd H dx (.own x)) x (.ins C dx [])) ow=H:=by
  funext a
  by_cases z:a=x\/a=dx
  ·rw[jn (t:=(0,0)) (if_pos z)];rcases z with z|z;·rw[z];exact fx.symm
   ·rw[z];exact fd'.symm
  ·rw[ii (if_neg z),am (λq=>z (.inl q)),am (λq=>z (.inr q))]
 have hvl:(V.ref x::vs).length=ps.length:=by rw[hl,v4,rp.length,hn]
 have hul:(Value.ref x::us++[]).length=ps.length:=by rw[t7,v4,<- r.length,<- v4 (a:=V.ref x)];exact hvl
 refine l5 (Du (f:=f) I.kIn M.makes M.init (s8.mp M.fn) ?_);rw[hx,hd];have hbb:=hb _ (.ref x::us) I2.kIn hul;rw[t7]at hbb;refine qE (Fi.run _ X.stack _ _ ⟨Value.ref x::us,[]⟩ (Value.ref x::us) (V.ref x::vs) (λv H2=>v=.non/\Q (.ref x) H2) (λc _ H'=>∃C' G',c=.ref C'/\Up G (upd (upd H dx (.own x)) x (.ins C dx [])) G' H'/\Exx X σ G H C') (hr.make C us [])
  (I2.env0.make C us []) hbb (.cons rfl r) ⟨hvl,G,x,vs,ds,[],ow,rfl,rp,sub2,og,ob,?_⟩) λr' s' hq=>?_
 ·cases q:F [] ds with
  |ok d fs'=>rw[q]at h;intro v G' H' ow' u o rv;rw[eh]at u o;obtain⟨rfl,h⟩:=h;exact⟨rv.non_inv,h x G' H' ow' u o⟩
  |rd d=>rw[q]at h;exact h.elim
  |ex C'=>rw[q]at h;exact λG' H' u=>⟨C',G',rfl,u,h⟩
  |no=>rw[q]at h;exact h.elim
 ·cases r' with
  |error e'=>obtain⟨a,C',H',rfl,fl,C'',G',ec,u,q⟩:=hq;cases ec;exact q _ _ ⟨G,_,up2,pins,_,a,rfl,I2,.inr (.inl ⟨G',H',fl,u⟩)⟩
  |ok fl=>
   cases fl with
   |ret u=>obtain⟨v,H',I3,rv,ev,q3⟩:=I2.after hq;subst ev;exact⟨rv,⟨V.ref x,H',I3,rfl,q3⟩⟩
   |_=>exact False.elim hq
end
noncomputable def Bn(F:MF)(n:Nat)(ds:List D):R (List (Nat×Fd)):=if ds.length=n then (match F [] ds with
 |.ok .non fs'=>.ok fs'
 |.ex C=>.ex C
 |_=>.no)else .no
noncomputable def Nn(X:Cx)(C:Addr)(F:MF)(n:Nat)(gl:Ev->R (List D)):TE:=λσ H Q=>∃G ρ,StE X.K G H σ ρ/\(gl ρ>>=Bn F n).post (λfs'=>∀x G' H' ow',Up G H G' H'->ObjAt X.K H G' H' ow' 0 true C x fs'->Q (.ref x) H') (Exx X σ G H)
section
variable{e:Expr}{cn:Str}{n:Nat}
def I8(c:MkC X.prog X.w X.K X.mg X.base C cn k n F)(hr:Room (k+1) X.A)(ha:PFA X (e::es) gl)(hg:Gl X cn:=by rfl)(hdb:(cn==("__debug__":Str))=false:=by decide)(he:starEach (e::es) X.env=(false,eval e X.env)::starEach es X.env:=by rfl)(hpl:(backTo pos (starEach es X.env)).any (·.1)=false:=by rfl):PE X (.Call (.Name cn p) (e::es) [] pos) (Nn X C F n gl):=by
 intro pins s σ H Q I h;obtain⟨f,fd,ps,M,mk,hm,hb,hl⟩:=c.ex;obtain⟨G,ρ,st,h⟩:=h;refine qk (iX I hg hm ?_ hdb);have t:tAF X gl σ H (λvs H1=>∃G1 ds,Up G H G1 H1/\Reps X.K G1 vs ds/\(Bn F n ds).post (λfs'=>∀x G' H' ow',Up G H G' H'->ObjAt X.K H G' H' ow' 0 true C x fs'->Q (.ref x) H') (Exx X σ G H)):=by
  refine⟨G,ρ,st,?_⟩;cases q:gl ρ with
  |ok ds=>rw[q]at h;exact λvs G1 H1 u r=>⟨G1,ds,u,r,h⟩
  |ex C=>rw[q]at h;exact h
  |no=>rw[q]at h;exact h
 refine l4 (h₀:=X.base) I.ok.mod.kin mk.kp (thn (ha pos pins s σ H _ I t) λus s1 q=>⟨?_,?_⟩) he hpl;·obtain⟨vs,H1,I1,r,_⟩:=q;exact I1.kIn
 obtain⟨vs,H1,I1,r,G1,ds,u1,rp,h1⟩:=q;unfold Bn at h1;by_cases hz:ds.length=n
 ·rw[if_pos hz]at h1;refine CC c.ne mk M hr hb hl I1 r rp hz u1.sub ?_;cases q:F [] ds with
  |ok d fs'=>
   rw[q]at h1;cases d with
   |non=>refine⟨rfl,λx G' H' ow' u o=>h1 x G' H' ow' (u1.trans u) (o.keep ⟨λ_ _ _ _ e=>e,.refl _,λ_ _ _ _ _ n=>n,λ_ _ _ e _=>e,λa o _ _ z=>u1.hh.free z⟩)⟩
   |_=>exact h1.elim
  |rd d=>rw[q]at h1;exact h1.elim
  |ex C'=>rw[q]at h1;exact Exx.up u1 h1
  |no=>rw[q]at h1;exact h1.elim
 ·rw[if_neg hz]at h1;exact h1.elim
end
def StR.setObj{K:PySem.W.Frag}{H₀ G':Hp}{x:Addr}{fs:List (Nat×Fd)}{ow':jq}(s:StR K G₀ H₀ G H σ ρ)(u:Up G H G' H')(ob:ObjAt K H G' H' ow' 0 true C x fs)(i:Nat):StR K G₀ H₀ G' H' (σ.set i (some (.ref x))) (ρ.set i (some (.obj true C x fs))):=by
 have get:∀(j:Nat) y,(ρ.set i (some (.obj true C x fs)))[j]?=some (some y)->(j=i/\y=.obj true C x fs/\i<σ.length)\/(j≠i/\ρ[j]?=some (some y)/\(σ.set i (some (.ref x)))[j]?=σ[j]?):=λj y h=>by
  by_cases e:i=j
  ·subst e;have hl:i<ρ.length:=by have:=(u8.mp h).1;simpa using this
   rw[uu hl]at h;exact .inl ⟨rfl,by injection (xV h)with q;exact q.symm,by rw[s.e.len];exact hl⟩
  ·rw[t6 e]at h;exact .inr ⟨λz=>e z.symm,h,t6 e⟩
 have s1:=s.ups u;have ob':ObSt K H₀ G' H' (σ.set i (some (.ref x))) (ρ.set i (some (.obj true C x fs))):=by
  obtain⟨ow,o1,o2⟩:=s.ob;refine⟨λa=>open Classical in if H a=none then uG 0 i ow' a else ow a,λj ds l h1 h2=>?_,λj m' C' p' fs' h1=>?_⟩
  ·rcases get j _ h1 with⟨_,z,_⟩|⟨nj,f1,f2⟩;·cases z
   ·rw[f2]at h2;obtain⟨l2,vs,q1,q2,_⟩:=s.own j ds f1;rw[h2]at q1;cases q1;exact(if_neg (by rw[q2];simp)).trans (o1 j ds l f1 h2)
  ·rcases get j _ h1 with⟨rfl,z,hj⟩|⟨nj,f1,f2⟩;·cases z;exact⟨uu hj,ob.newtag (λa t q n=>(if_pos n).trans (pN q)) λa n=>s.up.hh.free n⟩
   ·rw[f2];have ku:ObKeep H₀ H₀ G H G' H' ow ow j:=.up u;exact⟨(o2 j m' C' p' fs' f1).1,(o2 j m' C' p' fs' f1).2.keep ⟨ku.hh,ku.gg,ku.gn,λa t o q1 q2=>(if_neg (by rw[q2];simp)).trans q1,ku.h0⟩⟩
 refine⟨⟨s1.e.sub,by simp[s1.e.len],λj d h=>?_,ob'.rd⟩,s1.sub0,s1.up,λj ds h=>?_,λj k ds es l q1 q2 q3 q4=>?_,ob'⟩
 ·rcases get j _ h with⟨_,z,_⟩|⟨_,f1,f2⟩;·cases z
  ·rw[f2];exact s1.e.val j d f1
 ·rcases get j _ h with⟨_,z,_⟩|⟨nj,f1,f2⟩;·cases z
  ·rw[f2];exact s1.own j ds f1
 ·rcases get j _ q1 with⟨_,z,_⟩|⟨nj,f1,f2⟩;·cases z
  ·rcases get k _ q2 with⟨_,z,_⟩|⟨nk,f3,f4⟩;·cases z
   ·exact s1.inj j k ds es l f1 f3 (f2▸q3) (f4▸q4)
noncomputable def Bf{α:Type}(X:Cx)(sts:List Stmt)(g:α->Ev->O):Prop:=∀G₀ H₀,PSs X sts (λD σ H=>∃G ρ,StR X.K G₀ H₀ G H σ ρ/\∀q,hU X G₀ H₀ D (g q ρ))
section
variable{cS:List Stmt}{g1:Ev->O}{gs:Ev->O}{α:Type}{g2:α->Ev->O}{e:Expr}{gl':Ev->R (List D)}{cn:Str}{n:Nat}
noncomputable def Aq(g:Ev->O):Unit->Ev->O:=λ_=>g
noncomputable def BC(g1:Ev->O)(g2:α->Ev->O):α->Ev->O:=λq ρ=>(g1 ρ).seq (g2 q)
def uQ(h:oB X cS gs):Bf X cS (Aq gs):=λG₀ H₀ pins s σ H D I ⟨G,ρ,sr,q⟩=>h G₀ H₀ pins s σ H D I ⟨G,ρ,sr,q ()⟩
def zA[Inhabited α](h1:PSF X st g1)(h2:Bf X cS g2):Bf X (st::cS) (BC g1 g2):=λG₀ H₀ pins s σ H D I h=>by
 refine dE (h1 G₀ H₀) (h2 G₀ H₀) pins s σ H D I ?_;obtain⟨G,ρ,sr,h⟩:=h;have h:∀q,hU X G₀ H₀ D ((g1 ρ).seq (g2 q)):=h;refine⟨G,ρ,sr,?_⟩;cases q:g1 ρ with
 |nx ρ'=>rw[q]at h;exact λσ' G' H' sr'=>⟨G',ρ',sr',h⟩
 |rt d=>rw[q]at h;exact h default
 |re d ρ'=>rw[q]at h;exact h default
 |bk ρ'=>rw[q]at h;exact h default
 |ct ρ'=>rw[q]at h;exact h default
 |ex C ρ'=>rw[q]at h;exact h default
 |no=>rw[q]at h;exact h default
end
def Fun.okA{w:World}{K:PySem.W.Frag}{mg:Str->Option Value}{base:Heap}{N:List Str}{α:Type}(F:Fun K x qual st f fd)(S:FnScope N ps (af st)){g:α->Ev->O}(hg:∀ds,ds.length=ps.length->gr ds=.no\/∀q,ao (g q (ai N.length ds))=gr ds)(hbody:∀(cdv:Value)(A:Around)(outer:List Env)(s:Shared)(H:Hp)(E:XK),Room k (A.deeper (envOfC qual (af st) s.heap.objs.size f cdv))->Bf (fc (CXo P w) P w K mg base N qual (af st) f cdv A outer s H E) (aJ st) g):
  FnF P w K mg base (k+1) f fd ps gr:=by
 obtain⟨oc,od,kV,doc,pm,an,cdv,ct,osl,rfl,lk,hcd⟩:=F.ex;refine A5 lk hcd S (λvs H Q E h=>h.1) λA outer s H vs Q E hr hsp=>?_;obtain⟨hl,G,ds,sub,r,h⟩:=hsp;refine⟨_,hbody cdv A outer s H E hr G H,G,ai N.length ds,lS sub r,λq0=>?_⟩;rcases hg ds (by rw[<- r.length];exact hl)with z|z;·rw[z]at h;exact h.elim
 ·rw[<- z q0]at h;cases q:g q0 (ai N.length ds)with
  |nx ρ=>rw[q]at h;exact λσ G' H' sr=>h .non G' H' sr.up .non
  |rt d=>rw[q]at h;exact λv G' H' u rv=>h v G' H' u rv
  |re d ρ=>rw[q]at h;exact λv σ G' H' sr rv=>h v G' H' sr.up rv
  |bk ρ=>rw[q]at h;exact h.elim
  |ct ρ=>rw[q]at h;exact h.elim
  |ex C ρ=>rw[q]at h;exact λe s' fl=>jE fl h
  |no=>rw[q]at h;exact h.elim
noncomputable def Eo(X:Cx)(G₀ H₀:Hp)(σ:St)(Q:VK)(o:O):Prop:=match o with
 |.re d ρ=>∀v G H,StR X.K G₀ H₀ G H σ ρ->Rep X.K G v d->Q v H
 |.ex C ρ=>∀e s',FlyS X G₀ H₀ ρ C e s'->X.xe e s'
 |_=>False
noncomputable def tX(X:Cx)(G₀ H₀:Hp)(g:Ev->O):TE:=λσ H Q=>∃G ρ,StR X.K G₀ H₀ G H σ ρ/\Eo X G₀ H₀ σ Q (g ρ)
noncomputable def PFX(X:Cx)(e:Expr)(g:Ev->O):Prop:=∀G₀ H₀,PE X e (tX X G₀ H₀ g)
noncomputable def O.thenX(o:O)(k:D->Ev->O):O:=match o with
 |.re d ρ=>k d ρ
 |.ex C ρ=>.ex C ρ
 |_=>.no
section
variable{e a b c:Expr}{cS:List Expr}{g g1 g2:Ev->O}{ga:Ev->R D}{gt:Ev->R Bool}{s1 s2:List Stmt}{h1 h2:Ev->O}
def Exx.fly{H₀:Hp}(sr:StR X.K G₀ H₀ G H σ ρ)(h:∀e s',FlyS X G₀ H₀ ρ C e s'->X.xe e s'):Exx X σ G H C:=λe s' ⟨G1,H1,u,f⟩=>h e s' (.of (sr.ups u) f)
def tX.read{α β:Type}{rep:Hp->β->α->Prop}{H₀:Hp}{m:Ev->R α}{Q:β->Hp->Prop}(sr:StR X.K G₀ H₀ G H σ ρ)(hk:∀a,m ρ=.ok a->∀v G1 H1,Up G H G1 H1->StR X.K G₀ H₀ G1 H1 σ ρ->rep G1 v a->Q v H1)(he:∀C,m ρ=.ex C->∀e s',FlyS X G₀ H₀ ρ C e s'->X.xe e s')(hn:m ρ≠.no):tG X rep m σ H Q:=by
 refine⟨G,ρ,sr.e,?_⟩;cases q:m ρ with
 |ok a=>exact λv G' H' u r=>hk a q v G' H' u (sr.ups u) r
 |ex C=>exact Exx.fly sr (he C q)
 |no=>exact absurd q hn
end
noncomputable def Kf(C:Addr)(ρ:Ev)(i:Nat):R (Bool×Addr×List (Nat×Fd)):=match ρ[i]? with
 |some (some (.obj m C' p fs))=>if C'=C then .ok (m,p,fs)else .no
 |_=>.no
noncomputable def RM.outX(r:RM)(m:Bool)(C p:Addr)(i:Nat)(ρ:Ev):O:=match r with
 |.ok d fs'=>if m=true then .re d (ρ.set i (some (.obj true C p fs')))else .no
 |.rd d=>.re d ρ
 |.ex E=>.ex E ρ
 |.no=>.no
noncomputable def jV(C:Addr)(i n:Nat)(F:MF)(gl:Ev->R (List D)):Ev->O:=λρ=>(Kf C ρ i).out ρ λo=>(gl ρ).out ρ λds=>if ds.length=n then (F o.2.2 ds).outX o.1 C o.2.1 i ρ else .no
def GZ{H₀:Hp}{Q:VK}{k:Bool×Addr×List (Nat×Fd)->O}(h:Eo X G₀ H₀ σ Q ((Kf C ρ i).out ρ k)):∃m p fs,ρ[i]?=some (some (.obj m C p fs))/\Eo X G₀ H₀ σ Q (k (m,p,fs)):=by
 unfold Kf at h;split at h
 ·rename_i m C' p fs e;by_cases z:C'=C;·subst z;rw[if_pos rfl]at h;exact⟨m,p,fs,e,h⟩
  ·rw[if_neg z]at h;exact h.elim
 ·exact h.elim
section
variable{e:Expr}{mn:Str}{n:Nat}{p1 ap ep:Pos}
def Hw{H₀:Hp}{Q:VK}{Q':List V->Hp->Prop}{r:List D->O}(sr:StR X.K G₀ H₀ G H σ ρ)(h:Eo X G₀ H₀ σ Q ((gl ρ).out ρ λds=>if ds.length=n then r ds else .no))(hk:∀vs G1 H1 ds,StR X.K G₀ H₀ G1 H1 σ ρ->Reps X.K G1 vs ds->ds.length=n->Eo X G₀ H₀ σ Q (r ds)->Q' vs H1):tAF X gl σ H Q':=by
 refine tX.read sr (λds e vs G1 H1 u s1 rr=>?_) (λC e=>?_) λe=>?_
 ·rw[e]at h;have h:Eo X G₀ H₀ σ Q (if ds.length=n then r ds else .no):=h;by_cases hz:ds.length=n;·rw[if_pos hz]at h;exact hk vs G1 H1 ds s1 rr hz h
  ·rw[if_neg hz]at h;exact h.elim
 ·rw[e]at h;exact h
 ·rw[e]at h;exact h
def xY{H₀:Hp}{p:Addr}{fs:List (Nat×Fd)}{Q:VK}{mm:Bool}(M:FnM X.prog X.w X.K X.mg X.base k f fd ps C F)(hr:Room k X.A)(hb:Binds X.K fd ps [])(hl:ps.length=n+1)(I:Inv X pins σ H s)(r:Vals vs us)(rp:Reps X.K G vs ds)(hz:ds.length=n)(sr:StR X.K G₀ H₀ G H σ ρ)(e1:ρ[i]?=some (some (.obj mm C p fs)))(h:Eo X G₀ H₀ σ Q ((F fs ds).outX mm C p i ρ)):wpAny (model X.prog X.w) X.A (call (.ref f) (.ref p::us)) (EP X pins σ Q) X.xe s:=by
 obtain⟨ow1,o1,o2⟩:=sr.ob;obtain⟨_,ob1⟩:=o2 i mm C p fs e1;refine lG M hr hb hl I r rp hz sr.e.sub (λa t q=>(ij q).2.2.1) ob1.cut ?_;cases q:F fs ds with
 |ok d fs'=>
  rw[q]at h;cases mm with
  |false=>exact h.elim
  |true=>exact λv G' H' ow' u ob rv=>h v G' H' (sr.meth e1 o1 o2 u ob) rv
 |rd d=>rw[q]at h;exact λv G' H' u rv=>h v G' H' (sr.ups u) rv
 |ex C'=>rw[q]at h;exact Exx.fly sr h
 |no=>rw[q]at h;exact h.elim
end
structure CalleeM(P:Program)(w:World)(K:PySem.W.Frag)(mg:Str->Option Value)(base:Heap)(C:Addr)(x:Str)(k n:Nat)(F:MF):Prop where
 ex:∃f fd ps,FnM P w K mg base k f fd ps C F/\mg x=some (.ref f)/\PySem.W.keepIn K (.ref f)=true/\Binds K fd ps []/\ps.length=n+1
def CalleeM.mono{w:World}{K:PySem.W.Frag}{mg:Str->Option Value}{base:Heap}{n:Nat}(c:CalleeM P w K mg base C x k n F)(k':Nat)(h:k<=k':=by decide):CalleeM P w K mg base C x k' n F:=by obtain⟨f,fd,ps,M,hm,hk,hb,e⟩:=c.ex;exact⟨f,fd,ps,{ M with run:=λA outer s H args us vs Q E hr=>M.run A outer s H args us vs Q E (hr.mono h) },hm,hk,hb,e⟩
section
variable{n:Nat}{p1 py:Pos}
def ph(i:Nat)(c:CalleeM X.prog X.w X.K X.mg X.base C x k n F)(hr:Room k X.A)(ha:PFA X es gl)(hi:X.N[i]?=some y:=by rfl)(hv:Vis X.env.scope y:=by first|exact Or.inl rfl|exact Or.inr (Or.inl rfl)|exact Or.inr (Or.inr rfl))(hd:(y==("__debug__":Str))=false:=by decide)(hcd:(y==("__classdict__":Str))=false:=by decide)(hg:Gl X x:=by rfl)(hdb:(x==("__debug__":Str))=false:=by decide)(hst:starEach (.Name y py::es) X.env=(false,eval (.Name y py) X.env)::starEach es X.env:=by rfl)(hpl:(backTo pos (starEach es X.env)).any (·.1)=false:=by rfl):
  PFX X (.Call (.Name x p1) (.Name y py::es) [] pos) (jV C i n F gl):=λG₀ H₀ pins s σ H Q I h=>by
 obtain⟨f,fd,ps,M,hm,hk,hb,hl⟩:=c.ex;obtain⟨G,ρ,sr,h⟩:=h;obtain⟨mm,p,fs,e1,h⟩:=GZ h;obtain⟨h1,_⟩:=sr.e.obs i mm C p fs e1;have v:PE X (.Name y py) (Bt i):=cK hi hv hd hcd;refine qk (iX I hg hm ?_ hdb);have t:BO (Bt i) (tAF X gl) σ H (λvs H1=>∃ws G1 ds,vs=.ref p::ws/\StR X.K G₀ H₀ G1 H1 σ ρ/\Reps X.K G1 ws ds/\ds.length=n/\Eo X G₀ H₀ σ Q ((F fs ds).outX mm C p i ρ)):=
  ⟨_,h1,Hw sr h λvs G1 H1 ds s1 r hz h=>⟨vs,G1,ds,rfl,s1,r,hz,h⟩⟩
 refine l4 (h₀:=X.base) I.ok.mod.kin hk (thn (bE v ha hst pos pins s σ H _ I t) λus s2 q=>⟨?_,?_⟩) hst hpl;·obtain⟨vs,H1,I1,r,_⟩:=q;exact I1.kIn
 obtain⟨vs,H1,I1,r,ws,G1,ds,rfl,s2,rp,hz,h2⟩:=q;cases r with
 |cons ru r=>obtain rfl:=ru;exact xY M hr hb hl I1 r rp hz s2 e1 h2
end
noncomputable def JZ(P:Program)(w:World)(K:PySem.W.Frag)(mg:Str->Option Value)(base:Heap)(k:Nat)(s1:Shared)(G1 H1:Hp)(f:Addr)(Q:VK):Prop:=
 ∀(Y:Cx)(pins:List (Addr×Obj))(σY:St)(G2 H2:Hp)(s2:Shared)(fs:List Addr),Y.prog=P->Y.w=w->Y.K=K->Y.mg=mg->Y.base=base->Inv Y pins σY H2 s2->Room k Y.A->Un fs [] H1 H2 s1.heap s2.heap->Up G1 H1 G2 H2->
  (∃o fd,s2.heap.get? f=some o/\o.data=.func fd)/\wpAny (model Y.prog Y.w) Y.A (call (.ref f) []) (EP Y pins σY Q) Y.xe s2
structure ToldOk(P:Program)(w:World)(K:PySem.W.Frag)(mg:Str->Option Value)(base:Heap)(x:Str)(k j:Nat):Prop where
 ex:∃ft,mg x=some (.ref ft)/\PySem.W.keepIn K (.ref ft)=true/\∀(A:Around)(outer:List Env)(s1:Shared)(G1 H1:Hp)(f:Addr)(Q:VK)(E:XK),Room k A->Env0 P w K mg base A outer s1 H1->Same G1 H1->JZ P w K mg base j s1 G1 H1 f Q->
  codeAny (model P w) A (.call (.ref ft) ⟨[.ref f],[]⟩) (CR (CXo P w) outer P w H1 s1 Q E) s1
def Fun.okAT{w:World}{K:PySem.W.Frag}{mg:Str->Option Value}{base:Heap}{N:List Str}{α:Type}(F:Fun K x qual st f fd)(LB:LamB K mg base qual fd Pt)(S:FnScope N ps (af st)){g:α->Ev->O}(hg:∀ds,ds.length=ps.length->gr ds=.no\/∀q,ao (g q (ai N.length ds))=gr ds)(hbody:∀(cdv:Value)(A:Around)(outer:List Env)(s:Shared)(H:Hp)(E:XK),Room k (A.deeper (envOfC qual (af st) s.heap.objs.size f cdv))->LamAt (fc (CXo P w) P w K mg base N qual (af st) f cdv A outer s H E)->Bf (fc (CXo P w) P w K mg base N qual (af st) f cdv A outer s H E) (aJ st) g):
  FnF P w K mg base (k+1) f fd ps gr:=by
 obtain⟨oc,od,kV,doc,pm,an,cdv,ct,osl,rfl,lk,hcd⟩:=F.ex;refine A5 lk hcd S (λvs H Q E h=>h.1) λA outer s H vs Q E hr hsp=>?_;obtain⟨hl,G,ds,sub,r,h⟩:=hsp;have la:LamAt (fc (CXo P w) P w K mg base N qual (af st) f cdv A outer s H E):=by obtain⟨c,ec,hd⟩:=LB.ld.ex;exact⟨c,Pt,_,ec,hd,LB.tb,rfl,LB.bm,LB.ld.ne⟩
 refine⟨_,hbody cdv A outer s H E hr la G H,G,ai N.length ds,lS sub r,λq0=>?_⟩;rcases hg ds (by rw[<- r.length];exact hl)with z|z;·rw[z]at h;exact h.elim
 ·rw[<- z q0]at h;cases q:g q0 (ai N.length ds)with
  |nx ρ=>rw[q]at h;exact λσ G' H' sr=>h .non G' H' sr.up .non
  |rt d=>rw[q]at h;exact λv G' H' u rv=>h v G' H' u rv
  |re d ρ=>rw[q]at h;exact λv σ G' H' sr rv=>h v G' H' sr.up rv
  |bk ρ=>rw[q]at h;exact h.elim
  |ct ρ=>rw[q]at h;exact h.elim
  |ex C ρ=>rw[q]at h;exact λe s' fl=>jE fl h
  |no=>rw[q]at h;exact h.elim
noncomputable def fj(g:Ev->O):Ev->O:=λρ=>(g ρ).thenX λ_ ρ'=>.nx ρ'
def oP{e:Expr}{g:Ev->O}(h:PFX X e g)(hs:swapsWith e none pos.line X.env=pure false:=by rfl):PSF X (.Expr e pos) (fj g):=λG₀ H₀ pins s σ H D I ⟨G,ρ,sr,q⟩=>by
 refine gH (h G₀ H₀) hs pins s σ H D I ⟨G,ρ,sr,?_⟩;unfold fj at q;cases e:g ρ with
 |re d ρ'=>rw[e]at q;exact λv G' H' s' r=>q σ G' H' s'
 |ex C ρ'=>rw[e]at q;exact q
 |_=>rw[e]at q;exact q.elim
end L2
namespace L2
open PySem PySem.Spec PyProof.Rows
open PySem.AutoSeq1 (wpAny_loadPart')
open PySem.MeetsSeq PySem.MeetsSeq2 PySem.MeetsSeq3
inductive NumPairs:List (Value×Value)->List Int->List Int->Prop
 |nil:NumPairs [] [] []
 |cons {zs:List (Value×Value)} {xs ys:List Int} (i:Int) (t:Addr) (j:Int) (u:Addr) (r:NumPairs zs xs ys):NumPairs ((.int i t,.int j u)::zs) (i::xs) (j::ys)
end L2
namespace L2
open PySem PySem.Spec PyProof.Rows
section
variable{elt:Expr}{ifs:List Expr}{px:Pos}{gt:Ev->R Bool}
structure CompOkC(X:Cx)(scope:Scope)(x:Str):Prop where
 kind:scope.kind=.function
 names:∀y∈scope.names,y.2=.local->scope.names.lookup y.1=some .local
 nofree:∀y∈scope.names,y.2≠.free
 cells:∀L,cellsFrom L scope.names []=[(x,L)]
 lk:scope.names.lookup x=some .cell
 only:∀y,scope.names.lookup y=some .cell->y=x
end
noncomputable abbrev TF:=List (Nat×Fd)->Option (List (Nat×Fd))
noncomputable def spT(K:PySem.W.Frag)(C:Addr)(F:TF):Sp:=λvs H Q E=>∃G p fs ow,vs=[.ref p]/\Same G H/\(∀a t,ow a=some t->G a=none)/\ObjAt K (λ_=>none) G H ow 0 true C p fs/\
 ∃fs',F fs=some fs'/\∀x G' H' ow',Up G H G' H'->ObjAt K H G' H' ow' 0 true C x fs'->Q (.ref x) H'
noncomputable abbrev FnT(P:Program)(w:World)(K:PySem.W.Frag)(mg:Str->Option Value)(base:Heap)(k:Nat)(f:Addr)(fd:FuncData)(ps:List Str)(C:Addr)(F:TF):Prop:=FnOk P w K mg base (CXo P w) k f fd ps (λvs H Q E=>vs.length=ps.length/\spT K C F vs H Q E)
structure TCallee(P:Program)(w:World)(K:PySem.W.Frag)(mg:Str->Option Value)(base:Heap)(C:Addr)(mn:Str)(k:Nat)(F:TF):Prop where
 ex:∃f fd ps,FnT P w K mg base k f fd ps C F/\Meth K C mn f/\Binds K fd ps []/\ps.length=1
noncomputable def tQ:D->Option Nat
 |.tup [.bl a,.bl b]=>some (code a b)
 |_=>none
noncomputable def fvs:List (Nat×Fd)->Option (List (Nat×D))
 | []=>some []
 | (k,.val d)::r=>(fvs r).map ((k,d)::·)
 | (_,.own _)::_=>none
noncomputable def sI(ρ:Ev)(i:Nat):R (List (Nat×D)):=match ρ[i]? with
 |some (some (.val (.dct ks ds)))=>.ok (ks.zip ds)
 |some (some (.obj _ C _ fs))=>if C=DC then ofO (fvs fs)else .no
 |_=>.no
def Av(e:sI ρ i=.ex C):False:=by
 unfold sI at e;split at e;·cases e
 ·split at e;·revert e;unfold ofO;split <;> exact λz=>nomatch z
  ·cases e
 ·cases e
theorem tY:∀(ks:List Nat)(ds:List D),fvs (ks.zip (ds.map Fd.val))=some (ks.zip ds)
 | [],_=>rfl
 |_::_,[]=>rfl
 |k::ks,d::ds=>by simp only[x9,mM,fvs,tY ks ds,uo]
def wB:∀a b c d:Bool,code a b=code c d->a=c/\b=d:=by decide
section
variable{K:PySem.W.Frag}
theorem KeysAt.inH(s:Same G H):∀{xs:DX}{ks:List Nat},KeysAt K G xs ks->iC K H xs
 |_,_,.nil,x,hx=>nomatch hx
 |_,_,.cons h t,x,hx=>by
  rcases xO.1 hx with rfl|hx;·exact h.mono s
  ·exact KeysAt.inH s t x hx
theorem KeysAt.twos:∀{xs:DX}{ks:List Nat},KeysAt K G xs ks->Lk xs
 |_,_,.nil,x,hx=>nomatch hx
 |_,_,.cons h t,x,hx=>by
  rcases xO.1 hx with rfl|hx;·exact⟨_,_,rfl⟩
  ·exact KeysAt.twos t x hx
def KeysAt.length:∀{xs:DX}{ks:List Nat},KeysAt K G xs ks->xs.length=ks.length
 |_,_,.nil=>rfl
 |_,_,.cons _ t=>by simp[t.length]
def KeysAt.look{a b:Bool}:∀{xs:DX}{ks:List Nat}{ds:List D},KeysAt K G xs ks->Reps K G (xs.map (·.2.2)) ds->
  ((ks.zip ds).lookup (code a b)=none/\oe xs [a,b]=none)\/∃d v,(ks.zip ds).lookup (code a b)=some d/\oe xs [a,b]=some v/\Rep K G v d
 |_,_,_,.nil,.nil=>.inl ⟨rfl,rfl⟩
 |_,_,_,.cons (a:=c) (b:=e) h t,.cons r q=>by
  by_cases z:[c,e]=[a,b]
  ·cases z;exact .inr ⟨_,_,by simp[xI],by simp[oe,Z6],r⟩
  ·have z':(code a b==code c e)=false:=uO.2 λy=>z (by obtain⟨rfl,rfl⟩:=wB _ _ _ _ y;rfl);rcases t.look q with⟨e1,e2⟩|⟨d,v,e1,e2,e3⟩;·exact .inl ⟨by simp only[mM,xI,z'];exact e1,by unfold oe at e2⊢;simp only[List.find?_cons,z,decide_false];exact e2⟩
   ·exact .inr ⟨d,v,by simp only[mM,xI,z'];exact e1,by unfold oe at e2⊢;simp only[List.find?_cons,z,decide_false];exact e2,e3⟩
def lC{n:Nat}(e:tQ d=some n)(r:Rep K G v d):∃q a b,v=.ref q/\n=code a b/\SqT K G q [.bl a,.bl b]:=by
 unfold tQ at e;split at e
 ·rename_i a b;cases e;obtain⟨q,vs,rfl,hq,rs⟩:=r.tup_inv;cases rs with
  |cons r1 t=>
   cases t with
   |cons r2 t=>cases t;obtain rfl:=r1.bl_inv;obtain rfl:=r2.bl_inv;exact⟨q,a,b,rfl,rfl,hq⟩
 ·cases e
def StE.dct{σ:St}{ρ:Ev}{i:Nat}{kv:List (Nat×D)}(st:StE K G H σ ρ)(e:sI ρ i=.ok kv):
  ∃a o xs ks ds,σ[i]?=some (some (.ref a))/\H a=some (DctO a o xs)/\KeysAt K G xs ks/\Reps K G (xs.map (·.2.2)) ds/\kv=ks.zip ds:=by
 unfold sI at e;split at e
 ·rename_i ks ds q;cases e;obtain⟨v,h1,r⟩:=st.val i _ q;cases r with
  |dct h k r=>exact⟨_,_,_,ks,ds,h1,st.sub _ _ h,k,r,rfl⟩
 ·rename_i m C p fs q;split at e;·rename_i z;obtain⟨h1,ow,ob⟩:=st.obs i m C p fs q;rw[z]at ob;obtain⟨o,xs,ks,ds,g1,g2,g3,g4,g5,g6,g7⟩:=ob.dco;rw[g7,tY]at e;cases e;exact⟨p,o,xs,ks,ds,h1,g1,g5,g6,rfl⟩
  ·cases e
 ·cases e
end
section
variable{e:Expr}{ga:Ev->R D}
noncomputable def Ly(K:PySem.W.Frag)(neg:Bool):R2:=λx y H Q=>∃q k a o xs,x=.ref q/\y=.ref a/\H a=some (DctO a o xs)/\iC K H xs/\SqT K H q (k.map V.bl)/\Q (.bl (if neg then !(oe xs k).isSome else (oe xs k).isSome)) H
def Ka(hu:X.A.units+64<cLine):OpR X (compareOp .In) (Ly X.K false):=by intro pins s σ H x y v u Q I rx ry ⟨q,k,a,o,xs,ex,ey,h1,h2,h3,h4⟩;subst ex ey;cases rx;cases ry;exact HE (by omega) I h1 h2 h3 λs' I'=>⟨.bl _,H,I',rfl,h4⟩
def Go(hu:X.A.units+64<cLine):OpR X (compareOp .NotIn) (Ly X.K true):=by intro pins s σ H x y v u Q I rx ry ⟨q,k,a,o,xs,ex,ey,h1,h2,h3,h4⟩;subst ex ey;cases rx;cases ry;exact zz (by omega) I h1 h2 h3 λs' I'=>⟨.bl _,H,I',rfl,h4⟩
noncomputable def rg(neg:Bool)(i:Nat)(ge:Ev->R D):Ev->R Bool:=λρ=>ge ρ>>=λd=>ofO (tQ d)>>=λn=>sI ρ i>>=λkv=>.ok (if neg then !(kv.lookup n).isSome else (kv.lookup n).isSome)
def wQ{Q:Bool->Hp->Prop}(h:tTF X (rg neg i ge) σ H Q):F6 (tOp (Ly X.K neg) (tF X ge) (Bt i)) σ H Q:=by
 obtain⟨G,ρ,st,h⟩:=h;refine tG.intro st h λd v G1 H1 u1 st1 r1 h1=>?_;obtain⟨n,e1,h1⟩:∃n,tQ d=some n/\(sI ρ i>>=λkv=>R.ok (if neg then !(kv.lookup n).isSome else (kv.lookup n).isSome)).post (Fin G1 H1 (λ_ b c=>b=c) Q) (Exx X σ G1 H1):=by
  cases q:tQ d with
  |none=>rw[q]at h1;exact h1.elim
  |some n=>rw[q]at h1;exact⟨n,rfl,h1⟩
 cases q0:sI ρ i with
 |ok kv=>
  rw[q0]at h1;obtain⟨q,a,b,rfl,rfl,hq⟩:=lC e1 r1;obtain⟨c,o,xs,ks,ds,g1,g2,g3,g4,rfl⟩:=st1.dct q0;refine⟨.ref c,g1,q,[a,b],c,o,xs,rfl,rfl,g2,g3.inH st1.sub,hq.mono st1.sub,_,rfl,?_⟩;have e2:(oe xs [a,b]).isSome=((ks.zip ds).lookup (code a b)).isSome:=by rcases g3.look g4 with⟨y1,y2⟩|⟨d,v,y1,y2,_⟩ <;> rw[y1,y2] <;> rfl
  rw[e2];exact h1 _ G1 H1 (.refl st1.sub) rfl
 |ex C=>exact(Av q0).elim
 |no=>rw[q0]at h1;exact h1.elim
def BX(i:Nat)(hu:X.A.units+64<cLine)(he:PF X e ge)(hi:X.N[i]?=some x:=by rfl)(hv:Vis X.env.scope x:=by first|exact Or.inl rfl|exact Or.inr (Or.inl rfl)|exact Or.inr (Or.inr rfl))(hd:(x==("__debug__":Str))=false:=by decide)(hcd:(x==("__classdict__":Str))=false:=by decide)(hm:behindInMarks .In (.Name x p)=false:=by rfl):PB X (.Compare e [.In] [.Name x p] pos) (rg false i ge):=λpins s σ H Q I h=>
 vy (Ka hu) he (cK hi hv hd hcd) hm pins s σ H Q I (wQ h)
def HZ(i:Nat)(hu:X.A.units+64<cLine)(he:PF X e ge)(hi:X.N[i]?=some x:=by rfl)(hv:Vis X.env.scope x:=by first|exact Or.inl rfl|exact Or.inr (Or.inl rfl)|exact Or.inr (Or.inr rfl))(hd:(x==("__debug__":Str))=false:=by decide)(hcd:(x==("__classdict__":Str))=false:=by decide)(hm:behindInMarks .NotIn (.Name x p)=false:=by rfl):PB X (.Compare e [.NotIn] [.Name x p] pos) (rg true i ge):=λpins s σ H Q I h=>
 vy (Go hu) he (cK hi hv hd hcd) hm pins s σ H Q I (wQ h)
noncomputable def Ml(K:PySem.W.Frag):R2:=λx y H Q=>∃a o xs q k v,x=.ref a/\y=.ref q/\H a=some (DctO a o xs)/\iC K H xs/\SqT K H q (k.map V.bl)/\oe xs k=some v/\Q v H
def J1(hu:X.A.units+64<cLine):IxR X (Ml X.K):=by intro value slice pins s σ H x y v u Q I rx ry ⟨a,o,xs,q,k,w,ex,ey,h1,h2,h3,h4,h5⟩ hs;subst ex ey;cases rx;cases ry;obtain⟨g1,_,_,g2,_⟩:=mF I h1;exact tail_any (T:="dict") ⟨o,g1,g2.1⟩ PySem.F.slot_dict_getitem.lookup (Fx (by omega) I h1 h2 h3 h4 λw' s' I' r=>⟨w,H,I',r,h5⟩) hs
noncomputable def hV(i:Nat)(ge:Ev->R D):Ev->R D:=λρ=>sI ρ i>>=λkv=>ge ρ>>=λd=>ofO ((tQ d).bind λn=>kv.lookup n)
def sC(i:Nat)(hu:X.A.units+64<cLine)(he:PF X e ge)(hi:X.N[i]?=some x:=by rfl)(hv:Vis X.env.scope x:=by first|exact Or.inl rfl|exact Or.inr (Or.inl rfl)|exact Or.inr (Or.inr rfl))(hd:(x==("__debug__":Str))=false:=by decide)(hcd:(x==("__classdict__":Str))=false:=by decide)(hs:pX e:=by intro _ _;rfl):PF X (.Subscript (.Name x p) e pos) (hV i ge):=λpins s σ H Q I h=>by
 refine E4 (J1 hu) (cK hi hv hd hcd) he hs pins s σ H Q I ?_;obtain⟨G,ρ,st,h⟩:=h;have h:(sI ρ i>>=λkv=>ge ρ>>=λd=>ofO ((tQ d).bind λn=>kv.lookup n)).post (Fin G H (Rep X.K) Q) (Exx X σ G H):=h;cases q:sI ρ i with
 |ok kv=>
  rw[q]at h;obtain⟨c,o,xs,ks,ds,g1,g2,g3,g4,rfl⟩:=st.dct q;refine⟨.ref c,g1,tG.intro st h λd v G1 H1 u1 st1 r1 h1=>?_⟩;obtain⟨w,e2,h1⟩:=ofO.ok h1;cases e1:tQ d with
  |none=>rw[e1]at e2;cases e2
  |some n=>
   rw[e1]at e2;have e2:(ks.zip ds).lookup n=some w:=e2;obtain⟨q,a,b,rfl,rfl,hq⟩:=lC e1 r1;rcases g3.look g4 with⟨y1,_⟩|⟨d',v',y1,y2,y3⟩;·rw[y1]at e2;cases e2
   ·rw[y1]at e2;cases e2;exact⟨c,o,xs,q,[a,b],v',rfl,rfl,u1.hh _ _ g2,λz hz=>(g3.inH st.sub z hz).mono u1.hh,hq.mono st1.sub,y2,h1 v' G1 H1 (.refl st1.sub) (y3.mono u1.gg)⟩
 |ex C=>exact(Av q).elim
 |no=>rw[q]at h;exact h.elim
end
section
variable{K:PySem.W.Frag}{a b:Bool}
def KeysAt.same:∀{xs:DX}{ks:List Nat},KeysAt K G xs ks->[a,b]∉xs.map (·.1)->xs.map (λx=>if x.1=[a,b]then (x.1,x.2.1,v)else x)=xs
 |_,_,.nil,_=>rfl
 |_,_,.cons (a:=c) (b:=e) h t,n=>by rw[x9,xO,not_or]at n;rw[x9,if_neg (λz=>n.1 z.symm),t.same n.2]
theorem zQ{n:Nat}{fd:Fd}:∀{fs:List (Nat×Fd)},fs.lookup n=none->jL n fd fs=fs++[(n,fd)]
 | [],_=>rfl
 | (k,f)::fs,h=>by
  have ne:(n==k)=false:=by
   cases z:n==k with
   |false=>rfl
   |true=>simp only[xI,z]at h;cases h
  simp only[xI,ne]at h;unfold jL;rw[if_neg (λz=>by rw[z]at ne;simp at ne),zQ h];rfl
def KeysAt.snoc:∀{xs:DX}{ks:List Nat},KeysAt K G xs ks->SqT K G q [.bl a,.bl b]->KeysAt K G (xs++[([a,b],q,v)]) (ks++[code a b])
 |_,_,.nil,h=>.cons h .nil
 |_,_,.cons h t,z=>.cons h (t.snoc z)
theorem nJ{n:Nat}:∀{ks:List Nat}{ds:List D},(ks.zip ds).lookup n=none->(ks.zip (ds.map Fd.val)).lookup n=none
 | [],_,_=>rfl
 |_::_,[],_=>rfl
 |k::ks,d::ds,h=>by
  rw[mM,xI]at h;rw[x9,mM,xI];cases z:n==k with
  |true=>rw[z]at h;cases h
  |false=>rw[z]at h;exact nJ h
def KeysAt.over:∀{xs:DX}{ks:List Nat}{ds:List D},KeysAt K G xs ks->Reps K G (xs.map (·.2.2)) ds->(xs.map (·.1)).Nodup->(oe xs [a,b]).isSome=true->Rep K G v d->
  KeysAt K G (xs.map λx=>if x.1=[a,b]then (x.1,x.2.1,v)else x) ks/\∃ds',Reps K G ((xs.map λx=>if x.1=[a,b]then (x.1,x.2.1,v)else x).map (·.2.2)) ds'/\jL (code a b) (.val d) (ks.zip (ds.map Fd.val))=ks.zip (ds'.map Fd.val)
 |_,_,_,.nil,.nil,_,h,_=>by cases h
 |_,_,_,.cons (a:=c) (b:=e) (ks:=ks) (xs:=ys) h t,.cons (ds:=ds) r1 r2,n,hv,r=>by
  rw[x9,nz]at n;by_cases z:[c,e]=[a,b]
  ·cases z;rw[x9,if_pos rfl,t.same n.1];exact⟨.cons h t,d::ds,.cons r r2,by simp[jL]⟩
  ·have z':code c e≠code a b:=λy=>z (by obtain⟨rfl,rfl⟩:=wB _ _ _ _ y;rfl);have hv':(oe ys [a,b]).isSome=true:=by unfold oe at hv⊢;simpa only[List.find?_cons,z,decide_false]using hv
   obtain⟨k1,ds',k2,k3⟩:=t.over r2 n.2 hv' r;rw[x9,if_neg z];refine⟨.cons h k1,_::ds',.cons r1 k2,?_⟩;simp only[x9,mM,jL,if_neg z',k3]
def KeysAt.put{xs:DX}(k:KeysAt K G xs ks)(rs:Reps K G (xs.map (·.2.2)) ds)(n:(xs.map (·.1)).Nodup)(hq:SqT K G q [.bl a,.bl b])(r:Rep K G v d):
  ∃ks' ds',KeysAt K G (Cj xs [a,b] q v) ks'/\Reps K G ((Cj xs [a,b] q v).map (·.2.2)) ds'/\jL (code a b) (.val d) (ks.zip (ds.map Fd.val))=ks'.zip (ds'.map Fd.val):=by
 unfold Cj;by_cases z:(oe xs [a,b]).isSome=true;·rw[if_pos z];obtain⟨k1,ds',k2,k3⟩:=k.over rs n z r;exact⟨ks,ds',k1,k2,k3⟩
 ·rw[if_neg z];refine⟨ks++[code a b],ds++[d],k.snoc hq,?_,?_⟩;·rw[n0];exact rs.append (.cons r .nil)
  ·rcases k.look (a:=a) (b:=b) rs with⟨y1,_⟩|⟨_,_,_,y2,_⟩
   ·have ln:ks.length=(ds.map Fd.val).length:=by rw[x8,<- rs.length,x8,k.length]
    rw[zQ (nJ y1),n0,List.zip_append ln];rfl
   ·rw[y2]at z;exact absurd rfl z
end
theorem DRel.keys:∀{xs:DX}{us:DU},DRel xs us->xs.map (·.1)=us.map (·.1)
 |_,_,.nil=>rfl
 |_,_,.cons h t=>by rw[x9,x9,h.1,DRel.keys t]
noncomputable def L5(K:PySem.W.Frag):Kg:=λx y v H Q=>∃a o xs q k,x=.ref a/\y=.ref q/\H a=some (DctO a o xs)/\iC K H xs/\SqT K H q (k.map V.bl)/\xs.length<sizeLine/\((xs.map (·.1)).Nodup->∀o',Q (upd H a (DctO a o' (Cj xs k q v))))
section
variable{e ix:Expr}{ga gk:Ev->R D}{tp:Pos}
def Ff(hu:X.A.units+64<cLine):Mm X (L5 X.K):=by intro pins s σ H o i v ov iv u Q I ro ri rv ⟨a,ob,xs,q,k,eo,ei,h1,h2,h3,h4,h5⟩;subst eo ei;cases ro;cases ri;obtain⟨_,_,_,_,us,r,_,_,_,_,n⟩:=mF I h1;rw[<- DRel.keys r]at n;exact G8 (by omega) I h1 h2 h3 h4 rv λo' s' I'=>⟨_,I',h5 n o'⟩
noncomputable def Ch(i:Nat)(gk ga:Ev->R D):Ev->O:=λρ=>(qZ DC ρ i).out ρ λo=>(de (ga ρ)).out ρ λd=>(de (gk ρ)).out ρ λk=>match tQ k with
 |some n=>if o.2.length<900 then .nx (ρ.set i (some (.obj true DC o.1 (jL n (.val d) o.2))))else .no
 |none=>.no
def Ho(i:Nat)(hu:X.A.units+64<cLine)(he:PF X e ga)(hk:PF X ix gk)(hi:X.N[i]?=some x:=by rfl)(hv:Vis X.env.scope x:=by first|exact Or.inl rfl|exact Or.inr (Or.inl rfl))(hd:(x==("__debug__":Str))=false:=by decide)(hcd:(x==("__classdict__":Str))=false:=by decide)(hs:swapsWithSole [.Subscript (.Name x p) ix tp] e pos.line X.env=pure false:=by rfl)(hw:swappedStores [.Subscript (.Name x p) ix tp] e X.env=pure none:=by rfl)(h1':(assignEach [.Subscript (.Name x p) ix tp] X.env).map (·.2)=[assign (.Subscript (.Name x p) ix tp) X.env]:=by rfl)(ha:∀v,assign (.Subscript (.Name x p) ix tp) X.env v=(do
 let ov <- holding [v] (eval (.Name x p) X.env);let iv <- holding [v,ov] (eval ix X.env)
 standAt tp
 holding [v,ov,iv] (setItem ov iv v)
 release [v,ov,iv] []):=by intro _;rfl):
  PSF X (.Assign [.Subscript (.Name x p) ix tp] e pos) (Ch i gk ga):=λG₀ H₀ pins s σ H D I ⟨G,ρ,sr,h⟩=>by
 refine hW he (D3 (cK hi hv hd hcd) hk (Ff hu) ha) hs hw h1' pins s σ H D I ⟨G,ρ,sr.e,?_⟩;obtain⟨pp,fs,e1,h⟩:=mK h;obtain⟨hσ,_⟩:=sr.e.obs i true DC pp fs e1;cases q1:ga ρ with
 |ok d=>
  rw[q1]at h;intro v G1 H1 u1 r1;show KG _ _ _ v σ H1 _;refine⟨.ref pp,hσ,G1,ρ,(sr.ups u1).e,?_⟩;cases q2:gk ρ with
  |ok k=>
   rw[q2]at h;intro kv G2 H2 u2 r2;have sr2:=(sr.ups u1).ups u2;obtain⟨ow,o1,o2⟩:=sr2.ob;obtain⟨ob,xs,ks,ds,g1,g2,g3,g4,g5,g6,g7⟩:=(o2 i true DC pp fs e1).2.dco;have h:hU X G₀ H₀ D (match tQ k with
    |some n=>if fs.length<900 then .nx (ρ.set i (some (.obj true DC pp (jL n (.val d) fs))))else .no
    |none=>.no):=h;cases q3:tQ k with
   |none=>rw[q3]at h;exact h.elim
   |some n=>
    rw[q3]at h;have h:hU X G₀ H₀ D (if fs.length<900 then .nx (ρ.set i (some (.obj true DC pp (jL n (.val d) fs))))else .no):=h;by_cases hz:fs.length<900
    ·rw[if_pos hz]at h;obtain⟨q,a,b,rfl,rfl,hq⟩:=lC q3 r2;have xl:xs.length=fs.length:=by have l1:=g5.length;have l2:=g6.length;rw[x8]at l2;rw[g7,List.length_zip,x8];omega
     have lb:900<sizeLine:=by decide
     refine⟨pp,ob,xs,q,[a,b],rfl,rfl,g1,g5.inH sr2.e.sub,hq.mono sr2.e.sub,by omega,λnd o'=>h σ G2 _ ?_⟩;obtain⟨ks',ds',k1,k2,k3⟩:=g5.put g6 nd hq (r1.mono u2.gg);have np:∀c o,H₀ c=some o->c≠pp:=λc o z=>aC z (g3 rfl);refine sr2.objTo e1 o1 o2 (ow2:=ow) (λc o z nt=>?_) (λc o z=>?_) (λc o z=>?_) (λ_ _ _ _ _ z _=>z) (.inr ⟨rfl,o',_,ks',ds',az,g2,g3,g4,k1,k2,by rw[g7];exact k3⟩);·rw[am (λy=>nt 0 (by rw[y];exact g4))];exact z
     ·rw[am (np c o z)];exact sr2.up.hh c o z
     ·rw[am (aC z g2)];exact sr2.e.sub c o z
    ·rw[if_neg hz]at h;exact h.elim
  |_=>rw[q2]at h;exact h.elim
 |_=>rw[q1]at h;exact h.elim
end
section
variable{cS:List Stmt}{α:Type}{g2:α->Ev->O}{e:Expr}{ga:Ev->R D}{py pos':Pos}
def yT{K:PySem.W.Frag}{p:Addr}{xs:DX}(s:Same G H)(hp:H p=none)(k:KeysAt K G xs ks)(r:Reps K G (xs.map (·.2.2)) ds):
  Up G H G (upd H p (DctO p o xs))/\ObjAt K H G (upd H p (DctO p o xs)) (λa=>if a=p then some (0,0)else none) 0 true DC p (ks.zip (ds.map Fd.val)):=
 ⟨⟨λa u q=>by rw[am (aC q (s.free hp))];exact s a u q,.refl _,.into hp,λ_ _ q=>.inl q⟩,.inr ⟨rfl,o,xs,ks,ds,az,s.free hp,λ_=>hp,if_pos rfl,k,r,rfl⟩⟩
noncomputable def En(i:Nat)(g2:α->Ev->O):Addr×α->Ev->O:=λq ρ=>g2 q.2 (ρ.set i (some (.obj true DC q.1 [])))
def Gi(i:Nat)(hN:X.N.Nodup)(h2:Bf X cS g2)(hi:X.N[i]?=some y:=by rfl)(hx:Loc X.env.scope y:=by first|exact Or.inl rfl|exact Or.inr rfl)(hw:swappedStores [.Name y py] (.Dict [] [] pos) X.env=pure none:=by rfl)(hf:X.fn y=true\/X.env.scope.names.lookup y=some .local:=by first|exact .inl rfl|exact .inr rfl)(hs:swapsWithSole [.Name y py] (.Dict [] [] pos) pos'.line X.env=pure false:=by rfl):Bf X (.Assign [.Name y py] (.Dict [] [] pos) pos'::cS) (En i g2):=λG₀ H₀ pins s σ H D I ⟨G,ρ,sr,h⟩=>by
 refine dE (hW Fa (dP (i:=i) hN hi hx hf) hs hw rfl) (h2 G₀ H₀) pins s σ H D I λq o hq=>?_;obtain⟨u,ob⟩:=yT (o:=o) sr.e.sub hq (.nil:KeysAt X.K G [] []) (.nil:Reps X.K G [] []);exact⟨G,_,sr.setObj u ob i,λq2=>h (q,q2)⟩
noncomputable def yN(i:Nat)(ga:Ev->R D)(g2:α->Ev->O):Addr×α->Ev->O:=λq ρ=>(de (ga ρ)).out ρ λd=>match d with
 |.dct (k::ks) ds=>g2 q.2 (ρ.set i (some (.obj true DC q.1 ((k::ks).zip (ds.map Fd.val)))))
 |_=>.no
def Cn[Inhabited α](i:Nat)(hN:X.N.Nodup)(hg:Gl X "dict")(hm:X.mg "dict"=none)(he:PF X e ga)(h2:Bf X cS g2)(hi:X.N[i]?=some y:=by rfl)(hx:Loc X.env.scope y:=by first|exact Or.inl rfl|exact Or.inr rfl)(hse:starEach [e] X.env=(false,eval e X.env)::starEach [] X.env:=by rfl)(hw:swappedStores [.Name y py] (.Call (.Name "dict" p) [e] [] pos) X.env=pure none:=by rfl)(hf:X.fn y=true\/X.env.scope.names.lookup y=some .local:=by first|exact .inl rfl|exact .inr rfl)(hs:swapsWithSole [.Name y py] (.Call (.Name "dict" p) [e] [] pos) pos'.line X.env=pure false:=by rfl):Bf X (.Assign [.Name y py] (.Call (.Name "dict" p) [e] [] pos) pos'::cS) (yN i ga g2):=λG₀ H₀ pins s σ H D I ⟨G,ρ,sr,h⟩=>by
 refine dE (hW (jQ su hg hm PyProof.Rows.Boot.«dict» (bE he eJ hse) (by decide) (by decide) hse rfl) (dP (i:=i) hN hi hx hf) hs hw rfl) (h2 G₀ H₀) pins s σ H D I ⟨G,ρ,sr.e,?_⟩;have h:∀q:Addr×α,hU X G₀ H₀ D ((de (ga ρ)).out ρ λd=>match d with
  |.dct (k::ks) ds=>g2 q.2 (ρ.set i (some (.obj true DC q.1 ((k::ks).zip (ds.map Fd.val)))))
  |_=>.no):=h;cases q1:ga ρ with
 |ok d=>
  rw[q1]at h;intro v G1 H1 u1 r1;cases r1 with
  | @dct c o xs ks ds hc hk hr=>
   have sr1:=sr.ups u1;cases ks with
   |nil=>exact(h (0,default)).elim
   |cons k ks=>refine⟨c,o,xs,rfl,u1.sub _ _ hc,hk.inH u1.sub,hk.twos,λz=>by have:=hk.length;rw[z]at this;simp at this,λq o' hq=>?_⟩;obtain⟨u,ob⟩:=yT (o:=o') u1.sub hq hk hr;exact⟨G1,_,sr1.setObj u ob i,λq2=>h (q,q2)⟩
  |_=>exact(h (0,default)).elim
 |_=>rw[q1]at h;exact(h (0,default)).elim
noncomputable def sU(i:Nat):Ev->O:=λρ=>match ρ[i]? with
 |some (some (.obj true C _ fs))=>if C=DC then (match fvs fs with
  |some kv=>.rt (.dct (kv.map (·.1)) (kv.map (·.2)))
  |none=>.no)else .no
 |_=>.no
def D4(i:Nat)(hi:X.N[i]?=some x:=by rfl)(hv:Vis X.env.scope x:=by first|exact Or.inl rfl|exact Or.inr (Or.inl rfl)|exact Or.inr (Or.inr rfl))(hd:(x==("__debug__":Str))=false:=by decide)(hcd:(x==("__classdict__":Str))=false:=by decide):PSF X (.Return (some (.Name x p)) pos) (sU i):=λG₀ H₀ pins s σ H D I ⟨G,ρ,sr,h⟩=>by
 unfold sU at h;split at h
 ·rename_i C q fs e1;split at h
  ·rename_i z;subst z;obtain⟨ow,_,o2⟩:=sr.ob;obtain⟨hσ,ob⟩:=o2 i true DC q fs e1;obtain⟨o,xs,ks,ds,g1,g2,g3,g4,g5,g6,g7⟩:=ob.dco;rw[g7,tY]at h;have l1:=g5.length;have l2:=g6.length;rw[x8]at l2;have e2:(ks.zip ds).map (·.1)=ks:=List.map_fst_zip (by omega);have e3:(ks.zip ds).map (·.2)=ds:=List.map_snd_zip (by omega);have h:hU X G₀ H₀ D (.rt (.dct ((ks.zip ds).map (·.1)) ((ks.zip ds).map (·.2)))):=h;rw[e2,e3]at h;have into:Same G (upd G q (DctO q o xs)):=.into g2;refine mQ (cK hi hv hd hcd) pins s σ H D I ⟨_,hσ,h (.ref q) (upd G q (DctO q o xs)) H ⟨λa u y=>?_,sr.up.gg.trans into,sr.up.hh,λa u y=>?_⟩ (.dct az (g5.mono into) (g6.mono into))⟩
   ·by_cases ea:a=q;·subst ea;rw[az]at y;rw[<- y];exact g1
    ·rw[am ea]at y;exact sr.e.sub a u y
   ·by_cases ea:a=q;·subst ea;exact .inr (g3 rfl)
    ·rw[am ea]at y;exact sr.up.fr a u y
  ·exact h.elim
 ·exact h.elim
noncomputable def d1F:D->D->Option D:=λk v=>(tQ k).map λn=>.dct [n] [v]
noncomputable def gD1(gk gv:Ev->R D):Ev->R D:=λρ=>gk ρ>>=λk=>gv ρ>>=λv=>ofO (d1F k v)
def K8{k v:Expr}{gk gv:Ev->R D}(hu:X.A.units+64<cLine)(hk:PF X k gk)(hv:PF X v gv):PF X (.Dict [some k] [v] pos) (gD1 gk gv):=λpins s σ H Q I ⟨G,ρ,st,h⟩=>by
 refine EC (by omega) hk hv pins s σ H Q I λq o hq=>?_;have u0:Up G H G (upd H q (DctO q o [])):=⟨λa u y=>by rw[am (aC y (st.sub.free hq))];exact st.sub a u y,.refl _,.into hq,λ_ _ y=>.inl y⟩
 have h:(gk ρ>>=λk=>gv ρ>>=λv=>ofO (d1F k v)).post (Fin G H (Rep X.K) Q) (Exx X σ G H):=h;have st0:=st.up u0;refine⟨G,ρ,st0,?_⟩;cases q1:gk ρ with
 |ok kd=>
  rw[q1]at h;intro kv G1 H1 u1 r1;refine⟨G1,ρ,st0.up u1,?_⟩;have h:(gv ρ>>=λv=>ofO (d1F kd v)).post (Fin G H (Rep X.K) Q) (Exx X σ G H):=h;cases q2:gv ρ with
  |ok vd=>
   rw[q2]at h;intro vv G2 H2 u2 r2;obtain⟨w,e1,h⟩:=ofO.ok (show(ofO (d1F kd vd)).post (Fin G H (Rep X.K) Q) (Exx X σ G H) from h);unfold d1F at e1;cases e2:tQ kd with
   |none=>rw[e2]at e1;cases e1
   |some n=>
    rw[e2]at e1;cases e1;obtain⟨c,a,b,rfl,rfl,hc⟩:=lC e2 r1;have u:=u1.trans u2;have gq:G2 q=none:=by
     cases z:G2 q with
     |none=>rfl
     |some o'=>
      rcases u.fr q o' z with y|y;·rw[st.sub.free hq]at y;cases y
      ·rw[az]at y;cases y
    refine⟨u.hh _ _ az,c,[a,b],rfl,(hc.mono u2.gg).mono u2.sub,λo'=>h (.ref q) (upd G2 q (DctO q o' [([a,b],c,vv)])) _ ⟨u2.sub.both,u.gg.trans (.into gq),λx o'' y=>?_,λx o'' y=>?_⟩ (.dct az (.cons ((hc.mono u2.gg).mono (.into gq)) .nil) (.cons (r2.mono (.into gq)) .nil))⟩;·have nx:=aC y hq;rw[am nx];exact u.hh x o'' (by rw[am nx];exact y)
    ·by_cases ex:x=q;·subst ex;exact .inr hq
     ·rw[am ex]at y;rcases u.fr x o'' y with z|z;·exact .inl z
      ·rw[am ex]at z;exact .inr z
  |ex C=>rw[q2]at h;exact Exx.up (u0.trans u1) h
  |no=>rw[q2]at h;exact h.elim
 |ex C=>rw[q1]at h;exact Exx.up u0 h
 |no=>rw[q1]at h;exact h.elim
noncomputable def DZ(n:Nat):D:=.tup [.bl (n % 2==1),.bl (n / 2==1)]
noncomputable def AS:D->R (List D)
 |.dct ks ds=>.ok ((ks.zip ds).map λz=>.tup [DZ z.1,z.2])
 |_=>.no
def sL:∀a b:Bool,DZ (code a b)=.tup [.bl a,.bl b]:=by intro a b;cases a <;> cases b <;> rfl
theorem KeysAt.item{K:PySem.W.Frag}:∀{xs:DX}{ks:List Nat}{ds:List D}{i:Nat}{y:List Bool×Addr×V},KeysAt K G xs ks->Reps K G (xs.map (·.2.2)) ds->xs[i]?=some y->∃n d,(ks.zip ds)[i]?=some (n,d)/\Rep K G (.ref y.2.1) (DZ n)/\Rep K G y.2.2 d
 |_,_,_,_,_,.nil,_,e=>by simp at e
 |_,_,_,0,_,.cons (a:=a) (b:=b) h t,.cons r1 r2,e=>by simp at e;subst e;exact⟨_,_,rfl,by rw[sL];exact .tup h (.cons (.bl a) (.cons (.bl b) .nil)),r1⟩
 |_,_,_,i+1,_,.cons h t,.cons r1 r2,e=>by obtain⟨n,d,h1,h2⟩:=KeysAt.item (i:=i) t r2 (by simpa using e);exact⟨n,d,by simpa using h1,h2⟩
def ItOk.dct{K:PySem.W.Frag}{xs:DX}(h:G a=some (DctO a o xs))(k:KeysAt K G xs ks)(r:Reps K G (xs.map (·.2.2)) ds):ItOk K G (Itd a o xs) ((ks.zip ds).map λz=>.tup [DZ z.1,z.2]):=by
 intro i G1 H1 s1 s2;have l1:=k.length;have l2:=r.length;rw[x8]at l2;have lz:((ks.zip ds).map λz=>D.tup [DZ z.1,z.2]).length=xs.length:=by rw[x8,List.length_zip];omega
 have hH:=s2 _ _ (s1 _ _ h);refine⟨λd e=>?_,λhl=>⟨hH,by rw[lz]at hl;exact hl⟩⟩;have hi:i<xs.length:=by rw[<- lz];exact(u8.1 e).1
 refine⟨⟨hH,hi⟩,λx H' ⟨p,y,ex,hp,hy,eH⟩=>?_⟩;subst ex eH;obtain⟨n,d',e1,e2,e3⟩:=k.item r hy;rw[v7,e1]at e;cases e;have gp:=s2.free hp;exact⟨upd G1 p (.tup [.ref y.2.1,y.2.2]),.new s2 hp,.tup (.of az) (.cons ((e2.mono s1).mono (.into gp)) (.cons ((e3.mono s1).mono (.into gp)) .nil))⟩
def yE{tp ap:Pos}(he:PF X e ga)(hbase:attributeBase e "items" X.env (eval e X.env)=eval e X.env:=by rfl)(hline:(ap.endLine==pos.line)=true:=by rfl):
  PIF X (.Tuple elts kt tp) (.Call (.Attribute e "items" ap) [] [] pos) (λρ=>ga ρ>>=AS):=λpins s σ H Rr I ⟨G,ρ,st,h⟩=>by
 refine CH he hbase hline pins s σ H Rr I (tG.intro st h λd v G1 H1 u1 st1 r1 h1=>?_);cases r1 with
 |dct hh k r=>exact⟨_,_,_,rfl,st1.sub _ _ hh,h1 _ G1 H1 (.refl st1.sub) (.dct hh k r)⟩
 |_=>exact h1.elim
end
noncomputable def rW(key:D->R D):D->Int->List D->R D
 |b,_,[]=>.ok b
 |b,kb,x::xs=>match key x with
  |.ok (.int kx)=>if kx<kb then rW key x kx xs else rW key b kb xs
  |_=>.no
noncomputable def qe(key:D->R D):List D->R D
 |x::xs=>(match key x with
  |.ok (.int kx)=>rW key x kx xs
  |_=>.no)
 | []=>.no
section
variable{g:List D->R D}{u:Value}{n:Int}
def vC(F:FnF X.prog X.w X.K X.mg X.base k f fd ps g)(hr:Room k X.A.in1)(hh:X.A.handled=none)(hb:Binds X.K fd ps [])(hl:ps.length=1)(I:Inv X pins σ H s)(ru:RelV v u)(sub:Same G H)(rd:Rep X.K G v d)(e:g [d]=.ok (.int n)):
  wpAny (model X.prog X.w) X.A.in1 (call (.ref f) [u]) (λy s4=>∃H4 t,y=.int n t/\Inv X pins σ H4 s4/\Same H H4/\Un (frs X.stack) [] H H4 s.heap s4.heap) E s:=by
 have J:Inv { X with A:=X.A.in1 } pins σ H s:=I.cx (A':=X.A.in1) (calm':=X.calm) (pn':=X.pn) (pins':=pins) (xe':=X.xe) (λp q=>q) rfl (λ_=>hh);have hbb:=hb s [u] J.kIn (by rw[hl];rfl);refine l5 (qE (F.run X.A.in1 X.stack s H ⟨[u],[]⟩ [u] [v] (λw H4=>w=.int n/\Same H H4) (λ_ _ _=>False) hr J.env0 hbb (.cons ru .nil) ⟨by rw[hl];rfl,G,[d],sub,.cons rd .nil,?_⟩) λr s' hq=>?_);·rw[e];exact λw G' H' up rw'=>⟨rw'.int_inv,up.hh⟩
 ·cases r with
  |error z=>obtain⟨_,_,_,_,_,z⟩:=hq;exact z.elim
  |ok fl=>
   cases fl with
   |ret y=>obtain⟨w,H4,os4,bare4,un4,hok4,rk4,rfl,sm⟩:=hq;obtain⟨t,rfl⟩:=rk4;exact⟨H4,t,rfl,I.call' (s':=s') (ch:=[]) os4 un4 hok4 bare4 (λb z=>absurd z (by simp)),sm,un4⟩
   |_=>exact False.elim hq
end
section
variable{H0:Hp}{Ii S l:Addr}{g:List D->R D}{dd:D}{Rr:Result->Shared->Prop}
def IY{prog:Program}{w:World}{A:Around}{i j:Int}{t u:Tok}{Q:Value->Shared->Prop}(h:Q (.bool (decide (i<j))) s):wpAny (model prog w) A (richCompare .Lt (.int i t) (.int j u)) Q E s:=
 richCompare_gives (op:=.Lt) (mJ s _ t) (mJ s _ u) PySem.F.slot_int_lt PySem.F.entry_int_lt (PySem.F.args_int_lt_2 _ _) (gives_int_lt _ _ t u) (λx=>nomatch x) h
def zJ(F:FnF X.prog X.w X.K X.mg X.base k f fd ps g)(hr:Room k X.A.in1)(hh:X.A.handled=none)(hb:Binds X.K fd ps [])(hl1:ps.length=1)(hG:Same G H0)(hq:SqL X.K G l vs)(hlI:l≠Ii)(hSI:S≠Ii)(fpI:∀H',H' Ii=none->pI X pins H' Ii)(fpS:∀H',H' S=none->pI X pins H' S)(nfI:Ii∉frs X.stack)(nfS:S∉frs X.stack)(hR:∀v u H' s',Inv X pins σ H' s'->Same H0 H'->RelV v u->Rep X.K G v dd->Rr (.ok (.ret u)) s'):
  ∀(cS:List D)(vrest:List V)(p:Nat)(b:D)(vb:V)(kb:Int)(s:Shared)(H:Hp)(ub:Value)(t:Tok)(c:Nat),p<=vs.length->vs.drop p=vrest->Reps X.K G vrest cS->rW (λd=>g [d]) b kb cS=.ok dd->
   Inv X pins σ H s->Same H0 H->s.heap.get? S=some (seqObj "list" #[ub,.int kb t] c)->s.heap.IsListIter Ii l p->H Ii=none->H S=none->RelV vb ub->Rep X.K G vb b->
   codeAny (model X.prog X.w) X.A (.builtin "min.loop" ⟨[.ref Ii,.ref f,.ref S],[]⟩) Rr s:=by
 intro cS;have nm:(toString "min"++toString ".loop":String)="min.loop":=by decide
 induction cS with
 |nil=>
  intro vrest p b vb kb s H ub t c hpl hd hrs hm I hs gS hit nI nS rb rpb;cases hm;cases hrs;obtain⟨its,rvs,pl,hz⟩:=I.list ((hq.mono hG).mono hs);have W:=jk (prog:=X.prog) (w:=X.w) (A:=X.A.in1) hh Ii l hlI its.toArray;obtain rfl:p=its.toArray.size:=by have h1:=rvs.length;have h2:=List.drop_eq_nil_iff.1 hd;simp;omega
  refine Zs Zt ?_;rw[Zu l7 _];refine y8 (m:=seqItems? (.ref S)) (l6 gS rfl (y8 (m:=tryCatch (pyNext (.ref Ii)) _) (kC (W.done _ _ _ ⟨hit,pl.isList⟩ λh6 tk6 hk6=>?_))));have I6:Inv X pins σ H { s with heap:=h6,toks:=tk6 }:=Inv.turnedL (s:=s) (h':=h6) (t':=tk6) (ch:=[Ii]) I (λb ob hb e=>hk6 b ob hb e) (λb hb=>by rw[uK.1 hb];exact fpI H nI);have s7:=jO h6 S (Obj.mapSeq λ_=>(#[]:Array Value));refine y8 (m:=updateSeq S λ_=>#[]) (b8 (hk6 S _ (by simpa using hSI) gS) rfl (y8 (j7 (y9 ?_))));exact hR vb ub H _ (Inv.turnedL (s:={ s with heap:=h6,toks:=tk6 }) (t':=tk6) (ch:=[S]) I6 (λb ob hb e=>(s7.2 b (by simpa using hb)).trans e) (λb hb=>by rw[uK.1 hb];exact fpS H nS)) hs rb rpb
 |cons d cS ih=>
  intro vrest p b vb kb s H ub t c hpl hd hrs hm I hs gS hit nI nS rb rpb;cases hrs with
  |cons rd rrest=>
  rename_i v vrest;obtain⟨its,rvs,pl,hz⟩:=I.list ((hq.mono hG).mono hs);have W:=jk (prog:=X.prog) (w:=X.w) (A:=X.A.in1) hh Ii l hlI its.toArray;have hvp:vs[p]?=some v:=by simpa[List.head?_drop]using ut List.head? hd
  have hdr:vs.drop (p+1)=vrest:=by simpa[List.tail_drop]using ut List.tail hd
  have hpl':p+1<=vs.length:=(u8.1 hvp).1;obtain⟨u,hu,ru⟩:=rvs.get hvp;obtain⟨kx,eg⟩:∃kx,g [d]=.ok (.int kx):=by
   unfold rW at hm;split at hm;·rename_i kx e;exact⟨kx,e⟩
   ·cases hm
  simp only[rW,eg]at hm;refine Zs Zt ?_;rw[Zu l7 _];refine y8 (m:=seqItems? (.ref S)) (l6 gS rfl (y8 (m:=tryCatch (pyNext (.ref Ii)) _) (kC (W.item p _ _ _ (by simpa using (u8.1 hu).1) ⟨hit,pl.isList⟩ λv' h3 tk3 hP hst3 hk3=>?_))));obtain rfl:v'=u:=by
   have:its[p]?=some v':=by simpa using hP
   rw[hu]at this;cases this;rfl
  obtain⟨oI,hoI,hoc,hod⟩:=id hst3.1;have I3:Inv X pins σ H { s with heap:=h3,toks:=tk3 }:=Inv.turnedL (s:=s) (h':=h3) (t':=tk3) (ch:=[Ii]) I (λb ob hb e=>hk3 b ob hb e) (λb hb=>by rw[uK.1 hb];exact fpI H nI);have gS3:h3.get? S=some (seqObj "list" #[ub,.int kb t] c):=hk3 _ _ (by simpa using hSI) gS;refine y8 (m:=tryCatch (holding [v'] (call (.ref f) [v'])) _) (kC (sT (u9 (vC (E:=λ_ _=>False) F hr hh hb hl1 I3 ru (hG.trans hs) rd eg) (λy s4 ⟨H4,tx,ey,I4,sm4,un4⟩=>?_) λ_ _ z=>z.elim)));subst ey;have gS4:=un4.keep _ _ gS3 nS nfS (by simp);have gI4:=un4.keep _ _ hoI nI nfI (by simp);have nI4:H4 Ii=none:=un4.free _ _ hoI nI (by simp);have nS4:H4 S=none:=un4.free _ _ gS3 nS (by simp);refine y8 (m:=tryCatch (holding [v',.int kx tx] (richCompare .Lt (.int kx tx) (.int kb t)>>=_)) _) (kC (sT (y8 (IY (y8 (sT (sJ (y8 (j7 (y9 ?_))))))))));by_cases hlt:kx<kb
  ·rw[if_pos hlt]at hm;rw[ss hlt];have s1:=jO s4.heap S (Obj.mapSeq λ_=>#[v',.int kx tx]);obtain⟨c2,hc2⟩:∃c2,(s4.heap.update S (Obj.mapSeq λ_=>#[v',.int kx tx])).get? S=some (seqObj "list" #[v',.int kx tx] c2):=⟨_,get?_update_seq gS4 λ_=>#[v',.int kx tx]⟩
   simp only[u6];refine y8 (b8 gS4 rfl (y8 (j7 ?_)));rw[nm];exact y9 ⟨b9 l7 _,ih vrest (p+1) d v kx _ H4 v' tx c2 hpl' hdr rrest hm (Inv.turnedL (s:=s4) (t':=s4.toks) (ch:=[S]) I4 (λb ob hb e=>(s1.2 b (by simpa using hb)).trans e) (λb hb=>by rw[uK.1 hb];exact fpS H4 nS4)) (hs.trans sm4) hc2 ⟨oI,(s1.2 Ii hSI.symm).trans gI4,hoc,hod⟩ nI4 nS4 ru rd⟩
  ·rw[if_neg hlt]at hm;rw[u7 hlt];simp only[t9,uf];refine y8 (j7 ?_);rw[nm];exact y9 ⟨b9 l7 _,ih vrest (p+1) b vb kb s4 H4 ub t c hpl' hdr rrest hm I4 (hs.trans sm4) gS4 ⟨oI,gI4,hoc,hod⟩ nI4 nS4 rb rpb⟩
def zT{v0:V}{vr:List V}{d0:D}{kb:Int}{Q:VK}(F:FnF X.prog X.w X.K X.mg X.base k f fd ps g)(hr:Room k X.A.in1)(hh:X.A.handled=none)(hb:Binds X.K fd ps [])(hl1:ps.length=1)(I:Inv X pins σ H s)(hG:Same G H)(hq:SqL X.K G l (v0::vr))(r0:Rep X.K G v0 d0)(rr:Reps X.K G vr ds)(eg:g [d0]=.ok (.int kb))(em:rW (λd=>g [d]) d0 kb ds=.ok dd)(hQ:∀v H',Same H H'->Rep X.K G v dd->Q v H'):
  wpAny (model X.prog X.w) X.A (call (.builtin "min") [.ref l] [(Str.ofString "key",.ref f)]) (EP X pins σ Q) X.xe s:=by
 have nm:(toString "min"++toString ".loop":String)="min.loop":=by decide
 obtain⟨its,rvs,pl,hz⟩:=I.list (hq.mono hG);have hl:=pl.isList;obtain⟨ol,hol,_⟩:=id hl;have ll:l<s.heap.objs.size:=xh hol;refine kmk_tree PySem.F.kind_min PySem.F.plain_min PySem.F.entry_min (kmk_min_key _ _) ?_;refine y8 (m:=Builtin.Builtins.bindParams "min" ["key","default"] 0 ⟨[],[(Str.ofString "key",.ref f)]⟩) (cw (a:=[some (.ref f),none]) rfl (y8 (y9 (y8 (c6 hl (y8 (wpAny_newList ?_ (v8 _))))))));rw[nm];generalize hI:s.heap.objs.size=Ii at *;have hS:(s.heap.push { cls:=.type "list_iterator",data:=.fields #[.ref l,.int 0 0] }).objs.size=Ii+1:=by rw[<- hI];exact size_push' ..
 rw[hS];have hlI:l≠Ii:=v6 ll;have hSI:Ii+1≠Ii:=r6 (l8 _);refine y9 ⟨b9 l7 _,?_⟩;generalize hh2:(s.heap.push { cls:=.type "list_iterator",data:=.fields #[.ref l,.int 0 0] }).push (seqObj "list" #[] 0)=h2;have k2:∀b ob,s.heap.get? b=some ob->h2.get? b=some ob:=λb ob e=>by rw[<- hh2];exact yq _ (yq _ e)
 have gI:h2.get? Ii=some { cls:=.type "list_iterator",data:=.fields #[.ref l,.int 0 0] }:=by rw[<- hh2,<- hI];exact yq _ (w6 _ rfl)
 have gS:h2.get? (Ii+1)=some (seqObj "list" #[] 0):=by rw[<- hh2,<- hS];exact w6 _ rfl
 have fpI:∀H',H' Ii=none->pI X pins H' Ii:=λH' n=>I.fpOk (by rw[hI];exact yh _) n;have fpS:∀H',H' (Ii+1)=none->pI X pins H' (Ii+1):=λH' n=>I.fpOk (by rw[hI];exact n3 _) n;have nI:H Ii=none:=I.hok.fresh (by rw[hI];exact yh _);have nS:H (Ii+1)=none:=I.hok.fresh (by rw[hI];exact n3 _);have noF:∀b,s.heap.objs.size<=b->b∉frs X.stack:=λb hb z=>by
  rcases xO.1 (I.stkSub b z)with rfl|z;·exact absurd I.lt (rX.2 hb)
  ·exact I.nofs hb z
 have nfI:Ii∉frs X.stack:=noF _ (by rw[hI];exact yh _);have nfS:(Ii+1)∉frs X.stack:=noF _ (by rw[hI];exact n3 _);have W:=jk (prog:=X.prog) (w:=X.w) (A:=X.A.in1) hh Ii l hlI its.toArray;obtain⟨u0,hu0,ru⟩:=rvs.get (i:=0) (x:=v0) rfl;refine Zs Zt ?_;rw[Zu l7 _];refine y8 (m:=seqItems? (.ref _)) (l6 gS rfl (y8 (m:=tryCatch (pyNext (.ref Ii)) _) (kC (W.item 0 _ _ _ (by simpa using (u8.1 hu0).1) ⟨⟨_,gI,rfl,rfl⟩,hl.at λo e=>k2 _ _ e⟩ λv h3 tk3 hP hst3 hk3=>?_))));obtain rfl:v=u0:=by
  have:its[0]?=some v:=by simpa using hP
  rw[hu0]at this;cases this;rfl
 obtain⟨oI,hoI,hoc,hod⟩:=id hst3.1;have I3:Inv X pins σ H { s with heap:=h3,toks:=tk3 }:=Inv.turnedL (s:={ s with heap:=h2,toks:=s.toks }) (h':=h3) (t':=tk3) (ch:=[Ii]) (I.kept k2) (λb ob hb e=>hk3 b ob hb e) (λb hb=>by rw[uK.1 hb];exact fpI H nI);have gS3:h3.get? (Ii+1)=some (seqObj "list" #[] 0):=hk3 _ _ (by simp) gS;refine y8 (m:=tryCatch (holding [v] (call (.ref f) [v])) _) (kC (sT (u9 (vC (E:=λ_ _=>False) F hr hh hb hl1 I3 ru hG r0 eg) (λy s4 ⟨H4,tx,ey,I4,sm4,un4⟩=>?_) λ_ _ z=>z.elim)));subst ey;have gS4:=un4.keep _ _ gS3 nS nfS (by simp);have gI4:=un4.keep _ _ hoI nI nfI (by simp);have nI4:H4 Ii=none:=un4.free _ _ hoI nI (by simp);have nS4:H4 (Ii+1)=none:=un4.free _ _ gS3 nS (by simp);have s5:=jO s4.heap (Ii+1) (Obj.mapSeq λ_=>#[v,.int kb tx]);obtain⟨c5,hc5⟩:∃c5,(s4.heap.update (Ii+1) (Obj.mapSeq λ_=>#[v,.int kb tx])).get? (Ii+1)=some (seqObj "list" #[v,.int kb tx] c5):=⟨_,get?_update_seq gS4 λ_=>#[v,.int kb tx]⟩
 refine y8 (m:=updateSeq (Ii+1) λ_=>#[v,.int kb tx]) (b8 gS4 rfl ?_);rw[nm];refine y9 ⟨b9 l7 _,?_⟩;exact zJ (H0:=H) (G:=G) (vs:=v0::vr) F hr hh hb hl1 hG hq hlI hSI fpI fpS nfI nfS (λv u H' s' I' sm' rv' rp'=>⟨v,H',I',rv',hQ v H' sm' rp'⟩) ds vr 1 d0 v0 kb _ H4 v tx c5 (by simp) rfl rr em (Inv.turnedL (s:=s4) (t':=s4.toks) (ch:=[Ii+1]) I4 (λb ob hb e=>(s5.2 b (by simpa using hb)).trans e) (λb hb=>by rw[uK.1 hb];exact fpS H4 nS4)) sm4 hc5 ⟨oI,(s5.2 Ii (uw hSI)).trans gI4,hoc,hod⟩ nI4 nS4 ru r0
end
theorem uZ{key:D->R D}:∀{xs:List D}{b:D}{kb:Int},(∃d,rW key b kb xs=.ok d)\/rW key b kb xs=.no
 | [],b,kb=>.inl ⟨_,rfl⟩
 |x::xs,b,kb=>by
  unfold rW;split
  ·split;·exact uZ
   ·exact uZ
  ·exact .inr rfl
def AZ{key:D->R D}{x:D}{xs:List D}:(∃kb d,key x=.ok (.int kb)/\rW key x kb xs=.ok d/\qe key (x::xs)=.ok d)\/qe key (x::xs)=.no:=by
 show _\/(match key x with
  |.ok (.int kx)=>rW key x kx xs
  |_=>.no)=.no;have e0:qe key (x::xs)=(match key x with
  |.ok (.int kx)=>rW key x kx xs
  |_=>.no):=rfl;rw[e0];cases e:key x with
 |ok d=>
  cases d with
  |int kb=>
   rcases uZ (key:=key) (xs:=xs) (b:=x) (kb:=kb)with⟨d,h⟩|h;·exact .inl ⟨kb,d,rfl,h,h⟩
   ·exact .inr h
  |_=>exact .inr rfl
 |_=>exact .inr rfl
noncomputable def tV(ga:Ev->R D)(g:List D->R D):Ev->R D:=λρ=>ga ρ>>=λd=>match d with
 |.lst _ xs=>qe (λd=>g [d]) xs
 |_=>.no
def D6{a:Expr}{ga:Ev->R D}{fn:Str}{g:List D->R D}{fp kp:Pos}(hc:X.calm=true)(hg:Gl X "min")(hm:X.mg "min"=none)(c:Callee X.prog X.w X.K X.mg X.base fn k 1 g)(hr:Room k X.A.in1)(ha:PF X a ga)(hgf:Gl X fn:=by rfl)(hdb:(fn==("__debug__":Str))=false:=by decide)(hs:starEach [a] X.env=(false,eval a X.env)::starEach [] X.env:=by rfl)(hall:(backToKw pos (keywordEach [⟨some "key",.Name fn fp,kp⟩] X.env)).all (·.1.isSome)=true:=by rfl)(hks:(backToKw pos (keywordEach [⟨some "key",.Name fn fp,kp⟩] X.env)).filterMap (·.1)=[("key":Str)]:=by rfl)(hpl:((backTo pos (starEach [a] X.env)).any (·.1) || (backToKw pos (keywordEach [⟨some "key",.Name fn fp,kp⟩] X.env)).any (·.1.isNone))=false:=by rfl):
  PF X (.Call (.Name "min" p) [a] [⟨some "key",.Name fn fp,kp⟩] pos) (tV ga g):=λpins s σ H Q I ⟨G,ρ,st,h⟩=>by
 obtain⟨f,fd,ps,F,hmf,hkp,hb,hl1⟩:=c.ex;have ta:BO (tF X ga) KJ σ H (λvs H1=>∃v,vs=[v]/\∃G1 d,Up G H G1 H1/\Rep X.K G1 v d/\(match d with|.lst _ xs=>qe (λd=>g [d]) xs|_=>.no:R D).post (Fin G1 H1 (Rep X.K) Q) (Exx X σ G1 H1)):=
  tG.intro st h λd v G1 H1 u1 st1 r1 h1=>⟨v,rfl,G1,d,u1,r1,h1⟩
 refine qk (nT I hg hm PyProof.Rows.Boot.«min» ?_ (by decide) (by decide));refine PySem.W.callWith_of (P:=λ_=>True) hpl (λh _=>by first|exact⟨_,.inl rfl,Zv rfl⟩|exact⟨_,.inr (.inl rfl),Zv rfl⟩|exact⟨_,.inr (.inr rfl),Zv rfl⟩) (evalArgs_kw2 hall (thn ((bE ha eJ hs) pos pins s σ H _ I ta) λus s1 ⟨vs,H1,I1,r1,q1⟩=>?_) hs);obtain⟨v,hv,G1,d,u1,rd,h1⟩:∃v,vs=[v]/\∃G1 d,Up G H G1 H1/\Rep X.K G1 v d/\(match d with|.lst _ xs=>qe (λd=>g [d]) xs|_=>.no:R D).post (Fin G1 H1 (Rep X.K) Q) (Exx X σ G1 H1):=q1;subst hv;obtain⟨u,rfl,rv⟩:=r1.one;show wpAny _ _ (evalAll ((do let v <- eval (.Name fn fp) X.env;standAt pos;pure v)::(backToKw pos (keywordEach [] X.env)).map (·.2))) _ _ s1;refine wpAny_evalAll_cons (y8 (thn (qi (v:=.ref f) hgf hmf rfl hdb pins s1 σ H1 (λw H2=>w=.ref f/\H2=H1) I1 ⟨rfl,rfl⟩) λfv s2 ⟨w,H2,I2,rw2,ew,eh⟩=>y8 (iz (y9 (wpAny_evalAll_nil ⟨trivial,?_⟩)))));subst ew eh;cases rw2;rw[hks];have fin:∀{l:Addr}{v0:V}{vr:List V}{x0:D}{ds:List D},u=.ref l->SqL X.K G1 l (v0::vr)->Rep X.K G1 v0 x0->Reps X.K G1 vr ds->(qe (λd=>g [d]) (x0::ds)).post (Fin G1 H2 (Rep X.K) Q) (Exx X σ G1 H2)->
   wpAny (model X.prog X.w) X.A (call (.builtin "min") [u] [(Str.ofString "key",.ref f)]) (EP X pins σ Q) X.xe s2:=by
  intro l v0 vr x0 ds eu hq r0 rr h0;subst eu;rcases AZ (key:=λd=>g [d]) (x:=x0) (xs:=ds)with⟨kb,dd,eg,em,e1⟩|e1
  ·rw[e1]at h0;exact zT F hr (I2.ok.hd hc) hb hl1 I2 u1.sub hq r0 rr eg em λv H' sm rp=>h0 v G1 H' ⟨u1.sub.trans sm,.refl _,sm,λa o h=>.inl h⟩ rp
  ·rw[e1]at h0;exact h0.elim
 cases rd with
 |lst hq t=>
  cases rv;cases t with
  |nil=>exact h1.elim
  |cons r0 t=>exact fin rfl (.of hq) r0 t h1
 |fls hq t=>
  cases rv;cases t with
  |nil=>exact h1.elim
  |cons r0 t=>exact fin rfl hq r0 t h1
 |_=>exact h1.elim
noncomputable def lR(K:PySem.W.Frag)(c:Addr)(d:D):Prop:=∀G,Rep K G (.ref c) d
def bb{c:Addr}(hg:Gl X x)(hm:X.mg x=some (.ref c))(hk:lR X.K c d)(hd:(x==("__debug__":Str))=false:=by decide):PF X (.Name x pos) (λ_=>.ok d):=λpins s σ H Q I ⟨G,ρ,st,q⟩=>qi (v:=.ref c) hg hm rfl hd pins s σ H Q I (q _ G H (.refl st.sub) (hk G))
def B8{K:PySem.W.Frag}{c:Addr}{its:Array Value}{n:Nat}(h1:K.lookup c=some o)(h2:o.cls=.type "tuple")(h3:o.data=.seq its n)(h4:its.size<=sizeLine)(h5:Vals vs its.toList)(h6:∀G,Reps K G vs ds):lR K c (.tup ds):=λG=>.tup (.inr ⟨o,its,n,h1,h2,h3,h4,h5⟩) (h6 G)
def Hm{a b:Expr}{ga:Ev->R D}(h:PF X (.Subscript a b pos) ga):PB X (.Subscript a b pos) (aq ie ga):=zW h
def E3(l:Addr)(items:Array Value)(n:Nat)(b:Addr)(items2:Array Value)(hs1:items.size+items2.size<=sizeLine):
  Meets (Builtin.«list.extend» { pos:=[.ref l,.ref b] }) λ_ R s=>s.heap.get? l=some { cls:=.type "list",data:=.seq items n }/\IsTup s.heap b items2/\R (.ok (.ret .none)) { s with heap:=s.heap.update l (Obj.mapSeq λx=>x++items2) }:=by
 intro prog w A R s ⟨hl,⟨o,e2,hc,n2,hd⟩,h⟩;show wpAny _ _ (selfAndOne "list.extend" { pos:=[.ref l,.ref b] }>>=_) _ _ s;refine y8 (cw (a:=(.ref l,.ref b)) rfl ?_);show wpAny _ _ (Builtin.List.listExtendWith (.ref l) (.ref b) .none) _ _ s;unfold Builtin.List.listExtendWith;refine y8 (j5 (T:="tuple") ⟨o,e2,hc⟩ ?_);rw[if_pos (by rw[Bool.or_eq_true];exact .inr (by decide))];unfold Builtin.List.listItems;refine y8 (y8 (l6 e2 hd (y9 ?_)));refine y8 (y8 (l6 hl rfl (y9 ?_)));dsimp only;rw[qF hs1,j6,if_neg (by decide)];show wpAny _ _ (updateSeq l (λx=>x++items2)>>=_) _ _ s;refine y8 (b8 (hz:=w8 (Nat.le_add_right _ _) hs1) (_hz':=?_) hl rfl ?_);·exact y9 (a:=Fin.done (.ret .none)) h
 ·rw[Array.size_append];omega
noncomputable def Mu(K:PySem.W.Frag):V->List V->Hp->VK->Prop:=λx vs H Q=>∃l b xs zs,x=.ref l/\vs=[.ref b]/\H l=some (.lst xs)/\SqT K H b zs/\xs.length+zs.length<=sizeLine/\Q .non (upd H l (.lst (xs++zs)))
theorem GG:MtM X "list.extend" (Mu X.K):=by
 intro pins s σ H x vs v us Q I rx rv h;obtain⟨l,b,xs,zs,rfl,rfl,hH,hB,hz,q⟩:=h;cases rx;obtain⟨u,rfl,ru⟩:=rv.one;cases ru;obtain⟨z,its,n,r,hl,e⟩:=I.lstM hH;obtain⟨its2,r2,it2,z2⟩:=I.tuple hB;have hl2:=r2.length;have hsz:its.toArray.size+its2.toArray.size<=sizeLine:=by rw[xi,xi];omega
 refine qt F.slot_list_extend ⟨_,e,rfl⟩ F.entry_list_extend (F.args_list_extend_2 _ _) (E3 l its.toArray n b its2.toArray hsz) ⟨e,it2,?_⟩;refine⟨.non,_,I.lset (its':=its++its2) hH e (by simp) (r.append r2) ?_,rfl,q⟩;rw[ud];omega
noncomputable def asT:D->R (List D)
 |.tup xs=>.ok xs
 |_=>.no
noncomputable def EB(i:Nat)(ga:Ev->R D):Ev->O:=λρ=>(ownAt ρ i).out ρ λds=>(ga ρ).out ρ λd=>(asT d).out ρ λes=>if ds.length+es.length<=sizeLine then .nx (ρ.set i (some (.own (ds++es))))else .no
def JE{e:Expr}{ga:Ev->R D}(i:Nat){ap cp:Pos}(he:PF X e ga)(hi:X.N[i]?=some x:=by rfl)(hv:Vis X.env.scope x:=by first|exact Or.inl rfl|exact Or.inr (Or.inl rfl))(hd:(x==("__debug__":Str))=false:=by decide)(hcd:(x==("__classdict__":Str))=false:=by decide)(hs1:starEach [e] X.env=(false,eval e X.env)::starEach [] X.env:=by rfl)(hbase:attributeBase (.Name x p) "extend" X.env (eval (.Name x p) X.env)=eval (.Name x p) X.env:=by rfl)(hfew:((backTo cp (starEach [e] X.env)).all (λx=>!x.1) && (backToKw cp (keywordEach [] X.env)).all (λx=>x.1.isSome)
 && decide ([e].length+([]:List Keyword).length+(if ([]:List Keyword).isEmpty then 0 else 1)<30))=true:=by rfl)(hline:(ap.endLine==cp.line)=true:=by rfl)(hs:swapsWith (.Call (.Attribute (.Name x p) "extend" ap) [e] [] cp) none pos.line X.env=pure false:=by rfl):
  PSF X (.Expr (.Call (.Attribute (.Name x p) "extend" ap) [e] [] cp) pos) (EB i ga):=λG₀ H₀ pins s σ H D I h=>by
 refine gH (xv j9 PySem.F.slot_list_extend PySem.F.type_list_extend GG (cK hi hv hd hcd) (bE he eJ hs1) hbase hfew hline hs1 rfl) hs pins s σ H D I ?_;obtain⟨G,ρ,sr,h⟩:=h;have h:hU X G₀ H₀ D ((ownAt ρ i).out ρ λds=>(ga ρ).out ρ λd=>(asT d).out ρ λes=>if ds.length+es.length<=sizeLine then .nx (ρ.set i (some (.own (ds++es))))else .no):=h;obtain⟨ds,e1,h⟩:=ownAt.ok h;obtain⟨l,vs,h1,h2,h3,h4,h5⟩:=sr.own i ds e1;refine⟨.ref l,h1,.inl ⟨rfl,vs,.of h2⟩,G,ρ,sr.e,?_⟩;cases q:ga ρ with
 |ok d=>
  rw[q]at h;simp only[R.out]at h;intro v G' H' u r;cases r with
  |tup hb t=>
   rename_i b ws es;have h:hU X G₀ H₀ D (if ds.length+es.length<=sizeLine then .nx (ρ.set i (some (.own (ds++es))))else .no):=h;by_cases hz:ds.length+es.length<=sizeLine;·rw[if_pos hz]at h;refine⟨l,b,vs,ws,rfl,rfl,u.hh _ _ h2,hb.mono u.sub,by rw[h5.length,t.length];exact hz,h _ G' _ ?_⟩;exact(sr.ups u).mut e1 h1 ((h5.mono u.gg).append t)
   ·rw[if_neg hz]at h;exact h.elim
  |_=>exact h.elim
 |ex C=>rw[q]at h;exact Exx.of sr h
 |no=>rw[q]at h;exact h
section
variable{prog:Program}{w:World}{A:Around}{a₀:Array Keyed}{κ:KeyKind}{kd:SortKind}{st:SortSt}{π:Nat->Nat}{n:Nat}
structure SB(kd:SortKind)(a₀:Array Keyed)(st:SortSt):Prop where
 perm:(arrOf st).Perm a₀
 kind:kindOf st=kd
 failed:failedOf st=none
 pend:pendingOf st = #[]
noncomputable def Bef(κ:KeyKind)(a₀:Array Keyed)(i j:Nat):Prop:=κ.blt (KK κ a₀ j) (KK κ a₀ i)=false/\(i<j\/κ.blt (KK κ a₀ i) (KK κ a₀ j)=true)
structure Pr(kd:SortKind)(a₀:Array Keyed)(st:SortSt)(π:Nat->Nat)(k:Nat):Prop where
 b:SB kd a₀ st
 g:∀i,(arrOf st)[i]?=a₀[π i]?
 hi:∀i,k<=i->π i=i
 lo:∀i,i<k->π i<k
structure Ds(κ:KeyKind)(kd:SortKind)(a₀:Array Keyed)(st:SortSt)(π:Nat->Nat)(p n:Nat):Prop where
 b:SB kd a₀ st
 g:∀i,(arrOf st)[i]?=a₀[π i]?
 pn:p<=n
 hi:∀i,p<=i->π i=i
 lo:∀i,i<p->π i<p
 r:∀i j,i<j->j<p->Bef κ a₀ (π j) (π i)
 t:∀i j,p<=i->i<n->p<=j->j<n->KK κ a₀ i=KK κ a₀ j
 u:∀i j,i<p->p<=j->j<n->κ.blt (KK κ a₀ j) (KK κ a₀ (π i))=true
noncomputable def Hi(π:Nat->Nat)(p n i:Nat):Nat:=if p<=i/\i<n then p+n - 1 - i else π i
structure Rv(κ:KeyKind)(kd:SortKind)(a₀:Array Keyed)(st:SortSt)(π:Nat->Nat)(n:Nat):Prop where
 b:SB kd a₀ st
 g:∀i,(arrOf st)[i]?=a₀[π i]?
 hi:∀i,n<=i->π i=i
 lo:∀i,i<n->π i<n
 r:∀i j,i<j->j<n->Bef κ a₀ (π j) (π i)
end
section
variable{elt:Expr}{ifs:List Expr}{px:Pos}{gt:Ev->R Bool}
structure CompOkD(X:Cx)(scope:Scope)(x:Str)(N':List Str)(ix:List Nat):Prop where
 kind:scope.kind=.function
 names:∀y∈scope.names,y.2=.local->scope.names.lookup y.1=some .local
 cells:∀L cs,cellsFrom L scope.names cs=(x,L)::cs
 lkx:(relabel scope X.env).names.lookup x=some .cell
 cel:∀y∈scope.names,y.2=.cell->y.1=x
 fr:∀y∈scope.names,y.2=.free->X.env.kindOf y.1=some .cell
 nd:N'.Nodup
 hd:N'[0]?=some x
 tl:N'.drop 1=ix.map λ(i:Nat)=>X.N.getD i Str.empty
 lt:∀i∈ix,i<X.N.length
 fre:∀y∈N'.drop 1,scope.names.lookup y=some .free/\(y,NameKind.free)∈scope.names
 nx:∀y∈N'.drop 1,y≠x
end
noncomputable def spN(K:PySem.W.Frag)(f:List D->R (List D)):Sp:=λvs H Q E=>∃G ds,Same G H/\Reps K G vs ds/\(f ds).post (nY K G H Q) (λC=>∀G' H',Up G H G' H'->E (.ref C) none H')
noncomputable abbrev FnN(P:Program)(w:World)(K:PySem.W.Frag)(mg:Str->Option Value)(base:Heap)(k:Nat)(f:Addr)(fd:FuncData)(ps:List Str)(g:List D->R (List D)):Prop:=FnOk P w K mg base (CXo P w) k f fd ps (λvs H Q E=>vs.length=ps.length/\spN K g vs H Q E)
structure CalleeN(P:Program)(w:World)(K:PySem.W.Frag)(mg:Str->Option Value)(base:Heap)(x:Str)(k n:Nat)(g:List D->R (List D)):Prop where
 ex:∃f fd ps,FnN P w K mg base k f fd ps g/\mg x=some (.ref f)/\PySem.W.keepIn K (.ref f)=true/\Binds K fd ps []/\ps.length=n
def FnN.to{w:World}{K:PySem.W.Frag}{mg:Str->Option Value}{base:Heap}{g g':List D->R (List D)}(F:FnN P w K mg base k f fd ps g)(h:∀ds,ds.length=ps.length->g' ds=.no\/g ds=g' ds):FnN P w K mg base k f fd ps g':=by
 refine F.imp λvs H Q E ⟨hl,G,ds,sub,r,q⟩=>⟨hl,G,ds,sub,r,?_⟩
 rcases h ds (by rw[<- r.length];exact hl)with z|z;·rw[z]at q;exact q.elim
 ·rw[z];exact q
def Fun.calleeN{w:World}{K:PySem.W.Frag}{mg:Str->Option Value}{base:Heap}{g:List D->R (List D)}(F:Fun K x x st f fd)(hm:mg x=some (.ref f))(ok:FnN P w K mg base k f fd ps g)(h:∀(kV doc pm:Value)(an:Option Addr)(cdv ct:Value)(us:List Value),us.length=ps.length->bindArgs (PySem.W.fnOf x x (dh st) (aJ st) (af st) .none kV doc pm an cdv ct) ⟨us,[]⟩=pure (ps.zip us)):CalleeN P w K mg base x k ps.length g:=
 ⟨f,fd,ps,ok,hm,F.kp,F.binds h,rfl⟩
def CalleeN.mono{w:World}{K:PySem.W.Frag}{mg:Str->Option Value}{base:Heap}{n:Nat}{g:List D->R (List D)}(c:CalleeN P w K mg base x k n g)(k':Nat)(h:k<=k':=by decide):CalleeN P w K mg base x k' n g:=by obtain⟨f,fd,ps,F,hm,hk,hb,e⟩:=c.ex;exact⟨f,fd,ps,{ F with run:=λA outer s H args us vs Q E hr=>F.run A outer s H args us vs Q E (hr.mono h) },hm,hk,hb,e⟩
noncomputable def fW(n:Nat)(g:List D->R (List D))(gl:Ev->R (List D)):Ev->R (List D):=λρ=>gl ρ>>=λds=>if ds.length=n then g ds else .no
def ny{n:Nat}{e:Expr}{g:List D->R (List D)}(c:CalleeN X.prog X.w X.K X.mg X.base x k n g)(hr:Room k X.A)(ha:PFA X (e::es) gl)(hg:Gl X x:=by rfl)(hdb:(x==("__debug__":Str))=false:=by decide)(he:starEach (e::es) X.env=(false,eval e X.env)::starEach es X.env:=by rfl)(hpl:(backTo pos (starEach es X.env)).any (·.1)=false:=by rfl):
  PFL X (.Call (.Name x p) (e::es) [] pos) (fW n g gl):=by
 obtain⟨f,fd,ps,F,hm,hk,hb,rfl⟩:=c.ex;intro pins s σ H Q I h;obtain⟨G,ρ,st,h⟩:=h;have h:(gl ρ>>=λds=>if ds.length=ps.length then g ds else .no).post (nY X.K G H Q) (Exx X σ G H):=h;have t:tAF X gl σ H (λvs H1=>∃G1 ds,Up G H G1 H1/\Same G1 H1/\Reps X.K G1 vs ds/\ds.length=ps.length/\(g ds).post (nY X.K G1 H1 Q) (Exx X σ G1 H1)):=by
  refine⟨G,ρ,st,?_⟩;cases q:gl ρ with
  |ok ds=>
   rw[q]at h;have h:(if ds.length=ps.length then g ds else .no).post (nY X.K G H Q) (Exx X σ G H):=h;intro vs G1 H1 u1 r1;by_cases hl:ds.length=ps.length;·rw[if_pos hl]at h;exact⟨G1,ds,u1,u1.sub,r1,hl,h.mono (λa z l vs G' H' u=>z l vs G' H' (u1.trans u)) λC z=>Exx.up u1 z⟩
   ·rw[if_neg hl]at h;exact h.elim
  |ex C=>rw[q]at h;exact h
  |no=>rw[q]at h;exact h
 refine qk (iX I hg hm ?_ hdb);refine l4 (h₀:=X.base) I.ok.mod.kin hk (thn (ha pos pins s σ H _ I t) λus s1 q=>⟨?_,?_⟩) he hpl;·obtain⟨vs,H1,I1,r,_⟩:=q;exact I1.kIn
 obtain⟨vs,H1,I1,r,G1,ds,u1,sub1,rp,hl,h1⟩:=q;have hvl:vs.length=ps.length:=by rw[rp.length];exact hl
 have hul:(us++[]).length=ps.length:=by rw[t7,<- r.length];exact hvl
 have hbb:=hb s1 us I1.kIn hul;rw[t7]at hbb;refine l5 (qE (F.run X.A X.stack s1 H1 ⟨us,[]⟩ us vs Q (λc _ H'=>∃C G',c=.ref C/\Up G1 H1 G' H'/\Exx X σ G1 H1 C) hr I1.env0 hbb r ⟨hvl,G1,ds,sub1,rp,h1.mono (λ_ q=>q) λC q G' H' u=>⟨C,G',rfl,u,q⟩⟩) λr' s' hq=>?_);cases r' with
 |error e'=>obtain⟨a,C,H',rfl,fl,C',G',ec,u,q⟩:=hq;cases ec;exact q _ _ ⟨G1,H1,.refl sub1,pins,s1,a,rfl,I1,.inr (.inl ⟨G',H',fl,u⟩)⟩
 |ok fl=>
  cases fl with
  |ret u=>exact I1.after hq
  |_=>exact False.elim hq
noncomputable def tN(X:Cx)(G₀ H₀:Hp)(g:Ev->R (List D)):TS:=λD σ H=>∃G ρ,StR X.K G₀ H₀ G H σ ρ/\(g ρ).post (nY X.K G₀ H₀ D.rt) (λC=>∀ρ' e s',FlyS X G₀ H₀ ρ' C e s'->X.xe e s')
noncomputable def F0(X:Cx)(st:List Stmt)(g:Ev->R (List D)):Prop:=∀G₀ H₀,PSs X st (tN X G₀ H₀ g)
noncomputable def uX(g1:Ev->O)(g2:Ev->R (List D)):Ev->R (List D):=λρ=>match g1 ρ with
 |.nx ρ'=>g2 ρ'
 |.ex C _=>.ex C
 |_=>.no
noncomputable def KC(i:Nat):Ev->R (List D):=λρ=>ownAt ρ i
noncomputable def K3(i:Nat)(g:Ev->R (List D)):Ev->R (List D):=λρ=>g (frz i ρ)
section
variable{cS:List Stmt}{e:Expr}{g1:Ev->O}{g2:Ev->R (List D)}
def iI(h1:PSF X st g1)(h2:F0 X cS g2):F0 X (st::cS) (uX g1 g2):=λG₀ H₀ pins s σ H D I h=>by
 refine dE (h1 G₀ H₀) (h2 G₀ H₀) pins s σ H D I ?_;obtain⟨G,ρ,sr,h⟩:=h;unfold uX at h;refine⟨G,ρ,sr,?_⟩;cases q:g1 ρ with
 |nx ρ'=>rw[q]at h;exact λσ' G' H' sr'=>⟨G',ρ',sr',h⟩
 |rt d=>rw[q]at h;exact h.elim
 |re d ρ'=>rw[q]at h;exact h.elim
 |bk ρ'=>rw[q]at h;exact h.elim
 |ct ρ'=>rw[q]at h;exact h.elim
 |ex C ρ'=>rw[q]at h;exact λe s' f=>h ρ' e s' f
 |no=>rw[q]at h;exact h.elim
def Hb(he:PFL X e gl):F0 X [.Return (some e) pos] gl:=λG₀ H₀ pins s σ H D I h=>by
 refine qy (mQ he) pins s σ H D I ?_;obtain⟨G,ρ,sr,h⟩:=h;refine⟨G,ρ,sr.e,?_⟩;cases q:gl ρ with
 |ok ds=>rw[q]at h;exact λl vs G' H' u hl r=>h l vs G' H' (sr.up.trans u) hl r
 |ex C=>rw[q]at h;exact λe s' ⟨G1,H1,u,f⟩=>h ρ e s' (.of (sr.ups u) f)
 |no=>rw[q]at h;exact h
def IA(i:Nat)(hi:X.N[i]?=some x:=by rfl)(hv:Vis X.env.scope x:=by first|exact Or.inl rfl|exact Or.inr (Or.inl rfl)|exact Or.inr (Or.inr rfl))(hd:(x==("__debug__":Str))=false:=by decide)(hcd:(x==("__classdict__":Str))=false:=by decide):F0 X [.Return (some (.Name x p)) pos] (KC i):=λG₀ H₀ pins s σ H D I h=>by
 refine qy (mQ (cK hi hv hd hcd)) pins s σ H D I ?_;obtain⟨G,ρ,sr,h⟩:=h;have h:(ownAt ρ i).post (nY X.K G₀ H₀ D.rt) (λC=>∀ρ' e s',FlyS X G₀ H₀ ρ' C e s'->X.xe e s'):=h;cases q:ownAt ρ i with
 |ok ds=>
  rw[q]at h;have e1:ρ[i]?=some (some (.own ds)):=by
   unfold ownAt at q;split at q;·cases q;assumption
   ·cases q
  obtain⟨l,vs,h1,h2,h3,h4,h5⟩:=sr.own i ds e1;refine⟨_,h1,?_⟩;have e:upd (λa=>if a=l then none else H a) l (.lst vs)=H:=by
   funext a
   by_cases z:a=l;·subst z;rw[az,h2]
   ·rw[am z,if_neg z]
  have ne:∀{a o},G a=some o->a≠l:=λ{a o} q z=>by rw[z,h3]at q;cases q
  have ne0:∀{a o},H₀ a=some o->a≠l:=λ{a o} q z=>by rw[z,h4]at q;cases q
  have u:Up G₀ H₀ G (λa=>if a=l then none else H a):=⟨λa o q=>by rw[if_neg (ne q)];exact sr.e.sub a o q,sr.up.gg,λa o q=>by rw[if_neg (ne0 q)];exact sr.up.hh a o q,sr.up.fr⟩
  have:=h l vs G _ u (if_pos rfl) h5;rw[e]at this;exact this
 |ex C=>unfold ownAt at q;split at q <;> cases q
 |no=>rw[q]at h;exact h.elim
end
def Fun.okN{w:World}{K:PySem.W.Frag}{mg:Str->Option Value}{base:Heap}{N:List Str}(F:Fun K x qual st f fd)(S:FnScope N ps (af st)){g:Ev->R (List D)}(hbody:∀(cdv:Value)(A:Around)(outer:List Env)(s:Shared)(H:Hp)(E:XK),Room k (A.deeper (envOfC qual (af st) s.heap.objs.size f cdv))->F0 (fc (CXo P w) P w K mg base N qual (af st) f cdv A outer s H E) (aJ st) g):
  FnN P w K mg base (k+1) f fd ps (λds=>g (ai N.length ds)):=by
 obtain⟨oc,od,kV,doc,pm,an,cdv,ct,osl,rfl,lk,hcd⟩:=F.ex;refine A5 lk hcd S (λvs H Q E h=>h.1) λA outer s H vs Q E hr hsp=>?_;obtain⟨hl,G,ds,sub,r,h⟩:=hsp;refine⟨_,hbody cdv A outer s H E hr G H,G,ai N.length ds,lS sub r,?_⟩;exact h.mono (λ_ q=>q) λC q ρ' e s' fl=>jE fl q
noncomputable def FM(P:Program)(w:World)(K:PySem.W.Frag)(mg:Str->Option Value)(base:Heap)(k:Nat)(s1:Shared)(G1 H1:Hp)(f:Addr)(m:R (List D)):Prop:=
 ∀(Y:Cx)(pins:List (Addr×Obj))(σY:St)(G2 H2:Hp)(s2:Shared)(fs:List Addr)(Q:VK),Y.prog=P->Y.w=w->Y.K=K->Y.mg=mg->Y.base=base->Inv Y pins σY H2 s2->Room k Y.A->Un fs [] H1 H2 s1.heap s2.heap->Up G1 H1 G2 H2->
  m.post (nY Y.K G2 H2 Q) (Exx Y σY G2 H2)->(∃o fd,s2.heap.get? f=some o/\o.data=.func fd)/\wpAny (model Y.prog Y.w) Y.A (call (.ref f) []) (EP Y pins σY Q) Y.xe s2
def Ak{w:World}{K:PySem.W.Frag}{mg:Str->Option Value}{base:Heap}{s1:Shared}{G1:Hp}{N:List Str}{body:Expr}{cl:List (Str×Addr)}{ctv:Value}{gb:Ev->R (List D)}(hfn:H1 f=none)(hf:s1.heap.get? f=some o)(hfd:o.data=.func (PySem.W.kla_fn "<lambda>" qual params body scope cl pm cd ctv))(hcd:∃c o vs t u,cd=.ref c/\H1 c=some (.frz o u)/\o.data=.fields vs/\vs[1]?=some (.str qual t))(hp:bindArgs (PySem.W.kla_fn "<lambda>" qual params body scope cl pm cd ctv) ⟨[],[]⟩=pure [])(hco:scope.isCoroutine=false)(hge:scope.isGenerator=false)(C:ClOk N scope cl σ H1 s1.heap)(st:StE K G1 H1 σ ρ)(hno:NoOwn ρ)(hb:∀(A:Around)(outer:List Env)(s:Shared)(H:Hp)(E:XK),Room k (A.deeper (PySem.W.envX qual scope s.heap.objs.size f cd cl))->PFL (vn P w K mg base N qual scope cl f cd A outer s H E) body gb):
  FM P w K mg base (k+1) s1 G1 H1 f (gb ρ):=by
 rintro Y pins σY G2 H2 s2 fs Q rfl rfl rfl rfl rfl J hr un up h;obtain⟨sl,hf2⟩:=un.any hf hfn (by simp);refine⟨⟨_,_,hf2,hfd⟩,?_⟩;have code:s2.heap.CodeRec cd qual:=by obtain⟨c,oc,vs,t,u,rfl,e,d,q⟩:=hcd;obtain⟨e2,_⟩:=J.hok c _ (up.hh _ _ e);exact⟨c,oc,vs,t,rfl,e2,d,q⟩
 have st2:StE Y.K G2 H2 σ ρ:=st.up up;refine u9 (CT (E:=λc _ H'=>∃C G',c=.ref C/\Up G2 H2 G' H'/\Exx Y σY G2 H2 C) J hr hf2 hfd code hp hco hge (C.un un) (hb Y.A Y.stack s2 H2 _ (hr.deeper _)) ⟨G2,ρ,st2,h.mono (λ_ q=>q) λCx q e s' fl=>?_⟩) (λ_ _ q=>q) λe s' hq=>?_;·obtain⟨Ga,Ha,u,fr⟩:=fl;exact Al rfl rfl (.of ((st2.r hno).ups u) fr) λG' H' u'=>⟨Cx,G',rfl,u',q⟩
 ·obtain⟨a,C,H',rfl,fl,C',G',ec,u,q⟩:=hq;cases ec;exact q _ _ ⟨G2,H2,.refl up.sub,pins,s2,a,rfl,J,.inr (.inl ⟨G',H',fl,u⟩)⟩
noncomputable def zD(m:R (List D)):R D:=match m with
 |.ok ds=>if ds.length<sizeLine then ofO (eqF (.lst false ds) (.lst false ds))else .no
 |_=>.no
structure Stays(P:Program)(w:World)(K:PySem.W.Frag)(mg:Str->Option Value)(base:Heap)(x:Str)(k j:Nat):Prop where
 ex:∃ft,mg x=some (.ref ft)/\PySem.W.keepIn K (.ref ft)=true/\∀(A:Around)(outer:List Env)(s1:Shared)(G1 H1:Hp)(f:Addr)(m:R (List D))(Q:VK)(E:XK),Room k A->Env0 P w K mg base A outer s1 H1->Same G1 H1->FM P w K mg base j s1 G1 H1 f m->
  (zD m).post (Fin G1 H1 (Rep K) Q) (λC=>∀G' H',Up G1 H1 G' H'->E (.ref C) none H')->codeAny (model P w) A (.call (.ref ft) ⟨[.ref f],[]⟩) (CR (CXo P w) outer P w H1 s1 Q E) s1
def Up.out{G':Hp}{l:Addr}{o:HO}(u:Up G H G' H')(g:G' l=none)(h:H l=none):Up G H G' (upd H' l o):=
 ⟨λa u' e=>by rw[am (aC e g)];exact u.sub a u' e,u.gg,λa u' e=>by rw[am (aC e h)];exact u.hh a u' e,u.fr⟩
section
variable{w:World}{K:PySem.W.Frag}{mg:Str->Option Value}{base:Heap}{ft:Addr}{t z:Str}{p1 p2 p3 p4 p5 p6 p7 p8 p9 p10 p11 p12 p13 p14 p15 p16 p17 p18 p19 p20 p21 p22 p23 p24 p25 p26 p27:Pos}{q1:Str}
def Dg(F:Fun K x x st ft fd)(hm:mg x=some (.ref ft))(S:FnScope [y,t,z] [y] (af st))(hbd:aJ st=[.Assign [.Name t p1] (.Call (.Name y p2) [] [] p3) p4,.If (.UnaryOp .Not (.Call (.Name "isinstance" p5) [.Name t p6,.Name "list" p7] [] p8) p9) [.Return (some (.Constant (.bool false) 0 p10)) p11] [] p12,
 .Assign [.Name z p13] (.Call (.Name "list" p14) [.Name t p15] [] p16) p17,.Expr (.Call (.Attribute (.Name t p18) "append" p19) [.Constant (.str q1) 0 p20] [] p21) p22,.Return (some (.Compare (.Call (.Name y p23) [] [] p24) [.Eq] [.Name z p25] p26)) p27])(hbind:∀(kV doc pm:Value)(an:Option Addr)(cdv ct:Value)(u:Value),bindArgs (PySem.W.fnOf x x (dh st) (aJ st) (af st) .none kV doc pm an cdv ct) ⟨[u],[]⟩=pure [(y,u)])(hy:(af st).names.lookup y=some .local)(ht:(af st).names.lookup t=some .local)(hz:(af st).names.lookup z=some .local)(hgi:(af st).names.lookup ("isinstance":Str)=some .globalImplicit)(hgl:(af st).names.lookup ("list":Str)=some .globalImplicit)(mi:mg "isinstance"=none)(ml:mg "list"=none)(hline:(p19.endLine==p21.line)=true)(hdy:(y==("__debug__":Str))=false:=by decide)(hcy:(y==("__classdict__":Str))=false:=by decide)(hdt:(t==("__debug__":Str))=false:=by decide)(hct:(t==("__classdict__":Str))=false:=by decide)(hdz:(z==("__debug__":Str))=false:=by decide)(hcz:(z==("__classdict__":Str))=false:=by decide):
  Stays P w K mg base x (k+1) k:=by
 obtain⟨oc,od,kV,doc,pm,an,cdv,ct,osl,rfl,lk,hcd⟩:=F.ex;refine⟨ft,hm,F.kp,λA outer s1 G1 H1 f m Q E hr e0 sub dd h=>?_⟩;have hr':=hr.deeper (envOfC x (af st) s1.heap.objs.size ft cdv);cases em:m with
 |ex C=>rw[em]at h;exact h.elim
 |no=>rw[em]at h;exact h.elim
 |ok ds=>
 rw[em]at h dd;have h:(if ds.length<sizeLine then ofO (eqF (.lst false ds) (.lst false ds))else R.no).post (Fin G1 H1 (Rep K) Q) (λC=>∀G' H',Up G1 H1 G' H'->E (.ref C) none H'):=h;by_cases hlen:ds.length<sizeLine
 case neg=>rw[if_neg hlen]at h;exact h.elim
 rw[if_pos hlen]at h;obtain⟨d,ed,h⟩:=ofO.ok h;unfold eqF at ed;cases ek:eqD 40 (.lst false ds) (.lst false ds)with
 |none=>rw[ek]at ed;cases ed
 |some kk=>
 rw[ek]at ed;cases ed;have nd:[y,t,z].Nodup:=S.nd;let X:Cx:=fc (CXo P w) P w K mg base [y,t,z] x (af st) ft cdv A outer s1 H1 E;have deed:∀{a b:Pos},PE X (.Call (.Name y a) [] [] b) (λσ H Q=>σ[0]?=some (some (.ref f))/\∃G,Up G1 H1 G H/\nY K G H Q ds):=by intro a b pins s σ H Q I ⟨h0,G,up,hm⟩;have v:PE X (.Name y a) (Bt 0):=cK rfl (.inl hy) hdy hcy;refine qk (thn (v pins s σ H (λu H'=>u=.ref f/\H'=H) I ⟨_,h0,rfl,rfl⟩) λu s' ⟨v',H',I',rv,ev,eh⟩=>?_);subst ev eh;obtain rfl:u=Value.ref f:=rv;obtain⟨ob,run⟩:=dd _ pins σ G H' s' _ Q rfl rfl rfl rfl rfl I' hr' I'.base up hm;exact PySem.W.callWith_of rfl (P:=λh=>∃o fd,h.get? f=some o/\o.data=.func fd) (λh ⟨o,fd,e,d⟩=>⟨.frame,.inl rfl,Cg e d⟩) (PyProof.Rows.evalArgs_nil3 ⟨ob,run⟩)
 let rtk:Ends->Prop:=λD=>∀G' H',Up G1 H1 G' H'->D.rt (.bl kk) H';let U4:TS:=λD σ H=>∃l kl G,σ=[some (.ref f),some (.ref l),some (.ref kl)]/\Up G1 H1 G H/\Rep K G (.ref kl) (.lst false ds)/\rtk D;let U3:TS:=λD σ H=>∃l vs kl G,σ=[some (.ref f),some (.ref l),some (.ref kl)]/\Up G1 H1 G H/\H l=some (.lst vs)/\G l=none/\H1 l=none/\vs.length<sizeLine/\Rep K G (.ref kl) (.lst false ds)/\rtk D;let U1:TS:=λD σ H=>∃l vs G,σ=[some (.ref f),some (.ref l),none]/\Up G1 H1 G H/\H l=some (.lst vs)/\G l=none/\H1 l=none/\Reps K G vs ds/\rtk D;let U0:TS:=λD σ H=>σ=[some (.ref f),none,none]/\H=H1/\rtk D;have v1:∀{a:Pos},PE X (.Name t a) (Bt 1):=λ{a}=>cK rfl (.inl ht) hdt hct;have v2:∀{a:Pos},PE X (.Name z a) (Bt 2):=λ{a}=>cK rfl (.inl hz) hdz hcz;have s5:PSs X [.Return (some (.Compare (.Call (.Name y p23) [] [] p24) [.Eq] [.Name z p25] p26)) p27] U4:=by rintro pins s σ H D I ⟨l,kl,G,rfl,up,rk,hD⟩;refine qy (mQ (Aj (zH hr'.units) deed v2 (jF _))) pins s _ H D I ⟨rfl,G,up,λl2 vs2 G' H' u hl r=>?_⟩;refine⟨_,rfl,upd G' l2 (.lst vs2),_,_,kk,u.sub.both,.lst az (r.mono (.into (u.sub.free hl))),(rk.mono u.gg).mono (.into (u.sub.free hl)),ek,?_⟩;exact hD _ _ ((up.trans u).trans (.new u.sub hl))
 have s4:PSs X [.Expr (.Call (.Attribute (.Name t p18) "append" p19) [.Constant (.str q1) 0 p20] [] p21) p22,.Return (some (.Compare (.Call (.Name y p23) [] [] p24) [.Eq] [.Name z p25] p26)) p27] U3:=by rintro pins s σ H D I ⟨l,vs,kl,G,rfl,up,h1,h2,h3,h4,rk,hD⟩;refine dE (gH (xv j9 Zg Zh jy v1 (bE Ed eJ rfl) rfl rfl hline rfl rfl) rfl) s5 pins s _ H D I ?_;refine⟨.ref l,rfl,.inl ⟨rfl,vs,.of h1⟩,⟨l,vs,_,rfl,rfl,h1,h4,?_⟩⟩;exact⟨l,kl,G,rfl,up.out h2 h3,rk,hD⟩
 have s3:PSs X [.Assign [.Name z p13] (.Call (.Name "list" p14) [.Name t p15] [] p16) p17,.Expr (.Call (.Attribute (.Name t p18) "append" p19) [.Constant (.str q1) 0 p20] [] p21) p22,.Return (some (.Compare (.Call (.Name y p23) [] [] p24) [.Eq] [.Name z p25] p26)) p27] U1:=by
  rintro pins s σ H D I ⟨l,vs,G,rfl,up,h1,h2,h3,r,hD⟩;refine dE (hW (jQ (X:=X) kP hgl ml PyProof.Rows.Boot.«list» (bE v1 eJ rfl) (by decide) (by decide) rfl rfl) (dP (i:=2) nd rfl (.inl hz) (.inl rfl)) rfl rfl rfl) s4 pins s _ H D I ?_;refine⟨.ref l,rfl,l,vs,rfl,.inl (.of h1),λl' hl'=>?_⟩;have ne:l≠l':=λe=>by rw[<- e,h1]at hl';cases hl'
  exact⟨l,vs,l',upd G l' (.lst vs),rfl,up.trans (.new up.sub hl'),by rw[am ne];exact h1,by rw[am ne];exact h2,h3,by rw[r.length];exact hlen,.lst az (r.mono (.into (up.sub.free hl'))),hD⟩
 have s2:PSs X [.If (.UnaryOp .Not (.Call (.Name "isinstance" p5) [.Name t p6,.Name "list" p7] [] p8) p9) [.Return (some (.Constant (.bool false) 0 p10)) p11] [] p12,
   .Assign [.Name z p13] (.Call (.Name "list" p14) [.Name t p15] [] p16) p17,.Expr (.Call (.Attribute (.Name t p18) "append" p19) [.Constant (.str q1) 0 p20] [] p21) p22,.Return (some (.Compare (.Call (.Name y p23) [] [] p24) [.Eq] [.Name z p25] p26)) p27] U1:=by
  rintro pins s σ H D I ⟨l,vs,G,rfl,up,h1,h2,h3,r,hD⟩;have pb:PB X (.UnaryOp .Not (.Call (.Name "isinstance" p5) [.Name t p6,.Name "list" p7] [] p8) p9) (gBn (aq ie (aq (gZ (·=="list")) λρ=>rdV ρ 1))):=cX (dj (pP mi (wb 1 rfl (.inl ht) hdt hct) ml hgl hgi rfl));refine dE (Gg pb (qy (mQ Hv)) zM) s3 pins s _ H D I ?_;have sb:Same (upd G l (.lst vs)) H:=λa o e=>by
   by_cases q:a=l;·subst q;rw[az]at e;rw[h1];exact e
   ·rw[am q]at e;exact up.sub a o e
  refine⟨upd G l (.lst vs),[none,some (.val (.lst false ds)),none],⟨sb,rfl,λi d e=>?_,λi m C p fs e=>?_⟩,λb G' H' u eb=>?_⟩
  ·match i,e with
   | 0,e=>cases e
   | 1,e=>cases e;exact⟨.ref l,rfl,.lst az (r.mono (.into h2))⟩
   | 2,e=>cases e
  ·match i,e with
   | 0,e=>cases e
   | 1,e=>cases e
   | 2,e=>cases e
  ·subst eb;exact⟨l,vs,G,rfl,⟨up.sub.trans u.hh,up.gg,up.hh.trans u.hh,up.fr⟩,u.hh _ _ h1,h2,h3,r,hD⟩
 have s1':PSs X (aJ st) U0:=by rw[hbd];rintro pins s σ H D I ⟨rfl,rfl,hD⟩;refine dE (hW deed (dP (i:=1) nd rfl (.inl ht) (.inl rfl)) rfl rfl rfl) s2 pins s _ H D I ?_;refine⟨rfl,G1,.refl sub,λl vs G' H' u hl r=>?_⟩;exact⟨l,vs,G',rfl,u.out (u.sub.free hl) (u.hh.free hl),az,u.sub.free hl,u.hh.free hl,r,hD⟩
 exact Me (us:=[.ref f]) (vs:=[.ref f]) lk hcd S rfl hr e0 (.of_eq (hbind ..)) (.cons rfl .nil) (t:=U0) s1' ⟨rfl,rfl,λG' H' u=>h _ G' H' u (.bl kk)⟩
end
section
variable{body:Expr}{lp:Pos}{gb:Ev->R (List D)}
noncomputable def gh(ix:List Nat)(gb:Ev->R (List D)):Ev->R D:=λρ=>zD (gb (cY 0 ix ρ))
def qA(T:Stays X.prog X.w X.K X.mg X.base x k (j+1))(hr:Room k X.A)(L:LamAt X)(ok:LamOk X scope N' ix)(hb:∀(cl:List (Str×Addr))(f:Addr)(cd:Value)(A:Around)(outer:List Env)(s:Shared)(H:Hp)(E:XK),Room j (A.deeper (PySem.W.envX (X.env.qual++"<lambda>") scope s.heap.objs.size f cd cl))->PFL (vn X.prog X.w X.K X.mg X.base N' (X.env.qual++"<lambda>") scope cl f cd A outer s H E) body gb)(hp:∀cl pm cd ctv,bindArgs (PySem.W.kla_fn "<lambda>" (X.env.qual++"<lambda>") params body scope cl pm cd ctv) ⟨[],[]⟩=pure []:=by intros;rfl)(hdef:defaultsOf params X.env=([],[]):=by rfl)(hg:Gl X x:=by rfl)(hdb:(x==("__debug__":Str))=false:=by decide)(he:starEach [.Lambda params body scope lp] X.env=(false,eval (.Lambda params body scope lp) X.env)::starEach [] X.env:=by rfl):
  PF X (.Call (.Name x p) [.Lambda params body scope lp] [] pos) (gh ix gb):=by
 obtain⟨ft,hm,hk,run⟩:=T.ex;obtain⟨c,P,q,hc,hcd,hT,rfl,hbm,hgP⟩:=L.ex;intro pins s σ H Q I h;obtain⟨G,ρ,st,h⟩:=h;refine qk (iX I hg hm ?_ hdb);refine l4 (h₀:=X.base) I.ok.mod.kin hk ?_ he rfl;rw[he];show wpAny _ _ (spliced ((false,eval (.Lambda params body scope lp) X.env)::backTo pos (starEach [] X.env))) _ _ s;obtain⟨more,hTH⟩:=I.ok.tabs.un I.base P _ hT;refine Calls.spliced_cons (B6 I hdef hc (hcd _ I.kIn) hTH ?_ (hbm.keeps I.bk) ok.fr hgP λf cd ctv pm H1 s1 L=>Calls.spliced_nil ⟨L.inv.kIn,?_⟩);·unfold AU;rw[Zq];rfl
 have sub:Same G H1:=st.sub.trans L.hh;have up:Up G H G H1:=⟨sub,.refl _,L.hh,λa o h=>.inl h⟩
 have st1:=qd (st.up up) 0 ix;have dd:FM X.prog X.w X.K X.mg X.base (j+1) s1 G H1 f (gb (cY 0 ix ρ)):=
  Ak L.free L.fn rfl L.codeH (hp _ _ _ _) ok.co ok.gen (EY ok L.inv) st1 jW λA outer s H E hr=>hb _ f cd A outer s H E hr;have h1:(zD (gb (cY 0 ix ρ))).post (Fin G H1 (Rep X.K) Q) (Exx X σ G H1):=mG up h;refine l5 (qE (run X.A X.stack s1 G H1 f _ Q (λc _ H'=>∃C G',c=.ref C/\Up G H1 G' H'/\Exx X σ G H1 C) hr L.inv.env0 sub dd (h1.mono (λ_ q=>q) λC q G' H' u=>⟨C,G',rfl,u,q⟩)) λr' s' hq=>?_);cases r' with
 |error e'=>obtain⟨a,C,H',rfl,fl,C',G',ec,u,q⟩:=hq;cases ec;exact q _ _ ⟨G,H1,.refl sub,pins,s1,a,rfl,L.inv,.inr (.inl ⟨G',H',fl,u⟩)⟩
 |ok fl=>
  cases fl with
  |ret u=>exact L.inv.after hq
  |_=>exact False.elim hq
end
section
variable{e e' a b c:Expr}{gl' gl3:Ev->R (List D)}
def GR(j i:Nat)(hN:X.N.Nodup)(he:PFL X e gl)(hi:X.N[i]?=some x:=by rfl)(hx:Loc X.env.scope x:=by first|exact Or.inl rfl|exact Or.inr rfl)(hs:swapsWithSole [.Name x p] e pos.line X.env=pure false:=by rfl)(hw:swappedStores [.Name x p] e X.env=pure none:=by rfl)(hf:X.fn x=true\/X.env.scope.names.lookup x=some .local:=by first|exact .inl rfl|exact .inr rfl):
  PSF X (.Assign [.Name x p] e pos) (Cf j i gl):=λG₀ H₀ pins s σ H D I h=>by
 refine hW he (dP (i:=i) hN hi hx hf) hs hw rfl pins s σ H D I ?_;obtain⟨G,ρ,sr,h⟩:=h;have h:hU X G₀ H₀ D ((de (gl (frz j ρ))).out ρ λds=>if ds.all (fl 10)=true then .nx (ρ.set i (some (.own ds)))else .no):=h;obtain⟨G1,st1,pk⟩:=sr.peek j;refine⟨G1,_,st1,?_⟩;cases q:gl (frz j ρ)with
 |ok ds=>
  rw[q]at h;intro l vs G' H' u hl r;obtain⟨G2,u2,tr⟩:=pk G' H' u;have h:hU X G₀ H₀ D (if ds.all (fl 10)=true then .nx (ρ.set i (some (.own ds)))else .no):=h;by_cases hfl:ds.all (fl 10)=true;·rw[if_pos hfl]at h;exact h _ G2 _ ((sr.ups u2).setOwn hl (nq (λv d=>nR tr 10 v d) hfl r) i)
  ·rw[if_neg hfl]at h;exact h.elim
 |_=>rw[q]at h;exact h.elim
noncomputable def Ah(i j m:Nat)(gl gl' gl3:Ev->R (List D)):Ev->O:=λρ=>(de (gl ρ)).out ρ λd=>(de (gl' ρ)).out ρ λds=>(de (gl3 ρ)).out ρ λes=>.nx (((ρ.set i (some (.own d))).set j (some (.own ds))).set m (some (.own es)))
def Up.new'{l:Addr}{o:HO}(sub:Same G H)(hl:H l=none):Up G H G (upd H l o):=(Up.refl sub).out (sub.free hl) hl
def Fr(i j m:Nat){z u:Str}{py pz pu pt pt2:Pos}{k2:Nat}(hc:X.calm=true)(hN:X.N.Nodup)(ha:PFL X a gl)(hb:PFL X b gl')(h3:PFL X c gl3)(hi:X.N[i]?=some y:=by rfl)(hj:X.N[j]?=some z:=by rfl)(hm:X.N[m]?=some u:=by rfl)(hx:Loc X.env.scope y:=by first|exact Or.inl rfl|exact Or.inr rfl)(hf:X.fn y=true\/X.env.scope.names.lookup y=some .local:=by first|exact .inl rfl|exact .inr rfl)(hy:Loc X.env.scope z:=by first|exact Or.inl rfl|exact Or.inr rfl)(hfz:X.fn z=true\/X.env.scope.names.lookup z=some .local:=by first|exact .inl rfl|exact .inr rfl)(hu:Loc X.env.scope u:=by first|exact Or.inl rfl|exact Or.inr rfl)(hfu:X.fn u=true\/X.env.scope.names.lookup u=some .local:=by first|exact .inl rfl|exact .inr rfl)(hse:starEach [a,b,c] X.env=(false,eval a X.env)::starEach [b,c] X.env:=by rfl)(hse2:starEach [b,c] X.env=(false,eval b X.env)::starEach [c] X.env:=by rfl)(hse3:starEach [c] X.env=(false,eval c X.env)::starEach [] X.env:=by rfl)(has:(assignEach [.Name y py,.Name z pz,.Name u pu] X.env).map (·.2)=assign (.Name y py) X.env::(assignEach [.Name z pz,.Name u pu] X.env).map (·.2):=by rfl)(has2:(assignEach [.Name z pz,.Name u pu] X.env).map (·.2)=assign (.Name z pz) X.env::(assignEach [.Name u pu] X.env).map (·.2):=by rfl)(has3:(assignEach [.Name u pu] X.env).map (·.2)=assign (.Name u pu) X.env::(assignEach [] X.env).map (·.2):=by rfl)(hn:(assignEach [.Name y py,.Name z pz,.Name u pu] X.env).length=3:=by rfl)(hst:(assignEach [.Name y py,.Name z pz,.Name u pu] X.env).findIdx? (·.1)=none:=by rfl)(hw:swappedStores [.Tuple [.Name y py,.Name z pz,.Name u pu] kt pt] (.Tuple [a,b,c] k2 pt2) X.env=pure none:=by rfl)(h1:(assignEach [.Tuple [.Name y py,.Name z pz,.Name u pu] kt pt] X.env).map (·.2)=[assign (.Tuple [.Name y py,.Name z pz,.Name u pu] kt pt) X.env]:=by rfl)(hs:swapsWithSole [.Tuple [.Name y py,.Name z pz,.Name u pu] kt pt] (.Tuple [a,b,c] k2 pt2) pos.line X.env=pure false:=by rfl):
  PSF X (.Assign [.Tuple [.Name y py,.Name z pz,.Name u pu] kt pt] (.Tuple [a,b,c] k2 pt2) pos) (Ah i j m gl gl' gl3):=λG₀ H₀ pins s σ H D I ⟨G,ρ,sr,h⟩=>by
 refine hW (AI (bE ha (bE hb (bE h3 eJ hse3) hse2) hse)) (DW hc (lO (dP (i:=i) hN hi hx hf) (lO (dP (i:=j) hN hj hy hfz) (lO (dP (i:=m) hN hm hu hfu) Be has3) has2) has) hn hst) hs hw h1 pins s σ H D I ⟨G,ρ,sr.e,?_⟩;have h:hU X G₀ H₀ D ((de (gl ρ)).out ρ λd=>(de (gl' ρ)).out ρ λds=>(de (gl3 ρ)).out ρ λes=>.nx (((ρ.set i (some (.own d))).set j (some (.own ds))).set m (some (.own es)))):=h;cases q:gl ρ with
 |ok d=>
  rw[q]at h;intro l vs G1 H1 u1 hl r1;refine⟨G1,ρ,((sr.ups u1).ups (.new' u1.sub hl)).e,?_⟩;cases q':gl' ρ with
  |ok ds=>
   simp only[R.out,de,q']at h;intro l2 vs2 G2 H2 u2 hl2 r2;refine⟨G2,ρ,((((sr.ups u1).ups (.new' u1.sub hl)).ups u2).ups (.new' u2.sub hl2)).e,?_⟩;cases q'':gl3 ρ with
   |ok es=>simp only[R.out,de,q'']at h;intro l3 vs3 G3 H3 u3 hl3 r3;refine⟨by show 3<=sizeLine;decide,λp hp=>?_⟩;have sq:SqT X.K (upd (upd H3 l3 (.lst vs3)) p (.tup [.ref l,.ref l2,.ref l3])) p [.ref l,.ref l2,.ref l3]:=.inl (.inl az);refine⟨p,_,rfl,sq,rfl,_,_,rfl,_,_,rfl,_,[],rfl,rfl,?_⟩;have s3:=((((sr.ups u1).setOwn hl r1 i).ups u2).setOwn hl2 r2 j).ups u3 |>.setOwn hl3 r3 m;exact h _ G3 _ (s3.ups (.new' s3.e.sub hp))
   |_=>simp only[R.out,de,q'']at h;exact h.elim
  |_=>simp only[R.out,de,q']at h;exact h.elim
 |_=>rw[q]at h;exact h.elim
end
section
variable{e e':Expr}{gl':Ev->R (List D)}{cS:List Stmt}{α:Type}{g2:α->Ev->O}{cn:Str}{n:Nat}
noncomputable def Ax(r:Nat)(C:Addr)(i j:Nat)(F:MF)(n:Nat)(gb gl:Ev->R (List D))(g2:α->Ev->O):Addr×α->Ev->O:=λq ρ=>(de (gb (frz r ρ))).out ρ λds=>if ds.all (fl 10)=true then (de (gl ρ>>=Bn F n)).out ρ λfs=>g2 q.2 ((ρ.set i (some (.own ds))).set j (some (.obj true C q.1 fs)))else .no
def ES[Inhabited α](r i j:Nat){z:Str}{py pz pt pt2 q1 q2:Pos}{k2:Nat}(c:MkC X.prog X.w X.K X.mg X.base C cn k n F)(hr:Room (k+1) X.A)(hc:X.calm=true)(hN:X.N.Nodup)(hb:PFL X e' gl')(ha:PFA X (e::es) gl)(h2:Bf X cS g2)(hij:i≠j:=by decide)(hi:X.N[i]?=some y:=by rfl)(hj:X.N[j]?=some z:=by rfl)(hx:X.env.scope.names.lookup y=some .local:=by rfl)(hy:X.env.scope.names.lookup z=some .local:=by rfl)(hg:Gl X cn:=by rfl)(hdb:(cn==("__debug__":Str))=false:=by decide)(he:starEach (e::es) X.env=(false,eval e X.env)::starEach es X.env:=by rfl)(hpl:(backTo q2 (starEach es X.env)).any (·.1)=false:=by rfl)(hse:starEach [e',.Call (.Name cn q1) (e::es) [] q2] X.env=(false,eval e' X.env)::starEach [.Call (.Name cn q1) (e::es) [] q2] X.env:=by rfl)(hse2:starEach [.Call (.Name cn q1) (e::es) [] q2] X.env=(false,eval (.Call (.Name cn q1) (e::es) [] q2) X.env)::starEach [] X.env:=by rfl)(hw:swappedStores [.Tuple [.Name y py,.Name z pz] kt pt] (.Tuple [e',.Call (.Name cn q1) (e::es) [] q2] k2 pt2) X.env=pure (some [y,z]):=by rfl)(hs:swapsWithSole [.Tuple [.Name y py,.Name z pz] kt pt] (.Tuple [e',.Call (.Name cn q1) (e::es) [] q2] k2 pt2) pos.line X.env=pure false:=by rfl):
  Bf X (.Assign [.Tuple [.Name y py,.Name z pz] kt pt] (.Tuple [e',.Call (.Name cn q1) (e::es) [] q2] k2 pt2) pos::cS) (Ax r C i j F n gl' gl g2):=λG₀ H₀ pins s σ H D I ⟨G,ρ,sr,h⟩=>by
 obtain⟨G1,st1,pk⟩:=sr.peek r;refine dE (Jg hc hN hi hj hij hx hy (bE hb (bE (I8 c hr ha hg hdb he hpl) eJ hse2) hse) hw hs) (h2 G₀ H₀) pins s σ H D I ⟨G1,_,st1,?_⟩;have h:∀q:Addr×α,hU X G₀ H₀ D ((de (gl' (frz r ρ))).out ρ λds=>if ds.all (fl 10)=true then (de (gl ρ>>=Bn F n)).out ρ λfs=>g2 q.2 ((ρ.set i (some (.own ds))).set j (some (.obj true C q.1 fs)))else .no):=h;cases q':gl' (frz r ρ)with
 |ok ds=>
  rw[q']at h;intro l vs G' H' u hl r1;obtain⟨G2,u2,tr⟩:=pk G' H' u;have h:∀q:Addr×α,hU X G₀ H₀ D (if ds.all (fl 10)=true then (de (gl ρ>>=Bn F n)).out ρ λfs=>g2 q.2 ((ρ.set i (some (.own ds))).set j (some (.obj true C q.1 fs)))else .no):=h;by_cases hfl:ds.all (fl 10)=true
  case neg=>simp only[if_neg hfl]at h;exact(h (0,default)).elim
  simp only[if_pos hfl]at h;have r2:=nq (λv d=>nR tr 10 v d) hfl r1;refine⟨G2,ρ,((sr.ups u2).ups (.new' u2.sub hl)).e,?_⟩;cases q:gl ρ>>=Bn F n with
  |ok fs=>simp only[q]at h;intro x G' H' ow' u ob;exact⟨.ref l,.ref x,rfl,G',_,((sr.ups u2).setOwn hl r2 i).setObj u ob j,λq3=>h (x,q3)⟩
  |_=>simp only[q]at h;exact(h (0,default)).elim
 |_=>rw[q']at h;exact(h (0,default)).elim
end
noncomputable def flF(fs:List (Nat×Fd)):Bool:=fs.all λf=>match f.2 with
 |.val d=>fl 10 d
 |.own ds=>ds.all (fl 10)
section
variable{K:PySem.W.Frag}{H₀ G2:Hp}{m:Bool}
def FdsAt.flat(tr:∀a o,G a=some o->(∀vs,o≠HO.lst vs)->G2 a=some o)(gn:∀a,G a=Option.none->G2 a=Option.none){fs:List (Nat×Fd)}{vs:List (Str×V)}(h:FdsAt K H₀ G H ow i m fs vs):flF fs=true->FdsAt K H₀ G2 H ow i m fs vs:=by
 induction h with
 |nil=>exact λ_=>.nil
 | @cons k fd v fs vs h nk r t ih=>
  intro hf;unfold flF at hf ih;rw[oR,w5]at hf;refine .cons h nk ?_ (ih hf.2);cases fd with
  |val d=>exact nR tr 10 _ _ hf.1 r
  |own ds=>obtain⟨l,ws,e,h1,h2,h3,h4,h5⟩:=r;exact⟨l,ws,e,h1,gn l h2,h3,nq (λv d=>nR tr 10 v d) hf.1 h4,h5⟩
def InsAt.flat{p:Addr}{fs:List (Nat×Fd)}(tr:∀a o,G a=some o->(∀vs,o≠HO.lst vs)->G2 a=some o)(gn:∀a,G a=none->G2 a=none)(hf:flF fs=true)(h:InsAt K H₀ G H ow i m C p fs):InsAt K H₀ G2 H ow i m C p fs:=by obtain⟨dx,vs,h1,h2,h3,h4,h5,h6,h7,h8⟩:=h;exact⟨dx,vs,h1,h2,gn p h3,gn dx h4,h5,h6,h7,FdsAt.flat tr gn h8 hf⟩
end
noncomputable def RM.outP(r:RM)(C p:Addr)(i:Nat)(ρ:Ev):O:=match r with
 |.ok _ fs'=>if flF fs'=true then .nx (ρ.set i (some (.obj true C p fs')))else .no
 |_=>.no
noncomputable def yB(j:Nat)(C:Addr)(i n:Nat)(F:MF)(gl:Ev->R (List D)):Ev->O:=λρ=>(qZ C ρ i).out ρ λo=>(ownAt ρ j).out ρ λ_=>(de (gl (frz j ρ))).out ρ λds=>if ds.length=n then (F o.2 ds).outP C o.1 i ρ else .no
section
variable{e:Expr}{mn:Str}{n:Nat}{p1 ap ep:Pos}
def GB{pl:Sem Bool}(j i:Nat)(c:CF X.K C ks)(m:MCallee X.prog X.w X.K X.mg X.base C mn k n F)(hr:Room k X.A)(ha:PFA X (e::es) gl)(hi:X.N[i]?=some x:=by rfl)(hv:Vis X.env.scope x:=by first|exact Or.inl rfl|exact Or.inr (Or.inl rfl)|exact Or.inr (Or.inr rfl))(hd:(x==("__debug__":Str))=false:=by decide)(hcd:(x==("__classdict__":Str))=false:=by decide)(hmn:∀k,k<fnames.length->(mn==dw k)=false:=by decide)(hst:starEach (e::es) X.env=(false,eval e X.env)::starEach es X.env:=by rfl)(hpl:(backTo pos (starEach es X.env)).any (·.1)=false:=by rfl)(hs:swapsWith (.Call (.Attribute (.Name x p1) mn ap) (e::es) [] pos) none ep.line X.env=pure false:=by rfl)(ht:eval (.Call (.Attribute (.Name x p1) mn ap) (e::es) [] pos) X.env=(do
 let ov <- eval (.Name x p1) X.env
 standAt ap.atName
 let (f,first) <- holding [ov] (getMethod ov mn pl)
 callWith pos f first (backTo pos (starEach (e::es) X.env)) (backToKw pos (keywordEach [] X.env))):=by rfl):
  PSF X (.Expr (.Call (.Attribute (.Name x p1) mn ap) (e::es) [] pos) ep) (yB j C i n F gl):=λG₀ H₀ pins s σ H D I h=>by
 obtain⟨f,fd,ps,M,hm,hb,hl⟩:=m.ex;obtain⟨G,ρ,sr,h⟩:=h;obtain⟨p,fs,e1,h⟩:=mK h;obtain⟨es0,eo,h⟩:=ownAt.ok h;obtain⟨l,vl,hl1,hl2,hl3,hl4,hl5⟩:=sr.own j es0 eo;have hji:j≠i:=λz=>by rw[z,e1]at eo;cases eo
 have lj:j<ρ.length:=(u8.mp eo).1;obtain⟨h1,_,_⟩:=sr.e.obs i true C p fs e1;have v:PE X (.Name x p1) (Bt i):=cK hi hv hd hcd;have pe:PE X (.Call (.Attribute (.Name x p1) mn ap) (e::es) [] pos) (λσ' H' Q=>σ'=σ/\H'=H/\∀v H2,D.nx σ H2->Q v H2):=by
  rintro pn2 sh2 σ' H' Q J ⟨rfl,rfl,hQ⟩;refine Zr (pl:=pl) (thn (v pn2 sh2 σ' H' (λu H2=>u=.ref p/\H2=H') J ⟨_,h1,rfl,rfl⟩) λu s1 ⟨v',H2,I',rv,ev,eh⟩=>?_) ht;subst ev eh;obtain rfl:u=Value.ref p:=rv;obtain⟨_,ow,ob0⟩:=sr.e.obs i true C p fs e1;obtain⟨dx,vs,g1,g2,g3,g4,g5,g6,g7,g8⟩:=ob0.ins c.ne;refine kh I' g1 c.cl hm (g8.none hmn) ?_;have sb:Same (upd G l (.lst vl)) H2:=λa o q=>by
   by_cases z:a=l;·subst z;rw[az]at q;rw[hl2];exact q
   ·rw[am z]at q;exact sr.e.sub a o q
  have gg:Same G (upd G l (.lst vl)):=.into hl3;have fz:frz j ρ=ρ.set j (some (.val (.lst false es0))):=by unfold frz;rw[eo]
  have st1:StE X.K (upd G l (.lst vl)) H2 σ' (frz j ρ):=by
   rw[fz];refine⟨sb,by rw[List.length_set];exact sr.e.len,λa d q=>?_,λa m' C' p' fs' q=>?_⟩
   ·by_cases z:j=a;·subst z;rw[uu lj]at q;cases q;exact⟨_,hl1,.lst az (hl5.mono gg)⟩
    ·rw[t6 z]at q;obtain⟨v,q1,q2⟩:=sr.e.val a d q;exact⟨v,q1,q2.mono gg⟩
   ·by_cases z:j=a;·subst z;rw[uu lj]at q;cases q
    ·rw[t6 z]at q;obtain⟨owq,o1,o2⟩:=sr.ob;have ol:=o1 j es0 l eo hl1;refine⟨(o2 a m' C' p' fs' q).1,owq,(o2 a m' C' p' fs' q).2.rd.keep ⟨λ_ _ _ _ e=>e,gg,λb t o q1 _ n=>?_,λ_ _ _ e _=>e,λ_ _ _ _ n=>n⟩⟩;rw[am (λy=>by rw[y,ol]at q1;cases q1;exact z rfl)];exact n
  have t:tAF X gl σ' H2 (λvs H1=>∃G1 ds,Up (upd G l (.lst vl)) H2 G1 H1/\Reps X.K G1 vs ds/\ds.length=n/\hU X G₀ H₀ D ((F fs ds).outP C p i ρ)):=by
   refine⟨_,_,st1,?_⟩;cases q:gl (frz j ρ)with
   |ok ds=>
    rw[q]at h;simp only[R.out,de]at h;intro vs G1 H1 u r;by_cases hz:ds.length=n;·rw[if_pos hz]at h;exact⟨G1,ds,u,r,hz,h⟩
    ·rw[if_neg hz]at h;exact h.elim
   |_=>rw[q]at h;exact h.elim
  refine l4 (first:=[.ref p]) (h₀:=X.base) J.ok.mod.kin hm.kp (thn (ha pos pn2 s1 σ' H2 _ I' t) λus s2 q=>⟨?_,?_⟩) hst hpl;·obtain⟨vs,H1,I1,r,_⟩:=q;exact I1.kIn
  obtain⟨vs,H1,I1,r,G1,ds,u1,rp,hz,h2⟩:=q;have gl1:G1 l=some (.lst vl):=u1.gg l _ az;have u2:Up G H2 (λa=>if a=l then none else G1 a) H1:=by
   refine⟨λa o q=>?_,λa o q=>?_,u1.hh,λa o q=>?_⟩
   ·have q:(if a=l then none else G1 a)=some o:=q;split at q;·cases q
    ·exact u1.sub a o q
   ·have ne:a≠l:=aC q hl3;show(if a=l then none else G1 a)=some o;rw[if_neg ne];exact u1.gg a o (by rw[am ne];exact q)
   ·have q:(if a=l then none else G1 a)=some o:=q;split at q;·cases q
    ·rename_i ne;rcases u1.fr a o q with z|z;·rw[am ne]at z;exact .inl z
     ·exact .inr z
  have sr1:=sr.ups u2;obtain⟨ow1,o1,o2⟩:=sr1.ob;have ol:=o1 j es0 l eo hl1;have nl:∀a t,li i true H₀ (λa=>if a=l then none else G1 a) H1 ow1 a=some t->a≠l/\G1 a=none:=λa t q=>by
   have w:=ij q;have ne:a≠l:=λz=>by have:=w.1;rw[z,ol]at this;exact hji (ut (·.1) (xV this))
   have y:(if a=l then none else G1 a)=none:=w.2.2.1;rw[if_neg ne]at y;exact⟨ne,y⟩
  have obc:=(o2 i true C p fs e1).2.cut;have obc1:ObjAt X.K (λ_=>none) G1 H1 (li i true H₀ (λa=>if a=l then none else G1 a) H1 ow1) 0 true C p fs:=
   obc.keep ⟨λ_ _ _ _ e=>e,λa o q=>by
    have q:(if a=l then none else G1 a)=some o:=q;split at q;·cases q
    ·exact q,λb t o q1 _ _=>(nl b _ q1).2,λ_ _ _ e _=>e,λ_ _ _ _ n=>n⟩;refine lG M hr hb hl I1 r rp hz u1.sub (λa t q=>(nl a t q).2) obc1 ?_;cases q:F fs ds with
  |ok d fs'=>
   rw[q]at h2;have h2:hU X G₀ H₀ D (if flF fs'=true then .nx (ρ.set i (some (.obj true C p fs')))else .no):=h2;by_cases hf:flF fs'=true
   case neg=>rw[if_neg hf]at h2;exact h2.elim
   rw[if_pos hf]at h2;intro v G' H' ow' u ob _;have tr:∀a o,G' a=some o->(∀vs,o≠HO.lst vs)->(λa=>if a=l then none else G' a) a=some o:=λa o q hq=>by
    have ne:a≠l:=λz=>by have:=u.gg l _ gl1;rw[z,this]at q;cases q;exact hq vl rfl
    show(if a=l then none else G' a)=some o;rw[if_neg ne];exact q
   have gn:∀a,G' a=none->(λa=>if a=l then none else G' a) a=none:=λa q=>by
    show(if a=l then none else G' a)=none;split;·rfl
    ·exact q
   have u':Up (λa=>if a=l then none else G1 a) (hid H1 (li i true H₀ (λa=>if a=l then none else G1 a) H1 ow1)) (λa=>if a=l then none else G' a) H':=by
    refine⟨λa o q=>?_,λa o q=>?_,u.hh,λa o q=>?_⟩
    ·have q:(if a=l then none else G' a)=some o:=q;split at q;·cases q
     ·exact u.sub a o q
    ·have q:(if a=l then none else G1 a)=some o:=q;show(if a=l then none else G' a)=some o;split at q;·cases q
     ·rename_i ne;rw[if_neg ne];exact u.gg a o q
    ·have q:(if a=l then none else G' a)=some o:=q;show(if a=l then none else G1 a)=some o\/_;split at q;·cases q
     ·rename_i ne;rw[if_neg ne];exact u.fr a o q
   exact hQ v H' (h2 _ _ H' (sr1.meth e1 o1 o2 u' (.inl ⟨c.ne,(ob.ins c.ne).flat tr gn hf⟩)))
  |_=>rw[q]at h2;exact h2.elim
 exact gH pe hs pins s σ H D I ⟨rfl,rfl,λv H2 q=>q⟩
end
noncomputable def MG:D->D->R (List D)
 |.lst false xs,.lst false ys=>if xs.length+ys.length<=sizeLine then .ok (xs++ys)else .no
 |_,_=>.no
noncomputable def Mw(ga gb:Ev->R D):Ev->R (List D):=λρ=>ga ρ>>=λx=>gb ρ>>=λy=>MG x y
noncomputable def Kz(l u:Option Int):D->R (List D)
 |.lst _ xs=>.ok (lw xs l u)
 |_=>.no
noncomputable def LQ(ga:Ev->R D)(go gp:Ev->R (Option Int)):Ev->R (List D):=λρ=>ga ρ>>=λx=>go ρ>>=λl=>gp ρ>>=λu=>Kz l u x
section
variable{a b:Expr}{ga:Ev->R D}{go gp:Ev->R (Option Int)}{lo hi:Option Expr}{p2:Pos}
def tG.introL{γ α β:Type}{rep:Hp->β->α->Prop}{g:Ev->R α}{k:α->R (List D)}{Q:β->Hp->Prop}{Q':VK}(st:StE X.K G H σ ρ)(h:(g ρ>>=k).post (nY X.K G H Q') (Exx X σ G H))(hk:∀a,∀v G1 H1,Up G H G1 H1->StE X.K G1 H1 σ ρ->rep G1 v a->(k a).post (nY X.K G1 H1 Q') (Exx X σ G1 H1)->Q v H1):tG X rep g σ H Q:=by
 refine⟨G,ρ,st,?_⟩;cases e:g ρ with
 |ok a=>rw[e]at h;exact λv G' H' u r=>hk a v G' H' u (st.up u) r (R.post.mono h (λ_ q l vs G2 H2 u2=>q l vs G2 H2 (u.trans u2)) λC q=>Exx.up u q)
 |ex C=>rw[e]at h;exact h
 |no=>rw[e]at h;exact h
def Ip(ha:PF X a ga)(hb:PF X b gb):PFL X (.BinOp a .Add b pos) (Mw ga gb):=λpins s σ H Q I ⟨G,ρ,st,h⟩=>by
 refine Jq op_cat ha hb pins s σ H Q I ?_;refine tG.introL (γ:=Unit) st h λx v G1 H1 u1 st1 r1 h1=>?_;refine tG.introL (γ:=Unit) st1 h1 λy w G2 H2 u2 st2 r2 h2=>?_;unfold MG at h2;split at h2
 ·split at h2;·rename_i hz;obtain⟨a,vs,rfl,ha,ra⟩:=(r1.mono u2.gg).lst_inv;obtain⟨b,ws,rfl,hb,rb⟩:=r2.lst_inv;exact⟨a,b,vs,ws,rfl,rfl,st2.sub _ _ ha,st2.sub _ _ hb,by rw[ra.length,rb.length];exact hz,λp hp=>h2 p _ G2 H2 (.refl st2.sub) hp (ra.append rb)⟩
  ·exact h2.elim
 ·exact h2.elim
def C4(ha:PF X a ga)(hl:PFO X lo go)(hu:PFO X hi gp):PFL X (.Subscript a (.Slice lo hi none p2) pos) (LQ ga go gp):=λpins s σ H Q I ⟨G,ρ,st,h⟩=>by
 refine wt AK ha hl hu pins s σ H Q I ?_;refine tG.introL (γ:=Unit) st h λx v G1 H1 u1 st1 r1 h1=>?_;refine tG.introL (γ:=Unit) st1 h1 λl l' G2 H2 u2 st2 r2 h2=>?_;subst r2;refine tG.introL (γ:=Unit) st2 h2 λu u' G3 H3 u3 st3 r3 h3=>?_;subst r3;unfold Kz at h3;split at h3;·obtain⟨a,vs,rfl,h,t⟩:=((r1.mono u2.gg).mono u3.gg).seq_inv;exact⟨a,vs,rfl,h.mono st3.sub,λp hp=>h3 p _ G3 H3 (.refl st3.sub) hp (t.cut _ _)⟩
 ·exact h3.elim
end
def LP{cS:List Stmt}{g:Ev->R (List D)}(i:Nat)(h:F0 X cS g):F0 X cS (K3 i g):=λG₀ H₀ pins s σ H D I ⟨G,ρ,sr,q⟩=>by obtain⟨G',sr'⟩:=sr.frz i;exact h G₀ H₀ pins s σ H D I ⟨G',_,sr',q⟩
section
variable{g g1 g2':Ev->O}{gt gu:Ev->R Bool}{ga gc:Ev->R D}{go gp:Ev->R (Option Int)}{n:Nat}{f f':D->D->Option D}
def lA:aw g1 g2' ρ=(g1 ρ).seq g2':=rfl
def Oj:oIf gt g1 g2' ρ=(gt ρ).out ρ λk=>if k=true then g1 ρ else g2' ρ:=rfl
def Gw:fA i ga ρ=(ga ρ).out ρ λd=>.nx (ρ.set i (some (.val d))):=rfl
def Ms:cF ga ρ=(ga ρ).out ρ .rt:=rfl
def Nx:oNx ρ=.nx ρ:=rfl
def Lm:Ep i gl ρ=(gl ρ).out ρ λds=>.nx (ρ.set i (some (.own ds))):=rfl
def Hy:kA ga ρ=(ga ρ).out ρ λ_=>.nx ρ:=rfl
def zX:uy asg gl g ρ=(gl ρ).out ρ λitems=>da asg g items ρ:=rfl
def G9:iy C gl ρ=(gl ρ).out ρ λ_=>.ex C ρ:=rfl
def LY:Ng asg ga ρ=(ga ρ).out ρ λd=>(asg d ρ).out ρ .nx:=rfl
def yJ:Ce i g ρ=g (frz i ρ):=rfl
def yy{α β:Type}{h:α->R β}{gx:Ev->R α}:aq h gx ρ=gx ρ>>=h:=rfl
def Nl{h:List D->Option D}:gOf h gl ρ=gl ρ>>=λds=>ofO (h ds):=rfl
def wP:aa ga gl ρ=ga ρ>>=λx=>gl ρ>>=λxs=>.ok (x::xs):=rfl
def Ey:bD gl ρ=gl ρ>>=λds=>.ok (.lst false ds):=rfl
def HP:nX gl ρ=gl ρ>>=λds=>if ds.length<=sizeLine then .ok ds else .no:=rfl
def NC:gB2 f ga gb ρ=g2 f ga gb ρ>>=asB:=rfl
def NX:gB3 f f' ga gb gc ρ=g3 f f' ga gb gc ρ>>=asB:=rfl
def Og:gBn gt ρ=gt ρ>>=λk=>.ok (!k):=rfl
def JP:mU ga ρ=ga ρ>>=λx=>asI x>>=λi=>.ok (some i):=rfl
def HQ{T:String}{h:D->List D->Option D}:ox T h ga gl ρ=ga ρ>>=λx=>if oG T x=true then gl ρ>>=λds=>ofO (h x ds)else .no:=rfl
def N4:g2 f ga gb ρ=ga ρ>>=λx=>gb ρ>>=λy=>ofO (f x y):=rfl
def L4:kf ga gb ρ=ga ρ>>=λx=>asB x>>=λk=>if k=true then gb ρ else .ok (.bl false):=rfl
def M6:gOr ga gb ρ=ga ρ>>=λx=>asB x>>=λk=>if k=true then .ok (.bl true)else gb ρ:=rfl
def LC:Lq ga ρ=ga ρ>>=λx=>asB x>>=λk=>.ok (.bl (!k)):=rfl
def Jd:Az gt gu ρ=gt ρ>>=λk=>if k=true then gu ρ else .ok false:=rfl
def K9:rh gt gu ρ=gt ρ>>=λk=>if k=true then .ok true else gu ρ:=rfl
def Mb:gIf gt ga gb ρ=gt ρ>>=λk=>if k=true then ga ρ else gb ρ:=rfl
def M9:gSl ga go gp ρ=ga ρ>>=λx=>go ρ>>=λl=>gp ρ>>=λu=>ofO (EN l u x):=rfl
def I9:fK gl ix gt ga ρ=gl ρ>>=λitems=>fV gt ga items (iT ix ρ)>>=λds=>if ds.length<=sizeLine then .ok ds else .no:=rfl
def Ae{h:List D->R D}:aD 1 h (aa ga λ_=>.ok []) ρ=ga ρ>>=λx=>h [x]:=DR
def AM{h:List D->R D}:aD 2 h (aa ga (aa gb λ_=>.ok [])) ρ=ga ρ>>=λx=>gb ρ>>=λy=>h [x,y]:=yU
def EJ{h:List D->R D}:aD 3 h (aa ga (aa gb (aa gc λ_=>.ok []))) ρ=ga ρ>>=λx=>gb ρ>>=λy=>gc ρ>>=λz=>h [x,y,z]:=Bd
def E5{h:List D->R D}{gd:Ev->R D}:aD 4 h (aa ga (aa gb (aa gc (aa gd λ_=>.ok [])))) ρ=ga ρ>>=λx=>gb ρ>>=λy=>gc ρ>>=λz=>gd ρ>>=λu=>h [x,y,z,u]:=by
 unfold aD;simp only[wP];cases ga ρ <;> try rfl
 simp only[R.ok_bind];cases gb ρ <;> try rfl
 simp only[R.ok_bind];cases gc ρ <;> try rfl
 simp only[R.ok_bind];cases gd ρ <;> rfl
end
def Lg(i:Nat)(ga:Ev->R D)(ρ:Ev):L8 i ga ρ=(ownAt ρ i).out ρ λds=>(ga ρ).out ρ λd=>(asL d).out ρ λes=>if ds.length+es.length<=sizeLine then .nx (ρ.set i (some (.own (ds++es))))else .no:=rfl
def Dt(i:Nat)(ga:Ev->R D)(ρ:Ev):yk i ga ρ=(ownAt ρ i).out ρ λds=>(ga ρ).out ρ λd=>if ds.length<sizeLine then .nx (ρ.set i (some (.own (ds++[d]))))else .no:=rfl
def LU(i j:Nat)(gl:Ev->R (List D))(ρ:Ev):Oi i j gl ρ=(gl ρ).out ρ λds=>(pQ [i,j] ds ρ).out ρ .nx:=rfl
def NG(ds:List D)(ρ:Ev):ownAt (some (.own ds)::ρ) 0=.ok ds:=rfl
def N6(a0:Option Sl)(ds:List D)(ρ:Ev):ownAt (a0::some (.own ds)::ρ) 1=.ok ds:=rfl
def Np(a0 a1:Option Sl)(ds:List D)(ρ:Ev):ownAt (a0::a1::some (.own ds)::ρ) 2=.ok ds:=rfl
def asl(ds:List D):asL (.lst false ds)=.ok ds:=rfl
def Nc(a0:Option Sl)(ds:List D)(ρ:Ev):frz 1 (a0::some (.own ds)::ρ)=a0::some (.val (.lst false ds))::ρ:=rfl
noncomputable def g3k(f':D->D->Option D)(r:R D)(y:D):D->R D
 |.bl true=>r>>=λw=>ofO (f' y w)
 |.bl false=>.ok (.bl false)
 |_=>.no
def N2(f f':D->D->Option D)(ga gb gc:Ev->R D)(ρ:Ev):g3 f f' ga gb gc ρ=ga ρ>>=λx=>gb ρ>>=λy=>ofO (f x y)>>=g3k f' (gc ρ) y:=rfl
def Lr(f':D->D->Option D)(r:R D)(y:D)(b:Bool):g3k f' r y (.bl b)=if b=true then (r>>=λw=>ofO (f' y w))else .ok (.bl false):=by cases b <;> rfl
def sv2(i j:Nat)(x y:D)(ρ:Ev):pQ [i,j] [x,y] ρ=.ok ((ρ.set i (some (.val x))).set j (some (.val y))):=rfl
def NO(a0 a1 a2 a3:Option Sl)(ds:List D)(ρ:Ev):frz 4 (a0::a1::a2::a3::some (.own ds)::ρ)=a0::a1::a2::a3::some (.val (.lst false ds))::ρ:=rfl
def xA(ρ:Ev)(k:Ev->O):(O.nx ρ).seq k=k ρ:=rfl
def K2(d:D)(k:Ev->O):(O.rt d).seq k=.rt d:=rfl
def NF(C:Addr)(ρ:Ev)(k:Ev->O):(O.ex C ρ).seq k=.ex C ρ:=rfl
def Nw(k:Ev->O):(O.no).seq k=.no:=rfl
def MO(d:D):ao (.rt d)=.ok d:=rfl
def Ny(ρ:Ev):ao (.nx ρ)=.ok .non:=rfl
def M2(C:Addr)(ρ:Ev):ao (.ex C ρ)=.ex C:=rfl
def Nb(k:Bool):asB (.bl k)=.ok k:=rfl
def ua(i:Int):asI (.int i)=.ok i:=rfl
def NL(k:Bool):ie (.bl k)=.ok k:=rfl
def rd7(a0 a1 a2 a3 a4 a5 a6:Option Sl)(d:D)(ρ:Ev):rdV (a0::a1::a2::a3::a4::a5::a6::some (.val d)::ρ) 7=.ok d:=rfl
def rd8(a0 a1 a2 a3 a4 a5 a6 a7:Option Sl)(d:D)(ρ:Ev):rdV (a0::a1::a2::a3::a4::a5::a6::a7::some (.val d)::ρ) 8=.ok d:=rfl
def rd9(a0 a1 a2 a3 a4 a5 a6 a7 a8:Option Sl)(d:D)(ρ:Ev):rdV (a0::a1::a2::a3::a4::a5::a6::a7::a8::some (.val d)::ρ) 9=.ok d:=rfl
def Nq(a0 a1 a2 a3 a4 a5 a6 a7 a8 a9:Option Sl)(d:D)(ρ:Ev):rdV (a0::a1::a2::a3::a4::a5::a6::a7::a8::a9::some (.val d)::ρ) 10=.ok d:=rfl
def M8(a0 a1 a2 a3 a4 a5 a6 a7 a8 a9 a10:Option Sl)(d:D)(ρ:Ev):rdV (a0::a1::a2::a3::a4::a5::a6::a7::a8::a9::a10::some (.val d)::ρ) 11=.ok d:=rfl
def Nz(a0 a1 a2 a3 a4 a5 a6 a7 a8 a9 a10 a11:Option Sl)(d:D)(ρ:Ev):rdV (a0::a1::a2::a3::a4::a5::a6::a7::a8::a9::a10::a11::some (.val d)::ρ) 12=.ok d:=rfl
section
variable(i j:Int)
def Lh:bM (.int i) (.int j)=some (.int (i+j)):=by simp only[bM]
def KL:zo (.int i) (.int j)=some (.int (i - j)):=by simp only[zo]
def Nu:leD (.int i) (.int j)=some (.bl (decide (i<=j))):=by simp only[leD]
def NH:ltD (.int i) (.int j)=some (.bl (decide (i<j))):=by simp only[ltD]
def NP:gtD (.int i) (.int j)=some (.bl (decide (j<i))):=by simp only[gtD]
def N7:geD (.int i) (.int j)=some (.bl (decide (j<=i))):=by simp only[geD]
def Ni:eqF (.int i) (.int j)=some (.bl (i==j)):=by simp only[eqF,eqD,uo]
def MA:neF (.int i) (.int j)=some (.bl (!(i==j))):=by simp only[neF,eqD,uo]
end
def Ea{i j:Int}(h : -(2 ^ 64)<i/\i<2 ^ 64):fQ (.int i) (.int j)=some (.int (i * j)):=by simp only[fQ];rw[if_pos (Or.inl h)]
def BH{x y:List Nat}(h:x.length+y.length<=sizeLine):bM (.str x) (.str y)=some (.str (x++y)):=by simp only[bM];rw[if_pos h]
def MX(x y:List Nat):eqF (.str x) (.str y)=some (.bl (x==y)):=by simp only[eqF,eqD,uo]
def N1(x y:List Nat):neF (.str x) (.str y)=some (.bl (!(x==y))):=by simp only[neF,eqD,uo]
def wl{α:Type}(n:Nat)(x:α):(List.replicate n [x]).flatten=List.replicate n x:=by
 induction n with
 |zero=>rfl
 |succ n ih=>rw[r9,oE,ih];rfl
def bC:(1000:Nat)<=sizeLine:=by decide
def KF{c n:Nat}(h:n<=1000):fQ (.str [c]) (.int (n:Int))=some (.str (List.replicate n c)):=by have:=bC;simp only[fQ];rw[if_pos (by refine⟨by omega,by omega,?_⟩;simp;omega),t5,wl]
def LW{c:D}{n:Nat}(h:n<=1000):fQ (.lst false [c]) (.int (n:Int))=some (.lst false (List.replicate n c)):=by have:=bC;simp only[fQ];rw[if_pos (by refine⟨by omega,by omega,?_⟩;simp;omega),t5,wl]
def Kl{xs:List D}(h:xs[k]?=some d):ixD (.tup xs) (.int (k:Int))=some d:=by simp only[ixD];exact vz h
def MW{xs:List D}(h:xs[k]?=some d):ixD (.lst fz xs) (.int (k:Int))=some d:=by simp only[ixD];exact vz h
def Ko{x:List Nat}{c:Nat}(h:x[k]?=some c):ixD (.str x) (.int (k:Int))=some (.str [c]):=by simp only[ixD];rw[vz h];rfl
def IZ{α:Type}(xs:List α)(k:Nat):lw xs none (some (k:Int))=xs.take k:=by
 unfold lw;rw[HT.sIx_none,HT.sIx_nat,j8,Nat.sub_zero];by_cases h:k<=xs.length;·rw[Zw h]
 ·rw[Zx (by omega),d4,jR (by omega)]
def K4(lo hi:Option Int)(x:List Nat):EN lo hi (.str x)=some (.str (lw x lo hi)):=rfl
def KU(lo hi:Option Int)(x:List D):EN lo hi (.tup x)=some (.tup (lw x lo hi)):=rfl
def Lj(fz:Bool)(x:List D):eI [.lst fz x]=some (.int x.length):=rfl
def Ks(x:List D):eI [.tup x]=some (.int x.length):=rfl
def K5(x:List Nat):eI [.str x]=some (.int x.length):=rfl
def m_t(h:ds.length<=1000):mkT ds=.ok (.tup ds):=if_pos (w8 h bC)
def wI{n:Nat}(h:n<=1000):cG [.int (n:Int)]=.ok ((List.range n).map λ(i:Nat)=>D.int (i:Int)):=by
 have e:cG [.int (n:Int)]=if -(2 ^ 62)<=(n:Int)/\(n:Int)<2 ^ 62 then .ok ((List.range (n:Int).toNat).map λi=>D.int (0+(i:Nat)))else .no:=by simp only[cG]
 rw[e,if_pos (by constructor <;> omega),t5];simp only[Int.zero_add]
def NV{α:Type}(a v:α)(l:List α):(a::l).set 0 v=v::l:=rfl
def qv(asg:D->Ev->R Ev)(g:Ev->O)(ρ:Ev):da asg g [] ρ=.nx ρ:=rfl
def gM{g:Ev->O}{ρ1 ρ2:Ev}(h1:asg d ρ=.ok ρ1)(h2:g ρ1=.nx ρ2):da asg g (d::ds) ρ=da asg g ds ρ2:=by
 rw[da,h1];show(match g ρ1 with
  |.nx ρ2=>da asg g ds ρ2
  |.ct ρ2=>da asg g ds ρ2
  |.bk ρ2=>O.nx ρ2
  |.rt d=>O.rt d
  |.re d ρ2=>.re d ρ2
  |.ex C ρ2=>O.ex C ρ2
  |.no=>O.no)=_;rw[h2]
def rD{e:Expr}(hg:Gl X "tuple")(hm:X.mg "tuple"=none)(ha:PFA X [e] gl)(he:starEach [e] X.env=(false,eval e X.env)::starEach [] X.env:=by rfl):
  PF X (.Call (.Name "tuple" p) [e] [] pos) (gOf md gl):=yo qY (Cz _) hg hm PyProof.Rows.Boot.«tuple» ha (by decide) (by decide) he rfl
noncomputable def kM:D->List D->Option D
 |.str x,[.int i]=>if -1000<=i/\i<=1000 then some (.str (x++List.replicate (i.toNat - x.length) 32))else none
 |_,_=>none
noncomputable def DP:V->List V->Hp->VK->Prop:=λx vs H Q=>∃(y:Str)(i:Int),x=.str y/\vs=[.int i]/\-1000<=i/\i<=1000/\Q (.str (Txt.ljust y i)) H
def BK:MtR X "str.ljust" DP:=by intro pins s σ H x xs v us Q I rx rv ⟨y,i,ex,exs,h1,h2,q⟩;subst ex exs;obtain⟨t,rfl⟩:=rx;obtain⟨u,rfl,r1⟩:=rv.one;obtain⟨t',rfl⟩:=r1;exact SC.ljust (padOk_of (by omega) (by omega)) (λt'' k=>⟨.str _,H,I.tok _,⟨_,rfl⟩,q⟩)
def rC(y:Str)(i:Int):(Txt.ljust y i).cps.toList=y.cps.toList++List.replicate (i.toNat - y.cps.toList.length) 32:=by
 unfold Txt.ljust;have hl:y.length=y.cps.toList.length:=by simp[Str.length]
 split
 ·rename_i h;have:i.toNat - y.cps.toList.length=0:=by omega
  rw[this];simp
 ·simp[Builtin.Str.padded,Str.length]
def C1(K:PySem.W.Frag):Kh K "str" DP kM:=by
 intro G H x xs dx ds d Q s rx rs e q;unfold kM at e;split at e
 ·split at e
  ·rename_i hi;cases e;obtain⟨v,rfl,r1⟩:=rs.one;obtain⟨y,rfl,ey,hy⟩:=rx.str_inv;obtain rfl:=r1.int_inv;refine⟨y,_,rfl,rfl,hi.1,hi.2,q _ G H (.refl s) (.strL (by rw[rC,ey]) ?_)⟩;have h1:y.length=y.cps.toList.length:=by simp[Str.length]
   have:=bC;rw[h1,ey]at hy;simp;omega
  ·cases e
 ·cases e
def A2{o e:Expr}{ga:Ev->R D}{ap cp:Pos}(ho:PF X o ga)(ha:PFA X [e] gl)(hbase:attributeBase o "ljust" X.env (eval o X.env)=eval o X.env:=by rfl)(hfew:((backTo cp (starEach [e] X.env)).all (λx=>!x.1) && (backToKw cp (keywordEach [] X.env)).all (λx=>x.1.isSome)
 && decide ([e].length+([]:List Keyword).length+(if ([]:List Keyword).isEmpty then 0 else 1)<30))=true:=by rfl)(hline:(ap.endLine==cp.line)=true:=by rfl)(hs:starEach [e] X.env=(false,eval e X.env)::starEach [] X.env:=by rfl):
  PF X (.Call (.Attribute o "ljust" ap) [e] [] cp) (ox "str" kM ga gl):=uI Zn PySem.F.slot_str_ljust PySem.F.type_str_ljust BK (C1 _) ho ha hbase hfew hline hs rfl
def MY(a0 a1 a2 a3 a4 a5 a6 a7 a8 a9 a10 a11 a12:Option Sl)(d:D)(ρ:Ev):rdV (a0::a1::a2::a3::a4::a5::a6::a7::a8::a9::a10::a11::a12::some (.val d)::ρ) 13=.ok d:=rfl
def Na(a0 a1 a2 a3 a4 a5 a6 a7 a8 a9 a10 a11 a12 a13:Option Sl)(d:D)(ρ:Ev):rdV (a0::a1::a2::a3::a4::a5::a6::a7::a8::a9::a10::a11::a12::a13::some (.val d)::ρ) 14=.ok d:=rfl
def LL(i:Nat)(gt:Ev->R Bool)(g1 g2:Ev->O)(ρ:Ev):He i gt g1 g2 ρ=(de (gt (frz i ρ))).out ρ λk=>if k=true then g1 ρ else g2 ρ:=rfl
def JH(j i:Nat)(ga:Ev->R D)(ρ:Ev):Bb j i ga ρ=(de (ga (frz j ρ))).out ρ λd=>if fl 10 d=true then .nx (ρ.set i (some (.val d)))else .no:=rfl
def Ji(j i:Nat)(ga:Ev->R D)(ρ:Ev):LO j i ga ρ=(ownAt ρ i).out ρ λds=>(de (ga (frz j ρ))).out ρ λd=>if ds.length<sizeLine/\fl 10 d=true then .nx (ρ.set i (some (.own (ds++[d]))))else .no:=rfl
noncomputable def Iy(i:Nat)(ρ:Ev)(ds:List D)(d:D):Option Nat->O
 |some n=>if fl 10 d=true then .nx (ρ.set i (some (.own (ds.set n d))))else .no
 |none=>.no
def J8(i:Nat)(gk ga:Ev->R D)(ρ:Ev):xy i gk ga ρ=(ownAt ρ i).out ρ λds=>(de (ga (frz i ρ))).out ρ λd=>(de (gk (frz i ρ)>>=asI)).out ρ λk=>Iy i ρ ds d (ixN ds.length k):=rfl
def xu(i:Nat)(ρ:Ev)(ds:List D)(d:D)(n:Nat):Iy i ρ ds d (some n)=if fl 10 d=true then .nx (ρ.set i (some (.own (ds.set n d))))else .no:=rfl
def Iv(gl:Ev->R (List D))(ρ:Ev):zO gl ρ=gl ρ>>=Gn:=rfl
def Kv(xs:List D):Gn [.tup xs]=.ok xs:=rfl
def G6(ga gb:Ev->R D)(ρ:Ev):Ix ga gb ρ=ga ρ>>=λx=>gb ρ>>=λc=>Em x c:=rfl
def Gz(n:Nat)(asg:D->Ev->R Ev)(gl:Ev->R (List D))(ix:List Nat)(gt:Ev->R Bool)(ga:Ev->R D)(ρ:Ev):wn n asg gl ix gt ga ρ=gl ρ>>=λitems=>fO asg gt ga items (cY n ix ρ)>>=λds=>if ds.length<=sizeLine then .ok ds else .no:=rfl
def HS(i j:Nat)(ga:Ev->R D)(gl:Ev->R (List D))(ρ:Ev):KH i j ga gl ρ=(ga ρ).out ρ λd=>(gl ρ).out ρ λds=>.nx ((ρ.set i (some (.val d))).set j (some (.own ds))):=rfl
def Lo(f:Bool)(lo hi:Option Int)(x:List D):EN lo hi (.lst f x)=some (.lst false (lw x lo hi)):=rfl
def Mf(ga gs:Ev->R D)(ρ:Ev):NY ga gs ρ=ga ρ>>=λx=>gs ρ>>=λk=>Kn x k:=rfl
def LX(x:List Nat):Kn (.str x) (.int (-1))=.ok (.str x.reverse):=rfl
def Mj(f:Bool)(x:List D):Kn (.lst f x) (.int (-1))=.ok (.lst false x.reverse):=rfl
def Md(f:Bool)(xs:List D):Gn [.lst f xs]=.ok xs:=rfl
noncomputable def LR(i:Nat):O->O
 |.nx ρ=>.nx (ρ.set i none)
 |.rt d=>.rt d
 |_=>.no
noncomputable def IR(gs:Ev->O)(f:Addr->Option Bool)(i:Nat):O->O
 |.ex C ρ=>(match f C with
  |some true=>LR i (gs (ρ.set i (some (.val (.exc C)))))
  |_=>.no)
 |o=>o
def Lf(gb gs:Ev->O)(f:Addr->Option Bool)(i:Nat)(ρ:Ev):MB gb gs f i ρ=IR gs f i (gb ρ):=by unfold MB IR;cases gb ρ <;> rfl
def FU(gs:Ev->O)(f:Addr->Option Bool)(i:Nat)(ρ:Ev):IR gs f i (.nx ρ)=.nx ρ:=rfl
def E6{gs:Ev->O}{f:Addr->Option Bool}(h:f C=some true):IR gs f i (.ex C ρ)=LR i (gs (ρ.set i (some (.val (.exc C))))):=by simp only[IR,h]
def GX(i:Nat)(ρ:Ev):LR i (.nx ρ)=.nx (ρ.set i none):=rfl
noncomputable def HY(gs:List (Ev->R D))(out:List Nat)(ρ:Ev):D->R D
 |.str x=>if (out++x).length<=sizeLine then uD gs (out++x) ρ else .no
 |_=>.no
def HN(gs:List (Ev->R D))(ρ:Ev):Lv gs ρ=uD gs [] ρ:=rfl
def EA(out:List Nat)(ρ:Ev):uD [] out ρ=.ok (.str out):=rfl
def E9(g:Ev->R D)(gs:List (Ev->R D))(out:List Nat)(ρ:Ev):uD (g::gs) out ρ=g ρ>>=HY gs out ρ:=rfl
def EL(gs:List (Ev->R D))(out:List Nat)(ρ:Ev)(x:List Nat):HY gs out ρ (.str x)=if (out++x).length<=sizeLine then uD gs (out++x) ρ else .no:=rfl
def K6(x:List Nat):NN (.str x)=.ok (.str x):=rfl
def IT(j i:Nat)(gl:Ev->R (List D))(ρ:Ev):Cf j i gl ρ=(de (gl (frz j ρ))).out ρ λds=>if ds.all (fl 10)=true then .nx (ρ.set i (some (.own ds)))else .no:=rfl
def Mo(n:Nat)(gt:Ev->R Bool)(g:Ev->O)(ρ:Ev):HR n gt g ρ=we gt g n ρ:=rfl
def EX(gi:Ev->R (List D))(ix:List Nat)(gt:Ev->R Bool)(ge:Ev->R D)(ρ:Ev):JX gi ix gt ge ρ=gi ρ>>=λitems=>if items.length<=sizeLine then vF (lP 0) gt ge items (iT ix ρ)else .no:=rfl
def G0(C:Addr)(i k:Nat)(gb:Ev->R D)(ρ:Ev):vJ C i k gb ρ=(tK C ρ i>>=λfs=>fldL fs k>>=λds=>gb ρ>>=λd=>ofO (ixD (.lst false ds) d)):=rfl
def CB(C:Addr)(i k:Nat)(ρ:Ev):Fq C i k ρ=(tK C ρ i>>=λfs=>fldL fs k>>=λds=>.ok (.int ds.length)):=rfl
def Ht(C:Addr)(i k:Nat)(ga:Ev->R D)(ρ:Ev):Gh C i k ga ρ=(qZ C ρ i).out ρ λo=>(fldL o.2 k).out ρ λds=>(ga ρ).out ρ λd=>if ds.length<sizeLine then .nx (ρ.set i (some (.obj true C o.1 (jL k (.own (ds++[d])) o.2))))else .no:=rfl
def Jn(C:Addr)(i k:Nat)(gl:Ev->R (List D))(ρ:Ev):ze C i k gl ρ=(qZ C ρ i).out ρ λo=>(gl ρ).out ρ λds=>if o.2.length<900 then .nx (ρ.set i (some (.obj true C o.1 (jL k (.own ds) o.2))))else .no:=rfl
def HF(ga:Ev->R D)(ρ:Ev):EG ga ρ=(ga ρ).out ρ λd=>.re d ρ:=rfl
def Fk(C:Addr)(i n:Nat)(F:MF)(gl:Ev->R (List D))(ρ:Ev):J3 C i n F gl ρ=(tK C ρ i>>=λfs=>gl ρ>>=λds=>if ds.length=n then (F fs ds).read else .no):=rfl
def BT(C:Addr)(i:Nat)(F:MF)(ρ:Ev):gC C i F ρ=(tK C ρ i>>=λfs=>(F fs []).read):=rfl
def Fu(C:Addr)(i n:Nat)(F:MF)(gl:Ev->R (List D))(ρ:Ev):FH C i n F gl ρ=(qZ C ρ i).out ρ λo=>(gl ρ).out ρ λds=>if ds.length=n then (F o.2 ds).out C o.1 i ρ else .no:=rfl
def FD(C:Addr)(i:Nat)(F:MF)(ρ:Ev):Jy C i F ρ=(qZ C ρ i).out ρ λo=>(F o.2 []).out C o.1 i ρ:=rfl
def NQ(d:D)(ρ:Ev)(k:Ev->O):(O.re d ρ).seq k=.re d ρ:=rfl
def LV(d:D):RM.read (.rd d)=.ok d:=rfl
def K7(C:Addr):RM.read (.ex C)=.ex C:=rfl
def JN(d:D)(fs:List (Nat×Fd))(C p:Addr)(i:Nat)(ρ:Ev):RM.out (.ok d fs) C p i ρ=.nx (ρ.set i (some (.obj true C p fs))):=rfl
def IG(d:D)(C p:Addr)(i:Nat)(ρ:Ev):RM.out (.rd d) C p i ρ=.nx ρ:=rfl
def Iz(E C p:Addr)(i:Nat)(ρ:Ev):RM.out (.ex E) C p i ρ=.ex E ρ:=rfl
end L2
section
open L2
set_option compiler.extract_closed false in
local macro_rules | `(tactic| walk_at "run")=>`(tactic| simp -implicitDefEqProofs only[rvz,ciz,nlz,csz,Jt,HC,HV,Ic,EX,↓Ae,↓AM,↓EJ,↓E5,lA,Oj,Gw,Ms,Nx,Lm,Hy,zX,G9,LY,yJ,yy,Nl,wP,Ey,HP,NC,NX,Og,JP,HQ,N4,L4,M6,LC,Jd,K9,Mb,M9,I9,Lg,Dt,Ji,LL,JH,J8,kH,Iv,G6,Gz,HS,Lo,Mf,LX,Mj,xu,Kv,Md,MY,Na,and_self,LU,NG,N6,Np,asl,Nc,NO,N2,Lr,sv2,xA,K2,NF,Nw,MO,Ny,M2,Nb,ua,NL,rd0,rd1,rd2,rd3,rd4,rd5,rd6,rd7,rd8,rd9,Nq,M8,Nz,R.ok_bind,R.ok_out,R.ex_bind,R.ex_out,cC,Lh,KL,Nu,NH,NP,N7,Ni,MA,MX,N1,Lj,Ks,K5,K4,KU,NV,List.set_cons_succ,Zy,v4,b7,rT,Nat.reduceAdd,Nat.reduceBEq,i9,Z8,t9,uf,u6,IT,Mo,Lf,FU,E6,GX,HN,EA,E9,EL,K6,Int.reduceLT,Int.reduceLE,Int.reduceBEq,decide_true,Z7,G0,CB,Ht,Jn,HF,Fk,BT,Fu,FD,NQ,LV,K7,JN,IG,Iz, *])
namespace Q
open L2
open PySem (sizeLine Addr)
noncomputable def MH:D->Bool
 |.int _=>true
 |_=>false
noncomputable def Di:List D->R D
 | [.exc _]=>.no
 | [.dct _ _]=>.no
 | [d]=>.ok (.bl (MH d))
 |_=>.no
noncomputable def fD:Ev->O:=(aw (cF (kf (aq (gZ isInt) (rvz 0)) (Lq (aq (gZ (·=="bool")) (rvz 0))))) oNx)
def uT:∀ds:List D,ds.length=1->Di ds=.no\/ao (fD  (ai 1 ds))=Di ds:=by
 intro ds hl;unfold fD
 match ds,hl with
 | [d],_=>cases d <;> first|exact Or.inr rfl|exact Or.inl rfl
noncomputable def inB(d:D)(lo hi:Int):Bool:=match d with
 |.int i=>decide (lo<=i) && decide (i<=hi)
 |_=>false
noncomputable def zS:List D->R D
 | [.exc _,_,_]=>.no
 | [.dct _ _,_,_]=>.no
 | [d,.int lo,.int hi]=>.ok (.bl (inB d lo hi))
 |_=>.no
noncomputable def dX(fY:List D->R D):Ev->O:=(aw (cF (kf (aD 1 fY (aa (rvz 0) nlz)) (g3 leD leD (rvz 1) (rvz 0) (rvz 2)))) oNx)
def sd:∀ds:List D,ds.length=3->zS ds=.no\/ao (dX Di (ai 3 ds))=zS ds:=by
 intro ds hl;unfold dX
 match ds,hl with
 | [d,l,h],_=>
  cases d <;> first|exact Or.inl rfl|skip
  all_goals (cases l <;> first|exact Or.inl rfl|skip)
  all_goals (cases h <;> first|exact Or.inl rfl|skip)
  all_goals first|exact Or.inr rfl|skip
  rename_i i lo hi hl;refine Or.inr ?_;show ao (aw _ oNx [some (.val (.int i)),some (.val (.int lo)),some (.val (.int hi))])=R.ok (D.bl (inB (.int i) lo hi));by_cases h1:lo<=i <;> simp[aw,cF,kf,aD,aa,g3,rdV,Di,MH,asB,leD,inB,ao,O.seq,h1]
noncomputable def plain(x:List Nat):Bool:=x.all λc=>decide (32<=c) && decide (c<=126)
noncomputable def N0:D->Bool
 |.str x=>plain x
 |_=>false
noncomputable def im:List D->R D
 | [.exc _]=>.no
 | [.dct _ _]=>.no
 | [.str x]=>if x.length<=sizeLine then .ok (.bl (plain x))else .no
 | [d]=>.ok (.bl false)
 |_=>.no
noncomputable def fk:Ev->O:=(aw (cF (kf (aq (gZ (·=="str")) (rvz 0)) (gOf Ag (aa (bD (fK (aq bA (rvz 0)) [] (λ_=>R.ok true) (g3 leD leD (csz [32]) (rvz 0) (csz [126])))) nlz)))) oNx)
def uS:∀ds:List D,ds.length=1->im ds=.no\/ao (fk  (ai 1 ds))=im ds:=by
 intro ds hl;unfold fk
 match ds,hl with
 | [d],_=>
  cases d <;> first|exact Or.inl rfl|exact Or.inr rfl|skip
  rename_i x hl;by_cases hx:x.length<=sizeLine
  ·refine Or.inr ?_;have e:fV (λ_=>R.ok true) (g3 leD leD (λ_=>.ok (.str [32])) (rvz 0) (λ_=>.ok (.str [126]))) (x.map λc=>D.str [c]) [none]=.ok ((x.map λc=>D.str [c]).map λd=>.bl (match d with|.str [c]=>decide (32<=c) && decide (c<=126)|_=>false)):=by
    refine jr _ [] _ none λd m=>⟨rfl,?_⟩
    obtain⟨c,_,rfl⟩:=ur.1 m;show(ofO (some (D.bl (!decide (([c]:List Nat)<[32]))))>>=λz=>match z with
     |.bl true=>ofO (some (D.bl (!decide (([126]:List Nat)<[c]))))
     |.bl false=>R.ok (D.bl false)
     |_=>R.no:R D)=_;rw[zn,zn,cC,R.ok_bind];cases h1:decide (32<=c) <;> simp[h1]
   have e2:im [.str x]=.ok (.bl (plain x)):=if_pos hx;rw[e2];show ao (aw _ oNx [some (.val (.str x))])=_;simp only[aw,cF,kf,aq,gOf,aa,bD,fK,rd0,gZ,tyN,asB,iT,bA,R.ok_bind,qx];simp only[sE,u6,e,R.ok_bind];simp only[x8,hx,u6,R.ok_bind,lH,cC,R.ok_out,ao,O.seq,jz,plain];rfl
  ·exact Or.inl (if_neg hx)
noncomputable def Hh:D->Bool
 |.exc _=>false
 |.dct _ _=>false
 |.str x=>decide (x.length<=sizeLine)
 |_=>true
noncomputable def AG(d:D)(wd:Int):Bool:=match d with
 |.str x=>plain x && ((x.length:Int)==wd)
 |_=>false
noncomputable def xF(d:D)(wd:Int):Bool:=match d with
 |.tup xs=>decide (1<=xs.length) && decide (xs.length<=12) && xs.all λr=>AG r wd
 |_=>false
noncomputable def yP:List D->R D
 | [.exc _,_]=>.no
 | [.dct _ _,_]=>.no
 | [.tup xs,.int wd]=>if xs.all Hh=true then .ok (.bl (xF (.tup xs) wd))else .no
 | [d,.int wd]=>.ok (.bl false)
 |_=>.no
def xr(h:Hh d=true):im [d]=.ok (.bl (N0 d)):=by
 cases d <;> first|rfl|(cases h;done)|skip
 exact if_pos (lZ h)
noncomputable def cD(av:List D->R D):Ev->O:=(aw (oIf (rh (gBn (aq ie (aq (gZ (·=="tuple")) (rvz 0)))) (gBn (gB3 leD leD (ciz 1) (gOf eI (aa (rvz 0) nlz)) (ciz 12)))) (aw (cF (λ_=>R.ok (D.bl false))) oNx) oNx) (aw (cF (gOf Ag (aa (bD (fK (aq bA (rvz 0)) [1] (λ_=>R.ok true) (kf (aD 1 av (aa (rvz 0) nlz)) (g2 eqF (gOf eI (aa (rvz 0) nlz)) (rvz 1))))) nlz))) oNx))
def lq:∀ds:List D,ds.length=2->yP ds=.no\/ao (cD im (ai 2 ds))=yP ds:=by
 intro ds hl;unfold cD
 match ds,hl with
 | [d,l],_=>
  cases d <;> first|exact Or.inl rfl|skip
  all_goals (cases l <;> first|exact Or.inl rfl|exact Or.inr rfl|skip)
  rename_i xs wd hl;by_cases hf:xs.all Hh=true
  ·refine Or.inr ?_;have e2:yP [.tup xs,.int wd]=.ok (.bl (xF (.tup xs) wd)):=if_pos hf;rw[e2];have e:fV (λ_=>R.ok true) (kf (aD 1 im (aa (rvz 0) λx=>R.ok [])) (g2 eqF (gOf eI (aa (rvz 0) λx=>R.ok [])) λρ=>rdV ρ 1)) xs [none,some (.val (.int wd))]=.ok (xs.map λd=>.bl (AG d wd)):=by
    refine jr _ [some (.val (.int wd))] xs none λd m=>⟨rfl,?_⟩
    have hd:=wX.1 hf d m;simp only[kf,aD,aa,rd0,R.ok_bind,iO,u6,xr hd,asB];cases d <;> first|rfl|skip
    rename_i x;show(if plain x=true then R.ok (D.bl ((x.length:Int)==wd))else R.ok (.bl false))=R.ok (.bl (plain x && ((x.length:Int)==wd)));cases plain x <;> rfl
   show ao (aw _ _ [some (.val (.tup xs)),some (.val (.int wd))])=_;have i2:iT [1] [some (.val (.tup xs)),some (.val (.int wd))]=[none,some (.val (.int wd))]:=rfl;have t1:gZ (λx=>x=="tuple") (.tup xs)=.ok (.bl true):=rfl;have t2:ie (.bl true)=.ok true:=rfl;have t3:eI [.tup xs]=some (.int xs.length):=rfl;simp only[aw,oIf,rh,gBn,aq,gB3,g3,cF,gOf,aa,bD,fK,rd0,R.ok_bind,R.ok_out,bA,i2,e,t1,t2,t3,cC,leD,i9,t9,uf];by_cases h1:1<=xs.length
   ·have h1':(1:Int)<=(xs.length:Int):=by omega
    by_cases h2:xs.length<=12
    ·have h2':(xs.length:Int)<=12:=by omega
     have h3:xs.length<=sizeLine:=w8 h2 (by decide);simp[h1,h1',h2,h2',h3,asB,oNx,O.seq,lH,ao,xF];simp only[aw,cF,gOf,aa,bD,fK,aq,rd0,R.ok_bind,bA,i2,e,x8,h3,u6,lH,cC,R.ok_out,O.seq]
    ·have h2' : ¬ (xs.length:Int)<=12:=by omega
     simp[h1,h1',h2,h2',asB,oNx,O.seq,ao,xF]
   ·have h1' : ¬ (1:Int)<=(xs.length:Int):=by omega
    simp[h1,h1',asB,oNx,O.seq,ao,xF]
  ·exact Or.inl (if_neg hf)
noncomputable def sG(d:D)(wd m:Int):Bool:=match d with
 |.tup [a,b]=>inB a 0 (m - 1) && inB b 0 wd
 |_=>false
noncomputable def rO:D->Bool
 |.exc _=>false
 |.dct _ _=>false
 |_=>true
noncomputable def pK:List D->R D
 | [.exc _,_,_]=>.no
 | [.dct _ _,_,_]=>.no
 | [.tup xs,.int wd,.int m]=>if xs.all rO=true then .ok (.bl (sG (.tup xs) wd m))else .no
 | [d,.int wd,.int m]=>.ok (.bl false)
 |_=>.no
def kj{lo hi:Int}(h:rO d=true):zS [d,.int lo,.int hi]=.ok (.bl (inB d lo hi)):=by cases d <;> first|rfl|(cases h;done)
noncomputable def fq(aE:List D->R D):Ev->O:=(aw (oIf (rh (gBn (aq ie (aq (gZ (·=="tuple")) (rvz 0)))) (gB2 neF (gOf eI (aa (rvz 0) nlz)) (ciz 2))) (aw (cF (λ_=>R.ok (D.bl false))) oNx) oNx) (aw (cF (kf (aD 3 aE (aa (g2 ixD (rvz 0) (ciz 0)) (aa (ciz 0) (aa (g2 zo (rvz 2) (ciz 1)) nlz)))) (aD 3 aE (aa (g2 ixD (rvz 0) (ciz 1)) (aa (ciz 0) (aa (rvz 1) nlz)))))) oNx))
def vw:∀ds:List D,ds.length=3->pK ds=.no\/ao (fq zS (ai 3 ds))=pK ds:=by
 intro ds hl;unfold fq
 match ds,hl with
 | [d,l,h],_=>
  cases d <;> first|exact Or.inl rfl|skip
  all_goals (cases l <;> first|exact Or.inl rfl|skip)
  all_goals (cases h <;> first|exact Or.inl rfl|exact Or.inr rfl|skip)
  rename_i xs wd m hl;by_cases hf:xs.all rO=true
  ·refine Or.inr ?_;have e2:pK [.tup xs,.int wd,.int m]=.ok (.bl (sG (.tup xs) wd m)):=if_pos hf;rw[e2]
   match xs,hf with
   | [],_=>rfl
   | [_],_=>rfl
   | [a,b],hf=>have ha:rO a=true:=wX.1 hf a (by simp);have hb:rO b=true:=wX.1 hf b (by simp);show ao ((kf (λ_=>zS [a,.int 0,.int (m - 1)]) (λ_=>zS [b,.int 0,.int wd]) []).out _ .rt |>.seq oNx)=_;rw[kf,kj ha,kj hb];show ao ((if inB a 0 (m - 1)=true then R.ok (D.bl (inB b 0 wd))else R.ok (D.bl false)).out _ .rt |>.seq oNx)=R.ok (D.bl (inB a 0 (m - 1) && inB b 0 wd));cases inB a 0 (m - 1) <;> rfl
   |a::b::c::l,_=>
    show ao (aw _ _ [some (.val (.tup (a::b::c::l))),some (.val (.int wd)),some (.val (.int m))])=_;have t1:gZ (λx=>x=="tuple") (.tup (a::b::c::l))=.ok (.bl true):=rfl;have t2:ie (.bl true)=.ok true:=rfl;have t3:eI [.tup (a::b::c::l)]=some (.int (a::b::c::l).length):=rfl;have t4:neF (.int (a::b::c::l).length) (.int 2)=some (.bl true):=by
     have:(((a::b::c::l).length:Int)==2)=false:=by simp;omega
     show some (D.bl (!(((a::b::c::l).length:Int)==2)))=_;rw[this];rfl
    simp only[aw,oIf,rh,gBn,aq,gB2,g2,cF,gOf,aa,rd0,R.ok_bind,R.ok_out,t1,t2,t3,t4,cC,i9,t9,uf];rfl
  ·exact Or.inl (if_neg hf)
noncomputable def rL:D->Bool
 |.exc _=>false
 |.dct _ _=>false
 |.tup [w,r,p]=>rO w && (match r with|.exc _=>false|.dct _ _=>false|.tup xs=>xs.all Hh|_=>true) && (match p with|.exc _=>false|.dct _ _=>false|.tup xs=>xs.all rO|_=>true)
 |_=>true
noncomputable def screen:D->Bool
 |.tup [a,r,p]=>match a with
  |.int wd=>inB (.int wd) 1 40 && xF r wd && (match r with|.tup rows=>sG p wd rows.length|_=>false)
  |_=>false
 |_=>false
noncomputable def mD:List D->R D
 | [d]=>if rL d=true then .ok (.bl (screen d))else .no
 |_=>.no
noncomputable def dW(aE cb gz:List D->R D):Ev->O:=(aw (oIf (rh (gBn (aq ie (aq (gZ (·=="tuple")) (rvz 0)))) (gB2 neF (gOf eI (aa (rvz 0) nlz)) (ciz 3))) (aw (cF (λ_=>R.ok (D.bl false))) oNx) oNx) (aw (fA 1 (g2 ixD (rvz 0) (ciz 0))) (aw (oIf (rh (gBn (aq ie (aD 3 aE (aa (rvz 1) (aa (ciz 1) (aa (ciz 40) nlz)))))) (gBn (aq ie (aD 2 cb (aa (g2 ixD (rvz 0) (ciz 1)) (aa (rvz 1) nlz)))))) (aw (cF (λ_=>R.ok (D.bl false))) oNx) oNx) (aw (cF (aD 3 gz (aa (g2 ixD (rvz 0) (ciz 2)) (aa (rvz 1) (aa (gOf eI (aa (g2 ixD (rvz 0) (ciz 1)) nlz)) nlz))))) oNx))))
def tD:∀ds:List D,ds.length=1->mD ds=.no\/ao (dW zS yP pK (ai 2 ds))=mD ds:=by
 intro ds hl;unfold dW
 match ds,hl with
 | [d],_=>
  cases d <;> first|exact Or.inl rfl|exact Or.inr rfl|skip
  rename_i xs hl
  match xs with
  | []=>exact Or.inr rfl
  | [_]=>exact Or.inr rfl
  | [_,_]=>exact Or.inr rfl
  |a::b::c::e::l=>
   refine Or.inr ?_;show ao (aw _ _ [some (.val (.tup (a::b::c::e::l))),none])=_;have t1:gZ (λx=>x=="tuple") (.tup (a::b::c::e::l))=.ok (.bl true):=rfl;have t2:ie (.bl true)=.ok true:=rfl;have t3:eI [.tup (a::b::c::e::l)]=some (.int (a::b::c::e::l).length):=rfl;have t4:neF (.int (a::b::c::e::l).length) (.int 3)=some (.bl true):=by
    have:(((a::b::c::e::l).length:Int)==3)=false:=by simp;omega
    show some (D.bl (!(((a::b::c::e::l).length:Int)==3)))=_;rw[this];rfl
   simp only[aw,oIf,rh,gBn,aq,gB2,g2,cF,gOf,aa,rd0,R.ok_bind,R.ok_out,t1,t2,t3,t4,cC,i9,t9,uf];rfl
  | [a,r,p]=>
   by_cases hf:rL (.tup [a,r,p])=true
   ·refine Or.inr ?_;have e2:mD [.tup [a,r,p]]=.ok (.bl (screen (.tup [a,r,p]))):=if_pos hf;rw[e2];simp only[rL,w5]at hf;obtain⟨⟨ha,hr⟩,hp⟩:=hf;show ao (aw _ _ [some (.val (.tup [a,r,p])),none])=_;have t1:gZ (λx=>x=="tuple") (.tup [a,r,p])=.ok (.bl true):=rfl;have t2:∀k,ie (.bl k)=.ok k:=λ_=>rfl;have t3:eI [.tup [a,r,p]]=some (.int 3):=rfl;have t4:neF (.int 3) (.int 3)=some (.bl false):=rfl;have x0:ixD (.tup [a,r,p]) (.int 0)=some a:=rfl;have x1:ixD (.tup [a,r,p]) (.int 1)=some r:=rfl;have x2:ixD (.tup [a,r,p]) (.int 2)=some p:=rfl;have s1:([some (.val (.tup [a,r,p])),none]:Ev).set 1 (some (.val a))=[some (.val (.tup [a,r,p])),some (.val a)]:=rfl;simp only[aw,oIf,fA,rh,gBn,aq,gB2,g2,cF,gOf,aa,rd0,rd1,R.ok_bind,R.ok_out,t1,t2,t3,t4,x0,x1,x2,s1,yU,Bd,cC,asB,oNx,O.seq,i9,t9,uf,kj ha];cases hi:inB a 1 40 with
    |false=>
     have:screen (.tup [a,r,p])=false:=by
      cases a <;> first|rfl|skip
      simp only[screen,hi,iD]
     rw[this];rfl
    |true=>
     cases a <;> first|(cases hi;done)|skip
     rename_i i;have e3:yP [r,.int i]=.ok (.bl (xF r i)):=by cases r <;> first|rfl|(cases hr;done)|exact if_pos hr
     cases hq:xF r i with
     |false=>
      have:screen (.tup [.int i,r,p])=false:=by simp only[screen,hi,hq,j6,iD]
      rw[e3,hq,this];rfl
     |true=>
      cases r <;> first|(cases hq;done)|skip
      rename_i rows;have e4:pK [p,.int i,.int rows.length]=.ok (.bl (sG p i rows.length)):=by cases p <;> first|rfl|(cases hp;done)|exact if_pos hp
      have e5:screen (.tup [.int i,.tup rows,p])=sG p i rows.length:=by simp only[screen,hi,hq,kE,Bool.true_and]
      rw[e3,hq,e5];show ao ((pK [p,.int i,.int rows.length]).out _ .rt |>.seq _)=_;rw[e4];rfl
   ·exact Or.inl (if_neg hf)
noncomputable def qJ:List D->Option (List Int)
 | []=>some []
 |.int i::ds=>(qJ ds).map (i::·)
 |_=>none
theorem wL:∀{ds:List D}{ns:List Int},qJ ds=some ns->ds=ns.map .int
 | [],ns,h=>by cases h;rfl
 |d::ds,ns,h=>by
  cases d <;> first|(cases h;done)|skip
  rename_i i;cases q:qJ ds with
  |none=>simp[qJ,q]at h
  |some ms=>simp[qJ,q]at h;subst h;rw[wL q];rfl
theorem rF:∀ns:List Int,qJ (ns.map .int)=some ns
 | []=>rfl
 |i::ns=>by simp[qJ,rF ns]
noncomputable def cell(ns:List Int)(k:Nat):Int:=if k<ns.length then ns.getD k 0 else if ns.length=0 then 0 else ns.getD (k % ns.length) 0 * 31+k
def wg{ns:List Int}(h:k<ns.length):atI (ns.map D.int) (k:Int)=some (.int (ns.getD k 0)):=by
 have e:ixN (ns.map D.int).length (k:Int)=some k:=by
  rw[x8];simp[ixN]
  try omega
 rw[atI,e];simp[List.getD,h]
def tfr{F:List D->R D}{n:Nat}:∀ds:List D,ds.length=n->F ds=.no\/F ds=F ds:=λ_ _=>.inr rfl
noncomputable def dH:Ev->O:=(aw (oIf (gB2 ltD (rvz 1) (gOf eI (aa (rvz 0) nlz))) (aw (cF (g2 ixD (rvz 0) (rvz 1))) oNx) oNx) (aw (oIf (gB2 eqF (rvz 0) (bD (nX nlz))) (aw (cF (ciz 0)) oNx) oNx) (aw (cF (g2 bM (g2 fQ (g2 ixD (rvz 0) (g2 zE (rvz 1) (gOf eI (aa (rvz 0) nlz)))) (ciz 31)) (rvz 1))) oNx)))
noncomputable def CW:List D->R D:=λds=>ao (dH (ai 2 ds))
def yW{ns:List Int}{n:Nat}:CW [.lst fz (ns.map .int),.int n]=.ok (.int (cell ns n)):=by
 show ao (dH [some (.val (.lst fz (ns.map .int))),some (.val (.int n))])=_;unfold dH;have t3:eI [.lst fz (ns.map .int)]=some (.int ns.length):=by simp[eI]
 by_cases h1:n<ns.length
 ·have h1':(n:Int)<(ns.length:Int):=by omega
  have x1:ixD (.lst fz (ns.map .int)) (.int n)=some (.int (ns.getD n 0)):=wg h1;simp only[aw,oIf,gB2,g2,cF,gOf,aa,rd0,rd1,R.ok_bind,R.ok_out,t3,x1,cC,ltD,asB,h1',decide_true,u6,O.seq,ao,cell,h1]
 ·have h1' : ¬ (n:Int)<(ns.length:Int):=by omega
  cases ns with
  |nil=>rfl
  |cons a as=>
   have t4:eqF (.lst fz ((a::as).map .int)) (.lst false [])=some (.bl false):=rfl;have h2:n % (a::as).length<(a::as).length:=Nat.mod_lt _ (by simp);have x1:ixD (.lst fz ((a::as).map .int)) (.int ((n % (a::as).length:Nat):Int))=some (.int ((a::as).getD (n % (a::as).length) 0)):=wg h2;have m1:zE (.int n) (.int (a::as).length)=some (.int ((n % (a::as).length:Nat):Int)):=by
    have:(0:Int)<((a::as).length:Int):=by simp
    simp only[zE,this,u6];rw[Int.natCast_emod]
   have m2:∀z:Int,fQ (.int z) (.int 31)=some (.int (z * 31)):=λz=>if_pos (Or.inr (by decide));have z1:(0:Nat)<=sizeLine:=v8 _;have z2 : ¬ (a::as).length=0:=by simp
   simp only[aw,oIf,gB2,g2,cF,gOf,aa,bD,nX,rd0,rd1,R.ok_bind,R.ok_out,t3,t4,x1,m1,m2,cC,ltD,bM,asB,h1',Z7,t9,uf,O.seq,oNx,ao,cell,h1,Zy,z1,u6,z2]
noncomputable def drawn(ns:List Int)(k:Nat):Int:=(cell ns k+6151 * ((k:Int)+1)) * 40692 % 2147483399
noncomputable def dF(ns:List Int)(k:Nat)(m:Int):Int:=(drawn ns k * drawn ns k+drawn ns k / 31) % 2147483629 % m
def bu(ns:List Int)(k:Nat){m:Int}(h:0<m):0<=dF ns k m/\dF ns k m<m:=⟨Int.emod_nonneg _ (by omega),Int.emod_lt_of_pos _ h⟩
noncomputable def dG(eX:List D->R D):Ev->O:=(aw (fA 3 (g2 zE (g2 fQ (g2 bM (aD 2 eX (aa (rvz 0) (aa (rvz 1) nlz))) (g2 fQ (ciz 6151) (g2 bM (rvz 1) (ciz 1)))) (ciz 40692)) (ciz 2147483399))) (aw (cF (g2 zE (g2 zE (g2 bM (g2 fQ (rvz 3) (rvz 3)) (g2 CG (rvz 3) (ciz 31))) (ciz 2147483629)) (rvz 2))) oNx))
noncomputable def eW:List D->R D:=λds=>ao (dG CW (ai 4 ds))
def ci{ns:List Int}{n:Nat}{m:Int}(hm:0<m):eW [.lst fz (ns.map .int),.int n,.int m]=.ok (.int (dF ns n m)):=by
 show ao (dG CW [some (.val (.lst fz (ns.map .int))),some (.val (.int n)),some (.val (.int m)),none])=_;unfold dG;have m1:∀z:Int,fQ (.int 6151) (.int z)=some (.int (6151 * z)):=λz=>by show(if ((-(2 ^ 64):Int)<6151/\(6151:Int)<2 ^ 64)\/((-(2 ^ 64):Int)<z/\z<2 ^ 64)then some (D.int (6151 * z))else none)=_;exact if_pos (Or.inl (by decide))
 have m2:∀z:Int,fQ (.int z) (.int 40692)=some (.int (z * 40692)):=λz=>if_pos (Or.inr (by decide));have m3:∀z:Int,zE (.int z) (.int 2147483399)=some (.int (z % 2147483399)):=λz=>by show(if (0:Int)<2147483399 then some (D.int (z % 2147483399))else none)=_;exact if_pos (by decide)
 have m4:∀z:Int,zE (.int z) (.int 2147483629)=some (.int (z % 2147483629)):=λz=>by show(if (0:Int)<2147483629 then some (D.int (z % 2147483629))else none)=_;exact if_pos (by decide)
 have m5:∀z:Int,zE (.int z) (.int m)=some (.int (z % m)):=λz=>if_pos hm;have m6:∀z:Int,CG (.int z) (.int 31)=some (.int (z / 31)):=λz=>by show(if (0:Int)<31/\(31:Int)<1073741824 then some (D.int (z / 31))else none)=_;exact if_pos (by decide)
 have m7:∀i j:Int,bM (.int i) (.int j)=some (.int (i+j)):=λ_ _=>rfl;have hd:0<=drawn ns n/\drawn ns n<2147483399:=⟨Int.emod_nonneg _ (by decide),Int.emod_lt_of_pos _ (by decide)⟩
 have m8:fQ (.int (drawn ns n)) (.int (drawn ns n))=some (.int (drawn ns n * drawn ns n)):=if_pos (Or.inl (by omega));have s1:∀v,([some (.val (.lst fz (ns.map .int))),some (.val (.int n)),some (.val (.int m)),none]:Ev).set 3 v=[some (.val (.lst fz (ns.map .int))),some (.val (.int n)),some (.val (.int m)),v]:=λ_=>rfl;have q1:(cell ns n+6151 * ((n:Int)+1)) * 40692 % 2147483399=drawn ns n:=rfl;simp only[aw,fA,cF,g2,yU,rd0,rd1,rd2,rd3,R.ok_bind,R.ok_out,yW,m1,m2,m3,m4,m5,m6,m7,cC,O.seq,s1,q1,m8,ao,dF]
noncomputable def iV(C:Addr):List D->R D
 | [d]=>if rL d=true then (if screen d=true then .ok .non else .ex C)else .no
 |_=>.no
noncomputable def cN(eV:List D->R D)(ax:Addr):Ev->O:=(aw (oIf (gBn (aq ie (aD 1 eV (aa (rvz 0) nlz)))) (aw (iy ax (aa (csz [116,104,105,115,32,105,115,32,110,111,32,115,99,114,101,101,110]) nlz)) oNx) oNx) oNx)
def mW:∀ds:List D,ds.length=1->iV C ds=.no\/ao (cN mD C (ai 1 ds))=iV C ds:=by
 intro ds hl;unfold cN
 match ds,hl with
 | [d],_=>
  by_cases hf:rL d=true;·refine Or.inr ?_;have e1:mD [d]=.ok (.bl (screen d)):=if_pos hf;have e2:iV C [d]=if screen d=true then .ok .non else .ex C:=if_pos hf;rw[e2];show ao (aw _ _ [some (.val d)])=_;have t2:∀k,ie (.bl k)=.ok k:=λ_=>rfl;simp only[aw,oIf,iy,gBn,aq,DR,rd0,R.ok_bind,R.ok_out,e1,t2];cases screen d <;> rfl
  ·exact Or.inl (if_neg hf)
def EM{α:Type}(n:Nat)(x:α):(List.replicate n [x]).flatten=List.replicate n x:=by
 induction n with
 |zero=>rfl
 |succ n ih=>rw[r9,oE,ih];rfl
noncomputable def sgn(ns:List Int)(k:Nat):Nat:=([32,32,97,98,35]:List Nat).getD (dF ns k 5).toNat 0
def JQ(ns:List Int)(k:Nat):ixD (.str [32,32,97,98,35]) (.int (dF ns k 5))=some (.str [sgn ns k]):=by
 have h:=bu ns k (m:=5) (by decide);unfold sgn;generalize dF ns k 5=v at h;have:v=0\/v=1\/v=2\/v=3\/v=4:=by omega
 rcases this with rfl|rfl|rfl|rfl|rfl <;> rfl
def AV(ns:List Int)(k:Nat):32<=sgn ns k/\sgn ns k<=126:=by
 have h:=bu ns k (m:=5) (by decide);unfold sgn;generalize dF ns k 5=v at h;have:v=0\/v=1\/v=2\/v=3\/v=4:=by omega
 rcases this with rfl|rfl|rfl|rfl|rfl <;> decide
noncomputable def Dc:Ev->O:=aw (fA 3 (g2 bM (rvz 3) (g2 ixD (λx=>R.ok (D.str [32,32,97,98,35])) (aD 3 eW (aa (rvz 0) (aa (g2 bM (g2 bM (rvz 1) λx=>R.ok (D.int 1)) λρ=>rdV ρ 4) (aa (λx=>R.ok (D.int 5)) λx=>R.ok []))))))) oNx
theorem vR(ns:List Int)(fz:Bool)(a:Nat)(W:Option Sl):∀(ks:List Nat)(x:List Nat)(kk:Option Sl),x.length+ks.length<=sizeLine->
  ∃kk',da (lP 4) Dc (ks.map λi=>D.int (0+(i:Nat))) [some (.val (.lst fz (ns.map .int))),some (.val (.int a)),W,some (.val (.str x)),kk,none]=.nx [some (.val (.lst fz (ns.map .int))),some (.val (.int a)),W,some (.val (.str (x++ks.map λk=>sgn ns (a+1+k)))),kk',none]
 | [],x,kk,_=>⟨kk,by simp[da]⟩
 |k::ks,x,kk,h=>by
  have h':(x++[sgn ns (a+1+k)]).length+ks.length<=sizeLine:=by simp at h⊢;omega
  obtain⟨kk',ih⟩:=vR ns fz a W ks (x++[sgn ns (a+1+k)]) (some (.val (.int (0+(k:Nat))))) h';refine⟨kk',?_⟩;have hx:x.length+1<=sizeLine:=by simp at h;omega
  have c1:((a:Int)+1+(0+(k:Int)))=((a+1+k:Nat):Int):=by omega
  have p5:∀n:Nat,eW [.lst fz (ns.map .int),.int n,.int 5]=.ok (.int (dF ns n 5)):=λn=>ci (by decide);have m7:∀i j:Int,bM (.int i) (.int j)=some (.int (i+j)):=λ_ _=>rfl;have m8:bM (.str x) (.str [sgn ns (a+1+k)])=some (.str (x++[sgn ns (a+1+k)])):=if_pos hx;have hB:Dc [some (.val (.lst fz (ns.map .int))),some (.val (.int a)),W,some (.val (.str x)),some (.val (.int (0+(k:Nat)))),none]=.nx [some (.val (.lst fz (ns.map .int))),some (.val (.int a)),W,some (.val (.str (x++[sgn ns (a+1+k)]))),some (.val (.int (0+(k:Nat)))),none]:=by simp only[Dc,aw,fA,g2,Bd,rd0,rd1,rd3,rd4,R.ok_bind,m7,c1,p5,JQ,m8,cC,R.ok_out,O.seq,oNx];rfl
  rw[x9,da];show(match Dc [some (.val (.lst fz (ns.map .int))),some (.val (.int a)),W,some (.val (.str x)),some (.val (.int (0+(k:Nat)))),none]with
   |.nx ρ2=>da (lP 4) Dc _ ρ2
   |.ct ρ2=>da (lP 4) Dc _ ρ2
   |.bk ρ2=>O.nx ρ2
   |.rt d=>O.rt d
   |.re d ρ2=>.re d ρ2
   |.ex C ρ2=>O.ex C ρ2
   |.no=>O.no)=_;rw[hB];simp only[x9];rw[ih,lm];rfl
def C2{α:Type}(xs:List α)(l:Nat)(h:l<=xs.length):lw xs none (some (l:Int))=xs.take l:=by
 have h1:HT.sIx xs.length 0 none=0:=rfl;have h2:HT.sIx xs.length xs.length (some (l:Int))=l:=by
  simp only[HT.sIx]
  first|omega|(split <;> omega)
 unfold lw;rw[h1,h2];simp
noncomputable def xX(ns:List Int)(a wd:Nat):List Nat:=
 if dF ns (a+20) 2=0 then (List.range wd).map λk=>sgn ns (a+1+k)else ((List.range wd).map λk=>sgn ns (a+1+k)).take (dF ns a (wd+1)).toNat++List.replicate (wd - (dF ns a (wd+1)).toNat) 32
def mx(ns:List Int)(a wd:Nat):(xX ns a wd).length=wd:=by
 have h:=bu ns a (m:=(wd:Int)+1) (by omega);unfold xX;split;·simp
 ·simp;omega
def pH(ns:List Int)(a wd:Nat):plain (xX ns a wd)=true:=by
 have hm:∀c∈(List.range wd).map (λk=>sgn ns (a+1+k)),32<=c/\c<=126:=by intro c hc;obtain⟨k,_,rfl⟩:=ur.1 hc;exact AV ns _
 unfold plain;rw[wX];intro c hc;have:32<=c/\c<=126:=by
  unfold xX at hc;split at hc;·exact hm c hc
  ·rcases q9.1 hc with q|q;·exact hm c (bO q)
   ·have:=(Zz.1 q).2;omega
 simp[this.1,this.2]
def AY(h:wd<=100):cG [.int (wd:Int)]=.ok ((List.range wd).map λi=>D.int (0+(i:Nat))):=by
 have e:cG [.int (wd:Int)]=if -(2 ^ 62)<=(wd:Int)/\(wd:Int)<2 ^ 62 then .ok ((List.range (wd:Int).toNat).map λi=>D.int (0+(i:Nat)))else .no:=by simp only[cG]
 rw[e,if_pos (by constructor <;> omega),t5]
def L6{ns:List Int}{a:Nat}:eW [.lst fz (ns.map .int),.int ((a+20:Nat):Int),.int 2]=.ok (.int (dF ns (a+20) 2)):=ci (by decide)
noncomputable def Ma(pk:List D->R D):Ev->O:=aw (fA 5 (aD 3 pk (aa (rvz 0) (aa (rvz 1) (aa (g2 bM (rvz 2) λx=>R.ok (D.int 1)) λx=>R.ok [])))))
 (aw (cF (gIf (gB2 eqF (aD 3 pk (aa (rvz 0) (aa (g2 bM (rvz 1) λx=>R.ok (D.int 20)) (aa (λx=>R.ok (D.int 2)) λx=>R.ok [])))) λx=>R.ok (D.int 0)) (rvz 3)
  (g2 bM (gSl (rvz 3) (λx=>R.ok none) (mU λρ=>rdV ρ 5)) (g2 fQ (λx=>R.ok (D.str [32])) (g2 zo (rvz 2) λρ=>rdV ρ 5))))) oNx)
def yt{n:Nat}(h:n<=100):fQ (.str [32]) (.int (n:Int))=some (.str (List.replicate n 32)):=by
 have hz:(100:Nat)<=sizeLine:=by decide
 have e:[32]=[32]:=rfl;rw[e,<- EM n 32];simp only[fQ];rw[if_pos (by refine⟨by omega,by omega,?_⟩;simp;omega),t5]
def FV(pk:List D->R D)(S:D)(a wd l:Nat)(z:Int)(x:List Nat)(kk:Option Sl)(h1:pk [S,.int a,.int ((wd:Int)+1)]=.ok (.int (l:Int)))(h2:pk [S,.int ((a:Int)+20),.int 2]=.ok (.int z))(hx:x.length=wd)(hw:wd<=100)(hl:l<=wd):
  Ma pk [some (.val S),some (.val (.int a)),some (.val (.int wd)),some (.val (.str x)),kk,none]=.rt (.str (if z=0 then x else x.take l++List.replicate (wd - l) 32)):=by
 have c1:(wd:Int) - (l:Int)=((wd - l:Nat):Int):=by omega
 have m1:fQ (.str [32]) (.int ((wd - l:Nat):Int))=some (.str (List.replicate (wd - l) 32)):=yt (by omega);have m2:bM (.str (x.take l)) (.str (List.replicate (wd - l) 32))=some (.str (x.take l++List.replicate (wd - l) 32)):=BH (by have:=bC;simp;omega);have m3:=IZ x l;unfold Ma;clear hx hw hl
 walk_at "run"
 by_cases hz:z=0;·simp only[hz,u6,sE,R.ok_out,K2]
 ·have:(z==0)=false:=by simp[hz]
  simp only[hz,this,uf,t9,R.ok_out,K2]
noncomputable def xD(ak:List D->R D):Ev->O:=(aw (fA 3 (g2 bM (rvz 3) (g2 ixD (csz [32,32,97,98,35]) (aD 3 ak (aa (rvz 0) (aa (g2 bM (g2 bM (rvz 1) (ciz 1)) (rvz 4)) (aa (ciz 5) nlz))))))) oNx)
noncomputable def jc(ak:List D->R D):Ev->O:=(aw (fA 3 (csz [])) (aw (uy (lP 4) (aq cG (aa (rvz 2) nlz)) (xD ak)) (aw (fA 5 (aD 3 ak (aa (rvz 0) (aa (rvz 1) (aa (g2 bM (rvz 2) (ciz 1)) nlz))))) (aw (cF (gIf (gB2 eqF (aD 3 ak (aa (rvz 0) (aa (g2 bM (rvz 1) (ciz 20)) (aa (ciz 2) nlz)))) (ciz 0)) (rvz 3) (g2 bM (gSl (rvz 3) (λ_=>R.ok none) (mU (rvz 5))) (g2 fQ (csz [32]) (g2 zo (rvz 2) (rvz 5)))))) oNx))))
noncomputable def Bq:List D->R D:=λds=>ao (jc eW (ai 6 ds))
def wr{ns:List Int}{a:Nat}(hw3:wd<=100):Bq [.lst fz (ns.map .int),.int (a:Int),.int (wd:Int)]=.ok (.str (xX ns a wd)):=by
 show ao (aw (fA 3 (csz [])) (aw (uy (lP 4) (aq cG (aa (rvz 2) λ_=>R.ok [])) Dc) (Ma eW)) [some (.val (.lst fz (ns.map .int))),some (.val (.int a)),some (.val (.int wd)),none,none,none])=_;obtain⟨kk',hL⟩:=vR ns fz a (some (.val (.int wd))) (List.range wd) [] none (by have:=bC;simp;omega);have s2:uy (lP 4) (aq cG (aa (rvz 2) λ_=>R.ok [])) Dc [some (.val (.lst fz (ns.map .int))),some (.val (.int a)),some (.val (.int wd)),some (.val (.str [])),none,none]=.nx [some (.val (.lst fz (ns.map .int))),some (.val (.int a)),some (.val (.int wd)),some (.val (.str ([]++(List.range wd).map λk=>sgn ns (a+1+k)))),kk',none]:=by rw[zX,yy,wP,show ∀i ρ,rvz i ρ=rdV ρ i from λ_ _=>rfl,rd2,R.ok_bind,R.ok_bind,R.ok_bind,AY hw3,R.ok_out];exact hL
 have hp:=bu ns a (m:=(wd:Int)+1) (by omega);have s3:=FV eW (.lst fz (ns.map .int)) a wd (dF ns a ((wd:Int)+1)).toNat (dF ns (a+20) 2) ([]++(List.range wd).map λk=>sgn ns (a+1+k)) kk'
  (by rw[Zj hp.1];exact ci (by omega)) (by exact L6) (by simp) hw3 (by omega);rw[lA,Gw,R.ok_out,xA,lA];show ao ((uy (lP 4) _ Dc [some (.val (.lst fz (ns.map .int))),some (.val (.int a)),some (.val (.int wd)),some (.val (.str [])),none,none]).seq _)=_;rw[s2,xA,s3,MO];unfold xX;rw[rT]
noncomputable def vj(ns:List Int)(a wd m:Nat):List D:=(List.range m).map λk=>.str (xX ns (a+30 * k) wd)
noncomputable def N9(ns:List Int)(a wd m:Nat):D:=.tup [.int wd,.tup (vj ns a wd m),.tup [.int (dF ns (a+400) m),.int (dF ns (a+401) (wd+1))]]
noncomputable def fL(aY ak:List D->R D):Ev->O:=(aw (fA 4 (gOf md (aa (bD (fK (aq cG (aa (rvz 3) nlz)) [0,1,2] (λ_=>R.ok true) (aD 3 aY (aa (rvz 1) (aa (g2 bM (rvz 2) (g2 fQ (ciz 30) (rvz 0))) (aa (rvz 3) nlz)))))) nlz))) (aw (cF (aq mkT (aa (rvz 2) (aa (rvz 4) (aa (aq mkT (aa (aD 3 ak (aa (rvz 0) (aa (g2 bM (rvz 1) (ciz 400)) (aa (rvz 3) nlz)))) (aa (aD 3 ak (aa (rvz 0) (aa (g2 bM (rvz 1) (ciz 401)) (aa (g2 bM (rvz 2) (ciz 1)) nlz)))) nlz))) nlz))))) oNx))
noncomputable def BF:List D->R D:=λds=>ao (fL Bq eW (ai 5 ds))
def Ar{ns:List Int}{a m:Nat}(hw3:wd<=100)(hm:0<m)(hm3:m<=100):BF [.lst fz (ns.map .int),.int (a:Int),.int (wd:Int),.int (m:Int)]=.ok (N9 ns a wd m):=by
 have e:fV (λ_=>R.ok true) (aD 3 Bq (aa (rvz 1) (aa (g2 bM (rvz 2) (g2 fQ (ciz 30) λρ=>rdV ρ 0)) (aa (rvz 3) λ_=>R.ok []))))
   ((List.range m).map λ(i:Nat)=>D.int (i:Int)) [none,some (.val (.lst fz (ns.map .int))),some (.val (.int a)),some (.val (.int wd))]=.ok (((List.range m).map λ(i:Nat)=>D.int (i:Int)).map λd=>match d with|.int k=>.str (xX ns (a+30 * k.toNat) wd)|d=>d):=by
  refine jr _ _ _ none λd hd=>⟨rfl,?_⟩
  obtain⟨k,_,rfl⟩:=ur.1 hd;have m1:fQ (.int 30) (.int (k:Int))=some (.int ((30 * k:Nat):Int)):=by rw[Ea (by decide)];congr 2
  have m2:(a:Int)+((30 * k:Nat):Int)=((a+30 * k:Nat):Int):=by omega
  have m3:=wr (fz:=fz) (ns:=ns) (a:=a+30 * k) hw3
  walk_at "run"
  simp only[t5]
 show ao (aw _ _ [some (.val (.lst fz (ns.map .int))),some (.val (.int a)),some (.val (.int wd)),some (.val (.int m)),none])=_;have i1:iT [0,1,2] [some (.val (.lst fz (ns.map .int))),some (.val (.int a)),some (.val (.int wd)),some (.val (.int m)),none]=[none,some (.val (.lst fz (ns.map .int))),some (.val (.int a)),some (.val (.int wd))]:=rfl;have r1:cG [.int (m:Int)]=.ok ((List.range m).map λ(i:Nat)=>D.int (i:Int)):=wI (by omega);have z1:(((List.range m).map λ(i:Nat)=>D.int (i:Int)).map λd=>match d with|.int k=>.str (xX ns (a+30 * k.toNat) wd)|d=>d)=vj ns a wd m:=by rw[pS];unfold vj;refine List.map_congr_left λk _=>?_;simp
 have z2:(vj ns a wd m).length<=sizeLine:=by have:=bC;unfold vj;simp;omega
 have p1:eW [.lst fz (ns.map .int),.int ((a:Int)+400),.int (m:Int)]=.ok (.int (dF ns (a+400) m)):=by have:=ci (fz:=fz) (ns:=ns) (n:=a+400) (m:=m) (by omega);exact this
 have p2:eW [.lst fz (ns.map .int),.int ((a:Int)+401),.int ((wd:Int)+1)]=.ok (.int (dF ns (a+401) (wd+1))):=by have:=ci (fz:=fz) (ns:=ns) (n:=a+401) (m:=(wd:Int)+1) (by omega);exact this
 have k1:∀x:List D,md [.lst false x]=some (.tup x):=λ_=>rfl;have k2:∀x y:D,mkT [x,y]=.ok (.tup [x,y]):=λ_ _=>m_t (by simp);have k3:∀x y z:D,mkT [x,y,z]=.ok (.tup [x,y,z]):=λ_ _ _=>m_t (by simp);rw[z1]at e;clear hm hw3 hm3 z1
 walk_at "run"
 rfl
noncomputable def cl:Nat->D->Bool
 | 0,_=>false
 |_+1,.exc _=>false
 |_+1,.dct _ _=>false
 |n+1,.tup xs=>xs.all (cl n)
 |n+1,.lst _ xs=>xs.all (cl n)
 |_+1,_=>true
theorem qG{f:D->D->Option Bool}:∀xs:List D,(∀x∈xs,f x x=some true)->eqZ f xs xs=some (xs.map λ_=>true)
 | [],_=>rfl
 |x::xs,h=>by rw[eqZ,h x (v3 ..),qG xs λy hy=>h y (w4 _ hy)];rfl
theorem pT{α:Type}:∀xs:List α,(xs.map λ_=>true).all id=true
 | []=>rfl
 |_::xs=>by rw[x9,oR,pT xs];rfl
theorem lM:∀(n m:Nat)(d:D),n<=m->cl n d=true->eqD m d d=some true
 | 0,_,_,_,h=>by simp[cl]at h
 |n+1,0,_,h,_=>by omega
 |n+1,m+1,d,hm,h=>by
  cases d <;> first|(simp[cl]at h;done)|(simp[eqD];done)|skip
  ·rename_i xs;simp only[cl,wX]at h;have:=qG (f:=eqD m) xs λx hx=>lM n m x (by omega) (h x hx);simp only[eqD,this,uo,pT,sE,kE]
  ·rename_i fz xs;simp only[cl,wX]at h;have:=qG (f:=eqD m) xs λx hx=>lM n m x (by omega) (h x hx);simp only[eqD,u6,this,uo,pT]
def Bl(h:cl 10 d=true):neF d d=some (.bl false):=by unfold neF;rw[lM 10 40 d (by omega) h];rfl
def pM(h:cl 10 d=true):eqF d d=some (.bl true):=by unfold eqF;rw[lM 10 40 d (by omega) h];rfl
noncomputable def MD:List Nat->D->D->Option D
 | [],_,v=>some v
 |k::ks,.tup xs,v=>match xs[k]? with
  |some x=>if xs.length<=1000 then (MD ks x v).map λy=>.tup (xs.take k++[y]++xs.drop (k+1))else none
  |none=>none
 |_,_,_=>none
noncomputable def HB:List D->Option (List Nat)
 | []=>some []
 |.int i::ds=>if 0<=i then (HB ds).map (i.toNat::·)else none
 |_::_=>none
noncomputable def pv(n:Nat):List D->R D
 | [d,.tup p,v]=>match HB p with
  |some ks=>if ks.length<n/\n<=500 then ofO (MD ks d v)else .no
  |none=>.no
 |_=>.no
noncomputable def pt:Nat->D->Bool
 | 0,_=>false
 |_+1,.int _=>true
 |_+1,.str x=>decide (x.length<=900)
 |n+1,.tup xs=>xs.all (pt n) && decide (xs.length<=900)
 |_+1,_=>false
noncomputable def ME:Nat->D->Bool
 | 0,_=>true
 |_+1,.exc _=>false
 |_+1,.dct _ _=>false
 |_+1,.str x=>decide (x.length<=1000)
 |n+1,.tup xs=>xs.all (ME n)
 |n+1,.lst _ xs=>xs.all (ME n)
 |_+1,_=>true
noncomputable def kG(av:List D->R D):Ev->O:=(aw (cF (kf (g2 eqF (gOf eI (aa (rvz 0) nlz)) (ciz 2)) (kf (g2 eqF (g2 ixD (rvz 0) (ciz 0)) (csz [115,97,121])) (kf (aD 1 av (aa (g2 ixD (rvz 0) (ciz 1)) nlz)) (g3 leD leD (ciz 1) (gOf eI (aa (g2 ixD (rvz 0) (ciz 1)) nlz)) (ciz 40)))))) oNx)
noncomputable def mj(aE:List D->R D):Ev->O:=(aw (oIf (rh (gB2 neF (gOf eI (aa (rvz 0) nlz)) (ciz 3)) (gB2 neF (g2 ixD (rvz 0) (ciz 0)) (csz [103,111]))) (aw (cF (λ_=>R.ok (D.bl false))) oNx) oNx) (aw (cF (kf (aD 3 aE (aa (g2 ixD (rvz 0) (ciz 1)) (aa (ciz 0) (aa (g2 zo (ciz 12) (ciz 1)) nlz)))) (aD 3 aE (aa (g2 ixD (rvz 0) (ciz 2)) (aa (ciz 0) (aa (ciz 40) nlz)))))) oNx))
noncomputable def hY(jM nQ:List D->R D):Ev->O:=(aw (oIf (gBn (aq ie (aq (gZ (·=="tuple")) (rvz 0)))) (aw (cF (λ_=>R.ok (D.bl false))) oNx) oNx) (aw (cF (gOr (aD 1 jM (aa (rvz 0) nlz)) (gOr (aD 1 nQ (aa (rvz 0) nlz)) (g2 eqF (rvz 0) (aq mkT (aa (csz [119,105,112,101]) nlz)))))) oNx))
noncomputable def eY(gm:List D->R D)(aU:Addr):Ev->O:=(aw (oIf (gBn (aq ie (aD 1 gm (aa (rvz 0) nlz)))) (aw (iy aU (aa (csz [116,104,105,115,32,105,115,32,110,111,32,111,114,100,101,114]) nlz)) oNx) oNx) oNx)
noncomputable def scr(wd:Nat)(rows:List (List Nat))(r c:Nat):D:=.tup [.int (wd:Int),.tup (rows.map .str),.tup [.int (r:Int),.int (c:Int)]]
structure SOk(wd:Nat)(rows:List (List Nat))(r c:Nat):Prop where
 w:wd<=100
 c:c<=wd
 r:r<rows.length
 m:rows.length<=100
 l:∀x∈rows,x.length=wd
noncomputable def eU(bR:List D->R D)(aU:Addr):Ev->O:=(aw (kA (aD 1 bR (aa (rvz 1) nlz))) oNx)
noncomputable def dS(bR:List D->R D)(aU:Addr):Ev->O:=(aw (oIf (gBn (aq ie (aq (gZ (·=="list")) (rvz 0)))) (aw (iy aU (aa (csz [116,104,105,115,32,105,115,32,110,111,32,108,105,115,116,32,111,102,32,111,114,100,101,114,115]) nlz)) oNx) oNx) (aw (uy (lP 1) (aq bA (rvz 0)) (eU bR aU)) oNx))
noncomputable def fF:Ev->O:=(aw (oIf (gB2 eqF (g2 ixD (rvz 0) (ciz 0)) (csz [115,97,121])) (aw (cF (gOf eI (aa (g2 ixD (rvz 0) (ciz 1)) nlz))) oNx) oNx) (aw (oIf (gB2 eqF (g2 ixD (rvz 0) (ciz 0)) (csz [103,111])) (aw (cF (ciz 2)) oNx) oNx) (aw (cF (ciz 1)) oNx)))
noncomputable def qK(aQ bF:List D->R D):Ev->O:=(aw (kA (aD 1 aQ (aa (rvz 0) nlz))) (aw (cF (gOf Hf (aa (bD (fK (aq bA (rvz 0)) [] (λ_=>R.ok true) (aD 1 bF (aa (rvz 0) nlz)))) nlz))) oNx))
noncomputable def di:Ev->O:=(aw (oIf (gB2 neF (g2 ixD (rvz 0) (ciz 0)) (g2 ixD (rvz 1) (ciz 0))) (aw (cF (λ_=>R.ok D.non)) oNx) oNx) (aw (oIf (gB2 neF (g2 ixD (rvz 0) (ciz 0)) (csz [115,97,121])) (aw (cF (rvz 1)) oNx) oNx) (aw (fA 2 (g2 bM (g2 ixD (rvz 0) (ciz 1)) (g2 ixD (rvz 1) (ciz 1)))) (aw (cF (gIf (gB2 leD (gOf eI (aa (rvz 2) nlz)) (ciz 40)) (aq mkT (aa (csz [115,97,121]) (aa (rvz 2) nlz))) (λ_=>R.ok D.non))) oNx))))
noncomputable def fg(aQ bv:List D->R D):Ev->O:=(aw (Bb 1 3 (gIf (gB2 gtD (gOf eI (aa (rvz 1) nlz)) (ciz 0)) (aD 2 bv (aa (g2 ixD (rvz 1) (aq qX (ciz 1))) (aa (rvz 2) nlz))) (λ_=>R.ok D.non))) (aw (oIf (gB2 isF (rvz 3) (λ_=>R.ok D.non)) (aw (yk 1 (rvz 2)) oNx) (aw (xy 1 (aq qX (ciz 1)) (rvz 3)) oNx)) oNx))
noncomputable def gJ(aQ bv:List D->R D):Ev->O:=(aw (kA (aD 1 aQ (aa (rvz 0) nlz))) (aw (Ep 1 (nX nlz)) (aw (uy (lP 2) (aq bA (rvz 0)) (fg aQ bv)) (Ce 1 (aw (cF (rvz 1)) oNx)))))
inductive Od where
 |say (x:List Nat)
 |go (r c:Nat)
 |wipe
noncomputable def oD:Od->D
 |.say x=>.tup [.str [115,97,121],.str x]
 |.go r c=>.tup [.str [103,111],.int (r:Int),.int (c:Int)]
 |.wipe=>.tup [.str [119,105,112,101]]
noncomputable def okO:Od->Bool
 |.say x=>plain x && (decide (1<=x.length) && decide (x.length<=40))
 |.go r c=>decide (r<=11) && decide (c<=40)
 |.wipe=>true
noncomputable def db:Od->Nat
 |.say x=>x.length
 |.go _ _=>2
 |.wipe=>1
noncomputable def jf:Od->Od->Option Od
 |.say x,.say y=>if x.length+y.length<=40 then some (.say (x++y))else none
 |.go _ _,.go r c=>some (.go r c)
 |.wipe,.wipe=>some .wipe
 |_,_=>none
noncomputable def rf:Od->Nat
 |.say x=>x.length
 |_=>0
noncomputable def jD:Option Od->D
 |some o=>oD o
 |none=>.non
noncomputable def fR(acc:List Od)(o:Od):List Od:=match acc.getLast? with
 |none=>[o]
 |some l=>match jf l o with
  |some j=>acc.dropLast++[j]
  |none=>acc++[o]
def sB(o:Od):fR [] o=[o]:=rfl
def kI{acc:List Od}{l o j:Od}(h:jf l o=some j):fR (acc++[l]) o=acc++[j]:=by simp[fR,h]
def mO{acc:List Od}{l o:Od}(h:jf l o=none):fR (acc++[l]) o=acc++[l]++[o]:=by simp[fR,h]
noncomputable def shO(os:List Od):List Od:=os.foldl fR []
def FP(l:List Od):l=[]\/∃l' b,l=l'++[b]:=by
 rcases List.eq_nil_or_concat l with h|⟨l',b,h⟩;·exact .inl h
 ·exact .inr ⟨l',b,by rw[h,List.concat_eq_append]⟩
def LH(o:Od):fl 10 (oD o)=true:=by cases o <;> rfl
noncomputable def Iq(os:List Od):Nat:=(os.map rf).sum
def CP{l o j:Od}(h:jf l o=some j):rf j=rf l+rf o/\db j<=db l+db o:=by
 cases l <;> cases o <;> simp[jf]at h;·obtain⟨_,rfl⟩:=h;simp[rf,db]
 ·subst h;simp[rf,db]
 ·subst h;simp[rf,db]
def wF(acc:List Od)(o:Od):Iq (fR acc o)=Iq acc+rf o/\(fR acc o).length<=acc.length+1/\((fR acc o).map db).sum<=(acc.map db).sum+db o:=by
 rcases FP acc with rfl|⟨a,l,rfl⟩;·rw[sB];simp[Iq]
 ·cases hj:jf l o with
  |none=>rw[mO hj];simp[Iq,ZA];omega
  |some j=>obtain⟨h1,h2⟩:=CP hj;rw[kI hj];simp[Iq,ZA];omega
noncomputable def lh(aH:Addr)(ay:List D->R D):Ev->O:=(aw (kA (aD 1 ay (aa (rvz 1) nlz))) (aw (ze aH 0 0 (nX (aa (aq mkT (aa (csz [109,97,100,101]) (aa (rvz 1) (aa (ciz 0) nlz)))) nlz))) (aw (ze aH 0 1 (nX nlz)) oNx)))
noncomputable def jA(aH:Addr):Ev->O:=(aw (cF (g2 ixD (vJ aH 0 0 (aq qX (ciz 1))) (ciz 1))) oNx)
noncomputable def jX(aH:Addr):Ev->O:=(aw (cF (g2 ixD (vJ aH 0 0 (aq qX (ciz 1))) (ciz 2))) oNx)
noncomputable def hZ(aH:Addr)(gK:MF):Ev->O:=(aw (Gh aH 0 0 (aq mkT (aa (rvz 1) (aa (rvz 2) (aa (g2 bM (gC aH 0 gK) (rvz 3)) nlz))))) (aw (ze aH 0 1 (nX nlz)) oNx))
def kq{m:Bool}{p:Addr}{fs:List (Nat×Fd)}(h:ρ[i]?=some (some (.obj m C p fs))):tK C ρ i=.ok fs:=by unfold tK;rw[h];exact if_pos rfl
def nK{p:Addr}{fs:List (Nat×Fd)}(h:ρ[i]?=some (some (.obj true C p fs))):qZ C ρ i=.ok (p,fs):=by unfold qZ;rw[h];exact if_pos rfl
noncomputable def dA:List Nat:=[109,97,100,101]
noncomputable def dl(sts tk:List D):List (Nat×Fd):=[(0,.own sts),(1,.own tk)]
noncomputable def st3(a b:D)(c:Int):D:=.tup [a,b,.int c]
noncomputable def IP:List (Nat×Fd)->Option (List D×List D)
 | [(0,.own a),(1,.own b)]=>some (a,b)
 |_=>none
def EZ{fs:List (Nat×Fd)}{a b:List D}(h:IP fs=some (a,b)):fs=dl a b:=by
 unfold IP at h;split at h;·cases h;rfl
 ·cases h
noncomputable def t3D:D->Option (D×D×Int)
 |.tup [a,b,.int c]=>some (a,b,c)
 |_=>none
def IX{a b:D}{c:Int}(h:t3D d=some (a,b,c)):d=st3 a b c:=by
 unfold t3D at h;split at h;·cases h;rfl
 ·cases h
noncomputable def xG(sts:List D):Option (D×D×Int):=sts.getLast?.bind t3D
def B0{sts:List D}{a b:D}{c:Int}(h:xG sts=some (a,b,c)):∃l,sts=l++[st3 a b c]:=by
 unfold xG at h;cases q:sts.getLast? with
 |none=>rw[q]at h;cases h
 |some d=>rw[q]at h;have e:=IX h;subst e;exact List.getLast?_eq_some_iff.1 q
def zi(l:List D)(a b:D)(c:Int):xG (l++[st3 a b c])=some (a,b,c):=by unfold xG;rw[List.getLast?_concat];rfl
def yz(l:List D)(d:D):ixD (.lst false (l++[d])) (.int (-1))=some d:=by
 show atI (l++[d]) (-1)=some d;have e:ixN (l++[d]).length (-1)=some l.length:=by unfold ixN;rw[if_neg (by decide),if_pos (by simp;omega)];simp;omega
 unfold atI;rw[e];simp
section
variable{Cs Co Cr Cb Cp:Addr}
noncomputable def xn(Cs:Addr):MF:=λfs ds=>match fs,ds with
 | [],[d]=>(match iV Cs [d]with
  |.ok _=>.ok .non (dl [st3 (.str dA) d 0] [])
  |.ex E=>.ex E
  |.no=>.no)
 |_,_=>.no
noncomputable def Cu(k:List D->List D->D->D->Int->List D->RM):MF:=λfs ds=>match IP fs with
 |none=>.no
 |some (sts,tk)=>(match xG sts with
  |none=>.no
  |some (a,b,c)=>k sts tk a b c ds)
noncomputable def gU:MF:=Cu λ_ _ _ b _ ds=>match ds with
 | []=>.rd b
 |_=>.no
noncomputable def yF:MF:=Cu λ_ _ _ _ c ds=>match ds with
 | []=>.rd (.int c)
 |_=>.no
noncomputable def Gr:MF:=Cu λsts _ _ _ c ds=>match ds with
 | [a,b,.int p]=>if sts.length<1000 then .ok .non (dl (sts++[st3 a b (c+p)]) [])else .no
 |_=>.no
def kr(k:List D->List D->D->D->Int->List D->RM)(l tk:List D)(a b:D)(c:Int)(ds:List D):Cu k (dl (l++[st3 a b c]) tk) ds=k (l++[st3 a b c]) tk a b c ds:=by unfold Cu;have e:IP (dl (l++[st3 a b c]) tk)=some (l++[st3 a b c],tk):=rfl;rw[e];dsimp only;rw[zi]
def qm{g:Ev->O}{n:Nat}{k:List D->List D->D->D->Int->List D->RM}(h:∀p l tk a b c ds,match k (l++[st3 a b c]) tk a b c ds with
 |.ok d fs'=>∃ρ',ρ'[0]?=some (some (.obj true Cp p fs'))/\(g (dv true Cp p (dl (l++[st3 a b c]) tk) n ds)=.re d ρ'\/(g (dv true Cp p (dl (l++[st3 a b c]) tk) n ds)=.nx ρ'/\d=.non))
 |.rd d=>g (dv false Cp p (dl (l++[st3 a b c]) tk) n ds)=.rt d
 |.ex E=>∃ρ',g (dv false Cp p (dl (l++[st3 a b c]) tk) n ds)=.ex E ρ'
 |.no=>True):dU Cp g n (Cu k):=by
 intro p fs ds;cases q:IP fs with
 |none=>simp only[Cu,q]
 |some z=>
  obtain⟨sts,tk⟩:=z;have e:=EZ q;subst e;cases q2:xG sts with
  |none=>simp only[Cu,q,q2]
  |some z2=>obtain⟨a,b,c⟩:=z2;obtain⟨l,rfl⟩:=B0 q2;have:=h p l tk a b c ds;rw[kr];exact this
def fl0(sts tk:List D):fldL (dl sts tk) 0=.ok sts:=rfl
def fl1(sts tk:List D):fldL (dl sts tk) 1=.ok tk:=rfl
def pk0(sts tk x:List D):jL 0 (.own x) (dl sts tk)=dl x tk:=rfl
def pk1(sts tk x:List D):jL 1 (.own x) (dl sts tk)=dl sts x:=rfl
def GI:dU Cp (jA Cp) 1 gU:=by
 refine qm λp l tk a b c ds=>?_;cases ds with
 |cons _ _=>trivial
 |nil=>
  have l1:=yz l (st3 a b c);have f0:=fl0 (l++[st3 a b c]) tk;have o0:∀r,tK Cp (some (.obj false Cp p (dl (l++[st3 a b c]) tk))::r) 0=.ok (dl (l++[st3 a b c]) tk):=λr=>kq rfl;have ng1:qX (.int 1)=.ok (.int (-1)):=rfl;have i1:ixD (st3 a b c) (.int 1)=some b:=rfl;show aw _ _ [some (.obj false Cp p (dl (l++[st3 a b c]) tk))]=_
  walk_at "run"
def FW:dU Cp (jX Cp) 1 yF:=by
 refine qm λp l tk a b c ds=>?_;cases ds with
 |cons _ _=>trivial
 |nil=>
  have l1:=yz l (st3 a b c);have f0:=fl0 (l++[st3 a b c]) tk;have o0:∀r,tK Cp (some (.obj false Cp p (dl (l++[st3 a b c]) tk))::r) 0=.ok (dl (l++[st3 a b c]) tk):=λr=>kq rfl;have ng1:qX (.int 1)=.ok (.int (-1)):=rfl;have i1:ixD (st3 a b c) (.int 2)=some (.int c):=rfl;show aw _ _ [some (.obj false Cp p (dl (l++[st3 a b c]) tk))]=_
  walk_at "run"
def Hj{l:List D}(h:(l++[d]).length<1000):(l++[d]).length<sizeLine:=Nat.lt_trans h (by decide)
def HU:dU Cp (hZ Cp yF) 4 Gr:=by
 refine qm λp l tk a b c ds=>?_
 match ds with
 | []=>trivial
 | [_]=>trivial
 | [_,_]=>trivial
 |_::_::_::_::_=>simp
 | [x,y,z]=>
  cases z with
  |int pr=>
   dsimp only;by_cases hl:(l++[st3 a b c]).length<1000
   ·rw[if_pos hl];dsimp only;have f0:=fl0 (l++[st3 a b c]) tk;have lk:=Hj hl;have s1:yF (dl (l++[st3 a b c]) tk) []=.rd (.int c):=kr _ l tk a b c [];have o0:∀r,tK Cp (some (.obj true Cp p (dl (l++[st3 a b c]) tk))::r) 0=.ok (dl (l++[st3 a b c]) tk):=λr=>kq rfl;have o1:∀r fs,qZ Cp (some (.obj true Cp p fs)::r) 0=.ok (p,fs):=λr fs=>nK rfl;have mk3:∀x y z,mkT [x,y,z]=.ok (.tup [x,y,z]):=λ_ _ _=>rfl;have k0:=pk0 (l++[st3 a b c]) tk;have k1:=pk1 (l++[st3 a b c]++[st3 x y (c+pr)]) tk;have w:(dl (l++[st3 a b c]++[st3 x y (c+pr)]) tk).length<900:=by show 2<900;decide
    have e3:D.tup [x,y,D.int (c+pr)]=st3 x y (c+pr):=rfl;have z0:0<=sizeLine:=by decide
    have z3:3<=sizeLine:=by decide
    refine⟨[some (.obj true Cp p (dl (l++[st3 a b c]++[st3 x y (c+pr)]) [])),some (.val x),some (.val y),some (.val (.int pr))],rfl,.inr ⟨?_,rfl⟩⟩;show aw _ _ [some (.obj true Cp p (dl (l++[st3 a b c]) tk)),some (.val x),some (.val y),some (.val (.int pr))]=_;clear hl
    walk_at "run"
   ·rw[if_neg hl];trivial
  |_=>trivial
def HJ:dU Cp (lh Cp (iV Cs)) 2 (xn Cs):=by
 intro p fs ds;unfold xn
 match fs,ds with
 | [],[d]=>
  dsimp only;cases hc:iV Cs [d]with
  |no=>trivial
  |ex E=>
   dsimp only;refine⟨[some (.obj false Cp p []),some (.val d)],?_⟩;show aw _ _ [some (.obj false Cp p []),some (.val d)]=_
   walk_at "run"
  |ok x=>
   dsimp only;have o1:∀r fs,qZ Cp (some (.obj true Cp p fs)::r) 0=.ok (p,fs):=λr fs=>nK rfl;have mk3:∀x y z,mkT [x,y,z]=.ok (.tup [x,y,z]):=λ_ _ _=>rfl;have z1:1<=sizeLine:=by decide
   have z0:0<=sizeLine:=by decide
   have w0:(0:Nat)<900:=by decide
   have w1':(1:Nat)<900:=by decide
   have k0:jL 0 (.own [.tup [.str [109,97,100,101],d,.int 0]]) []=[(0,Fd.own [st3 (.str dA) d 0])]:=rfl;have w1:([(0,Fd.own [st3 (.str dA) d 0])]:List (Nat×Fd)).length<900:=by show 1<900;decide
   have k1:jL 1 (.own []) [(0,Fd.own [st3 (.str dA) d 0])]=dl [st3 (.str dA) d 0] []:=rfl;refine⟨[some (.obj true Cp p (dl [st3 (.str dA) d 0] [])),some (.val d)],rfl,.inr ⟨?_,rfl⟩⟩;show aw _ _ [some (.obj true Cp p []),some (.val d)]=_
   walk_at "run"
 | [],[]=>trivial
 | [],_::_::_=>trivial
 |_::_,_=>trivial
end
noncomputable def iG(ak dt:List D->R D):Ev->O:=(aw (cF (aD 4 dt (aa (rvz 0) (aa (g2 bM (rvz 1) (ciz 5)) (aa (g2 bM (ciz 1) (aD 3 ak (aa (rvz 0) (aa (rvz 1) (aa (ciz 8) nlz))))) (aa (g2 bM (ciz 1) (aD 3 ak (aa (rvz 0) (aa (g2 bM (rvz 1) (ciz 1)) (aa (ciz 4) nlz))))) nlz)))))) oNx)
def Kj(a b c:D):ixD (.tup [a,b,c]) (.int 0)=some a:=rfl
def Kx(a b c:D):ixD (.tup [a,b,c]) (.int 1)=some b:=rfl
def MV(a b c:D):ixD (.tup [a,b,c]) (.int 2)=some c:=rfl
def t3(x y z:D):mkT [x,y,z]=.ok (.tup [x,y,z]):=m_t (by simp)
def t2(x y:D):mkT [x,y]=.ok (.tup [x,y]):=m_t (by simp)
def Nd(x:List D):bA (.tup x)=.ok x:=rfl
def Kk(f:Bool)(x:List D):bA (.lst f x)=.ok x:=rfl
def ng(i:Int):qX (.int i)=.ok (.int (-i)):=rfl
def uY(h:screen d=true):rL d=true:=by
 cases d <;> first|(cases h;done)|skip
 rename_i xs
 match xs,h with
 | [],h=>cases h
 | [_],h=>cases h
 | [_,_],h=>cases h
 |a::b::c::e::l,h=>cases h
 | [a,r,p],h=>
  cases a <;> first|(cases h;done)|skip
  rename_i i;cases r <;> first|(simp[screen,xF]at h;done)|skip
  rename_i rows;simp only[screen,w5]at h;obtain⟨⟨h1,h2⟩,h3⟩:=h;simp only[xF,w5,wX]at h2;simp only[inB,w5,ug]at h1;simp only[rL,w5,wX];refine⟨⟨rfl,λr hr=>?_⟩,?_⟩
  ·have q:=h2.2 r hr;cases r <;> first|rfl|(cases q;done)|skip
   rename_i x;simp only[AG,w5,s8]at q;simp only[Hh,ug];have:=bC;omega
  ·cases p <;> first|(cases h3;done)|skip
   rename_i ps
   match ps,h3 with
   | [a,b],h3=>
    simp only[sG,w5]at h3;show [a,b].all rO=true;rw[wX];intro x hx;rcases xO.1 hx with rfl|hx;·cases x <;> first|rfl|exact absurd h3.1 (by simp[inB])
    ·rcases xO.1 hx with rfl|hx;·cases x <;> first|rfl|exact absurd h3.2 (by simp[inB])
     ·cases hx
def nr(h:screen d=true):iV C [d]=.ok .non:=by show(if rL d=true then (if screen d=true then R.ok D.non else .ex C)else .no)=_;rw[if_pos (uY h),if_pos h]
noncomputable def Am(b m r:Int):Bool:=decide (0<=b) && decide (b<=r - 1) && (decide (1<=m) && decide (m<=r - b))
noncomputable def HL(l w:Nat):D->D
 |.str x=>.str ((x.drop l).take w)
 |d=>d
noncomputable def L3:List D->R D
 | [.tup [.int wd,.tup rows,p],.int t,.int l,.int h,.int w]=>if screen (.tup [.int wd,.tup rows,p])=true/\Am t h rows.length=true/\Am l w wd=true then .ok (.tup [.int w,.tup (((rows.drop t.toNat).take h.toNat).map (HL l.toNat w.toNat)),.tup [.int 0,.int 0]])else .no
 |_=>.no
def Fe{wd:Int}{p:D}(h:screen (.tup [.int wd,.tup rows,p])=true):(1<=wd/\wd<=40)/\(1<=rows.length/\rows.length<=12)/\(∀r∈rows,∃x,r=.str x/\plain x=true/\(x.length:Int)=wd)/\sG p wd rows.length=true:=by
 simp only[screen,w5]at h;obtain⟨⟨h1,h2⟩,h3⟩:=h;simp only[xF,w5,wX,ug]at h2;simp only[inB,w5,ug]at h1;refine⟨h1,h2.1,λr hr=>?_,h3⟩;have q:=h2.2 r hr;cases r <;> first|(cases q;done)|skip
 rename_i x;simp only[AG,w5,s8]at q;exact⟨x,rfl,q.1,q.2⟩
noncomputable def wS(ns:List Int)(a:Nat):Nat:=(1+dF ns a 8).toNat
noncomputable def mS(ns:List Int)(a:Nat):Nat:=(1+dF ns (a+1) 4).toNat
def pY(ns:List Int)(a:Nat):1<=wS ns a/\wS ns a<=8/\(1:Int)+dF ns a 8=(wS ns a:Int):=by have h:=bu ns a (m:=8) (by decide);unfold wS;omega
def pR(ns:List Int)(a:Nat):1<=mS ns a/\mS ns a<=4/\(1:Int)+dF ns (a+1) 4=(mS ns a:Int):=by have h:=bu ns (a+1) (m:=4) (by decide);unfold mS;omega
noncomputable def pl(ns:List Int)(a:Nat)(wd m:Nat):D:=.tup [.int (dF ns (a+400) m),.int (dF ns (a+401) (wd+1))]
noncomputable def scS(ns:List Int)(a:Nat):D:=.tup [.int (wS ns a:Int),.tup (vj ns (a+5) (wS ns a) (mS ns a)),pl ns (a+5) (wS ns a) (mS ns a)]
noncomputable def xk:List D->R D:=λds=>ao (iG eW BF (ai 2 ds))
def yH{ns:List Int}{a:Nat}:xk [.lst fz (ns.map .int),.int (a:Int)]=.ok (scS ns a):=by
 show ao (aw _ _ [some (.val (.lst fz (ns.map .int))),some (.val (.int a))])=_;have p1:eW [.lst fz (ns.map .int),.int (a:Int),.int 8]=.ok (.int (dF ns a 8)):=ci (by decide);have p2:eW [.lst fz (ns.map .int),.int ((a:Int)+1),.int 4]=.ok (.int (dF ns (a+1) 4)):=ci (n:=a+1) (by decide);obtain⟨w1,w2,w3⟩:=pY ns a;obtain⟨m1,m2,m3⟩:=pR ns a;have s1:BF [.lst fz (ns.map .int),.int ((a:Int)+5),.int (wS ns a:Int),.int (mS ns a:Int)]=.ok (scS ns a):=Ar (a:=a+5) (by omega) (by omega) (by omega);clear w1 w2 m1 m2
 walk_at "run"
noncomputable abbrev St:=Nat×List (List Nat)×Nat×Nat
noncomputable def sD(s:St):D:=scr s.1 s.2.1 s.2.2.1 s.2.2.2
structure GS(s:St):Prop where
 w1:1<=s.1
 w2:s.1<=40
 m:s.2.1.length<=12
 r:s.2.2.1<s.2.1.length
 c:s.2.2.2<=s.1
 l:∀x∈s.2.1,x.length=s.1/\plain x=true
def GS.screen{s:St}(h:GS s):screen (sD s)=true:=by
 obtain⟨wd,rows,r,c⟩:=s;have h1:=h.w1;have h2:=h.w2;have h3:=h.m;have h4:=h.r;have h5:=h.c;have h6:=h.l;dsimp only at h1 h2 h3 h4 h5 h6;have hf:xF (.tup (rows.map .str)) (wd:Int)=true:=by simp only[xF,x8,w5,ug,wX];refine⟨⟨by omega,by omega⟩,λd hd=>?_⟩;obtain⟨x,hx,rfl⟩:=ur.1 hd;obtain⟨q1,q2⟩:=h6 x hx;simp[AG,q1,q2]
 simp only[sD,scr,Q.screen,hf,sG,inB,x8,w5,ug];refine⟨⟨⟨by omega,by omega⟩,trivial⟩,?_⟩;omega
def Mn(s:St):cl 10 (sD s)=true:=by
 have:(s.2.1.map D.str).all (cl 8)=true:=by rw[wX];intro d hd;obtain⟨x,_,rfl⟩:=ur.1 hd;rfl
 simp only[sD,scr,cl,oR,bV,this,kE,Bool.and_self]
def oX{x y:List Nat}(h1:plain x=true)(h2:plain y=true):plain (x++y)=true:=by simp only[plain,List.all_append,w5]at *;exact⟨h1,h2⟩
def lK{rows:List (List Nat)}{r:Nat}(h:r<rows.length):rows.getD r []∈rows:=by rw[v9,w9 h];exact lT h
def Hn(ns:List Int)(a:Nat):∃s:St,GS s/\scS ns a=sD s/\s.1=wS ns a/\s.2.1.length=mS ns a:=by
 obtain⟨w1,w2,_⟩:=pY ns a;obtain⟨m1,m2,_⟩:=pR ns a;have p1:=bu ns (a+5+400) (m:=(mS ns a:Int)) (by omega);have p2:=bu ns (a+5+401) (m:=(wS ns a:Int)+1) (by omega);refine⟨(wS ns a,(List.range (mS ns a)).map (λk=>xX ns (a+5+30 * k) (wS ns a)),(dF ns (a+5+400) (mS ns a)).toNat,(dF ns (a+5+401) (wS ns a+1)).toNat),⟨w1,by show wS ns a<=40;omega,by simp;omega,by simp;omega,by show(dF ns (a+5+401) (wS ns a+1)).toNat<=wS ns a;omega,λx hx=>?_⟩,?_,rfl,by simp⟩;·obtain⟨k,_,rfl⟩:=ur.1 hx;exact⟨mx ns _ _,pH ns _ _⟩
 ·show D.tup _=D.tup _;have e1:((dF ns (a+5+400) (mS ns a)).toNat:Int)=dF ns (a+5+400) (mS ns a):=by omega
  have e2:((dF ns (a+5+401) (wS ns a+1)).toNat:Int)=dF ns (a+5+401) (wS ns a+1):=by omega
  unfold pl vj;dsimp only;rw[e1,e2,pS];rfl
noncomputable def No(os:List Od):Int:=((os.map db).sum:Nat)
def DB{l tk:List D}{a:D}{s:St}{c:Int}:gU (dl (l++[st3 a (sD s) c]) tk) []=.rd (sD s):=kr _ l tk a (sD s) c []
def Fz{Cs:Addr}{s:St}(h:GS s):Bn (xn Cs) 1 [sD s]=.ok (dl [st3 (.str dA) (sD s) 0] []):=by have e:iV Cs [sD s]=.ok .non:=nr h.screen;unfold Bn xn;rw[if_pos (show [sD s].length=1 from rfl)];dsimp only;rw[e]
section
variable{Cs Co Cr Cp:Addr}
inductive Dd where
 |scroll (z:Int)
 |ord (o:Od)
end
section
variable{Cs Co Cr:Addr}
def CU{n:Nat}{p:Addr}{fs:List (Nat×Fd)}(ho:ρ[i]?=some (some (.obj true C p fs)))(ha:gl ρ=.ok ds)(hl:ds.length=n)(hF:F fs ds=.ok d fs'):jV C i n F gl ρ=.re d (ρ.set i (some (.obj true C p fs'))):=by unfold jV Kf;rw[ho];dsimp only;rw[if_pos rfl,R.ok_out,ha,R.ok_out];dsimp only;rw[if_pos hl,hF];rfl
end
noncomputable def hX(ay av:List D->R D):Ev->O:=(aw (kA (aD 1 ay (aa (rvz 0) nlz))) (aw (oIf (rh (gBn (aq ie (aq (gZ (·=="list")) (rvz 1)))) (gB2 gtD (gOf eI (aa (rvz 1) nlz)) (gOf eI (aa (g2 ixD (rvz 0) (ciz 1)) nlz)))) (aw (cF (λ_=>R.ok (D.bl false))) oNx) oNx) (aw (cF (gOf Ag (aa (bD (fK (aq bA (rvz 1)) [0] (λ_=>R.ok true) (kf (aD 1 av (aa (rvz 0) nlz)) (g2 leD (gOf eI (aa (rvz 0) nlz)) (g2 ixD (rvz 1) (ciz 0)))))) nlz))) oNx)))
noncomputable def dN(av:List D->R D):Ev->O:=(aw (oIf (rh (gBn (aq ie (aq (gZ Eb) (rvz 0)))) (gBn (gB3 leD leD (ciz 1) (gOf eI (aa (rvz 0) nlz)) (ciz 10)))) (aw (cF (λ_=>R.ok (D.bl false))) oNx) oNx) (aw (cF (gOf Ag (aa (bD (fK (aq bA (rvz 0)) [] (λ_=>R.ok true) (kf (aD 1 av (aa (rvz 0) nlz)) (g2 leD (gOf eI (aa (rvz 0) nlz)) (ciz 38))))) nlz))) oNx))
theorem mE:∀{ds:List D}{xs:List (List Nat)},lr ds=some xs->ds=xs.map .str
 | [],xs,h=>by cases h;rfl
 |d::ds,xs,h=>by
  cases d <;> first|(cases h;done)|skip
  rename_i x;cases q:lr ds with
  |none=>simp[lr,q]at h
  |some ys=>simp[lr,q]at h;subst h;rw[mE q];rfl
noncomputable def txt(m:Nat)(x:List Nat):Bool:=plain x && decide (x.length<=m)
noncomputable def okT(xs:List (List Nat)):Bool:=decide (1<=xs.length) && decide (xs.length<=10) && xs.all (txt 38)
def okT_iff{xs:List (List Nat)}:okT xs=true ↔ (1<=xs.length/\xs.length<=10)/\∀x∈xs,plain x=true/\x.length<=38:=by simp only[okT,txt,w5,ug,wX]
noncomputable def L7:D->Option (List (List Nat))
 |.lst _ ds=>lr ds
 |.tup ds=>lr ds
 |_=>none
def jo{x:List Nat}(h:x.length<=1000):im [.str x]=.ok (.bl (plain x)):=if_pos (w8 h bC)
noncomputable def EV:List D->R D
 | [d]=>match L7 d with
  |some xs=>if okT xs=true then .ok (.bl true)else .no
  |none=>.no
 |_=>.no
def Dw{xs:List (List Nat)}(h:L7 d=some xs):(∃f,d=.lst f (xs.map .str))\/d=.tup (xs.map .str):=by
 cases d <;> first|(cases h;done)|skip
 ·exact .inr (by rw[mE h])
 ·exact .inl ⟨_,by rw[mE h]⟩
def Cw(m:Nat)(hm:m<=1000)(mm:Int)(hmm:mm=m){xs:List (List Nat)}(h:∀x∈xs,plain x=true/\x.length<=m)(tl:Ev)(g:Ev->R D)(hg:∀a,g (a::tl)=.ok (.int mm)):fV (λ_=>R.ok true) (kf (aD 1 im (aa (rvz 0) nlz)) (g2 leD (gOf eI (aa (rvz 0) nlz)) g)) (xs.map .str) (none::tl)=.ok ((xs.map D.str).map λ_=>.bl true):=by
 refine jr _ _ _ none λd hd=>⟨rfl,?_⟩
 obtain⟨x,hx,rfl⟩:=ur.1 hd;obtain⟨h1,h2⟩:=h x hx;have p1:=jo (x:=x) (by omega);rw[h1]at p1;have q1:decide ((x.length:Int)<=mm)=true:=by simp;omega
 have hg':=hg (some (.val (.str x)));clear hd hx h1 h2 h hg hmm hm
 walk_at "run"
def DE(f:Bool)(ds:List D):Ag [.lst f (ds.map λ_=>D.bl true)]=some (.bl true):=by have:=lH (λ_=>true) f ds;rw[this];simp
def mw:∀ds:List D,ds.length=1->EV ds=.no\/ao (dN im (ai 1 ds))=EV ds:=by
 intro ds hl
 match ds,hl with
 | [d],_=>
  cases hs:L7 d with
  |none=>exact Or.inl (by simp only[EV,hs])
  |some xs=>
   by_cases hk:okT xs=true
   ·refine Or.inr ?_;have e2:EV [d]=.ok (.bl true):=by simp only[EV,hs,hk,u6]
    rw[e2];obtain⟨⟨n1,n2⟩,hx⟩:=okT_iff.1 hk;have cmp:=Cw 38 (by decide) 38 rfl hx [] (ciz 38) (λ_=>rfl);have z:((xs.map D.str).map λ_=>D.bl true).length<=sizeLine:=by have:=bC;simp;omega
    have al:=DE false (xs.map D.str);have i1:∀v:Option Sl,iT [] [v]=[none]:=λ_=>rfl;have q1:decide ((1:Int)<=((xs.map D.str).length:Int))=true:=by simp;omega
    have q2:decide (((xs.map D.str).length:Int)<=10)=true:=by simp;omega
    rcases Dw hs with⟨f,rfl⟩|rfl
    ·show ao (aw _ _ [some (.val (.lst f (xs.map .str)))])=_;have y1:gZ Eb (.lst f (xs.map .str))=.ok (.bl true):=rfl;have l1:=Kk f (xs.map D.str);clear hs hk e2 n1 n2 hx
     walk_at "run"
    ·show ao (aw _ _ [some (.val (.tup (xs.map .str)))])=_;have y1:gZ Eb (.tup (xs.map .str))=.ok (.bl true):=rfl;have l1:=Nd (xs.map D.str);clear hs hk e2 n1 n2 hx
     walk_at "run"
   ·exact Or.inl (by simp only[EV,hs,hk,uf];rfl)
noncomputable def Ol(w:Nat):List Nat:=43::(List.replicate w 45++[43])
def LJ{x y:List D}(h:x.length+y.length<=sizeLine):bM (.lst false x) (.lst false y)=some (.lst false (x++y)):=by simp only[bM];rw[if_pos h]
noncomputable def cf(n wd:Nat)(xs:List (List Nat)):Bool:=decide (xs.length<=n) && xs.all (txt wd)
def jJ(c:Nat)(x:D)(xs:List D):bi c (x::xs)=.tup [.int (c:Int),x]::bi (c+1) xs:=by
 unfold bi;rw[v4,List.range_succ_eq_map,x9,pS];refine ut (_::·) (mP λi _=>?_);simp only[Function.comp,List.getD_cons_succ]
 congr 2
 congr 1
 congr 1
 omega
def kY(c:Nat):bi c []=[]:=rfl
noncomputable def jH(rows:List D)(wd:Nat):Prop:=∀r∈rows,∃x,r=D.str x/\x.length=wd/\plain x=true
def tB{x y:List Nat}(h1:plain x=true)(h2:plain y=true):plain (x++y)=true:=by simp only[plain,List.all_append,w5]at *;exact⟨h1,h2⟩
def xc{x:List Nat}(n:Nat)(h:plain x=true):plain (x.take n)=true:=by simp only[plain,wX]at *;exact λc hc=>h c (bO hc)
def xK{x:List Nat}(n:Nat)(h:plain x=true):plain (x.drop n)=true:=by simp only[plain,wX]at *;exact λc hc=>h c (List.mem_of_mem_drop hc)
def BJ{t:Nat}(h:jH rows wd)(ht:t<rows.length):∃x,rows.getD t .non=D.str x/\x.length=wd/\plain x=true:=by refine h _ ?_;rw[v9,w9 ht];exact lT ht
def BI{α:Type}(x:List α)(n:Nat):lw x (some (n:Int)) none=x.drop n:=by
 unfold lw;rw[HT.sIx_nat,HT.sIx_none];by_cases h:n<=x.length;·rw[Zw h,jR (by simp)]
 ·rw[Zx (by omega),Zf,List.take_nil,List.drop_of_length_le (by omega)]
def J2{α:Type}(x:List α)(n:Nat):lw x none (some (n:Int))=x.take n:=by
 unfold lw;rw[HT.sIx_nat,HT.sIx_none,j8,Nat.sub_zero];by_cases h:n<=x.length;·rw[Zw h]
 ·rw[Zx (by omega),jR (by omega),jR (by omega)]
def GA{p:D}(h:screen (.tup [.int (wd:Int),.tup rows,p])=true):jH rows wd:=by obtain⟨_,_,hr,_⟩:=Fe h;intro r m;obtain⟨x,rfl,a,b⟩:=hr r m;exact⟨x,rfl,by omega,a⟩
noncomputable def dB(gf:List D->R D)(ax:Addr):Ev->O:=(aw (oIf (gBn (aq ie (aD 2 gf (aa (rvz 0) (aa (rvz 1) nlz))))) (aw (iy ax (aa (csz [116,104,101,115,101,32,97,114,101,32,110,111,32,114,111,119,115,32,116,104,97,116,32,116,104,101,32,115,99,114,101,101,110,32,99,97,110,32,115,104,111,119]) nlz)) oNx) oNx) oNx)
noncomputable def gG:Ev->O:=(aw (fA 2 (g2 ixD (rvz 0) (ciz 0))) (aw (fA 3 (g2 zo (gOf eI (aa (g2 ixD (rvz 0) (ciz 1)) nlz)) (gOf eI (aa (rvz 1) nlz)))) (aw (cF (g2 bM (bD (fK (aq bA (rvz 1)) [2] (λ_=>R.ok true) (ox "str" kM (rvz 0) (aa (rvz 1) nlz)))) (g2 fQ (bD (nX (aa (g2 fQ (csz [32]) (rvz 2)) nlz))) (rvz 3)))) oNx)))
noncomputable def df(aX aM:List D->R D):Ev->O:=(aw (fA 5 (g2 ixD (g2 ixD (rvz 0) (ciz 1)) (rvz 3))) (aw (L8 2 (bD (fK (aq cG (aa (g2 ixD (rvz 0) (ciz 0)) nlz)) [3,4,5] (gB2 neF (g2 ixD (rvz 3) (rvz 0)) (g2 ixD (rvz 2) (rvz 0))) (aq mkT (aa (rvz 1) (aa (rvz 0) nlz)))))) oNx))
noncomputable def dR(aX aM:List D->R D):Ev->O:=(aw (kA (aD 2 aX (aa (rvz 0) (aa (rvz 1) nlz)))) (aw (Ep 2 (nX nlz)) (aw (uy (uh [3,4]) (aq lu (aD 2 aM (aa (rvz 0) (aa (rvz 1) nlz)))) (df aX aM)) (Ce 2 (aw (cF (rvz 2)) oNx)))))
def Aw{gt:Ev->R Bool}(p:D->Bool)(h:D->D)(tl:Ev)(ds:List D)(a:Option Sl)(H:∀d∈ds,gt (some (.val d)::tl)=.ok (p d)/\ge (some (.val d)::tl)=.ok (h d)):fV gt ge ds (a::tl)=.ok ((ds.filter p).map h):=
 mH p h tl ds a λd m=>⟨(H d m).1,λ_=>(H d m).2⟩
noncomputable def EU(wd:Nat)(x:List Nat):List Nat:=x++List.replicate (wd - x.length) 32
noncomputable def dC(k wd:Nat)(x y:List Nat):List D:=((List.range wd).filter λc=>!(x.getD c 0==y.getD c 0)).map λ(c:Nat)=>.tup [.int (k:Int),.int (c:Int)]
noncomputable def uM:D->List Nat
 |.str x=>x
 |_=>[]
noncomputable def fU(wd:Nat)(rows:List D):Nat->List D->List D
 |_,[]=>[]
 |k,y::ys=>dC k wd (uM (rows.getD k .non)) (uM y)++fU wd rows (k+1) ys
def nF(k wd:Nat)(x y:List Nat):(dC k wd x y).length<=wd:=by unfold dC;rw[x8];exact w8 (List.length_filter_le ..) (by simp)
theorem pG{F1 F2:List D->R D}{rows:List D}{wd:Nat}(hw:wd<=40)(hr:jH rows wd)(p:D)(x1:Option Sl):∀(ys:List D)(k:Nat)(x3 x4 x5:Option Sl)(acc:List D),k+ys.length<=rows.length->jH ys wd->acc.length+40 * ys.length<=1000->∃y3 y4 y5,da (uh [3,4]) (df F1 F2) (bi k ys) [some (.val (.tup [.int (wd:Int),.tup rows,p])),x1,some (.own acc),x3,x4,x5]
  = .nx [some (.val (.tup [.int (wd:Int),.tup rows,p])),x1,some (.own (acc++fU wd rows k ys)),y3,y4,y5]
 | [],k,x3,x4,x5,acc,_,_,_=>⟨x3,x4,x5,by rw[kY,qv,fU,t7]⟩
 |y::ys,k,x3,x4,x5,acc,hk,hy,ha=>by
  obtain⟨x,hx,a1,a2⟩:=BJ hr (show k<rows.length by simp at hk;omega);obtain⟨z,rfl,b1,b2⟩:=hy y (v3 ..);have hsr:=nF k wd x z;obtain⟨y3,y4,y5,ih⟩:=pG (F1:=F1) (F2:=F2) hw hr p x1 ys (k+1) (some (.val (.int (k:Int)))) (some (.val (.str z))) (some (.val (.str x))) (acc++dC k wd x z) (by simp at hk;omega) (λr m=>hy r (w4 _ m)) (by simp at ha⊢;omega);refine⟨y3,y4,y5,?_⟩;have hB:df F1 F2 [some (.val (.tup [.int (wd:Int),.tup rows,p])),x1,some (.own acc),some (.val (.int (k:Int))),some (.val (.str z)),x5]=.nx [some (.val (.tup [.int (wd:Int),.tup rows,p])),x1,some (.own (acc++dC k wd x z)),some (.val (.int (k:Int))),some (.val (.str z)),some (.val (.str x))]:=by
   have lb:=bC;have x0:=Kj;have x1':=Kx;have e1:ixD (.tup rows) (.int (k:Int))=some (.str x):=Kl (by rw[<- hx,v9,w9 (by simp at hk;omega)];rfl);have r1:cG [.int (wd:Int)]=.ok ((List.range wd).map λ(i:Nat)=>D.int (i:Int)):=wI (by omega);have m2:=t2;have e:fV (gB2 neF (g2 ixD (rvz 3) (rvz 0)) (g2 ixD (rvz 2) (rvz 0))) (aq mkT (aa (rvz 1) (aa (rvz 0) nlz))) ((List.range wd).map λ(i:Nat)=>D.int (i:Int)) [none,some (.val (.int (k:Int))),some (.val (.str z)),some (.val (.str x))]=.ok (dC k wd x z):=by
    have:=Aw (gt:=gB2 neF (g2 ixD (rvz 3) (rvz 0)) (g2 ixD (rvz 2) (rvz 0))) (ge:=aq mkT (aa (rvz 1) (aa (rvz 0) nlz))) (λd=>match d with|.int i=>!(x.getD i.toNat 0==z.getD i.toNat 0)|_=>false) (λd=>.tup [.int (k:Int),d]) [some (.val (.int (k:Int))),some (.val (.str z)),some (.val (.str x))] ((List.range wd).map λ(i:Nat)=>D.int (i:Int)) none λd hd=>by
     obtain⟨i,hi,rfl⟩:=ur.1 hd;rw[List.mem_range]at hi;have e2:ixD (.str x) (.int (i:Int))=some (.str [x.getD i 0]):=Ko (by rw[v9,w9 (by omega)];rfl);have e4:ixD (.str z) (.int (i:Int))=some (.str [z.getD i 0]):=Ko (by rw[v9,w9 (by omega)];rfl);have e3:(i:Int).toNat=i:=t5 i;have e5:∀u v:Nat,(([u]:List Nat)==[v])=(u==v):=λu v=>by simp
     clear ih hk ha hr hw hx a1 a2 b1 b2 hy lb hd hi hsr;refine⟨?_,?_⟩;·walk_at "run"
     ·walk_at "run"
    rw[this,List.filter_map,pS];unfold dC;refine ut R.ok ?_;simp only[Function.comp_def,t5]
   have i2:iT [3,4,5] [some (.val (.tup [.int (wd:Int),.tup rows,p])),x1,some (.own acc),some (.val (.int (k:Int))),some (.val (.str z)),some (.val (.str x))]=[none,some (.val (.int (k:Int))),some (.val (.str z)),some (.val (.str x))]:=rfl;have z1:(dC k wd x z).length<=sizeLine:=by omega
   have z2:acc.length+(dC k wd x z).length<=sizeLine:=by simp at ha;omega
   unfold df;clear ih hk ha hr hw hx a1 a2 b1 b2 hy lb hsr
   walk_at "run"
  rw[jJ,gM (ρ1:=[some (.val (.tup [.int (wd:Int),.tup rows,p])),x1,some (.own acc),some (.val (.int (k:Int))),some (.val (.str z)),x5]) rfl hB,ih,fU,hx,lm];rfl
def xE(n c:Nat)(h:(decide (32<=c) && decide (c<=126))=true):plain (List.replicate n c)=true:=by simp only[plain,wX];intro x hx;rw[(Zz.1 hx).2];exact h
noncomputable def cV:Ev->O:=(aw (cF (kf (g2 eqF (g2 ixD (rvz 0) (ciz 0)) (g2 ixD (rvz 1) (ciz 0))) (g2 eqF (g2 bM (g2 ixD (rvz 0) (ciz 1)) (g2 ixD (rvz 0) (ciz 2))) (g2 ixD (rvz 1) (ciz 1))))) oNx)
noncomputable def qT(aR aG:List D->R D):Ev->O:=(aw (He 2 (Az (gB2 gtD (gOf eI (aa (rvz 2) nlz)) (ciz 0)) (aq ie (aD 2 aG (aa (g2 ixD (rvz 2) (aq qX (ciz 1))) (aa (rvz 3) nlz))))) (aw (Bb 2 4 (g2 ixD (rvz 2) (aq qX (ciz 1)))) (aw (xy 2 (aq qX (ciz 1)) (aq mkT (aa (g2 ixD (rvz 4) (ciz 0)) (aa (g2 ixD (rvz 4) (ciz 1)) (aa (g2 bM (g2 ixD (rvz 4) (ciz 2)) (ciz 1)) nlz))))) oNx)) (aw (yk 2 (aq mkT (aa (g2 ixD (rvz 3) (ciz 0)) (aa (g2 ixD (rvz 3) (ciz 1)) (aa (ciz 1) nlz))))) oNx)) oNx)
noncomputable def iY(ak aY:List D->R D):Ev->O:=(aw (fA 6 (aD 3 ak (aa (rvz 0) (aa (g2 bM (rvz 1) (g2 fQ (ciz 40) (rvz 4))) (aa (ciz 4) nlz))))) (aw (oIf (gB2 eqF (rvz 6) (ciz 0)) (aw (fA 5 (aD 3 aY (aa (rvz 0) (aa (g2 bM (g2 bM (rvz 1) (g2 fQ (ciz 40) (rvz 4))) (ciz 1)) (aa (g2 ixD (rvz 2) (ciz 0)) nlz))))) oNx) (aw (oIf (gB2 ltD (rvz 6) (ciz 3)) (aw (fA 7 (aD 3 ak (aa (rvz 0) (aa (g2 bM (g2 bM (rvz 1) (g2 fQ (ciz 40) (rvz 4))) (ciz 30)) (aa (g2 ixD (rvz 2) (ciz 0)) nlz))))) (aw (fA 5 (g2 bM (g2 bM (gSl (rvz 5) (λ_=>R.ok none) (mU (rvz 7))) (g2 ixD (csz [97,98,32,35]) (aD 3 ak (aa (rvz 0) (aa (g2 bM (g2 bM (rvz 1) (g2 fQ (ciz 40) (rvz 4))) (ciz 31)) (aa (ciz 4) nlz)))))) (gSl (rvz 5) (mU (g2 bM (rvz 7) (ciz 1))) (λ_=>R.ok none)))) oNx)) oNx) oNx)) (aw (yk 3 (ox "str" jh (rvz 5) (aa (csz [32]) nlz))) oNx)))
def qr:20000<=sizeLine:=by decide
def KM(a b:D):ixD (.tup [a,b]) (.int 0)=some a:=rfl
def K1(a b:D):ixD (.tup [a,b]) (.int 1)=some b:=rfl
def km{α:Type}(l:List α):l=[]\/∃l' b,l=l'++[b]:=by
 rcases List.eq_nil_or_concat l with h|⟨l',b,h⟩;·exact .inl h
 ·exact .inr ⟨l',b,by rw[h,List.concat_eq_append]⟩
def Ei(f:Bool)(l:List D)(d:D):ixD (.lst f (l++[d])) (.int (-1))=some d:=by
 show atI (l++[d]) (-1)=some d;unfold atI ixN;rw[if_neg (by omega),if_pos (by simp;omega)];have:((-1:Int)+((l++[d]).length:Nat)).toNat=l.length:=by simp;omega
 rw[this];simp
def zK(l:List D)(d:D):ixN (l++[d]).length (-1)=some l.length:=by
 unfold ixN;rw[if_neg (by omega),if_pos (by simp;omega)]
 congr 1;simp;omega
def vQ(l:List D)(d e:D):(l++[d]).set l.length e=l++[e]:=by simp
def xw(g:Nat->Bool)(l:List Nat):l.take (l.length - (l.reverse.takeWhile g).length)=(l.reverse.dropWhile g).reverse:=by
 have e:l.reverse=l.reverse.takeWhile g++l.reverse.dropWhile g:=List.takeWhile_append_dropWhile.symm;generalize l.reverse.takeWhile g=a at *;generalize l.reverse.dropWhile g=b at *;have e2:l=b.reverse++a.reverse:=by rw[<- List.reverse_append,<- e,List.reverse_reverse]
 subst e2;rw[List.take_left' (by simp)]
def wY(g:Nat->Bool)(X:PySem.Str):(PySem.Txt.stripBy g false true X).cps.toList=(X.cps.toList.reverse.dropWhile g).reverse:=by
 rw[<- xw];have hl:X.length=X.cps.toList.length:=by simp[PySem.Str.length]
 have h0:PySem.stripLo g false X=0:=rfl;have h1:PySem.stripHi g true X 0=X.cps.toList.length - (X.cps.toList.reverse.takeWhile g).length:=by rw[<- hl];rfl
 unfold PySem.Txt.stripBy;split;·rename_i hs;unfold PySem.stripSame at hs;rw[h0,h1,w5,s8,s8,hl]at hs;rw[hs.2,d4]
 ·unfold PySem.stripped;rw[h0,h1];show(X.cps.extract 0 _).toList=_;rw[Array.toList_extract];simp[List.extract_eq_take_drop]
def xj(x:List Nat)(c:Nat):fG x [c]=(x.reverse.dropWhile λd=>[c].contains d).reverse:=by
 show(PySem.Txt.stripBy _ false true _).cps.toList=_;rw[wY];have e:(λd=>#[c].contains d)=λd=>[c].contains d:=by funext d;simp
 show(x.toArray.toList.reverse.dropWhile λd=>#[c].contains d).reverse=_;rw[e]
def zp{x:List Nat}{m:Nat}(h:plain x=true)(hl:x.length<=m):plain (fG x [32])=true/\(fG x [32]).length<=m:=by
 rw[xj];have hs:(x.reverse.dropWhile λd=>[32].contains d).Sublist x.reverse:=List.dropWhile_sublist _;refine⟨?_,?_⟩;·simp only[plain,wX,List.mem_reverse]at h⊢;intro c hc;exact h c (List.mem_reverse.1 (hs.subset hc))
 ·have:=hs.length_le;simp at this⊢;omega
noncomputable def Ab:List D->R D
 | [.tup [.int a,.int b,.int n],.tup [.int c,.int d]]=>.ok (.bl ((a==c) && (b+n==d)))
 |_=>.no
def t3i{P:Prop}(h:∀a b n,d=.tup [.int a,.int b,.int n]->P)(h2:(∀a b n,d≠.tup [.int a,.int b,.int n])->P):P:=by
 by_cases e:∃a b n,d=.tup [.int a,.int b,.int n];·obtain⟨a,b,n,e⟩:=e;exact h a b n e
 ·exact h2 λa b n q=>e ⟨a,b,n,q⟩
def t2i{P:Prop}(h:∀a b,d=.tup [.int a,.int b]->P)(h2:(∀a b,d≠.tup [.int a,.int b])->P):P:=by
 by_cases e:∃a b,d=.tup [.int a,.int b];·obtain⟨a,b,e⟩:=e;exact h a b e
 ·exact h2 λa b q=>e ⟨a,b,q⟩
def jB:∀ds:List D,ds.length=2->Ab ds=.no\/ao (cV (ai 2 ds))=Ab ds:=by
 intro ds hl
 match ds,hl with
 | [d,e],_=>
  refine t3i (d:=d) (λa b n h=>?_) λh=>Or.inl ?_
  ·subst h;refine t2i (d:=e) (λc k h=>?_) λh=>Or.inl ?_
   ·subst h;refine Or.inr ?_;show ao (aw _ _ [some (.val (.tup [.int a,.int b,.int n])),some (.val (.tup [.int c,.int k]))])=R.ok (.bl ((a==c) && (b+n==k)));have y0:=Kj (.int a) (.int b) (.int n);have y1:=Kx (.int a) (.int b) (.int n);have y2:=MV (.int a) (.int b) (.int n);have z0:=KM (.int c) (.int k);have z1:=K1 (.int c) (.int k);clear hl;cases q:(a==c)
    ·walk_at "run"
     all_goals rfl
    ·walk_at "run"
     all_goals rfl
   ·unfold Ab;split;·rename_i q;cases q;exact absurd rfl (h _ _)
    ·rfl
  ·unfold Ab;split;·rename_i q;cases q;exact absurd rfl (h _ _ _)
   ·rfl
noncomputable def spD(p:Nat×Nat):D:=.tup [.int (p.1:Int),.int (p.2:Int)]
noncomputable def snD(s:Nat×Nat×Nat):D:=.tup [.int (s.1:Int),.int (s.2.1:Int),.int (s.2.2:Int)]
noncomputable def je(acc:List (Nat×Nat×Nat))(p:Nat×Nat):List (Nat×Nat×Nat):=match acc.getLast? with
 |some (k,c,n)=>if k=p.1/\c+n=p.2 then acc.dropLast++[(k,c,n+1)]else acc++[(p.1,p.2,1)]
 |none=>[(p.1,p.2,1)]
def rn(p:Nat×Nat):je [] p=[(p.1,p.2,1)]:=rfl
def wO(a:List (Nat×Nat×Nat))(k c n:Nat):je (a++[(k,c,n)]) (k,c+n)=a++[(k,c,n+1)]:=by simp[je]
def wJ(a:List (Nat×Nat×Nat))(k c n:Nat)(p:Nat×Nat)(h : ¬ (k=p.1/\c+n=p.2)):je (a++[(k,c,n)]) p=a++[(k,c,n)]++[(p.1,p.2,1)]:=by simp[je,h]
def kX(a:List (Nat×Nat×Nat))(p:Nat×Nat):(je a p).length<=a.length+1:=by
 rcases km a with rfl|⟨a,⟨k,c,n⟩,rfl⟩;·simp[rn]
 ·by_cases h:k=p.1/\c+n=p.2;·obtain⟨p1,p2⟩:=p;obtain⟨h1,h2⟩:=h;dsimp only at h1 h2;subst h1 h2;rw[wO];simp
  ·rw[wJ _ _ _ _ _ h];simp
def xZ{F:List D->R D}(x0 x1 x4:Option Sl)(a:List (Nat×Nat×Nat))(p:Nat×Nat)(ha:a.length<3000):∃y4,qT F Ab [x0,x1,some (.own (a.map snD)),some (.val (spD p)),x4]=.nx [x0,x1,some (.own ((je a p).map snD)),some (.val (spD p)),y4]:=by
 have lb:=qr;have z:(a.map snD).length<sizeLine:=by simp;omega
 have m3:=t3;have f2:∀(a0 a1 a3 a4:Option Sl)(ds:List D),frz 2 [a0,a1,some (.own ds),a3,a4]=[a0,a1,some (.val (.lst false ds)),a3,a4]:=λ_ _ _ _ _=>rfl;have o2:∀(a0 a1 a3 a4:Option Sl)(ds:List D),ownAt [a0,a1,some (.own ds),a3,a4] 2=.ok ds:=λ_ _ _ _ _=>rfl;have g1:=ng 1;obtain⟨pk,pc⟩:=p;have ep:spD (pk,pc)=.tup [.int (pk:Int),.int (pc:Int)]:=rfl;have w0:=KM (.int (pk:Int)) (.int (pc:Int));have w1:=K1 (.int (pk:Int)) (.int (pc:Int));have tb:∀b:Bool,ie (.bl b)=.ok b:=λ_=>rfl;rw[ep];unfold qT;rcases km a with rfl|⟨a,⟨k,c,n⟩,rfl⟩
 ·refine⟨x4,?_⟩;have q1:decide ((0:Int) > 0)=false:=by decide
  have q0:((0:Nat):Int)=0:=rfl;rw[rn];simp only[qx,x9]at z⊢;clear ha lb ep
  walk_at "run"
  all_goals rfl
 ·have em:(a++[(k,c,n)]).map snD=a.map snD++[.tup [.int (k:Int),.int (c:Int),.int (n:Int)]]:=by simp[snD]
  rw[em]at z⊢;have q1:decide (((a.map snD++[D.tup [.int (k:Int),.int (c:Int),.int (n:Int)]]).length:Int) > 0)=true:=by simp <;> omega
  have l1:=Ei false (a.map snD) (.tup [.int (k:Int),.int (c:Int),.int (n:Int)]);have y0:=Kj (.int (k:Int)) (.int (c:Int)) (.int (n:Int));have y1:=Kx (.int (k:Int)) (.int (c:Int)) (.int (n:Int));have y2:=MV (.int (k:Int)) (.int (c:Int)) (.int (n:Int));by_cases h:k=pk/\c+n=pc
  ·refine⟨some (.val (.tup [.int (k:Int),.int (c:Int),.int (n:Int)])),?_⟩;obtain⟨h1,h2⟩:=h;have rb:Ab [.tup [.int (k:Int),.int (c:Int),.int (n:Int)],.tup [.int (pk:Int),.int (pc:Int)]]=.ok (.bl true):=by
    show R.ok (D.bl (((k:Int)==(pk:Int)) && ((c:Int)+(n:Int)==(pc:Int))))=_;have e1:((k:Int)==(pk:Int))=true:=by simp;omega
    have e2:((c:Int)+(n:Int)==(pc:Int))=true:=by simp;omega
    rw[e1,e2];rfl
   have i1:=zK (a.map snD) (.tup [.int (k:Int),.int (c:Int),.int (n:Int)]);have s1:=vQ (a.map snD) (.tup [.int (k:Int),.int (c:Int),.int (n:Int)]) (.tup [.int (k:Int),.int (c:Int),.int ((n:Int)+1)]);have e8:∀i:Int,asI (.int i)=.ok i:=λ_=>rfl;have e7:∀i j l:Int,fl 10 (.tup [.int i,.int j,.int l])=true:=λ_ _ _=>rfl;have e9:(je (a++[(k,c,n)]) (pk,pc)).map snD=a.map snD++[.tup [.int (k:Int),.int (c:Int),.int ((n:Int)+1)]]:=by rw[<- h1,<- h2,wO];simp[snD]
   rw[e9];clear ha lb em h1 h2 ep
   walk_at "run"
  ·refine⟨x4,?_⟩;have rb:Ab [.tup [.int (k:Int),.int (c:Int),.int (n:Int)],.tup [.int (pk:Int),.int (pc:Int)]]=.ok (.bl false):=by
    show R.ok (D.bl (((k:Int)==(pk:Int)) && ((c:Int)+(n:Int)==(pc:Int))))=_;by_cases h1:k=pk
    ·have e2:((c:Int)+(n:Int)==(pc:Int))=false:=by simp;omega
     rw[e2,j6]
    ·have e1:((k:Int)==(pk:Int))=false:=by simp;omega
     rw[e1,iD]
   have e9:(je (a++[(k,c,n)]) (pk,pc)).map snD=a.map snD++[.tup [.int (k:Int),.int (c:Int),.int (n:Int)]]++[.tup [.int (pk:Int),.int (pc:Int),.int 1]]:=by rw[wJ _ _ _ _ _ h];simp[snD]
   rw[e9];clear ha lb em h ep
   walk_at "run"
theorem oY{F:List D->R D}(x0 x1:Option Sl):∀(ps:List (Nat×Nat))(a:List (Nat×Nat×Nat))(x3 x4:Option Sl),a.length+ps.length<=2000->∃y3 y4,da (lP 3) (qT F Ab) (ps.map spD) [x0,x1,some (.own (a.map snD)),x3,x4]=.nx [x0,x1,some (.own ((ps.foldl je a).map snD)),y3,y4]
 | [],a,x3,x4,_=>⟨x3,x4,rfl⟩
 |p::ps,a,x3,x4,h=>by simp only[v4]at h;have hp:=kX a p;obtain⟨z4,hB⟩:=xZ (F:=F) x0 x1 x4 a p (by omega);obtain⟨y3,y4,ih⟩:=oY (F:=F) x0 x1 ps (je a p) (some (.val (spD p))) z4 (by omega);refine⟨y3,y4,?_⟩;rw[x9,gM (ρ1:=[x0,x1,some (.own (a.map snD)),some (.val (spD p)),x4]) rfl hB];exact ih
noncomputable def FC(wd:Nat)(x y:List Nat):List Nat:=(List.range wd).filter λc=>!(x.getD c 0==y.getD c 0)
noncomputable def kO(wd:Nat):Nat->List (List Nat×List Nat)->List (Nat×Nat)
 |_,[]=>[]
 |k,p::ps=>(FC wd p.1 p.2).map (λc=>(k,c))++kO wd (k+1) ps
noncomputable def prs(rows ys:List D):List (List Nat×List Nat):=List.zipWith (λr y=>(uM r,uM y)) rows ys
theorem vE(wd:Nat)(rows:List D):∀(ys:List D)(k:Nat),k+ys.length<=rows.length->fU wd rows k ys=(kO wd k (prs (rows.drop k) ys)).map spD
 | [],k,_=>by unfold prs;rw[List.zipWith_nil_right];rfl
 |y::ys,k,h=>by
  simp only[v4]at h;have e:rows.drop k=rows.getD k .non::rows.drop (k+1):=by rw[Ze (by omega),v9,w9 (by omega)];rfl
  unfold prs;rw[e,List.zipWith_cons_cons,fU,vE wd rows ys (k+1) (by omega)];unfold dC;show _=(((FC wd (uM (rows.getD k .non)) (uM y)).map λc=>(k,c))++kO wd (k+1) _).map spD;rw[n0,pS];rfl
theorem jC(wd:Nat):∀(ps:List (List Nat×List Nat))(k:Nat),(kO wd k ps).length<=wd * ps.length
 | [],_=>by simp[kO]
 |p::ps,k=>by have ih:=jC wd ps (k+1);have h1:(FC wd p.1 p.2).length<=wd:=w8 (List.length_filter_le ..) (by simp);rw[kO,ud,x8,v4,ig];omega
noncomputable def chG(ns:List Int)(k:Nat):Nat:=([97,98,32,35]:List Nat).getD (dF ns k 4).toNat 0
def Jo(ns:List Int)(k:Nat):ixD (.str [97,98,32,35]) (.int (dF ns k 4))=some (.str [chG ns k]):=by
 have h:=bu ns k (m:=4) (by decide);unfold chG;generalize dF ns k 4=v at h;have:v=0\/v=1\/v=2\/v=3:=by omega
 rcases this with rfl|rfl|rfl|rfl <;> rfl
def Ao(ns:List Int)(k:Nat):32<=chG ns k/\chG ns k<=126:=by
 have h:=bu ns k (m:=4) (by decide);unfold chG;generalize dF ns k 4=v at h;have:v=0\/v=1\/v=2\/v=3:=by omega
 rcases this with rfl|rfl|rfl|rfl <;> decide
noncomputable def Ef(ns:List Int)(a wd:Nat)(x:List Nat):List Nat:=
 if dF ns a 4=0 then xX ns (a+1) wd else if dF ns a 4<3 then x.take (dF ns (a+30) wd).toNat++[chG ns (a+31)]++x.drop ((dF ns (a+30) wd).toNat+1)else x
def GV(ns:List Int)(a:Nat)(hw:1<=wd){x:List Nat}(hl:x.length=wd)(hp:plain x=true):plain (Ef ns a wd x)=true/\(Ef ns a wd x).length=wd:=by
 have h:=bu ns (a+30) (m:=(wd:Int)) (by omega);unfold Ef;split;·exact⟨pH _ _ _,mx _ _ _⟩
 ·split;·have hc:=Ao ns (a+31);refine⟨tB (tB (xc _ hp) ?_) (xK _ hp),by simp;omega⟩;simp[plain,hc.1,hc.2]
  ·exact⟨hp,hl⟩
noncomputable def gTx(ns:List Int)(a wd k:Nat)(r:D):List Nat:=fG (Ef ns (a+40 * k) wd (uM r)) [32]
noncomputable def ly(ns:List Int)(a wd:Nat):Nat->List D->List (List Nat)
 |_,[]=>[]
 |k,r::rs=>gTx ns a wd k r::ly ns a wd (k+1) rs
theorem ik(ns:List Int)(a wd:Nat):∀(rs:List D)(k:Nat),(ly ns a wd k rs).length=rs.length
 | [],_=>rfl
 |r::rs,k=>by rw[ly,v4,ik ns a wd rs,v4]
theorem wE(ns:List Int)(a:Nat){wd:Nat}(hw:1<=wd):∀(rs:List D)(k:Nat),jH rs wd->∀x∈ly ns a wd k rs,plain x=true/\x.length<=wd
 | [],_,_,x,h=>by cases h
 |r::rs,k,hr,x,h=>by
  rcases xO.1 h with rfl|h;·obtain⟨y,rfl,h1,h2⟩:=hr r (v3 ..);obtain⟨a1,a2⟩:=GV ns (a+40 * k) hw h1 h2;exact zp a1 (by show(Ef ns (a+40 * k) wd y).length<=wd;omega)
  ·exact wE ns a hw rs (k+1) (λr m=>hr r (w4 _ m)) x h
theorem rm(ns:List Int)(fz:Bool)(a:Nat){wd:Nat}(hw:1<=wd)(hw2:wd<=40)(rows:D)(p:D):∀(rs:List D)(k:Nat)(x4 x5 x6 x7:Option Sl)(acc:List D),jH rs wd->acc.length+rs.length<=100->∃y4 y5 y6 y7,da (uh [4,5]) (iY eW Bq) (bi k rs) [some (.val (.lst fz (ns.map .int))),some (.val (.int (a:Int))),some (.val (.tup [.int (wd:Int),rows,p])),some (.own acc),x4,x5,x6,x7]
  = .nx [some (.val (.lst fz (ns.map .int))),some (.val (.int (a:Int))),some (.val (.tup [.int (wd:Int),rows,p])),some (.own (acc++(ly ns a wd k rs).map .str)),y4,y5,y6,y7]
 | [],k,x4,x5,x6,x7,acc,_,_=>⟨x4,x5,x6,x7,by rw[kY,qv,ly,qx,t7]⟩
 |r::rs,k,x4,x5,x6,x7,acc,hr,ha=>by
  simp only[v4]at ha;obtain⟨x,rfl,h1,h2⟩:=hr r (v3 ..);have hB:∃y5 y6 y7,iY eW Bq [some (.val (.lst fz (ns.map .int))),some (.val (.int (a:Int))),some (.val (.tup [.int (wd:Int),rows,p])),some (.own acc),some (.val (.int (k:Int))),some (.val (.str x)),x6,x7]
    = .nx [some (.val (.lst fz (ns.map .int))),some (.val (.int (a:Int))),some (.val (.tup [.int (wd:Int),rows,p])),some (.own (acc++[.str (fG (Ef ns (a+40 * k) wd x) [32])])),some (.val (.int (k:Int))),y5,y6,y7]:=by
   have lb:=qr;have hpk:=bu ns (a+40 * k) (m:=4) (by decide);have hps:=bu ns (a+40 * k+30) (m:=(wd:Int)) (by omega);obtain⟨sp,esp⟩:=Int.eq_ofNat_of_zero_le hps.1;have m1:fQ (.int 40) (.int (k:Int))=some (.int ((40 * k:Nat):Int)):=by rw[Ea (by decide)];congr 2
   have k1:(a:Int)+((40 * k:Nat):Int)=((a+40 * k:Nat):Int):=by omega
   have k2:((a+40 * k:Nat):Int)+1=((a+40 * k+1:Nat):Int):=by omega
   have k3:((a+40 * k:Nat):Int)+30=((a+40 * k+30:Nat):Int):=by omega
   have k4:((a+40 * k:Nat):Int)+31=((a+40 * k+31:Nat):Int):=by omega
   have k5:(sp:Int)+1=((sp+1:Nat):Int):=by omega
   have p1:eW [.lst fz (ns.map .int),.int ((a+40 * k:Nat):Int),.int 4]=.ok (.int (dF ns (a+40 * k) 4)):=ci (by decide);have p2:eW [.lst fz (ns.map .int),.int ((a+40 * k+30:Nat):Int),.int (wd:Int)]=.ok (.int (sp:Int)):=by rw[<- esp];exact ci (by omega)
   have p3:eW [.lst fz (ns.map .int),.int ((a+40 * k+31:Nat):Int),.int 4]=.ok (.int (dF ns (a+40 * k+31) 4)):=ci (by decide);have r1:Bq [.lst fz (ns.map .int),.int ((a+40 * k+1:Nat):Int),.int (wd:Int)]=.ok (.str (xX ns (a+40 * k+1) wd)):=wr (by omega);have c1:=Jo ns (a+40 * k+31);have y0:=Kj (.int (wd:Int)) rows p;have d1:=J2 x sp;have d2:=BI x (sp+1);have a1:bM (.str (x.take sp)) (.str [chG ns (a+40 * k+31)])=some (.str (x.take sp++[chG ns (a+40 * k+31)])):=BH (by simp;omega);have a2:bM (.str (x.take sp++[chG ns (a+40 * k+31)])) (.str (x.drop (sp+1)))=some (.str (x.take sp++[chG ns (a+40 * k+31)]++x.drop (sp+1))):=BH (by simp;omega);have z:acc.length<sizeLine:=by omega
   have o3:∀(a0 a1 a2 a4 a5 a6 a7:Option Sl)(ds:List D),ownAt [a0,a1,a2,some (.own ds),a4,a5,a6,a7] 3=.ok ds:=λ_ _ _ _ _ _ _ _=>rfl;have kd:∀z:List Nat,oG "str" (.str z)=true:=λ_=>rfl;have rs':∀z w:List Nat,jh (.str z) [.str w]=some (.str (fG z w)):=λ_ _=>rfl;unfold iY Ef;rw[esp,t5];by_cases q:dF ns (a+40 * k) 4=0
   ·refine⟨some (.val (.str (xX ns (a+40 * k+1) wd))),some (.val (.int (dF ns (a+40 * k) 4))),x7,?_⟩;have q1:(dF ns (a+40 * k) 4==0)=true:=by simp[q]
    rw[if_pos q];clear hr ha h1 h2 lb hpk hps esp q
    walk_at "run"
   ·have q1:(dF ns (a+40 * k) 4==0)=false:=by simp[q]
    rw[if_neg q];by_cases q2:dF ns (a+40 * k) 4<3
    ·refine⟨some (.val (.str (x.take sp++[chG ns (a+40 * k+31)]++x.drop (sp+1)))),some (.val (.int (dF ns (a+40 * k) 4))),some (.val (.int (sp:Int))),?_⟩;have q3:decide (dF ns (a+40 * k) 4<3)=true:=by simp[q2]
     rw[if_pos q2];clear hr ha h1 h2 lb hpk hps esp q q2
     walk_at "run"
    ·refine⟨some (.val (.str x)),some (.val (.int (dF ns (a+40 * k) 4))),x7,?_⟩;have q3:decide (dF ns (a+40 * k) 4<3)=false:=by simp;omega
     rw[if_neg q2];clear hr ha h1 h2 lb hpk hps esp q q2
     walk_at "run"
  obtain⟨z5,z6,z7,hB⟩:=hB;obtain⟨y4,y5,y6,y7,ih⟩:=rm ns fz a hw hw2 rows p rs (k+1) (some (.val (.int (k:Int)))) z5 z6 z7 (acc++[.str (fG (Ef ns (a+40 * k) wd x) [32])]) (λr m=>hr r (w4 _ m)) (by simp;omega);refine⟨y4,y5,y6,y7,?_⟩;rw[jJ,gM (ρ1:=[some (.val (.lst fz (ns.map .int))),some (.val (.int (a:Int))),some (.val (.tup [.int (wd:Int),rows,p])),some (.own acc),some (.val (.int (k:Int))),some (.val (.str x)),x6,x7]) rfl hB,ih,ly,x9,lm];rfl
noncomputable def xC(ns:List Int)(a wd:Nat)(rows:List D):List (List Nat):=(ly ns a wd 0 rows).take (rows.length - (dF ns (a+399) 2).toNat)
noncomputable abbrev vL(f:Bool)(n:List Int):Option Sl:=some (.val (.lst f (n.map .int)))
noncomputable abbrev vI(n:Nat):Option Sl:=some (.val (.int (n:Int)))
noncomputable abbrev vD(d:D):Option Sl:=some (.val d)
noncomputable abbrev vS(x:List Nat):Option Sl:=some (.val (.str x))
noncomputable abbrev vO(c p:Addr)(f:List (Nat×Fd)):Option Sl:=some (.obj true c p f)
noncomputable def Lw:List D->R D:=λds=>ao (kG im (ai 1 ds))
noncomputable def goG:List D->R D:=λds=>ao (mj zS (ai 1 ds))
noncomputable def Ld:List D->R D:=λds=>ao (hY Lw goG (ai 1 ds))
noncomputable def ckG(C:Addr):List D->R D:=λds=>ao (eY Ld C (ai 1 ds))
noncomputable def II(C:Addr):List D->R D:=λds=>ao (dS (ckG C) C (ai 2 ds))
noncomputable def isS:Od->Bool
 |.say _=>true
 |_=>false
noncomputable def isG:Od->Bool
 |.go _ _=>true
 |_=>false
def Kt{o:Od}(h:okO o=true):Lw [oD o]=.ok (.bl (isS o)):=by
 cases o with
 |say x=>
  simp only[okO,w5,ug]at h;have i1:im [.str x]=.ok (.bl true):=by rw[jo (by omega),h.1]
  have d1:decide ((1:Int)<=(x.length:Int))=true:=by rw[ug];omega
  have d2:decide ((x.length:Int)<=40)=true:=by rw[ug];omega
  have e1:eI [oD (.say x)]=some (.int 2):=rfl;have e2:ixD (oD (.say x)) (.int 0)=some (.str [115,97,121]):=rfl;have e3:ixD (oD (.say x)) (.int 1)=some (.str x):=rfl;have q0:eqF (.str [115,97,121]) (.str [115,97,121])=some (.bl true):=rfl;have q1:eqF (.int 2) (.int 2)=some (.bl true):=rfl;show ao (aw _ _ [vD (oD (.say x))])=.ok (.bl true);clear h;generalize oD (.say x)=u at *
  walk_at "run"
 |go r c=>rfl
 |wipe=>rfl
def NZ{o:Od}(h:okO o=true):goG [oD o]=.ok (.bl (isG o)):=by
 cases o with
 |go r c=>
  simp only[okO,w5,ug]at h;have i1:zS [.int (r:Int),.int 0,.int 11]=.ok (.bl true):=by show R.ok (D.bl (decide (0<=(r:Int)) && decide ((r:Int)<=11)))=_;rw[ss (by omega),ss (by omega)];rfl
  have i2:zS [.int (c:Int),.int 0,.int 40]=.ok (.bl true):=by show R.ok (D.bl (decide (0<=(c:Int)) && decide ((c:Int)<=40)))=_;rw[ss (by omega),ss (by omega)];rfl
  have e1:eI [oD (.go r c)]=some (.int 3):=rfl;have e2:ixD (oD (.go r c)) (.int 0)=some (.str [103,111]):=rfl;have e3:ixD (oD (.go r c)) (.int 1)=some (.int (r:Int)):=rfl;have e4:ixD (oD (.go r c)) (.int 2)=some (.int (c:Int)):=rfl;have q0:neF (.str [103,111]) (.str [103,111])=some (.bl false):=rfl;have q1:neF (.int 3) (.int 3)=some (.bl false):=rfl;have q2:zo (.int 12) (.int 1)=some (.int 11):=rfl;show ao (aw _ _ [vD (oD (.go r c))])=.ok (.bl true);clear h;generalize oD (.go r c)=u at *
  walk_at "run"
 |say x=>rfl
 |wipe=>rfl
def LM{o:Od}(h:okO o=true):Ld [oD o]=.ok (.bl true):=by
 have h1:=Kt h;have h2:=NZ h;have e1:gZ (·=="tuple") (oD o)=.ok (.bl true):=by cases o <;> rfl
 have e2:mkT [.str [119,105,112,101]]=.ok (oD .wipe):=rfl;have e3:eqF (oD .wipe) (oD .wipe)=some (.bl true):=rfl;show ao (aw _ _ [vD (oD o)])=_;clear h;cases o with
 |say x=>change _=R.ok (D.bl true)at h1;generalize oD (.say x)=u at *;walk_at "run"
 |go r c=>change _=R.ok (D.bl false)at h1;change _=R.ok (D.bl true)at h2;generalize oD (.go r c)=u at *;walk_at "run"
 |wipe=>change _=R.ok (D.bl false)at h1;change _=R.ok (D.bl false)at h2;generalize oD .wipe=u at *;walk_at "run"
def N8{o:Od}(h:okO o=true):ckG C [oD o]=.ok .non:=by
 have h1:=LM h;show ao (aw _ _ [vD (oD o)])=_;generalize oD o=u at *
 walk_at "run"
def Jf{f:Bool}{os:List Od}(h:∀o∈os,okO o=true):II C [.lst f (os.map oD)]=.ok .non:=by
 have lp:∀(os:List Od)(x1:Option Sl),(∀o∈os,okO o=true)->∃y1,da (lP 1) (eU (ckG C) C) (os.map oD) [vD (.lst f (os.map oD)),x1]=.nx [vD (.lst f (os.map oD)),y1]:=λos=>by
  generalize vD (.lst f (os.map oD))=x0;induction os with
  |nil=>exact λx1 _=>⟨x1,rfl⟩
  |cons o os ih=>
   intro x1 h;obtain⟨y1,e⟩:=ih (vD (oD o)) λo ho=>h o (w4 _ ho);refine⟨y1,(gM (ρ2:=[x0,vD (oD o)]) rfl ?_).trans e⟩;have h1:=N8 (C:=C) (h o (v3 ..));unfold eU;generalize oD o=u at *;clear h ih e
   walk_at "run"
 obtain⟨y1,e⟩:=lp os none h;have e1:gZ (·=="list") (.lst f (os.map oD))=.ok (.bl true):=rfl;have e2:bA (.lst f (os.map oD))=.ok (os.map oD):=rfl;show ao (aw _ _ [vD (.lst f (os.map oD)),none])=_;clear h lp
 walk_at "run"
noncomputable def ocG:List D->R D:=λds=>ao (fF (ai 1 ds))
def MQ(o:Od):ocG [oD o]=.ok (.int (db o:Int)):=by cases o <;> rfl
noncomputable def coG(C:Addr):List D->R D:=λds=>ao (qK (II C) ocG (ai 1 ds))
theorem vG{α:Type}{ge:Ev->R D}(f g:α->D)(tl:Ev):∀(xs:List α)(a:Option Sl),(∀x∈xs,ge (vD (f x)::tl)=.ok (g x))->fV (λ_=>R.ok true) ge (xs.map f) (a::tl)=.ok (xs.map g)
 | [],_,_=>rfl
 |x::xs,a,h=>by have ih:=vG (ge:=ge) f g tl xs (vD (f x)) λy hy=>h y (w4 _ hy);have h1:=h x (v3 ..);unfold fV at ih⊢;rw[x9,x9,fO];show(de (ge (vD (f x)::tl))>>=λz=>fO (lP 0) (λ_=>R.ok true) ge (xs.map f) (vD (f x)::tl)>>=λzs=>R.ok (z::zs))=_;rw[h1,ih];rfl
def L0:∀os:List Od,Hf [.lst false (os.map λo=>D.int (db o:Int))]=some (.int ((os.map db).sum:Nat)):=λos=>by
 have key:ou (os.map λo=>D.int (db o:Int))=some (os.map λo=>(db o:Int)):=by
  induction os with
  |nil=>rfl
  |cons o l ih=>rw[x9,ou,ih];rfl
 have key2:(os.map λo=>(db o:Int)).sum=((os.map db).sum:Nat):=by
  clear key;induction os with
  |nil=>rfl
  |cons o l ih=>rw[x9,c8,ih,x9,c8,Int.natCast_add]
 simp only[Hf,key,key2]
def Nj{f:Bool}{os:List Od}(h:∀o∈os,okO o=true)(hl:os.length<=1000):coG C [.lst f (os.map oD)]=.ok (.int ((os.map db).sum:Nat)):=by
 have h1:=Jf (C:=C) (f:=f) h;have c1:=vG (ge:=aD 1 ocG (aa (rvz 0) nlz)) oD (λo=>.int (db o:Int)) [] os none (λo _=>by rw[Ae,show ∀i ρ,rvz i ρ=rdV ρ i from λ_ _=>rfl,rd0,R.ok_bind,MQ]);have e2:bA (.lst f (os.map oD))=.ok (os.map oD):=rfl;have z:(os.map λo=>D.int (db o:Int)).length<=sizeLine:=by have:=bC;rw[x8];omega
 have sm:=L0 os;have i0:∀x:Option Sl,iT [] [x]=[none]:=λ_=>rfl;show ao (aw _ _ [vD (.lst f (os.map oD))])=_;clear h hl
 walk_at "run"
noncomputable def jnG:List D->R D:=λds=>ao (di (ai 3 ds))
def MZ{o p:Od}(hn:rf o+rf p<=1000):jnG [oD o,oD p]=.ok (jD (jf o p)):=by
 cases o with
 |say x=>
  cases p with
  |say y=>
   simp only[rf]at hn;have a1:bM (.str x) (.str y)=some (.str (x++y)):=BH (by have:=bC;omega);have x0:∀z:List Nat,ixD (oD (.say z)) (.int 0)=some (.str [115,97,121]):=λ_=>rfl;have x1:∀z:List Nat,ixD (oD (.say z)) (.int 1)=some (.str z):=λ_=>rfl;have q0:neF (.str [115,97,121]) (.str [115,97,121])=some (.bl false):=rfl;have m2:∀v:List Nat,mkT [.str [115,97,121],.str v]=.ok (oD (.say v)):=λ_=>rfl;have ej:jf (.say x) (.say y)=if x.length+y.length<=40 then some (.say (x++y))else none:=rfl;show ao (aw _ _ [vD (oD (.say x)),vD (oD (.say y)),none])=_;rw[ej];by_cases h:x.length+y.length<=40
   ·have d1:decide (((x++y).length:Int)<=40)=true:=by rw[ug,ud];omega
    have e9:jD (if x.length+y.length<=40 then some (.say (x++y))else none)=oD (.say (x++y)):=by rw[if_pos h];rfl
    rw[e9];clear hn h ej e9
    walk_at "run"
   ·have d1:decide (((x++y).length:Int)<=40)=false:=by rw[decide_eq_false_iff_not,ud];omega
    have e9:jD (if x.length+y.length<=40 then some (.say (x++y))else none)=.non:=by rw[if_neg h];rfl
    rw[e9];clear hn h ej e9
    walk_at "run"
  |go r c=>rfl
  |wipe=>rfl
 |go r c=>cases p <;> rfl
 |wipe=>cases p <;> rfl
def Db{l o j:Od}(h:jf l o=some j)(h1:okO l=true)(h2:okO o=true):okO j=true:=by
 cases l <;> cases o <;> first|(simp[jf]at h;done)|skip
 ·simp only[jf]at h;split at h;·cases h;simp only[okO,w5,ug]at *;exact⟨oX h1.1 h2.1,by simp;omega,by simp;omega⟩
  ·cases h
 ·simp only[jf,c7]at h;subst h;exact h2
 ·simp only[jf,c7]at h;subst h;exact h2
def vP{acc:List Od}{o:Od}(h1:∀p∈acc,okO p=true)(h2:okO o=true):∀p∈fR acc o,okO p=true:=by
 rcases FP acc with rfl|⟨a,l,rfl⟩;·intro p hp;rw[sB]at hp;rw[uK.1 hp];exact h2
 ·cases hj:jf l o with
  |none=>
   intro p hp;rw[mO hj]at hp;rcases q9.1 hp with hp|hp;·exact h1 p hp
   ·rw[uK.1 hp];exact h2
  |some j=>
   intro p hp;rw[kI hj]at hp;rcases q9.1 hp with hp|hp;·exact h1 p (Z0 _ hp)
   ·rw[uK.1 hp];exact Db hj (h1 l (by simp)) h2
theorem wq:∀(os acc:List Od),(∀p∈acc,okO p=true)->(∀p∈os,okO p=true)->∀p∈os.foldl fR acc,okO p=true
 | [],acc,h,_=>h
 |o::os,acc,h1,h2=>wq os (fR acc o) (vP h1 (h2 o (v3 ..))) λp hp=>h2 p (w4 _ hp)
theorem se:∀(os acc:List Od),(os.foldl fR acc).length<=acc.length+os.length/\((os.foldl fR acc).map db).sum<=(acc.map db).sum+(os.map db).sum
 | [],acc=>by simp
 |o::os,acc=>by obtain⟨_,a2,a3⟩:=wF acc o;obtain⟨b2,b3⟩:=se os (fR acc o);simp only[oH,v4,x9,c8];omega
def LZ{os:List Od}(h:∀o∈os,okO o=true):∀o∈shO os,okO o=true:=wq os [] (λ_ h=>by cases h) h
def El{o:Od}(h:okO o=true):rf o<=40:=by
 cases o with
 |say x=>simp only[okO,w5,ug]at h;exact h.2.2
 |_=>exact v8 _
noncomputable def shG(C:Addr):List D->R D:=λds=>ao (gJ (II C) jnG (ai 4 ds))
def Kd{F:List D->R D}(x0 x3:Option Sl)(acc:List Od)(o:Od)(hs:∀p∈acc,okO p=true)(ho:okO o=true)(ha:acc.length<1000):∃y3,fg F jnG [x0,some (.own (acc.map oD)),vD (oD o),x3]=.nx [x0,some (.own ((fR acc o).map oD)),vD (oD o),y3]:=by
 have z:(acc.map oD).length<sizeLine:=by have:=bC;rw[x8];omega
 have f1:∀(a0 a2 a3:Option Sl)(ds:List D),frz 1 [a0,some (.own ds),a2,a3]=[a0,some (.val (.lst false ds)),a2,a3]:=λ_ _ _ _=>rfl;have o1:∀(a0 a2 a3:Option Sl)(ds:List D),ownAt [a0,some (.own ds),a2,a3] 1=.ok ds:=λ_ _ _ _=>rfl;have ng1:qX (.int 1)=.ok (.int (-1)):=rfl;have i1:isF .non .non=some (.bl true):=rfl;have i2:∀o:Od,isF (oD o) .non=some (.bl false):=λo=>by cases o <;> rfl
 have fl1:=LH;have fl2:fl 10 .non=true:=rfl;have e8:∀i:Int,asI (.int i)=.ok i:=λ_=>rfl;unfold fg;rcases FP acc with rfl|⟨a,l,rfl⟩;·exact⟨vD .non,rfl⟩
 ·have em:(a++[l]).map oD=a.map oD++[oD l]:=by simp
  have ej:=MZ (o:=l) (p:=o) (by have:=El (hs l (by simp));have:=El ho;omega);rw[em]at z⊢;have q1:decide ((0:Int)<((a.map oD++[oD l]).length:Int))=true:=by rw[ug,ud];show(0:Int)<((_+1:Nat):Int);omega
  have ixl:ixN (a.map oD++[oD l]).length (-1)=some (a.map oD).length:=by
   unfold ixN;rw[if_neg (by omega),if_pos (by simp;omega)]
   congr 1;simp;omega
  have l1:ixD (.lst false (a.map oD++[oD l])) (.int (-1))=some (oD l):=by show atI (a.map oD++[oD l]) (-1)=_;unfold atI;rw[ixl];simp
  cases hj:jf l o with
  |none=>
   rw[hj]at ej;change _=R.ok D.non at ej;refine⟨vD .non,?_⟩;rw[show(fR (a++[l]) o).map oD=a.map oD++[oD l]++[oD o] by rw[mO hj];simp];clear ha hs em hj ho
   walk_at "run"
  |some j=>
   rw[hj]at ej;change _=R.ok (oD j)at ej;refine⟨vD (oD j),?_⟩;have sl:(a.map oD++[oD l]).set (a.map oD).length (oD j)=a.map oD++[oD j]:=by simp
   rw[show(fR (a++[l]) o).map oD=a.map oD++[oD j] by rw[kI hj];simp];clear ha hs em hj ho
   walk_at "run"
theorem DJ{F:List D->R D}(x0:Option Sl):∀(os acc:List Od)(x2 x3:Option Sl),(∀p∈acc,okO p=true)->(∀o∈os,okO o=true)->acc.length+os.length<=1000->∃y2 y3,da (lP 2) (fg F jnG) (os.map oD) [x0,some (.own (acc.map oD)),x2,x3]=.nx [x0,some (.own ((os.foldl fR acc).map oD)),y2,y3]
 | [],acc,x2,x3,_,_,_=>⟨x2,x3,rfl⟩
 |o::os,acc,x2,x3,h1,h2,hl=>by have ho:=h2 o (v3 ..);rw[v4]at hl;obtain⟨y3,e⟩:=Kd (F:=F) x0 x3 acc o h1 ho (by omega);obtain⟨z2,z3,ih⟩:=DJ (F:=F) x0 os (fR acc o) (vD (oD o)) y3 (vP h1 ho) (λp hp=>h2 p (w4 _ hp)) (by have:=(wF acc o).2.1;omega);exact⟨z2,z3,(gM rfl e).trans ih⟩
def Oh{f:Bool}{os:List Od}(h:∀o∈os,okO o=true)(hl:os.length<=1000):shG C [.lst f (os.map oD)]=.ok (.lst false ((shO os).map oD)):=by
 have h1:=Jf (C:=C) (f:=f) h;obtain⟨y2,y3,e⟩:=DJ (F:=II C) (vD (.lst f (os.map oD))) os [] none none (λ_ h=>by cases h) h (by rw[Zy];omega);have e2:bA (.lst f (os.map oD))=.ok (os.map oD):=rfl;have f1:∀(a0 a2 a3:Option Sl)(ds:List D),frz 1 [a0,some (.own ds),a2,a3]=[a0,some (.val (.lst false ds)),a2,a3]:=λ_ _ _ _=>rfl;show ao (aw _ _ [vD (.lst f (os.map oD)),none,none,none])=_;rw[qx]at e;have z:(0<=sizeLine)=True:=eq_true (v8 _);unfold shO;clear h hl
 walk_at "run"
noncomputable def arG(C:Addr):List D->R D:=λds=>ao (hX (iV C) im (ai 2 ds))
noncomputable def crG(C:Addr):List D->R D:=λds=>ao (dB (arG C) C (ai 2 ds))
noncomputable def frG:List D->R D:=λds=>ao (gG (ai 4 ds))
noncomputable def fb(n wd:Nat)(xs:List (List Nat)):List (List Nat):=xs.map (EU wd)++List.replicate (n - xs.length) (List.replicate wd 32)
section
variable{s:St}{xs:List (List Nat)}{f:Bool}
def qP(hx:cf s.2.1.length s.1 xs=true):xs.length<=s.2.1.length/\∀x∈xs,plain x=true/\x.length<=s.1:=by simp only[cf,txt,w5,ug,wX]at hx;exact hx
def KD(h:GS s)(hx:cf s.2.1.length s.1 xs=true):arG C [sD s,.lst f (xs.map .str)]=.ok (.bl true):=by
 obtain⟨h1,h2⟩:=qP hx;have hm:=h.m;have hw:=h.w2;have c1:=nr (C:=C) h.screen;have x0:ixD (sD s) (.int 0)=some (.int (s.1:Int)):=rfl;have x1:ixD (sD s) (.int 1)=some (.tup (s.2.1.map .str)):=rfl;have cm:=vG (ge:=kf (aD 1 im (aa (rvz 0) nlz)) (g2 leD (gOf eI (aa (rvz 0) nlz)) (g2 ixD (rvz 1) (ciz 0)))) D.str (λ_=>.bl true) [vD (sD s)] xs none (λx hx=>by
  obtain⟨p,l⟩:=h2 x hx;have i1:im [.str x]=.ok (.bl true):=by rw[jo (by omega),p]
  have d1:decide ((x.length:Int)<=(s.1:Int))=true:=by rw[ug];omega
  clear h hx c1 x1 h1 h2 hm hw;generalize sD s=S at *
  walk_at "run");have z:(xs.map λ_=>D.bl true).length<=sizeLine:=by have:=bC;rw[x8];omega
 have al:Ag [.lst false (xs.map λ_=>D.bl true)]=some (.bl true):=by have:=DE false (xs.map D.str);rw[pS]at this;exact this
 have i1:∀(d:D)(v:Option Sl),iT [0] [vD d,v]=[none,vD d]:=λ_ _=>rfl;have q1:decide (((s.2.1.map D.str).length:Int)<((xs.map D.str).length:Int))=false:=by rw[x8,x8,decide_eq_false_iff_not];omega
 have y1:gZ (λx=>x=="list") (.lst f (xs.map .str))=.ok (.bl true):=rfl;have l1:=Kk f (xs.map D.str);show ao (aw _ _ [vD (sD s),vD (.lst f (xs.map .str))])=_;clear h1 h2 hm hw h hx x0;generalize sD s=S at *
 walk_at "run"
def Nr(h:GS s)(hx:cf s.2.1.length s.1 xs=true)(f:Bool):crG C [sD s,.lst f (xs.map .str)]=.ok .non:=by
 have e:=KD (C:=C) (f:=f) h hx;show ao (aw _ _ [vD (sD s),vD (.lst f (xs.map .str))])=_;clear h hx;generalize sD s=S at *
 walk_at "run"
def GH(h:GS s)(hx:cf s.2.1.length s.1 xs=true):((s.2.1.map D.str).length:Int) - ((xs.map D.str).length:Int)=((s.2.1.length - xs.length:Nat):Int)/\fQ (.str [32]) (.int (s.1:Int))=some (.str (List.replicate s.1 32))/\fQ (.lst false [.str (List.replicate s.1 32)]) (.int ((s.2.1.length - xs.length:Nat):Int))=some (.lst false (List.replicate (s.2.1.length - xs.length) (.str (List.replicate s.1 32))))/\bM (.lst false (xs.map λx=>.str (EU s.1 x))) (.lst false (List.replicate (s.2.1.length - xs.length) (.str (List.replicate s.1 32))))=some (.lst false ((fb s.2.1.length s.1 xs).map .str))/\(xs.map λx=>D.str (EU s.1 x)).length<=sizeLine:=by obtain⟨h1,_⟩:=qP hx;have hm:=h.m;have hw:=h.w2;have lb:=bC;refine⟨by rw[x8,x8];omega,KF (by omega),LW (by omega),?_,by rw[x8];omega⟩;rw[LJ (by rw[x8,qg];omega)];unfold fb;rw[n0,pS,List.map_replicate];rfl
def FZ(h:GS s)(hx:cf s.2.1.length s.1 xs=true)(f:Bool):frG [sD s,.lst f (xs.map .str)]=.ok (.lst false ((fb s.2.1.length s.1 xs).map .str)):=by
 obtain⟨k1,m1,m2,a1,z1⟩:=GH h hx;have hw:=h.w2;have x0:ixD (sD s) (.int 0)=some (.int (s.1:Int)):=rfl;have x1:ixD (sD s) (.int 1)=some (.tup (s.2.1.map .str)):=rfl;have i2:∀(a b c:Option Sl)(d:D),iT [2] [a,b,vD d,c]=[none,vD d]:=λ_ _ _ _=>rfl;have cm:=vG (ge:=ox "str" kM (rvz 0) (aa (rvz 1) nlz)) D.str (λx=>.str (EU s.1 x)) [vD (.int (s.1:Int))] xs none (λx _=>by
  have kd:∀x,oG "str" (.str x)=true:=λ_=>rfl;have j:kM (.str x) [.int (s.1:Int)]=some (.str (EU s.1 x)):=by simp only[kM,EU,t5];rw[if_pos (by omega)]
  clear k1 m1 m2 a1 z1 x0 x1 i2 h hx hw
  walk_at "run");have il:=Kk;have z2:(1<=sizeLine)=True:=eq_true (by decide);show ao (aw _ _ [vD (sD s),vD (.lst f (xs.map .str)),none,none])=_;clear h hx hw;generalize sD s=S at *;generalize (fb s.2.1.length s.1 xs).map D.str=GO at *
 walk_at "run"
open Classical in
noncomputable def crN:List D->R D:=λds=>if ∃(s:St)(xs:List (List Nat))(f:Bool),GS s/\cf s.2.1.length s.1 xs=true/\ds=[sD s,.lst f (xs.map .str)]then .ok .non else .no
def oJ:∀ds:List D,ds.length=2->crN ds=.no\/ao (dB (arG C) C (ai 2 ds))=crN ds:=λds _=>by
 unfold crN;split;·rename_i h;obtain⟨s,xs,f,h,hx,rfl⟩:=h;exact .inr (Nr h hx f)
 ·exact .inl rfl
def Jm(h:GS s)(hx:cf s.2.1.length s.1 xs=true)(f:Bool):crN [sD s,.lst f (xs.map .str)]=.ok .non:=if_pos ⟨s,xs,f,h,hx,rfl⟩
end
noncomputable def gF:Ev->O:=(aw (cF (g2 ixD (rvz 0) (ciz 0))) oNx)
noncomputable def gw(bd:List D->R D):Ev->O:=(aw (oIf (rh (rg true 0 (rvz 1)) (gB2 ltD (aD 1 bd (aa (rvz 2) nlz)) (aD 1 bd (aa (hV 0 (rvz 1)) nlz)))) (aw (Ch 0 (rvz 1) (rvz 2)) oNx) oNx) oNx)
noncomputable def bn(I_offer:MF)(bF:List D->R D):Ev->O:=(aw (fj (jV DC 0 2 I_offer (aa (rvz 1) (aa (aq mkT (aa (g2 bM (g2 ixD (rvz 2) (ciz 0)) (aD 1 bF (aa (rvz 3) nlz))) (aa (g2 bM (g2 ixD (rvz 2) (ciz 1)) (aq mkT (aa (rvz 3) nlz))) nlz))) nlz)))) oNx)
noncomputable def eF(I_offer_with_order:MF):Ev->O:=(oIf (rg false 3 (λ_=>R.ok (D.tup [D.bl false,D.bl false]))) (aw (fj (jV DC 3 3 I_offer_with_order (aa (λ_=>R.ok (D.tup [D.bl true,D.bl false])) (aa (hV 3 (λ_=>R.ok (D.tup [D.bl false,D.bl false]))) (aa (aq mkT (aa (csz [103,111]) (aa (rvz 1) (aa (rvz 2) nlz)))) nlz))))) oNx) oNx)
noncomputable def eA(I_offer_with_order:MF):Ev->O:=(oIf (rg false 3 (λ_=>R.ok (D.tup [D.bl true,D.bl false]))) (aw (fj (jV DC 3 3 I_offer_with_order (aa (λ_=>R.ok (D.tup [D.bl true,D.bl true])) (aa (hV 3 (λ_=>R.ok (D.tup [D.bl true,D.bl false]))) (aa (aq mkT (aa (csz [119,105,112,101]) nlz)) nlz))))) oNx) oNx)
noncomputable def eB(I_offer_with_order:MF):Ev->O:=(oIf (rg false 3 (λ_=>R.ok (D.tup [D.bl false,D.bl true]))) (aw (fj (jV DC 3 3 I_offer_with_order (aa (λ_=>R.ok (D.tup [D.bl true,D.bl true])) (aa (hV 3 (λ_=>R.ok (D.tup [D.bl false,D.bl true]))) (aa (aq mkT (aa (csz [103,111]) (aa (rvz 1) (aa (rvz 2) nlz)))) nlz))))) oNx) oNx)
noncomputable def jT(I_offer_with_order:MF):Ev->O:=(sU 3)
noncomputable def eD(I_offer_with_order:MF):Ev->O:=(aw (eF I_offer_with_order) (aw (eA I_offer_with_order) (aw (eB I_offer_with_order) (aw (jT I_offer_with_order) oNx))))
noncomputable def bZ(I_offer_with_order:MF):Addr×Unit->Ev->O:=(yN 3 (rvz 0) (Aq (eD I_offer_with_order)))
noncomputable def dm(I_offer_with_order I_offer:MF):Ev->O:=(aw (fA 6 (g2 ixD (rvz 4) (ciz 1))) (aw (oIf (aq ie (g2 ixD (rvz 4) (ciz 0))) (aw (fj (jV DC 3 3 I_offer_with_order (aa (aq mkT (aa (λ_=>R.ok (D.bl true)) (aa (rvz 6) nlz))) (aa (rvz 5) (aa (aq mkT (aa (csz [115,97,121]) (aa (rvz 2) nlz))) nlz))))) oNx) oNx) (aw (oIf (gB2 eqF (gIf (aq ie (rvz 6)) (csz [32]) (rvz 1)) (rvz 2)) (aw (fj (jV DC 3 2 I_offer (aa (aq mkT (aa (λ_=>R.ok (D.bl false)) (aa (rvz 6) nlz))) (aa (rvz 5) nlz)))) oNx) oNx) oNx)))
noncomputable def ck(I_offer_with_order I_offer:MF):Ev->O:=(uy (uh [4,5]) (aq AS (rvz 0)) (dm I_offer_with_order I_offer))
noncomputable def eK(I_offer_with_order I_offer:MF):Ev->O:=(sU 3)
noncomputable def mC(I_offer_with_order I_offer:MF):Ev->O:=(aw (ck I_offer_with_order I_offer) (aw (eK I_offer_with_order I_offer) oNx))
noncomputable def bW(I_offer_with_order I_offer:MF):Addr×Unit->Ev->O:=(En 3 (Aq (mC I_offer_with_order I_offer)))
noncomputable def lN(cj bK:List D->R D):Ev->O:=(aw (fA 5 (aD 3 bK (aa (aD 3 cj (aa (rvz 5) (aa (rvz 1) (aa (rvz 6) nlz)))) (aa (g2 ixD (rvz 2) (rvz 6)) (aa (g2 ixD (rvz 3) (rvz 6)) nlz))))) oNx)
noncomputable def mI(cj bK:List D->R D):Ev->O:=(aw (fA 5 (rvz 0)) (aw (uy (lP 6) (aq jm (aa (rvz 4) (aa (gOf eI (aa (rvz 2) nlz)) nlz))) (lN cj bK)) (aw (cF (rvz 5)) oNx)))
noncomputable def iB(bd:List D->R D):Ev->O:=(aw (cF (tV (bD (fK (aq bA (rvz 1)) [0] (rg false 1 (rvz 0)) (hV 1 (rvz 0)))) bd)) oNx)
noncomputable def bS(eN bP:List D->R D):Ev->O:=(aw (fA 3 (aD 5 eN (aa (gD1 (λ_=>R.ok (D.tup [D.bl false,D.bl false])) (λ_=>R.ok (D.tup [D.int 0,D.tup []]))) (aa (rvz 0) (aa (rvz 1) (aa (rvz 2) (aa (ciz 0) nlz))))))) (aw (cF (aD 2 bP (aa (rvz 3) (aa (aq mkT (aa (λ_=>R.ok (D.tup [D.bl false,D.bl false])) (aa (λ_=>R.ok (D.tup [D.bl true,D.bl false])) (aa (λ_=>R.ok (D.tup [D.bl false,D.bl true])) (aa (λ_=>R.ok (D.tup [D.bl true,D.bl true])) nlz))))) nlz)))) oNx))
noncomputable def cO(eN bP:List D->R D):Ev->O:=(aw (fA 4 (aD 5 eN (aa (gD1 (λ_=>R.ok (D.tup [D.bl true,D.bl false])) (λ_=>R.ok (D.tup [D.int 0,D.tup []]))) (aa (rvz 0) (aa (rvz 1) (aa (rvz 2) (aa (rvz 3) nlz))))))) (aw (fA 5 (aD 2 bP (aa (rvz 4) (aa (aq mkT (aa (λ_=>R.ok (D.tup [D.bl false,D.bl false])) (aa (λ_=>R.ok (D.tup [D.bl true,D.bl false])) (aa (λ_=>R.ok (D.tup [D.bl false,D.bl true])) (aa (λ_=>R.ok (D.tup [D.bl true,D.bl true])) nlz))))) nlz)))) (aw (fA 4 (aD 5 eN (aa (gD1 (λ_=>R.ok (D.tup [D.bl false,D.bl false])) (λ_=>R.ok (D.tup [D.int 0,D.tup []]))) (aa (rvz 0) (aa (gSl (rvz 1) (λ_=>R.ok none) (mU (rvz 3))) (aa (gSl (rvz 2) (λ_=>R.ok none) (mU (rvz 3))) (aa (ciz 0) nlz))))))) (aw (fA 6 (aD 2 bP (aa (rvz 4) (aa (aq mkT (aa (λ_=>R.ok (D.tup [D.bl false,D.bl false])) (aa (λ_=>R.ok (D.tup [D.bl true,D.bl false])) nlz))) nlz)))) (aw (cF (aq mkT (aa (g2 bM (g2 ixD (rvz 5) (ciz 0)) (g2 ixD (rvz 6) (ciz 0))) (aa (g2 bM (g2 ixD (rvz 5) (ciz 1)) (g2 ixD (rvz 6) (ciz 1))) nlz)))) oNx)))))
noncomputable def cq(aB bL bd:List D->R D):Ev->O:=(aw (fA 4 (bD (nX (aa (aD 4 bL (aa (rvz 0) (aa (rvz 1) (aa (rvz 2) (aa (rvz 3) nlz))))) (aa (aD 3 aB (aa (rvz 0) (aa (rvz 1) (aa (rvz 2) nlz)))) nlz))))) (aw (cF (tV (rvz 4) bd)) oNx))
noncomputable def lJ(aX aM:List D->R D)(bc aB cU:List D->R D):Ev->O:=(aw (oIf (gB2 neF (rvz 5) (rvz 3)) (aw (EB 4 (g2 ixD (aD 3 aB (aa (rvz 5) (aa (rvz 6) (aa (g2 ixD (rvz 2) (rvz 5)) nlz)))) (ciz 1))) oNx) oNx) oNx)
noncomputable def mR(aX aM:List D->R D)(bc aB cU:List D->R D):Ev->O:=(aw (kA (aD 2 aX (aa (rvz 0) (aa (rvz 1) nlz)))) (aw (fA 2 (aD 2 aM (aa (rvz 0) (aa (rvz 1) nlz)))) (aw (fA 3 (g2 ixD (g2 ixD (rvz 0) (ciz 2)) (ciz 0))) (aw (Ep 4 (zO (aa (g2 ixD (aD 4 bc (aa (rvz 3) (aa (g2 ixD (g2 ixD (rvz 0) (ciz 1)) (rvz 3)) (aa (g2 ixD (rvz 2) (rvz 3)) (aa (g2 ixD (g2 ixD (rvz 0) (ciz 2)) (ciz 1)) nlz))))) (ciz 1)) nlz))) (aw (uy (uh [5,6]) (aq lu (g2 ixD (rvz 0) (ciz 1))) (lJ aX aM bc aB cU)) (Ce 4 (aw (cF (aD 1 cU (aa (rvz 4) nlz))) oNx)))))))
noncomputable def fE(nv tm:List D->R D):Ev->O:=(aw (cF (aD 1 tm (aa (aD 2 nv (aa (rvz 0) (aa (rvz 1) nlz))) nlz))) oNx)
noncomputable def jw(aH:Addr)(aN ef:MF)(fC aM:List D->R D):Ev->O:=(aw (fA 2 (gC aH 0 aN)) (aw (fA 3 (aD 2 fC (aa (rvz 2) (aa (rvz 1) nlz)))) (aw (FH aH 0 3 ef (aa (csz [98,114,105,110,103]) (aa (aq mkT (aa (g2 ixD (rvz 2) (ciz 0)) (aa (gOf md (aa (aD 2 aM (aa (rvz 2) (aa (rvz 1) nlz))) nlz)) (aa (g2 ixD (rvz 2) (ciz 2)) nlz)))) (aa (rvz 3) nlz)))) (aw (EG (rvz 3)) oNx))))
noncomputable abbrev Ky:=Bool×Bool
noncomputable abbrev Pl:=Nat×List Od
noncomputable abbrev Mp:=List (Ky×Pl)
noncomputable def pD(p:Pl):D:=.tup [.int (p.1:Int),.tup (p.2.map oD)]
noncomputable def kD(k:Ky):D:=.tup [.bl k.1,.bl k.2]
noncomputable def kN(k:Ky):Nat:=code k.1 k.2
noncomputable def fsD(m:Mp):List (Nat×Fd):=m.map λz=>(kN z.1,.val (pD z.2))
noncomputable def kvD(m:Mp):List (Nat×D):=m.map λz=>(kN z.1,pD z.2)
noncomputable def dD(m:Mp):D:=.dct (m.map λz=>kN z.1) (m.map λz=>pD z.2)
noncomputable def xN(k:Ky)(p:Pl):Mp->Mp
 | []=>[(k,p)]
 | (j,x)::r=>if j=k then (j,p)::r else (j,x)::xN k p r
noncomputable def bX(m:Mp)(k:Ky)(p:Pl):Mp:=match m.lookup k with
 |none=>xN k p m
 |some q=>if p.1<q.1 then xN k p m else m
noncomputable def lV(p:Pl)(o:Od):Pl:=(p.1+db o,p.2++[o])
def D5{a b:Ky}(h:kN a=kN b):a=b:=by obtain⟨a1,a2⟩:=a;obtain⟨b1,b2⟩:=b;revert h;cases a1 <;> cases a2 <;> cases b1 <;> cases b2 <;> simp[kN,code]
def lW(k:Ky):tQ (kD k)=some (kN k):=rfl
theorem uV:∀m:Mp,fvs (fsD m)=some (kvD m)
 | []=>rfl
 |z::m=>by show(fvs (fsD m)).map _=_;rw[uV m];rfl
theorem zc:∀m:Mp,(m.map λz=>kN z.1).zip (m.map λz=>pD z.2)=kvD m
 | []=>rfl
 |z::m=>ut ((kN z.1,pD z.2)::·) (zc m)
theorem Ee:∀m:Mp,(m.map λz=>kN z.1).zip ((m.map λz=>pD z.2).map Fd.val)=fsD m
 | []=>rfl
 |z::m=>ut ((kN z.1,Fd.val (pD z.2))::·) (Ee m)
theorem mY(k:Ky):∀m:Mp,(kvD m).lookup (kN k)=(m.lookup k).map pD
 | []=>rfl
 | (j,x)::m=>by
  show List.lookup (kN k) ((kN j,pD x)::kvD m)=_;rw[xI,xI];by_cases h:k=j;·subst h;rw[sE,sE];rfl
  ·rw[uO.2 λz=>h (D5 z),uO.2 h];exact mY k m
theorem DV(k:Ky)(p:Pl):∀m:Mp,jL (kN k) (.val (pD p)) (fsD m)=fsD (xN k p m)
 | []=>rfl
 | (j,x)::m=>by
  show(if kN j=kN k then _ else _)=fsD (if j=k then _ else _);by_cases h:j=k;·subst h;rw[if_pos rfl,if_pos rfl];rfl
  ·rw[if_neg λz=>h (D5 z),if_neg h];show(_,_)::jL _ _ (fsD m)=(_,_)::fsD _;rw[DV k p m]
def Fg(m:Mp):(fsD m).length=m.length:=by unfold fsD;simp
noncomputable def keys(m:Mp):List Ky:=m.map (·.1)
def Nk:∀a b c d e:Ky,¬ [a,b,c,d,e].Nodup:=by intro ⟨a1,a2⟩ ⟨b1,b2⟩ ⟨c1,c2⟩ ⟨d1,d2⟩ ⟨e1,e2⟩;revert a1 a2 b1 b2 c1 c2 d1 d2 e1 e2;decide
def few:∀{l:List Ky},l.Nodup->l.length<=4
 | [],_=>by simp
 | [_],_=>by simp
 | [_,_],_=>by simp
 | [_,_,_],_=>by simp
 | [_,_,_,_],_=>by simp
 |a::b::c::d::e::r,h=>by exfalso;have h':(a::b::c::d::e::r).take 5=[a,b,c,d,e]:=rfl;exact Nk a b c d e (h'▸h.sublist (List.take_sublist 5 _))
theorem qQ{k:Ky}{p:Pl}:∀{m:Mp},m.lookup k=some p->(k,p)∈m
 | (j,x)::m,e=>by
  rw[xI]at e;by_cases q:k=j;·subst q;rw[sE]at e;cases e;exact v3 ..
  ·rw[uO.2 q]at e;exact w4 _ (qQ e)
theorem vH{k:Ky}{p:Pl}:∀{m:Mp},keys (xN k p m)=if k∈keys m then keys m else keys m++[k]
 | []=>rfl
 | (j,x)::m=>by
  show keys (if j=k then (j,p)::m else (j,x)::xN k p m)=_;by_cases q:j=k;·rw[if_pos q,if_pos (by rw[<- q];exact v3 ..)];rfl
  ·rw[if_neg q];show j::keys (xN k p m)=if k∈j::keys m then j::keys m else j::keys m++[k];rw[vH];by_cases h:k∈keys m;·rw[if_pos h,if_pos (w4 _ h)]
   ·rw[if_neg h,if_neg (λz=>by rcases xO.1 z with z|z;exact q z.symm;exact h z)];rfl
def sk{k:Ky}{p:Pl}{m:Mp}(h:(keys m).Nodup):(keys (xN k p m)).Nodup:=by
 rw[vH];split;·exact h
 ·rename_i q;rw[List.nodup_append];exact⟨h,by simp,λa ha b hb=>by rw[uK.1 hb];intro z;exact q (z▸ha)⟩
theorem uB{k:Ky}{p:Pl}{z:Ky×Pl}:∀{m:Mp},z∈xN k p m->z∈m\/z=(k,p)
 | [],h=>.inr (uK.1 h)
 | (j,x)::m,h=>by
  replace h:z∈(if j=k then (j,p)::m else (j,x)::xN k p m):=h
  split at h
  ·rename_i q;subst q;rcases xO.1 h with h|h;·exact .inr h
   ·exact .inl (w4 _ h)
  ·rcases xO.1 h with h|h;·exact .inl (h▸v3 ..)
   ·rcases uB h with h|h;·exact .inl (w4 _ h)
    ·exact .inr h
theorem qL{k j:Ky}{p:Pl}:∀{m:Mp},(xN k p m).lookup j=if j=k then some p else m.lookup j
 | []=>by
  show List.lookup j [(k,p)]=_;rw[xI];by_cases q:j=k;·rw[if_pos q,q,sE]
  ·rw[if_neg q,uO.2 q]
 | (i,x)::m=>by
  show List.lookup j (if i=k then (i,p)::m else (i,x)::xN k p m)=_;by_cases q:i=k
  ·subst q;rw[if_pos rfl,xI,xI];by_cases z:j=i;·rw[if_pos z,z,sE]
   ·rw[if_neg z,uO.2 z]
  ·rw[if_neg q,xI,xI];by_cases z:j=i;·rw[z,sE];dsimp only;rw[if_neg q]
   ·rw[uO.2 z];exact qL
def oW{m:Mp}{k j:Ky}{p:Pl}:(bX m k p).lookup j=if j=k then (match m.lookup k with
  |none=>some p
  |some q=>if p.1<q.1 then some p else some q)else m.lookup j:=by
 unfold bX;cases e:m.lookup k with
 |none=>dsimp only;exact qL
 |some q=>
  dsimp only;by_cases h:p.1<q.1;·rw[if_pos h,if_pos h];exact qL
  ·rw[if_neg h,if_neg h];by_cases z:j=k;·rw[if_pos z,z,e]
   ·rw[if_neg z]
def gL{m:Mp}{k:Ky}{p:Pl}(h:(keys m).Nodup):(keys (bX m k p)).Nodup:=by
 unfold bX;split;·exact sk h
 ·split;·exact sk h
  ·exact h
def zd{m:Mp}{k:Ky}{p:Pl}{z:Ky×Pl}(h:z∈bX m k p):z∈m\/z=(k,p):=by
 unfold bX at h;split at h;·exact uB h
 ·split at h;·exact uB h
  ·exact .inl h
noncomputable def All(P:Ky->Pl->Prop)(m:Mp):Prop:=∀z∈m,P z.1 z.2
def All.offer{P:Ky->Pl->Prop}{m:Mp}{k:Ky}{p:Pl}(h:All P m)(hp:P k p):All P (bX m k p):=λz hz=>by
 rcases zd hz with q|q;·exact h z q
 ·subst q;exact hp
def All.at{P:Ky->Pl->Prop}{m:Mp}{k:Ky}{p:Pl}(h:All P m)(e:m.lookup k=some p):P k p:=h _ (qQ e)
noncomputable abbrev dO(q:Addr)(m:Mp):Option Sl:=some (.obj true DC q (fsD m))
def D8{n:Nat}(h1:ge ρ=.ok d)(h2:tQ d=some n)(h3:sI ρ i=.ok kv):rg neg i ge ρ=.ok (if neg then !(kv.lookup n).isSome else (kv.lookup n).isSome):=by unfold rg;rw[h1,R.ok_bind,h2,cC,R.ok_bind,h3,R.ok_bind]
def Ad{v:D}{n:Nat}(h3:sI ρ i=.ok kv)(h1:ge ρ=.ok d)(h2:tQ d=some n)(h4:kv.lookup n=some v):hV i ge ρ=.ok v:=by unfold hV;rw[h3,R.ok_bind,h1,R.ok_bind,h2];show ofO (kv.lookup n)=_;rw[h4];rfl
def wj{b:Bool}{p:Addr}{m:Mp}(h:ρ[i]?=some (some (.obj b DC p (fsD m)))):sI ρ i=.ok (kvD m):=by unfold sI;rw[h];dsimp only;rw[if_pos rfl,uV];rfl
def B7{m:Mp}(h:ρ[i]?=some (vD (dD m))):sI ρ i=.ok (kvD m):=by unfold sI;rw[h];unfold dD;dsimp only;rw[zc]
def Ft{gk ga:Ev->R D}{m:Mp}{k:Ky}{p:Pl}(h:ρ[i]?=some (dO q m))(hd:ga ρ=.ok (pD p))(hk:gk ρ=.ok (kD k))(hl:m.length<900):
  Ch i gk ga ρ=.nx (ρ.set i (dO q (xN k p m))):=by
 unfold Ch;rw[nK h,R.ok_out,hd,kH,R.ok_out,hk,kH,R.ok_out,lW];dsimp only;rw[if_pos (by rw[Fg];exact hl),DV]
def zR{b:Bool}{m:Mp}{k:Ky}(h:ρ[i]?=some (some (.obj b DC q (fsD m))))(hk:ge ρ=.ok (kD k)):rg neg i ge ρ=.ok (if neg then !(m.lookup k).isSome else (m.lookup k).isSome):=by rw[D8 hk (lW k) (wj h),mY,Option.isSome_map]
def wv{b:Bool}{m:Mp}{k:Ky}{p:Pl}(h:ρ[i]?=some (some (.obj b DC q (fsD m))))(hk:ge ρ=.ok (kD k))(e:m.lookup k=some p):hV i ge ρ=.ok (pD p):=
 Ad (wj h) hk (lW k) (by rw[mY,e];rfl)
noncomputable def pcF:List D->R D:=λds=>ao (gF (ai 1 ds))
def Dk(p:Pl):pcF [pD p]=.ok (.int (p.1:Int)):=rfl
def ww(q:Addr)(m:Mp)(k:Ky)(p:Pl)(hl:m.length<900):
  gw pcF [dO q m,vD (kD k),vD (pD p)]=.nx [dO q (bX m k p),vD (kD k),vD (pD p)]:=by
 unfold gw;have h1:=zR (neg:=true) (i:=0) (ge:=λρ=>rdV ρ 1) (ρ:=[dO q m,vD (kD k),vD (pD p)]) (k:=k) rfl rfl;have h2:=Ft (i:=0) (gk:=λρ=>rdV ρ 1) (ga:=λρ=>rdV ρ 2) (ρ:=[dO q m,vD (kD k),vD (pD p)]) (k:=k) (p:=p) rfl rfl rfl hl;have h3:=Dk p;unfold bX;cases e:m.lookup k with
 |none=>
  rw[e]at h1;dsimp only[Option.isSome_none,Bool.not_false,if_true]at h1;clear e hl
  walk_at "run"
 |some p0=>
  rw[e]at h1;have h4:=wv (i:=0) (ge:=λρ=>rdV ρ 1) (ρ:=[dO q m,vD (kD k),vD (pD p)]) rfl rfl e;have h5:=Dk p0;dsimp only[Option.isSome_some,Bool.not_true,if_true]at h1;have h6:ltD (.int (p.1:Int)) (.int (p0.1:Int))=some (.bl (decide (p.1<p0.1))):=by show some (D.bl (decide ((p.1:Int)<(p0.1:Int))))=_;rw[show decide ((p.1:Int)<(p0.1:Int))=decide (p.1<p0.1) from decide_eq_decide.2 Int.ofNat_lt]
  clear e hl;by_cases h:p.1<p0.1
  ·rw[ss h]at h6;dsimp only;rw[if_pos h];clear h
   walk_at "run"
  ·rw[u7 h]at h6;dsimp only;rw[if_neg h];clear h
   walk_at "run"
noncomputable def Oa(ρ:Ev):RM:=match (ρ[0]?:Option (Option Sl))with
 |some (some (.obj _ _ _ fs))=>.ok .non fs
 |_=>.no
noncomputable def Kp(o:O):RM:=match o with
 |.nx ρ=>Oa ρ
 |_=>.no
open Classical in
noncomputable def cZ:MF:=λfs ds=>if ∃m k p,fs=fsD m/\ds=[kD k,pD p]/\m.length<900 then Kp (gw pcF (dv true DC 0 fs 3 ds))else .no
def qS{m:Mp}(k:Ky)(p:Pl)(hl:m.length<900):cZ (fsD m) [kD k,pD p]=.ok .non (fsD (bX m k p)):=by unfold cZ;rw[if_pos ⟨m,k,p,rfl,rfl,hl⟩];show Kp (gw pcF [some (.obj true DC 0 (fsD m)),vD (kD k),vD (pD p)])=_;rw[ww 0 m k p hl];rfl
def B4:dU DC (gw pcF) 3 cZ:=by
 intro q fs ds;by_cases h:∃m k p,fs=fsD m/\ds=[kD k,pD p]/\m.length<900;·obtain⟨m,k,p,rfl,rfl,hl⟩:=h;rw[qS k p hl];exact⟨_,rfl,.inr ⟨ww q m k p hl,rfl⟩⟩
 ·have e:cZ fs ds=.no:=by unfold cZ;exact if_neg h
  rw[e];trivial
def B2{n:Nat}{p:Addr}{fs:List (Nat×Fd)}(ho:ρ[i]?=some (some (.obj true C p fs)))(ha:gl ρ=.ok ds)(hl:ds.length=n)(hF:F fs ds=.ok d fs'):fj (jV C i n F gl) ρ=.nx (ρ.set i (some (.obj true C p fs'))):=by unfold fj;rw[CU ho ha hl hF];rfl
def Mi{p:Pl}{o:Od}(h:p.2.length<900):bM (.tup (p.2.map oD)) (.tup [oD o])=some (.tup ((p.2++[o]).map oD)):=by
 have h1:1000<=sizeLine:=by decide
 show(if _ then _ else _)=_;rw[if_pos (by simp;omega)];simp
def DM(q:Addr)(m:Mp)(k:Ky)(p:Pl)(o:Od)(hl:m.length<900)(hp:p.2.length<900):
  bn cZ ocG [dO q m,vD (kD k),vD (pD p),vD (oD o)]=.nx [dO q (bX m k (lV p o)),vD (kD k),vD (pD p),vD (oD o)]:=by
 unfold bn;show(fj (jV DC 0 2 cZ _) _).seq _=_;rw[B2 (n:=2) (ds:=[kD k,pD (lV p o)]) (d:=.non) (fs':=fsD (bX m k (lV p o))) rfl ?_ rfl (qS k (lV p o) hl)];·rfl
 ·have h1:=MQ o;have h2:=Mi (p:=p) (o:=o) hp;have h3:ixD (pD p) (.int 0)=some (.int (p.1:Int)):=rfl;have h4:ixD (pD p) (.int 1)=some (.tup (p.2.map oD)):=rfl;have h5:bM (.int (p.1:Int)) (.int (db o:Int))=some (.int ((p.1+db o:Nat):Int)):=rfl;have h6:mkT [oD o]=.ok (.tup [oD o]):=rfl;have h7:mkT [.int ((p.1+db o:Nat):Int),.tup ((p.2++[o]).map oD)]=.ok (pD (lV p o)):=rfl;clear hl hp
  walk_at "run"
open Classical in
noncomputable def jZ:MF:=λfs ds=>if ∃m k p o,fs=fsD m/\ds=[kD k,pD p,oD o]/\m.length<900/\p.2.length<900 then Kp (bn cZ ocG (dv true DC 0 fs 4 ds))else .no
def zb{m:Mp}(k:Ky){p:Pl}(o:Od)(hl:m.length<900)(hp:p.2.length<900):jZ (fsD m) [kD k,pD p,oD o]=.ok .non (fsD (bX m k (lV p o))):=by unfold jZ;rw[if_pos ⟨m,k,p,o,rfl,rfl,hl,hp⟩];show Kp (bn cZ ocG [some (.obj true DC 0 (fsD m)),vD (kD k),vD (pD p),vD (oD o)])=_;rw[DM 0 m k p o hl hp];rfl
def jl:dU DC (bn cZ ocG) 4 jZ:=by
 intro q fs ds;by_cases h:∃m k p o,fs=fsD m/\ds=[kD k,pD p,oD o]/\m.length<900/\p.2.length<900;·obtain⟨m,k,p,o,rfl,rfl,hl,hp⟩:=h;rw[zb k o hl hp];exact⟨_,rfl,.inr ⟨DM q m k p o hl hp,rfl⟩⟩
 ·have e:jZ fs ds=.no:=by unfold jZ;exact if_neg h
  rw[e];trivial
noncomputable def move(m:Mp)(a b:Ky)(o:Od):Mp:=match m.lookup a with
 |some p=>bX m b (lV p o)
 |none=>m
noncomputable def kS(m:Mp)(n c:Nat):Mp:=move (move (move m (false,false) (true,false) (.go n c)) (true,false) (true,true) .wipe) (false,true) (true,true) (.go n c)
noncomputable def Len(J:Nat)(m:Mp):Prop:=All (λ_ p=>p.2.length<=J) m
def Len.mono{K:Nat}{m:Mp}(h:Len J m)(l:J<=K):Len K m:=λz hz=>w8 (h z hz) l
def Len.move{J:Nat}{m:Mp}(h:Len J m)(a b:Ky)(o:Od):Len (J+1) (move m a b o):=by
 unfold Q.move;cases e:m.lookup a with
 |none=>exact h.mono (n3 _)
 |some p=>exact All.offer (h.mono (n3 _)) (by have:=All.at h e;simp only[lV,ud,iO];omega)
def pC{m:Mp}(h:(keys m).Nodup)(a b:Ky)(o:Od):(keys (move m a b o)).Nodup:=by
 unfold move;split;·exact gL h
 ·exact h
def Fc{m:Mp}(h:(keys m).Nodup):m.length<=4:=by have:=few h;rwa [keys,x8]at this
def uR{x0 x1 x2:Option Sl}{m:Mp}(a b:Ky){o:Od}{go:Ev->R D}(hgo:go [x0,x1,x2,dO q m]=.ok (oD o))(hn:(keys m).Nodup)(hp:Len J m)(hJ:J<900):
  oIf (rg false 3 (λ_=>R.ok (kD a))) (aw (fj (jV DC 3 3 jZ (aa (λ_=>R.ok (kD b)) (aa (hV 3 (λ_=>R.ok (kD a))) (aa go nlz))))) oNx) oNx [x0,x1,x2,dO q m] =
   .nx [x0,x1,x2,dO q (move m a b o)]:=by
 have h1:=zR (neg:=false) (i:=3) (ge:=λ_=>R.ok (kD a)) (ρ:=[x0,x1,x2,dO q m]) (k:=a) rfl rfl;have hl:=Fc hn;unfold move;cases e:m.lookup a with
 |none=>
  rw[e]at h1;dsimp only[Option.isSome_none,Bool.false_eq_true,if_false]at h1⊢;clear e hl hp
  walk_at "run"
 |some p=>
  rw[e]at h1;dsimp only[Option.isSome_some,Bool.false_eq_true,if_false]at h1⊢;have h2:=wv (i:=3) (ge:=λ_=>R.ok (kD a)) (ρ:=[x0,x1,x2,dO q m]) rfl rfl e;have h4:fj (jV DC 3 3 jZ (aa (λ_=>R.ok (kD b)) (aa (hV 3 (λ_=>R.ok (kD a))) (aa go nlz)))) [x0,x1,x2,dO q m]=.nx [x0,x1,x2,dO q (bX m b (lV p o))]:=by
   refine B2 (ds:=[kD b,pD p,oD o]) (d:=.non) rfl ?_ rfl (zb b o (by omega) (by have:=All.at hp e;omega));clear hl hp e h1
   walk_at "run"
  clear e hl hp h2 hgo
  walk_at "run"
def yL{m:Mp}(h:ρ[i]?=some (dO q m)):sU i ρ=.rt (dD m):=by unfold sU;rw[h];dsimp only;rw[if_pos rfl,uV];show O.rt (.dct ((kvD m).map (·.1)) ((kvD m).map (·.2)))=_;unfold kvD dD;simp only[List.map_map];rfl
def JG(q:Addr×Unit){m:Mp}(n c:Nat)(hm:m≠[])(hn:(keys m).Nodup)(hp:Len J m)(hJ:J<890):bZ jZ q (ai 4 [dD m,.int (n:Int),.int (c:Int)])=.rt (dD (kS m n c)):=by
 have h0:bZ jZ q (ai 4 [dD m,.int (n:Int),.int (c:Int)])=eD jZ [vD (dD m),vI n,vI c,some (.obj true DC q.1 (fsD m))]:=by
  cases m with
  |nil=>exact absurd rfl hm
  |cons z r=>show eD jZ [_,_,_,some (.obj true DC q.1 ((((z::r:Mp).map λz=>kN z.1)).zip ((((z::r:Mp).map λz=>pD z.2)).map Fd.val)))]=_;rw[Ee]
 rw[h0];have h1:=uR (x0:=vD (dD m)) (x1:=vI n) (x2:=vI c) (q:=q.1) (false,false) (true,false) (o:=.go n c) (go:=aq mkT (aa (csz [103,111]) (aa (rvz 1) (aa (rvz 2) nlz)))) rfl hn hp (by omega);have n1:=pC hn (false,false) (true,false) (.go n c);have l1:=hp.move (false,false) (true,false) (.go n c);have h2:=uR (x0:=vD (dD m)) (x1:=vI n) (x2:=vI c) (q:=q.1) (true,false) (true,true) (o:=.wipe) (go:=aq mkT (aa (csz [119,105,112,101]) nlz)) rfl n1 l1 (by omega);have n2:=pC n1 (true,false) (true,true) .wipe;have l2:=l1.move (true,false) (true,true) .wipe;have h3:=uR (x0:=vD (dD m)) (x1:=vI n) (x2:=vI c) (q:=q.1) (false,true) (true,true) (o:=.go n c) (go:=aq mkT (aa (csz [103,111]) (aa (rvz 1) (aa (rvz 2) nlz)))) rfl n2 l2 (by omega);unfold eD;show(eF jZ _).seq _=_;rw[show eF jZ _=_ from h1];show(eA jZ _).seq _=_;rw[show eA jZ _=_ from h2];show(eB jZ _).seq _=_;rw[show eB jZ _=_ from h3];show(sU 3 _).seq _=_;rw[yL (q:=q.1) (m:=kS m n c) rfl];rfl
open Classical in
noncomputable def wmF:List D->R D:=λds=>if ∃m,∃n c:Nat,ds=[dD m,.int (n:Int),.int (c:Int)]/\m≠[]/\(keys m).Nodup/\Len 880 m then ao (bZ jZ (0,()) (ai 4 ds))else .no
def Jl{m:Mp}(n c:Nat)(hm:m≠[])(hn:(keys m).Nodup)(hp:Len J m)(hJ:J<=880):wmF [dD m,.int (n:Int),.int (c:Int)]=.ok (dD (kS m n c)):=by unfold wmF;rw[if_pos ⟨m,n,c,rfl,hm,hn,hp.mono hJ⟩,JG _ n c hm hn hp (by omega)];rfl
def qV:∀ds:List D,ds.length=3->wmF ds=.no\/∀q,ao (bZ jZ q (ai 4 ds))=wmF ds:=by
 intro ds _;by_cases h:∃m,∃n c:Nat,ds=[dD m,.int (n:Int),.int (c:Int)]/\m≠[]/\(keys m).Nodup/\Len 880 m;·obtain⟨m,n,c,rfl,hm,hn,hp⟩:=h;refine .inr λq=>?_;rw[Jl n c hm hn hp (yh _),JG q n c hm hn hp (by omega)];rfl
 ·exact .inl (by unfold wmF;exact if_neg h)
noncomputable def und(old:Nat)(b:Bool):Nat:=match b with
 |true=>32
 |false=>old
def pJ{g h:Ev->O}{ρ1:Ev}(e:g ρ=.nx ρ1):aw g h ρ=h ρ1:=by show(g ρ).seq h=_;rw[e];rfl
noncomputable def yj(old new:Nat)(acc:Mp)(z:Ky×Pl):Mp:=
 let a1:=if z.1.1=true then bX acc (true,z.1.2) (lV z.2 (.say [new]))else acc
 if und old z.1.2=new then bX a1 (false,z.1.2) z.2 else a1
noncomputable def Cq(old new:Nat)(m:Mp):Mp:=m.foldl (yj old new) []
def pi{old new:Nat}{acc:Mp}{z:Ky×Pl}(h:(keys acc).Nodup):(keys (yj old new acc z)).Nodup:=by
 unfold yj;have h1:(keys (if z.1.1=true then bX acc (true,z.1.2) (lV z.2 (.say [new]))else acc)).Nodup:=by
  split;·exact gL h
  ·exact h
 dsimp only;split;·exact gL h1
 ·exact h1
theorem lD{α:Type}{P:Mp->Prop}{f:Mp->α->Mp}:∀{l:List α}{a:Mp},P a->(∀a x,x∈l->P a->P (f a x))->P (l.foldl f a)
 | [],_,h,_=>h
 |x::l,a,h,H=>lD (l:=l) (H a x (v3 ..) h) λa y hy=>H a y (w4 _ hy)
def xg{old new:Nat}{m:Mp}:(keys (Cq old new m)).Nodup:=lD (P:=λm=>(keys m).Nodup) List.Pairwise.nil λ_ _ _ h=>pi h
def wu{old new:Nat}{m:Mp}{P R:Ky->Pl->Prop}(h:All P m)(h1:∀k p,P k p->k.1=true->R (true,k.2) (lV p (.say [new])))(h2:∀k p,P k p->und old k.2=new->R (false,k.2) p):All R (Cq old new m):=by
 refine lD (P:=All R) (λz hz=>nomatch hz) λa x hx ha=>?_;unfold yj;dsimp only;have g1:All R (if x.1.1=true then bX a (true,x.1.2) (lV x.2 (.say [new]))else a):=by
  split;·rename_i q;exact All.offer ha (h1 _ _ (h x hx) q)
  ·exact ha
 split;·rename_i q;exact All.offer g1 (h2 _ _ (h x hx) q)
 ·exact g1
def AD{x0 x6:Option Sl}{acc:Mp}(old new:Nat)(k:Ky)(p:Pl)(hn:(keys acc).Nodup)(hp:p.2.length<900):
  dm jZ cZ [x0,vS [old],vS [new],dO q acc,vD (kD k),vD (pD p),x6] =
   .nx [x0,vS [old],vS [new],dO q (yj old new acc (k,p)),vD (kD k),vD (pD p),vD (.bl k.2)]:=by
 obtain⟨k1,k2⟩:=k;unfold dm yj;have i1:ixD (kD (k1,k2)) (.int 1)=some (.bl k2):=rfl;have i0:ixD (kD (k1,k2)) (.int 0)=some (.bl k1):=rfl;have fin:∀a1:Mp,(keys a1).Nodup->oIf (gB2 eqF (gIf (aq ie (rvz 6)) (csz [32]) (rvz 1)) (rvz 2)) (aw (fj (jV DC 3 2 cZ (aa (aq mkT (aa (λ_=>R.ok (D.bl false)) (aa (rvz 6) nlz))) (aa (rvz 5) nlz)))) oNx) oNx
   [x0,vS [old],vS [new],dO q a1,vD (kD (k1,k2)),vD (pD p),vD (.bl k2)] =
   .nx [x0,vS [old],vS [new],dO q (if und old k2=new then bX a1 (false,k2) p else a1),vD (kD (k1,k2)),vD (pD p),vD (.bl k2)]:=by
  intro a1 n1;have hl:=Fc n1;have h4:=B2 (C:=DC) (i:=3) (n:=2) (F:=cZ) (gl:=aa (aq mkT (aa (λ_=>R.ok (D.bl false)) (aa (rvz 6) nlz))) (aa (rvz 5) nlz)) (ρ:=[x0,vS [old],vS [new],dO q a1,vD (kD (k1,k2)),vD (pD p),vD (.bl k2)]) (ds:=[kD (false,k2),pD p]) (d:=.non) rfl rfl rfl (qS (false,k2) p (by omega));have h6:∀y:Nat,eqF (.str [y]) (.str [new])=some (.bl (decide (y=new))):=λy=>by
   rw[MX];congr 2;by_cases z:y=new;·rw[z,sE,ss rfl]
   ·rw[u7 z,uO];intro y;exact z (by injection y)
  clear i1 i0 hl hp hn;have h7:=h6 (und old k2);clear h6;by_cases z:und old k2=new;·rw[ss z]at h7;rw[if_pos z];clear z;cases k2 <;> dsimp only[und]at h7 <;> walk_at "run"
  ·rw[u7 z]at h7;rw[if_neg z];clear z;cases k2 <;> dsimp only[und]at h7 <;> walk_at "run"
 have hl:=Fc hn;cases k1 with
 |true=>
  have f1:=fin (bX acc (true,k2) (lV p (.say [new]))) (gL hn);have h4:=B2 (C:=DC) (i:=3) (n:=3) (F:=jZ) (gl:=aa (aq mkT (aa (λ_=>R.ok (D.bl true)) (aa (rvz 6) nlz))) (aa (rvz 5) (aa (aq mkT (aa (csz [115,97,121]) (aa (rvz 2) nlz))) nlz))) (ρ:=[x0,vS [old],vS [new],dO q acc,vD (kD (true,k2)),vD (pD p),vD (.bl k2)]) (ds:=[kD (true,k2),pD p,oD (.say [new])]) (d:=.non) rfl rfl rfl (zb (true,k2) (.say [new]) (by omega) hp);refine(pJ (ρ1:=[x0,vS [old],vS [new],dO q acc,vD (kD (true,k2)),vD (pD p),vD (.bl k2)]) ?_).trans ?_;·rfl
  refine(pJ (ρ1:=[x0,vS [old],vS [new],dO q (bX acc (true,k2) (lV p (.say [new]))),vD (kD (true,k2)),vD (pD p),vD (.bl k2)]) ?_).trans ?_
  ·clear fin f1 hl hn hp
   walk_at "run"
  exact pJ f1
 |false=>
  have f1:=fin acc hn;refine(pJ (ρ1:=[x0,vS [old],vS [new],dO q acc,vD (kD (false,k2)),vD (pD p),vD (.bl k2)]) ?_).trans ?_;·rfl
  refine(pJ (ρ1:=[x0,vS [old],vS [new],dO q acc,vD (kD (false,k2)),vD (pD p),vD (.bl k2)]) ?_).trans ?_;·rfl
  exact pJ f1
def GC(k:Ky):DZ (kN k)=kD k:=sL k.1 k.2
def Dz(m:Mp):AS (dD m)=.ok (m.map λz=>.tup [kD z.1,pD z.2]):=by
 show R.ok ((((m.map λz=>kN z.1)).zip ((m.map λz=>pD z.2))).map λz=>D.tup [DZ z.1,z.2])=_;rw[zc];unfold kvD;rw[List.map_map]
 congr 1
 refine mP λz _=>?_;show D.tup [DZ (kN z.1),_]=_;rw[GC]
theorem sA{x0:Option Sl}{q:Addr}(old new:Nat):∀(m acc:Mp)(x4 x5 x6:Option Sl),(keys acc).Nodup->Len 890 m->∃y4 y5 y6,da (uh [4,5]) (dm jZ cZ) (m.map λz=>.tup [kD z.1,pD z.2]) [x0,vS [old],vS [new],dO q acc,x4,x5,x6] =
  .nx [x0,vS [old],vS [new],dO q (m.foldl (yj old new) acc),y4,y5,y6]
 | [],acc,x4,x5,x6,_,_=>⟨x4,x5,x6,rfl⟩
 | (k,p)::m,acc,x4,x5,x6,hn,hp=>by obtain⟨y4,y5,y6,ih⟩:=sA old new m (yj old new acc (k,p)) (vD (kD k)) (vD (pD p)) (vD (.bl k.2)) (pi hn) λz hz=>hp z (w4 _ hz);refine⟨y4,y5,y6,?_⟩;rw[x9,gM (ρ1:=[x0,vS [old],vS [new],dO q acc,vD (kD k),vD (pD p),x6]) rfl (AD old new k p hn (by have:=hp (k,p) (v3 ..);dsimp only at this;omega))];exact ih
def HG(q:Addr×Unit){m:Mp}(old new:Nat)(hp:Len 890 m):bW jZ cZ q (ai 7 [dD m,.str [old],.str [new]])=.rt (dD (Cq old new m)):=by
 obtain⟨y4,y5,y6,h⟩:=sA (x0:=vD (dD m)) (q:=q.1) old new m [] none none none List.Pairwise.nil hp;show(ck jZ cZ [vD (dD m),vS [old],vS [new],some (.obj true DC q.1 (fsD [])),none,none,none]).seq (aw (eK jZ cZ) oNx)=_;have e:ck jZ cZ [vD (dD m),vS [old],vS [new],some (.obj true DC q.1 (fsD [])),none,none,none]=.nx [vD (dD m),vS [old],vS [new],some (.obj true DC q.1 (fsD (Cq old new m))),y4,y5,y6]:=by
  have h2:=Dz m;unfold ck
  walk_at "run"
  rfl
 rw[e];show(sU 3 _).seq _=_;rw[yL (q:=q.1) (m:=Cq old new m) rfl];rfl
open Classical in
noncomputable def soF:List D->R D:=λds=>if ∃m,∃old new:Nat,ds=[dD m,.str [old],.str [new]]/\Len 890 m then ao (bW jZ cZ (0,()) (ai 7 ds))else .no
def HK{m:Mp}(old new:Nat)(hp:Len 890 m):soF [dD m,.str [old],.str [new]]=.ok (dD (Cq old new m)):=by unfold soF;rw[if_pos ⟨m,old,new,rfl,hp⟩,HG _ old new hp];rfl
def mv:∀ds:List D,ds.length=3->soF ds=.no\/∀q,ao (bW jZ cZ q (ai 7 ds))=soF ds:=by
 intro ds _;by_cases h:∃m,∃old new:Nat,ds=[dD m,.str [old],.str [new]]/\Len 890 m;·obtain⟨m,old,new,rfl,hp⟩:=h;refine .inr λq=>?_;rw[HK old new hp,HG q old new hp];rfl
 ·exact .inl (by unfold soF;exact if_neg h)
noncomputable def Es(n:Nat)(old new:List Nat)(m:Mp)(c:Nat):Mp:=Cq (old.getD c 0) (new.getD c 0) (kS m n c)
noncomputable def my(n:Nat)(old new:List Nat)(b:Nat)(m:Mp):Mp:=(List.range' b (old.length - b)).foldl (Es n old new) m
def iQ{m:Mp}{k j:Ky}{p:Pl}(h:m.lookup j≠none):(bX m k p).lookup j≠none:=by
 rw[oW];split
 ·split;·exact λz=>nomatch z
  ·split <;> exact λz=>nomatch z
 ·exact h
def nD{m:Mp}{k:Ky}{p:Pl}:(bX m k p).lookup k≠none:=by
 rw[oW,if_pos rfl];split;·exact λz=>nomatch z
 ·split <;> exact λz=>nomatch z
def mT{m:Mp}{a b j:Ky}{o:Od}(h:m.lookup j≠none):(move m a b o).lookup j≠none:=by
 unfold move;split;·exact iQ h
 ·exact h
def C3{m:Mp}{a b:Ky}{o:Od}(h:m.lookup a≠none):(move m a b o).lookup b≠none:=by
 unfold move;split;·exact nD
 ·rename_i e;exact absurd e h
def zB{old new:Nat}{acc:Mp}{z:Ky×Pl}{j:Ky}(h:acc.lookup j≠none):(yj old new acc z).lookup j≠none:=by
 unfold yj;have h1:(if z.1.1=true then bX acc (true,z.1.2) (lV z.2 (.say [new]))else acc).lookup j≠none:=by
  split;·exact iQ h
  ·exact h
 dsimp only;split;·exact iQ h1
 ·exact h1
def Dj{old new:Nat}{m:Mp}(h:m.lookup (true,false)≠none):(Cq old new m).lookup (true,false)≠none:=by
 cases e:m.lookup (true,false)with
 |none=>exact absurd e h
 |some p=>
  have hm:=qQ e;have go:∀(l:Mp)(acc:Mp),((true,false),p)∈l\/acc.lookup (true,false)≠none->(l.foldl (yj old new) acc).lookup (true,false)≠none:=by
   intro l;induction l with
   |nil=>intro acc h;rcases h with h|h;exact nomatch h;exact h
   |cons z l ih=>
    intro acc h;refine ih _ ?_;rcases h with h|h
    ·rcases xO.1 h with h|h
     ·subst h;refine .inr ?_;unfold yj;dsimp only;rw[if_pos rfl];split;·exact iQ nD
      ·exact nD
     ·exact .inl h
    ·exact .inr (zB h)
  exact go m [] (.inl hm)
structure Gd(J:Nat)(m:Mp):Prop where
 nd:(keys m).Nodup
 ne:m.lookup (true,false)≠none\/m.lookup (false,false)≠none
 len:Len J m
def Gd.nn{m:Mp}(g:Gd J m):m≠[]:=λe=>by subst e;rcases g.ne with h|h <;> exact h rfl
def xq{m:Mp}(g:Gd J m)(n c:Nat):(kS m n c).lookup (true,false)≠none:=by
 unfold kS;refine mT (mT ?_);rcases g.ne with h|h;·exact mT h
 ·exact C3 h
def Len.moves{m:Mp}(h:Len J m)(n c:Nat):Len (J+3) (kS m n c):=((h.move _ _ _).move _ _ _).move _ _ _
def Len.sov{m:Mp}(h:Len J m)(old new:Nat):Len (J+1) (Cq old new m):=
 wu (P:=λ_ p=>p.2.length<=J) h (λk p hp _=>by simp only[lV,ud,iO];omega) λk p hp _=>Nat.le_succ_of_le hp
def Gd.col{m:Mp}(g:Gd J m)(n c:Nat)(old new:List Nat):Gd (J+4) (Es n old new m c):=
 ⟨xg,.inl (Dj (xq g n c)),(g.len.moves n c).sov _ _⟩
def xx{a b:Nat}(h:a+b<=1000):jm [.int (a:Int),.int ((a+b:Nat):Int)]=.ok ((List.range' a b).map λ(i:Nat)=>D.int (i:Int)):=by
 have e:jm [.int (a:Int),.int ((a+b:Nat):Int)]=if -(2 ^ 62)<=(a:Int)/\(a:Int)<2 ^ 62/\-(2 ^ 62)<=((a+b:Nat):Int)/\((a+b:Nat):Int)<2 ^ 62 then .ok ((List.range (((a+b:Nat):Int) - (a:Int)).toNat).map λk=>D.int ((a:Int)+(k:Nat)))else .no:=by simp only[jm]
 rw[e,if_pos (by refine⟨?_,?_,?_,?_⟩ <;> omega),show(((a+b:Nat):Int) - (a:Int)).toNat=b by omega,List.range'_eq_map_range,pS];refine ut R.ok (mP λk _=>?_);simp
def wf{x:List Nat}{c:Nat}(h:c<x.length):x[c]?=some (x.getD c 0):=by rw[v9,w9 h];rfl
def GP{x0 x4:Option Sl}{m:Mp}(g:Gd J m)(n c:Nat){new:List Nat}(h1:c<old.length)(h2:c<new.length)(hJ:J<=880):
  lN wmF soF [x0,vI n,vS old,vS new,x4,vD (dD m),vI c]=.nx [x0,vI n,vS old,vS new,x4,vD (dD (Es n old new m c)),vI c]:=by
 have e1:=Jl n c g.nn g.nd g.len hJ;have e2:=HK (m:=kS m n c) (old.getD c 0) (new.getD c 0) ((g.len.moves n c).mono (by omega));have e3:=Ko (wf h1);have e4:=Ko (wf h2);unfold lN Es;clear h1 h2 hJ g
 walk_at "run"
theorem yn{x0 x4:Option Sl}(n:Nat){old new:List Nat}(hl:new.length=old.length):∀(k b J:Nat)(m:Mp)(x6:Option Sl),b+k<=old.length->Gd J m->J+4 * k<=880->∃y6,da (lP 6) (lN wmF soF) ((List.range' b k).map λ(i:Nat)=>D.int (i:Int)) [x0,vI n,vS old,vS new,x4,vD (dD m),x6] =
  .nx [x0,vI n,vS old,vS new,x4,vD (dD ((List.range' b k).foldl (Es n old new) m)),y6]/\Gd (J+4 * k) ((List.range' b k).foldl (Es n old new) m)
 | 0,b,J,m,x6,_,g,_=>⟨x6,rfl,g⟩
 |k+1,b,J,m,x6,hb,g,hJ=>by
  obtain⟨y6,ih,gg⟩:=yn (x0:=x0) (x4:=x4) n hl k (b+1) (J+4) (Es n old new m b) (vI b) (by omega) (g.col n b old new) (by omega);refine⟨y6,?_,?_⟩;·rw[bY,x9,gM (ρ1:=[x0,vI n,vS old,vS new,x4,vD (dD m),vI b]) rfl (GP g n b (by omega) (by omega) (by omega))];exact ih
  ·rw[bY,oH,show J+4 * (k+1)=J+4+4 * k by omega];exact gg
noncomputable def swF:List D->R D:=λds=>ao (mI wmF soF (ai 7 ds))
def ye{m:Mp}(g:Gd J m)(n:Nat){new:List Nat}{b:Nat}(hl:new.length=old.length)(hb:b<=old.length)(hJ:J+4 * old.length<=880):
  swF [dD m,.int (n:Int),.str old,.str new,.int (b:Int)]=.ok (dD (my n old new b m))/\Gd (J+4 * (old.length - b)) (my n old new b m):=by
 obtain⟨y6,h,gg⟩:=yn (x0:=vD (dD m)) (x4:=vI b) n hl (old.length - b) b J m none (by omega) g (by omega);refine⟨?_,gg⟩;have hr:=xx (a:=b) (b:=old.length - b) (by omega);rw[show b+(old.length - b)=old.length by omega]at hr;show ao (aw _ _ [vD (dD m),vI n,vS old,vS new,vI b,none,none])=_;clear gg hJ hb hl g
 walk_at "run"
 rfl
noncomputable def Bs:Pl->List Pl->Pl
 |b,[]=>b
 |b,x::xs=>if x.1<b.1 then Bs x xs else Bs b xs
noncomputable def FI:List Pl->Pl
 | []=>(0,[])
 |b::xs=>Bs b xs
noncomputable def iA(m:Mp)(ks:List Ky):List Pl:=ks.filterMap λk=>m.lookup k
noncomputable def pw(m:Mp)(ks:List Ky):Pl:=FI (iA m ks)
theorem ue:∀(xs:List Pl)(b:Pl),rW (λd=>pcF [d]) (pD b) (b.1:Int) (xs.map pD)=.ok (pD (Bs b xs))
 | [],b=>rfl
 |x::xs,b=>by
  rw[x9];show(match pcF [pD x]with
   |.ok (.int kx)=>if kx<(b.1:Int)then rW (λd=>pcF [d]) (pD x) kx (xs.map pD)else rW (λd=>pcF [d]) (pD b) (b.1:Int) (xs.map pD)
   |_=>.no)=.ok (pD (if x.1<b.1 then Bs x xs else Bs b xs));rw[Dk];dsimp only;by_cases h:x.1<b.1;·rw[if_pos (by omega),if_pos h];exact ue xs x
  ·rw[if_neg (by omega),if_neg h];exact ue xs b
def wC{xs:List Pl}(h:xs≠[]):qe (λd=>pcF [d]) (xs.map pD)=.ok (pD (FI xs)):=by
 cases xs with
 |nil=>exact absurd rfl h
 |cons b xs=>
  show(match pcF [pD b]with
   |.ok (.int kx)=>rW (λd=>pcF [d]) (pD b) kx (xs.map pD)
   |_=>.no)=_;rw[Dk];exact ue xs b
theorem jN:∀(xs:List Pl)(b:Pl),Bs b xs∈b::xs
 | [],b=>v3 ..
 |x::xs,b=>by
  show(if x.1<b.1 then Bs x xs else Bs b xs)∈_;split;·exact w4 _ (jN xs x)
  ·rcases xO.1 (jN xs b)with h|h;·rw[h];exact v3 ..
   ·exact w4 _ (w4 _ h)
def Bk{xs:List Pl}(h:xs≠[]):FI xs∈xs:=by
 cases xs with
 |nil=>exact absurd rfl h
 |cons b xs=>exact jN xs b
def zV{P:Pl->Prop}{m:Mp}{ks:List Ky}(h:All (λ_=>P) m):∀p∈iA m ks,P p:=λp hp=>by obtain⟨k,_,e⟩:=j1.1 hp;exact All.at h e
def fT{P:Pl->Prop}{m:Mp}{ks:List Ky}(h:All (λ_=>P) m)(hn:iA m ks≠[]):P (pw m ks):=zV h _ (Bk hn)
def lQ{m:Mp}{ks:List Ky}{k:Ky}(hk:k∈ks)(h:m.lookup k≠none):iA m ks≠[]:=by
 cases e:m.lookup k with
 |none=>exact absurd e h
 |some p=>exact List.ne_nil_of_mem (j1.2 ⟨k,hk,e⟩)
noncomputable def chF:List D->R D:=λds=>ao (iB pcF (ai 2 ds))
theorem Bc{m:Mp}:∀(ks:List Ky)(a:Option Sl),fV (rg false 1 (rvz 0)) (hV 1 (rvz 0)) (ks.map kD) [a,vD (dD m)]=.ok ((iA m ks).map pD)
 | [],a=>rfl
 |k::ks,a=>by
  have ih:=Bc (m:=m) ks (vD (kD k));have h3:sI [vD (kD k),vD (dD m)] 1=.ok (kvD m):=B7 rfl;have h1:=D8 (neg:=false) (i:=1) (ge:=λρ=>rdV ρ 0) (ρ:=[vD (kD k),vD (dD m)]) rfl (lW k) h3;rw[mY,Option.isSome_map]at h1;show(de (rg false 1 (rvz 0) [vD (kD k),vD (dD m)])>>=λk'=>if k'=true then de (hV 1 (rvz 0) [vD (kD k),vD (dD m)])>>=λx=>fV (rg false 1 (rvz 0)) (hV 1 (rvz 0)) (ks.map kD) [vD (kD k),vD (dD m)]>>=λxs=>.ok (x::xs)else fV (rg false 1 (rvz 0)) (hV 1 (rvz 0)) (ks.map kD) [vD (kD k),vD (dD m)])=_;rw[h1,ih];cases e:m.lookup k with
  |none=>
   have:iA m (k::ks)=iA m ks:=by unfold iA;rw[List.filterMap_cons,e]
   rw[this];rfl
  |some p=>
   have h2:=Ad (i:=1) (ge:=λρ=>rdV ρ 0) (v:=pD p) h3 rfl (lW k) (by rw[mY,e];rfl);have:iA m (k::ks)=p::iA m ks:=by unfold iA;rw[List.filterMap_cons,e]
   rw[this,h2];rfl
def E2{m:Mp}{ks:List Ky}(hn:iA m ks≠[])(hl:ks.length<=4):chF [dD m,.tup (ks.map kD)]=.ok (pD (pw m ks)):=by
 have h1:=Bc (m:=m) ks none;have h2:((iA m ks).map pD).length<=sizeLine:=by
  have h3:1000<=sizeLine:=by decide
  have h4:=List.length_filterMap_le (λk=>m.lookup k) ks;rw[x8];unfold iA;omega
 have h5:=wC hn;have h6:bD (fK (aq bA (rvz 1)) [0] (rg false 1 (rvz 0)) (hV 1 (rvz 0))) [vD (dD m),vD (.tup (ks.map kD))]=.ok (.lst false ((iA m ks).map pD)):=by
  have h7:bA (.tup (ks.map kD))=.ok (ks.map kD):=rfl;have h8:iT [0] [vD (dD m),vD (.tup (ks.map kD))]=[none,vD (dD m)]:=rfl;clear h5
  walk_at "run"
 show ao (aw (cF (tV _ pcF)) oNx [vD (dD m),vD (.tup (ks.map kD))])=_;have h9:tV (bD (fK (aq bA (rvz 1)) [0] (rg false 1 (rvz 0)) (hV 1 (rvz 0)))) pcF [vD (dD m),vD (.tup (ks.map kD))]=.ok (pD (pw m ks)):=by unfold tV;rw[h6,R.ok_bind];exact h5
 clear h6 h5 h2 h1
 walk_at "run"
def ER{n:Nat}{h:List D->R D}(e:gl ρ=.ok ds)(l:ds.length=n):aD n h gl ρ=h ds:=by unfold aD;rw[e,R.ok_bind,if_pos l]
noncomputable def allK:List Ky:=[(false,false),(true,false),(false,true),(true,true)]
noncomputable def twoK:List Ky:=[(false,false),(true,false)]
noncomputable def m0(k:Ky):Mp:=[(k,(0,[]))]
noncomputable def jd(n:Nat)(old new:List Nat):Pl:=pw (my n old new 0 (m0 (false,false))) allK
noncomputable def kQ(n:Nat)(old new:List Nat)(c:Nat):Pl:=pw (my n old new c (m0 (true,false))) allK
noncomputable def sH(n:Nat)(old new:List Nat)(c:Nat):Pl:=pw (my n (old.take c) (new.take c) 0 (m0 (false,false))) twoK
noncomputable def gT(n:Nat)(old new:List Nat)(c:Nat):Pl:=((kQ n old new c).1+(sH n old new c).1,(kQ n old new c).2++(sH n old new c).2)
noncomputable def Bo(n:Nat)(old new:List Nat)(c:Nat):Pl:=Bs (gT n old new c) [jd n old new]
def gd0:Gd 0 (m0 (false,false)):=⟨by decide,.inr (λz=>nomatch z),λz hz=>by rw[uK.1 hz];exact yh _⟩
def gd1:Gd 0 (m0 (true,false)):=⟨by decide,.inl (λz=>nomatch z),λz hz=>by rw[uK.1 hz];exact yh _⟩
def Gd.two{m:Mp}(g:Gd J m):iA m twoK≠[]:=by
 rcases g.ne with h|h;·exact lQ (by decide) h
 ·exact lQ (by decide) h
def Gd.all{m:Mp}(g:Gd J m):iA m allK≠[]:=by
 rcases g.ne with h|h;·exact lQ (by decide) h
 ·exact lQ (by decide) h
noncomputable def peF:List D->R D:=λds=>ao (bS swF chF (ai 4 ds))
def IS{h:List D->R D}{ga gc gd:Ev->R D}:aD 5 h (aa ga (aa gb (aa gc (aa gd (aa ge λ_=>.ok []))))) ρ=ga ρ>>=λx=>gb ρ>>=λy=>gc ρ>>=λz=>gd ρ>>=λw=>ge ρ>>=λv=>h [x,y,z,w,v]:=by
 unfold aD aa;cases ga ρ <;> try rfl
 simp only[aa,R.ok_bind];cases gb ρ <;> try rfl
 simp only[R.ok_bind];cases gc ρ <;> try rfl
 simp only[R.ok_bind];cases gd ρ <;> try rfl
 simp only[R.ok_bind];cases ge ρ <;> rfl
def IU(b:Bool)(ρ:Ev):gD1 (λ_=>R.ok (D.tup [D.bl b,D.bl false])) (λ_=>R.ok (D.tup [D.int 0,D.tup []])) ρ=.ok (dD (m0 (b,false))):=rfl
def JF:mkT [D.tup [D.bl false,D.bl false],D.tup [D.bl true,D.bl false],D.tup [D.bl false,D.bl true],D.tup [D.bl true,D.bl true]]=.ok (.tup (allK.map kD)):=rfl
def Mh:mkT [D.tup [D.bl false,D.bl false],D.tup [D.bl true,D.bl false]]=.ok (.tup (twoK.map kD)):=rfl
def Gj(n:Nat){new:List Nat}(hl:new.length=old.length)(hw:old.length<=40):peF [.int (n:Int),.str old,.str new]=.ok (pD (jd n old new))/\(jd n old new).2.length<=4 * old.length:=by
 obtain⟨h1,g⟩:=ye gd0 n (b:=0) hl (v8 _) (by omega);have b:=fT (ks:=allK) (P:=λp=>p.2.length<=0+4 * (old.length - 0)) g.len g.all;refine⟨?_,by unfold jd;omega⟩;have h1:swF [_,_,_,_,.int 0]=_:=h1;have h2:=E2 g.all (by decide);have k5:=@IS;have d1:=IU;have k4:=JF;show ao (aw _ _ [vI n,vS old,vS new,none])=_;unfold jd;clear b g hw hl
 walk_at "run"
noncomputable def ppF:List D->R D:=λds=>ao (cO swF chF (ai 7 ds))
def Eg{x:List Nat}{c:Nat}(h:c<=x.length):EN none (some (c:Int)) (.str x)=some (.str (x.take c)):=by show some (D.str (lw x none (some (c:Int))))=_;rw[C2 x c h]
def CS{a b:List Od}(h:a.length+b.length<=900):bM (.tup (a.map oD)) (.tup (b.map oD))=some (.tup ((a++b).map oD)):=by
 have h1:1000<=sizeLine:=by decide
 show(if _ then _ else _)=_;rw[if_pos (by simp only[x8];omega),n0]
def Mq(n:Nat){new:List Nat}{c:Nat}(hl:new.length=old.length)(hw:old.length<=40)(hc:c<=old.length):ppF [.int (n:Int),.str old,.str new,.int (c:Int)]=.ok (pD (gT n old new c))/\(gT n old new c).2.length<=4 * old.length:=by
 obtain⟨h1,g1⟩:=ye gd1 n (b:=c) hl hc (by omega);have l1:(old.take c).length=c:=by rw[qc];omega
 have l2:(new.take c).length=c:=by rw[qc];omega
 obtain⟨h2,g2⟩:=ye gd0 n (b:=0) (old:=old.take c) (new:=new.take c) (by omega) (v8 _) (by omega);have b1:=fT (ks:=allK) (P:=λp=>p.2.length<=0+4 * (old.length - c)) g1.len g1.all;have b2:=fT (ks:=twoK) (P:=λp=>p.2.length<=0+4 * ((old.take c).length - 0)) g2.len g2.two;have b3:(gT n old new c).2.length<=4 * old.length:=by unfold gT kQ sH;rw[List.length_append];rw[l1]at b2;omega
 refine⟨?_,b3⟩;have h3:_=R.ok (pD (kQ n old new c)):=E2 g1.all (by decide);have h4:_=R.ok (pD (sH n old new c)):=E2 g2.two (by decide);have h2:swF [_,_,_,_,.int 0]=_:=h2;have h5:=Eg (x:=old) hc;have h6:=Eg (x:=new) (by omega:c<=new.length);have h7:=CS (a:=(kQ n old new c).2) (b:=(sH n old new c).2) (by unfold gT at b3;rw[List.length_append]at b3;omega);have k5:=@IS;have d1:=IU;have k4:=JF;have k2:=Mh;have i0:∀p:Pl,ixD (pD p) (.int 0)=some (.int (p.1:Int)):=λ_=>rfl;have i1:∀p:Pl,ixD (pD p) (.int 1)=some (.tup (p.2.map oD)):=λ_=>rfl;have i5:mkT [.int (((kQ n old new c).1:Int)+((sH n old new c).1:Int)),.tup (((kQ n old new c).2++(sH n old new c).2).map oD)]=.ok (pD (gT n old new c)):=rfl;show ao (aw _ _ [vI n,vS old,vS new,vI c,none,none,none])=_;clear b1 b2 b3 l1 l2 g1 g2 hl hw hc
 walk_at "run"
noncomputable def rpF:List D->R D:=λds=>ao (cq peF ppF pcF (ai 5 ds))
def JS(n:Nat){new:List Nat}{c:Nat}(hl:new.length=old.length)(hw:old.length<=40)(hc:c<=old.length):rpF [.int (n:Int),.str old,.str new,.int (c:Int)]=.ok (pD (Bo n old new c))/\(Bo n old new c).2.length<=4 * old.length:=by
 obtain⟨h1,b1⟩:=Gj n hl hw;obtain⟨h2,b2⟩:=Mq n hl hw hc;refine⟨?_,?_⟩
 ·have h3:_=R.ok (pD (Bo n old new c)):=wC (xs:=[gT n old new c,jd n old new]) (λz=>nomatch z);have hz:2<=sizeLine:=by decide
  have mn:∀(ga:Ev->R D)(ρ:Ev),tV ga pcF ρ=ga ρ>>=λd=>match d with|.lst _ xs=>qe (λd=>pcF [d]) xs|_=>.no:=λ_ _=>rfl
  show ao (aw _ _ [vI n,vS old,vS new,vI c,none])=_;clear b1 b2 hl hw hc;rw[x9,x9,qx]at h3
  walk_at "run"
 ·rcases xO.1 (jN [jd n old new] (gT n old new c))with h|h;·unfold Bo;rw[h];exact b2
  ·unfold Bo;rw[List.mem_singleton.1 h];exact b1
def qz{P:Pl->Prop}{m:Mp}{a b:Ky}{o:Od}(h:All (λ_=>P) m)(ho:∀p,P p->P (lV p o)):All (λ_=>P) (move m a b o):=by
 unfold move;split;·rename_i p e;exact All.offer h (ho p (All.at h e))
 ·exact h
def xo{P:Pl->Prop}{n b:Nat}{new:List Nat}{m:Mp}(h:All (λ_=>P) m)(hg:∀c,c<old.length->∀p,P p->P (lV p (.go n c)))(hw:∀p,P p->P (lV p .wipe))(hs:∀c,c<old.length->∀p,P p->P (lV p (.say [new.getD c 0]))):All (λ_=>P) (my n old new b m):=by
 refine lD (P:=All (λ_=>P)) h λa c hc ha=>?_;have hc':c<old.length:=by rw[ZB]at hc;omega
 exact wu (P:=λ_=>P) (qz (qz (qz ha (hg c hc')) hw) (hg c hc')) (λk p hp _=>hs c hc' p hp) λk p hp _=>hp
noncomputable def POk(p:Pl):Prop:=(∀o∈p.2,okO o=true/\rf o<=1)/\p.1=(p.2.map db).sum
def POk.add{p:Pl}{o:Od}(h:POk p)(ho:okO o=true)(hs:rf o<=1):POk (lV p o):=by
 refine⟨λx hx=>?_,?_⟩
 ·rcases q9.1 hx with hx|hx;·exact h.1 x hx
  ·rw[uK.1 hx];exact⟨ho,hs⟩
 ·simp only[lV,n0,ZA,h.2];simp
def POk.zero:POk (0,[]):=⟨λ_ h=>(by cases h),rfl⟩
def yQ{x:List Nat}{c:Nat}(h:plain x=true)(hc:c<x.length):plain [x.getD c 0]=true:=by
 have:x.getD c 0∈x:=by rw[v9,w9 hc];exact lT hc
 unfold plain at h⊢;simp only[oR,bV,kE];exact wX.1 h _ this
def lU{n b:Nat}{new:List Nat}{m:Mp}(h:All (λ_=>POk) m)(hn:n<=11)(hw:old.length<=40)(hl:new.length=old.length)(hp:plain new=true):All (λ_=>POk) (my n old new b m):=
 xo h (λc hc p q=>q.add (by simp only[okO,w5,ug];omega) (v8 _)) (λp q=>q.add rfl (v8 _))
  λc hc p q=>q.add (by have:=yQ hp (by omega:c<new.length);simp only[okO,this];rfl) (yh _)
def AA(k:Ky):All (λ_=>POk) (m0 k):=λz hz=>by rw[uK.1 hz];exact POk.zero
def vW{n:Nat}{new:List Nat}(hn:n<=11)(hw:old.length<=40)(hl:new.length=old.length)(hp:plain new=true):POk (jd n old new):=
 fT (lU (AA _) hn hw hl hp) (ye gd0 n (b:=0) hl (v8 _) (by omega)).2.all
def Dl{x:List Nat}(n:Nat)(h:plain x=true):plain (x.take n)=true:=by simp only[plain,wX]at *;exact λc hc=>h c (bO hc)
def zg{n c:Nat}{new:List Nat}(hn:n<=11)(hw:old.length<=40)(hl:new.length=old.length)(hp:plain new=true)(hc:c<=old.length):POk (kQ n old new c):=
 fT (lU (AA _) hn hw hl hp) (ye gd1 n (b:=c) hl hc (by omega)).2.all
def DD{n c:Nat}{new:List Nat}(hn:n<=11)(hw:old.length<=40)(hl:new.length=old.length)(hp:plain new=true)(hc:c<=old.length):POk (sH n old new c):=by
 have l1:(old.take c).length=c:=by rw[qc];omega
 have l2:(new.take c).length=c:=by rw[qc];omega
 exact fT (lU (AA _) hn (by omega) (by omega) (Dl c hp)) (ye gd0 n (b:=0) (old:=old.take c) (new:=new.take c) (by omega) (v8 _) (by omega)).2.two
def yG{n c:Nat}{new:List Nat}(hn:n<=11)(hw:old.length<=40)(hl:new.length=old.length)(hp:plain new=true)(hc:c<=old.length):POk (gT n old new c):=by
 have h1:=zg hn hw hl hp hc;have h2:=DD hn hw hl hp hc;refine⟨λo ho=>?_,?_⟩
 ·rcases q9.1 ho with ho|ho;·exact h1.1 o ho
  ·exact h2.1 o ho
 ·show _+_=_;rw[h1.2,h2.2];simp[gT]
def Er{n c:Nat}{new:List Nat}(hn:n<=11)(hw:old.length<=40)(hl:new.length=old.length)(hp:plain new=true)(hc:c<=old.length):POk (Bo n old new c):=by
 rcases xO.1 (jN [jd n old new] (gT n old new c))with h|h;·unfold Bo;rw[h];exact yG hn hw hl hp hc
 ·unfold Bo;rw[List.mem_singleton.1 h];exact vW hn hw hl hp
structure GL(s:St)(g:List (List Nat)):Prop where
 n:g.length=s.2.1.length
 l:∀x∈g,x.length=s.1/\plain x=true
def ul{s:St}{xs:List (List Nat)}(h:cf s.2.1.length s.1 xs=true):GL s (fb s.2.1.length s.1 xs):=by
 obtain⟨h1,h2⟩:=qP h;have hp:∀n,plain (List.replicate n 32)=true:=λn=>xE n 32 (by decide);unfold fb;refine⟨by rw[ud,x8,qg];omega,λx hx=>?_⟩;rcases q9.1 hx with hx|hx;·obtain⟨y,hy,rfl⟩:=ur.1 hx;have:=h2 y hy;unfold EU;exact⟨by rw[ud,qg];omega,oX this.1 (hp _)⟩
 ·rw[(Zz.1 hx).2];exact⟨qg ..,hp _⟩
def kW{s:St}{g:List (List Nat)}(h:GL s g)(hi:i<s.2.1.length):(g.getD i []).length=s.1/\plain (g.getD i [])=true:=by have:g.getD i []∈g:=lK (by rw[h.n];exact hi);exact h.l _ this
def dM{s:St}(h:GS s)(hi:i<s.2.1.length):(s.2.1.getD i []).length=s.1/\plain (s.2.1.getD i [])=true:=h.l _ (lK hi)
noncomputable def yp(s:St)(g:List (List Nat))(i:Nat):List Od:=if i=s.2.2.1 then []else (jd i (s.2.1.getD i []) (g.getD i [])).2
noncomputable def oV(s:St)(g:List (List Nat)):List Od:=(Bo s.2.2.1 (s.2.1.getD s.2.2.1 []) (g.getD s.2.2.1 []) s.2.2.2).2
noncomputable def ma(s:St)(g:List (List Nat)):List Od:=oV s g++(List.range' 0 s.2.1.length).flatMap (yp s g)
def zw{s:St}{g:List (List Nat)}(h:GS s)(hg:GL s g)(hi:i<s.2.1.length):(yp s g i).length<=4 * s.1:=by
 unfold yp;split;·exact v8 _
 ·have:=(Gj i (old:=s.2.1.getD i []) (new:=g.getD i []) (by rw[(dM h hi).1,(kW hg hi).1]) (by rw[(dM h hi).1];exact h.w2)).2
  rwa [(dM h hi).1]at this
def JR{s:St}{g:List (List Nat)}(h:GS s)(hg:GL s g)(hi:i<s.2.1.length):∀o∈yp s g i,okO o=true/\rf o<=1:=by
 unfold yp;split;·exact λo ho=>by cases ho
 ·have hm:=h.m;exact(vW (n:=i) (by omega) (by rw[(dM h hi).1];exact h.w2) (by rw[(dM h hi).1,(kW hg hi).1]) (kW hg hi).2).1
def sx{s:St}{g:List (List Nat)}(h:GS s)(hg:GL s g):(oV s g).length<=4 * s.1:=by
 have:=(JS s.2.2.1 (old:=s.2.1.getD s.2.2.1 []) (new:=g.getD s.2.2.1 []) (c:=s.2.2.2) (by rw[(dM h h.r).1,(kW hg h.r).1]) (by rw[(dM h h.r).1];exact h.w2) (by rw[(dM h h.r).1];exact h.c)).2
 rwa [(dM h h.r).1]at this
def Ca{s:St}{g:List (List Nat)}(h:GS s)(hg:GL s g):∀o∈oV s g,okO o=true/\rf o<=1:=by have hm:=h.m;have hr:=h.r;exact(Er (n:=s.2.2.1) (c:=s.2.2.2) (by omega) (by rw[(dM h h.r).1];exact h.w2) (by rw[(dM h h.r).1,(kW hg h.r).1]) (kW hg h.r).2 (by rw[(dM h h.r).1];exact h.c)).1
def yV(rows:List (List Nat)):bi 0 (rows.map .str)=(List.range' 0 rows.length).map λ(i:Nat)=>.tup [.int (i:Int),.str (rows.getD i [])]:=by
 unfold bi;rw[x8,List.range_eq_range'];refine mP λi hi=>?_;have hi':i<rows.length:=by rw[ZB]at hi;omega
 rw[v9,v9,v7,w9 hi',Nat.zero_add];rfl
theorem yv{F1 F2 F3 F4:List D->R D}{x0 x1:Option Sl}{s:St}{g:List (List Nat)}(h:GS s)(hg:GL s g):∀(k j:Nat)(acc:List Od)(x5 x6:Option Sl),j+k<=s.2.1.length->acc.length+4 * s.1 * k<=900->∃y5 y6,da (uh [5,6]) (lJ F1 F2 F3 peF F4) ((List.range' j k).map λ(i:Nat)=>.tup [.int (i:Int),.str (s.2.1.getD i [])])
  [x0,x1,vD (.lst false (g.map .str)),vD (.int (s.2.2.1:Int)),some (.own (acc.map oD)),x5,x6] =
  .nx [x0,x1,vD (.lst false (g.map .str)),vD (.int (s.2.2.1:Int)),some (.own ((acc++(List.range' j k).flatMap (yp s g)).map oD)),y5,y6]
 | 0,j,acc,x5,x6,_,_=>⟨x5,x6,by simp[qv]⟩
 |k+1,j,acc,x5,x6,hj,hl=>by
  have hi:j<s.2.1.length:=by omega
  have b1:=zw h hg hi;rw[ig]at hl;obtain⟨y5,y6,ih⟩:=yv (F1:=F1) (F2:=F2) (F3:=F3) (F4:=F4) (x0:=x0) (x1:=x1) h hg k (j+1) (acc++yp s g j) (vI j) (vS (s.2.1.getD j [])) (by omega) (by rw[ud];omega);refine⟨y5,y6,?_⟩;rw[bY,x9,gM (ρ1:=[x0,x1,vD (.lst false (g.map .str)),vD (.int (s.2.2.1:Int)),some (.own (acc.map oD)),vI j,vS (s.2.1.getD j [])]) (ρ2:=[x0,x1,vD (.lst false (g.map .str)),vD (.int (s.2.2.1:Int)),some (.own ((acc++yp s g j).map oD)),vI j,vS (s.2.1.getD j [])]) rfl ?_,ih,List.flatMap_cons,lm];clear ih;have e1:neF (.int (j:Int)) (.int (s.2.2.1:Int))=some (.bl (!decide (j=s.2.2.1))):=by
   rw[MA];by_cases z:j=s.2.2.1;·rw[z,sE,ss rfl]
   ·rw[u7 z,uO.2 (by omega)]
  unfold lJ yp;by_cases z:j=s.2.2.1
  ·rw[if_pos z,t7];rw[ss z]at e1;clear z b1 hl hj hi
   walk_at "run"
  ·rw[if_neg z];rw[u7 z]at e1;have e2:=(Gj j (old:=s.2.1.getD j []) (new:=g.getD j []) (by rw[(dM h hi).1,(kW hg hi).1]) (by rw[(dM h hi).1];exact h.w2)).1;have e3:ixD (.lst false (g.map .str)) (.int (j:Int))=some (.str (g.getD j [])):=MW (by rw[v7,w9 (by rw[hg.n];exact hi),v9,w9 (by rw[hg.n];exact hi)];rfl);have e4:ixD (pD (jd j (s.2.1.getD j []) (g.getD j []))) (.int 1)=some (.tup ((jd j (s.2.1.getD j []) (g.getD j [])).2.map oD)):=rfl;have e5:∀(ga:Ev->R D)(ρ:Ev),EB 4 ga ρ=(ownAt ρ 4).out ρ λds=>(ga ρ).out ρ λd=>(asT d).out ρ λes=>if ds.length+es.length<=sizeLine then .nx (ρ.set 4 (some (.own (ds++es))))else .no:=λ_ _=>rfl;have e6:asT (.tup ((jd j (s.2.1.getD j []) (g.getD j [])).2.map oD))=.ok ((jd j (s.2.1.getD j []) (g.getD j [])).2.map oD):=rfl;have e7:(acc.map oD).length+((jd j (s.2.1.getD j []) (g.getD j [])).2.map oD).length<=sizeLine:=by
    have h1:1000<=sizeLine:=by decide
    unfold yp at b1;rw[if_neg z]at b1;rw[x8,x8];omega
   have e8:∀(a0 a1 a2 a3:Option Sl)(ds:List D)(ρ:Ev),ownAt (a0::a1::a2::a3::some (.own ds)::ρ) 4=.ok ds:=λ_ _ _ _ _ _=>rfl;rw[n0];clear z b1 hl hj hi
   walk_at "run"
theorem vZ{s:St}{g:List (List Nat)}(h:GS s)(hg:GL s g):∀(k j:Nat),j+k<=s.2.1.length->((List.range' j k).flatMap (yp s g)).length<=4 * s.1 * k
 | 0,_,_=>v8 _
 |k+1,j,hj=>by have:=vZ h hg k (j+1) (by omega);have b1:=zw h hg (i:=j) (by omega);rw[bY,List.flatMap_cons,ud,ig];omega
def tj{s:St}{g:List (List Nat)}(h:GS s)(hg:GL s g):(ma s g).length<=4 * s.1 * (s.2.1.length+1):=by have:=vZ h hg s.2.1.length 0 (by omega);have b1:=sx h hg;unfold ma;rw[ud,ig];omega
def rq{s:St}{g:List (List Nat)}(h:GS s)(hg:GL s g):∀o∈ma s g,okO o=true/\rf o<=1:=λo ho=>by
 rcases q9.1 ho with ho|ho;·exact Ca h hg o ho
 ·obtain⟨i,hi,ho⟩:=List.mem_flatMap.1 ho;exact JR h hg (by rw[ZB]at hi;omega) o ho
noncomputable def leF(Co:Addr):List D->R D:=λds=>ao (mR crN frG rpF peF (shG Co) (ai 7 ds))
def Lu{os:List Od}(h:∀o∈os,okO o=true/\rf o<=1)(hl:os.length<=900):shG C [.lst false (os.map oD)]=.ok (.lst false ((shO os).map oD)):=Oh (λo ho=>(h o ho).1) (by omega)
def K0{s:St}(h:GS s){xs:List (List Nat)}(hx:cf s.2.1.length s.1 xs=true)(hb:4 * s.1 * (s.2.1.length+1)<=900)(f:Bool):leF C [sD s,.lst f (xs.map .str)]=.ok (.lst false ((shO (ma s (fb s.2.1.length s.1 xs))).map oD)):=by
 have c1:=Jm h hx f;have c2:=FZ h hx f;have hg:=ul hx;generalize fb s.2.1.length s.1 xs=g at c2 hg⊢;have c3:=(JS s.2.2.1 (old:=s.2.1.getD s.2.2.1 []) (new:=g.getD s.2.2.1 []) (c:=s.2.2.2) (by rw[(dM h h.r).1,(kW hg h.r).1]) (by rw[(dM h h.r).1];exact h.w2) (by rw[(dM h h.r).1];exact h.c)).1;have c4:=Lu (C:=C) (rq h hg) (w8 (tj h hg) hb);have i1:ixD (sD s) (.int 2)=some (.tup [.int (s.2.2.1:Int),.int (s.2.2.2:Int)]):=rfl;have i2:ixD (.tup [.int (s.2.2.1:Int),.int (s.2.2.2:Int)]) (.int 0)=some (.int (s.2.2.1:Int)):=rfl;have i3:ixD (.tup [.int (s.2.2.1:Int),.int (s.2.2.2:Int)]) (.int 1)=some (.int (s.2.2.2:Int)):=rfl;have i4:ixD (sD s) (.int 1)=some (.tup (s.2.1.map .str)):=rfl;have i5:ixD (.tup (s.2.1.map D.str)) (.int (s.2.2.1:Int))=some (.str (s.2.1.getD s.2.2.1 [])):=Kl (by rw[v7,w9 h.r,v9,w9 h.r];rfl);have hr:=h.r;have i6:ixD (.lst false (g.map D.str)) (.int (s.2.2.1:Int))=some (.str (g.getD s.2.2.1 [])):=MW (by rw[v7,w9 (by rw[hg.n];exact hr),v9,w9 (by rw[hg.n];exact hr)];rfl);have i7:ixD (pD (Bo s.2.2.1 (s.2.1.getD s.2.2.1 []) (g.getD s.2.2.1 []) s.2.2.2)) (.int 1)=some (.tup ((oV s g).map oD)):=rfl;have i8:lu (.tup (s.2.1.map .str))=.ok ((List.range' 0 s.2.1.length).map λ(i:Nat)=>.tup [.int (i:Int),.str (s.2.1.getD i [])]):=by show R.ok (bi 0 (s.2.1.map .str))=_;rw[yV]
 obtain⟨y5,y6,lp0⟩:=yv (F1:=crN) (F2:=frG) (F3:=rpF) (F4:=shG C) (x0:=vD (sD s)) (x1:=vD (.lst f (xs.map .str))) h hg s.2.1.length 0 (oV s g) none none (by omega) (by have:=sx h hg;rw[ig]at hb;omega);have lp:da (uh [5,6]) (lJ crN frG rpF peF (shG C)) ((List.range' 0 s.2.1.length).map λ(i:Nat)=>.tup [.int (i:Int),.str (s.2.1.getD i [])]) [vD (sD s),vD (.lst f (xs.map .str)),vD (.lst false (g.map .str)),vD (.int (s.2.2.1:Int)),some (.own ((oV s g).map oD)),none,none]=.nx [vD (sD s),vD (.lst f (xs.map .str)),vD (.lst false (g.map .str)),vD (.int (s.2.2.1:Int)),some (.own ((ma s g).map oD)),y5,y6]:=lp0;clear lp0;show ao (aw _ _ [vD (sD s),vD (.lst f (xs.map .str)),none,none,none,none,none])=_;clear hg hx hb hr h
 walk_at "run"
noncomputable def sW(Co:Addr):List D->R D:=λds=>ao (fE (leF Co) (coG Co) (ai 2 ds))
noncomputable def rz(s:St)(g:List (List Nat)):Nat:=((shO (ma s g)).map db).sum
def KY{f:Bool}{os:List Od}(h:∀o∈os,okO o=true)(hl:os.length<=1000):coG C [.lst f (os.map oD)]=.ok (.int ((os.map db).sum:Nat)):=Nj h hl
def KQ{s:St}(h:GS s){xs:List (List Nat)}(hx:cf s.2.1.length s.1 xs=true)(hb:4 * s.1 * (s.2.1.length+1)<=900)(f:Bool):sW C [sD s,.lst f (xs.map .str)]=.ok (.int (rz s (fb s.2.1.length s.1 xs):Int)):=by
 have e1:=K0 (C:=C) h hx hb f;have hg:=ul hx;have b1:=tj h hg;have b2:=(se (ma s (fb s.2.1.length s.1 xs)) []).1;have e2:=KY (C:=C) (f:=false) (LZ λo ho=>(rq h hg o ho).1) (by unfold shO;simp only[List.length_nil]at b2;omega);show ao (aw _ _ [vD (sD s),vD (.lst f (xs.map .str))])=_;unfold rz;clear b1 b2 hg hb hx h
 walk_at "run"
noncomputable def iJ:List Nat:=[98,114,105,110,103]
noncomputable def brS(s:St)(g:List (List Nat)):St:=(s.1,g,s.2.2)
section
variable{Cp Co:Addr}
noncomputable def lf(Co:Addr):MF:=Cu λsts _ _ b c ds=>match ds with
 | [r]=>(match sW Co [b,r],frG [b,r],b with
  |.ok (.int pr),.ok (.lst false ys),.tup [w,_,pl]=>if sts.length<1000 then .ok (.int pr) (dl (sts++[st3 (.str iJ) (.tup [w,.tup ys,pl]) (c+pr)]) [])else .no
  |_,_,_=>.no)
 |_=>.no
def EH:dU Cp (jw Cp gU Gr (sW Co) frG) 4 (lf Co):=by
 refine qm λp l tk a b c ds=>?_
 match ds with
 | []=>trivial
 |_::_::_=>simp
 | [r]=>
  dsimp only;cases h1:sW Co [b,r]with
  |no=>trivial
  |ex E=>trivial
  |ok pd=>
   cases pd with
   |int pr=>
    cases h2:frG [b,r]with
    |no=>trivial
    |ex E=>trivial
    |ok yd=>
     cases yd with
     |lst f ys=>
      cases f with
      |true=>trivial
      |false=>
       cases b with
       |tup bs=>
        match bs with
        | []=>trivial
        | [_]=>trivial
        | [_,_]=>trivial
        |_::_::_::_::_=>trivial
        | [w,y,pl]=>
         dsimp only;by_cases hl:(l++[st3 a (.tup [w,y,pl]) c]).length<1000
         ·rw[if_pos hl];dsimp only;have s2:gU (dl (l++[st3 a (.tup [w,y,pl]) c]) tk) []=.rd (.tup [w,y,pl]):=kr _ l tk a (.tup [w,y,pl]) c [];have o0:∀m r,tK Cp (some (.obj m Cp p (dl (l++[st3 a (.tup [w,y,pl]) c]) tk))::r) 0=.ok (dl (l++[st3 a (.tup [w,y,pl]) c]) tk):=λm r=>kq rfl;have s3:Gr (dl (l++[st3 a (.tup [w,y,pl]) c]) tk) [.str iJ,.tup [w,.tup ys,pl],.int pr]=.ok .non (dl (l++[st3 a (.tup [w,y,pl]) c]++[st3 (.str iJ) (.tup [w,.tup ys,pl]) (c+pr)]) []):=(kr _ l tk a (.tup [w,y,pl]) c _).trans (if_pos hl);have o1:∀r fs,qZ Cp (some (.obj true Cp p fs)::r) 0=.ok (p,fs):=λr fs=>nK rfl;have wd:D.str [98,114,105,110,103]=.str iJ:=rfl;have i0:ixD (.tup [w,y,pl]) (.int 0)=some w:=rfl;have i2:ixD (.tup [w,y,pl]) (.int 2)=some pl:=rfl;have t1:md [.lst false ys]=some (.tup ys):=rfl;have mk3:∀x y z,mkT [x,y,z]=.ok (.tup [x,y,z]):=λ_ _ _=>rfl;refine⟨[some (.obj true Cp p (dl (l++[st3 a (.tup [w,y,pl]) c]++[st3 (.str iJ) (.tup [w,.tup ys,pl]) (c+pr)]) [])),vD r,vD (.tup [w,y,pl]),vD (.int pr)],rfl,.inl ?_⟩;show aw _ _ [some (.obj true Cp p (dl (l++[st3 a (.tup [w,y,pl]) c]) tk)),vD r,none,none]=_;clear hl
          walk_at "run"
         ·rw[if_neg hl];trivial
       |_=>trivial
     |_=>trivial
   |_=>trivial
def C6{s:St}(h:GS s){xs:List (List Nat)}(hx:cf s.2.1.length s.1 xs=true)(hb:4 * s.1 * (s.2.1.length+1)<=900){f:Bool}{l tk:List D}{a:D}{c:Int}(hl:l.length<900):
  lf Co (dl (l++[st3 a (sD s) c]) tk) [.lst f (xs.map .str)]=.ok (.int (rz s (fb s.2.1.length s.1 xs):Int)) (dl (l++[st3 a (sD s) c]++[st3 (.str iJ) (sD (brS s (fb s.2.1.length s.1 xs))) (c+(rz s (fb s.2.1.length s.1 xs):Int))]) []):=by
 refine(kr _ l tk a (sD s) c _).trans ?_;dsimp only;rw[KQ h hx hb f,FZ h hx f];exact if_pos (by simp;omega)
end
def Gq{ns:List Int}{a:Nat}{s:St}(h:GS s):cf s.2.1.length s.1 (xC ns a s.1 (s.2.1.map .str))=true:=by
 have hr:jH (s.2.1.map D.str) s.1:=λr hr=>by obtain⟨x,hx,rfl⟩:=ur.1 hr;exact⟨x,rfl,h.l x hx⟩
 have h1:=wE ns a h.w1 (s.2.1.map .str) 0 hr;have h2:=ik ns a s.1 (s.2.1.map .str) 0;unfold cf xC;rw[w5,ug,wX];refine⟨?_,λx hx=>?_⟩;·rw[qc,h2,x8];omega
 ·have:=h1 x (bO hx);unfold txt;rw[this.1,decide_eq_true this.2];rfl
section
variable{g g1 g2 s1 s2:Ev->O}{gt:Ev->R Bool}{ρ':Ev}
def D2{b:Bool}{p:Addr}{fs:List (Nat×Fd)}(h:ρ[i]?=some (some (.obj b C p fs)))(e:F fs []=.rd d):gC C i F ρ=.ok d:=by unfold gC;rw[kq h];show(F fs []).read=_;rw[e];rfl
end
noncomputable def fM(av:List D->R D)(au:Addr):Ev->O:=(oIf (gBn (aq ie (aD 1 av (aa (rvz 0) nlz)))) (aw (iy au (aa (csz [116,104,105,115,32,105,115,32,110,111,32,112,108,97,105,110,32,116,101,120,116]) nlz)) oNx) oNx)
noncomputable def eT(av:List D->R D)(au:Addr):Ev->O:=(aw (fM av au) oNx)
noncomputable def dq(ay:List D->R D)(ax:Addr):Ev->O:=(kA (aD 1 ay (aa (rvz 0) nlz)))
noncomputable def dk(ay:List D->R D)(ax:Addr):Ev->O:=(kA (aD 1 ay (aa (rvz 1) nlz)))
noncomputable def dn(ay:List D->R D)(ax:Addr):Ev->O:=(oIf (rh (gB2 neF (g2 ixD (rvz 0) (ciz 0)) (g2 ixD (rvz 1) (ciz 0))) (gB2 neF (gOf eI (aa (g2 ixD (rvz 0) (ciz 1)) nlz)) (gOf eI (aa (g2 ixD (rvz 1) (ciz 1)) nlz)))) (aw (iy ax (aa (csz [116,104,101,115,101,32,115,99,114,101,101,110,115,32,97,114,101,32,110,111,116,32,111,102,32,111,110,101,32,115,105,122,101]) nlz)) oNx) oNx)
noncomputable def cQ(ay:List D->R D)(ax:Addr):Ev->O:=(aw (dq ay ax) (aw (dk ay ax) (aw (dn ay ax) oNx)))
noncomputable def fN(bo:List D->R D):Ev->O:=(kA (aD 2 bo (aa (rvz 0) (aa (rvz 1) nlz))))
noncomputable def du(bo:List D->R D):Ev->R (List D):=(uX (fN bo) (wn 2 (uh [0,1]) (aq lu (g2 ixD (rvz 0) (ciz 1))) [1] (gB2 eqF (rvz 1) (g2 ixD (g2 ixD (rvz 2) (ciz 1)) (rvz 0))) (rvz 0)))
noncomputable def jj(aS:List D->R D):Ev->O:=(kA (aD 1 aS (aa (rvz 0) nlz)))
noncomputable def ja(aS:List D->R D):Ev->O:=(Ep 1 (nX nlz))
noncomputable def gB(aS:List D->R D):Ev->O:=(aw (He 1 (Az (gB2 gtD (gOf eI (aa (rvz 1) nlz)) (ciz 0)) (gB2 eqF (g2 ixD (g2 ixD (rvz 1) (aq qX (ciz 1))) (ciz 0)) (rvz 2))) (aw (xy 1 (aq qX (ciz 1)) (aq mkT (aa (rvz 2) (aa (g2 bM (g2 ixD (g2 ixD (rvz 1) (aq qX (ciz 1))) (ciz 1)) (ciz 1)) nlz)))) oNx) (aw (yk 1 (aq mkT (aa (rvz 2) (aa (ciz 1) nlz)))) oNx)) oNx)
noncomputable def jg(aS:List D->R D):Ev->O:=(uy (lP 2) (aq bA (rvz 0)) (gB aS))
noncomputable def fB(aS:List D->R D):Ev->R (List D):=(uX (jj aS) (uX (ja aS) (uX (jg aS) (KC 1))))
noncomputable def Ap(aZ:List D->R D)(au:Addr):Ev->O:=(oIf (gBn (aq ie (aD 1 aZ (aa (rvz 0) nlz)))) (aw (iy au (aa (csz [116,104,101,115,101,32,97,114,101,32,110,111,32,116,101,120,116,115,32,116,104,97,116,32,97,32,98,111,120,32,105,115,32,100,114,97,119,110,32,114,111,117,110,100]) nlz)) oNx) oNx)
noncomputable def zN(aZ:List D->R D)(au:Addr):Ev->O:=(fA 1 (gOf Km (aa (bD (fK (aq bA (rvz 0)) [] (λ_=>R.ok true) (gOf eI (aa (rvz 0) nlz)))) nlz)))
noncomputable def A6(aZ:List D->R D)(au:Addr):Ev->O:=(fA 2 (g2 bM (g2 bM (csz [43]) (g2 fQ (csz [45]) (rvz 1))) (csz [43])))
noncomputable def kL(aZ:List D->R D)(au:Addr):Ev->R (List D):=(uX (Ap aZ au) (uX (zN aZ au) (uX (A6 aZ au) (Mw (g2 bM (bD (nX (aa (rvz 2) nlz))) (bD (fK (aq bA (rvz 0)) [1] (λ_=>R.ok true) (g2 bM (g2 bM (csz [124]) (ox "str" kM (rvz 0) (aa (rvz 1) nlz))) (csz [124]))))) (bD (nX (aa (rvz 2) nlz)))))))
noncomputable def nC(aR aG:List D->R D):Ev->O:=(Ep 2 (nX nlz))
noncomputable def yK(aR aG:List D->R D):Ev->O:=(aw (He 2 (Az (gB2 gtD (gOf eI (aa (rvz 2) nlz)) (ciz 0)) (aq ie (aD 2 aG (aa (g2 ixD (rvz 2) (aq qX (ciz 1))) (aa (rvz 3) nlz))))) (aw (Bb 2 4 (g2 ixD (rvz 2) (aq qX (ciz 1)))) (aw (xy 2 (aq qX (ciz 1)) (aq mkT (aa (g2 ixD (rvz 4) (ciz 0)) (aa (g2 ixD (rvz 4) (ciz 1)) (aa (g2 bM (g2 ixD (rvz 4) (ciz 2)) (ciz 1)) nlz))))) oNx)) (aw (yk 2 (aq mkT (aa (g2 ixD (rvz 3) (ciz 0)) (aa (g2 ixD (rvz 3) (ciz 1)) (aa (ciz 1) nlz))))) oNx)) oNx)
noncomputable def nh(aR aG:List D->R D):Ev->O:=(uy (lP 3) (aq bA (aD 2 aR (aa (rvz 0) (aa (rvz 1) nlz)))) (yK aR aG))
noncomputable def iR(aR aG:List D->R D):Ev->R (List D):=(uX (nC aR aG) (uX (nh aR aG) (KC 2)))
noncomputable def iu(ak aY:List D->R D):Ev->O:=(Ep 3 (nX nlz))
noncomputable def rl(ak aY:List D->R D):Ev->O:=(aw (fA 6 (aD 3 ak (aa (rvz 0) (aa (g2 bM (rvz 1) (g2 fQ (ciz 40) (rvz 4))) (aa (ciz 4) nlz))))) (aw (oIf (gB2 eqF (rvz 6) (ciz 0)) (aw (fA 5 (aD 3 aY (aa (rvz 0) (aa (g2 bM (g2 bM (rvz 1) (g2 fQ (ciz 40) (rvz 4))) (ciz 1)) (aa (g2 ixD (rvz 2) (ciz 0)) nlz))))) oNx) (aw (oIf (gB2 ltD (rvz 6) (ciz 3)) (aw (fA 7 (aD 3 ak (aa (rvz 0) (aa (g2 bM (g2 bM (rvz 1) (g2 fQ (ciz 40) (rvz 4))) (ciz 30)) (aa (g2 ixD (rvz 2) (ciz 0)) nlz))))) (aw (fA 5 (g2 bM (g2 bM (gSl (rvz 5) (λ_=>R.ok none) (mU (rvz 7))) (g2 ixD (csz [97,98,32,35]) (aD 3 ak (aa (rvz 0) (aa (g2 bM (g2 bM (rvz 1) (g2 fQ (ciz 40) (rvz 4))) (ciz 31)) (aa (ciz 4) nlz)))))) (gSl (rvz 5) (mU (g2 bM (rvz 7) (ciz 1))) (λ_=>R.ok none)))) oNx)) oNx) oNx)) (aw (yk 3 (ox "str" jh (rvz 5) (aa (csz [32]) nlz))) oNx)))
noncomputable def iH(ak aY:List D->R D):Ev->O:=(uy (uh [4,5]) (aq lu (g2 ixD (rvz 2) (ciz 1))) (rl ak aY))
noncomputable def dY(ak aY:List D->R D):Ev->R (List D):=(uX (iu ak aY) (uX (iH ak aY) (K3 3 (LQ (rvz 3) (λ_=>R.ok none) (mU (g2 zo (gOf eI (aa (rvz 3) nlz)) (aD 3 ak (aa (rvz 0) (aa (g2 bM (rvz 1) (ciz 399)) (aa (ciz 2) nlz))))))))))
noncomputable def AO(av aE:List D->R D):Ev->O:=(oIf (rh (gBn (aq ie (aq (gZ (·=="tuple")) (rvz 0)))) (gB2 neF (gOf eI (aa (rvz 0) nlz)) (ciz 2))) (aw (cF (λ_=>R.ok (D.bl false))) oNx) oNx)
noncomputable def yY(av aE:List D->R D):Ev->O:=(cF (kf (aD 1 av (aa (g2 ixD (rvz 0) (ciz 0)) nlz)) (kf (g2 eqF (gOf eI (aa (g2 ixD (rvz 0) (ciz 0)) nlz)) (ciz 1)) (aD 3 aE (aa (g2 ixD (rvz 0) (ciz 1)) (aa (ciz 1) (aa (ciz 99) nlz)))))))
noncomputable def ki(av aE:List D->R D):Ev->O:=(aw (AO av aE) (aw (yY av aE) oNx))
noncomputable def vp(eE:List D->R D):Ev->O:=(oIf (rh (gBn (aq ie (aq (gZ Eb) (rvz 0)))) (gB2 gtD (gOf eI (aa (rvz 0) nlz)) (ciz 99))) (aw (cF (λ_=>R.ok (D.bl false))) oNx) oNx)
noncomputable def uE(eE:List D->R D):Ev->O:=(cF (gOf Ag (aa (bD (fK (aq bA (rvz 0)) [] (λ_=>R.ok true) (aD 1 eE (aa (rvz 0) nlz)))) nlz)))
noncomputable def iq(eE:List D->R D):Ev->O:=(aw (vp eE) (aw (uE eE) oNx))
noncomputable def xS(cB:List D->R D)(au:Addr):Ev->O:=(oIf (gBn (aq ie (aD 1 cB (aa (rvz 0) nlz)))) (aw (iy au (aa (csz [116,104,101,115,101,32,97,114,101,32,110,111,32,114,117,110,115]) nlz)) oNx) oNx)
noncomputable def xm(cB:List D->R D)(au:Addr):Ev->O:=(cF (ox "str" Bu (csz []) (aa (bD (fK (aq bA (rvz 0)) [] (λ_=>R.ok true) (g2 fQ (g2 ixD (rvz 0) (ciz 0)) (g2 ixD (rvz 0) (ciz 1))))) nlz)))
noncomputable def jb(cB:List D->R D)(au:Addr):Ev->O:=(aw (xS cB au) (aw (xm cB au) oNx))
def IK{F:List D->R (List D)}{n:Nat}:∀ds:List D,ds.length=n->F ds=.no\/F ds=F ds:=λ_ _=>.inr rfl
def iE{g1:Ev->O}{g2:Ev->R (List D)}{ρ':Ev}(h:g1 ρ=.nx ρ'):uX g1 g2 ρ=g2 ρ':=by unfold uX;rw[h]
noncomputable def usN:List D->R D:=λds=>ao (dR crN frG (ai 6 ds))
noncomputable def D9:List D->R (List D):=λds=>iR usN Ab (ai 5 ds)
noncomputable def Hd:List D->R (List D):=λds=>dY eW Bq (ai 8 ds)
noncomputable def Eh(C:Addr):List D->R D:=λds=>ao (eT im C (ai 1 ds))
noncomputable def Kq(C:Addr):List D->R D:=λds=>ao (cQ (iV C) C (ai 2 ds))
noncomputable def DI(C:Addr):List D->R (List D):=λds=>du (Kq C) (ai 2 ds)
noncomputable def Ej(C:Addr):List D->R (List D):=λds=>fB (Eh C) (ai 3 ds)
noncomputable def Gx(C:Addr):List D->R (List D):=λds=>kL EV C (ai 3 ds)
noncomputable def MT:List D->R D:=λds=>ao (ki im zS (ai 1 ds))
noncomputable def Mx:List D->R D:=λds=>ao (iq MT (ai 1 ds))
noncomputable def Hg(C:Addr):List D->R D:=λds=>ao (jb Mx C (ai 1 ds))
section
variable{s:St}{xs:List (List Nat)}
def Fv{ns:List Int}{a:Nat}(h:GS s):Hd [.lst fz (ns.map .int),.int (a:Int),sD s]=.ok ((xC ns a s.1 (s.2.1.map .str)).map .str):=by
 have w1:=h.w1;have w2:=h.w2;have n2:=h.m;have hrs:jH (s.2.1.map D.str) s.1:=λr hr=>by obtain⟨x,hx,rfl⟩:=ur.1 hr;exact⟨x,rfl,h.l x hx⟩
 obtain⟨y4,y5,y6,y7,hL⟩:=rm ns fz a (wd:=s.1) w1 (by omega) (.tup (s.2.1.map .str)) (.tup [.int (s.2.2.1:Int),.int (s.2.2.2:Int)]) (s.2.1.map .str) 0 none none none none [] hrs (by simp;omega);rw[rT]at hL;change da _ _ _ [_,_,vD (sD s),_,_,_,_,_]=O.nx [_,_,vD (sD s),_,_,_,_,_]at hL;have hpk:=bu ns (a+399) (m:=2) (by decide);obtain⟨e,ee⟩:=Int.eq_ofNat_of_zero_le hpk.1;have p1:eW [.lst fz (ns.map .int),.int ((a:Int)+399),.int 2]=.ok (.int (e:Int)):=by rw[<- ee];exact ci (n:=a+399) (by decide)
 have k2:(((ly ns a s.1 0 (s.2.1.map .str)).map D.str).length:Int) - (e:Int)=(((s.2.1.map D.str).length - e:Nat):Int):=by have:=h.r;rw[x8,ik,x8];omega
 have d1:=IZ ((ly ns a s.1 0 (s.2.1.map .str)).map D.str) ((s.2.1.map D.str).length - e);have eg:(xC ns a s.1 (s.2.1.map .str)).map D.str=((ly ns a s.1 0 (s.2.1.map .str)).map D.str).take ((s.2.1.map D.str).length - e):=by unfold xC;rw[ee,Int.toNat_natCast,List.map_take]
 rw[eg];have en:lu (.tup (s.2.1.map .str))=.ok (bi 0 (s.2.1.map .str)):=rfl;have y1:ixD (sD s) (.int 1)=some (.tup (s.2.1.map .str)):=rfl;have z0:(0:Nat)<=sizeLine:=v8 _;have s1:iu eW Bq [vL fz ns,vI a,vD (sD s),none,none,none,none,none]=.nx [vL fz ns,vI a,vD (sD s),some (.own []),none,none,none,none]:=by
  unfold iu;clear hrs hpk ee eg h w1 w2 n2 hL
  walk_at "run"
 have s3:iH eW Bq [vL fz ns,vI a,vD (sD s),some (.own []),none,none,none,none]=.nx [vL fz ns,vI a,vD (sD s),some (.own ((ly ns a s.1 0 (s.2.1.map .str)).map .str)),y4,y5,y6,y7]:=by have e:aq lu (g2 ixD (rvz 2) λ_=>R.ok (D.int 1)) [vL fz ns,vI a,vD (sD s),some (.own []),none,none,none,none]=.ok (bi 0 (s.2.1.map .str)):=rfl;unfold iH;rw[zX,e];exact hL
 have e0:ai 8 [.lst fz (ns.map .int),.int (a:Int),sD s]=[vL fz ns,vI a,vD (sD s),none,none,none,none,none]:=rfl;unfold Hd dY;rw[e0,iE s1,iE s3];have f3:∀(a0 a1 a2 a4 a5 a6 a7:Option Sl)(ds:List D),frz 3 [a0,a1,a2,some (.own ds),a4,a5,a6,a7]=[a0,a1,a2,some (.val (.lst false ds)),a4,a5,a6,a7]:=λ_ _ _ _ _ _ _ _=>rfl;unfold K3;rw[f3];unfold LQ;have cn:∀l u xs,Kz l u (.lst false xs)=.ok (lw xs l u):=λ_ _ _=>rfl;clear hrs hpk ee eg h w1 w2 n2 hL s1 s3 e0 f3;generalize sD s=S at *
 walk_at "run"
def Jr(h:GS s)(hx:cf s.2.1.length s.1 xs=true)(f:Bool):∃ps:List (Nat×Nat),ps.length<=480/\usN [sD s,.lst f (xs.map .str)]=.ok (.lst false (ps.map spD)):=by
 have e2:=Jm h hx f;have e3:=FZ h hx f;have hg:=ul hx;have q1:jH ((fb s.2.1.length s.1 xs).map .str) s.1:=λr hr=>by obtain⟨x,m,rfl⟩:=ur.1 hr;exact⟨x,rfl,hg.l x m⟩
 have hw:=h.w2;have hm:=h.m;have hn:=hg.n;obtain⟨y3,y4,y5,hL⟩:=pG (F1:=crN) (F2:=frG) (rows:=s.2.1.map .str) (wd:=s.1) (by omega) (GA h.screen) (.tup [.int (s.2.2.1:Int),.int (s.2.2.2:Int)]) (some (.val (.lst f (xs.map .str)))) ((fb s.2.1.length s.1 xs).map .str) 0 none none none [] (by simp;omega) q1 (by simp;omega);rw[rT,vE _ _ _ _ (by rw[x8,x8];omega),j8]at hL;refine⟨kO s.1 0 (prs (s.2.1.map .str) ((fb s.2.1.length s.1 xs).map .str)),?_,?_⟩
 ·have hsl:=jC s.1 (prs (s.2.1.map .str) ((fb s.2.1.length s.1 xs).map .str)) 0;have hpl:(prs (s.2.1.map .str) ((fb s.2.1.length s.1 xs).map .str)).length=s.2.1.length:=by unfold prs;rw[List.length_zipWith,List.length_map,List.length_map,hg.n];omega
  rw[hpl]at hsl;have hm:s.1 * s.2.1.length<=40 * 12:=Nat.mul_le_mul (by omega) (by omega);omega
 show ao (aw _ _ [some (.val (sD s)),some (.val (.lst f (xs.map .str))),none,none,none,none])=_;have f2:∀(a0 a1 a3 a4 a5:Option Sl)(ds:List D),frz 2 [a0,a1,some (.own ds),a3,a4,a5]=[a0,a1,some (.val (.lst false ds)),a3,a4,a5]:=λ_ _ _ _ _ _=>rfl;have en:∀l:List D,lu (.lst false l)=.ok (bi 0 l):=λ_=>rfl;have z0:(0:Nat)<=sizeLine:=v8 _;have eS:sD s=.tup [.int (s.1:Int),.tup (s.2.1.map .str),.tup [.int (s.2.2.1:Int),.int (s.2.2.2:Int)]]:=rfl;rw[<- eS]at hL;generalize kO s.1 0 (prs (s.2.1.map .str) ((fb s.2.1.length s.1 xs).map .str))=P at *;clear hw hm hn q1 hg eS hx h;generalize sD s=S at *;generalize (fb s.2.1.length s.1 xs)=g at *
 walk_at "run"
def FY(h:GS s)(hx:cf s.2.1.length s.1 xs=true)(f:Bool):∃ts:List (Nat×Nat×Nat),ts.length<=480/\D9 [sD s,.lst f (xs.map .str)]=.ok (ts.map snD):=by
 obtain⟨ps,hp,e2⟩:=Jr h hx f;have hl:∀(qs:List (Nat×Nat))(a:List (Nat×Nat×Nat)),(qs.foldl je a).length<=a.length+qs.length:=λqs=>by
  induction qs with
  |nil=>intro a;exact yh _
  |cons q qs ih=>intro a;have h1:=kX a q;have h2:=ih (je a q);rw[oH,v4];omega
 obtain⟨y3,y4,hL⟩:=oY (F:=usN) (some (.val (sD s))) (some (.val (.lst f (xs.map .str)))) ps [] none none (by simp;omega);refine⟨ps.foldl je [],by have:=hl ps [];simp at this;omega,?_⟩;have il:=Kk;have z0:(0:Nat)<=sizeLine:=v8 _;have e0:ai 5 [sD s,.lst f (xs.map .str)]=[vD (sD s),vD (.lst f (xs.map .str)),none,none,none]:=rfl;have s1:nC usN Ab [vD (sD s),vD (.lst f (xs.map .str)),none,none,none]=.nx [vD (sD s),vD (.lst f (xs.map .str)),some (.own []),none,none]:=by
  unfold nC;clear hL hp hl h hx e2
  walk_at "run"
 have s3:nh usN Ab [vD (sD s),vD (.lst f (xs.map .str)),some (.own []),none,none]=.nx [vD (sD s),vD (.lst f (xs.map .str)),some (.own ((ps.foldl je []).map snD)),y3,y4]:=by
  have e:aq bA (aD 2 usN (aa (rvz 0) (aa (rvz 1) λ_=>R.ok []))) [vD (sD s),vD (.lst f (xs.map .str)),some (.own []),none,none]=.ok (ps.map spD):=by rw[yy,AM];show(usN [sD s,.lst f (xs.map .str)]>>=bA)=_;rw[e2];rfl
  unfold nh;rw[zX,e];exact hL
 unfold D9 iR;rw[e0,iE s1,iE s3];rfl
def Gk(h:GS s):Kq C [sD s,sD s]=.ok .non:=by
 have c1:=nr (C:=C) h.screen;have x0:ixD (sD s) (.int 0)=some (.int (s.1:Int)):=rfl;have x1:ixD (sD s) (.int 1)=some (.tup (s.2.1.map .str)):=rfl;have n1:∀i:Int,neF (.int i) (.int i)=some (.bl false):=λi=>Bl rfl;show ao (aw (dq _ _) (aw (dk _ _) (aw (dn _ _) oNx)) [vD (sD s),vD (sD s)])=_;unfold dq dk dn;clear h;generalize sD s=S at *
 walk_at "run"
 all_goals rfl
def Gf(h:GS s):DI C [sD s,sD s]=.ok ((List.range s.2.1.length).map λ(i:Nat)=>.int (i:Int)):=by
 have c1:=Gk (C:=C) h;have hm:=h.m;have x1:ixD (sD s) (.int 1)=some (.tup (s.2.1.map .str)):=rfl;have en:lu (.tup (s.2.1.map .str))=.ok (bi 0 (s.2.1.map .str)):=rfl;have nb:bi 0 (s.2.1.map D.str)=(List.range s.2.1.length).map λ(i:Nat)=>.tup [.int (i:Int),.str (s.2.1.getD i [])]:=by unfold bi;rw[x8];refine mP λi hi=>?_;have hi:=List.mem_range.1 hi;rw[Nat.zero_add];simp[v9,v7,w9 hi]
 have cg:∀(ks:List Nat)(a b:Option Sl),(∀i∈ks,i<s.2.1.length)->fO (uh [0,1]) (gB2 eqF (rvz 1) (g2 ixD (g2 ixD (rvz 2) (ciz 1)) (rvz 0))) (rvz 0) (ks.map λ(i:Nat)=>.tup [.int (i:Int),.str (s.2.1.getD i [])]) [a,b,vD (sD s)]=.ok (ks.map λ(i:Nat)=>.int (i:Int)):=λks=>by
  induction ks with
  |nil=>intro a b _;rfl
  |cons i ks ih=>
   intro a b hk;have hi:=hk i (v3 ..);have x2:ixD (.tup (s.2.1.map .str)) (.int (i:Int))=some (.str (s.2.1.getD i [])):=by refine Kl ?_;rw[v7,w9 hi,v9,w9 hi];rfl
   have e1:uh [0,1] (.tup [.int (i:Int),.str (s.2.1.getD i [])]) [a,b,vD (sD s)]=.ok [vD (.int (i:Int)),vD (.str (s.2.1.getD i [])),vD (sD s)]:=rfl;have q:eqF (.str (s.2.1.getD i [])) (.str (s.2.1.getD i []))=some (.bl true):=pM rfl;have e2:gB2 eqF (rvz 1) (g2 ixD (g2 ixD (rvz 2) (ciz 1)) (rvz 0)) [vD (.int (i:Int)),vD (.str (s.2.1.getD i [])),vD (sD s)]=.ok true:=by
    clear ih hk hi c1 hm en nb e1 h;generalize sD s=S at *
    walk_at "run"
    all_goals rfl
   have ih:=ih (vD (.int (i:Int))) (vD (.str (s.2.1.getD i []))) λj hj=>hk j (w4 _ hj);have e3:(λρ:Ev=>rdV ρ 0) [vD (.int (i:Int)),vD (.str (s.2.1.getD i [])),vD (sD s)]=.ok (.int (i:Int)):=rfl;rw[x9,x9];unfold fO;simp only[e1,e2,e3,ih,kH,R.ok_bind,u6]
 have cg:=cg (List.range s.2.1.length) none none λi hi=>List.mem_range.1 hi;rw[<- nb]at cg;have in1:∀a b:D,cY 2 [1] [vD a,vD b]=[none,none,vD b]:=λ_ _=>rfl;have z1:((List.range s.2.1.length).map λ(i:Nat)=>D.int (i:Int)).length<=sizeLine:=by have:=bC;rw[x8,List.length_range];omega
 have e0:ai 2 [sD s,sD s]=[vD (sD s),vD (sD s)]:=rfl;have s1:fN (Kq C) [vD (sD s),vD (sD s)]=.nx [vD (sD s),vD (sD s)]:=by
  unfold fN;clear h hm x1 en nb cg z1;generalize sD s=S at *
  walk_at "run"
 unfold DI du;rw[e0,iE s1];clear h hm nb e0 s1 c1;generalize sD s=S at *
 walk_at "run"
def F5{x:List Nat}(h:plain x=true)(hl:x.length<=1000):Eh C [.str x]=.ok .non:=by
 have i1:im [.str x]=.ok (.bl true):=by rw[jo (by have:=bC;omega),h]
 show ao (aw (fM _ _) oNx [vD (.str x)])=_;unfold fM;clear h hl
 walk_at "run"
end
def FR:∃ds,Gx C [.lst false [.str [97],.str [98,99]]]=.ok ds/\ds.length<100/\(D.lst false ds |> cl 10)=true:=⟨_,rfl,by decide,rfl⟩
def Gv:Hg C [.lst false [.tup [.str [97],.int 2]]]=.ok (.str [97,97]):=rfl
noncomputable def rnD(r:Nat×Nat):D:=.tup [.str [r.1],.int (r.2:Int)]
section
def BD(x0:Option Sl)(a:List (Nat×Nat))(c:Nat)(ha:a.length<3000):∃b:List (Nat×Nat),b.length<=a.length+1/\gB (Eh C) [x0,some (.own (a.map rnD)),vD (.str [c])]=.nx [x0,some (.own (b.map rnD)),vD (.str [c])]:=by
 have lb:=qr;have z:(a.map rnD).length<sizeLine:=by simp;omega
 have m2:∀x y:D,mkT [x,y]=.ok (.tup [x,y]):=λ_ _=>rfl;have f1:∀(a0 a2:Option Sl)(ds:List D),frz 1 [a0,some (.own ds),a2]=[a0,some (.val (.lst false ds)),a2]:=λ_ _ _=>rfl;have o1:∀(a0 a2:Option Sl)(ds:List D),ownAt [a0,some (.own ds),a2] 1=.ok ds:=λ_ _ _=>rfl;have g1:=ng 1;unfold gB;rcases km a with rfl|⟨a,⟨k,n⟩,rfl⟩
 ·refine⟨[(c,1)],by simp,?_⟩;have q1:decide ((0:Int) > 0)=false:=by decide
  have q0:((0:Nat):Int)=0:=rfl;simp only[qx,x9]at z⊢;clear ha lb
  walk_at "run"
  all_goals rfl
 ·have em:(a++[(k,n)]).map rnD=a.map rnD++[.tup [.str [k],.int (n:Int)]]:=by simp[rnD]
  rw[em]at z⊢;have q1:decide (((a.map rnD++[D.tup [.str [k],.int (n:Int)]]).length:Int) > 0)=true:=by simp <;> omega
  have l1:=Ei false (a.map rnD) (.tup [.str [k],.int (n:Int)]);have y0:=KM (.str [k]) (.int (n:Int));have y1:=K1 (.str [k]) (.int (n:Int));have eb:eqF (.str [k]) (.str [c])=some (.bl ([k]==[c])):=rfl;cases h:([k]==[c])with
  |true=>
   rw[h]at eb;refine⟨a++[(c,n+1)],by simp,?_⟩;have i1:=zK (a.map rnD) (.tup [.str [k],.int (n:Int)]);have s1:=vQ (a.map rnD) (.tup [.str [k],.int (n:Int)]) (.tup [.str [c],.int ((n:Int)+1)]);have e8:∀i:Int,asI (.int i)=.ok i:=λ_=>rfl;have e7:∀(x:List Nat)(j:Int),fl 10 (.tup [.str x,.int j])=true:=λ_ _=>rfl;have e9:(a++[(c,n+1)]).map rnD=a.map rnD++[.tup [.str [c],.int ((n:Int)+1)]]:=by simp[rnD]
   rw[e9];clear ha lb em h
   walk_at "run"
  |false=>
   rw[h]at eb;refine⟨a++[(k,n)]++[(c,1)],by simp,?_⟩;have e9:(a++[(k,n)]++[(c,1)]).map rnD=a.map rnD++[.tup [.str [k],.int (n:Int)]]++[.tup [.str [c],.int 1]]:=by simp[rnD]
   rw[e9];clear ha lb em h
   walk_at "run"
theorem wG(x0:Option Sl):∀(cs:List Nat)(a:List (Nat×Nat))(x2:Option Sl),a.length+cs.length<=2000->∃(b:List (Nat×Nat))(y:Option Sl),b.length<=a.length+cs.length/\da (lP 2) (gB (Eh C)) (cs.map λc=>.str [c]) [x0,some (.own (a.map rnD)),x2]=.nx [x0,some (.own (b.map rnD)),y]
 | [],a,x2,_=>⟨a,x2,by simp,rfl⟩
 |c::cs,a,x2,h=>by simp only[v4]at h;obtain⟨b,hb,e⟩:=BD (C:=C) x0 a c (by omega);obtain⟨d,y,hd,ih⟩:=wG x0 cs b (vD (.str [c])) (by omega);refine⟨d,y,by rw[v4];omega,?_⟩;rw[x9,gM (ρ1:=[x0,some (.own (a.map rnD)),vD (.str [c])]) rfl e];exact ih
def Ew{x:List Nat}(h:plain x=true)(hl:x.length<=40):∃b:List (Nat×Nat),b.length<=40/\Ej C [.str x]=.ok (b.map rnD):=by
 have c1:=F5 (C:=C) h (by omega);obtain⟨b,y,hb,hL⟩:=wG (C:=C) (vD (.str x)) x [] none (by simp;omega);refine⟨b,by simp at hb;omega,?_⟩;have z0:(0:Nat)<=sizeLine:=v8 _;have e0:ai 3 [.str x]=[vD (.str x),none,none]:=rfl;have s1:jj (Eh C) [vD (.str x),none,none]=.nx [vD (.str x),none,none]:=by
  unfold jj;clear h hl hL hb
  walk_at "run"
 have s2:ja (Eh C) [vD (.str x),none,none]=.nx [vD (.str x),some (.own []),none]:=by
  unfold ja;clear h hl hL hb
  walk_at "run"
 have s4:jg (Eh C) [vD (.str x),some (.own []),none]=.nx [vD (.str x),some (.own (b.map rnD)),y]:=by have e:aq bA (rvz 0) [vD (.str x),some (.own []),none]=.ok (x.map λc=>.str [c]):=rfl;unfold jg;rw[zX,e];exact hL
 unfold Ej fB;rw[e0,iE s1,iE s2,iE s4];rfl
end
end Q
namespace Q91
open L2 Q
open PySem (sizeLine Addr)
noncomputable def zu(cc:List D->R D):Ev->O:=(fA 1 (aD 2 cc (aa (rvz 0) (aa (ciz 10) nlz))))
noncomputable def vY(ce:List D->R (List D)):Ev->O:=(Ah 2 3 4 (fW 3 ce (aa (rvz 0) (aa (ciz 500) (aa (rvz 1) nlz)))) (nX (aa (csz [97]) (aa (csz [98,99]) nlz))) (nX (aa (aq mkT (aa (csz [97]) (aa (ciz 2) nlz))) nlz)))
noncomputable def vA(fI:List D->R (List D)):Ev->O:=(Cf 2 7 (nX (aa (gh [1,2] (fW 2 fI (aa (rvz 0) (aa (rvz 1) nlz)))) nlz)))
noncomputable def vT(bw:List D->R (List D)):Ev->O:=(yk 7 (gh [1] (fW 2 bw (aa (rvz 0) (aa (rvz 0) nlz)))))
noncomputable def wy(cJ:List D->R (List D)):Ev->O:=(yk 7 (gh [1] (fW 1 cJ (aa (g2 ixD (g2 ixD (rvz 0) (ciz 1)) (ciz 0)) nlz))))
noncomputable def wz(fH:List D->R (List D)):Ev->O:=(yk 7 (gh [3] (fW 1 fH (aa (rvz 0) nlz))))
noncomputable def wc(cH:List D->R D):Ev->O:=(He 2 (rh (gB2 neF (aD 1 cH (aa (rvz 4) nlz)) (csz [97,97])) (gB2 neF (rvz 2) (rvz 5))) (aw (cF (λ_=>R.ok (D.bl false))) oNx) oNx)
noncomputable def wa(aH:Addr)(bJ:MF):Ev->O:=(yB 2 aH 6 1 bJ (aa (rvz 2) nlz))
noncomputable def wD(aH:Addr)(aN:MF):Ev->O:=(fA 8 (gC aH 6 aN))
noncomputable def qD:Ev->O:=(yk 2 (csz [120]))
noncomputable def qo(aH:Addr)(aN:MF):Ev->O:=(cF (kf (g2 eqF (rvz 7) (g2 fQ (bD (nX (aa (λ_=>R.ok (D.bl true)) nlz))) (ciz 4))) (kf (g2 eqF (rvz 3) (bD (nX (aa (csz [97]) (aa (csz [98,99]) nlz))))) (kf (g2 eqF (rvz 4) (bD (nX (aa (aq mkT (aa (csz [97]) (aa (ciz 2) nlz))) nlz)))) (g2 eqF (gC aH 6 aN) (rvz 8))))))
noncomputable def qN(aH:Addr)(bJ aN:MF)(cH:List D->R D)(fI:List D->R (List D))(bw:List D->R (List D))(cJ:List D->R (List D))(fH:List D->R (List D)):Ev->O:=(aw (vA fI) (aw (vT bw) (aw (wy cJ) (Ce 3 (aw (wz fH) (Ce 4 (Ce 5 (aw (wc cH) (aw (wa aH bJ) (aw (wD aH aN) (aw (qD) (Ce 7 (aw (qo aH aN) oNx)))))))))))))
noncomputable def qH(aH:Addr)(bJ aN gy:MF)(cc:List D->R D)(ce:List D->R (List D))(cH:List D->R D)(fI:List D->R (List D))(bw:List D->R (List D))(cJ:List D->R (List D))(fH:List D->R (List D)):Addr×Unit->Ev->O:=(BC (zu cc) (BC (vY ce) (Ax 2 aH 5 6 gy 1 (zO (aa (rvz 2) nlz)) (aa (rvz 1) nlz) (Aq (qN aH bJ aN cH fI bw cJ fH)))))
def qp(hl:ds.length<=1000)(hc:ds.all (cl 9)=true):zD (.ok ds)=.ok (.bl true):=by unfold zD;have e:eqF (.lst false ds) (.lst false ds)=some (.bl true):=pM hc;dsimp only;rw[if_pos (Nat.lt_of_le_of_lt hl (by decide)),e];rfl
def wk{α:Type}{f:α->D}(h:∀a,cl 9 (f a)=true)(l:List α):(l.map f).all (cl 9)=true:=by rw[jz];exact wX.2 λa _=>h a
def jv{n:Nat}{g:List D->R (List D)}(h:gl ρ=.ok ds)(hl:ds.length=n):fW n g gl ρ=g ds:=by unfold fW;rw[h,R.ok_bind,if_pos hl]
section
variable{p:Addr}{ns:List Int}{s:Q.St}{xs:List (List Nat)}
def Cl(h:GS s)(hx:cf s.2.1.length s.1 xs=true)(e:cY 0 [1,2] ρ=[vD (sD s),vD (.lst false (xs.map .str))]):gh [1,2] (fW 2 D9 (aa (rvz 0) (aa (rvz 1) nlz))) ρ=.ok (.bl true):=by obtain⟨ts,hl,et⟩:=FY h hx false;unfold gh;rw[e,jv (n:=2) (ds:=[sD s,.lst false (xs.map .str)]) rfl rfl,et];exact qp (by rw[x8];omega) (wk (λ_=>rfl) ts)
def C8(h:GS s)(e:cY 0 [1] ρ=[vD (sD s)]):gh [1] (fW 2 (DI ax) (aa (rvz 0) (aa (rvz 0) nlz))) ρ=.ok (.bl true):=by have hm:=h.m;unfold gh;rw[e,jv (n:=2) (ds:=[sD s,sD s]) rfl rfl,Gf h];exact qp (by rw[x8,List.length_range];omega) (wk (λ_=>rfl) _)
def GE(h:GS s)(e:cY 0 [1] ρ=[vD (sD s)]):gh [1] (fW 1 (Ej au) (aa (g2 ixD (g2 ixD (rvz 0) (ciz 1)) (ciz 0)) nlz)) ρ=.ok (.bl true):=by
 have hr:=h.r;have h0:0<s.2.1.length:=by omega
 obtain⟨y1,y2⟩:=h.l _ (lT h0);have w2:=h.w2;obtain⟨b,hb,eb⟩:=Ew (C:=au) y2 (by omega);have x1:ixD (sD s) (.int 1)=some (.tup (s.2.1.map .str)):=rfl;have x0:ixD (.tup (s.2.1.map .str)) (.int ((0:Nat):Int))=some (.str s.2.1[0]):=Kl (by rw[v7,w9 h0];rfl);have x0:ixD (.tup (s.2.1.map .str)) (.int 0)=some (.str s.2.1[0]):=x0;unfold gh;rw[e,jv (n:=1) (ds:=[.str s.2.1[0]]) ?_ rfl,eb];·exact qp (by rw[x8];omega) (wk (λ_=>rfl) b)
 ·clear h hr y1 y2 w2 hb eb e;generalize sD s=S at *
  walk_at "run"
def HX(e:cY 0 [3] ρ=[vD (.lst false [.str [97],.str [98,99]])]):gh [3] (fW 1 (Gx au) (aa (rvz 0) nlz)) ρ=.ok (.bl true):=by obtain⟨ds,e1,e2,e3⟩:=FR (C:=au);unfold gh;rw[e,jv (n:=1) (ds:=[.lst false [.str [97],.str [98,99]]]) rfl rfl,e1];exact qp (by omega) e3
noncomputable abbrev fP(fz:Bool)(ns:List Int)(S:D)(g t r m pd gd hr:Option Sl):Ev:=[vL fz ns,vD S,g,t,r,m,pd,gd,hr]
noncomputable abbrev oh:List D:=[.str [97],.str [98,99]]
noncomputable abbrev nZ:List D:=[.tup [.str [97],.int 2]]
def Ln(ns:List Int)(fz:Bool)(q:Addr×Unit):ao (qH aH (lf aU) gU (xn ax) xk Hd (Hg au) D9 (DI ax) (Ej au) (Gx au) q (ai 9 [.lst fz (ns.map .int)]))=.ok (.bl true):=by
 obtain⟨s,g,e0,e1,e2⟩:=Hn ns 10;have w2:=(pY ns 10).2.1;have m2:=(pR ns 10).2.1;have hx:=Gq (ns:=ns) (a:=500) g;have hb:4 * s.1 * (s.2.1.length+1)<=900:=w8 (Nat.mul_le_mul (Nat.mul_le_mul_left 4 (show s.1<=8 by omega)) (Nat.succ_le_succ (show s.2.1.length<=4 by omega))) (by decide);have gl:=Fv (fz:=fz) (ns:=ns) (a:=500) g;have sm:xk [.lst fz (ns.map .int),.int 10]=.ok (sD s):=by rw[<- e0];exact yH (a:=10)
 have nw:=Fz (Cs:=ax) g;have br:=C6 (Co:=aU) g hx hb (f:=false) (l:=[]) (tk:=[]) (a:=.str dA) (c:=0) (by simp);generalize xC ns 500 s.1 (s.2.1.map .str)=xs at *;have fx:(xs.map D.str).all (fl 10)=true:=by rw[jz];exact wX.2 λ_ _=>rfl
 have z1:zu xk (fP fz ns (sD s) none none none none none none none |>.set 1 none)=.nx (fP fz ns (sD s) none none none none none none none):=by show(aD 2 xk _ _).out _ _=_;exact(ut (λr:R D=>r.out _ _) ((ER (n:=2) (ds:=[.lst fz (ns.map .int),.int 10]) rfl rfl).trans sm)).trans rfl
 have z2:vY Hd (fP fz ns (sD s) none none none none none none none)=.nx (fP fz ns (sD s) (some (.own (xs.map .str))) (some (.own oh)) (some (.own nZ)) none none none none):=by have a1:fW 3 Hd (aa (rvz 0) (aa (ciz 500) (aa (rvz 1) nlz))) (fP fz ns (sD s) none none none none none none none)=.ok (xs.map .str):=(jv (ds:=[.lst fz (ns.map .int),.int ((500:Nat):Int),sD s]) rfl rfl).trans gl;unfold vY Ah;rw[a1];rfl
 have z3:vA D9 (fP fz ns (sD s) (some (.own (xs.map .str))) (some (.own oh)) (some (.own nZ)) (some (.own (xs.map .str))) (vO aH q.1 (dl [st3 (.str dA) (sD s) 0] [])) none none)=.nx (fP fz ns (sD s) (some (.own (xs.map .str))) (some (.own oh)) (some (.own nZ)) (some (.own (xs.map .str))) (vO aH q.1 (dl [st3 (.str dA) (sD s) 0] [])) (some (.own [.bl true])) none):=by have a1:=Cl g hx (ρ:=fP fz ns (sD s) (vD (.lst false (xs.map .str))) (some (.own oh)) (some (.own nZ)) (some (.own (xs.map .str))) (vO aH q.1 (dl [st3 (.str dA) (sD s) 0] [])) none none) rfl;have f2:frz 2 (fP fz ns (sD s) (some (.own (xs.map .str))) (some (.own oh)) (some (.own nZ)) (some (.own (xs.map .str))) (vO aH q.1 (dl [st3 (.str dA) (sD s) 0] [])) none none)=fP fz ns (sD s) (vD (.lst false (xs.map .str))) (some (.own oh)) (some (.own nZ)) (some (.own (xs.map .str))) (vO aH q.1 (dl [st3 (.str dA) (sD s) 0] [])) none none:=rfl;unfold vA Cf;rw[f2,HP,wP,a1];rfl
 have z4:∀{gg t r m pd hr:Option Sl},vT (DI ax) (fP fz ns (sD s) gg t r m pd (some (.own [.bl true])) hr)=.nx (fP fz ns (sD s) gg t r m pd (some (.own [.bl true,.bl true])) hr):=λ{gg t r m pd hr}=>by have a1:=C8 (ax:=ax) g (ρ:=fP fz ns (sD s) gg t r m pd (some (.own [.bl true])) hr) rfl;unfold vT;rw[Dt,a1];rfl
 have z5:∀{gg t r m pd hr:Option Sl},wy (Ej au) (fP fz ns (sD s) gg t r m pd (some (.own [.bl true,.bl true])) hr)=.nx (fP fz ns (sD s) gg t r m pd (some (.own [.bl true,.bl true,.bl true])) hr):=λ{gg t r m pd hr}=>by have a1:=GE (au:=au) g (ρ:=fP fz ns (sD s) gg t r m pd (some (.own [.bl true,.bl true])) hr) rfl;unfold wy;rw[Dt,a1];rfl
 have z6:∀{gg r m pd hr:Option Sl},wz (Gx au) (fP fz ns (sD s) gg (vD (.lst false oh)) r m pd (some (.own [.bl true,.bl true,.bl true])) hr)=.nx (fP fz ns (sD s) gg (vD (.lst false oh)) r m pd (some (.own [.bl true,.bl true,.bl true,.bl true])) hr):=λ{gg r m pd hr}=>by have a1:=HX (au:=au) (ρ:=fP fz ns (sD s) gg (vD (.lst false oh)) r m pd (some (.own [.bl true,.bl true,.bl true])) hr) rfl;unfold wz;rw[Dt,a1];rfl
 have cx:cl 10 (.lst false (xs.map .str))=true:=by show(xs.map D.str).all (cl 9)=true;exact wk (λ_=>rfl) xs
 have z7:∀{t pd gd hr:Option Sl},wc (Hg au) (fP fz ns (sD s) (some (.own (xs.map .str))) t (vD (.lst false nZ)) (vD (.lst false (xs.map .str))) pd gd hr)=.nx (fP fz ns (sD s) (some (.own (xs.map .str))) t (vD (.lst false nZ)) (vD (.lst false (xs.map .str))) pd gd hr):=λ{t pd gd hr}=>by
  have o:=Gv (C:=au);have nx:=Bl cx;have na:neF (.str [97,97]) (.str [97,97])=some (.bl false):=rfl;have f2:frz 2 (fP fz ns (sD s) (some (.own (xs.map .str))) t (vD (.lst false nZ)) (vD (.lst false (xs.map .str))) pd gd hr)=fP fz ns (sD s) (vD (.lst false (xs.map .str))) t (vD (.lst false nZ)) (vD (.lst false (xs.map .str))) pd gd hr:=rfl;unfold wc;clear z1 z2 z3 z4 z5 z6 br nw gl sm hx fx e0 e1 e2 w2 m2 hb g cx;generalize sD s=S at *;generalize xs.map D.str=L at *
  walk_at "run"
 have fS:∀t:Q.St,fl 9 (sD t)=true:=λt=>by
  have:(t.2.1.map D.str).all (fl 7)=true:=by rw[jz];exact wX.2 λ_ _=>rfl
  simp only[sD,scr,fl,oR,bV,this,kE,Bool.and_self]
 have f3:∀(a:List Nat)(t:Q.St)(c:Int),fl 10 (st3 (.str a) (sD t) c)=true:=λa t c=>by show(fl 9 (.str a) && (fl 9 (sD t) && (fl 9 (.int c) && true)))=true;rw[fS t];rfl
 generalize brS s (fb s.2.1.length s.1 xs)=s' at *;generalize (0:Int)+(rz s (fb s.2.1.length s.1 xs):Int)=c' at *;have z8:∀{t r m gd hr:Option Sl},wa aH (lf aU) (fP fz ns (sD s) (some (.own (xs.map .str))) t r m (vO aH q.1 (dl [st3 (.str dA) (sD s) 0] [])) gd hr)=.nx (fP fz ns (sD s) (some (.own (xs.map .str))) t r m (vO aH q.1 (dl ([]++[st3 (.str dA) (sD s) 0]++[st3 (.str iJ) (sD s') c']) [])) gd hr):=λ{t r m gd hr}=>by
  have ff:flF (dl ([]++[st3 (.str dA) (sD s) 0]++[st3 (.str iJ) (sD s') c']) [])=true:=by show((([]++[st3 (.str dA) (sD s) 0]++[st3 (.str iJ) (sD s') c']).all (fl 10)) && true)=true;simp only[rT,b7,oR,bV,f3,kE,Bool.and_self]
  have o1:qZ aH (fP fz ns (sD s) (some (.own (xs.map .str))) t r m (vO aH q.1 (dl [st3 (.str dA) (sD s) 0] [])) gd hr) 6=.ok (q.1,dl [st3 (.str dA) (sD s) 0] []):=nK rfl;have br:lf aU (dl [st3 (.str dA) (sD s) 0] []) [.lst false (xs.map .str)]=_:=br;unfold wa yB;rw[o1];show(if [D.lst false (xs.map .str)].length=1 then (lf aU (dl [st3 (.str dA) (sD s) 0] []) [.lst false (xs.map .str)]).outP aH q.1 6 _ else O.no)=_;rw[if_pos (show [D.lst false (xs.map D.str)].length=1 from rfl),br];show(if flF _=true then O.nx _ else O.no)=_;rw[if_pos ff];rfl
 have sh:gU (dl ([]++[st3 (.str dA) (sD s) 0]++[st3 (.str iJ) (sD s') c']) []) []=.rd (sD s'):=DB;generalize dl ([]++[st3 (.str dA) (sD s) 0]++[st3 (.str iJ) (sD s') c']) []=P2 at *;have z9:∀{gg t r m gd hr:Option Sl},wD aH gU (fP fz ns (sD s) gg t r m (vO aH q.1 P2) gd hr)=.nx (fP fz ns (sD s) gg t r m (vO aH q.1 P2) gd (vD (sD s'))):=λ{gg t r m gd hr}=>by unfold wD;rw[Gw,D2 (b:=true) (p:=q.1) rfl sh];rfl
 have lx:xs.length<=1000:=by have:=(qP hx).1;have:=g.m;omega
 have z10:∀{t r m pd gd hr:Option Sl},qD (fP fz ns (sD s) (some (.own (xs.map .str))) t r m pd gd hr)=.nx (fP fz ns (sD s) (some (.own (xs.map .str++[.str [120]]))) t r m pd gd hr):=λ{t r m pd gd hr}=>by
  have zl:(xs.map D.str).length<sizeLine:=by rw[x8];exact Nat.lt_of_le_of_lt lx (by decide)
  unfold qD;show(if (xs.map D.str).length<sizeLine then O.nx _ else _)=_;rw[if_pos zl];rfl
 have z11:∀{gg m:Option Sl},qo aH gU (fP fz ns (sD s) gg (vD (.lst false oh)) (vD (.lst false nZ)) m (vO aH q.1 P2) (vD (.lst false [.bl true,.bl true,.bl true,.bl true])) (vD (sD s')))=.rt (.bl true):=λ{gg m}=>by
  have ms:gC aH 6 gU (fP fz ns (sD s) gg (vD (.lst false oh)) (vD (.lst false nZ)) m (vO aH q.1 P2) (vD (.lst false [.bl true,.bl true,.bl true,.bl true])) (vD (sD s')))=.ok (sD s'):=D2 (b:=true) (p:=q.1) rfl sh;have o0:tK aH (fP fz ns (sD s) gg (vD (.lst false oh)) (vD (.lst false nZ)) m (vO aH q.1 P2) (vD (.lst false [.bl true,.bl true,.bl true,.bl true])) (vD (sD s'))) 6=.ok P2:=kq rfl;have rs:(gU P2 []).read=.ok (sD s'):=by rw[sh];rfl
  have q1:fQ (.lst false [.bl true]) (.int 4)=some (.lst false [.bl true,.bl true,.bl true,.bl true]):=rfl;have q2:eqF (.lst false [.bl true,.bl true,.bl true,.bl true]) (.lst false [.bl true,.bl true,.bl true,.bl true])=some (.bl true):=rfl;have q3:eqF (.lst false oh) (.lst false [.str [97],.str [98,99]])=some (.bl true):=rfl;have q4:eqF (.lst false nZ) (.lst false [.tup [.str [97],.int 2]])=some (.bl true):=rfl;have q5:eqF (sD s') (sD s')=some (.bl true):=pM (Mn s');have m2:mkT [.str [97],.int 2]=.ok (.tup [.str [97],.int 2]):=rfl;have l1:1<=sizeLine:=by decide
  have l2:2<=sizeLine:=by decide
  have asb:∀b,asB (.bl b)=.ok b:=λ_=>rfl;unfold qo;clear z1 z2 z3 z4 z5 z6 z7 z8 z9 z10 br nw gl sm hx fx e0 e1 e2 w2 hb g cx fS f3 lx sh;generalize sD s=S at *;generalize sD s'=S' at *
  walk_at "run"
 have zt:qN aH (lf aU) gU (Hg au) D9 (DI ax) (Ej au) (Gx au) (fP fz ns (sD s) (some (.own (xs.map .str))) (some (.own oh)) (some (.own nZ)) (some (.own (xs.map .str))) (vO aH q.1 (dl [st3 (.str dA) (sD s) 0] [])) none none)=.rt (.bl true):=by unfold qN;rw[lA,z3,xA,lA,z4,xA,lA,z5,xA,yJ];show aw _ _ (fP fz ns (sD s) (some (.own (xs.map .str))) (vD (.lst false oh)) (some (.own nZ)) (some (.own (xs.map .str))) (vO aH q.1 (dl [st3 (.str dA) (sD s) 0] [])) (some (.own [.bl true,.bl true,.bl true])) none)=_;rw[lA,z6,xA,yJ,yJ];show aw _ _ (fP fz ns (sD s) (some (.own (xs.map .str))) (vD (.lst false oh)) (vD (.lst false nZ)) (vD (.lst false (xs.map .str))) (vO aH q.1 (dl [st3 (.str dA) (sD s) 0] [])) (some (.own [.bl true,.bl true,.bl true,.bl true])) none)=_;rw[lA,z7,xA,lA,z8,xA,lA,z9,xA,lA,z10,xA,yJ];show aw _ _ (fP fz ns (sD s) (some (.own (xs.map .str++[.str [120]]))) (vD (.lst false oh)) (vD (.lst false nZ)) (vD (.lst false (xs.map .str))) (vO aH q.1 P2) (vD (.lst false [.bl true,.bl true,.bl true,.bl true])) (vD (sD s')))=_;rw[lA,z11];rfl
 have es:ai 9 [.lst fz (ns.map .int)]=(fP fz ns (sD s) none none none none none none none).set 1 none:=rfl;unfold qH BC Ax Aq;rw[es,z1,xA,z2,xA];have f2:frz 2 (fP fz ns (sD s) (some (.own (xs.map .str))) (some (.own oh)) (some (.own nZ)) none none none none)=fP fz ns (sD s) (vD (.lst false (xs.map .str))) (some (.own oh)) (some (.own nZ)) none none none none:=rfl;have s1:zO (aa (rvz 2) nlz) (fP fz ns (sD s) (vD (.lst false (xs.map .str))) (some (.own oh)) (some (.own nZ)) none none none none)=.ok (xs.map .str):=rfl;rw[f2,s1];show ao (if (xs.map D.str).all (fl 10)=true then (de (Bn (xn ax) 1 [sD s])).out _ λfs=>_ else .no)=_;rw[if_pos fx,nw];show ao (qN aH (lf aU) gU (Hg au) D9 (DI ax) (Ej au) (Gx au) (fP fz ns (sD s) (some (.own (xs.map .str))) (some (.own oh)) (some (.own nZ)) (some (.own (xs.map .str))) (vO aH q.1 (dl [st3 (.str dA) (sD s) 0] [])) none none))=_;rw[zt];rfl
end
end Q91
namespace Q
open PySem PySem.Spec PyProof.Rows L2
def oa(h:us.length=1):∃a,us=[a]:=by
 match us,h with
 | [a],_=>exact⟨a,rfl⟩
def tP(h:us.length=2):∃a b,us=[a,b]:=by
 match us,h with
 | [a,b],_=>exact⟨a,b,rfl⟩
def DA(h:us.length=3):∃a b c,us=[a,b,c]:=by
 match us,h with
 | [a,b,c],_=>exact⟨a,b,c,rfl⟩
def JO(h:us.length=4):∃a b c d,us=[a,b,c,d]:=by
 match us,h with
 | [a,b,c,d],_=>exact⟨a,b,c,d,rfl⟩
def Nv(h:us.length=5):∃a b c d e,us=[a,b,c,d,e]:=by
 match us,h with
 | [a,b,c,d,e],_=>exact⟨a,b,c,d,e,rfl⟩
def Hs{K:PySem.W.Frag}{hp:Heap}{mg:Str->Option Value}{bm:List Value}{nid:String}(kin:K.In hp)(gl:hp.Ns mainGlobals mg)(e1:PySem.W.nsIn K mainGlobals x=some (some (.ref C)))(e2:PySem.W.excIn K C bm nid=true):OwnCls x C bm nid mg hp:=by
 constructor;·exact uF kin gl e1
 ·unfold PySem.W.excIn at e2;split at e2
  ·rename_i dct kl sls look;split at e2
   ·rename_i C0 more s0 s1 s2 s3 nw s5 hmro hsls;simp only[w5,s8,Bool.not_eq_true']at e2;obtain⟨⟨⟨⟨⟨eC,en⟩,edel⟩,etail⟩,ens⟩,einit⟩:=e2;obtain⟨f1,f2,f3,f4,f5,f6,f7,f8,f9,f10,f11⟩:=kl;dsimp only at hmro edel ens einit;have es:sls = #[s0,s1,s2,s3,some (.builtin nw),s5]:=by obtain⟨ls⟩:=sls;simp only at hsls;rw[hsls]
    subst hmro edel es eC en;exact⟨more,f4,f1,f5,f2,f6,f7,f8,f9,f10,dct,s0,s1,s2,s3,s5,_,kin _ _ look,.of_isNs (PySem.W.isNs_of_in kin ens),PySem.W.nsMap_none_of_in kin ens einit,PySem.W.tail_of_in kin etail⟩
   ·cases e2
  ·cases e2
def zr{K:PySem.W.Frag}{hp:Heap}{mg:Str->Option Value}(kin:K.In hp)(gl:hp.Ns mainGlobals mg)(e1:PySem.W.nsIn K mainGlobals x=some (some (.ref C)))(e2:PySem.W.excIn K C [.type "ValueError",.type "Exception",.type "BaseException",.type "object"] "ValueError.__new__"=true):Ref x C mg hp:=
 ⟨_,_,_,_,Hs kin gl e1 e2,PySem.F.excBase_ValueError⟩
theorem rN{K:PySem.W.Frag}{G:Hp}:∀ns:List Int,Reps K G (ns.map V.int) (ns.map D.int)
 | []=>.nil
 |i::ns=>.cons (.int i) (rN ns)
noncomputable def Bp:List D->R D
 | [.lst _ ds]=>match qJ ds with
  |some _=>.ok (.bl true)
  |none=>.no
 |_=>.no
def aL{K:PySem.W.Frag}{mg:Str->Option Value}{kV ct:Value}(X:K.In h)(G:h.Ns mainGlobals mg)(a:PySem.W.nsIn K mainGlobals x=some (some (.ref f)):=by k_is)(l:K.lookup f=some ⟨oc,od,.func (PySem.W.fnOf x x (dh st) (aJ st) (af st) .none kV doc pm an cdv ct),osl⟩:=by k_is)(c:PySem.W.codeIn K cdv x=true:=by k_is)(k:PySem.W.keepIn K (.ref f)=true:=by k_is):∃f fd,Fun K x x st f fd/\mg x=some (.ref f):=
 ⟨f,_,wH l c k,uF X G a⟩
def zy{w:World}{K:PySem.W.Frag}{mg mb:Str->Option Value}{fa:Addr}{sp:Sp}{s₁:Shared}{vs:List Value}{ns:List Int}{nm:Addr->Str}(KX:K.In s₁.heap)(hns:s₁.heap.Ns mainGlobals mg)(hb:s₁.heap.Ns builtinsNs mb)(hbb:∀x:Str,x≠"__name__"->mb x=bootBuiltins x)(hlim:s₁.heap.NoLimit)(hg:s₁.gens = #[])(ha:s₁.heap.get? a=some { cls:=.type "list",data:=.seq vs.toArray })(hi:IntsAre vs ns)(hl:ns.length<=sizeLine)(hr:Room k callerA)(hts:∀p∈ts,s₁.heap.get? p=some (PySem.W.tabObj #[])/\isCodeTable s₁.heap p/\K.lookup p=none)(hbm:∃bm ob,mg "__builtins__"=some (Value.ref bm)/\bm≠builtinsNs/\s₁.heap.get? bm=some ob/\ob.cls=Value.type "module"/\ob.dict=some builtinsNs/\ob.data=Data.plain)(F:∀base:Heap,K.In base->base.Ns mainGlobals mg->(∀p∈ts,base.BuiltinsAt mg p/\yi base p (nm p))->FnOk P w K mg base CX k fa fd [x] sp)(hbind:∀(s:Shared)(u:Value),BindsTo s fd ⟨[u],[]⟩ [(x,u)])(hsp:∀H:Hp,SqL K H a (ns.map V.int)->sp [.ref a] H (λv _=>v=.bl true) λ_ _ _=>False)(hCX:∀H e s',CX [] H s₁ (λ_ _ _=>False) e s'->False):
  codeAny (model P w) callerA (.call (.ref fa) ⟨[.ref a],[]⟩) (λr s'=>r=.ok (.ret (.bool true))/\OldK s₁.heap s'.heap/\s'.os=s₁.os/\AllBare s'.gens) s₁:=by
 let tf:Addr->Array Value:=λp=>#[.str (nm p) 0];have rv:=tO hi;have lenV:=hi.length;have nat:∀p∈ts,p≠a:=λp hp z=>by have:=(hts p hp).1;rw[z,ha]at this;have:=ut Obj.data (xV this);cases this
 have core:∀H:Hp,(∀b,b∉ts->H b=none\/∃o xs,H b=some (.frz o (.lst xs)))->(∀p∈ts,H p=some (.tbl (tf p)))->SqL K H a (ns.map V.int)->HOk P w H s₁.heap->(∀b,H b≠none->b=a\/b∈ts)->(H a≠none->K.lookup a=none)->
   codeAny (model P w) callerA (.call (.ref fa) ⟨[.ref a],[]⟩) (λr s'=>r=.ok (.ret (.bool true))/\OldK s₁.heap s'.heap/\s'.os=s₁.os/\AllBare s'.gens) s₁:=by
  intro H hO hO2 hS hok hA hK;have base_of:∀{b:Addr}{o:Obj},s₁.heap.get? b=some o->H b=none->(wA s₁.heap H).get? b=some o:=λe n=>B1 e n;have noA:∀{b:Addr}{o:Obj}{es:Array DictEntry}{ep:Nat},s₁.heap.get? b=some o->o.data=.dict es ep->H b=none:=λ{b o es ep} e d=>by
   cases q:H b with
   |none=>rfl
   |some u=>
    rcases hA b (by rw[q];simp)with e'|e';·subst e';rw[ha]at e;cases e;have d':Data.seq vs.toArray _=Data.dict es ep:=d;cases d'
    ·rw[(hts b e').1]at e;cases e;have d':Data.fields #[]=Data.dict es ep:=d;cases d'
  have nsK:∀{b:Addr}{m:Str->Option Value},s₁.heap.Ns b m->(wA s₁.heap H).Ns b m:=λ{b m} ⟨o,es,ep,e,d,r⟩=>⟨o,es,ep,base_of e (noA e d),d,r⟩
  have hKb:K.In (wA s₁.heap H):=λb o e=>base_of (KX b o e) (by
   cases q:H b with
   |none=>rfl
   |some u=>
    rcases hA b (by rw[q];simp)with e'|e';·subst e';rw[hK (by rw[q];simp)]at e;cases e
    ·rw[(hts b e').2.2]at e;cases e);have hM:Mod K mg (wA s₁.heap H):=⟨hKb,nsK hns,⟨mb,nsK hb,hbb⟩,let⟨mc,h1,h2⟩:=hlim;⟨mc,nsK h1,h2⟩⟩
  have e0:Env0 P w K mg (wA s₁.heap H) callerA [] s₁ H:=⟨rfl,hM,λb o e=>Hc e,Nat.le_of_eq (AJ _ _),trivial,λb hb=>absurd (show b∈([]:List Addr) from hb) (by simp),hok,.of_eq hg,zI _ _⟩
  have hBM0:∀p∈ts,(wA s₁.heap H).BuiltinsAt mg p:=λp hp=>by
   obtain⟨bm,ob,m1,m2,m3,m4,m5,m6⟩:=hbm;have hn:H bm=none:=by
    cases q:H bm with
    |none=>rfl
    |some u=>
     rcases hA bm (by rw[q];simp)with e'|e';·subst e';rw[ha]at m3;cases m3;have d':Data.seq vs.toArray _=Data.plain:=m6;cases d'
     ·rw[(hts bm e').1]at m3;cases m3;have d':Data.fields #[]=Data.plain:=m6;cases d'
   refine⟨bm,ob,m1,m2,λz=>?_,λz=>?_,base_of m3 hn,m4,m5,m6⟩;·obtain⟨o,es,ep,e,d,_⟩:=hns;rw[<- z,m3]at e;cases e;rw[m6]at d;cases d
   ·have e:=(hts p hp).1;rw[<- z,m3]at e;cases e;have d':Data.fields #[]=Data.plain:=m6;cases d'
  have hBM:∀p∈ts,(wA s₁.heap H).BuiltinsAt mg p/\yi (wA s₁.heap H) p (nm p):=λp hp=>⟨hBM0 p hp,Dm (get_objs.1 (hts p hp).1).1 (hO2 p hp)⟩
  refine qE ((F _ hKb (nsK hns) hBM).run callerA [] s₁ H ⟨[.ref a],[]⟩ [.ref a] [.ref a] _ _ hr e0 (hbind s₁ (.ref a)) (.cons rfl .nil) (hsp H hS)) λr s' h=>?_;cases r with
  |error e=>exact(hCX H e s' h).elim
  |ok fl=>
   cases fl with
   |next=>exact False.elim h
   |brk=>exact False.elim h
   |cont=>exact False.elim h
   |ret u=>
    obtain⟨v,H',os,bare,un,hok',r',q⟩:=h;have q':v=.bl true:=q;subst q';obtain rfl:u=Value.bool true:=r';have tab:∀p∈ts,∃qs,s'.heap.get? p=some { cls:=.none,data:=.fields qs }:=λp hp=>by obtain⟨more,z⟩:=un.tbls p _ (hO2 p hp);obtain⟨qs,e,_⟩:=hok' p _ z;exact⟨qs,e⟩
    have keep:∀b o,b∉ts->s₁.heap.get? b=some o->s'.heap.get? b=some o:=λb o hb e=>by
     cases q:H b with
     |none=>exact un.keep b o e q (by intro z;exact absurd (show b∈([]:List Addr) from z) (by simp)) (by simp)
     |some u=>
      rcases hO b hb with z|⟨ob,xs,z⟩;·rw[q]at z;cases z
      ·have z2:=un.frzs b ob _ z;obtain⟨e1,_⟩:=hok b _ z;obtain⟨e2,_⟩:=hok' b _ z2;rw[e]at e1;cases e1;exact e2
    refine⟨rfl,⟨λb o e=>?_,λb o e=>?_⟩,os,bare⟩
    ·by_cases hb:b∈ts;·obtain⟨t1,t2,_⟩:=hts b hb;rw[t1]at e;cases e;obtain⟨qs,z⟩:=tab b hb;exact .inr (.inl ⟨t2,rfl,#[],qs,rfl,by rw[z];simp⟩)
     ·exact .inl (keep b o hb e)
    ·by_cases hb:b∈ts;·obtain⟨qs,z⟩:=tab b hb;exact⟨_,z⟩
     ·exact⟨o,keep b o hb e⟩
 have tabOk:∀(H:Hp)(p:Addr),p∈ts->ObjOk P w H s₁.heap p (.tbl (tf p)):=λH p hp=>⟨#[],(hts p hp).1,trivial,λpos cv q=>by simp[codeAmong]at q⟩
 cases hk:K.lookup a with
 |some o=>
  have e:=KX a o hk;rw[ha]at e;cases e;refine core (λb=>if b∈ts then some (.tbl (tf b))else none) (λb hb=>.inl (if_neg hb)) (λp hp=>if_pos hp) (.inr ⟨_,vs.toArray,_,hk,rfl,rfl,rfl,by rw[xi,lenV];exact hl,by simpa using rv⟩) (λb u z=>?_) (λb z=>?_) λz=>absurd (if_neg λhb=>nat a hb rfl) z
  ·by_cases hb:b∈ts;·have z':=(if_pos hb).symm.trans z;cases z';exact tabOk _ b hb
   ·have z':=(if_neg hb).symm.trans z;cases z'
  ·by_cases hb:b∈ts;·exact .inr hb
   ·exact absurd (if_neg hb) z
 |none=>
  have na:a∉ts:=λz=>nat a z rfl;refine core (λb=>if b=a then some (.frz { cls:=.type "list",data:=.seq vs.toArray } (.lst (ns.map V.int)))else if b∈ts then some (.tbl (tf b))else none) (λb hb=>?_) (λp hp=>?_) (.inl (.inr ⟨{ cls:=.type "list",data:=.seq vs.toArray },if_pos rfl⟩)) (λb u z=>?_) (λb z=>?_) λ_=>hk
  ·by_cases hb':b=a;·exact .inr ⟨_,_,if_pos hb'⟩
   ·exact .inl ((if_neg hb').trans (if_neg hb))
  ·exact(if_neg (nat p hp)).trans (if_pos hp)
  ·by_cases hb:b=a;·have z':=(if_pos hb).symm.trans z;cases z';subst hb;exact⟨ha,by rw[x8];exact hl,vs,_,rv,ha⟩
   ·have z':=(if_neg hb).symm.trans z;by_cases hb2:b∈ts;·rw[if_pos hb2]at z';cases z';exact tabOk _ b hb2
    ·rw[if_neg hb2]at z';cases z'
  ·by_cases hb:b=a;·exact .inl hb
   ·by_cases hb2:b∈ts;·exact .inr hb2
    ·exact absurd ((if_neg hb).trans (if_neg hb2)) z
def FJ{c p:Addr}(q:PySem.W.CodeHd h c p):isCodeTable h p:=by obtain⟨o,vs,_,_,_,_,_,_,_,e,e1,e2,e3,_⟩:=q;exact⟨c,o,vs,e,e1,e2,e3⟩
theorem pF{α β:Type}[BEq α][LawfulBEq α]{a:α}:∀{l:List (α×β)},a∉l.map (·.1)->l.lookup a=none
 | [],_=>rfl
 | (k,v)::r,h=>by
  simp only[x9,xO,not_or]at h;have:(a==k)=false:=by simp;exact h.1
  simp only[xI,this];exact pF h.2
def KO{l:PySem.W.OpenLaw}{q:Program}{XP:(Str->Option Value)->Heap->Prop}{d:DefRec}{K:Params->PySem.W.Frag}{as:List Addr}{e:∀P:Params,as=(K P).map (·.1)}{L:Nat}(hL:Room L callerA)(hn:l.most=some 63)(hdf:d.params.defaults=[])(hts:∀p∈ts,p∉as)(F:∀(w:World)(mg:Str->Option Value)(fa:Addr)(h:Heap),(K w.params).In h->h.Ns mainGlobals mg->mg d.name=some (.ref fa)->
 (∀p∈ts,isCodeTable h p)/\∃nm:Addr->Str,
 ∃fd:FuncData,(∀(s:Shared)(u:Value),BindsTo s fd ⟨[u],[]⟩ [("_law_script",u)])/\∀base:Heap,(K w.params).In base->base.Ns mainGlobals mg->(∀p∈ts,base.BuiltinsAt mg p/\yi base p (nm p))->FnF l.prog w (K w.params) mg base L fa fd ["_law_script"] Bp):
  PySem.W.WalkO q loose XP (PySem.W.kmHook K as e ts).says l.row.toRowW d [] (λf vs=>PySem.call f vs):=by
 refine Att.attach_call hn hdf λw s₀ s₁ mg mb fa o pm cd doc a vs ns G Y ho hd hcd hmg hobj hints hlen hg=>?_;have KX:=PySem.W.km_in_of Y;obtain⟨ht,nm,fd,hb,hF⟩:=F w mg fa _ KX G.T.g hmg;refine zy KX G.T.g G.T.b G.T.builtins G.T.nolimit hg hobj hints (w8 hlen (by decide)) hL (λp hp=>⟨PySem.W.km_tabs_of Y p hp,ht p hp,pF (by rw[<- e w.params];exact hts p hp)⟩) G.T.bmain hF hb (λH hS=>⟨rfl,H,[.lst true (ns.map .int)],.refl _,.cons (.fls hS (rN ns)) .nil,?_⟩) λH e s' z=>by obtain⟨a,C,H',_,_,z⟩:=z;exact z
 have e:Bp [.lst true (ns.map .int)]=.ok (.bl true):=by simp only[Bp,rF]
 rw[e];exact λv G' H' u r=>r.bl_inv
def Ex{K:PySem.W.Frag}{mg:Str->Option Value}{c:Addr}{od2:Option Addr}{sl2:Array (Option Value)}{kV ct:Value}{vs:Array Value}{file:Str}{tf tg tt:Tok}{flags text:Int}{inF:Bool}(X:K.In h)(G:h.Ns mainGlobals mg)(a:PySem.W.nsIn K mainGlobals x=some (some (.ref f)))(l:K.lookup f=some ⟨oc,od,.func (PySem.W.fnOf x x (dh st) (aJ st) (af st) .none kV doc pm an (.ref c) ct),osl⟩)(cI:PySem.W.codeIn K (.ref c) x=true)(k:PySem.W.keepIn K (.ref f)=true)(lc:K.lookup c=some ⟨.type "code",od2,.fields vs,sl2⟩)(e11:vs[11]?=some (.ref Pt))(e11':vs.getD 11 .none=.ref Pt)(e18:vs.getD 18 .none=.str file tf)(e7:vs.getD 7 .none=.int flags tg)(e9:vs.getD 9 .none=.bool inF)(e10:vs.getD 10 .none=.int text tt)(nc:c≠Pt)(n4:mainGlobals≠Pt):
  ∃f fd,(Fun K x x st f fd/\mg x=some (.ref f))/\LamDef K mg fd Pt:=by
 have hc:∀h,K.In h->PySem.W.CodeHd h c Pt:=λh X=>⟨_,vs,file,tf,flags,tg,inF,text,tt,X _ _ lc,rfl,rfl,e11,e11',e18,e7,e9,e10,nc⟩
 exact⟨f,_,⟨wH l cI k,uF X G a⟩,⟨⟨c,rfl,hc⟩,n4⟩⟩
def LamDef.tab{K:PySem.W.Frag}{mg:Str->Option Value}(L:LamDef K mg fd Pt)(X:K.In h):isCodeTable h Pt:=by obtain⟨c,_,q⟩:=L.ex;exact FJ (q h X)
def Ja{K:PySem.W.Frag}{mg:Str->Option Value}{q:Str}{L:List (Addr×Str)}{S:Addr->FuncData->Prop}(LD:∃f fd,S f fd/\LamDef K mg fd Pt)(X:K.In h)(r:∀pq∈L,isCodeTable h pq.1):∀pq∈(Pt,q)::L,isCodeTable h pq.1:=λpq hp=>by
 obtain⟨f,fd,_,ld⟩:=LD;rcases xO.1 hp with z|z;·rw[z];exact LamDef.tab ld X
 ·exact r pq z
def IE:∀pq∈([]:List (Addr×Str)),isCodeTable h pq.1:=λpq hp=>by simp at hp
def NR{w:World}{K:PySem.W.Frag}{mg:Str->Option Value}{fa:Addr}{L:Nat}{tq:List (Addr×Str)}(h1:∀p∈ts,p∈tq.map (·.1))(h2:∀pq∈tq,pq.1∈ts/\tq.lookup pq.1=some pq.2)(hc:∀pq∈tq,isCodeTable h pq.1)(a:∃fd:FuncData,(∀(s:Shared)(u:Value),BindsTo s fd ⟨[u],[]⟩ [("_law_script",u)])/\∀base:Heap,K.In base->base.Ns mainGlobals mg->(∀pq∈tq,base.BuiltinsAt mg pq.1/\yi base pq.1 pq.2)->FnF P w K mg base L fa fd ["_law_script"] Bp):
  (∀p∈ts,isCodeTable h p)/\∃nm:Addr->Str,∃fd:FuncData,(∀(s:Shared)(u:Value),BindsTo s fd ⟨[u],[]⟩ [("_law_script",u)])/\∀base:Heap,K.In base->base.Ns mainGlobals mg->(∀p∈ts,base.BuiltinsAt mg p/\yi base p (nm p))->
   FnF P w K mg base L fa fd ["_law_script"] Bp:=by
 obtain⟨fd',hb,hF⟩:=a;refine⟨λp hp=>?_,λp=>(tq.lookup p).getD Str.empty,fd',hb,λbase kb nb hB=>hF base kb nb λpq hpq=>?_⟩;·obtain⟨pq,hpq,rfl⟩:=ur.1 (h1 p hp);exact hc pq hpq
 ·obtain⟨z1,z2⟩:=h2 pq hpq;have:=hB pq.1 z1;dsimp only at this;rw[z2]at this;exact this
def qC{K:PySem.W.Frag}{kV ct:Value}(a:PySem.W.findIn K (.ref C) x=some (some (.ref f)))(i:PySem.W.isFn K (.ref f)=true)(l:K.lookup f=some ⟨oc,od,.func (PySem.W.fnOf x qual (dh st) (aJ st) (af st) .none kV doc pm an cdv ct),osl⟩)(c:PySem.W.codeIn K cdv qual=true)(k:PySem.W.keepIn K (.ref f)=true):∃f fd,Fun K x qual st f fd/\Meth K C x f:=
 ⟨f,_,wH l c k,⟨a,i,k⟩⟩
def GW{K:PySem.W.Frag}{kV ct:Value}(a:PySem.W.findIn K (.ref C) "__init__"=some (some (.ref f)))(i:PySem.W.isFn K (.ref f)=true)(l:K.lookup f=some ⟨oc,od,.func (PySem.W.fnOf "__init__" qual (dh st) (aJ st) (af st) .none kV doc pm an cdv ct),osl⟩)(c:PySem.W.codeIn K cdv qual=true)(k:PySem.W.keepIn K (.ref f)=true)(mk:PySem.W.makesIn K C=true)(kc:PySem.W.keepIn K (.ref C)=true):
  ∃f fd,Fun K "__init__" qual st f fd/\Mk K C f:=⟨f,_,wH l c k,⟨mk,a,i,kc⟩⟩
def Jb{K:PySem.W.Frag}(ne:C≠DC)(pg:PySem.W.plainGet K C Str.empty=true)(hd:PySem.W.hasDictIn K C=true)(po:PySem.W.plainOver K C=true)(sa:PySem.W.findIn K (.ref C) "__setattr__"=some (some (.builtin "object.__setattr__"))):CF K C []:=
 ⟨⟨pg,hd,po,sa⟩,ne,λk hk=>by simp at hk⟩
def AB{K:PySem.W.Frag}(k:Nat)(h:CF K C ks)(hk:k<fnames.length)(e:dw k=x)(n:PySem.W.findIn K (.ref C) x=some none):CF K C (k::ks):=
 ⟨h.cl,h.ne,λj hj=>by
  rcases xO.1 hj with rfl|hj;·exact⟨hk,by unfold NoAttr;rw[e];exact n⟩
  ·exact h.na j hj⟩
section
variable{w:World}{K:PySem.W.Frag}{mg:Str->Option Value}{base:Heap}{n:Nat}{G:MF}
def qU(F:Fun K x qual st f fd)(m:Meth K C x f)(ok:FnM P w K mg base k f fd ps C G)(h:∀(kV doc pm:Value)(an:Option Addr)(cdv ct:Value)(us:List Value),us.length=ps.length->bindArgs (PySem.W.fnOf x qual (dh st) (aJ st) (af st) .none kV doc pm an cdv ct) ⟨us,[]⟩=pure (ps.zip us))(e:ps.length=n+1):MCallee P w K mg base C x k n G:=
 ⟨⟨f,fd,ps,ok,m,F.binds h,e⟩⟩
def yZ{n:Nat}(F:Fun K x x st f fd)(hm:mg x=some (.ref f))(ok:FnM P w K mg base k f fd ps C G)(h:∀(kV doc pm:Value)(an:Option Addr)(cdv ct:Value)(us:List Value),us.length=ps.length->bindArgs (PySem.W.fnOf x x (dh st) (aJ st) (af st) .none kV doc pm an cdv ct) ⟨us,[]⟩=pure (ps.zip us))(e:ps.length=n+1):CalleeM P w K mg base C x k n G:=
 ⟨f,fd,ps,ok,hm,F.kp,F.binds h,e⟩
def mkc{cn:Str}(F:Fun K x qual st f fd)(m:Mk K C f)(hc:mg cn=some (.ref C))(ne:C≠DC)(ok:FnM P w K mg base k f fd ps C G)(h:∀(kV doc pm:Value)(an:Option Addr)(cdv ct:Value)(us:List Value),us.length=ps.length->bindArgs (PySem.W.fnOf x qual (dh st) (aJ st) (af st) .none kV doc pm an cdv ct) ⟨us,[]⟩=pure (ps.zip us))(e:ps.length=n+1):MkC P w K mg base C cn k n G:=
 ⟨⟨f,fd,ps,ok,m,hc,F.binds h,e⟩,ne⟩
def BQ{cn:Str}(c:MkC P w K mg base C cn k n G)(k':Nat)(h:k<=k':=by decide):MkC P w K mg base C cn k' n G:=by obtain⟨f,fd,ps,M,hm,hg,hb,e⟩:=c.ex;exact⟨⟨f,fd,ps,{ M with run:=λA outer s H args us vs Q E hr=>M.run A outer s H args us vs Q E (hr.mono h) },hm,hg,hb,e⟩,c.ne⟩
end
def Ge{α:Type}{g:α->List D->R D}(h:∀(ns:List Int)(fz:Bool)(q:α),g q [.lst fz (ns.map .int)]=.ok (.bl true)):∀ds:List D,ds.length=1->Bp ds=.no\/∀q,g q ds=Bp ds:=by
 intro ds hl
 match ds,hl with
 | [d],_=>
  cases d <;> first|exact Or.inl rfl|skip
  rename_i fz ds hl;cases hi:qJ ds with
  |none=>exact Or.inl (by simp only[Bp,hi])
  |some ns=>have e:=wL hi;subst e;refine Or.inr λq=>?_;rw[h ns fz q];simp only[Bp,hi]
def ka{K:PySem.W.Frag}{its:Array Value}{n:Nat}(l:K.lookup a=some ⟨.type "tuple",od,.seq its n,osl⟩)(hz:its.size<=sizeLine)(v:Vals vs its.toList)(r:∀G,Reps K G vs ds):lR K a (.tup ds):=B8 l rfl rfl hz v r
def nL{K:PySem.W.Frag}{mg:Str->Option Value}(X:K.In h)(G:h.Ns mainGlobals mg)(e:PySem.W.nsIn K mainGlobals x=some (some (.ref a)))(k:lR K a (.tup ds)):∃a,mg x=some (.ref a)/\lR K a (.tup ds):=
 ⟨a,uF X G e,k⟩
end Q
namespace G91
open PySem PySem.Spec PyProof.Rows L2 Q Q91
local macro_rules | `(tactic| walk_at "s") => `(tactic| exact⟨rfl,rfl,rfl,by decide +kernel,rfl,by decide +kernel,by decide +kernel⟩)
local macro_rules | `(tactic| walk_at "1") => `(tactic| (intro _ _ _ _ _ _ us hl;obtain⟨a,z⟩:=oa hl;subst z;rfl))
local macro_rules | `(tactic| walk_at "2") => `(tactic| (intro _ _ _ _ _ _ us hl;obtain⟨a,b,z⟩:=tP hl;subst z;rfl))
local macro_rules | `(tactic| walk_at "3") => `(tactic| (intro _ _ _ _ _ _ us hl;obtain⟨a,b,c,z⟩:=DA hl;subst z;rfl))
local macro_rules | `(tactic| walk_at "4") => `(tactic| (intro _ _ _ _ _ _ us hl;obtain⟨a,b,c,d,z⟩:=JO hl;subst z;rfl))
local macro_rules | `(tactic| walk_at "5") => `(tactic| (intro _ _ _ _ _ _ us hl;obtain⟨a,b,c,d,e,z⟩:=Nv hl;subst z;rfl))
noncomputable abbrev top(i:Nat):Stmt:=PySem.Challenge.pw_screenlines_k91_whole_told_lists.main.body.getD i (.Pass ⟨0,0,0,0⟩)
noncomputable abbrev FUz(K:PySem.W.Frag)(n:Str)(i:Nat):=Fun K n n (top i)
section
variable{w:World}{K:PySem.W.Frag}{mg:Str->Option Value}{base:Heap}
def vx:FnScope ["_law_script","_law_k"] ["_law_script","_law_k"] (af (top 73)):=by walk_at "s"
def vg:FnScope ["_law_script","_law_k","_law_many","_law_drawn"] ["_law_script","_law_k","_law_many"] (af (top 74)):=by walk_at "s"
def xW:FnScope ["_law_script","_law_at","_law_width","_law_made","_law_k","_law_long"] ["_law_script","_law_at","_law_width"] (af (top 75)):=by walk_at "s"
def qB:FnScope ["_law_script","_law_at","_law_width","_law_many","_law_rows"] ["_law_script","_law_at","_law_width","_law_many"] (af (top 76)):=by walk_at "s"
def tR:FnScope ["_law_script","_law_at"] ["_law_script","_law_at"] (af (top 77)):=by walk_at "s"
def sj:FnScope ["_law_script","_law_at","_law_screen_here","_law_made","_law_k","_law_row_here","_law_way","_law_spot"] ["_law_script","_law_at","_law_screen_here"] (af (top 78)):=by walk_at "s"
def tH(bf:mg "enumerate"=none)(aO:mg "len"=none)(bh:Callee P w K mg base "_law_pick" 3 3 ak)(kn:Callee P w K mg base "_law_row" 3 3 aY)(Fn:FUz K "_law_goal" 78 f fd):FnN P w K mg base 4 f fd ["_law_script","_law_at","_law_screen_here"] (λds=>dY ak aY (ai 8 ds)):=by
 have hN:(["_law_script","_law_at","_law_screen_here","_law_made","_law_k","_law_row_here","_law_way","_law_spot"]:List Str).Nodup:=by decide
 refine Fn.okN sj (k:=3) (g:=dY ak aY) λ_ _ _ _ _ _ hr=>?_;have hu:=hr.units;exact(iI (xQ 3 hN (gQ ad)) (iI (oO q8 rfl (qW rfl bf (aI (ae at2) ah)) (mz rfl (cL 4 hN (cL 5 hN jx))) (ag (cW at6 hN (aA bh hr (ac (ae at0) (ac (aV (ae at1) (eM ah (ae at4))) (ac ah ad))))) (ag (iK (tu hu (ae at6) ah) (ag (cW at5 hN (aA kn hr (ac (ae at0) (ac (aV (aV (ae at1) (eM ah (ae at4))) ah) (ac (aI (ae at2) ah) ad))))) ar) (ag (iK (GF (ae at6) ah) (ag (cW at7 hN (aA bh hr (ac (ae at0) (ac (aV (aV (ae at1) (eM ah (ae at4))) ah) (ac (aI (ae at2) ah) ad))))) (ag (cW at5 hN (aV (aV (jG (ae at5) iL (oU (ae at7))) (aI (ba (l:=[97,98,32,35]) rfl (by decide)) (aA bh hr (ac (ae at0) (ac (aV (aV (ae at1) (eM ah (ae at4))) ah) (ac ah ad)))))) (jG (ae at5) (oU (aV (ae at7) ah)) iL))) ar)) ar) ar)) (ag (fy 3 (CY (ae at5) (ac (ba (l:=[32]) rfl (by decide)) ad))) ar))) (hn:=jP _)) (LP 3 (Hb (C4 (ae at3) iL (oU (rJ (dc rfl aO (ac (ae at3) ad)) (aA bh hr (ac (ae at0) (ac (aV (ae at1) ah) (ac ah ad)))))))))))
def uU:FnScope ["thing"] ["thing"] (af (top 9)):=by walk_at "s"
def vc:FnScope ["thing"] ["thing"] (af (top 7)):=by walk_at "s"
def sY:FnScope ["thing","low","high"] ["thing","low","high"] (af (top 8)):=by walk_at "s"
def yS:FnScope ["thing"] ["thing"] (af (top 35)):=by walk_at "s"
def tZ:FnScope ["thing"] ["thing"] (af (top 36)):=by walk_at "s"
def xR:FnScope ["some"] ["some"] (af (top 37)):=by walk_at "s"
def lv:FnScope ["thing","width"] ["thing","width"] (af (top 14)):=by walk_at "s"
def vf:FnScope ["thing","width","many"] ["thing","width","many"] (af (top 15)):=by walk_at "s"
def rY:FnScope ["thing","width"] ["thing"] (af (top 16)):=by walk_at "s"
def mf:FnScope ["thing"] ["thing"] (af (top 17)):=by walk_at "s"
def va:FnScope ["screen","thing"] ["screen","thing"] (af (top 18)):=by walk_at "s"
def pU:FnScope ["screen","thing"] ["screen","thing"] (af (top 19)):=by walk_at "s"
def rS:FnScope ["screen","rows","width","missing"] ["screen","rows"] (af (top 20)):=by walk_at "s"
def mh:FnScope ["screen","rows","spots","number","row","own"] ["screen","rows"] (af (top 21)):=by walk_at "s"
def jt:FnScope ["span","spot"] ["span","spot"] (af (top 30)):=by walk_at "s"
def An:FnScope ["screen","rows","found","spot","last"] ["screen","rows"] (af (top 31)):=by walk_at "s"
def AL{aR aG:List D->R D}(aO:mg "len"=none)(oy:Callee P w K mg base "unlike_spots" 8 2 aR)(ko:Callee P w K mg base "is_right_behind" 8 2 aG)(Fn:FUz K "spans" 31 f fd):FnN P w K mg base 9 f fd ["screen","rows"] (λds=>iR aR aG (ai 5 ds)):=by
 have hN:(["screen","rows","found","spot","last"]:List Str).Nodup:=by decide
 exact Fn.okN An (k:=8) (g:=iR aR aG) λ_ _ _ _ _ _ hr=>(iI (xQ 2 hN (gQ ad)) (iI (oO q8 rfl (eR (aA oy hr (ac (ae at0) (ac (ae at1) ad)))) (fo 3 hN) (ag (E7 2 (ju (yM (Bg (dc rfl aO (ac (ae at2) ad)) ah) (wm (dj (aA ko hr (ac (aI (ae at2) (oz ah)) (ac (ae at3) ad))))))) (ag (D1 2 4 hN (aI (ae at2) (oz ah))) (ag (Au 2 (dI (ac (aI (ae at4) ah) (ac (aI (ae at4) ah) (ac (aV (aI (ae at4) ah) ah) ad)))) (oz ah)) ar)) (ag (fy 2 (dI (ac (aI (ae at3) ah) (ac (aI (ae at3) ah) (ac ah ad))))) ar)) ar)) (IA 2)))
def jI:FnScope ["one","other"] ["one","other"] (af (top 32)):=by walk_at "s"
def oF:FnScope ["one","other"] ["one","other"] (af (top 33)):=by walk_at "s"
def om{bo:List D->R D}(bf:mg "enumerate"=none)(kJ:Callee P w K mg base "check_same_size" 6 2 bo)(Fn:FUz K "alike_rows" 33 f fd):FnN P w K mg base 7 f fd ["one","other"] (λds=>du bo (ai 2 ds)):=by refine Fn.okN oF (k:=6) (g:=du bo) λ_ _ _ _ _ _ hr=>?_;have hu:=hr.units;exact(iI (ib (aA kJ hr (ac (ae at0) (ac (ae at1) ad)))) (Hb (zC (n:=2) (N':=["number","row","other"]) (ix:=[1]) Da rfl (λC s₂ H₂ fp=>mz rfl (cL 0 (by show(["number","row","other"]:List Str).Nodup;decide) (cL 1 (by show(["number","row","other"]:List Str).Nodup;decide) jx))) Cm (qW rfl bf (aI (ae at0) ah)) (λC s₂ H₂ fp=>(bt at0)) (λC s₂ H₂ fp=>(um (tu hu (bt at1) (aI (aI (bt at2) ah) (bt at0))))))))
def oA:FnScope ["thing"] ["thing"] (af (top 10)):=by walk_at "s"
def uA:FnScope ["text","runs","sign"] ["text"] (af (top 34)):=by walk_at "s"
def ux{aS:List D->R D}(aO:mg "len"=none)(qw:Callee P w K mg base "check_plain" 2 1 aS)(Fn:FUz K "runs_of" 34 f fd):FnN P w K mg base 3 f fd ["text"] (λds=>fB aS (ai 3 ds)):=by
 have hN:(["text","runs","sign"]:List Str).Nodup:=by decide
 refine Fn.okN uA (k:=2) (g:=fB aS) λ_ _ _ _ _ _ hr=>?_;have hu:=hr.units;exact(iI (ib (aA qw hr (ac (ae at0) ad))) (iI (xQ 1 hN (gQ ad)) (iI (oO q8 rfl (eR (ae at0)) (fo 2 hN) (ag (E7 1 (ju (yM (Bg (dc rfl aO (ac (ae at1) ad)) ah) (wm (tu hu (aI (aI (ae at1) (oz ah)) ah) (ae at2))))) (ag (Au 1 (dI (ac (ae at2) (ac (aV (aI (aI (ae at1) (oz ah)) ah) ah) ad))) (oz ah)) ar) (ag (fy 1 (dI (ac (ae at2) (ac ah ad)))) ar)) ar)) (IA 1))))
def nP:FnScope ["thing"] ["thing"] (af (top 25)):=by walk_at "s"
def yC:FnScope ["texts","width","edge"] ["texts"] (af (top 26)):=by walk_at "s"
def A8{aZ:List D->R D}(aO:mg "len"=none)(AQ:mg "max"=none)(eG:Ref "NoText" au mg base)(oK:Callee P w K mg base "can_be_boxed" 2 1 aZ)(Fn:FUz K "boxed" 26 f fd):FnN P w K mg base 3 f fd ["texts"] (λds=>kL aZ au (ai 3 ds)):=by
 have hN:(["texts","width","edge"]:List Str).Nodup:=by decide
 refine Fn.okN yC (k:=2) (g:=kL aZ au) λ_ _ _ _ _ _ hr=>?_;have hh:=hr.hd;exact(iI (iK (cX (dj (aA oK hr (ac (ae at0) ad)))) (ag (ip eG hh (ba (l:=[116,104,101,115,101,32,97,114,101,32,110,111,32,116,101,120,116,115,32,116,104,97,116,32,97,32,98,111,120,32,105,115,32,100,114,97,119,110,32,114,111,117,110,100]) rfl (by decide))) ar) ar) (iI (cW at1 hN (Iu rfl rfl AQ (ac (gA (cE (N':=["text"]) (ix:=[]) dz rfl (eR (ae at0)) (λC s₂ H₂ fp=>(dc rfl aO (ac (bt at0) ad))) (λC s₂ H₂ fp=>eO))) ad))) (iI (cW at2 hN (aV (aV (ba (l:=[43]) rfl (by decide)) (eM (ba (l:=[45]) rfl (by decide)) (ae at1))) (ba (l:=[43]) rfl (by decide)))) (Hb (Ip (aV (kR (gQ (ac (ae at2) ad))) (gA (cE (N':=["text","width"]) (ix:=[1]) dz rfl (eR (ae at0)) (λC s₂ H₂ fp=>(aV (aV (ba (l:=[124]) rfl (by decide)) (A2 (bt at0) (ac (bt at1) ad))) (ba (l:=[124]) rfl (by decide)))) (λC s₂ H₂ fp=>eO)))) (kR (gQ (ac (ae at2) ad))))))))
def sN:FnScope ["_law_deed","_law_told","_law_kept"] ["_law_deed"] (af (top 79)):=by walk_at "s"
def sw(aj:mg "isinstance"=none)(cz:mg "list"=none)(F:FUz K "_law_stays" 79 f fd)(m:mg "_law_stays"=some (.ref f)):Stays P w K mg base "_law_stays" (k+1) k:=Dg (y:="_law_deed") (t:="_law_told") (z:="_law_kept") F m sN rfl (λ_ _ _ _ _ _ _=>rfl) rfl rfl rfl rfl rfl aj cz rfl
def ql:FnScope ["order"] ["order"] (af (top 47)):=by walk_at "s"
def rE:FnScope ["plan"] ["plan"] (af (top 57)):=by walk_at "s"
def Ci:FnScope ["plans","state","plan"] ["plans","state","plan"] (af (top 58)):=by walk_at "s"
def BU(mL:Callee P w K mg base "plan_cost" 1 1 bd)(ok:dU DC (gw bd) 3 F)(Fn:FUz K "offer" 58 f fd):FnM P w K mg base 2 f fd ["plans","state","plan"] DC F:=by refine Fn.okM Ci ok (k:=1) λ_ _ _ _ _ _ hr=>?_;have hu:=hr.units;exact(ag (iK (ju (gR (HZ 0 hu (ae at1)) (dQ (GF (aA mL hr (ac (ae at2) ad)) (aA mL hr (ac (sC 0 hu (ae at1)) ad)))))) (ag (Ho 0 hu (ae at2) (ae at1)) ar) ar) ar)
def ji:FnScope ["plans","state","plan","order"] ["plans","state","plan","order"] (af (top 59)):=by walk_at "s"
def iW{I_offer:MF}(ic:Callee P w K mg base "order_cost" 2 1 bF)(vk:CalleeM P w K mg base DC "offer" 2 2 I_offer)(ok:dU DC (bn I_offer bF) 4 F)(Fn:FUz K "offer_with_order" 59 f fd):FnM P w K mg base 3 f fd ["plans","state","plan","order"] DC F:=by exact Fn.okM ji ok (k:=2) λ_ _ _ _ _ _ hr=>(ag (oP (ph 0 vk hr (ac (ae at1) (ac (dI (ac (aV (aI (ae at2) ah) (aA ic hr (ac (ae at3) ad))) (ac (aV (aI (ae at2) ah) (dI (ac (ae at3) ad))) ad))) ad)))) ar)
def qI:FnScope ["plans","number","column","more"] ["plans","number","column"] (af (top 60)):=by walk_at "s"
def qM(sS:mg "dict"=none)(aP:mg "ELSEWHERE"=some (.ref a_ELSEWHERE))(bp:lR K a_ELSEWHERE (D.tup [D.bl false,D.bl false]))(dJ:mg "HERE"=some (.ref a_HERE))(gj:lR K a_HERE (D.tup [D.bl true,D.bl false]))(aW:mg "HERE_WIPED"=some (.ref a_HERE_WIPED))(bx:lR K a_HERE_WIPED (D.tup [D.bl true,D.bl true]))(aF:mg "ELSEWHERE_WIPED"=some (.ref a_ELSEWHERE_WIPED))(aK:lR K a_ELSEWHERE_WIPED (D.tup [D.bl false,D.bl true]))(bG:CalleeM P w K mg base DC "offer_with_order" 3 3 I_offer_with_order)(hg:∀ds:List D,ds.length=3->gr ds=.no\/∀q,ao (bZ I_offer_with_order q (ai 4 ds))=gr ds)(Fn:FUz K "with_moves" 60 f fd):FnF P w K mg base 4 f fd ["plans","number","column"] gr:=by
 have hN:(["plans","number","column","more"]:List Str).Nodup:=by decide
 refine Fn.okA qI (k:=3) (g:=bZ I_offer_with_order) hg λcdv A outer s H E hr=>?_;have hu:=hr.units;have h_1:PSF (fc (CXo P w) P w K mg base ["plans","number","column","more"] "with_moves" (af (top 60)) f cdv A outer s H E) ((aJ (top 60)).getD 1 (.Pass ⟨0,0,0,0⟩)) (eF I_offer_with_order):=(iK (BX 3 hu (bb rfl aP bp)) (ag (oP (ph 3 bG hr (ac (bb rfl dJ gj) (ac (sC 3 hu (bb rfl aP bp)) (ac (dI (ac (ba (l:=[103,111]) rfl (by decide)) (ac (ae at1) (ac (ae at2) ad)))) ad))))) ar) ar)
 have h_2:PSF (fc (CXo P w) P w K mg base ["plans","number","column","more"] "with_moves" (af (top 60)) f cdv A outer s H E) ((aJ (top 60)).getD 2 (.Pass ⟨0,0,0,0⟩)) (eA I_offer_with_order):=(iK (BX 3 hu (bb rfl dJ gj)) (ag (oP (ph 3 bG hr (ac (bb rfl aW bx) (ac (sC 3 hu (bb rfl dJ gj)) (ac (dI (ac (ba (l:=[119,105,112,101]) rfl (by decide)) ad)) ad))))) ar) ar)
 have h_3:PSF (fc (CXo P w) P w K mg base ["plans","number","column","more"] "with_moves" (af (top 60)) f cdv A outer s H E) ((aJ (top 60)).getD 3 (.Pass ⟨0,0,0,0⟩)) (eB I_offer_with_order):=(iK (BX 3 hu (bb rfl aF aK)) (ag (oP (ph 3 bG hr (ac (bb rfl aW bx) (ac (sC 3 hu (bb rfl aF aK)) (ac (dI (ac (ba (l:=[103,111]) rfl (by decide)) (ac (ae at1) (ac (ae at2) ad)))) ad))))) ar) ar)
 have h_4:PSF (fc (CXo P w) P w K mg base ["plans","number","column","more"] "with_moves" (af (top 60)) f cdv A outer s H E) ((aJ (top 60)).getD 4 (.Pass ⟨0,0,0,0⟩)) (jT I_offer_with_order):=(D4 3)
 exact(Cn 3 hN rfl sS (ae at0) (uQ (ag h_1 (ag h_2 (ag h_3 (ag h_4 ar))))))
def nB:FnScope ["plans","old","new","further","state","plan","wiped"] ["plans","old","new"] (af (top 61)):=by walk_at "s"
def mZ{I_offer:MF}(bG:CalleeM P w K mg base DC "offer_with_order" 3 3 I_offer_with_order)(vk:CalleeM P w K mg base DC "offer" 3 2 I_offer)(hg:∀ds:List D,ds.length=3->gr ds=.no\/∀q,ao (bW I_offer_with_order I_offer q (ai 7 ds))=gr ds)(Fn:FUz K "stepped_over" 61 f fd):FnF P w K mg base 4 f fd ["plans","old","new"] gr:=by
 have hN:(["plans","old","new","further","state","plan","wiped"]:List Str).Nodup:=by decide
 refine Fn.okA nB (k:=3) (g:=bW I_offer_with_order I_offer) hg λcdv A outer s H E hr=>?_;have hu:=hr.units;have h_1:PSF (fc (CXo P w) P w K mg base ["plans","old","new","further","state","plan","wiped"] "stepped_over" (af (top 61)) f cdv A outer s H E) ((aJ (top 61)).getD 1 (.Pass ⟨0,0,0,0⟩)) (ck I_offer_with_order I_offer):=(oO q8 rfl (yE (ae at0)) (mz rfl (cL 4 hN (cL 5 hN jx))) (ag (cW at6 hN (aI (ae at4) ah)) (ag (iK (Hm (aI (ae at4) ah)) (ag (oP (ph 3 bG hr (ac (dI (ac jS (ac (ae at6) ad))) (ac (ae at5) (ac (dI (ac (ba (l:=[115,97,121]) rfl (by decide)) (ac (ae at2) ad))) ad))))) ar) ar) (ag (iK (tu hu (B3 (EO (ae at6)) (ba (l:=[32]) rfl (by decide)) (ae at1)) (ae at2)) (ag (oP (ph 3 vk hr (ac (dI (ac jS (ac (ae at6) ad))) (ac (ae at5) ad)))) ar) ar) ar))) (hn:=jP _))
 have h_2:PSF (fc (CXo P w) P w K mg base ["plans","old","new","further","state","plan","wiped"] "stepped_over" (af (top 61)) f cdv A outer s H E) ((aJ (top 61)).getD 2 (.Pass ⟨0,0,0,0⟩)) (eK I_offer_with_order I_offer):=(D4 3)
 exact(Gi 3 hN (uQ (ag h_1 (ag h_2 ar))))
def Dv:FnScope ["plans","number","old","new","begin","current","column"] ["plans","number","old","new","begin"] (af (top 62)):=by walk_at "s"
def uH:FnScope ["plans","states"] ["plans","states"] (af (top 63)):=by walk_at "s"
def gX:FnScope ["number","old","new","plans"] ["number","old","new"] (af (top 64)):=by walk_at "s"
def jK:FnScope ["number","old","new","place","plans","right","left"] ["number","old","new","place"] (af (top 65)):=by walk_at "s"
def iS:FnScope ["number","old","new","place","plans"] ["number","old","new","place"] (af (top 66)):=by walk_at "s"
def Bh:FnScope ["thing"] ["thing"] (af (top 42)):=by walk_at "s"
def Dx:FnScope ["thing"] ["thing"] (af (top 43)):=by walk_at "s"
def uC:FnScope ["thing"] ["thing"] (af (top 44)):=by walk_at "s"
def oM:FnScope ["thing"] ["thing"] (af (top 45)):=by walk_at "s"
def mX:FnScope ["thing","order"] ["thing"] (af (top 46)):=by walk_at "s"
def ky:FnScope ["one","other","text"] ["one","other"] (af (top 49)):=by walk_at "s"
def rM:FnScope ["orders","short","order","both"] ["orders"] (af (top 50)):=by walk_at "s"
def BB:FnScope ["screen","rows","wanted","own","orders","number","row"] ["screen","rows"] (af (top 67)):=by walk_at "s"
def Fp:FnScope ["orders"] ["orders"] (af (top 48)):=by walk_at "s"
def qj:FnScope ["screen","rows"] ["screen","rows"] (af (top 68)):=by walk_at "s"
def rR:FnScope ["self"] ["self"] (af (bN (top 71) 1)):=by walk_at "s"
def sf(bQ:CF K aH [0,1])(ok:dU aH (jA aH) 1 F)(Fn:Fun K "sheet" "Pad.sheet" (bN (top 71) 1) f fd):FnM P w K mg base 1 f fd ["self"] aH F:=by exact Fn.okM rR ok (k:=0) λ_ _ _ _ _ _ hr=>(ag (bq (aI (ym 0 0 bQ (by decide) (oz ah)) ah)) ar)
def tI:FnScope ["self"] ["self"] (af (bN (top 71) 2)):=by walk_at "s"
def si(bQ:CF K aH [0,1])(ok:dU aH (jX aH) 1 F)(Fn:Fun K "spent" "Pad.spent" (bN (top 71) 2) f fd):FnM P w K mg base 1 f fd ["self"] aH F:=by exact Fn.okM tI ok (k:=0) λ_ _ _ _ _ _ hr=>(ag (bq (aI (ym 0 0 bQ (by decide) (oz ah)) ah)) ar)
def oj:FnScope ["self","step","screen","price"] ["self","step","screen","price"] (af (bN (top 71) 3)):=by walk_at "s"
def oN{gK:MF}(bQ:CF K aH [0,1])(uk:MCallee P w K mg base aH "spent" 1 0 gK)(ok:dU aH (hZ aH gK) 4 F)(Fn:Fun K "step_to" "Pad.step_to" (bN (top 71) 3) f fd):FnM P w K mg base 2 f fd ["self","step","screen","price"] aH F:=by exact Fn.okM oj ok (k:=1) λ_ _ _ _ _ _ hr=>(ag (Il 0 0 bQ (by decide) (dI (ac (ae at1) (ac (ae at2) (ac (aV (lI 0 bQ uk hr) (ae at3)) ad))))) (ag (zZ 0 1 bQ (by decide) (gQ ad)) ar))
def sQ:FnScope ["self","rows","screen","price"] ["self","rows"] (af (bN (top 71) 6)):=by walk_at "s"
def tE{ef:MF}{fC:List D->R D}(bj:mg "tuple"=none)(tM:Callee P w K mg base "least_cost" 9 2 fC)(eZ:Callee P w K mg base "full_rows" 9 2 aM)(bQ:CF K aH [0,1])(gN:MCallee P w K mg base aH "sheet" 9 0 aN)(qb:MCallee P w K mg base aH "step_to" 9 3 ef)(ok:dU aH (jw aH aN ef fC aM) 4 F)(Fn:Fun K "bring" "Pad.bring" (bN (top 71) 6) f fd):FnM P w K mg base 10 f fd ["self","rows"] aH F:=by
 have hN:(["self","rows","screen","price"]:List Str).Nodup:=by decide
 exact Fn.okM sQ ok (k:=9) λ_ _ _ _ _ _ hr=>(ag (cW at2 hN (lI 0 bQ gN hr)) (ag (cW at3 hN (aA tM hr (ac (ae at2) (ac (ae at1) ad)))) (ag (Fb 0 bQ qb hr (ac (ba (l:=[98,114,105,110,103]) rfl (by decide)) (ac (dI (ac (aI (ae at2) ah) (ac (rD rfl bj (ac (aA eZ hr (ac (ae at2) (ac (ae at1) ad))) ad)) (ac (aI (ae at2) ah) ad)))) (ac (ae at3) ad)))) (ag (JV (ae at3)) ar))))
def vh:FnScope ["self","screen"] ["self","screen"] (af (bN (top 71) 0)):=by walk_at "s"
def vo{DG:Tok}(nV:mg "MADE"=some (.str "made" DG))(ca:Callee P w K mg base "check_screen" 5 1 ay)(bQ:CF K aH [0,1])(ok:dU aH (lh aH ay) 2 F)(Fn:Fun K "__init__" "Pad.__init__" (bN (top 71) 0) f fd):FnM P w K mg base 6 f fd ["self","screen"] aH F:=by exact Fn.okM vh ok (k:=5) λ_ _ _ _ _ _ hr=>(ag (ib (aA ca hr (ac (ae at1) ad))) (ag (zZ 0 0 bQ (by decide) (gQ (ac (dI (ac (CJ (l:=[109,97,100,101]) rfl nV rfl (by decide)) (ac (ae at1) (ac ah ad)))) ad))) (ag (zZ 0 1 bQ (by decide) (gQ ad)) ar)))
def Iw:FnScope ["_law_script","_law_screen_here","_law_goal_here","_law_texts","_law_runs","_law_mine","_law_pad","_law_good","_law_here"] ["_law_script"] (af (top 80)):=by walk_at "s"
def Hz{bJ gy:MF}{cc:List D->R D}{ce:List D->R (List D)}{cH:List D->R D}{fI:List D->R (List D)}{bw:List D->R (List D)}{cJ:List D->R (List D)}{fH:List D->R (List D)}(cz:mg "list"=none)(uJ:Callee P w K mg base "_law_some" 11 2 cc)(vm:CalleeN P w K mg base "_law_goal" 11 3 ce)(Ai:Callee P w K mg base "of_runs" 11 1 cH)(Fs:CalleeN P w K mg base "spans" 9 2 fI)(rA:CalleeN P w K mg base "alike_rows" 9 2 bw)(zU:CalleeN P w K mg base "runs_of" 9 1 cJ)(E1:CalleeN P w K mg base "boxed" 9 1 fH)(fu:Stays P w K mg base "_law_stays" 11 10)(bQ:CF K aH [0,1])(vi:MCallee P w K mg base aH "bring" 11 1 bJ)(gN:MCallee P w K mg base aH "sheet" 11 0 aN)(HA:MkC P w K mg base aH "Pad" 10 1 gy)(hg:∀ds:List D,ds.length=1->gr ds=.no\/∀q,ao (qH aH bJ aN gy cc ce cH fI bw cJ fH q (ai 9 ds))=gr ds)(LB:LamB K mg base "law" fd Pt)(Fn:FUz K "law" 80 f fd):FnF P w K mg base 12 f fd ["_law_script"] gr:=by
 have hN:(["_law_script","_law_screen_here","_law_goal_here","_law_texts","_law_runs","_law_mine","_law_pad","_law_good","_law_here"]:List Str).Nodup:=by decide
 refine Fn.okAT LB Iw (k:=11) (g:=qH aH bJ aN gy cc ce cH fI bw cJ fH) hg λcdv A outer s H E hr la=>?_;have hu:=hr.units;have h_0:PSF (fc (CXo P w) P w K mg base ["_law_script","_law_screen_here","_law_goal_here","_law_texts","_law_runs","_law_mine","_law_pad","_law_good","_law_here"] "law" (af (top 80)) f cdv A outer s H E) ((aJ (top 80)).getD 0 (.Pass ⟨0,0,0,0⟩)) (zu cc):=(cW at1 hN (aA uJ hr (ac (ae at0) (ac ah ad))))
 have h_1:PSF (fc (CXo P w) P w K mg base ["_law_script","_law_screen_here","_law_goal_here","_law_texts","_law_runs","_law_mine","_law_pad","_law_good","_law_here"] "law" (af (top 80)) f cdv A outer s H E) ((aJ (top 80)).getD 1 (.Pass ⟨0,0,0,0⟩)) (vY ce):=(Fr 2 3 4 rfl hN (ny vm hr (ac (ae at0) (ac ah (ac (ae at1) ad)))) (gQ (ac (ba (l:=[97]) rfl (by decide)) (ac (ba (l:=[98,99]) rfl (by decide)) ad))) (gQ (ac (dI (ac (ba (l:=[97]) rfl (by decide)) (ac ah ad))) ad)))
 have h_3:PSF (fc (CXo P w) P w K mg base ["_law_script","_law_screen_here","_law_goal_here","_law_texts","_law_runs","_law_mine","_law_pad","_law_good","_law_here"] "law" (af (top 80)) f cdv A outer s H E) ((aJ (top 80)).getD 3 (.Pass ⟨0,0,0,0⟩)) (vA fI):=(GR 2 7 hN (gQ (ac (qA fu hr la (N':=["_law_screen_here","_law_goal_here"]) (ix:=[1,2]) wx (λcl f cd A outer s H E hr=>by have hu:=hr.units;exact(ny Fs hr (ac (oT at0) (ac (oT at1) ad))))) ad)))
 have h_4:PSF (fc (CXo P w) P w K mg base ["_law_script","_law_screen_here","_law_goal_here","_law_texts","_law_runs","_law_mine","_law_pad","_law_good","_law_here"] "law" (af (top 80)) f cdv A outer s H E) ((aJ (top 80)).getD 4 (.Pass ⟨0,0,0,0⟩)) (vT bw):=(fy 7 (qA fu hr la (N':=["_law_screen_here"]) (ix:=[1]) wx (λcl f cd A outer s H E hr=>by have hu:=hr.units;exact(ny rA hr (ac (oT at0) (ac (oT at0) ad))))))
 have h_5:PSF (fc (CXo P w) P w K mg base ["_law_script","_law_screen_here","_law_goal_here","_law_texts","_law_runs","_law_mine","_law_pad","_law_good","_law_here"] "law" (af (top 80)) f cdv A outer s H E) ((aJ (top 80)).getD 5 (.Pass ⟨0,0,0,0⟩)) (wy cJ):=(fy 7 (qA fu hr la (N':=["_law_screen_here"]) (ix:=[1]) wx (λcl f cd A outer s H E hr=>by have hu:=hr.units;exact(ny zU hr (ac (aI (aI (oT at0) ah) ah) ad)))))
 have h_6:PSF (fc (CXo P w) P w K mg base ["_law_script","_law_screen_here","_law_goal_here","_law_texts","_law_runs","_law_mine","_law_pad","_law_good","_law_here"] "law" (af (top 80)) f cdv A outer s H E) ((aJ (top 80)).getD 6 (.Pass ⟨0,0,0,0⟩)) (wz fH):=(fy 7 (qA fu hr la (N':=["_law_texts"]) (ix:=[3]) wx (λcl f cd A outer s H E hr=>by have hu:=hr.units;exact(ny E1 hr (ac (oT at0) ad)))))
 have h_7:PSF (fc (CXo P w) P w K mg base ["_law_script","_law_screen_here","_law_goal_here","_law_texts","_law_runs","_law_mine","_law_pad","_law_good","_law_here"] "law" (af (top 80)) f cdv A outer s H E) ((aJ (top 80)).getD 7 (.Pass ⟨0,0,0,0⟩)) (wc cH):=(E7 2 (ju (gR (kB hu (aA Ai hr (ac (ae at4) ad)) (ba (l:=[97,97]) rfl (by decide))) (dQ (kB hu (ae at2) (ae at5))))) (ag (bq jS) ar) ar)
 have h_8:PSF (fc (CXo P w) P w K mg base ["_law_script","_law_screen_here","_law_goal_here","_law_texts","_law_runs","_law_mine","_law_pad","_law_good","_law_here"] "law" (af (top 80)) f cdv A outer s H E) ((aJ (top 80)).getD 8 (.Pass ⟨0,0,0,0⟩)) (wa aH bJ):=(GB 2 6 bQ vi hr (ac (ae at2) ad))
 have h_9:PSF (fc (CXo P w) P w K mg base ["_law_script","_law_screen_here","_law_goal_here","_law_texts","_law_runs","_law_mine","_law_pad","_law_good","_law_here"] "law" (af (top 80)) f cdv A outer s H E) ((aJ (top 80)).getD 9 (.Pass ⟨0,0,0,0⟩)) (wD aH aN):=(cW at8 hN (lI 6 bQ gN hr))
 have h_10:PSF (fc (CXo P w) P w K mg base ["_law_script","_law_screen_here","_law_goal_here","_law_texts","_law_runs","_law_mine","_law_pad","_law_good","_law_here"] "law" (af (top 80)) f cdv A outer s H E) ((aJ (top 80)).getD 10 (.Pass ⟨0,0,0,0⟩)) (qD):=(fy 2 (ba (l:=[120]) rfl (by decide)))
 have h_11:PSF (fc (CXo P w) P w K mg base ["_law_script","_law_screen_here","_law_goal_here","_law_texts","_law_runs","_law_mine","_law_pad","_law_good","_law_here"] "law" (af (top 80)) f cdv A outer s H E) ((aJ (top 80)).getD 11 (.Pass ⟨0,0,0,0⟩)) (qo aH aN):=(bq (dL (me hu (ae at7) (eM (kR (gQ (ac jS ad))) ah)) (dL (me hu (ae at3) (kR (gQ (ac (ba (l:=[97]) rfl (by decide)) (ac (ba (l:=[98,99]) rfl (by decide)) ad))))) (dL (me hu (ae at4) (kR (gQ (ac (dI (ac (ba (l:=[97]) rfl (by decide)) (ac ah ad))) ad)))) (fX (me hu (lI 6 bQ gN hr) (ae at8)))))))
 exact(zA h_0 (zA h_1 (ES 2 5 6 HA hr rfl hN (oZ rfl cz (ac (ae at2) ad)) (ac (ae at1) ad) (uQ (ag h_3 (ag h_4 (ag h_5 (uv 3 (ag h_6 (uv 4 (uv 5 (ag h_7 (ag h_8 (ag h_9 (ag h_10 (uv 7 (ag h_11 ar)))))))))))))))))
end
def Hk{w:World}{K:PySem.W.Frag}{mg:Str->Option Value}{fa:Addr}(hfa:mg "law"=some (.ref fa))(ir:mg "all"=none)(tJ:mg "bool"=none)(sS:mg "dict"=none)(bf:mg "enumerate"=none)(ua:mg "int"=none)(aj:mg "isinstance"=none)(aO:mg "len"=none)(cz:mg "list"=none)(AQ:mg "max"=none)(rG:mg "min"=none)(dg:mg "range"=none)(Ay:mg "str"=none)(zj:mg "sum"=none)(bj:mg "tuple"=none)(aP:∃a,mg "ELSEWHERE"=some (.ref a)/\lR K a (D.tup [D.bl false,D.bl false]))(aF:∃a,mg "ELSEWHERE_WIPED"=some (.ref a)/\lR K a (D.tup [D.bl false,D.bl true]))(eP:∃t,mg "GO_COST"=some (.int 2 t))(dJ:∃a,mg "HERE"=some (.ref a)/\lR K a (D.tup [D.bl true,D.bl false]))(aW:∃a,mg "HERE_WIPED"=some (.ref a)/\lR K a (D.tup [D.bl true,D.bl true]))(bT:∃t,mg "LONGEST_RUN"=some (.int 99 t))(nV:∃t,mg "MADE"=some (.str "made" t))(cu:∃t,mg "MOST_BOXED"=some (.int 10 t))(bg:∃t,mg "MOST_BOXED_WIDTH"=some (.int 38 t))(bI:∃t,mg "MOST_ROWS"=some (.int 12 t))(cT:∃t,mg "MOST_RUNS"=some (.int 99 t))(bH:∃t,mg "MOST_SAID"=some (.int 40 t))(bz:∃t,mg "MOST_WIDTH"=some (.int 40 t))(bB:∃a,mg "NO_ORDERS"=some (.ref a)/\lR K a (D.tup [D.int 0,D.tup []]))(cR:∃t,mg "WIPE_COST"=some (.int 1 t))(nN:PySem.W.nsIn K mainGlobals "NoOrder"=some (some (.ref aU)))(zQz9:PySem.W.excIn K aU [.type "ValueError",.type "Exception",.type "BaseException",.type "object"] "ValueError.__new__"=true)(kK:PySem.W.nsIn K mainGlobals "NoScreen"=some (some (.ref ax)))(kF:PySem.W.excIn K ax [.type "ValueError",.type "Exception",.type "BaseException",.type "object"] "ValueError.__new__"=true)(pZ:PySem.W.nsIn K mainGlobals "NoText"=some (some (.ref au)))(qR:PySem.W.excIn K au [.type "ValueError",.type "Exception",.type "BaseException",.type "object"] "ValueError.__new__"=true)(Fy:PySem.W.nsIn K mainGlobals "Pad"=some (some (.ref aH)))(bQ:CF K aH [0,1])(h73:∃f fd,FUz K "_law_cell" 73 f fd/\mg "_law_cell"=some (.ref f))(h74:∃f fd,FUz K "_law_pick" 74 f fd/\mg "_law_pick"=some (.ref f))(h75:∃f fd,FUz K "_law_row" 75 f fd/\mg "_law_row"=some (.ref f))(h76:∃f fd,FUz K "_law_screen" 76 f fd/\mg "_law_screen"=some (.ref f))(h77:∃f fd,FUz K "_law_some" 77 f fd/\mg "_law_some"=some (.ref f))(h78:∃f fd,FUz K "_law_goal" 78 f fd/\mg "_law_goal"=some (.ref f))(h9:∃f fd,FUz K "is_plain" 9 f fd/\mg "is_plain"=some (.ref f))(h7:∃f fd,FUz K "is_whole" 7 f fd/\mg "is_whole"=some (.ref f))(h8:∃f fd,FUz K "is_within" 8 f fd/\mg "is_within"=some (.ref f))(h35:∃f fd,FUz K "is_run" 35 f fd/\mg "is_run"=some (.ref f))(h36:∃f fd,FUz K "are_runs" 36 f fd/\mg "are_runs"=some (.ref f))(h37:∃f fd,FUz K "of_runs" 37 f fd/\mg "of_runs"=some (.ref f))(h14:∃f fd,FUz K "are_full_rows" 14 f fd/\mg "are_full_rows"=some (.ref f))(h15:∃f fd,FUz K "is_place" 15 f fd/\mg "is_place"=some (.ref f))(h16:∃f fd,FUz K "is_screen" 16 f fd/\mg "is_screen"=some (.ref f))(h17:∃f fd,FUz K "check_screen" 17 f fd/\mg "check_screen"=some (.ref f))(h18:∃f fd,FUz K "are_rows" 18 f fd/\mg "are_rows"=some (.ref f))(h19:∃f fd,FUz K "check_rows" 19 f fd/\mg "check_rows"=some (.ref f))(h20:∃f fd,FUz K "full_rows" 20 f fd/\mg "full_rows"=some (.ref f))(h21:∃f fd,FUz K "unlike_spots" 21 f fd/\mg "unlike_spots"=some (.ref f))(h30:∃f fd,FUz K "is_right_behind" 30 f fd/\mg "is_right_behind"=some (.ref f))(h31:∃f fd,FUz K "spans" 31 f fd/\mg "spans"=some (.ref f))(h32:∃f fd,FUz K "check_same_size" 32 f fd/\mg "check_same_size"=some (.ref f))(h33:∃f fd,FUz K "alike_rows" 33 f fd/\mg "alike_rows"=some (.ref f))(h10:∃f fd,FUz K "check_plain" 10 f fd/\mg "check_plain"=some (.ref f))(h34:∃f fd,FUz K "runs_of" 34 f fd/\mg "runs_of"=some (.ref f))(h25:∃f fd,FUz K "can_be_boxed" 25 f fd/\mg "can_be_boxed"=some (.ref f))(h26:∃f fd,FUz K "boxed" 26 f fd/\mg "boxed"=some (.ref f))(h79:∃f fd,FUz K "_law_stays" 79 f fd/\mg "_law_stays"=some (.ref f))(h47:∃f fd,FUz K "order_cost" 47 f fd/\mg "order_cost"=some (.ref f))(h57:∃f fd,FUz K "plan_cost" 57 f fd/\mg "plan_cost"=some (.ref f))(h58:∃f fd,FUz K "offer" 58 f fd/\mg "offer"=some (.ref f))(h59:∃f fd,FUz K "offer_with_order" 59 f fd/\mg "offer_with_order"=some (.ref f))(h60:∃f fd,FUz K "with_moves" 60 f fd/\mg "with_moves"=some (.ref f))(h61:∃f fd,FUz K "stepped_over" 61 f fd/\mg "stepped_over"=some (.ref f))(h62:∃f fd,FUz K "swept" 62 f fd/\mg "swept"=some (.ref f))(h63:∃f fd,FUz K "cheapest" 63 f fd/\mg "cheapest"=some (.ref f))(h64:∃f fd,FUz K "plan_from_elsewhere" 64 f fd/\mg "plan_from_elsewhere"=some (.ref f))(h65:∃f fd,FUz K "plan_from_place" 65 f fd/\mg "plan_from_place"=some (.ref f))(h66:∃f fd,FUz K "row_of_place_plan" 66 f fd/\mg "row_of_place_plan"=some (.ref f))(h42:∃f fd,FUz K "is_say" 42 f fd/\mg "is_say"=some (.ref f))(h43:∃f fd,FUz K "is_go" 43 f fd/\mg "is_go"=some (.ref f))(h44:∃f fd,FUz K "is_order" 44 f fd/\mg "is_order"=some (.ref f))(h45:∃f fd,FUz K "check_order" 45 f fd/\mg "check_order"=some (.ref f))(h46:∃f fd,FUz K "check_orders" 46 f fd/\mg "check_orders"=some (.ref f))(h49:∃f fd,FUz K "joined_or_none" 49 f fd/\mg "joined_or_none"=some (.ref f))(h50:∃f fd,FUz K "shortened" 50 f fd/\mg "shortened"=some (.ref f))(h67:∃f fd,FUz K "least" 67 f fd/\mg "least"=some (.ref f))(h48:∃f fd,FUz K "cost" 48 f fd/\mg "cost"=some (.ref f))(h68:∃f fd,FUz K "least_cost" 68 f fd/\mg "least_cost"=some (.ref f))(h71_1:∃f fd,Fun K "sheet" "Pad.sheet" (bN (top 71) 1) f fd/\Meth K aH "sheet" f)(h71_2:∃f fd,Fun K "spent" "Pad.spent" (bN (top 71) 2) f fd/\Meth K aH "spent" f)(h71_3:∃f fd,Fun K "step_to" "Pad.step_to" (bN (top 71) 3) f fd/\Meth K aH "step_to" f)(h71_6:∃f fd,Fun K "bring" "Pad.bring" (bN (top 71) 6) f fd/\Meth K aH "bring" f)(h71_0:∃f fd,Fun K "__init__" "Pad.__init__" (bN (top 71) 0) f fd/\Mk K aH f){Pt80:Addr}(h80:∃f fd,(FUz K "law" 80 f fd/\mg "law"=some (.ref f))/\LamDef K mg fd Pt80):
  ∃fd:FuncData,(∀(s:Shared)(u:Value),BindsTo s fd ⟨[u],[]⟩ [("_law_script",u)])/\∀base:Heap,K.In base->base.Ns mainGlobals mg->(∀pq∈([(Pt80,"law"++".<locals>."++"<lambda>")]:List (Addr×Str)),base.BuiltinsAt mg pq.1/\yi base pq.1 pq.2)->FnF P w K mg base 12 fa fd ["_law_script"] Bp:=by
 obtain⟨a_ELSEWHERE,aP,bp⟩:=aP;obtain⟨a_ELSEWHERE_WIPED,aF,aK⟩:=aF;obtain⟨rj,eP⟩:=eP;obtain⟨a_HERE,dJ,gj⟩:=dJ;obtain⟨a_HERE_WIPED,aW,bx⟩:=aW;obtain⟨jY,bT⟩:=bT;obtain⟨DG,nV⟩:=nV;obtain⟨kZ,cu⟩:=cu;obtain⟨fm,bg⟩:=bg;obtain⟨gE,bI⟩:=bI;obtain⟨mq,cT⟩:=cT;obtain⟨gD,bH⟩:=bH;obtain⟨fw,bz⟩:=bz;obtain⟨a_NO_ORDERS,bB,cP⟩:=bB;obtain⟨nU,cR⟩:=cR;obtain⟨f73,d73,F73⟩:=h73;obtain⟨f74,d74,F74⟩:=h74;obtain⟨f75,d75,F75⟩:=h75;obtain⟨f76,d76,F76⟩:=h76;obtain⟨f77,d77,F77⟩:=h77;obtain⟨f78,d78,F78⟩:=h78;obtain⟨f9,d9,F9⟩:=h9;obtain⟨f7,d7,F7⟩:=h7;obtain⟨f8,d8,F8⟩:=h8;obtain⟨f35,d35,F35⟩:=h35;obtain⟨f36,d36,F36⟩:=h36;obtain⟨f37,d37,F37⟩:=h37;obtain⟨f14,d14,F14⟩:=h14;obtain⟨f15,d15,F15⟩:=h15;obtain⟨f16,d16,F16⟩:=h16;obtain⟨f17,d17,F17⟩:=h17;obtain⟨f18,d18,F18⟩:=h18;obtain⟨f19,d19,F19⟩:=h19;obtain⟨f20,d20,F20⟩:=h20;obtain⟨f21,d21,F21⟩:=h21;obtain⟨f30,d30,F30⟩:=h30;obtain⟨f31,d31,F31⟩:=h31;obtain⟨f32,d32,F32⟩:=h32;obtain⟨f33,d33,F33⟩:=h33;obtain⟨f10,d10,F10⟩:=h10;obtain⟨f34,d34,F34⟩:=h34;obtain⟨f25,d25,F25⟩:=h25;obtain⟨f26,d26,F26⟩:=h26;obtain⟨f79,d79,F79⟩:=h79;obtain⟨f47,d47,F47⟩:=h47;obtain⟨f57,d57,F57⟩:=h57;obtain⟨f58,d58,F58⟩:=h58;obtain⟨f59,d59,F59⟩:=h59;obtain⟨f60,d60,F60⟩:=h60;obtain⟨f61,d61,F61⟩:=h61;obtain⟨f62,d62,F62⟩:=h62;obtain⟨f63,d63,F63⟩:=h63;obtain⟨f64,d64,F64⟩:=h64;obtain⟨f65,d65,F65⟩:=h65;obtain⟨f66,d66,F66⟩:=h66;obtain⟨f42,d42,F42⟩:=h42;obtain⟨f43,d43,F43⟩:=h43;obtain⟨f44,d44,F44⟩:=h44;obtain⟨f45,d45,F45⟩:=h45;obtain⟨f46,d46,F46⟩:=h46;obtain⟨f49,d49,F49⟩:=h49;obtain⟨f50,d50,F50⟩:=h50;obtain⟨f67,d67,F67⟩:=h67;obtain⟨f48,d48,F48⟩:=h48;obtain⟨f68,d68,F68⟩:=h68;obtain⟨f71_1,d71_1,F71_1⟩:=h71_1;obtain⟨f71_2,d71_2,F71_2⟩:=h71_2;obtain⟨f71_3,d71_3,F71_3⟩:=h71_3;obtain⟨f71_6,d71_6,F71_6⟩:=h71_6;obtain⟨f71_0,d71_0,F71_0⟩:=h71_0;obtain⟨f80,d80,F80,L80⟩:=h80;have e:fa=f80:=by have:=hfa.symm.trans F80.2;injection this with this;injection this
 subst e;refine⟨d80,λs u=>?_,λbase kb nb hT=>?_⟩;·obtain⟨oc,od,kV,doc,pm,an,cdv,ct,osl,rfl,lk,hcd⟩:=F80.1.ex;exact .of_eq rfl
 ·have fZ:=zr (x:="NoOrder") kb nb nN zQz9;have cA:=zr (x:="NoScreen") kb nb kK kF;have eG:=zr (x:="NoText") kb nb pZ qR;have Jk:=uF kb nb Fy;have L80:LamB K mg base "law" d80 Pt80:=⟨L80,(hT _ (.head _)).2,(hT _ (.head _)).1⟩
  have k73:=F73.1.callee F73.2 ((F73.1.okF (P:=P) (w:=w) (base:=base) vx (k:=0) (g:=dH) λ_ _ _ _ _ _ hr=>(ag (iK (GF (ae at1) (dc rfl aO (ac (ae at0) ad))) (ag (bq (aI (ae at0) (ae at1))) ar) ar) (ag (iK (tu hr.units (ae at0) (kR (gQ ad))) (ag (bq ah) ar) ar) (ag (bq (aV (eM (aI (ae at0) (wM (ae at1) (dc rfl aO (ac (ae at0) ad)))) ah) (ae at1))) ar)))).to (tfr (F:=CW))) (by walk_at "2");have k74:=F74.1.callee F74.2 ((F74.1.okF vg (k:=1) (g:=dG _) λ_ _ _ _ _ _ hr=>(ag (cW at3 vg.nd (wM (eM (aV (aA k73 hr (ac (ae at0) (ac (ae at1) ad))) (eM ah (aV (ae at1) ah))) ah) ah)) (ag (bq (wM (wM (aV (eM (ae at3) (ae at3)) (GN (ae at3) ah)) ah) (ae at2))) ar))).to (tfr (F:=eW))) (by walk_at "3");have k75:=F75.1.callee F75.2 ((F75.1.okF xW (k:=2) (g:=jc _) λ_ _ _ _ _ _ hr=>(ag (cW at3 xW.nd (ba (l:=[]) rfl (by decide))) (ag (oO q8 rfl (pW rfl dg (ac (ae at2) ad)) (fo 4 xW.nd) (ag (cW at3 xW.nd (aV (ae at3) (aI (ba (l:=[32,32,97,98,35]) rfl (by decide)) (aA k74 hr (ac (ae at0) (ac (aV (aV (ae at1) ah) (ae at4)) (ac ah ad))))))) ar)) (ag (cW at5 xW.nd (aA k74 hr (ac (ae at0) (ac (ae at1) (ac (aV (ae at2) ah) ad))))) (ag (bq (B3 (tu hr.units (aA k74 hr (ac (ae at0) (ac (aV (ae at1) ah) (ac ah ad)))) ah) (ae at3) (aV (jG (ae at3) iL (oU (ae at5))) (eM (ba (l:=[32]) rfl (by decide)) (rJ (ae at2) (ae at5)))))) ar))))).to (tfr (F:=Bq))) (by walk_at "3");have k74m3:=k74.mono 3;have k76:=F76.1.callee F76.2 ((F76.1.okF qB (k:=3) (g:=fL _ _) λ_ _ _ _ _ _ hr=>(ag (cW at4 qB.nd (rD rfl bj (ac (gA (cE (N':=["_law_k","_law_script","_law_at","_law_width"]) (ix:=[0,1,2]) dz rfl (pW rfl dg (ac (ae at3) ad)) (λC s₂ H₂ fp=>(aA k75 hr (ac (bt at1) (ac (aV (bt at2) (eM ah (bt at0))) (ac (bt at3) ad))))) (λC s₂ H₂ fp=>eO))) ad))) (ag (bq (dI (ac (ae at2) (ac (ae at4) (ac (dI (ac (aA k74m3 hr (ac (ae at0) (ac (aV (ae at1) ah) (ac (ae at3) ad)))) (ac (aA k74m3 hr (ac (ae at0) (ac (aV (ae at1) ah) (ac (aV (ae at2) ah) ad)))) ad))) ad))))) ar))).to (tfr (F:=BF))) (by walk_at "4");have k74m4:=k74.mono 4;have k77:=F77.1.callee F77.2 ((F77.1.okF tR (k:=4) (g:=iG _ _) λ_ _ _ _ _ _ hr=>(ag (bq (aA k76 hr (ac (ae at0) (ac (aV (ae at1) ah) (ac (aV ah (aA k74m4 hr (ac (ae at0) (ac (ae at1) (ac ah ad))))) (ac (aV ah (aA k74m4 hr (ac (ae at0) (ac (aV (ae at1) ah) (ac ah ad))))) ad)))))) ar)).to (tfr (F:=xk))) (by walk_at "2");have k78:=F78.1.calleeN F78.2 ((tH bf aO (k74.mono 3) k75 F78.1).to (IK (F:=Hd))) (by walk_at "3");have k9:=F9.1.callee F9.2 ((F9.1.okF (P:=P) (w:=w) (base:=base) uU (k:=0) (g:=fk) λ_ _ _ _ _ _ hr=>(ag (bq (dL (E8 aj (ae at0) Ay) (fX (AH rfl rfl ir (ac (gA (cE (N':=["sign"]) (ix:=[]) dz rfl (eR (ae at0)) (λC s₂ H₂ fp=>(tU (ba (l:=[32]) rfl (by decide)) (bt at0) (ba (l:=[126]) rfl (by decide)))) (λC s₂ H₂ fp=>eO))) ad))))) ar)).to uS) (by walk_at "1");have k7:=F7.1.callee F7.2 ((F7.1.okF (P:=P) (w:=w) (base:=base) vc (k:=0) (g:=fD) λ_ _ _ _ _ _ hr=>(ag (bq (dL (Fw aj (ae at0) ua) (fX (Js (BL aj (ae at0) tJ))))) ar)).to uT) (by walk_at "1");have k8:=F8.1.callee F8.2 ((F8.1.okF sY (k:=1) (g:=dX _) λ_ _ _ _ _ _ hr=>(ag (bq (dL (aA k7 hr (ac (ae at0) ad)) (fX (tU (ae at1) (ae at0) (ae at2))))) ar)).to sd) (by walk_at "3");have k9m2:=k9.mono 2;have k35:=F35.1.callee F35.2 ((F35.1.okF yS (k:=2) (g:=ki _ _) λ_ _ _ _ _ _ hr=>(ag (iK (ju (gR (cX (dj (ia aj (ae at0) bj))) (dQ (kB hr.units (dc rfl aO (ac (ae at0) ad)) ah)))) (ag (bq jS) ar) ar) (ag (bq (dL (aA k9m2 hr (ac (aI (ae at0) ah) ad)) (dL (me hr.units (dc rfl aO (ac (aI (ae at0) ah) ad)) ah) (fX (aA k8 hr (ac (aI (ae at0) ah) (ac ah (ac (cM rfl bT) ad)))))))) ar))).to (tfr (F:=MT))) (by walk_at "1");have k36:=F36.1.callee F36.2 ((F36.1.okF tZ (k:=3) (g:=iq _) λ_ _ _ _ _ _ hr=>(ag (iK (ju (gR (cX (dj (DL aj (ae at0) cz bj))) (dQ (Bg (dc rfl aO (ac (ae at0) ad)) (cM rfl cT))))) (ag (bq jS) ar) ar) (ag (bq (AH rfl rfl ir (ac (gA (cE (N':=["part"]) (ix:=[]) dz rfl (eR (ae at0)) (λC s₂ H₂ fp=>(aA k35 hr (ac (bt at0) ad))) (λC s₂ H₂ fp=>eO))) ad))) ar))).to (tfr (F:=Mx))) (by walk_at "1");have k37:=F37.1.callee F37.2 ((F37.1.okF xR (k:=4) (g:=jb _ _) λ_ _ _ _ _ _ hr=>(ag (iK (cX (dj (aA k36 hr (ac (ae at0) ad)))) (ag (ip eG hr.hd (ba (l:=[116,104,101,115,101,32,97,114,101,32,110,111,32,114,117,110,115]) rfl (by decide))) ar) ar) (ag (bq (Hr (ba (l:=[]) rfl (by decide)) (ac (gA (cE (N':=["run"]) (ix:=[]) dz rfl (eR (ae at0)) (λC s₂ H₂ fp=>(eM (aI (bt at0) ah) (aI (bt at0) ah))) (λC s₂ H₂ fp=>eO))) ad))) ar))).to (tfr (F:=Hg _))) (by walk_at "1");have k14:=F14.1.callee F14.2 ((F14.1.okF lv (k:=1) (g:=cD _) λ_ _ _ _ _ _ hr=>(ag (iK (ju (gR (cX (dj (ia aj (ae at0) bj))) (dQ (cX (Aa ah (dc rfl aO (ac (ae at0) ad)) (cM rfl bI)))))) (ag (bq jS) ar) ar) (ag (bq (AH rfl rfl ir (ac (gA (cE (N':=["row","width"]) (ix:=[1]) dz rfl (eR (ae at0)) (λC s₂ H₂ fp=>(dL (aA k9 hr (ac (bt at0) ad)) (fX (me hr.units (dc rfl aO (ac (bt at0) ad)) (bt at1))))) (λC s₂ H₂ fp=>eO))) ad))) ar))).to lq) (by walk_at "2");have k15:=F15.1.callee F15.2 ((F15.1.okF vf (k:=2) (g:=fq _) λ_ _ _ _ _ _ hr=>(ag (iK (ju (gR (cX (dj (ia aj (ae at0) bj))) (dQ (kB hr.units (dc rfl aO (ac (ae at0) ad)) ah)))) (ag (bq jS) ar) ar) (ag (bq (dL (aA k8 hr (ac (aI (ae at0) ah) (ac ah (ac (rJ (ae at2) ah) ad)))) (fX (aA k8 hr (ac (aI (ae at0) ah) (ac ah (ac (ae at1) ad))))))) ar))).to vw) (by walk_at "3");have k8m3:=k8.mono 3;have k14m3:=k14.mono 3;have k16:=F16.1.callee F16.2 ((F16.1.okF rY (k:=3) (g:=dW _ _ _) λ_ _ _ _ _ _ hr=>(ag (iK (ju (gR (cX (dj (ia aj (ae at0) bj))) (dQ (kB hr.units (dc rfl aO (ac (ae at0) ad)) ah)))) (ag (bq jS) ar) ar) (ag (cW at1 rY.nd (aI (ae at0) ah)) (ag (iK (ju (gR (cX (dj (aA k8m3 hr (ac (ae at1) (ac ah (ac (cM rfl bz) ad)))))) (dQ (cX (dj (aA k14m3 hr (ac (aI (ae at0) ah) (ac (ae at1) ad)))))))) (ag (bq jS) ar) ar) (ag (bq (aA k15 hr (ac (aI (ae at0) ah) (ac (ae at1) (ac (dc rfl aO (ac (aI (ae at0) ah) ad)) ad))))) ar))))).to tD) (by walk_at "1");have k17:=F17.1.callee F17.2 ((F17.1.okF mf (k:=4) (g:=cN _ _) λ_ _ _ _ _ _ hr=>(ag (iK (cX (dj (aA k16 hr (ac (ae at0) ad)))) (ag (ip cA hr.hd (ba (l:=[116,104,105,115,32,105,115,32,110,111,32,115,99,114,101,101,110]) rfl (by decide))) ar) ar) ar)).to mW) (by walk_at "1");have k9m5:=k9.mono 5;have k18:=F18.1.callee F18.2 ((F18.1.okF va (k:=5) (g:=hX _ _) λ_ _ _ _ _ _ hr=>(ag (ib (aA k17 hr (ac (ae at0) ad))) (ag (iK (ju (gR (cX (dj (pP aj (ae at1) cz))) (dQ (Bg (dc rfl aO (ac (ae at1) ad)) (dc rfl aO (ac (aI (ae at0) ah) ad)))))) (ag (bq jS) ar) ar) (ag (bq (AH rfl rfl ir (ac (gA (cE (N':=["row","screen"]) (ix:=[0]) dz rfl (eR (ae at1)) (λC s₂ H₂ fp=>(dL (aA k9m5 hr (ac (bt at0) ad)) (fX (HI (dc rfl aO (ac (bt at0) ad)) (aI (bt at1) ah))))) (λC s₂ H₂ fp=>eO))) ad))) ar)))).to (tfr (F:=arG _))) (by walk_at "2");have k19:=F19.1.callee F19.2 ((F19.1.okF pU (k:=6) (g:=dB _ _) λ_ _ _ _ _ _ hr=>(ag (iK (cX (dj (aA k18 hr (ac (ae at0) (ac (ae at1) ad))))) (ag (ip cA hr.hd (ba (l:=[116,104,101,115,101,32,97,114,101,32,110,111,32,114,111,119,115,32,116,104,97,116,32,116,104,101,32,115,99,114,101,101,110,32,99,97,110,32,115,104,111,119]) rfl (by decide))) ar) ar) ar)).to oJ) (by walk_at "2");have k20:=F20.1.callee F20.2 ((F20.1.okF (P:=P) (w:=w) (base:=base) rS (k:=0) (g:=gG) λ_ _ _ _ _ _ hr=>(ag (cW at2 rS.nd (aI (ae at0) ah)) (ag (cW at3 rS.nd (rJ (dc rfl aO (ac (aI (ae at0) ah) ad)) (dc rfl aO (ac (ae at1) ad)))) (ag (bq (aV (gA (cE (N':=["row","width"]) (ix:=[2]) dz rfl (eR (ae at1)) (λC s₂ H₂ fp=>(A2 (bt at0) (ac (bt at1) ad))) (λC s₂ H₂ fp=>eO))) (eM (kR (gQ (ac (eM (ba (l:=[32]) rfl (by decide)) (ae at2)) ad))) (ae at3)))) ar)))).to (tfr (F:=frG))) (by walk_at "2");have k20m7:=k20.mono 7;have k21:=F21.1.callee F21.2 ((F21.1.okF mh (k:=7) (g:=dR _ _) λ_ _ _ _ _ _ hr=>(ag (ib (aA k19 hr (ac (ae at0) (ac (ae at1) ad)))) (ag (xQ 2 mh.nd (gQ ad)) (ag (oO q8 rfl (qW rfl bf (aA k20m7 hr (ac (ae at0) (ac (ae at1) ad)))) (mz rfl (cL 3 mh.nd (cL 4 mh.nd jx))) (ag (cW at5 mh.nd (aI (aI (ae at0) ah) (ae at3))) (ag (BV 2 (gA (cE (N':=["column","number","row","own"]) (ix:=[3,4,5]) dz rfl (pW rfl dg (ac (aI (ae at0) ah) ad)) (λC s₂ H₂ fp=>(dI (ac (bt at1) (ac (bt at0) ad)))) (λC s₂ H₂ fp=>(um (kB hr.units (aI (bt at3) (bt at0)) (aI (bt at2) (bt at0)))))))) ar)) (hn:=jP _)) (uv 2 (ag (bq (ae at2)) ar)))))).to (tfr (F:=usN))) (by walk_at "2");have k30:=F30.1.callee F30.2 ((F30.1.okF (P:=P) (w:=w) (base:=base) jt (k:=0) (g:=cV) λ_ _ _ _ _ _ hr=>(ag (bq (dL (me hr.units (aI (ae at0) ah) (aI (ae at1) ah)) (fX (me hr.units (aV (aI (ae at0) ah) (aI (ae at0) ah)) (aI (ae at1) ah))))) ar)).to jB) (by walk_at "2");have k31:=F31.1.calleeN F31.2 ((AL aO k21 (k30.mono 8) F31.1).to (IK (F:=D9))) (by walk_at "2");have k32:=F32.1.callee F32.2 ((F32.1.okF jI (k:=5) (g:=cQ _ _) λ_ _ _ _ _ _ hr=>(ag (ib (aA k17 hr (ac (ae at0) ad))) (ag (ib (aA k17 hr (ac (ae at1) ad))) (ag (iK (ju (gR (kB hr.units (aI (ae at0) ah) (aI (ae at1) ah)) (dQ (kB hr.units (dc rfl aO (ac (aI (ae at0) ah) ad)) (dc rfl aO (ac (aI (ae at1) ah) ad)))))) (ag (ip cA hr.hd (ba (l:=[116,104,101,115,101,32,115,99,114,101,101,110,115,32,97,114,101,32,110,111,116,32,111,102,32,111,110,101,32,115,105,122,101]) rfl (by decide))) ar) ar) ar)))).to (tfr (F:=Kq _))) (by walk_at "2");have k33:=F33.1.calleeN F33.2 ((om bf k32 F33.1).to (IK (F:=DI _))) (by walk_at "2");have k10:=F10.1.callee F10.2 ((F10.1.okF oA (k:=1) (g:=eT _ _) λ_ _ _ _ _ _ hr=>(ag (iK (cX (dj (aA k9 hr (ac (ae at0) ad)))) (ag (ip eG hr.hd (ba (l:=[116,104,105,115,32,105,115,32,110,111,32,112,108,97,105,110,32,116,101,120,116]) rfl (by decide))) ar) ar) ar)).to (tfr (F:=Eh _))) (by walk_at "1");have k34:=F34.1.calleeN F34.2 ((ux aO k10 F34.1).to (IK (F:=Ej _))) (by walk_at "1");have k25:=F25.1.callee F25.2 ((F25.1.okF nP (k:=1) (g:=dN _) λ_ _ _ _ _ _ hr=>(ag (iK (ju (gR (cX (dj (DL aj (ae at0) cz bj))) (dQ (cX (Aa ah (dc rfl aO (ac (ae at0) ad)) (cM rfl cu)))))) (ag (bq jS) ar) ar) (ag (bq (AH rfl rfl ir (ac (gA (cE (N':=["text"]) (ix:=[]) dz rfl (eR (ae at0)) (λC s₂ H₂ fp=>(dL (aA k9 hr (ac (bt at0) ad)) (fX (HI (dc rfl aO (ac (bt at0) ad)) (cM rfl bg))))) (λC s₂ H₂ fp=>eO))) ad))) ar))).to mw) (by walk_at "1");have k26:=F26.1.calleeN F26.2 ((A8 aO AQ eG k25 F26.1).to (IK (F:=Gx _))) (by walk_at "1");have k47:=F47.1.callee F47.2 ((F47.1.okF (P:=P) (w:=w) (base:=base) ql (k:=0) (g:=fF) λ_ _ _ _ _ _ hr=>(ag (iK (tu hr.units (aI (ae at0) ah) (ba (l:=[115,97,121]) rfl (by decide))) (ag (bq (dc rfl aO (ac (aI (ae at0) ah) ad))) ar) ar) (ag (iK (tu hr.units (aI (ae at0) ah) (ba (l:=[103,111]) rfl (by decide))) (ag (bq (cM rfl eP)) ar) ar) (ag (bq (cM rfl cR)) ar)))).to (tfr (F:=ocG))) (by walk_at "1");have k57:=F57.1.callee F57.2 ((F57.1.okF (P:=P) (w:=w) (base:=base) rE (k:=0) (g:=gF) λ_ _ _ _ _ _ hr=>(ag (bq (aI (ae at0) ah)) ar)).to (tfr (F:=pcF))) (by walk_at "1");have k58:=yZ F58.1 F58.2 (BU (P:=P) (w:=w) (mg:=mg) (base:=base) k57 B4 F58.1) (by walk_at "3") (n:=2) rfl;have k59:=yZ F59.1 F59.2 (iW (P:=P) (w:=w) (mg:=mg) (base:=base) (k47.mono 2) k58 jl F59.1) (by walk_at "4") (n:=3) rfl;have k60:=F60.1.callee F60.2 (qM (P:=P) (w:=w) (base:=base) sS aP bp dJ gj aW bx aF aK k59 qV F60.1) (by walk_at "3");have k61:=F61.1.callee F61.2 (mZ (P:=P) (w:=w) (base:=base) k59 (k58.mono 3) mv F61.1) (by walk_at "3");have k62:=F62.1.callee F62.2 ((F62.1.okF Dv (k:=4) (g:=mI _ _) λ_ _ _ _ _ _ hr=>(ag (cW at5 Dv.nd (ae at0)) (ag (oO q8 rfl (AE rfl dg (ac (ae at4) (ac (dc rfl aO (ac (ae at2) ad)) ad))) (fo 6 Dv.nd) (ag (cW at5 Dv.nd (aA k61 hr (ac (aA k60 hr (ac (ae at5) (ac (ae at1) (ac (ae at6) ad)))) (ac (aI (ae at2) (ae at6)) (ac (aI (ae at3) (ae at6)) ad))))) ar)) (ag (bq (ae at5)) ar)))).to (tfr (F:=swF))) (by walk_at "5");have k63:=F63.1.callee F63.2 ((F63.1.okF (P:=P) (w:=w) (base:=base) uH (k:=2) (g:=iB _) λ_ _ _ _ _ _ hr=>(ag (bq (D6 rfl rfl rG k57 hr.in1 (gA (cE (N':=["state","plans"]) (ix:=[0]) dz rfl (eR (ae at1)) (λC s₂ H₂ fp=>(sC 1 hr.units (bt at0))) (λC s₂ H₂ fp=>(um (BX 1 hr.units (bt at0)))))))) ar)).to (tfr (F:=chF))) (by walk_at "2");have k63m5:=k63.mono 5;have k64:=F64.1.callee F64.2 ((F64.1.okF gX (k:=5) (g:=bS _ _) λ_ _ _ _ _ _ hr=>(ag (cW at3 gX.nd (aA k62 hr (ac (K8 hr.units (bb rfl aP bp) (bb rfl bB cP)) (ac (ae at0) (ac (ae at1) (ac (ae at2) (ac ah ad))))))) (ag (bq (aA k63m5 hr (ac (ae at3) (ac (dI (ac (bb rfl aP bp) (ac (bb rfl dJ gj) (ac (bb rfl aF aK) (ac (bb rfl aW bx) ad))))) ad)))) ar))).to (tfr (F:=peF))) (by walk_at "3");have k65:=F65.1.callee F65.2 ((F65.1.okF jK (k:=5) (g:=cO _ _) λ_ _ _ _ _ _ hr=>(ag (cW at4 jK.nd (aA k62 hr (ac (K8 hr.units (bb rfl dJ gj) (bb rfl bB cP)) (ac (ae at0) (ac (ae at1) (ac (ae at2) (ac (ae at3) ad))))))) (ag (cW at5 jK.nd (aA k63m5 hr (ac (ae at4) (ac (dI (ac (bb rfl aP bp) (ac (bb rfl dJ gj) (ac (bb rfl aF aK) (ac (bb rfl aW bx) ad))))) ad)))) (ag (cW at4 jK.nd (aA k62 hr (ac (K8 hr.units (bb rfl aP bp) (bb rfl bB cP)) (ac (ae at0) (ac (jG (ae at1) iL (oU (ae at3))) (ac (jG (ae at2) iL (oU (ae at3))) (ac ah ad))))))) (ag (cW at6 jK.nd (aA k63m5 hr (ac (ae at4) (ac (dI (ac (bb rfl aP bp) (ac (bb rfl dJ gj) ad))) ad)))) (ag (bq (dI (ac (aV (aI (ae at5) ah) (aI (ae at6) ah)) (ac (aV (aI (ae at5) ah) (aI (ae at6) ah)) ad)))) ar)))))).to (tfr (F:=ppF))) (by walk_at "4");have k57m5:=k57.mono 5;have k66:=F66.1.callee F66.2 ((F66.1.okF iS (k:=6) (g:=cq _ _ _) λ_ _ _ _ _ _ hr=>(ag (cW at4 iS.nd (kR (gQ (ac (aA k65 hr (ac (ae at0) (ac (ae at1) (ac (ae at2) (ac (ae at3) ad))))) (ac (aA k64 hr (ac (ae at0) (ac (ae at1) (ac (ae at2) ad)))) ad))))) (ag (bq (D6 rfl rfl rG k57m5 hr.in1 (ae at4))) ar))).to (tfr (F:=rpF))) (by walk_at "4");have k42:=F42.1.callee F42.2 ((F42.1.okF Bh (k:=1) (g:=kG _) λ_ _ _ _ _ _ hr=>(ag (bq (dL (me hr.units (dc rfl aO (ac (ae at0) ad)) ah) (dL (me hr.units (aI (ae at0) ah) (ba (l:=[115,97,121]) rfl (by decide))) (dL (aA k9 hr (ac (aI (ae at0) ah) ad)) (fX (tU ah (dc rfl aO (ac (aI (ae at0) ah) ad)) (cM rfl bH))))))) ar)).to (tfr (F:=Lw))) (by walk_at "1");have k43:=F43.1.callee F43.2 ((F43.1.okF Dx (k:=2) (g:=mj _) λ_ _ _ _ _ _ hr=>(ag (iK (ju (gR (kB hr.units (dc rfl aO (ac (ae at0) ad)) ah) (dQ (kB hr.units (aI (ae at0) ah) (ba (l:=[103,111]) rfl (by decide)))))) (ag (bq jS) ar) ar) (ag (bq (dL (aA k8 hr (ac (aI (ae at0) ah) (ac ah (ac (rJ (cM rfl bI) ah) ad)))) (fX (aA k8 hr (ac (aI (ae at0) ah) (ac ah (ac (cM rfl bz) ad))))))) ar))).to (tfr (F:=goG))) (by walk_at "1");have k42m3:=k42.mono 3;have k44:=F44.1.callee F44.2 ((F44.1.okF uC (k:=3) (g:=hY _ _) λ_ _ _ _ _ _ hr=>(ag (iK (cX (dj (ia aj (ae at0) bj))) (ag (bq jS) ar) ar) (ag (bq (HD (aA k42m3 hr (ac (ae at0) ad)) (HD (aA k43 hr (ac (ae at0) ad)) (fX (me hr.units (ae at0) (dI (ac (ba (l:=[119,105,112,101]) rfl (by decide)) ad))))))) ar))).to (tfr (F:=Ld))) (by walk_at "1");have k45:=F45.1.callee F45.2 ((F45.1.okF oM (k:=4) (g:=eY _ _) λ_ _ _ _ _ _ hr=>(ag (iK (cX (dj (aA k44 hr (ac (ae at0) ad)))) (ag (ip fZ hr.hd (ba (l:=[116,104,105,115,32,105,115,32,110,111,32,111,114,100,101,114]) rfl (by decide))) ar) ar) ar)).to (tfr (F:=ckG _))) (by walk_at "1");have k46:=F46.1.callee F46.2 ((F46.1.okF mX (k:=5) (g:=dS _ _) λ_ _ _ _ _ _ hr=>(ag (iK (cX (dj (pP aj (ae at0) cz))) (ag (ip fZ hr.hd (ba (l:=[116,104,105,115,32,105,115,32,110,111,32,108,105,115,116,32,111,102,32,111,114,100,101,114,115]) rfl (by decide))) ar) ar) (ag (oO q8 rfl (eR (ae at0)) (fo 1 mX.nd) (ag (ib (aA k45 hr (ac (ae at1) ad))) ar)) ar))).to (tfr (F:=II _))) (by walk_at "1");have k49:=F49.1.callee F49.2 ((F49.1.okF (P:=P) (w:=w) (base:=base) ky (k:=0) (g:=di) λ_ _ _ _ _ _ hr=>(ag (iK (kB hr.units (aI (ae at0) ah) (aI (ae at1) ah)) (ag (bq vX) ar) ar) (ag (iK (kB hr.units (aI (ae at0) ah) (ba (l:=[115,97,121]) rfl (by decide))) (ag (bq (ae at1)) ar) ar) (ag (cW at2 ky.nd (aV (aI (ae at0) ah) (aI (ae at1) ah))) (ag (bq (B3 (KA (dc rfl aO (ac (ae at2) ad)) (cM rfl bH)) (dI (ac (ba (l:=[115,97,121]) rfl (by decide)) (ac (ae at2) ad))) vX)) ar))))).to (tfr (F:=jnG))) (by walk_at "2");have k49m6:=k49.mono 6;have k50:=F50.1.callee F50.2 ((F50.1.okF rM (k:=6) (g:=gJ _ _) λ_ _ _ _ _ _ hr=>(ag (ib (aA k46 hr (ac (ae at0) ad))) (ag (xQ 1 rM.nd (gQ ad)) (ag (oO q8 rfl (eR (ae at0)) (fo 2 rM.nd) (ag (D1 1 3 rM.nd (B3 (Bg (dc rfl aO (ac (ae at1) ad)) ah) (aA k49m6 hr (ac (aI (ae at1) (oz ah)) (ac (ae at2) ad))) vX)) (ag (iK (KI (ae at3) vX) (ag (fy 1 (ae at2)) ar) (ag (Au 1 (ae at3) (oz ah)) ar)) ar))) (uv 1 (ag (bq (ae at1)) ar)))))).to (tfr (F:=shG _))) (by walk_at "1");have k64m7:=k64.mono 7;have k67:=F67.1.callee F67.2 ((F67.1.okF BB (k:=7) (g:=mR _ _ _ _ _) λ_ _ _ _ _ _ hr=>(ag (ib (aA k19 hr (ac (ae at0) (ac (ae at1) ad)))) (ag (cW at2 BB.nd (aA k20m7 hr (ac (ae at0) (ac (ae at1) ad)))) (ag (cW at3 BB.nd (aI (aI (ae at0) ah) ah)) (ag (xQ 4 BB.nd (oZ rfl cz (ac (aI (aA k66 hr (ac (ae at3) (ac (aI (aI (ae at0) ah) (ae at3)) (ac (aI (ae at2) (ae at3)) (ac (aI (aI (ae at0) ah) ah) ad))))) ah) ad))) (ag (oO q8 rfl (qW rfl bf (aI (ae at0) ah)) (mz rfl (cL 5 BB.nd (cL 6 BB.nd jx))) (ag (iK (kB hr.units (ae at5) (ae at3)) (ag (JE 4 (aI (aA k64m7 hr (ac (ae at5) (ac (ae at6) (ac (aI (ae at2) (ae at5)) ad)))) ah)) ar) ar) ar) (hn:=jP _)) (uv 4 (ag (bq (aA k50 hr (ac (ae at4) ad))) ar)))))))).to (tfr (F:=leF _))) (by walk_at "2");have k47m6:=k47.mono 6;have k48:=F48.1.callee F48.2 ((F48.1.okF Fp (k:=6) (g:=qK _ _) λ_ _ _ _ _ _ hr=>(ag (ib (aA k46 hr (ac (ae at0) ad))) (ag (bq (LF rfl rfl zj (ac (gA (cE (N':=["order"]) (ix:=[]) dz rfl (eR (ae at0)) (λC s₂ H₂ fp=>(aA k47m6 hr (ac (bt at0) ad))) (λC s₂ H₂ fp=>eO))) ad))) ar))).to (tfr (F:=coG _))) (by walk_at "1");have k48m8:=k48.mono 8;have k68:=F68.1.callee F68.2 ((F68.1.okF qj (k:=8) (g:=fE _ _) λ_ _ _ _ _ _ hr=>(ag (bq (aA k48m8 hr (ac (aA k67 hr (ac (ae at0) (ac (ae at1) ad))) ad))) ar)).to (tfr (F:=sW _))) (by walk_at "2");have k71_1:=qU F71_1.1 F71_1.2 (sf (P:=P) (w:=w) (mg:=mg) (base:=base) bQ GI F71_1.1) (by walk_at "1") (n:=0) rfl;have k71_2:=qU F71_2.1 F71_2.2 (si (P:=P) (w:=w) (mg:=mg) (base:=base) bQ FW F71_2.1) (by walk_at "1") (n:=0) rfl;have k71_3:=qU F71_3.1 F71_3.2 (oN (P:=P) (w:=w) (mg:=mg) (base:=base) bQ k71_2 HU F71_3.1) (by walk_at "4") (n:=3) rfl;have k71_6:=qU F71_6.1 F71_6.2 (tE (P:=P) (w:=w) (mg:=mg) (base:=base) bj k68 (k20.mono 9) bQ (k71_1.mono 9) (k71_3.mono 9) EH F71_6.1) (by walk_at "2") (n:=1) rfl;have k71_0:=mkc F71_0.1 F71_0.2 Jk bQ.ne (vo (P:=P) (w:=w) (mg:=mg) (base:=base) nV k17 bQ HJ F71_0.1) (by walk_at "2") (n:=1) rfl;exact Hz cz (k77.mono 11) (k78.mono 11) (k37.mono 11) k31 (k33.mono 9) (k34.mono 9) (k26.mono 9) (sw (P:=P) (w:=w) (base:=base) (k:=10) aj cz F79.1 F79.2) bQ (k71_6.mono 11) (k71_1.mono 11) (BQ k71_0 10) (Ge Ln) L80 F80.1
end G91
namespace PySem.W.Fast
theorem tw186993345515379485:True:=⟨⟩
theorem tw3020779299901884574:True:=⟨⟩
theorem tw6096780837828991267:True:=⟨⟩
theorem tw7006122475725650302:True:=⟨⟩
theorem tw5391979990368325416:True:=⟨⟩
theorem tw1509918966633374315:True:=⟨⟩
theorem tw7251740248098065792:True:=⟨⟩
theorem tw178228638072827234:True:=⟨⟩
theorem tw17813224541148776130:True:=⟨⟩
theorem tw15658205181764410333:True:=⟨⟩
theorem tw2063996151694391421:True:=⟨⟩
theorem tw1867343893469718349:True:=⟨⟩
theorem tw433360020728383171:True:=⟨⟩
theorem tw380459790803975696:True:=⟨⟩
theorem tw16694031032112482448:True:=⟨⟩
theorem tw6690620395788461594:True:=⟨⟩
theorem tw8813599466312404398:True:=⟨⟩
theorem tw11757824428154497834:True:=⟨⟩
theorem tw14624624777638365964:True:=⟨⟩
theorem tw8877796133681982701:True:=⟨⟩
theorem tw8886915244261170914:True:=⟨⟩
theorem tw1067389293648097281:True:=⟨⟩
theorem tw12251441882740735547:True:=⟨⟩
theorem tw5863844547127576537:True:=⟨⟩
theorem tw17762431086134548423:True:=⟨⟩
theorem tw9716750427582089286:True:=⟨⟩
theorem tw14498121851451091635:True:=⟨⟩
theorem tw9557188710961076137:True:=⟨⟩
theorem tw16981125507369276779:True:=⟨⟩
theorem tw8193468283584393794:True:=⟨⟩
theorem tw18112905566106031558:True:=⟨⟩
theorem tw17756402525647421158:True:=⟨⟩
theorem tw9193454013977007591:True:=⟨⟩
theorem tw7786845375994074572:True:=⟨⟩
theorem tw16505931040832988877:True:=⟨⟩
theorem tw11179169459706815566:True:=⟨⟩
theorem tw1500321166212633488:True:=⟨⟩
theorem tw845593229234084050:True:=⟨⟩
theorem tw10927072011630762546:True:=⟨⟩
theorem tw2376143550933725880:True:=⟨⟩
theorem tw16816260380363796730:True:=⟨⟩
theorem tw17296242701773113115:True:=⟨⟩
theorem tw7041434933124369052:True:=⟨⟩
end PySem.W.Fast
open PySem PySem.W PyProof.Rows
set_option maxRecDepth 100000 in
set_option maxHeartbeats 0 in
theorem PySem.Challenge.cw_screenlines_k91_whole_told_lists_holds : PySem.Challenge.rw_screenlines_k91_whole_told_lists.Holds := by
 w_on;o_law;k_head;(case hw=>w_witness2)
 k_fill
 refine Q.KO (l:=PySem.Challenge.rw_screenlines_k91_whole_told_lists) (L:=12) ⟨rfl,by decide,by decide⟩ rfl rfl (by decide) ?F
 case F=>
  intro w mg fa h KX G hmg;have ir:mg "all"=none:=t8 KX G (by k_is);have tJ:mg "bool"=none:=t8 KX G (by k_is);have sS:mg "dict"=none:=t8 KX G (by k_is);have bf:mg "enumerate"=none:=t8 KX G (by k_is);have ua:mg "int"=none:=t8 KX G (by k_is);have aj:mg "isinstance"=none:=t8 KX G (by k_is);have aO:mg "len"=none:=t8 KX G (by k_is);have cz:mg "list"=none:=t8 KX G (by k_is);have AQ:mg "max"=none:=t8 KX G (by k_is);have rG:mg "min"=none:=t8 KX G (by k_is);have dg:mg "range"=none:=t8 KX G (by k_is);have Ay:mg "str"=none:=t8 KX G (by k_is);have zj:mg "sum"=none:=t8 KX G (by k_is);have bj:mg "tuple"=none:=t8 KX G (by k_is);have aP:=Q.nL (x:="ELSEWHERE") KX G (by k_is) (Q.ka (vs:=[L2.V.bl false,L2.V.bl false]) (by k_is) (by decide) (.cons rfl (.cons rfl .nil)) (λ_=>(.cons (.bl _) (.cons (.bl _) .nil))));have aF:=Q.nL (x:="ELSEWHERE_WIPED") KX G (by k_is) (Q.ka (vs:=[L2.V.bl false,L2.V.bl true]) (by k_is) (by decide) (.cons rfl (.cons rfl .nil)) (λ_=>(.cons (.bl _) (.cons (.bl _) .nil))));have eP:∃t,mg "GO_COST"=some (.int 2 t):=⟨_,uF KX G (by k_is)⟩
  have dJ:=Q.nL (x:="HERE") KX G (by k_is) (Q.ka (vs:=[L2.V.bl true,L2.V.bl false]) (by k_is) (by decide) (.cons rfl (.cons rfl .nil)) (λ_=>(.cons (.bl _) (.cons (.bl _) .nil))));have aW:=Q.nL (x:="HERE_WIPED") KX G (by k_is) (Q.ka (vs:=[L2.V.bl true,L2.V.bl true]) (by k_is) (by decide) (.cons rfl (.cons rfl .nil)) (λ_=>(.cons (.bl _) (.cons (.bl _) .nil))));have bT:∃t,mg "LONGEST_RUN"=some (.int 99 t):=⟨_,uF KX G (by k_is)⟩
  have nV:∃t,mg "MADE"=some (.str "made" t):=⟨_,uF KX G (by k_is)⟩
  have cu:∃t,mg "MOST_BOXED"=some (.int 10 t):=⟨_,uF KX G (by k_is)⟩
  have bg:∃t,mg "MOST_BOXED_WIDTH"=some (.int 38 t):=⟨_,uF KX G (by k_is)⟩
  have bI:∃t,mg "MOST_ROWS"=some (.int 12 t):=⟨_,uF KX G (by k_is)⟩
  have cT:∃t,mg "MOST_RUNS"=some (.int 99 t):=⟨_,uF KX G (by k_is)⟩
  have bH:∃t,mg "MOST_SAID"=some (.int 40 t):=⟨_,uF KX G (by k_is)⟩
  have bz:∃t,mg "MOST_WIDTH"=some (.int 40 t):=⟨_,uF KX G (by k_is)⟩
  have bB:=Q.nL (x:="NO_ORDERS") KX G (by k_is) (Q.ka (vs:=[L2.V.int 0,L2.V.ref _]) (by k_is) (by decide) (.cons ⟨_,rfl⟩ (.cons rfl .nil)) (λ_=>(.cons (.int _) (.cons (Q.ka (vs:=[]) (by k_is) (by decide) .nil (λ_=>.nil) _) .nil))));have cR:∃t,mg "WIPE_COST"=some (.int 1 t):=⟨_,uF KX G (by k_is)⟩
  have h73:=Q.aL (x:="_law_cell") (st:=G91.top 73) KX G;have h74:=Q.aL (x:="_law_pick") (st:=G91.top 74) KX G;have h75:=Q.aL (x:="_law_row") (st:=G91.top 75) KX G;have h76:=Q.aL (x:="_law_screen") (st:=G91.top 76) KX G;have h77:=Q.aL (x:="_law_some") (st:=G91.top 77) KX G;have h78:=Q.aL (x:="_law_goal") (st:=G91.top 78) KX G;have h9:=Q.aL (x:="is_plain") (st:=G91.top 9) KX G;have h7:=Q.aL (x:="is_whole") (st:=G91.top 7) KX G;have h8:=Q.aL (x:="is_within") (st:=G91.top 8) KX G;have h35:=Q.aL (x:="is_run") (st:=G91.top 35) KX G;have h36:=Q.aL (x:="are_runs") (st:=G91.top 36) KX G;have h37:=Q.aL (x:="of_runs") (st:=G91.top 37) KX G;have h14:=Q.aL (x:="are_full_rows") (st:=G91.top 14) KX G;have h15:=Q.aL (x:="is_place") (st:=G91.top 15) KX G;have h16:=Q.aL (x:="is_screen") (st:=G91.top 16) KX G;have h17:=Q.aL (x:="check_screen") (st:=G91.top 17) KX G;have h18:=Q.aL (x:="are_rows") (st:=G91.top 18) KX G;have h19:=Q.aL (x:="check_rows") (st:=G91.top 19) KX G;have h20:=Q.aL (x:="full_rows") (st:=G91.top 20) KX G;have h21:=Q.aL (x:="unlike_spots") (st:=G91.top 21) KX G;have h30:=Q.aL (x:="is_right_behind") (st:=G91.top 30) KX G;have h31:=Q.aL (x:="spans") (st:=G91.top 31) KX G;have h32:=Q.aL (x:="check_same_size") (st:=G91.top 32) KX G;have h33:=Q.aL (x:="alike_rows") (st:=G91.top 33) KX G;have h10:=Q.aL (x:="check_plain") (st:=G91.top 10) KX G;have h34:=Q.aL (x:="runs_of") (st:=G91.top 34) KX G;have h25:=Q.aL (x:="can_be_boxed") (st:=G91.top 25) KX G;have h26:=Q.aL (x:="boxed") (st:=G91.top 26) KX G;have h79:=Q.aL (x:="_law_stays") (st:=G91.top 79) KX G;have h47:=Q.aL (x:="order_cost") (st:=G91.top 47) KX G;have h57:=Q.aL (x:="plan_cost") (st:=G91.top 57) KX G;have h58:=Q.aL (x:="offer") (st:=G91.top 58) KX G;have h59:=Q.aL (x:="offer_with_order") (st:=G91.top 59) KX G;have h60:=Q.aL (x:="with_moves") (st:=G91.top 60) KX G;have h61:=Q.aL (x:="stepped_over") (st:=G91.top 61) KX G;have h62:=Q.aL (x:="swept") (st:=G91.top 62) KX G;have h63:=Q.aL (x:="cheapest") (st:=G91.top 63) KX G;have h64:=Q.aL (x:="plan_from_elsewhere") (st:=G91.top 64) KX G;have h65:=Q.aL (x:="plan_from_place") (st:=G91.top 65) KX G;have h66:=Q.aL (x:="row_of_place_plan") (st:=G91.top 66) KX G;have h42:=Q.aL (x:="is_say") (st:=G91.top 42) KX G;have h43:=Q.aL (x:="is_go") (st:=G91.top 43) KX G;have h44:=Q.aL (x:="is_order") (st:=G91.top 44) KX G;have h45:=Q.aL (x:="check_order") (st:=G91.top 45) KX G;have h46:=Q.aL (x:="check_orders") (st:=G91.top 46) KX G;have h49:=Q.aL (x:="joined_or_none") (st:=G91.top 49) KX G;have h50:=Q.aL (x:="shortened") (st:=G91.top 50) KX G;have h67:=Q.aL (x:="least") (st:=G91.top 67) KX G;have h48:=Q.aL (x:="cost") (st:=G91.top 48) KX G;have h68:=Q.aL (x:="least_cost") (st:=G91.top 68) KX G;have h80:=Q.Ex (x:="law") (st:=G91.top 80) KX G (by k_is) (by k_is) (by k_is) (by k_is) (by k_is) (by rfl) (by rfl) (by rfl) (by rfl) (by rfl) (by rfl) (by decide) (by decide)
  refine' Q.NR (tq:=([(_,"law"++".<locals>."++"<lambda>")]:List (Addr×PySem.Str))) ?dl1 ?dl2 (Q.Ja h80 KX Q.IE) (G91.Hk (P:=_) (w:=w) (K:=L2.KOf KX) hmg ir tJ sS bf ua aj aO cz AQ rG dg Ay zj bj aP aF eP dJ aW bT nV cu bg bI cT bH bz bB cR ?nN ?zQz9 ?kK ?kF ?pZ ?qR ?Fy ?bQ h73 h74 h75 h76 h77 h78 h9 h7 h8 h35 h36 h37 h14 h15 h16 h17 h18 h19 h20 h21 h30 h31 h32 h33 h10 h34 h25 h26 h79 h47 h57 h58 h59 h60 h61 h62 h63 h64 h65 h66 h42 h43 h44 h45 h46 h49 h50 h67 h48 h68 ?h71_1 ?h71_2 ?h71_3 ?h71_6 ?h71_0 h80)
  all_goals (try dsimp only[L2.KOf])
  (case dl1=>decide)
  (case dl2=>decide)
  (case nN=>k_is)
  (case kK=>k_is)
  (case pZ=>k_is)
  (case zQz9=>k_exc)
  (case kF=>k_exc)
  (case qR=>k_exc)
  (case Fy=>k_is)
  (case bQ=>exact Q.AB 0 (x:="states") (Q.AB 1 (x:="taken_back") (Q.Jb (by decide) (by k_is) (by k_is) (by k_is) (by k_is)) (by decide) rfl (by k_is)) (by decide) rfl (by k_is))
  (case h71_1=>exact Q.qC (st:=(L2.bN (G91.top 71) 1)) (by k_is) (by k_is) (by k_is) (by k_is) (by k_is))
  (case h71_2=>exact Q.qC (st:=(L2.bN (G91.top 71) 2)) (by k_is) (by k_is) (by k_is) (by k_is) (by k_is))
  (case h71_3=>exact Q.qC (st:=(L2.bN (G91.top 71) 3)) (by k_is) (by k_is) (by k_is) (by k_is) (by k_is))
  (case h71_6=>exact Q.qC (st:=(L2.bN (G91.top 71) 6)) (by k_is) (by k_is) (by k_is) (by k_is) (by k_is))
  (case h71_0=>exact Q.GW (st:=(L2.bN (G91.top 71) 0)) (by k_is) (by k_is) (by k_is) (by k_is) (by k_is) (by k_is) (by k_is))
end
end
