import PyProof.Rows.All
import Wide.All
import OpenK.AllK
import Wide.FinOn
import Lean
import PyProof.EqAt
import PyProof.EqKinds
import PyProof.TupleCall
import PyProof.NeKinds
import KE.KDictOf
import PyProof.Rows.TupDisplay
import PyProof.DictItems
import KE.KPairComp
import PyProof.Draws
import KE.KTupSum
import KE.KIntText
import PyProof.Rows.Range3
import PyProof.Rows.FStr
import PyProof.StrCalls2
import PyProof.StrLawsTight
import PyProof.StrLawsIn
import PyProof.StrCalls
import KE.KLam
import KE.KMinKey
import PyProof.Rows.RuleN_abs
import PyProof.Rows.StrCut
import PySem.Challenge.RW_screenlines_k50_whole_tables
section
open PySem PySem.Spec PyProof.Rows
noncomputable def z6:=@wpAny_bind
noncomputable def z9:=@wpAny_pure
noncomputable def za:=@List.length_map
noncomputable def yo:=@Nat.le_refl
noncomputable def xw:=@List.getElem?_eq_getElem
noncomputable def xz:=@Heap.lt_size
noncomputable def xZ:=@List.getD_eq_getElem?_getD
noncomputable def w8:=@Heap.get?_push_of_some
noncomputable def w9:=@Nat.le_trans
noncomputable def v0:=@List.mem_cons
noncomputable def v4:=@List.size_toArray
noncomputable def v6:=@List.all_eq_true
noncomputable def v7:=@List.mem_map
noncomputable def v8:=@List.getElem?_map
noncomputable def v9:=@List.map_map
noncomputable def uS:=@Ne.symm
noncomputable def uV:=@Option.some.inj
noncomputable def t5:=@Nat.ne_of_lt
noncomputable def t6:=@wpS_bind
noncomputable def t7:=@wpAny_mono
noncomputable def t8:=@Heap.get?_push_size
noncomputable def t9:=@if_true
noncomputable def tv:=@List.map_cons
noncomputable def tH:=@decide_eq_false
noncomputable def tI:=@Int.toNat_natCast
noncomputable def sy:=@List.mem_nil_iff
noncomputable def sH:=@or_false
noncomputable def sI:=@Nat.lt_of_lt_of_le
noncomputable def sM:=@decide_eq_true
noncomputable def sS:=@List.mem_cons_self
noncomputable def sT:=@List.getElem?_eq_some_iff
noncomputable def r6:=@List.length_cons
noncomputable def rh:=@wpS_pure
noncomputable def rK:=@Bool.false_ne_true
noncomputable def rO:=@List.mem_cons_of_mem
noncomputable def rR:=@List.length_append
noncomputable def qd:=@if_false
noncomputable def qC:=@wpAny_field
noncomputable def p6:=@Heap.size_push
noncomputable def p7:=@List.all_map
noncomputable def p9:=@Option.map_some
noncomputable def pN:=@sizeLine_eq
noncomputable def pQ:=@PySem.W.mg_none_of
noncomputable def pX:=@Bool.false_and
noncomputable def o5:=@List.length_replicate
noncomputable def o7:=@Bool.and_eq_true
noncomputable def o8:=@List.replicate_succ
noncomputable def o9:=@Nat.not_lt
noncomputable def oz:=@wpAny_seqItems
noncomputable def oB:=@List.mem_range
noncomputable def oG:=@List.getElem_mem
noncomputable def oH:=@List.lookup_cons
noncomputable def oR:=@Nat.zero_le
noncomputable def n0:=@congrArg
noncomputable def n8:=@List.getElem?_set_self
noncomputable def nE:=@Array.length_toList
noncomputable def nR:=@PySem.W.mg_of
noncomputable def nT:=@Heap.SameBut.update
noncomputable def mz:=@wpAny_newObj_type
noncomputable def mE:=@Bool.and_false
noncomputable def mG:=@Bool.true_and
noncomputable def mH:=@List.map_congr_left
noncomputable def mK:=@Nat.lt_irrefl
noncomputable def mO:=@List.getElem?_set_ne
noncomputable def mP:=@List.append_nil
noncomputable def mW:=@List.mem_of_getElem?
noncomputable def l5:=@List.foldl_cons
noncomputable def l7:=@List.getElem?_range
noncomputable def l9:=@List.mem_singleton
noncomputable def lB:=@Nat.ne_of_gt
noncomputable def lE:=@List.mem_append_right
noncomputable def lH:=@wpAny_call_entry
noncomputable def lN:=@call_meets
noncomputable def lQ:=@List.length_singleton
noncomputable def lT:=@wpAny_rule
noncomputable def k6:=@wpAny_truthy_bool
noncomputable def k7:=@List.nodup_cons
noncomputable def k8:=@PySem.mem_of_lookup
noncomputable def k9:=@wpAny_holding
noncomputable def kY:=@wpAny_callSpecial?_slot
noncomputable def j0:=@List.flatten_cons
noncomputable def j3:=@List.map_nil
noncomputable def j4:=@List.all_cons
noncomputable def j5:=@Int.toNat_of_nonneg
noncomputable def j6:=@List.nil_append
noncomputable def j7:=@wpAny_of_eq
noncomputable def j8:=@List.sum_cons
noncomputable def j9:=@F.slot_tuple_iterator_next
noncomputable def i4:=@beq_eq_false_iff_ne
noncomputable def i5:=@wpAny_passesOwn
noncomputable def i6:=@List.getElem?_append_right
noncomputable def i7:=@List.getElem?_replicate
noncomputable def i8:=@List.getElem?_append_left
noncomputable def i9:=@typeIs_int
noncomputable def io:=@List.append_assoc
noncomputable def iF:=@List.forIn_cons
noncomputable def iN:=@of_decide_eq_true
noncomputable def iO:=@wpAny_attempt
noncomputable def fV:=@wpAny_updateSeq
noncomputable def e8:=@Nat.zero_add
noncomputable def eQ:=@Array.getElem?_toList
noncomputable def d3:=@Bool.and_true
noncomputable def d4:=@decide_eq_true_eq
noncomputable def d5:=@PassesOwn.leaving
noncomputable def d6:=@List.mem_append
noncomputable def d7:=@List.length_take
noncomputable def d8:=@List.length_drop
noncomputable def d9:=@eq_of_beq
noncomputable def dO:=@IsTup.new
noncomputable def c0:=@codeAny_mono
noncomputable def c7:=@Bool.false_eq_true
noncomputable def c8:=@Nat.lt_succ_self
noncomputable def c9:=@wpAny_call
noncomputable def b6:=@wpAny_onRaise
noncomputable def b7:=@List.forIn_nil
noncomputable def b8:=@wpS_forRange
noncomputable def b9:=@Nat.le_of_lt
noncomputable def bY:=@List.of_mem_zip
noncomputable def aT:=@tupleItemsOf_
noncomputable def Z0:=@wpAny_typeOf
noncomputable def Z1:=@List.map_append
noncomputable def Z2:=@List.drop_zero
noncomputable def Z4:=@List.getElem?_eq_none
noncomputable def Z5:=@List.getElem?_set
noncomputable def Z6:=@Nat.le_succ
noncomputable def Z7:=@beq_iff_eq
noncomputable def Z8:=@List.getElem?_cons_succ
noncomputable def Z9:=@wpAny_setField_rec
noncomputable def Za:=@List.length_range
noncomputable def Zb:=@Array.toList_zip
noncomputable def Zc:=@get?_update_seq
noncomputable def Zd:=@Nat.le_succ_of_le
noncomputable def Ze:=@List.length_nil
noncomputable def Zf:=@List.mem_append_left
noncomputable def Zg:=@wpAny_execs_nil
noncomputable def Zh:=@List.mem_filterMap
noncomputable def Zi:=@wpAny_Call_Name_kw
noncomputable def Zj:=@Heap.get?_update_self
noncomputable def Zk:=@F.slot_int_rmul
noncomputable def Zl:=@Nat.mul_comm
noncomputable def Zm:=@wpAny_getItem_str_slice
noncomputable def Zn:=@post_val_or_str
noncomputable def Zo:=@Txt.slice_le
noncomputable def Zp:=@wpAny_pyIter_list
noncomputable def Zq:=@wpAny_pyIter_tuple
noncomputable def Zr:=@Option.some.injEq
noncomputable def Zs:=@wpAny_standAt
noncomputable def Zt:=@Nat.lt_succ_of_lt
noncomputable def Zu:=@List.drop_eq_getElem_cons
noncomputable def Zv:=@List.drop_length
noncomputable def Zw:=@lookup_relabel_local
noncomputable def Zx:=@wpAny_comprehension_free
noncomputable def Zy:=@PySem.F.plainAttrs_list
noncomputable def Zz:=@List.getElem?_toArray
noncomputable def ZA:=@beq_self_eq_true
noncomputable def ZB:=@List.map_inj_left
noncomputable def ZC:=@F.entry_tuple_iterator_next
noncomputable def ZD:=@F.args_tuple_iterator_next_1
noncomputable def ZE:=@wpAny_setField
noncomputable def ZF:=@Obj.data_mapFields
noncomputable def ZG:=@Nat.lt_or_ge
noncomputable def ZH:=@wpAny_pyIter_enum
noncomputable def ZI:=@F.slot_zip_next
noncomputable def ZJ:=@wpAny_letGo
noncomputable def ZK:=@wpS_reverse
noncomputable def ZL:=@mirror_perm
noncomputable def ZM:=@Array.size_map
noncomputable def ZN:=@wpAny_newList
noncomputable def ZO:=@List.all_nil
noncomputable def ZP:=@List.all_eq_false
noncomputable def ZQ:=@List.all_append
noncomputable def ZR:=@List.filterMap_cons
noncomputable def ZS:=@wpAny_assign_Name
noncomputable def ZT:=@noFill_tuple_add
noncomputable def ZU:=@List.length_set
noncomputable def ZV:=@List.getElem_toArray
noncomputable def ZW:=@List.getElem?_drop
noncomputable def ZX:=@List.take_length
noncomputable def ZY:=@PySem.W.of_hideAll
noncomputable def ZZ:=@wpAny_ite_false
noncomputable def Y0:=@F.slot_tuple_mul
noncomputable def Y1:=@F.entry_tuple_mul
noncomputable def Y2:=@F.args_tuple_mul_2
noncomputable def Y3:=@List.mem_toArray
noncomputable def Y4:=@List.getElem_map
noncomputable def Y5:=@Option.bind_some
noncomputable def Y6:=@PySem.F.plainAttrs_str
noncomputable def Y7:=@wpAny_loadPart'
noncomputable def Y8:=@wpAny_nextOf_list_end
noncomputable def Y9:=@List.take_of_length_le
noncomputable def Ya:=@Int.eq_ofNat_of_zero_le
noncomputable def Yb:=@Array.toList_append
noncomputable def Yc:=@Classical.choose_spec
noncomputable def Yd:=@Array.getElem?_eq_getElem
noncomputable def Ye:=@Heap.size_update
noncomputable def Yf:=@PySem.W.Looks.of_pure
noncomputable def Yg:=@List.ext_getElem
noncomputable def Yh:=@List.set_cons_succ
noncomputable def Yi:=@List.flatMap_cons
noncomputable def Yj:=@Calls.Name_function_global
noncomputable def Yk:=@PyProof.Rows.slot_tuple_getitem
noncomputable def Yl:=@List.eq_nil_of_length_eq_zero
noncomputable def Yn:=@PyProof.Rows.callWith_type1
end
set_option Elab.async false
set_option linter.all false
set_option maxRecDepth 100000
noncomputable section
variable{us its:List Value}{x y qual y0 y1 y2 y3:Str}{a it f C Pt aI aS ao aw aj aZ aF:Addr}{P:Program}{h h':Heap}{p spos:Pos}{t' i j c k n nrem:Nat}{ch fp rs:List Addr}{E:Value->Shared->Prop}{s' s:Shared}{pins:List (Addr×Obj)}{es:List Expr}{tg iter tgt:Expr}{body:List Stmt}{fd:FuncData}{ps loose l N' ss:List Str}{scope:Scope}{cd cdv oc:Value}{an od:Option Addr}{osl:Array (Option Value)}{ws ix is:List Nat}{st:Stmt}{m:Str->Option Value}{fz:Bool}{ts:List (Str×Addr)}
namespace L2
open PySem PySem.Spec PyProof.Rows
noncomputable abbrev Key:=Sum Int Str
noncomputable def Fl:Key->Value->Bool
 |.inl k,v=>Value.isInt k v
 |.inr x,v=>Value.isStrOf x v
noncomputable def Kk(w:World):Key->Int
 |.inl k=>hashInt k
 |.inr x=>hashStr w x
def cm:∀{k:Key}{v:Value},Fl k v=true->(∃i t,k=Sum.inl i/\v=Value.int i t)\/(∃x t,k=Sum.inr x/\v=Value.str x t)
 |.inl i,v,h=>by obtain⟨t,e⟩:=Value.isInt_shape (k:=i) (v:=v) h;exact .inl ⟨i,t,rfl,e⟩
 |.inr x,v,h=>by obtain⟨t,e⟩:=Value.isStrOf_shape (x:=x) (v:=v) h;exact .inr ⟨x,t,rfl,e⟩
def Fm(a b:Int):decide ((Sum.inl a:Key)=Sum.inl b)=(a==b):=by
 by_cases e:a=b;·subst e;simp
 ·have h : ¬ (Sum.inl a:Key)=Sum.inl b:=λq=>e (Sum.inl.inj q);rw[tH h];exact(i4.mpr e).symm
def F7(a b:Str):decide ((Sum.inr a:Key)=Sum.inr b)=decide (a=b):=by
 by_cases e:a=b;·subst e;simp
 ·have h : ¬ (Sum.inr a:Key)=Sum.inr b:=λq=>e (Sum.inr.inj q);rw[tH h,tH e]
def EY(a:Int)(b:Str):decide ((Sum.inl a:Key)=Sum.inr b)=false:=tH (λq=>nomatch q)
def Fh(a:Str)(b:Int):decide ((Sum.inr a:Key)=Sum.inl b)=false:=tH (λq=>nomatch q)
noncomputable def tz(prog:Program)(w:World):PySem.KeyKind prog w Key where
 is:=Fl
 hash:=Kk w
 inj:=λv a b ha hb=>by
  rcases cm ha with⟨i,t,rfl,rfl⟩|⟨x,t,rfl,rfl⟩
  ·rcases cm hb with⟨j,u,rfl,e⟩|⟨y,u,rfl,e⟩;·injection e with e1 _;rw[e1]
   ·exact nomatch e
  ·rcases cm hb with⟨j,u,rfl,e⟩|⟨y,u,rfl,e⟩;·exact nomatch e
   ·injection e with e1 _;rw[e1]
 byValue:=λk v h=>by rcases cm h with⟨i,t,rfl,rfl⟩|⟨x,t,rfl,rfl⟩ <;> rfl
 pyHash:=λhv h=>by
  rcases cm hv with⟨i,t,rfl,rfl⟩|⟨x,t,rfl,rfl⟩;·exact wpAny_pyHash_int h
  ·exact wpAny_pyHash_str h
 eqBool:=λhu hv h=>by
  rcases cm hu with⟨i,t,rfl,rfl⟩|⟨x,t,rfl,rfl⟩
  ·rcases cm hv with⟨j,u,rfl,rfl⟩|⟨y,u,rfl,rfl⟩;·rw[Fm]at h;exact wpAny_eqBool_int h
   ·rw[EY]at h;exact SeqAt.EqAt.int_str i t y u _ _ _ _ h
  ·rcases cm hv with⟨j,u,rfl,rfl⟩|⟨y,u,rfl,rfl⟩;·rw[Fh]at h;exact SeqAt.EqAt.str_int x t j u _ _ _ _ h
   ·rw[F7]at h;exact wpAny_eqBool_str h
 «strs»:=λk x t v h=>by
  rcases cm h with⟨i,u,rfl,e⟩|⟨y,u,rfl,e⟩;·exact nomatch e
  ·injection e with e1 _;subst e1;cases v <;> rfl
inductive V where
 |non|bl (b:Bool)|int (i:Int)|str (x:Str)|byt (b:Array UInt8)|flt (b:UInt64)|ref (a:Addr)|ty (n:String)
 deriving DecidableEq
noncomputable def RelV:V->Value->Prop
 |.non,u=>u=Value.none
 |.bl b,u=>u=Value.bool b
 |.int i,u=>∃t,u=Value.int i t
 |.str x,u=>∃t,u=Value.str x t
 |.byt b,u=>∃t,u=Value.bytes b t
 |.flt b,u=>∃t,u=Value.float b t
 |.ref a,u=>u=Value.ref a
 |.ty n,u=>u=Value.type n
noncomputable abbrev Vals:List V->List Value->Prop:=Paired RelV
def Vals.length{xs:List V}(r:Vals xs us):xs.length=us.length:=Paired.length r
theorem Vals.get:∀{xs:List V}{us:List Value}{i:Nat}{x:V},Vals xs us->xs[i]?=some x->∃u,us[i]?=some u/\RelV x u
 |_,_,_,_,.nil,e=>by simp at e
 |_,_,0,_,.cons r _,e=>by simp at e;subst e;exact⟨_,rfl,r⟩
 |_,_,i+1,x,.cons _ t,e=>by obtain⟨u,h1,h2⟩:=Vals.get (i:=i) (x:=x) t (by simpa using e);exact⟨u,by simpa using h1,h2⟩
theorem Vals.set{x:V}{u:Value}(r:RelV x u):∀{xs:List V}{us:List Value}(i:Nat),Vals xs us->Vals (xs.set i x) (us.set i u)
 |_,_,_,.nil=>.nil
 |_,_,0,.cons _ t=>.cons r t
 |_,_,i+1,.cons q t=>.cons q (Vals.set r i t)
theorem Vals.append:∀{xs ys:List V}{us ws:List Value},Vals xs us->Vals ys ws->Vals (xs++ys) (us++ws)
 |_,_,_,_,.nil,s=>s
 |_,_,_,_,.cons r t,s=>.cons r (Vals.append t s)
theorem Vals.take:∀{xs:List V}{us:List Value}(n:Nat),Vals xs us->Vals (xs.take n) (us.take n)
 |_,_,0,_=>.nil
 |_,_,_+1,.nil=>.nil
 |_,_,n+1,.cons r t=>.cons r (Vals.take n t)
theorem Vals.drop:∀{xs:List V}{us:List Value}(n:Nat),Vals xs us->Vals (xs.drop n) (us.drop n)
 |_,_,0,r=>r
 |_,_,_+1,.nil=>.nil
 |_,_,n+1,.cons _ t=>Vals.drop n t
noncomputable def Jz:Option V->Option Value->Prop
 |some v,some u=>RelV v u
 |none,none=>True
 |_,_=>False
noncomputable def KV{κ:Type}:List (κ×V)->List (κ×Value)->Prop:=Paired λ(p:κ×V) (q:κ×Value)=>p.1=q.1/\RelV p.2 q.2
noncomputable def kV:Key->V
 |.inl i=>.int i
 |.inr x=>.str x
inductive HO where
  |lst (xs : List V)
  |tup (xs : List V)
  |dK (kvs : List (Key × V))|dT (kvs : List (List Key × V))
  |set (S : Int -> Bool) (n : Nat)
  |ins (C dx : Addr) (fs : List (Str × V))
  |own (x : Addr)
  |xd (fs : List (Str × V))
  |met (f x : Addr)
  |rng (lo hi : Int)
  |frz (o : Obj) (u : HO)
  |tbl (ps : Array Value)
  |ext (φ : Heap -> Prop)

noncomputable abbrev Hp:=Addr->Option HO
noncomputable def upd(H:Hp)(a:Addr)(o:HO):Hp:=λb=>if b=a then some o else H b
def ba{H:Hp}{o:HO}:upd H a o a=some o:=by unfold upd;rw[if_pos rfl]
def aQ{H:Hp}{b:Addr}{o:HO}(h:b≠a):upd H a o b=H b:=by unfold upd;rw[if_neg h]
def aL{H:Hp}{b:Addr}{o:HO}(h:H a=some o)(h':H b=none):a≠b:=by intro e;subst e;rw[h]at h';cases h'
noncomputable def xS(ps:Array Value):Str:=match ps.toList with
 |.str q _::_=>q
 |_=>Str.empty
section
variable(P:Program)(w:World)
noncomputable def ObjOk(H:Hp)(h:Heap)(a:Addr):HO->Prop
 |.lst xs=>xs.length<=sizeLine/\∃(its:List Value)(n:Nat),Vals xs its/\h.get? a=some { cls:=.type "list",data:=.seq its.toArray n }
 |.tup xs=>xs.length<=sizeLine/\∃its:List Value,Vals xs its/\IsTup h a its.toArray
 |.dK kvs=>kvs.length<=sizeLine/\(a==sysModules)=false/\∃vs,KV kvs vs/\h.DictOf (tz P w) a vs
 |.dT kvs=>kvs.length<=sizeLine/\(a==sysModules)=false/\∃xs:List (List Key×Addr×Value),
   Paired (λ(p:List Key×V) (q:List Key×Addr×Value)=>p.1=q.1/\H q.2.1=some (.tup (p.1.map kV))/\RelV p.2 q.2.2) kvs xs/\
   ∃o es ep,h.get? a=some o/\o.ExactDict/\o.data=.dict es ep/\es.toList=xs.map (entryOfKey (tupleKind (tz P w)))/\(xs.map (·.1)).Nodup
 |.set S n=>h.SetOf (intKind P w) a S n
 |.ins C dx fs=>H dx=some (.own a)/\fs.length<=1000/\dx≠a/\h.get? a=some (W.instObj C dx)/\
   ∃mA,h.Ns1 dx mA/\(∀f,Jz (fs.lookup f) (mA f))/\PySem.Within mA (fs.map (·.1))
 |.own _=>∃o,h.get? a=some o
 |.xd fs=>∃mA,h.Ns1 a mA/\∀f,Jz (fs.lookup f) (mA f)
 |.rng lo hi=>∃t u v,h.get? a=some { cls:=.type "range",data:=.fields #[.int lo t,.int hi u,.int 1 v] }
 |.frz o u=>h.get? a=some o/\ObjOk H h a u
 |.tbl ps=>∃qs:Array Value,h.get? a=some { cls:=.none,data:=.fields qs }/\TriplesOk qs.toList/\∀(pos:Pos)(cv:Value),codeAmong pos qs.toList=some cv->∃c o vs t,cv=.ref c/\H c=some (.frz o (.own a))/\o.data=.fields vs/\vs[1]?=some (.str (xS ps) t)
 |.met f x=>h.get? a=some (W.methodObj (.ref f) (.ref x))
 |.ext φ=>φ h/\(∃o,h.get? a=some o)/\∀h1 h2:Heap,φ h1->(∀o,h1.get? a=some o->h2.get? a=some o)->φ h2
noncomputable def HOk(H:Hp)(h:Heap):Prop:=∀a o,H a=some o->ObjOk P w H h a o
end
section
variable{w:World}{H H':Hp}{o:HO}
def ObjOk.lt(x:ObjOk P w H h a o):a<h.objs.size:=by
 cases o with
 |lst xs=>obtain⟨_,_,_,_,e⟩:=x;exact xz e
 |tup xs=>obtain⟨_,_,_,p⟩:=x;exact p.lt
 |dK kvs=>obtain⟨_,_,_,_,o,_,_,e,_⟩:=x;exact xz e
 |dT kvs=>obtain⟨_,_,_,_,o,_,_,e,_⟩:=x;exact xz e
 |set S n=>obtain⟨o,_,_,_,e,_⟩:=x;exact xz e
 |ins C dx fs=>obtain⟨_,_,_,e,_⟩:=x;exact xz e
 |own y=>obtain⟨_,e⟩:=x;exact xz e
 |xd fs=>obtain⟨_,⟨_,_,_,e,_⟩,_⟩:=x;exact xz e
 |rng lo hi=>obtain⟨_,_,_,e⟩:=x;exact xz e
 |frz ob u=>obtain⟨e,_⟩:=x;exact xz e
 |tbl ps=>obtain⟨_,e,_⟩:=x;exact xz e
 |met f y=>exact xz (show h.get? a=some _ from x)
 |ext φ=>obtain⟨_,⟨_,e⟩,_⟩:=x;exact xz e
theorem Paired.mapP{α β:Type}{F G:α->β->Prop}:∀{l₁:List α}{l₂:List β},Paired F l₁ l₂->(∀a b,F a b->G a b)->Paired G l₁ l₂
 |_,_,.nil,_=>.nil
 |_,_,.cons r t,f=>.cons (f _ _ r) (Paired.mapP t f)
def ObjOk.stay(x:ObjOk P w H h a o)(k:∀b u,(b=a\/H b=some (.own a))->h.get? b=some u->h'.get? b=some u)(ho:∀b,H b=some (.own a)->H' b=some (.own a))(ht:∀b xs,H b=some (.tup xs)->H' b=some (.tup xs))(hz:∀b o u,H b=some (.frz o u)->H' b=some (.frz o u):=by exact λ_ _ _ q=>q):ObjOk P w H' h' a o:=by
 induction o with
 |lst xs=>obtain⟨z,its,n,r,e⟩:=x;exact⟨z,its,n,r,k _ _ (.inl rfl) e⟩
 |tup xs=>obtain⟨z,its,r,ob,e,c⟩:=x;exact⟨z,its,r,ob,k _ _ (.inl rfl) e,c⟩
 |dK kvs=>obtain⟨z,y,vs,r,ob,es,ep,e,c⟩:=x;exact⟨z,y,vs,r,ob,es,ep,k _ _ (.inl rfl) e,c⟩
 |dT kvs=>obtain⟨z,y,xs,r,ob,es,ep,e,c⟩:=x;exact⟨z,y,xs,Paired.mapP r λp q z=>⟨z.1,ht _ _ z.2.1,z.2.2⟩,ob,es,ep,k _ _ (.inl rfl) e,c⟩
 |set S n=>obtain⟨ob,es,ep,t,e,c⟩:=x;exact⟨ob,es,ep,t,k _ _ (.inl rfl) e,c⟩
 |ins C dx fs=>obtain⟨d,z,ne,e,mA,⟨od,es,ep,e2,c⟩,r⟩:=x;exact⟨ho _ d,z,ne,k _ _ (.inl rfl) e,mA,⟨od,es,ep,k _ _ (.inr d) e2,c⟩,r⟩
 |own y=>obtain⟨ob,e⟩:=x;exact⟨ob,k _ _ (.inl rfl) e⟩
 |xd fs=>obtain⟨mA,⟨od,es,ep,e,c⟩,r⟩:=x;exact⟨mA,⟨od,es,ep,k _ _ (.inl rfl) e,c⟩,r⟩
 |rng lo hi=>obtain⟨t,u,v,e⟩:=x;exact⟨t,u,v,k _ _ (.inl rfl) e⟩
 |frz ob u ih=>obtain⟨e,q⟩:=x;exact⟨k _ _ (.inl rfl) e,ih q⟩
 |tbl ps=>obtain⟨qs,e,tr,c⟩:=x;refine⟨qs,k _ _ (.inl rfl) e,tr,λpos cv q=>?_⟩;obtain⟨c',o',vs,tk,e1,e2,e3⟩:=c pos cv q;exact⟨c',o',vs,tk,e1,hz _ _ _ e2,e3⟩
 |met f y=>have e:h.get? a=some (W.methodObj (.ref f) (.ref y)):=x;show h'.get? a=some (W.methodObj (.ref f) (.ref y));exact k a _ (.inl rfl) e
 |ext φ=>obtain⟨p,⟨o,e⟩,st⟩:=x;exact⟨st _ _ p λo q=>k _ _ (.inl rfl) q,⟨o,k _ _ (.inl rfl) e⟩,st⟩
def HOk.lt(x:HOk P w H h)(e:H a=some o):a<h.objs.size:=(x a o e).lt
def HOk.fresh(x:HOk P w H h)(e:h.objs.size<=a):H a=none:=by
 cases q:H a with
 |none=>rfl
 |some u=>exact absurd (sI (x.lt q) e) (mK _)
def HOk.kept(x:HOk P w H h)(k:∀b u,h.get? b=some u->h'.get? b=some u):HOk P w H h':=λa o e=>(x a o e).stay (λb u _ q=>k b u q) (λ_ q=>q) λ_ _ q=>q
def HOk.laid(x:HOk P w H h)(k:∀b u,h.get? b=some u->h'.get? b=some u)(hp:h.objs.size<=a)(new:ObjOk P w (upd H a o) h' a o):HOk P w (upd H a o) h':=λb u e=>by
 have hn:=x.fresh hp;by_cases hb:b=a;·subst hb;rw[ba]at e;cases e;exact new
 ·rw[aQ hb]at e;exact(x b u e).stay (λc v _ q=>k c v q) (λc q=>by rw[aQ (aL q hn)];exact q) (λc xs q=>by rw[aQ (aL q hn)];exact q) λc ob u q=>by rw[aQ (aL q hn)];exact q
end
noncomputable def Rd(H:Hp)(a:Addr)(u:HO):Prop:=H a=some u\/∃o,H a=some (.frz o u)
def Rd.ok{w:World}{H:Hp}{u:HO}(r:Rd H a u)(x:HOk P w H h):ObjOk P w H h a u:=by
 rcases r with r|⟨o,r⟩;·exact x a u r
 ·obtain⟨_,q⟩:=x a _ r;exact q
noncomputable def Mut:Option HO->Prop
 |some (.lst _)=>True
 |some (.dK _)=>True
 |some (.dT _)=>True
 |some (.set _ _)=>True
 |some (.ins _ _ _)=>True
 |some (.ext _)=>True
 |_=>False
section
variable{w:World}{H:Hp}{x e:Addr}{o':HO}
def HOk.write(ok:HOk P w H h)(mu:Mut (H x))(he:e=x\/H e=some (.own x))(k:∀b u,b≠e->h.get? b=some u->h'.get? b=some u)(heo:∃u,h'.get? e=some u)(new:ObjOk P w (upd H x o') h' x o'):HOk P w (upd H x o') h':=λb u q=>by
 have nown:∀c y,H c=some (.own y)->c≠x:=λc y r z=>by subst z;rw[r]at mu;exact mu
 have ntup:∀c xs,H c=some (.tup xs)->c≠x:=λc xs r z=>by subst z;rw[r]at mu;exact mu
 have nfrz:∀c ob u,H c=some (.frz ob u)->c≠x:=λc ob u r z=>by subst z;rw[r]at mu;exact mu
 by_cases hb:b=x;·subst hb;rw[ba]at q;cases q;exact new
 ·rw[aQ hb]at q;by_cases hbe:b=e
  ·have q':H b=some (.own x):=by
    rcases he with z|z;·exact absurd (hbe.trans z) hb
    ·rw[hbe];exact z
   rw[q]at q';cases q';obtain⟨v,hv⟩:=heo;exact⟨v,by rw[hbe];exact hv⟩
  ·refine(ok b u q).stay (λc v hc r=>k c v ?_ r) (λc r=>by rw[aQ (nown c b r)];exact r) (λc xs r=>by rw[aQ (ntup c xs r)];exact r) λc ob u r=>by rw[aQ (nfrz c ob u r)];exact r
   rcases hc with rfl|hc;·exact hbe
   ·rintro rfl;rcases he with z|z;·exact nown c b hc z
    ·rw[hc]at z;cases z;exact hb rfl
end
structure Un(fs ex:List Addr)(H H':Hp)(h h':Heap):Prop where
 keep:∀b o,h.get? b=some o->H b=none->b∉fs->b∉ex->h'.get? b=some o
 slot:∀b o,h.get? b=some o->H b=none->b∈fs->b∉ex->∃sl,h'.get? b=some { o with slots:=sl }
 free:∀b o,h.get? b=some o->H b=none->b∉ex->H' b=none
 there:∀b o,h.get? b=some o->b∉ex->∃o',h'.get? b=some o'
 tups:∀b xs,H b=some (.tup xs)->H' b=some (.tup xs)
 frzs:∀b o u,H b=some (.frz o u)->H' b=some (.frz o u)
 tbls:∀b ps,H b=some (.tbl ps)->∃more,H' b=some (.tbl (ps++more))
section
variable{fs fs' ex ex':List Addr}{H H1 H2:Hp}{h1 h2:Heap}{x e:Addr}{o:HO}
def Un.any(u:Un fs ex H H1 h h1){b:Addr}{ob:Obj}(q:h.get? b=some ob)(n:H b=none)(hx:b∉ex):∃sl,h1.get? b=some { ob with slots:=sl }:=by
 by_cases hb:b∈fs;·exact u.slot b ob q n hb hx
 ·exact⟨ob.slots,u.keep b ob q n hb hx⟩
def Un.kept(k:∀b u,h.get? b=some u->h'.get? b=some u):Un fs ex H H h h':=
 ⟨λb ob q _ _ _=>k b ob q,λb ob q _ _ _=>⟨ob.slots,k b ob q⟩,λ_ _ _ n _=>n,λb ob q _=>⟨ob,k b ob q⟩,λ_ _ q=>q,λ_ _ _ q=>q,λ_ ps q=>⟨#[],by rw[q];simp⟩⟩
def Un.refl:Un fs ex H H h h:=Un.kept λ_ _ q=>q
def Un.laid(k:∀b u,h.get? b=some u->h'.get? b=some u)(hp:h.objs.size<=a)(hn:H a=none):Un fs ex H (upd H a o) h h' where
 keep:=λb u q _ _ _=>k b u q
 slot:=λb u q _ _ _=>⟨u.slots,k b u q⟩
 free:=λb u q n _=>by rw[aQ (t5 (sI (xz q) hp))];exact n
 there:=λb u q _=>⟨u,k b u q⟩
 tups:=λb xs q=>by rw[aQ (aL q hn)];exact q
 frzs:=λb u xs q=>by rw[aQ (aL q hn)];exact q
 tbls:=λb ps q=>⟨#[],by rw[aQ (aL q hn),q];simp⟩
def Un.write(mu:Mut (H x))(he:e=x\/H e=some (.own x))(k:∀b u,b≠e->h.get? b=some u->h'.get? b=some u)(heo:∃u,h'.get? e=some u):Un fs ex H (upd H x o) h h':=by
 have hx:∀b,H b=none->b≠x:=λb n z=>by subst z;rw[n]at mu;exact mu
 have hb:∀b,H b=none->b≠e:=λb n z=>by
  subst z;rcases he with r|r;·exact hx b n r
  ·rw[n]at r;cases r
 have hm:∀b u,H b=some u->¬ Mut (some u)->b≠x:=λb u q nm z=>by subst z;rw[q]at mu;exact nm mu
 refine⟨λb u q n _ _=>k b u (hb b n) q,λb u q n _ _=>⟨u.slots,k b u (hb b n) q⟩,λb u q n _=>by rw[aQ (hx b n)];exact n,λb u q _=>?_,
  λb xs q=>by rw[aQ (hm b _ q λz=>z)];exact q,λb u xs q=>by rw[aQ (hm b _ q λz=>z)];exact q,λb ps q=>⟨#[],by rw[aQ (hm b _ q λz=>z),q];simp⟩⟩;by_cases hbe:b=e;·subst hbe;exact heo
 ·exact⟨u,k b u hbe q⟩
end
noncomputable def A7:HO->Value
 |.tbl ps=>if ps.size=1 then ps.getD 0 .none else .none
 |_=>.none
noncomputable def C8(H:Hp)(b:Addr)(o:Obj):Obj:=match H b with
 |none=>(match o.data with|.freed=>⟨.none,none,.freed,#[]⟩|_=>o)
 |some u=>⟨A7 u,none,.freed,#[]⟩
noncomputable def uG(h:Heap)(H:Hp):Heap:=⟨h.objs.mapIdx λb o=>C8 H b o,h.life⟩
def wg(h:Heap)(H:Hp):(uG h H).objs.size=h.objs.size:=Array.size_mapIdx
def get_objs{b:Addr}{o:Obj}:h.get? b=some o ↔ h.objs[b]?=some o/\o.data≠.freed:=by
 unfold Heap.get?;constructor
 ·intro e;split at e;·cases e
  ·rename_i z;refine⟨e,λq=>?_⟩;obtain⟨a,b,c,d⟩:=o;cases q;exact z _ _ _ e
 ·rintro ⟨e,n⟩;rw[e];obtain⟨a,b,c,d⟩:=o;split;·rename_i q;cases q;exact absurd rfl n
  ·rfl
def jr(h:Heap)(H:Hp)(b:Addr):(uG h H).objs[b]?=(h.objs[b]?).map (C8 H b):=Array.getElem?_mapIdx
def Ai{H:Hp}{b:Addr}{o:Obj}(e:h.get? b=some o)(n:H b=none):(uG h H).get? b=some o:=by
 obtain⟨e1,e2⟩:=get_objs.1 e;have z:C8 H b o=o:=by unfold C8;rw[n];cases q:o.data <;> first|rfl|exact absurd q e2
 exact get_objs.2 ⟨by rw[jr,e1,p9,z],e2⟩
def Cb{H:Hp}{b:Addr}{o:Obj}(e:(uG h H).get? b=some o):h.get? b=some o/\H b=none:=by
 obtain⟨e1,e2⟩:=get_objs.1 e;rw[jr]at e1;cases q:h.objs[b]? with
 |none=>rw[q]at e1;cases e1
 |some o'=>
  rw[q,p9]at e1;have e1:=uV e1;unfold C8 at e1;cases hq:H b with
  |none=>
   rw[hq]at e1;dsimp only at e1;split at e1;·rw[<- e1]at e2;exact absurd rfl e2
   ·exact⟨get_objs.2 ⟨by rw[q,e1],e2⟩,rfl⟩
  |some u=>rw[hq]at e1;dsimp only at e1;rw[<- e1]at e2;exact absurd rfl e2
noncomputable def vG(base:Heap)(p:Addr)(q:Str):Prop:=base.objs[p]?=some ⟨.str q 0,none,.freed,#[]⟩
noncomputable def TabsIn(base:Heap)(H:Hp):Prop:=∀p q,vG base p q->∃more,H p=some (.tbl (#[.str q 0]++more))
def yQ{H:Hp}{p:Addr}{q:Str}{o:Obj}(e:h.objs[p]?=some o)(t:H p=some (.tbl #[.str q 0])):vG (uG h H) p q:=by unfold vG;rw[jr,e,p9];unfold C8;rw[t];rfl
def xY(h : Heap)(H : Hp): TabsIn (uG h H) H := λp q e => by
  unfold vG at e;rw[jr]at e;cases z : h.objs[p]? with
  |none => rw[z]at e; cases e
  |some o =>
    rw[z, p9]at e;have e := uV e;unfold C8 at e;cases hq : H p with
    |none =>
      rw[hq]at e;dsimp only at e;split at e;· cases e
      · rename_i n; rw[e]at n; exact absurd rfl n
    |some u =>
      rw[hq]at e;have e := n0 Obj.cls e;cases u with
      |tbl ps =>
        dsimp only[A7]at e;split at e
        · rename_i n;refine⟨#[], ?_⟩;obtain⟨l⟩ := ps
          match l, n with
          | [v], _ => have : v = .str q 0 := e
                      rw[this]; rfl
        · cases e
      |_ => cases e
def TabsIn.un{base:Heap}{fs ex:List Addr}{H H':Hp}(t:TabsIn base H)(u:Un fs ex H H' h h'):TabsIn base H':=λp q e=>by obtain⟨m1,z⟩:=t p q e;obtain⟨m2,z⟩:=u.tbls p _ z;exact⟨m1++m2,by rw[z,Array.append_assoc]⟩
noncomputable def Dv(g h:Heap)(L:Addr):List (Addr×Obj):=(List.range h.objs.size).filterMap λa=>if a=L\/(g.get? a).isSome=true then none else (h.get? a).map λo=>(a,o)
noncomputable def fS(g h:Heap)(L d:Addr):List (Addr×Obj):=(Dv g h L).filter λp=>decide (p.1≠d)
end L2
variable{xs vs:List L2.V}{H H' G G₀:L2.Hp}{o:L2.HO}{v:L2.V}{sq:L2.Hp->List L2.V->Prop}
namespace L2
open PySem PySem.Spec PyProof.Rows
structure Mod(K:W.Frag)(mg:Str->Option Value)(base:Heap):Prop where
 kin:K.In base
 glob:base.Ns mainGlobals mg
 blt:∃mb,base.Ns builtinsNs mb/\∀x:Str,x≠"__name__"->mb x=bootBuiltins x
 nolimit:base.NoLimit
structure Cx where
 prog:Program
 w:World
 K:W.Frag
 mg:Str->Option Value
 base:Heap
 A:Around
 N:List Str
 s₀:Shared
 H₀:Hp
 env:Env
 outer:List Env
 stack:List Env
 ex:List Addr
 fn:Str->Bool
 calm:Bool
 pn:List (Addr×Obj)
 xe:Value->Shared->Prop
noncomputable def frs(l:List Env):List Addr:=l.filterMap (·.frame)
noncomputable abbrev Cx.fs(X:Cx):List Addr:=frs X.outer
noncomputable def Vis(sc:Scope)(x:Str):Prop:=sc.names.lookup x=some .local\/sc.names.lookup x=some .cell\/sc.names.lookup x=some .free
noncomputable def Loc(sc:Scope)(x:Str):Prop:=sc.names.lookup x=some .local\/sc.names.lookup x=some .cell
noncomputable def Jr(env:Env)(h:Heap)(m:Str->Option Value)(x:Str)(u:Value):Prop:=
 (env.kindOf x=some .local/\m x=some u)\/((env.kindOf x=some .cell\/env.kindOf x=some .free)/\∃c,env.cells.lookup x=some c/\h.IsCell c (some u))
structure Cx.Ok(X:Cx):Prop where
 mod:Mod X.K X.mg X.base
 kind:X.env.scope.kind=.function
 glob:X.env.globals=mainGlobals
 blt:X.env.builtins=builtinsNs
 above:X.s₀.heap.objs.size<=X.env.locals
 inj:∀x y c,X.env.cells.lookup x=some c->X.env.cells.lookup y=some c->x=y
 has:∀x,(X.env.kindOf x=some .cell\/X.env.kindOf x=some .free)->∃c,X.env.cells.lookup x=some c
 cab:∀x c,X.fn x=true->X.env.cells.lookup x=some c->X.s₀.heap.objs.size<=c
 hd:X.calm=true->X.A.handled=none
 frames:X.A.frames=some X.stack
 stk:X.stack=X.outer\/(X.stack=X.env::X.outer/\X.env.frame=some X.env.locals)
 exf:∀b∈X.ex,b≠X.env.locals/\∀x c,X.env.cells.lookup x=some c->c≠b
 bs:∀b o,X.base.get? b=some o->X.s₀.heap.get? b=some o/\X.H₀ b=none
 bsz:X.base.objs.size<=X.s₀.heap.objs.size
 noex:∀b o,X.base.get? b=some o->b∉X.ex
 exfs:∀b∈X.ex,b∉X.fs
 funs:X.s₀.heap.FunFrames X.base X.outer
 frf:∀b∈X.fs,X.H₀ b=none
 tabs:TabsIn X.base X.H₀
structure Inv(X:Cx)(pins:List (Addr×Obj))(σ:List (Option V))(H:Hp)(s:Shared):Prop where
 ok:X.Ok
 os:s.os=X.s₀.os
 bare:AllBare s.gens
 base:Un X.fs X.ex X.H₀ H X.s₀.heap s.heap
 loc:∃m,s.heap.Ns X.env.locals m/\∀(i:Nat)(x:Str)(v:V),X.N[i]?=some x->σ[i]?=some (some v)->Vis X.env.scope x->∃u,RelV v u/\Jr X.env s.heap m x u
 cell:∀x c,X.env.cells.lookup x=some c->∃v,s.heap.IsCell c v
 free:H X.env.locals=none
 freeC:∀x c,X.env.cells.lookup x=some c->H c=none
 pin:∀p∈X.pn++pins,s.heap.get? p.1=some p.2/\H p.1=none/\p.1≠X.env.locals/\p.1∉X.fs/\∀v,p.2.data≠.cell v
 hok:HOk X.prog X.w H s.heap
 len:σ.length=X.N.length
section
variable{X:Cx}{σ:List (Option V)}
def Cx.Ok.nofr(ok:X.Ok){b:Addr}{o:Obj}(e:X.base.get? b=some o):b∉X.fs:=λhb=>by have:=(ok.funs.mem hb).1;rw[e]at this;cases this
def Inv.bs(I:Inv X pins σ H s):∀b o,X.base.get? b=some o->s.heap.get? b=some o/\H b=none:=λb o e=>⟨I.base.keep b o (I.ok.bs b o e).1 (I.ok.bs b o e).2 (I.ok.nofr e) (I.ok.noex b o e),I.base.free b o (I.ok.bs b o e).1 (I.ok.bs b o e).2 (I.ok.noex b o e)⟩
def Inv.bk(I:Inv X pins σ H s):∀b o,X.base.get? b=some o->s.heap.get? b=some o:=λb o e=>(I.bs b o e).1
def Inv.mod(I:Inv X pins σ H s):Mod X.K X.mg X.base:=I.ok.mod
def Inv.kIn(I:Inv X pins σ H s):X.K.In s.heap:=I.ok.mod.kin.keeps I.bk
def Inv.nolimit(I:Inv X pins σ H s):s.heap.NoLimit:=I.ok.mod.nolimit.keeps I.bk
def Inv.lt(I:Inv X pins σ H s):X.env.locals<s.heap.objs.size:=let⟨_,hn,_⟩:=I.loc;hn.lt
def Inv.sz(I:Inv X pins σ H s):X.s₀.heap.objs.size<=s.heap.objs.size:=w9 I.ok.above (b9 I.lt)
def Inv.nofs(I:Inv X pins σ H s)(h:s.heap.objs.size<=a):a∉X.fs:=λhb=>by obtain⟨_,o,ho,_⟩:=I.ok.funs.mem hb;exact absurd (sI (xz ho) (w9 I.sz h)) (mK _)
def Inv.cne(I:Inv X pins σ H s):∀x c,X.env.cells.lookup x=some c->c≠X.env.locals:=λx c e z=>by obtain⟨v,o,ho,hd⟩:=I.cell x c e;obtain⟨m,⟨o',es,ep,ho',hd',_⟩,_⟩:=I.loc;rw[z,ho']at ho;cases ho;rw[hd']at hd;cases hd
def Inv.funs(I:Inv X pins σ H s):s.heap.FunFrames X.base X.outer:=by
 have all:∀(l:List Env),(∀b∈frs l,b∈X.fs)->X.s₀.heap.FunFrames X.base l->s.heap.FunFrames X.base l:=by
  intro l;induction l with
  |nil=>intro _ _;trivial
  |cons env r ih=>intro hs hl;obtain⟨hk,⟨L,o,hf,hn,ho,hd⟩,hr⟩:=hl;have hL:L∈X.fs:=hs L (by unfold frs;rw[List.filterMap_cons,hf];exact List.mem_cons_self);obtain⟨sl,e⟩:=I.base.slot L o ho (I.ok.frf L hL) hL λz=>I.ok.exfs L z hL;exact⟨hk,⟨L,_,hf,hn,e,hd⟩,ih (λb hb=>hs b (by unfold frs;rw[List.filterMap_cons,hf];exact List.mem_cons_of_mem _ hb)) hr⟩
 exact all X.outer (λ_ hb=>hb) I.ok.funs
def Inv.stack(I:Inv X pins σ H s):s.heap.FunFrames X.base X.stack:=by
 rcases I.ok.stk with e|⟨e,hf⟩;·rw[e];exact I.funs
 ·rw[e];obtain⟨m,hn,_⟩:=I.loc;refine .cons (by rw[I.ok.kind];decide) hf hn ?_ I.funs;exact Heap.get?_none_of_le (w9 I.ok.bsz I.ok.above)
def Inv.stkSub(I:Inv X pins σ H s):∀b∈frs X.stack,b∈X.env.locals::X.fs:=λb hb=>by
 rcases I.ok.stk with e|⟨e,hf⟩;·rw[e]at hb;exact rO _ hb
 ·rw[e]at hb;unfold frs at hb;rw[ZR,hf]at hb;exact hb
def Inv.stkFree(I:Inv X pins σ H s):∀b∈frs X.stack,H b=none:=λb hb=>by
 rcases v0.mp (I.stkSub b hb)with e|hb;·rw[e];exact I.free
 ·obtain⟨_,o,ho,_⟩:=I.ok.funs.mem hb;exact I.base.free b o ho (I.ok.frf b hb) λz=>I.ok.exfs b z hb
def Inv.step{g':Array GenState}{t':Nat}{d':Drawn}(I:Inv X pins σ H s)(hch:∀b∈ch,(b∈X.ex\/X.s₀.heap.objs.size<=b)/\b≠X.env.locals/\(∀x c,X.env.cells.lookup x=some c->c≠b)/\∀p∈X.pn++pins,p.1≠b)(keep:∀b o,b≠X.env.locals->b∉X.fs->b∉ch->s.heap.get? b=some o->H b=none->h'.get? b=some o)(slot:∀b o,b≠X.env.locals->b∈X.fs->b∉ch->s.heap.get? b=some o->H b=none->∃sl,h'.get? b=some { o with slots:=sl })(free:∀b o,b∉ch->s.heap.get? b=some o->H b=none->H' b=none)(there:∀b o,b∉ch->s.heap.get? b=some o->∃o',h'.get? b=some o')(tups:∀b xs,H b=some (.tup xs)->H' b=some (.tup xs))(frzs:∀b o u,H b=some (.frz o u)->H' b=some (.frz o u))(tbls:∀b ps,H b=some (.tbl ps)->∃more,H' b=some (.tbl (ps++more)))(ns:∀m,s.heap.Ns X.env.locals m->h'.Ns X.env.locals m)(hok:HOk X.prog X.w H' h')(hg:AllBare g'):
  Inv X pins σ H' { s with heap:=h',gens:=g',drawn:=d',toks:=t' }:=by
 have neL:∀b o,X.s₀.heap.get? b=some o->b≠X.env.locals:=λb o e=>t5 (sI (xz e) I.ok.above);have neC:∀b o,X.s₀.heap.get? b=some o->b∉X.ex->b∉ch:=λb o e hx hb=>by
  rcases (hch b hb).1 with z|z;·exact hx z
  ·exact absurd (sI (xz e) z) (mK _)
 have cellK:∀x c,X.env.cells.lookup x=some c->∀v,s.heap.IsCell c v->h'.IsCell c v:=λx c e v ⟨o,ho,hd⟩=>by
  have nch:c∉ch:=λz=>(hch c z).2.2.1 x c e rfl;by_cases hc:c∈X.fs;·obtain⟨sl,q⟩:=slot c o (I.cne x c e) hc nch ho (I.freeC x c e);exact⟨_,q,hd⟩
  ·exact⟨o,keep c o (I.cne x c e) hc nch ho (I.freeC x c e),hd⟩
 refine⟨I.ok,I.os,hg,⟨λb o e n hb hx=>?_,λb o e n hb hx=>?_,λb o e n hx=>?_,λb o e hx=>?_,λb xs e=>tups b xs (I.base.tups b xs e),λb o xs e=>frzs b o xs (I.base.frzs b o xs e),λb ps e=>?_⟩,?_,λx c e=>?_,?_,λx c e=>?_,λp hp=>?_,hok,I.len⟩;·exact keep b o (neL b o e) hb (neC b o e hx) (I.base.keep b o e n hb hx) (I.base.free b o e n hx)
 ·obtain⟨sl,e1⟩:=I.base.slot b o e n hb hx;obtain⟨sl',e2⟩:=slot b _ (neL b o e) hb (neC b o e hx) e1 (I.base.free b o e n hx);exact⟨sl',e2⟩
 ·obtain⟨o',e1⟩:=I.base.there b o e hx;exact free b o' (neC b o e hx) e1 (I.base.free b o e n hx)
 ·obtain⟨o',e1⟩:=I.base.there b o e hx;exact there b o' (neC b o e hx) e1
 ·obtain⟨m1,e1⟩:=I.base.tbls b ps e;obtain⟨m2,e2⟩:=tbls b _ e1;exact⟨m1++m2,by rw[e2,Array.append_assoc]⟩
 ·obtain⟨m,hn,hl⟩:=I.loc;refine⟨m,ns m hn,λi x v e1 e2 e3=>?_⟩;obtain⟨u,r,l⟩:=hl i x v e1 e2 e3;refine⟨u,r,?_⟩;rcases l with l|⟨k,c,e,z⟩;·exact .inl l
  ·exact .inr ⟨k,c,e,cellK x c e _ z⟩
 ·obtain⟨v,z⟩:=I.cell x c e;exact⟨v,cellK x c e v z⟩
 ·obtain⟨m,⟨o,_,_,ho,_⟩,_⟩:=I.loc;exact free _ o (λz=>(hch _ z).2.1 rfl) ho I.free
 ·obtain⟨v,o,ho,hd⟩:=I.cell x c e;exact free c o (λz=>(hch c z).2.2.1 x c e rfl) ho (I.freeC x c e)
 ·obtain⟨e,n,ne,nf,d⟩:=I.pin p hp;have nch:p.1∉ch:=λz=>(hch p.1 z).2.2.2 p hp rfl;exact⟨keep p.1 p.2 ne nf nch e n,free p.1 p.2 nch e n,ne,nf,d⟩
def Inv.un{t':Nat}(I:Inv X pins σ H s)(u:Un X.fs [] H H' s.heap h')(hok:HOk X.prog X.w H' h'):Inv X pins σ H' { s with heap:=h',toks:=t' }:=by obtain⟨m,⟨o,es,ep,ho,r⟩,_⟩:=id I.loc;obtain⟨sl,hL⟩:=u.any ho I.free (by simp);exact I.step (g':=s.gens) (d':=s.drawn) (ch:=[]) (λ_ z=>nomatch z) (λb o _ hb _ e n=>u.keep b o e n hb (by simp)) (λb o _ hb _ e n=>u.slot b o e n hb (by simp)) (λb o _ e n=>u.free b o e n (by simp)) (λb o _ e=>u.there b o e (by simp)) u.tups u.frzs u.tbls (λm' hm=>by obtain⟨o',es',ep',ho',r'⟩:=hm;rw[ho]at ho';cases ho';exact⟨_,es',ep',hL,r'⟩) hok I.bare
def Inv.call{g':Array GenState}{t':Nat}{d':Drawn}(I:Inv X pins σ H s)(u:Un (frs X.stack) ch H H' s.heap h')(hok:HOk X.prog X.w H' h')(hg:AllBare g')(hch:∀b∈ch,(b∈X.ex\/X.s₀.heap.objs.size<=b)/\b≠X.env.locals/\(∀x c,X.env.cells.lookup x=some c->c≠b)/\∀p∈X.pn++pins,p.1≠b):
  Inv X pins σ H' { s with heap:=h',gens:=g',drawn:=d',toks:=t' }:=by
 obtain⟨m,⟨o,es,ep,ho,r⟩,_⟩:=id I.loc;obtain⟨sl,hL⟩:=u.any ho I.free λz=>(hch _ z).2.1 rfl;exact I.step (ch:=ch) hch (λb o hL hb hc e n=>u.keep b o e n (λz=>(v0.mp (I.stkSub b z)).elim hL hb) hc) (λb o _ _ hc e n=>u.any e n hc) (λb o hc e n=>u.free b o e n hc) (λb o hc e=>u.there b o e hc) u.tups u.frzs u.tbls (λm' hm=>by obtain⟨o',es',ep',ho',r'⟩:=hm;rw[ho]at ho';cases ho';exact⟨_,es',ep',hL,r'⟩) hok hg
def Inv.turned{t':Nat}(I:Inv X pins σ H s)(k:∀b o,b≠it->s.heap.get? b=some o->h'.get? b=some o)(hn:H it=none)(hL:it≠X.env.locals)(h1:it∈X.ex\/X.s₀.heap.objs.size<=it)(h2:∀x c,X.env.cells.lookup x=some c->c≠it)(h3:∀p∈X.pn++pins,p.1≠it):Inv X pins σ H { s with heap:=h',toks:=t' }:=by
 have nit:∀b u,H b=some u->b≠it:=λb u e z=>by rw[z,hn]at e;cases e
 refine I.step (g':=s.gens) (d':=s.drawn) (ch:=[it]) (λb hb=>?_) (λb o _ _ hc e _=>k b o (λz=>hc (by simp[z])) e) (λb o _ _ hc e _=>⟨o.slots,k b o (λz=>hc (by simp[z])) e⟩) (λ_ _ _ _ n=>n)
  (λb o hc e=>⟨o,k b o (λz=>hc (by simp[z])) e⟩) (λ_ _ e=>e) (λ_ _ _ e=>e) (λb ps e=>⟨#[],by rw[e];simp⟩) (λm hm=>?_) (λb u e=>?_) I.bare
 ·have e:b=it:=by simpa using hb
  subst e;exact⟨h1,hL,h2,h3⟩
 ·obtain⟨o,es,ep,ho,r⟩:=hm;exact⟨o,es,ep,k _ o (uS hL) ho,r⟩
 ·refine(I.hok b u e).stay (λc v hc q=>k c v ?_ q) (λ_ q=>q) λ_ _ q=>q;rcases hc with z|z;·rw[z];exact nit b u e
  ·exact nit c _ z
def Inv.tok(I:Inv X pins σ H s)(t:Nat):Inv X pins σ H { s with toks:=t }:=I.un (h':=s.heap) (t':=t) Un.refl I.hok
def Inv.kept{t':Nat}(I:Inv X pins σ H s)(k:∀b u,s.heap.get? b=some u->h'.get? b=some u):Inv X pins σ H { s with heap:=h',toks:=t' }:=I.un (Un.kept k) (I.hok.kept k)
def Inv.laid{t':Nat}(I:Inv X pins σ H s)(k:∀b u,s.heap.get? b=some u->h'.get? b=some u)(hp:s.heap.objs.size<=a)(new:ObjOk X.prog X.w (upd H a o) h' a o):
  Inv X pins σ (upd H a o) { s with heap:=h',toks:=t' }:=I.un (Un.laid k hp (I.hok.fresh hp)) (I.hok.laid k hp new)
def Inv.write{x e:Addr}{t':Nat}(I:Inv X pins σ H s)(mu:Mut (H x))(he:e=x\/H e=some (.own x))(k:∀b u,b≠e->s.heap.get? b=some u->h'.get? b=some u)(heo:∃u,h'.get? e=some u)(new:ObjOk X.prog X.w (upd H x o) h' x o):Inv X pins σ (upd H x o) { s with heap:=h',toks:=t' }:=I.un (Un.write mu he k heo) (I.hok.write mu he k heo new)
def Inv.pins_of{pins':List (Addr×Obj)}(I:Inv X pins σ H s)(h:∀p∈pins',s.heap.get? p.1=some p.2/\H p.1=none/\p.1≠X.env.locals/\p.1∉X.fs/\∀v,p.2.data≠.cell v):Inv X pins' σ H s:=
 ⟨I.ok,I.os,I.bare,I.base,I.loc,I.cell,I.free,I.freeC,λp hp=>(d6.mp hp).elim (λz=>I.pin p (Zf _ z)) (h p),I.hok,I.len⟩
def oU{N:List Str}(hN:N.Nodup)(a:N[i]?=some x)(b:N[j]?=some x):i=j:=by obtain⟨h1,e1⟩:=sT.mp a;obtain⟨h2,e2⟩:=sT.mp b;exact(List.getElem_inj hN).mp (e1.trans e2.symm)
def gZ{M:Model}{A:Around}{u:Value}{Q:Unit->Shared->Prop}(I:Inv X pins σ H s)(hN:X.N.Nodup)(hi:X.N[i]?=some x)(hx:Loc X.env.scope x)(r:RelV v u)(h:∀s',Inv X pins (σ.set i (some v)) H s'->(∃a,Heap.SameBut a s.heap s'.heap/\(a=X.env.locals\/X.env.cells.lookup x=some a))->Q () s')(hf:X.fn x=true\/X.env.scope.names.lookup x=some .local:=by first|exact .inl rfl|exact .inr rfl|assumption):wpAny M A (storeName X.env x u) Q E s:=by
 obtain⟨m,hn,hl⟩:=id I.loc;have hcls:(X.env.scope.kind==.class || (X.env.scope.kind==.module && X.env.locals != X.env.globals))=false:=by rw[I.ok.kind];rfl
 have hiσ:i<σ.length:=by rw[I.len];exact(sT.mp hi).1
 have cne:=I.cne;have tracked:∀{a:Addr}{h':Heap},(∃o,s.heap.get? a=some o/\H a=none)->Heap.SameBut a s.heap h'->HOk X.prog X.w H h':=λ{a h'} ha hs b ob e=>by
  obtain⟨_,_,hfree⟩:=ha;refine(I.hok b ob e).stay (λc w' hc q=>(hs.2 c ?_).trans q) (λ_ q=>q) λ_ _ q=>q;rintro rfl;rcases hc with rfl|hc;·rw[hfree]at e;cases e
  ·rw[hfree]at hc;cases hc
 rcases hx with hk|hk
 ·refine wpAny_storeName_local hk hn (λh' hn' hs=>?_) hcls;obtain⟨oL,_,_,hoL,_⟩:=id hn;refine h _ ⟨I.ok,I.os,I.bare,⟨λb o e n hb hx=>?_,λb o e n hb hx=>?_,I.base.free,λb o e hx=>?_,I.base.tups,I.base.frzs,I.base.tbls⟩,⟨_,hn',λj y v' e1 e2 e3=>?_⟩,λy c e=>?_,I.free,I.freeC,λp hp=>?_,tracked ⟨oL,hoL,I.free⟩ hs,by simpa using I.len⟩ ⟨_,hs,.inl rfl⟩;·exact(hs.2 b (t5 (sI (xz e) I.ok.above))).trans (I.base.keep b o e n hb hx)
  ·obtain⟨sl,e1⟩:=I.base.slot b o e n hb hx;exact⟨sl,(hs.2 b (t5 (sI (xz e) I.ok.above))).trans e1⟩
  ·obtain⟨o',e1⟩:=I.base.there b o e hx;exact⟨o',(hs.2 b (t5 (sI (xz e) I.ok.above))).trans e1⟩
  ·by_cases hj:j=i;·subst hj;rw[hi]at e1;cases e1;rw[n8 hiσ]at e2;cases e2;exact⟨u,r,.inl ⟨hk,by simp⟩⟩
   ·rw[mO (uS hj)]at e2;obtain⟨u',r',q⟩:=hl j y v' e1 e2 e3;refine⟨u',r',?_⟩;rcases q with⟨k,e⟩|⟨k,c,e,z⟩
    ·refine .inl ⟨k,?_⟩;have:y≠x:=λe=>hj (oU hN e1 (e▸hi));simp[this,e]
    ·exact .inr ⟨k,c,e,z.sameBut hs (cne y c e)⟩
  ·obtain⟨w',z⟩:=I.cell y c e;exact⟨w',z.sameBut hs (cne y c e)⟩
  ·obtain⟨e,n,ne,nf,d⟩:=I.pin p hp;exact⟨(hs.2 p.1 ne).trans e,n,ne,nf,d⟩
 ·have hfn:X.fn x=true:=by
   rcases hf with z|z;·exact z
   ·rw[z]at hk;cases hk
  obtain⟨c,hc⟩:=I.ok.has x (.inl hk);obtain⟨w',z⟩:=I.cell x c hc;refine wpAny_storeName_cell I.ok.kind hk hc z (λh' hc' hs=>?_);obtain⟨oc,hoc,hocd⟩:=id z;refine h { s with heap:=h' } ⟨I.ok,I.os,I.bare,⟨λb o e n hb hx=>?_,λb o e n hb hx=>?_,I.base.free,λb o e hx=>?_,I.base.tups,I.base.frzs,I.base.tbls⟩,⟨m,hn.sameBut hs (uS (cne x c hc)),λj y v' e1 e2 e3=>?_⟩,λy c' e=>?_,I.free,I.freeC,λp hp=>?_,tracked ⟨oc,hoc,I.freeC x c hc⟩ hs,by simpa using I.len⟩ ⟨c,hs,.inr hc⟩;·exact(hs.2 b (t5 (sI (xz e) (I.ok.cab x c hfn hc)))).trans (I.base.keep b o e n hb hx)
  ·obtain⟨sl,e1⟩:=I.base.slot b o e n hb hx;exact⟨sl,(hs.2 b (t5 (sI (xz e) (I.ok.cab x c hfn hc)))).trans e1⟩
  ·obtain⟨o',e1⟩:=I.base.there b o e hx;exact⟨o',(hs.2 b (t5 (sI (xz e) (I.ok.cab x c hfn hc)))).trans e1⟩
  ·by_cases hj:j=i;·subst hj;rw[hi]at e1;cases e1;rw[n8 hiσ]at e2;cases e2;exact⟨u,r,.inr ⟨.inl hk,c,hc,hc'⟩⟩
   ·rw[mO (uS hj)]at e2;obtain⟨u',r',q⟩:=hl j y v' e1 e2 e3;refine⟨u',r',?_⟩;rcases q with q|⟨k,c',e,z'⟩;·exact .inl q
    ·refine .inr ⟨k,c',e,z'.sameBut hs ?_⟩;rintro rfl;exact hj (oU hN e1 (I.ok.inj _ _ _ e hc▸hi))
  ·by_cases hcc:c'=c;·subst hcc;exact⟨_,hc'⟩
   ·obtain⟨w2,z2⟩:=I.cell y c' e;exact⟨w2,z2.sameBut hs hcc⟩
  ·obtain⟨e,n,ne,nf,d⟩:=I.pin p hp;refine⟨(hs.2 p.1 ?_).trans e,n,ne,nf,d⟩;intro q;rw[q,hoc]at e;have q':oc=p.2:=uV e;exact d w' (by rw[<- q'];exact hocd)
def nV{M:Model}{A:Around}{u:Value}{Q:Unit->Shared->Prop}(I:Inv X pins σ H s)(hN:X.N.Nodup)(hi:X.N[i]?=some x)(hx:Loc X.env.scope x)(r:RelV v u)(h:∀s',Inv X pins (σ.set i (some v)) H s'->Q () s')(hf:X.fn x=true\/X.env.scope.names.lookup x=some .local:=by first|exact .inl rfl|exact .inr rfl|assumption):wpAny M A (storeName X.env x u) Q E s:=
 gZ I hN hi hx r (λs' I' _=>h s' I') hf
def Inv.call'(I:Inv X pins σ H s)(ho:s'.os=s.os)(u:Un (frs X.stack) ch H H' s.heap s'.heap)(hok:HOk X.prog X.w H' s'.heap)(hg:AllBare s'.gens)(hch:∀b∈ch,(b∈X.ex\/X.s₀.heap.objs.size<=b)/\b≠X.env.locals/\(∀x c,X.env.cells.lookup x=some c->c≠b)/\∀p∈X.pn++pins,p.1≠b):Inv X pins σ H' s':=by
 obtain⟨h',g',d',t',o'⟩:=s';have e:o'=s.os:=ho;subst e;exact I.call (g':=g') (t':=t') (d':=d') u hok hg hch
end
noncomputable abbrev XK:=Value->Option Addr->Hp->Prop
noncomputable abbrev St:=List (Option V)
noncomputable abbrev VK:=V->Hp->Prop
noncomputable abbrev TE:=St->Hp->VK->Prop
noncomputable abbrev TT:=St->Hp->(Bool->Hp->Prop)->Prop
noncomputable abbrev TA:=St->Hp->(List V->Hp->Prop)->Prop
structure Ends where
 nx:St->Hp->Prop
 rt:VK
 bk:St->Hp->Prop:=λ_ _=>False
 ct:St->Hp->Prop:=λ_ _=>False
noncomputable abbrev TS:=Ends->St->Hp->Prop
noncomputable def EP(X:Cx)(pins:List (Addr×Obj))(σ:St)(Q:VK)(u:Value)(s':Shared):Prop:=∃v H',Inv X pins σ H' s'/\RelV v u/\Q v H'
noncomputable def TP(X:Cx)(pins:List (Addr×Obj))(σ:St)(Q:Bool->Hp->Prop)(b:Bool)(s':Shared):Prop:=∃H',Inv X pins σ H' s'/\Q b H'
noncomputable def AP(X:Cx)(pins:List (Addr×Obj))(σ:St)(Q:List V->Hp->Prop)(us:List Value)(s':Shared):Prop:=∃vs H',Inv X pins σ H' s'/\Vals vs us/\Q vs H'
noncomputable def SP(X:Cx)(pins:List (Addr×Obj))(D:Ends)(f:Flow)(s':Shared):Prop:=
 match f with
 |.next=>∃σ' H',Inv X pins σ' H' s'/\D.nx σ' H'
 |.brk=>∃σ' H',Inv X pins σ' H' s'/\D.bk σ' H'
 |.cont=>∃σ' H',Inv X pins σ' H' s'/\D.ct σ' H'
 |.ret u=>∃v σ' H',Inv X pins σ' H' s'/\RelV v u/\D.rt v H'
noncomputable def PE(X:Cx)(e:Expr)(t:TE):Prop:=
 ∀(pins:List (Addr×Obj))(s:Shared)(σ:St)(H:Hp)(Q:VK),Inv X pins σ H s->t σ H Q->wpAny (model X.prog X.w) X.A (eval e X.env) (EP X pins σ Q) X.xe s
noncomputable def PT(X:Cx)(e:Expr)(t:TT):Prop:=
 ∀(pins:List (Addr×Obj))(s:Shared)(σ:St)(H:Hp)(Q:Bool->Hp->Prop),Inv X pins σ H s->t σ H Q->wpAny (model X.prog X.w) X.A (isTrue e X.env (eval e X.env)) (TP X pins σ Q) X.xe s
noncomputable def PW(X:Cx)(e:Expr)(t:TT):Prop:=
 ∀(whole:Sem Value)(pins:List (Addr×Obj))(s:Shared)(σ:St)(H:Hp)(Q:Bool->Hp->Prop),Inv X pins σ H s->t σ H Q->wpAny (model X.prog X.w) X.A (isTrue e X.env whole) (TP X pins σ Q) X.xe s
noncomputable def PA(X:Cx)(es:List Expr)(t:TA):Prop:=
 ∀(pos:Pos)(pins:List (Addr×Obj))(s:Shared)(σ:St)(H:Hp)(Q:List V->Hp->Prop),Inv X pins σ H s->t σ H Q->wpAny (model X.prog X.w) X.A (spliced (backTo pos (starEach es X.env))) (AP X pins σ Q) X.xe s
noncomputable def PS(X:Cx)(st:Stmt)(t:TS):Prop:=
 ∀(pins:List (Addr×Obj))(s:Shared)(σ:St)(H:Hp)(D:Ends),Inv X pins σ H s->t D σ H->wpAny (model X.prog X.w) X.A (exec st X.env) (SP X pins D) X.xe s
noncomputable def PSs(X:Cx)(st:List Stmt)(t:TS):Prop:=
 ∀(pins:List (Addr×Obj))(s:Shared)(σ:St)(H:Hp)(D:Ends),Inv X pins σ H s->t D σ H->wpAny (model X.prog X.w) X.A (execs st X.env) (SP X pins D) X.xe s
def thn{α:Type}{t:Sem α}{Q Q':α->Shared->Prop}{M:Model}{A:Around}(h:wpAny M A t Q E s)(hQ:∀a s,Q a s->Q' a s):wpAny M A t Q' E s:=t7 h hQ λ_ _ x=>x
end L2
variable{σ:L2.St}{X:L2.Cx}
namespace L2
open PySem PySem.Spec PyProof.Rows
section
noncomputable def JT(i:Nat):TE:=λσ H Q=>∃v,σ[i]?=some (some v)/\Q v H
noncomputable def tC(v:V):TE:=λ_ H Q=>Q v H
def tQ{pos:Pos}(hN:X.N[i]?=some x)(hv:Vis X.env.scope x)(hd:(x==("__debug__":Str))=false:=by decide)(hcd:(x==("__classdict__":Str))=false:=by decide):PE X (.Name x pos) (JT i):=by
 intro pins s σ H Q I h;obtain⟨v,e,h⟩:=h;obtain⟨m,hn,hl⟩:=I.loc;obtain⟨u,r,l⟩:=hl i x v hN e hv;have fin:EP X pins σ Q u s:=⟨v,H,I,r,h⟩
 rcases l with⟨hk,hm⟩|⟨hk,c,hc,hcell⟩;·exact wpAny_Name (wpAny_loadName_local I.ok.kind hk hn hm fin) hd
 ·rcases hk with hk|hk;·exact wpAny_Name (wpAny_loadName_cell I.ok.kind hk hc hcell fin) hd
  ·exact wpAny_Name (wpAny_loadName_free I.ok.kind hk hc hcell fin hcd) hd
def EM {i j pos}:PE X (.Constant (.int i) j pos) (tC (.int i)):=λ_ _ _ H _ I h=>wpAny_Constant_int ⟨.int i,H,I.tok _,⟨_,rfl⟩,h⟩
def HZ {b j pos}:PE X (.Constant (.bool b) j pos) (tC (.bl b)):=λ_ _ _ H _ I h=>Constant_bool ⟨.bl b,H,I,rfl,h⟩
def F9 {j pos}:PE X (.Constant .none j pos) (tC .non):=λ_ _ _ H _ I h=>Constant_none ⟨.non,H,I,rfl,h⟩
def Gw {x j pos}:PE X (.Constant (.str x) j pos) (tC (.str x)):=λ_ _ _ H _ I h=>Calls.Constant_str ⟨.str x,H,I.tok _,⟨_,rfl⟩,h⟩
noncomputable def Gl(X:Cx)(x:Str):Prop:=X.env.kindOf x=some .globalImplicit
def oM{u:Value}{pos:Pos}{Q:Value->Shared->Prop}(I:Inv X pins σ H s)(hg:Gl X x)(hm:X.mg x=some u)(h:Q u s)(hd:(x==("__debug__":Str))=false:=by decide):wpAny (model X.prog X.w) X.A (eval (.Name x pos) X.env) Q E s:=
 Yj I.ok.kind hg (Calls.loadGlobal_global (by rw[I.ok.glob];exact I.mod.glob.keeps I.bk) hm h) hd
def lU{u:Value}{pos:Pos}{Q:Value->Shared->Prop}(I:Inv X pins σ H s)(hg:Gl X x)(hm:X.mg x=none)(hv:bootBuiltins x=some u)(h:Q u s)(hn:x≠"__name__":=by decide)(hd:(x==("__debug__":Str))=false:=by decide):wpAny (model X.prog X.w) X.A (eval (.Name x pos) X.env) Q E s:=by
 obtain⟨mb,h1,h2⟩:=I.mod.blt;exact Yj I.ok.kind hg (Calls.loadGlobal_builtin (by rw[I.ok.glob];exact I.mod.glob.keeps I.bk) hm (by rw[I.ok.blt];exact h1.keeps I.bk) ((h2 x hn).trans hv) h) hd
def ja{u:Value}{pos:Pos}(hg:Gl X x)(hm:X.mg x=some u)(r:RelV v u)(hd:(x==("__debug__":Str))=false:=by decide):PE X (.Name x pos) (tC v):=
 λ_ _ _ H _ I h=>oM I hg hm ⟨v,H,I,r,h⟩ hd
def pG{u:Value}{pos:Pos}(hg:Gl X x)(hm:X.mg x=none)(hv:bootBuiltins x=some u)(r:RelV v u)(hn:x≠"__name__":=by decide)(hd:(x==("__debug__":Str))=false:=by decide):PE X (.Name x pos) (tC v):=
 λ_ _ _ H _ I h=>lU I hg hm hv ⟨v,H,I,r,h⟩ hn hd
variable{a b:Expr}{ta tb:TE}{pos:Pos}
variable{tA tB':TT}{fS:List Expr}
noncomputable def KG(t u:TT):TT:=λσ H Q=>t σ H λc H1=>if c=true then u σ H1 Q else Q false H1
noncomputable def tOr(t u:TT):TT:=λσ H Q=>t σ H λc H1=>if c=true then Q true H1 else u σ H1 Q
noncomputable def Kw(t:TT):TT:=λσ H Q=>t σ H λc H1=>Q (!c) H1
def Du(ha:PT X a tA):PW X (.BoolOp .And [a] pos) tA:=by
 intro wh pins s σ H Q I h;refine isTrue_and (thn (ha pins s σ H Q I h) λc s1 e=>?_);cases c with
 |true=>exact isTrue_and_nil e
 |false=>exact e
def GF(ha:PT X a tA):PW X (.BoolOp .Or [a] pos) tA:=by
 intro wh pins s σ H Q I h;refine isTrue_or (thn (ha pins s σ H Q I h) λc s1 e=>?_);cases c with
 |false=>exact isTrue_or_nil e
 |true=>exact e
def E9(ha:PT X a tA)(hb:PW X (.BoolOp .And (b::fS) pos) tB'):PW X (.BoolOp .And (a::b::fS) pos) (KG tA tB'):=by
 intro wh pins s σ H Q I h;refine isTrue_and (thn (ha pins s σ H _ I h) λc s1 ⟨H1,I1,q1⟩=>?_);cases c with
 |true=>exact hb wh pins s1 σ H1 Q I1 q1
 |false=>exact⟨H1,I1,q1⟩
def Ih(ha:PT X a tA)(hb:PW X (.BoolOp .Or (b::fS) pos) tB'):PW X (.BoolOp .Or (a::b::fS) pos) (tOr tA tB'):=by
 intro wh pins s σ H Q I h;refine isTrue_or (thn (ha pins s σ H _ I h) λc s1 ⟨H1,I1,q1⟩=>?_);cases c with
 |true=>exact⟨H1,I1,q1⟩
 |false=>exact hb wh pins s1 σ H1 Q I1 q1
def Gx(ha:PT X a tA):PT X (.UnaryOp .Not a pos) (Kw tA):=by intro pins s σ H Q I h;exact isTrue_not (ha pins s σ H (λc H1=>Q (!c) H1) I h)
noncomputable def Il(ta tb:TE):TE:=λσ H Q=>ta σ H λx H1=>∃c,x=.bl c/\if c=true then tb σ H1 Q else Q (.bl false) H1
noncomputable def IU(ta:TE):TE:=λσ H Q=>ta σ H λx H1=>∃c,x=.bl c/\Q (.bl (!c)) H1
def DN {op} {t:TE} (h:PE X a t):PE X (.BoolOp op [a] pos) t:=λpins s σ H Q I hw=>BoolOp_one (h pins s σ H Q I hw)
def FU(ha:PE X a ta)(hb:PE X (.BoolOp .And (b::fS) pos) tb):PE X (.BoolOp .And (a::b::fS) pos) (Il ta tb):=by
 intro pins s σ H Q I h;refine BoolOp_and (thn (ha pins s σ H _ I h) λv s1 ⟨x,H1,I1,r1,q1⟩=>?_);obtain⟨c,rfl,q1⟩:=q1;cases r1;refine k6 ?_;cases c with
 |true=>exact hb pins s1 σ H1 Q I1 q1
 |false=>exact⟨.bl false,H1,I1,rfl,q1⟩
def Em(ha:PE X a ta):PE X (.UnaryOp .Not a pos) (IU ta):=by intro pins s σ H Q I h;refine UnaryOp_ (thn (ha pins s σ H _ I h) λv s1 ⟨x,H1,I1,r1,q1⟩=>?_);obtain⟨c,rfl,q1⟩:=q1;cases r1;exact not_of (k6 ⟨.bl (!c),H1,I1,rfl,q1⟩)
noncomputable def tIf(t:TT)(ta tb:TE):TE:=λσ H Q=>t σ H λc H1=>if c=true then ta σ H1 Q else tb σ H1 Q
def yY{c:Expr}(hc:PT X c tA)(ha:PE X a ta)(hb:PE X b tb):PE X (.IfExp c a b pos) (tIf tA ta tb):=by
 intro pins s σ H Q I h;refine wpAny_IfExp (thn (hc pins s σ H _ I h) λd s1 ⟨H1,I1,q1⟩=>?_);cases d with
 |true=>exact ha pins s1 σ H1 Q I1 q1
 |false=>exact hb pins s1 σ H1 Q I1 q1
end
noncomputable def SqL(K:W.Frag)(H:Hp)(a:Addr)(xs:List V):Prop:=
 Rd H a (.lst xs)\/
  ∃(o:Obj)(its:Array Value)(n:Nat),K.lookup a=some o/\o.cls=.type "list"/\o.dict=none/\o.data=.seq its n/\its.size<=sizeLine/\Vals xs its.toList
noncomputable def SqT(K:W.Frag)(H:Hp)(a:Addr)(xs:List V):Prop:=
 Rd H a (.tup xs)\/
  ∃(o:Obj)(its:Array Value)(n:Nat),K.lookup a=some o/\o.cls=.type "tuple"/\o.data=.seq its n/\its.size<=sizeLine/\Vals xs its.toList
noncomputable def KH:Value->Option V
 |.none=>some .non
 |.bool b=>some (.bl b)
 |.int i _=>some (.int i)
 |.str x _=>some (.str x)
 |.bytes b _=>some (.byt b)
 |.float b _=>some (.flt b)
 |.ref a=>some (.ref a)
 |.type n=>some (.ty n)
 |_=>none
def RelV.abs{x:V}{u:Value}(r:RelV x u):KH u=some x:=by
 cases x with
 |non=>cases r;rfl
 |bl _=>cases r;rfl
 |int _=>obtain⟨t,rfl⟩:=r;rfl
 |str _=>obtain⟨t,rfl⟩:=r;rfl
 |byt _=>obtain⟨t,rfl⟩:=r;rfl
 |flt _=>obtain⟨t,rfl⟩:=r;rfl
 |ref _=>cases r;rfl
 |ty _=>cases r;rfl
def RelV.inj{x y:V}{u:Value}(r:RelV x u)(q:RelV y u):x=y:=uV (r.abs.symm.trans q.abs)
theorem Vals.inj:∀{xs ys:List V}{us:List Value},Vals xs us->Vals ys us->xs=ys
 |_,_,_,.nil,.nil=>rfl
 |_,_,_,.cons r t,.cons r' t'=>by rw[r.inj r',Vals.inj t t']
section
variable{ys:List V}
def SqL.of{K:W.Frag}(h:H a=some (.lst xs)):SqL K H a xs:=.inl (.inl h)
def SqT.of{K:W.Frag}(h:H a=some (.tup xs)):SqT K H a xs:=.inl (.inl h)
def Inv.list(I:Inv X pins σ H s)(h:SqL X.K H a xs):∃its:List Value,Vals xs its/\PlainL s.heap a its.toArray/\xs.length<=sizeLine:=by
 rcases h with h|⟨o,its,n,hk,hc,hd,hs,hz,r⟩;·obtain⟨z,its,n,r,e⟩:=h.ok I.hok;exact⟨its,r,⟨_,n,e,rfl,rfl,rfl⟩,z⟩
 ·refine⟨its.toList,r,⟨o,n,I.kIn a o hk,hc,hd,by simpa using hs⟩,?_⟩;have e:=r.length;simp only[nE]at e;omega
def Inv.tuple(I:Inv X pins σ H s)(h:SqT X.K H a xs):∃its:List Value,Vals xs its/\IsTup s.heap a its.toArray/\xs.length<=sizeLine:=by
 rcases h with h|⟨o,its,n,hk,hc,hs,hz,r⟩;·obtain⟨z,its,r,p⟩:=h.ok I.hok;exact⟨its,r,p,z⟩
 ·refine⟨its.toList,r,⟨o,I.kIn a o hk,hc,n,by simpa using hs⟩,?_⟩;have e:=r.length;simp only[nE]at e;omega
def Inv.list_inj(I:Inv X pins σ H s)(h:SqL X.K H a xs)(h':SqL X.K H a ys):xs=ys:=by
 obtain⟨its,r,⟨o,n,e,_,_,d⟩,_⟩:=I.list h;obtain⟨its',r',⟨o',n',e',_,_,d'⟩,_⟩:=I.list h';rw[e]at e';cases e';rw[d]at d';injection d' with d1 _;have:its=its':=by simpa using n0 Array.toList d1
 subst this;exact r.inj r'
def Inv.tuple_inj(I:Inv X pins σ H s)(h:SqT X.K H a xs)(h':SqT X.K H a ys):xs=ys:=by
 obtain⟨its,r,⟨o,e,_,n,d⟩,_⟩:=I.tuple h;obtain⟨its',r',⟨o',e',_,n',d'⟩,_⟩:=I.tuple h';rw[e]at e';cases e';rw[d]at d';injection d' with d1 _;have:its=its':=by simpa using n0 Array.toList d1
 subst this;exact r.inj r'
end
noncomputable abbrev Cx.wish(X:Cx)(E:Value->Shared->Prop):Cx:={ X with xe:=E }
section
variable{fS:List Stmt}{t u:TS}{e:Expr}{te:TE}{pos:Pos}
noncomputable def Hs:TS:=λD σ H=>D.nx σ H
noncomputable def JA(t u:TS):TS:=λD σ H=>t { D with nx:=u D } σ H
def Ca:PSs X [] Hs:=λ_ _ σ H _ I h=>Zg ⟨σ,H,I,h⟩
def AE(h1:PS X st t)(h2:PSs X fS u):PSs X (st::fS) (JA t u):=by
 intro pins s σ H D I h;refine wpAny_execs_cons (thn (h1 pins s σ H { D with nx:=u D } I h) λf s1 q=>?_);cases f with
 |next=>obtain⟨σ',H',I',q⟩:=q;exact h2 pins s1 σ' H' D I' q
 |ret v=>exact q
 |brk=>exact q
 |cont=>exact q
def Inv.quiet(I:Inv X pins σ H s):interactive X.env=false:=by simp[interactive,I.ok.kind]
noncomputable def HE(te:TE):TS:=λD σ H=>te σ H λ_ H1=>D.nx σ H1
def sO(he:PE X e te)(hs:swapsWith e none pos.line X.env=pure false:=by rfl):PS X (.Expr e pos) (HE te):=by intro pins s σ H D I h;exact wpAny_Expr_any (thn (he pins s σ H _ I h) λv s1 ⟨x,H1,I1,r1,q1⟩=>⟨σ,H1,I1,q1⟩) I.quiet hs
noncomputable def Ko(te:TE):TS:=λD σ H=>te σ H D.rt
def D2(he:PE X e te):PS X (.Return (some e) pos) (Ko te):=by intro pins s σ H D I h;exact wpAny_Return_some (thn (he pins s σ H _ I h) λv s1 ⟨x,H1,I1,r1,q1⟩=>⟨x,σ,H1,I1,r1,q1⟩)
noncomputable def JR(c:TT)(t u:TS):TS:=λD σ H=>c σ H λb H1=>if b=true then t D σ H1 else u D σ H1
def E1{c:Expr}{a b:List Stmt}{tc:TT}(hc:PT X c tc)(ha:PSs X a t)(hb:PSs X b u):PS X (.If c a b pos) (JR tc t u):=by
 intro pins s σ H D I h;refine wpAny_If (thn (hc pins s σ H _ I h) λd s1 ⟨H1,I1,q1⟩=>?_);cases d with
 |true=>exact ha pins s1 σ H1 D I1 q1
 |false=>exact hb pins s1 σ H1 D I1 q1
end
noncomputable abbrev TG:=V->St->Hp->(St->Hp->Prop)->Prop
noncomputable abbrev TGs:=List V->St->Hp->(St->Hp->Prop)->Prop
noncomputable def PG(X:Cx)(target:Expr)(t:TG):Prop:=
 ∀(pins:List (Addr×Obj))(s:Shared)(σ:St)(H:Hp)(v:V)(u:Value)(Q:St->Hp->Prop),Inv X pins σ H s->RelV v u->t v σ H Q->
  wpAny (model X.prog X.w) X.A (assign target X.env u) (λ_ s'=>∃σ' H',Inv X pins σ' H' s'/\Q σ' H') X.xe s
noncomputable def PGs(X:Cx)(ts:List Expr)(t:TGs):Prop:=
 ∀(pins:List (Addr×Obj))(s:Shared)(σ:St)(H:Hp)(vs:List V)(us:List Value)(Q:St->Hp->Prop),Inv X pins σ H s->Vals vs us->t vs σ H Q->
  wpAny (model X.prog X.w) X.A (assignInOrder ((assignEach ts X.env).map (·.2)) us) (λ_ s'=>∃σ' H',Inv X pins σ' H' s'/\Q σ' H') X.xe s
noncomputable abbrev IW:=V->V->V->Hp->(Hp->Prop)->Prop
noncomputable def Jo(X:Cx)(t:IW):Prop:=
 ∀(pins:List (Addr×Obj))(s:Shared)(σ:St)(H:Hp)(o i v:V)(ov iv u:Value)(Q:Hp->Prop),Inv X pins σ H s->RelV o ov->RelV i iv->RelV v u->t o i v H Q->
  wpAny (model X.prog X.w) X.A (setItem ov iv u) (λ_ s'=>∃H',Inv X pins σ H' s'/\Q H') X.xe s
noncomputable abbrev TIp:=V->V->Hp->VK->Prop
noncomputable def PIp(X:Cx)(op:Operator)(t:TIp):Prop:=
 ∀(pins:List (Addr×Obj))(s:Shared)(σ:St)(H:Hp)(x y:V)(v u:Value)(Q:VK),Inv X pins σ H s->RelV x v->RelV y u->t x y H Q->
  wpAny (model X.prog X.w) X.A (inplaceOp op v u) (EP X pins σ Q) X.xe s
section
variable{pos:Pos}
noncomputable def Hk(i:Nat):TG:=λv σ H Q=>Q (σ.set i (some v)) H
def sY(hN:X.N.Nodup)(hi:X.N[i]?=some x)(hx:Loc X.env.scope x)(hf:X.fn x=true\/X.env.scope.names.lookup x=some .local:=by first|exact .inl rfl|exact .inr rfl|assumption):PG X (.Name x pos) (Hk i):=by intro pins s σ H v u Q I r h;exact ZS (nV I hN hi hx r (λs' I'=>⟨_,H,I',h⟩) hf)
noncomputable def Kv:TGs:=λvs σ H Q=>vs=[]/\Q σ H
noncomputable def Hc(t:TG)(u:TGs):TGs:=λvs σ H Q=>∃v r,vs=v::r/\t v σ H λσ' H'=>u r σ' H' Q
def Cl:PGs X [] Kv:=by intro pins s σ H vs us Q I r h;obtain⟨e,h⟩:=h;subst e;cases r;exact assignInOrder_nil ⟨σ,H,I,h⟩
def zS{e:Expr}{t:TG}{u:TGs}(h1:PG X e t)(h2:PGs X es u)(hs:(assignEach (e::es) X.env).map (·.2)=assign e X.env::(assignEach es X.env).map (·.2):=by rfl):PGs X (e::es) (Hc t u):=by
 intro pins s σ H vs us Q I r h;obtain⟨v,vr,e1,h⟩:=h;subst e1;cases r with
 |cons r rr=>rw[hs];refine assignInOrder_cons (thn (h1 pins s σ H _ _ _ I r h) λ_ s1 ⟨σ1,H1,I1,q1⟩=>?_);exact h2 pins s1 σ1 H1 _ _ Q I1 rr q1
noncomputable def JY(K:W.Frag)(n:Nat)(t:TGs):TG:=λv σ H Q=>∃a xs,v=.ref a/\SqT K H a xs/\xs.length=n/\t xs σ H Q
def Gp{t:TGs}(hc:X.calm=true)(h:PGs X es t)(hn:(assignEach es X.env).length=n:=by rfl)(hst:(assignEach es X.env).findIdx? (·.1)=none:=by rfl):PG X (.Tuple es k pos) (JY X.K n t):=by
 intro pins s σ H v u Q I r hw;obtain⟨a,xs,e1,hq,hl,hw⟩:=hw;subst e1;cases r;obtain⟨its,rv,ht,hz⟩:=I.tuple hq;refine assign_Tuple_tuple (I.ok.hd hc) ht (by simp[hn,<- hl,rv.length]) hst λh' hx=>?_;have I1:Inv X pins σ H { s with heap:=h' }:=I.kept (t':=s.toks) λb o e=>hx b o (t5 (xz e)) e;exact h pins _ σ H xs _ Q I1 (by simpa using rv) hw
noncomputable def J7(te:TE)(g:TG):TS:=λD σ H=>te σ H λx H1=>g x σ H1 D.nx
def Bl{e:Expr}{te:TE}{g:TG}(he:PE X e te)(hg:PG X tg g)(hs:swapsWithSole [tg] e pos.line X.env=pure false:=by rfl)(hw:swappedStores [tg] e X.env=pure none:=by rfl)(h1:(assignEach [tg] X.env).map (·.2)=[assign tg X.env]:=by rfl):PS X (.Assign [tg] e pos) (J7 te g):=by
 intro pins s σ H D I h;refine wpAny_Assign_stores (thn (he pins s σ H _ I h) λv s1 ⟨x,H1,I1,r1,q1⟩=>?_) hs hw;rw[h1];exact thn (hg pins s1 σ H1 x v _ I1 r1 q1) λ_ s2 q=>q
noncomputable def Kx(i:Nat)(te:TE)(ti:TIp):TS:=λD σ H=>∃x,σ[i]?=some (some x)/\te σ H λy H1=>ti x y H1 λz H2=>D.nx (σ.set i (some z)) H2
def D4{e:Expr}{te:TE}{op:Operator}{ti:TIp}{pos':Pos}(hN:X.N.Nodup)(hi:X.N[i]?=some x)(hx:Loc X.env.scope x)(he:PE X e te)(ho:PIp X op ti)(hf:X.fn x=true\/X.env.scope.names.lookup x=some .local:=by first|exact .inl rfl|exact .inr rfl|assumption):
  PS X (.AugAssign (.Name x pos') op e pos) (Kx i te ti):=by
 intro pins s σ H D I h;obtain⟨v,e1,h⟩:=h;obtain⟨m,hn,hl⟩:=I.loc;have vis:Vis X.env.scope x:=by rcases hx with k|k;exact .inl k;exact .inr (.inl k)
 obtain⟨u,r,l⟩:=hl i x v hi e1 vis;refine wpAny_AugAssign_Name ?_;have go:wpAny (model X.prog X.w) X.A (eval e X.env) (λw s₂=>wpAny (model X.prog X.w) X.A (inplaceOp op u w) (λr s₃=>wpAny (model X.prog X.w) X.A (storeName X.env x r) (λ_=>SP X pins D .next) X.xe s₃) X.xe s₂) X.xe s:=by refine thn (he pins s σ H _ I h) λw s1 ⟨y,H1,I1,r1,q1⟩=>?_;refine thn (ho pins s1 σ H1 v y u w _ I1 r r1 q1) λz s2 ⟨zv,H2,I2,r2,q2⟩=>?_;exact nV I2 hN hi hx r2 (λs3 I3=>⟨_,H2,I3,q2⟩) hf
 rcases l with⟨hk,hm⟩|⟨hk,c,hc,hcell⟩;·exact wpAny_loadName_local I.ok.kind hk hn hm go
 ·rcases hk with hk|hk;·exact wpAny_loadName_cell I.ok.kind hk hc hcell go
  ·rcases hx with k|k;·have:X.env.scope.names.lookup x=some .free:=hk;rw[k]at this;cases this
   ·have:X.env.scope.names.lookup x=some .free:=hk;rw[k]at this;cases this
noncomputable def IE(to ti te:TE)(tget:V->V->Hp->VK->Prop)(tip:TIp)(tset:IW):TS:=λD σ H=>to σ H λo H1=>ti σ H1 λi H2=>tget o i H2 λx H3=>te σ H3 λy H4=>tip x y H4 λz H5=>tset o i z H5 λH6=>D.nx σ H6
noncomputable def Jp(X:Cx)(t:V->V->Hp->VK->Prop):Prop:=
 ∀(pins:List (Addr×Obj))(s:Shared)(σ:St)(H:Hp)(o i:V)(ov iv:Value)(Q:VK),Inv X pins σ H s->RelV o ov->RelV i iv->t o i H Q->
  wpAny (model X.prog X.w) X.A (getItem ov iv) (EP X pins σ Q) X.xe s
def BI{o i e:Expr}{to ti te:TE}{tget:V->V->Hp->VK->Prop}{tip:TIp}{tset:IW}{op:Operator}{tpos:Pos}(ho:PE X o to)(hi:PE X i ti)(hg:Jp X tget)(he:PE X e te)(hp:PIp X op tip)(hs:Jo X tset)(ha:∀ov iv new,augStore i ov iv new=(do holding [new,ov,iv] (setItem ov iv new);release [new,ov,iv] [];pure .next):=by intros;rfl):PS X (.AugAssign (.Subscript o i tpos) op e pos) (IE to ti te tget tip tset):=by
 intro pins s σ H D I h;refine wpAny_AugAssign_SubscriptAny (thn (ho pins s σ H _ I h) λov s1 ⟨x1,H1,I1,r1,q1⟩=>?_) ha;refine thn (hi pins s1 σ H1 _ I1 q1) λiv s2 ⟨x2,H2,I2,r2,q2⟩=>?_;refine thn (hg pins s2 σ H2 x1 x2 ov iv _ I2 r1 r2 q2) λold s3 ⟨x3,H3,I3,r3,q3⟩=>?_;refine thn (he pins s3 σ H3 _ I3 q3) λv s4 ⟨x4,H4,I4,r4,q4⟩=>?_;refine thn (hp pins s4 σ H4 x3 x4 old v _ I4 r3 r4 q4) λnew s5 ⟨x5,H5,I5,r5,q5⟩=>?_;exact thn (hs pins s5 σ H5 x1 x2 x5 ov iv new _ I5 r1 r2 r5 q5) λ_ s6 ⟨H6,I6,q6⟩=>⟨σ,H6,I6,q6⟩
noncomputable def ipI(f:Int->Int->Int):TIp:=λx y H Q=>∃i j,x=.int i/\y=.int j/\Q (.int (f i j)) H
def Gv:PIp X .Add (ipI λi j=>i+j):=by intro pins s σ H x y v u Q I r1 r2 h;obtain⟨i,j,e1,e2,q⟩:=h;subst e1;subst e2;obtain⟨t,rfl⟩:=r1;obtain⟨t',rfl⟩:=r2;exact iadd_int ⟨.int _,H,I.tok _,⟨_,rfl⟩,q⟩
def FF:PIp X .Sub (ipI λi j=>i - j):=by intro pins s σ H x y v u Q I r1 r2 h;obtain⟨i,j,e1,e2,q⟩:=h;subst e1;subst e2;obtain⟨t,rfl⟩:=r1;obtain⟨t',rfl⟩:=r2;exact isub_int ⟨.int _,H,I.tok _,⟨_,rfl⟩,q⟩
end
section
variable{pos:Pos}
noncomputable def Fj(c:TT)(tb:TS):TS:=λD σ H=>∃W:Nat->St->Hp->Prop,(∃m,W m σ H)/\∀m σ H,W m σ H->
 c σ H λb H1=>if b=true then ∃N:St->Hp->Prop,(∀σ' H',N σ' H'->∃m',m'<m/\W m' σ' H')/\tb { D with nx:=N,ct:=N,bk:=D.nx } σ H1 else D.nx σ H1
def zu{c:Expr}{tc:TT}{tb:TS}(hp:PassesOwn (model X.prog X.w) X.A X.env X.xe)(hc:PT X c tc)(hb:PSs X body tb):PS X (.While c body [] pos) (Fj tc tb):=by
 intro pins s σ H D I h;obtain⟨W,⟨m0,w0⟩,turn⟩:=h;refine wpAny_While (codeAny_whileLoop (λn s'=>∃σ' H',Inv X pins σ' H' s'/\W n σ' H') ?_ m0 ⟨σ,H,I,w0⟩);rintro n s1 ⟨σ1,H1,I1,w1⟩;refine i5 hp (thn (hc pins s1 σ1 H1 _ I1 (turn n σ1 H1 w1)) λb s2 ⟨H2,I2,q2⟩=>?_);cases b with
 |true=>
  obtain⟨N,hN,q2⟩:=q2;rw[if_pos rfl];refine i5 hp (thn (hb pins s2 σ1 H2 _ I2 q2) λf s3 q3=>?_);cases f with
  |next=>obtain⟨σ3,H3,I3,n3⟩:=q3;obtain⟨m',hm,w3⟩:=hN σ3 H3 n3;exact⟨m',hm,σ3,H3,I3,w3⟩
  |cont=>obtain⟨σ3,H3,I3,n3⟩:=q3;obtain⟨m',hm,w3⟩:=hN σ3 H3 n3;exact⟨m',hm,σ3,H3,I3,w3⟩
  |brk=>exact q3
  |ret v=>exact q3
 |false=>rw[if_neg rK];exact Zg ⟨σ1,H2,I2,q2⟩
end
structure It where
 go:Nat->Hp->Prop
 yld:Nat->Hp->V->Hp->Prop
 stop:Nat->Hp->Prop
noncomputable def kE(X:Cx)(pins:List (Addr×Obj))(H:Hp)(b:Addr):Prop:=
 H b=none/\b≠X.env.locals/\b∉X.fs/\(b∈X.ex\/X.s₀.heap.objs.size<=b)/\(∀x c,X.env.cells.lookup x=some c->c≠b)/\∀p∈X.pn++pins,p.1≠b
def Inv.fpOk{b:Addr}(I:Inv X pins σ H s)(hb:s.heap.objs.size<=b)(hn:H' b=none):kE X pins H' b:=by
 refine⟨hn,lB (sI I.lt hb),I.nofs hb,.inr (w9 I.sz hb),λx c e z=>?_,λp hp z=>?_⟩;·obtain⟨v,q⟩:=I.cell x c e;exact absurd (sI q.lt (by rw[z];exact hb)) (mK _)
 ·exact absurd (sI (xz (I.pin p hp).1) (by rw[z];exact hb)) (mK _)
structure Turn(P:Program)(w:World)(K:W.Frag)(tg:Expr)(J:It)(fp:List Addr)(it:Addr)(tn:Nat->Heap->Prop):Prop where
 mem:it∈fp
 obj:∀i h,tn i h->∀b∈fp,∃o,h.get? b=some o/\∀v,o.data≠.cell v
 keep:∀i h h',tn i h->(∀b∈fp,∀o,h.get? b=some o->h'.get? b=some o)->tn i h'
 item:∀(X:Cx),X.prog=P->X.w=w->X.K=K->X.calm=true->∀(i:Nat)(pins:List (Addr×Obj))(s:Shared)(σ:St)(H:Hp)(E:Value->Shared->Prop),Inv X pins σ H s->(∀b∈fp,kE X pins H b)->tn i s.heap->J.go i H->
  wpAny (model P w) X.A (pyNext (.ref it)) (λr s1=>∃u,r=some u/\
   wpAny (model P w) X.A (letOwnedTupleGo tg (.ref it) u) (λ_ s2=>∃x H',Inv X pins σ H' s2/\RelV x u/\J.yld i H x H'/\tn (i+1) s2.heap/\∀b∈fp,H' b=none) E s1) E s
 done:∀(X:Cx),X.prog=P->X.w=w->X.K=K->X.calm=true->∀(i:Nat)(pins:List (Addr×Obj))(s:Shared)(σ:St)(H:Hp)(E:Value->Shared->Prop),Inv X pins σ H s->(∀b∈fp,kE X pins H b)->tn i s.heap->J.stop i H->
  wpAny (model P w) X.A (pyNext (.ref it)) (λr s1=>r=none/\Inv X pins σ H s1) E s
 self:∀(A:Around)(i:Nat)(s:Shared)(Q:Value->Shared->Prop)(E:Value->Shared->Prop),tn i s.heap->Q (.ref it) s->wpAny (model P w) A (pyIter (.ref it)) Q E s
noncomputable abbrev TI:=St->Hp->(It->Hp->Prop)->Prop
noncomputable def PIE(X:Cx)(pins:List (Addr×Obj))(σ:St)(tg:Expr)(R:It->Hp->Prop)(itv:Value)(s2:Shared):Prop:=
 ∃(it:Addr)(fp:List Addr)(tn:Nat->Heap->Prop)(J:It)(H':Hp),itv=.ref it/\Inv X pins σ H' s2/\Turn X.prog X.w X.K tg J fp it tn/\tn 0 s2.heap/\(∀b∈fp,kE X pins H' b)/\R J H'
noncomputable def PI(X:Cx)(tg iter:Expr)(wi:TI):Prop:=
 ∀(pins:List (Addr×Obj))(s:Shared)(σ:St)(H:Hp)(R:It->Hp->Prop),Inv X pins σ H s->wi σ H R->
  wpAny (model X.prog X.w) X.A (eval iter X.env) (λv s1=>wpAny (model X.prog X.w) X.A (pyIter v) (PIE X pins σ tg R) X.xe s1) X.xe s
def wO{M : Model}{A : Around}{u : Value}{o : Obj}{n : String}{vs : Array Value}{Q : Unit -> Shared -> Prop}(ho : s.heap.get? it = some o)(hc : o.cls = .type n)(hd : o.data = .fields vs)(hn : ["enumerate", "zip", "dict_itemiterator", "dict_reverseitemiterator", "odict_iterator", "itertools.zip_longest", "itertools.pairwise"].contains n = false)(hQ : Q () s): wpAny M A (letOwnedTupleGo tg (.ref it) u) Q E s := by
  unfold letOwnedTupleGo;cases tg <;> first
    |exact z9 hQ
    | (cases u <;> first
        |exact z9 hQ
        | (refine z6 (wpAny_load ho ?_)
           rw[hc, hd];show wpAny M A (if (["enumerate", "zip", "dict_itemiterator", "dict_reverseitemiterator", "odict_iterator", "itertools.zip_longest", "itertools.pairwise"].contains n && vs[0]? == some (rawInt _)) = true then _ else _) Q E s;rw[if_neg (by intro h; rw[hn, pX]at h; cases h)];exact z9 hQ))

noncomputable def Itl(K:W.Frag)(a:Addr):It:=
 ⟨λi H=>∃xs x,SqL K H a xs/\xs[i]?=some x,λi H x H'=>H'=H/\∀xs,SqL K H a xs->xs[i]?=some x,λi H=>∃xs,SqL K H a xs/\xs.length<=i⟩
noncomputable def Itt(K:W.Frag)(a:Addr):It:=
 ⟨λi H=>∃xs x,SqT K H a xs/\xs[i]?=some x,λi H x H'=>H'=H/\∀xs,SqT K H a xs->xs[i]?=some x,λi H=>∃xs,SqT K H a xs/\xs.length<=i⟩
noncomputable def Itr(lo:Int)(n:Nat):It:=⟨λi _=>i<n,λi H x H'=>H'=H/\x=.int (lo+i),λi _=>n<=i⟩
def xV{w:World}{K:W.Frag}(a it:Addr):Turn P w K tg (Itl K a) [it] it (λi h=>h.IsListIter it a i) where
 mem:=by simp
 obj:=λi h st b hb=>by
  have e:b=it:=by simpa using hb
  subst e;obtain⟨o,e,c,d⟩:=st;exact⟨o,e,λv z=>by rw[d]at z;cases z⟩
 keep:=λi h h' st k=>st.at λo e=>k it (by simp) o e
 item:=by intro X hP hw hK hc i pins s σ H E I hf st hg;subst hP hw hK;obtain⟨xs,x,hq,hx⟩:=hg;obtain⟨its,rv,p,hz⟩:=I.list hq;obtain⟨u,hu,ru⟩:=rv.get hx;obtain⟨f0,f1,f2,f3,f4,f5⟩:=hf it (by simp);refine wpAny_pyNext_list_item st p.isList (x:=u) (by simpa using hu) λh' st' sb=>?_;have I1:Inv X pins σ H { s with heap:=h' }:=I.turned (t':=s.toks) (λb o hb e=>(sb.2 b hb).trans e) f0 f1 f3 f4 f5;obtain⟨o,e,c,d⟩:=id st';exact⟨u,rfl,wO (s:={ s with heap:=h' }) e c d (by decide) ⟨x,H,I1,ru,⟨rfl,λys hy=>by rw[I.list_inj hy hq];exact hx⟩,st',λb hb=>(hf b hb).1⟩⟩
 done:=by intro X hP hw hK hc i pins s σ H E I hf st hg;subst hP hw hK;obtain⟨xs,hq,hx⟩:=hg;obtain⟨its,rv,p,hz⟩:=I.list hq;obtain⟨f0,f1,f2,f3,f4,f5⟩:=hf it (by simp);have hl:=rv.length;exact wpAny_pyNext_list_end (I.ok.hd hc) st p.isList (by simp;omega) λh' eb=>⟨rfl,I.turned (t':=s.toks) (λb o hb e=>eb b o hb e) f0 f1 f3 f4 f5⟩
 self:=λ_ _ _ _ _ st h=>wpAny_pyIter_listiter st h
def uZ{w:World}{K:W.Frag}(a it:Addr):Turn P w K tg (Itt K a) [it] it (λi h=>h.IsTupleIter it a i) where
 mem:=by simp
 obj:=λi h st b hb=>by
  have e:b=it:=by simpa using hb
  subst e;obtain⟨o,e,c,d⟩:=st;exact⟨o,e,λv z=>by rw[d]at z;cases z⟩
 keep:=λi h h' st k=>st.at λo e=>k it (by simp) o e
 item:=by intro X hP hw hK hc i pins s σ H E I hf st hg;subst hP hw hK;obtain⟨xs,x,hq,hx⟩:=hg;obtain⟨its,rv,p,hz⟩:=I.tuple hq;obtain⟨u,hu,ru⟩:=rv.get hx;obtain⟨f0,f1,f2,f3,f4,f5⟩:=hf it (by simp);refine wpAny_pyNext_tuple_item st (show s.heap.IsTuple a its.toArray from p) (x:=u) (by simpa using hu) λh' st' sb=>?_;have I1:Inv X pins σ H { s with heap:=h' }:=I.turned (t':=s.toks) (λb o hb e=>(sb.2 b hb).trans e) f0 f1 f3 f4 f5;obtain⟨o,e,c,d⟩:=id st';exact⟨u,rfl,wO (s:={ s with heap:=h' }) e c d (by decide) ⟨x,H,I1,ru,⟨rfl,λys hy=>by rw[I.tuple_inj hy hq];exact hx⟩,st',λb hb=>(hf b hb).1⟩⟩
 done:=by intro X hP hw hK hc i pins s σ H E I hf st hg;subst hP hw hK;obtain⟨xs,hq,hx⟩:=hg;obtain⟨its,rv,p,hz⟩:=I.tuple hq;obtain⟨f0,f1,f2,f3,f4,f5⟩:=hf it (by simp);have hl:=rv.length;exact wpAny_pyNext_tuple_end (I.ok.hd hc) st (show s.heap.IsTuple a its.toArray from p) (by simp;omega) λh' eb=>⟨rfl,I.turned (t':=s.toks) (λb o hb e=>eb b o hb e) f0 f1 f3 f4 f5⟩
 self:=λ_ _ _ _ _ st h=>wpAny_pyIter_tupleiter st h
def vk{w:World}{K:W.Frag}(it:Addr)(lo:Int)(n:Nat):Turn P w K tg (Itr lo n) [it] it (λi h=>IsRangeIter h it (lo+(i:Nat) * 1) ((n:Int) - (i:Nat)) 1) where
 mem:=by simp
 obj:=λi h st b hb=>by
  have e:b=it:=by simpa using hb
  subst e;exact⟨_,st,λv z=>by have z':Data.fields _=Data.cell v:=z;cases z'⟩
 keep:=λi h h' st k=>k it (by simp) _ st
 item:=by intro X hP hw hK hc i pins s σ H E I hf st hg;subst hP hw hK;obtain⟨f0,f1,f2,f3,f4,f5⟩:=hf it (by simp);have W:=Walks.range (prog:=X.prog) (w:=X.w) (I.ok.hd hc) it lo 1 n;refine W.item i s _ _ hg st λv h' tk hv st' kk=>?_;obtain⟨t,rfl⟩:=hv;have I1:Inv X pins σ H { s with heap:=h',toks:=tk }:=I.turned (λb o hb e=>kk b o (by simpa using hb) e) f0 f1 f3 f4 f5;refine⟨_,rfl,wO (s:={ s with heap:=h',toks:=tk }) (n:="range_iterator") st' rfl rfl (by decide) ⟨.int (lo+i),H,I1,⟨t,?_⟩,⟨rfl,rfl⟩,st',λb hb=>(hf b hb).1⟩⟩;rw[Int.mul_one]
 done:=by intro X hP hw hK hc i pins s σ H E I hf st hg;subst hP hw hK;obtain⟨f0,f1,f2,f3,f4,f5⟩:=hf it (by simp);exact wpAny_pyNext_range_end (I.ok.hd hc) st (by have:n<=i:=hg;omega) λh' eb=>⟨rfl,I.turned (t':=s.toks) (λb o hb e=>eb b o hb e) f0 f1 f3 f4 f5⟩
 self:=λ_ _ _ _ _ st h=>wpAny_pyIter_rangeiter st h
section
def yZ{R:It->Hp->Prop}{lo hi:Int}{t u v:Tok}{tk:Nat}(I:Inv X pins σ H s)(h1 : -(2 ^ 62)<=lo)(h2:lo<2 ^ 62)(h3 : -(2 ^ 62)<=hi)(h4:hi<2 ^ 62)(q:R (Itr lo (hi - lo).toNat) H):wpAny (model X.prog X.w) X.A (pyIter (.ref s.heap.objs.size)) (PIE X pins σ tg R) E { s with heap:=s.heap.push { cls:=.type "range",data:=.fields #[.int lo t,.int hi u,.int 1 v] },toks:=tk }:=by
 refine wpAny_pyIter_range (IsRange.new ..) (small_one h1 h2 h3 h4) ?_;have I1:Inv X pins σ H { s with heap:=s.heap.push { cls:=.type "range",data:=.fields #[.int lo t,.int hi u,.int 1 v] },toks:=tk }:=I.kept λb o e=>w8 _ e;refine⟨(s.heap.push { cls:=.type "range",data:=.fields #[.int lo t,.int hi u,.int 1 v] }).objs.size,[(s.heap.push { cls:=.type "range",data:=.fields #[.int lo t,.int hi u,.int 1 v] }).objs.size],_,_,H,rfl,
  I1.kept (t':=tk) λb o e=>w8 _ e,vk _ lo (hi - lo).toNat,?_,λb hb=>?_,q⟩
 ·have e1:lo+((0:Nat):Int) * 1=lo:=by simp
  have e2:(((hi - lo).toNat:Nat):Int) - ((0:Nat):Int)=Builtin.Range.rangeSize lo hi 1:=by rw[rangeSize_one];split <;> omega
  show IsRangeIter _ _ (lo+((0:Nat):Int) * 1) ((((hi - lo).toNat:Nat):Int) - ((0:Nat):Int)) 1;rw[e1,e2];exact t8 _ rfl
 ·have e:b=(s.heap.push { cls:=.type "range",data:=.fields #[.int lo t,.int hi u,.int 1 v] }).objs.size:=by simpa using hb
  subst e;exact I1.fpOk (yo _) (I1.hok.fresh (yo _))
noncomputable def IC(ta:TA):TI:=λσ H R=>ta σ H λvs H1=>∃j:Int,vs=[.int j]/\-(2 ^ 62)<=j/\j<2 ^ 62/\R (Itr 0 j.toNat) H1
def yz{a:Expr}{ta:TA}{pos:Pos}(hg:Gl X "range")(hm:X.mg "range"=none)(ha:PA X [a] ta)(hs:starEach [a] X.env=[(false,eval a X.env)]:=by rfl):PI X tg (.Call (.Name "range" p) [a] [] pos) (IC ta):=by
 intro pins s σ H R I h;refine Call_ (lU I hg hm boot_range (callWith_type1 (thn (ha pos pins s σ H _ I h) λus s1 ⟨vs,H1,I1,r1,q1⟩=>?_) hs rfl));obtain⟨j,e,q1,q2,q⟩:=q1;subst e;cases r1 with
 |cons r rr=>cases rr;obtain⟨t,rfl⟩:=r;exact call_range_1 (yZ I1 (by omega) (by omega) q1 q2 (by simpa using q))
noncomputable def Ku(wi:TI)(g:TG)(tb:TS):TS:=λD σ H=>wi σ H λJ H1=>∃W:Nat->Nat->St->Hp->Prop,(∃m,W 0 m σ H1)/\∀i m σ H,W i m σ H->
 (J.stop i H/\D.nx σ H)\/(J.go i H/\∃N:St->Hp->Prop,(∀σ' H',N σ' H'->∃m',m'<m/\W (i+1) m' σ' H')/\∀x H',J.yld i H x H'->g x σ H' λσ2 H2=>tb { D with nx:=N,ct:=N,bk:=D.nx } σ2 H2)
noncomputable def nA(fp:List Addr)(h:Heap):List (Addr×Obj):=fp.filterMap λb=>(h.get? b).map λo=>(b,o)
def iG{b:Addr}{o:Obj}(hb:b∈fp)(e:h.get? b=some o):(b,o)∈nA fp h:=Zh.mpr ⟨b,hb,by rw[e];rfl⟩
def wz{p:Addr×Obj}(hp:p∈nA fp h):p.1∈fp/\h.get? p.1=some p.2:=by
 obtain⟨b,hb,e⟩:=Zh.mp hp;cases q:h.get? b with
 |none=>rw[q]at e;cases e
 |some o=>rw[q]at e;have e':(b,o)=p:=uV e;subst e';exact⟨hb,q⟩
def Inv.pinned(I:Inv X pins σ H s)(hf:∀b∈fp,kE X pins H b)(ho:∀b∈fp,∃o,s.heap.get? b=some o/\∀v,o.data≠.cell v):Inv X (pins++nA fp s.heap) σ H s:=
 I.pins_of λp hp=>(d6.mp hp).elim (λz=>I.pin p (lE _ z)) λz=>by obtain⟨hb,e⟩:=wz z;obtain⟨f0,f1,f2,_⟩:=hf p.1 hb;obtain⟨o,e',d⟩:=ho p.1 hb;rw[e]at e';cases e';exact⟨e,f0,f1,f2,d⟩
def Inv.unpinned{pl:List (Addr×Obj)}(I:Inv X (pins++pl) σ H s):Inv X pins σ H s:=I.pins_of λp hp=>I.pin p (lE _ (Zf _ hp))
def AQ{wi:TI}{g:TG}{tb:TS}{pos:Pos}(hp:PassesOwn (model X.prog X.w) X.A X.env X.xe)(hc:X.calm=true)(hi:PI X tg iter wi)(hg:PG X tg g)(hb:PSs X body tb)(hs:∀x,foldedSetIterable iter X.env x=pure x:=by intro _;rfl):PS X (.For tg iter body [] pos) (Ku wi g tb):=by
 intro pins s σ H D I h;refine wpAny_For (thn (hi pins s σ H _ I h) λv s1 h1=>thn h1 λitv s2 h2=>?_) hs;obtain⟨it,fp,tn,J,H2,e,I2,T,st2,f2,W,⟨m0,w0⟩,turn⟩:=h2;subst e;have stat:∀{H':Hp},(∀b∈fp,H' b=none)->∀b∈fp,kE X pins H' b:=λhn b hb=>⟨hn b hb,(f2 b hb).2⟩
 refine codeAny_forLoop_any (λn s'=>∃i σ' H',Inv X pins σ' H' s'/\tn i s'.heap/\(∀b∈fp,H' b=none)/\W i n σ' H') ?_ m0 ⟨0,σ,H2,I2,st2,λb hb=>(f2 b hb).1,w0⟩;rintro n s3 ⟨i,σ3,H3,I3,st3,fr3,w3⟩;rcases turn i n σ3 H3 w3 with⟨stop,qn⟩|⟨go,N,hN,step⟩
 ·refine i5 hp (thn (T.done X rfl rfl rfl hc i pins s3 σ3 H3 X.xe I3 (stat fr3) st3 stop) λr s4 ⟨hr,I4⟩=>?_);subst hr;exact Zg ⟨σ3,H3,I4,qn⟩
 ·refine i5 hp (thn (T.item X rfl rfl rfl hc i pins s3 σ3 H3 X.xe I3 (stat fr3) st3 go) λr s4 ⟨u,hr,h4⟩=>?_);subst hr;refine i5 hp (thn h4 λ_ s5 ⟨x,H5,I5,r5,y5,st5,fr5⟩=>?_);have I5':=I5.pinned (stat fr5) (T.obj _ _ st5);refine i5 hp (thn (hg _ s5 σ3 H5 x u _ I5' r5 (step x H5 y5)) λ_ s6 ⟨σ6,H6,I6,q6⟩=>?_);refine i5 hp (thn (hb _ s6 σ6 H6 _ I6 q6) λf s7 q7=>?_);have again:∀{σ7:St}{H7:Hp},Inv X (pins++nA fp s5.heap) σ7 H7 s7->N σ7 H7->∃m,m<n/\∃i σ' H',Inv X pins σ' H' s7/\tn i s7.heap/\(∀b∈fp,H' b=none)/\W i m σ' H':=λ{σ7 H7} I7 n7=>by obtain⟨m',hm,w7⟩:=hN σ7 H7 n7;refine⟨m',hm,i+1,σ7,H7,I7.unpinned,T.keep _ _ _ st5 λb hb o e=>(I7.pin (b,o) (lE _ (lE _ (iG hb e)))).1,λb hb=>?_,w7⟩;obtain⟨o,e,d⟩:=T.obj _ _ st5 b hb;exact(I7.pin (b,o) (lE _ (lE _ (iG hb e)))).2.1
  cases f with
  |next=>obtain⟨σ7,H7,I7,n7⟩:=q7;exact again I7 n7
  |cont=>obtain⟨σ7,H7,I7,n7⟩:=q7;exact again I7 n7
  |brk=>obtain⟨σ7,H7,I7,q7⟩:=q7;exact⟨σ7,H7,I7.unpinned,q7⟩
  |ret v=>obtain⟨x7,σ7,H7,I7,r7,q7⟩:=q7;exact⟨x7,σ7,H7,I7.unpinned,r7,q7⟩
end
noncomputable abbrev R2:=V->V->Hp->VK->Prop
noncomputable def OpR(X:Cx)(f:Value->Value->Sem Value)(r:R2):Prop:=
 ∀(pins:List (Addr×Obj))(s:Shared)(σ:St)(H:Hp)(x y:V)(v u:Value)(Q:VK),Inv X pins σ H s->RelV x v->RelV y u->r x y H Q->
  wpAny (model X.prog X.w) X.A (f v u) (EP X pins σ Q) X.xe s
noncomputable def UnR(X:Cx)(f:Value->Sem Value)(r:V->Hp->VK->Prop):Prop:=
 ∀(pins:List (Addr×Obj))(s:Shared)(σ:St)(H:Hp)(x:V)(v:Value)(Q:VK),Inv X pins σ H s->RelV x v->r x H Q->
  wpAny (model X.prog X.w) X.A (f v) (EP X pins σ Q) X.xe s
noncomputable def gT(X:Cx)(f:Value)(r:List V->Hp->VK->Prop):Prop:=
 ∀(pins:List (Addr×Obj))(s:Shared)(σ:St)(H:Hp)(xs:List V)(us:List Value)(Q:VK),Inv X pins σ H s->Vals xs us->r xs H Q->
  wpAny (model X.prog X.w) X.A (call f us) (EP X pins σ Q) X.xe s
noncomputable def J4(X:Cx)(r:V->Hp->(Bool->Hp->Prop)->Prop):Prop:=
 ∀(pins:List (Addr×Obj))(s:Shared)(σ:St)(H:Hp)(x:V)(v:Value)(Q:Bool->Hp->Prop),Inv X pins σ H s->RelV x v->r x H Q->
  wpAny (model X.prog X.w) X.A (truthy v) (TP X pins σ Q) X.xe s
noncomputable def tOp(r:R2)(ta tb:TE):TE:=λσ H Q=>ta σ H λx H1=>tb σ H1 λy H2=>r x y H2 Q
noncomputable def tUn(r:V->Hp->VK->Prop)(ta:TE):TE:=λσ H Q=>ta σ H λx H1=>r x H1 Q
noncomputable def rI(C:Int->Int->Prop)(g:Int->Int->V):R2:=λx y H Q=>∃i j,x=.int i/\y=.int j/\C i j/\Q (g i j) H
noncomputable def rI0(g:Int->Int->V):R2:=λx y H Q=>∃i j,x=.int i/\y=.int j/\Q (g i j) H
noncomputable def rU(g:Int->V):V->Hp->VK->Prop:=λx H Q=>∃i,x=.int i/\Q (g i) H
section
variable{a b c:Expr}{ta tb tc:TE}{pos:Pos}
def GX(ha:PE X a ta)(hb:PE X b tb){R:V->V->Hp->Prop}(I:Inv X pins σ H s)(h:ta σ H λx H1=>tb σ H1 λy H2=>R x y H2){Q:Value->Shared->Prop}{f:Value->Value->Sem Value}(hf:∀v u s2 x y H2,Inv X pins σ H2 s2->RelV x v->RelV y u->R x y H2->wpAny (model X.prog X.w) X.A (f v u) Q X.xe s2):
  wpAny (model X.prog X.w) X.A (eval a X.env) (λv s₁=>wpAny (model X.prog X.w) X.A (eval b X.env) (λu s₂=>wpAny (model X.prog X.w) X.A (f v u) Q X.xe s₂) X.xe s₁) X.xe s:=by
 refine thn (ha pins s σ H _ I h) λv s1 ⟨x,H1,I1,r1,q1⟩=>?_;refine thn (hb pins s1 σ H1 _ I1 q1) λu s2 ⟨y,H2,I2,r2,q2⟩=>?_;exact hf v u s2 x y H2 I2 r1 r2 q2
def IP{op:Operator}{r:R2}(ho:OpR X (binaryOp op) r)(ha:PE X a ta)(hb:PE X b tb):PE X (.BinOp a op b pos) (tOp r ta tb):=by intro pins s σ H Q I h;exact wpAny_BinOp (GX ha hb I h λv u s2 x y H2 I2 rx ry q=>ho pins s2 σ H2 x y v u Q I2 rx ry q)
def Ix{op:UnaryOp}{r:V->Hp->VK->Prop}(ho:UnR X (unaryOp op) r)(ha:PE X a ta):PE X (.UnaryOp op a pos) (tUn r ta):=by intro pins s σ H Q I h;exact UnaryOp_ (thn (ha pins s σ H _ I h) λv s1 ⟨x,H1,I1,r1,q1⟩=>ho pins s1 σ H1 x v Q I1 r1 q1)
def opI{f:Value->Value->Sem Value}{C:Int->Int->Prop}{g:Int->Int->Int}(rule:∀(i j:Int)(t u:Tok)(s:Shared)(Q:Value->Shared->Prop)(E:Value->Shared->Prop),C i j->Q (.int (g i j) s.toks) { s with toks:=s.toks+1 }->wpAny (model X.prog X.w) X.A (f (.int i t) (.int j u)) Q E s):
  OpR X f (rI C λi j=>.int (g i j)):=by
 intro pins s σ H x y v u Q I rx ry h;obtain⟨i,j,rfl,rfl,hc,q⟩:=h;obtain⟨t,rfl⟩:=rx;obtain⟨t',rfl⟩:=ry;exact rule i j t t' s _ _ hc ⟨.int (g i j),H,I.tok _,⟨_,rfl⟩,q⟩
def Jg{f:Value->Value->Sem Value}{g:Int->Int->Int}(rule:∀(i j:Int)(t u:Tok)(s:Shared)(Q:Value->Shared->Prop)(E:Value->Shared->Prop),Q (.int (g i j) s.toks) { s with toks:=s.toks+1 }->wpAny (model X.prog X.w) X.A (f (.int i t) (.int j u)) Q E s):
  OpR X f (rI0 λi j=>.int (g i j)):=by
 intro pins s σ H x y v u Q I rx ry h;obtain⟨i,j,rfl,rfl,q⟩:=h;obtain⟨t,rfl⟩:=rx;obtain⟨t',rfl⟩:=ry;exact rule i j t t' s _ _ ⟨.int (g i j),H,I.tok _,⟨_,rfl⟩,q⟩
def Ht{f:Value->Value->Sem Value}{g:Int->Int->Bool}(rule:∀(i j:Int)(t u:Tok)(s:Shared)(Q:Value->Shared->Prop)(E:Value->Shared->Prop),Q (.bool (g i j)) s->wpAny (model X.prog X.w) X.A (f (.int i t) (.int j u)) Q E s):
  OpR X f (rI0 λi j=>.bl (g i j)):=by
 intro pins s σ H x y v u Q I rx ry h;obtain⟨i,j,rfl,rfl,q⟩:=h;obtain⟨t,rfl⟩:=rx;obtain⟨t',rfl⟩:=ry;exact rule i j t t' s _ _ ⟨.bl (g i j),H,I,rfl,q⟩
noncomputable def KL(i j:Int):Prop:=0<j/\j<1073741824
noncomputable def CMul(i j:Int):Prop:=(-(2 ^ 64)<i/\i<2 ^ 64)\/(-(2 ^ 64)<j/\j<2 ^ 64)
def CMul.ok{i j:Int}(h:CMul i j):IntMulOk i j:=by
 rcases h with⟨h1,h2⟩|⟨h1,h2⟩;·exact .of_left (intBits_le_64 h1 h2)
 ·exact .of_right (intBits_le_64 h1 h2)
def op_add:OpR X (binaryOp .Add) (rI0 λi j=>.int (i+j)):=Jg λ_ _ _ _ _ _ _ q=>add_int q
def E4:OpR X (binaryOp .Sub) (rI0 λi j=>.int (i - j)):=Jg λ_ _ _ _ _ _ _ q=>sub_int q
def op_mul:OpR X (binaryOp .Mult) (rI CMul λi j=>.int (i * j)):=opI λ_ _ _ _ _ _ _ hc q=>mul_int q hc.ok
def Db:OpR X (binaryOp .FloorDiv) (rI KL λi j=>.int (i / j)):=opI λi j _ _ _ _ _ hc q=>by have h1:(0:Int)<j:=hc.1;have h2:j<1073741824:=hc.2;exact floordiv_int (by omega) (by rw[Int.fdiv_eq_ediv_of_nonneg i (by omega)];exact q) (.inl (PyProof.noPylong_small (by omega)))
def FN:OpR X (binaryOp .Mod) (rI (λ_ j=>0<j) λi j=>.int (i % j)):=opI λi j _ _ _ _ _ hc q=>by have h1:(0:Int)<j:=hc;exact mod_int' (by omega) (by rw[Int.fmod_eq_emod_of_nonneg i (by omega)];exact q)
def unI{f:Value->Sem Value}{g:Int->Int}(rule:∀(i:Int)(t:Tok)(s:Shared)(Q:Value->Shared->Prop)(E:Value->Shared->Prop),Q (.int (g i) s.toks) { s with toks:=s.toks+1 }->wpAny (model X.prog X.w) X.A (f (.int i t)) Q E s):
  UnR X f (rU λi=>.int (g i)):=by
 intro pins s σ H x v Q I rx h;obtain⟨i,rfl,q⟩:=h;obtain⟨t,rfl⟩:=rx;exact rule i t s _ _ ⟨.int (g i),H,I.tok _,⟨_,rfl⟩,q⟩
def DZ:UnR X (unaryOp .USub) (rU λi=>.int (-i)):=unI λ_ _ _ _ _ q=>neg_int q
end
section
variable{a b c:Expr}{ta tb tc:TE}{pos:Pos}
def tX{Q:VK}{k k':Bool}(I:Inv X pins σ H s)(q:Q (.bl k) H)(e:k=k'):EP X pins σ Q (.bool k') s:=by subst e;exact⟨.bl k,H,I,rfl,q⟩
def op_lt:OpR X (compareOp .Lt) (rI0 λi j=>.bl (decide (i<j))):=Ht λ_ _ _ _ _ _ _ q=>lt_int q
def op_le:OpR X (compareOp .LtE) (rI0 λi j=>.bl (decide (i<=j))):=Ht λ_ _ _ _ _ _ _ q=>le_int q
def Hv:OpR X (compareOp .Gt) (rI0 λi j=>.bl (decide (j<i))):=Ht λ_ _ _ _ _ _ _ q=>gt_int q
def xK:OpR X (compareOp .Lt) (λx y H Q=>∃i j,x=.str i/\y=.str j/\Q (.bl (decide (i.cps.toList<j.cps.toList))) H):=by intro pins s σ H x y v u Q I rx ry h;obtain⟨i,j,rfl,rfl,q⟩:=h;obtain⟨t,rfl⟩:=rx;obtain⟨t',rfl⟩:=ry;exact lt_str (tX I q rfl)
def op_isN:OpR X (compareOp .Is) (λx y H Q=>y=.non/\Q (.bl (decide (x=.non))) H):=by
 intro pins s σ H x y v u Q I rx ry h;obtain⟨rfl,q⟩:=h;cases ry;refine is_none_gen (tX I q ?_);cases x <;> first
  | (cases rx;rfl)
  | (obtain⟨t,rfl⟩:=rx;rfl)
def op_notN:OpR X (compareOp .IsNot) (λx y H Q=>y=.non/\Q (.bl (!decide (x=.non))) H):=by
 intro pins s σ H x y v u Q I rx ry h;obtain⟨rfl,q⟩:=h;cases ry;refine isnot_none_gen (tX I q ?_);cases x <;> first
  | (cases rx;rfl)
  | (obtain⟨t,rfl⟩:=rx;rfl)
def OpR.or{f:Value->Value->Sem Value}{r r':R2}(h:OpR X f r)(h':OpR X f r'):OpR X f (λx y H Q=>r x y H Q\/r' x y H Q):=by
 intro pins s σ H x y v u Q I rx ry q;rcases q with q|q;·exact h pins s σ H x y v u Q I rx ry q
 ·exact h' pins s σ H x y v u Q I rx ry q
def kn(b:Expr){op:CmpOp}(h:op≠.In:=by decide)(h2:op≠.NotIn:=by decide):behindInMarks op b=false:=by
 have e1:(op==CmpOp.In)=false:=by cases op <;> first|rfl|exact absurd rfl h
 have e2:(op==CmpOp.NotIn)=false:=by cases op <;> first|rfl|exact absurd rfl h2
 cases b <;> simp[behindInMarks,e1,e2]
def CY{op:CmpOp}{r:R2}(ho:OpR X (compareOp op) r)(ha:PE X a ta)(hb:PE X b tb)(hm:behindInMarks op b=false):PE X (.Compare a [op] [b] pos) (tOp r ta tb):=by intro pins s σ H Q I h;exact wpAny_Compare1 (GX ha hb I h λv u s2 x y H2 I2 rx ry q=>ho pins s2 σ H2 x y v u Q I2 rx ry q) hm
noncomputable def DR(t:TE):TT:=λσ H Q=>t σ H λx H'=>∃k,x=.bl k/\Q k H'
def Cp{op:CmpOp}{r:R2}(ho:OpR X (compareOp op) r)(ha:PE X a ta)(hb:PE X b tb)(hm:behindInMarks op b=false):PT X (.Compare a [op] [b] pos) (DR (tOp r ta tb)):=by intro pins s σ H Q I h;refine wpAny_isTrue_Compare1 (thn (ha pins s σ H _ I h) λv s1 ⟨x,H1,I1,r1,q1⟩=>thn (hb pins s1 σ H1 _ I1 q1) λu s2 ⟨y,H2,I2,r2,q2⟩=>thn (ho pins s2 σ H2 x y v u _ I2 r1 r2 q2) λc s3 ⟨z,H3,I3,r3,k,e,q3⟩=>?_) hm;subst e;cases r3;exact k6 ⟨H3,I3,q3⟩
noncomputable def Bu(r r':R2)(ta tb tc:TE):TE:=λσ H Q=>ta σ H λx H1=>tb σ H1 λy H2=>r x y H2 λz H3=>∃k,z=.bl k/\
 (if k=true then tc σ H3 λw' H4=>r' y w' H4 Q else Q (.bl false) H3)
def AF{op op':CmpOp}{r r':R2}(ho:OpR X (compareOp op) r)(ho':OpR X (compareOp op') r')(ha:PE X a ta)(hb:PE X b tb)(hc:PE X c tc)(hm:lastMarks [op,op'] [b,c]=false:=by with_unfolding_all rfl):PE X (.Compare a [op,op'] [b,c] pos) (Bu r r' ta tb tc):=by
 intro pins s σ H Q I h;refine Compare_chain (thn (ha pins s σ H _ I h) λv s1 ⟨x,H1,I1,r1,q1⟩=>chain_link (thn (hb pins s1 σ H1 _ I1 q1) λu s2 ⟨y,H2,I2,r2,q2⟩=>thn (ho pins s2 σ H2 x y v u _ I2 r1 r2 q2) λd s3 ⟨z,H3,I3,r3,k,e,q3⟩=>?_)) hm;subst e;cases r3;refine k6 ?_;cases k with
 |false=>exact ite_ff ⟨.bl false,H3,I3,rfl,q3⟩
 |true=>exact ite_tt (chain_last (thn (hc pins s3 σ H3 _ I3 q3) λw' s4 ⟨z',H4,I4,r4,q4⟩=>ho' pins s4 σ H4 y z' u w' Q I4 r2 r4 q4))
def zL{op op':CmpOp}{r r':R2}(ho:OpR X (compareOp op) r)(ho':OpR X (compareOp op') r')(ha:PE X a ta)(hb:PE X b tb)(hc:PE X c tc)(hm:lastMarks [op,op'] [b,c]=false:=by with_unfolding_all rfl):PT X (.Compare a [op,op'] [b,c] pos) (DR (Bu r r' ta tb tc)):=by
 intro pins s σ H Q I h;refine isTrue_chain (thn (ha pins s σ H _ I h) λv s1 ⟨x,H1,I1,r1,q1⟩=>test_link (thn (hb pins s1 σ H1 _ I1 q1) λu s2 ⟨y,H2,I2,r2,q2⟩=>thn (ho pins s2 σ H2 x y v u _ I2 r1 r2 q2) λd s3 ⟨z,H3,I3,r3,k,e,q3⟩=>?_)) hm;subst e;cases r3;refine k6 ?_;cases k with
 |false=>obtain⟨k',e',q'⟩:=q3;cases e';exact ite_ff ⟨H3,I3,q'⟩
 |true=>refine ite_tt (test_last (thn (hc pins s3 σ H3 _ I3 q3) λw' s4 ⟨z',H4,I4,r4,q4⟩=>thn (ho' pins s4 σ H4 y z' u w' _ I4 r2 r4 q4) λd' s5 ⟨z2,H5,I5,r5,k2,e2,q5⟩=>?_));subst e2;cases r5;exact k6 ⟨H5,I5,q5⟩
noncomputable def Jf(K:W.Frag)(x:V)(H:Hp)(k:Bool):Prop:=
 match x with
 |.non=>k=false
 |.bl b=>k=b
 |.int i=>k=(i != 0)
 |.str y=>y.length<=sizeLine/\k=((y.length:Int) != 0)
 |.byt y=>y.size<=sizeLine/\k=((y.size:Int) != 0)
 |.ref p=>(∃xs,SqL K H p xs/\k = !xs.isEmpty)\/(∃xs,SqT K H p xs/\k = !xs.isEmpty)\/∃kvs,H p=some (.dK kvs)/\k = !kvs.isEmpty
 |_=>False
def vt{κ:Type}{kvs:List (κ×V)}{vs:List (κ×Value)}(r:KV kvs vs):(!vs.isEmpty) = !kvs.isEmpty:=by cases r <;> rfl
def mX(r:Vals xs its):(!its.toArray.isEmpty) = !xs.isEmpty:=by cases r <;> simp
def kq:(sizeLine:Nat)<2 ^ 63:=by rw[pN];decide
def D6:J4 X (λx H Q=>∃k,Jf X.K x H k/\Q k H):=by
 intro pins s σ H x v Q I rx h;obtain⟨k,e,q⟩:=h;have hl:=kq;have hs:sizeLine=16777216:=pN;cases x with
 |non=>cases rx;have e':k=false:=e;subst e';exact truthy_none ⟨H,I,q⟩
 |bl b=>cases rx;have e':k=b:=e;subst e';exact k6 ⟨H,I,q⟩
 |int i=>obtain⟨t,rfl⟩:=rx;have e':k=(i != 0):=e;subst e';exact PySem.P.truthy_int ⟨H,I,q⟩
 |str y=>obtain⟨t,rfl⟩:=rx;obtain⟨hy,e'⟩:y.length<=sizeLine/\k=((y.length:Int) != 0):=e;subst e';exact PySem.P.truthy_str (by omega) ⟨H,I.tok _,q⟩
 |byt y=>obtain⟨t,rfl⟩:=rx;obtain⟨hy,e'⟩:y.size<=sizeLine/\k=((y.size:Int) != 0):=e;subst e';exact W.truthy_bytes (by omega) ⟨H,I.tok _,q⟩
 |ref p=>
  cases rx;have e':(∃xs,SqL X.K H p xs/\k = !xs.isEmpty)\/(∃xs,SqT X.K H p xs/\k = !xs.isEmpty)\/∃kvs,H p=some (.dK kvs)/\k = !kvs.isEmpty:=e;rcases e' with⟨xs,hx,e'⟩|⟨xs,hx,e'⟩|⟨kvs,hx,e'⟩
  ·subst e';obtain⟨its,r,pl,hz⟩:=I.list hx;have hlen:=r.length;exact wpAny_truthy_list pl.isList (by simp only[v4];omega) ⟨H,I.tok _,by rw[mX r];exact q⟩
  ·subst e';obtain⟨its,r,pl,hz⟩:=I.tuple hx;have hlen:=r.length;exact truthy_tuple pl (by simp only[v4];omega) ⟨H,I.tok _,by rw[mX r];exact q⟩
  ·subst e';obtain⟨hz,hS,vs,r,m⟩:kvs.length<=sizeLine/\(p==sysModules)=false/\∃vs,KV kvs vs/\s.heap.DictOf (tz X.prog X.w) p vs:=I.hok p _ hx;have hlen:kvs.length=vs.length:=Paired.length r;exact wpAny_truthy_dict hS m (by omega) ⟨H,I.tok _,by rw[vt r];exact q⟩
 |_=>exact(show False from e).elim
def yJ(ha:PE X a ta)(he:∀whole,isTrue a X.env whole=(do let v <- whole;standAt a.pos;holding [v] (truthy v))):
  PT X a (λσ H Q=>ta σ H λx H'=>∃k,Jf X.K x H' k/\Q k H'):=by
 intro pins s σ H Q I h;exact isTrue_plain (thn (ha pins s σ H _ I h) λv s1 ⟨x,H1,I1,r1,q1⟩=>D6 pins s1 σ H1 x v Q I1 r1 q1) (he _)
def op_add_str:OpR X (binaryOp .Add) (λx y H Q=>∃i j,x=.str i/\y=.str j/\i.length+j.length<=sizeLine/\Q (.str (i++j)) H):=by intro pins s σ H x y v u Q I rx ry h;obtain⟨i,j,rfl,rfl,hz,q⟩:=h;obtain⟨t,rfl⟩:=rx;obtain⟨t',rfl⟩:=ry;exact add_str (λt' tk=>⟨.str (i++j),H,I.tok _,⟨_,rfl⟩,q⟩) hz
def sU{x:V}(r:Vals [x] us):∃u,us=[u]/\RelV x u:=by
 cases r with
 |cons r1 r2=>cases r2;exact⟨_,rfl,r1⟩
def Ir{x y:V}(r:Vals [x,y] us):∃u w',us=[u,w']/\RelV x u/\RelV y w':=by
 cases r with
 |cons r1 r2=>
  cases r2 with
  |cons r3 r4=>cases r4;exact⟨_,_,rfl,r1,r3⟩
def wS(hc:X.calm=true):gT X (.builtin "min") (λxs H Q=>∃i j,xs=[.int i,.int j]/\Q (.int (if j<i then j else i)) H):=by
 intro pins s σ H xs us Q I r h;obtain⟨i,j,rfl,q⟩:=h;obtain⟨u,w',rfl,⟨t,rfl⟩,⟨t',rfl⟩⟩:=Ir r;refine min_two_ints (I.ok.hd hc) λh' tk k=>⟨_,H,I.kept k,?_,q⟩
 by_cases hj:j<i;·rw[if_pos hj,if_pos hj];exact⟨_,rfl⟩
 ·rw[if_neg hj,if_neg hj];exact⟨_,rfl⟩
def zc:gT X (.builtin "ord") (λxs H Q=>∃x,xs=[.str x]/\x.length=1/\Q (.int (x.cps.getD 0 0:Nat)) H):=by intro pins s σ H xs us Q I r h;obtain⟨x,rfl,hz,q⟩:=h;obtain⟨u,rfl,t,rfl⟩:=sU r;exact ord_of_one hz ⟨.int _,H,I.tok _,⟨_,rfl⟩,q⟩
noncomputable def Ka(K:W.Frag)(x:V)(H:Hp)(n:Nat):Prop:=
 match x with
 |.str y=>y.length<=sizeLine/\n=y.length
 |.byt y=>y.size<=sizeLine/\n=y.size
 |.ref p=>(∃xs,SqL K H p xs/\n=xs.length)\/∃xs,SqT K H p xs/\n=xs.length
 |_=>False
def zQ:gT X (.builtin "len") (λxs H Q=>∃x n,xs=[x]/\Ka X.K x H n/\Q (.int n) H):=by
 intro pins s σ H xs us Q I r h;obtain⟨x,n,rfl,e,q⟩:=h;obtain⟨u,rfl,rx⟩:=sU r;have hl:=kq;have hs:sizeLine=16777216:=pN;cases x with
 |str y=>obtain⟨t,rfl⟩:=rx;obtain⟨hy,e'⟩:y.length<=sizeLine/\n=y.length:=e;subst e';exact len_str (by omega) ⟨.int _,H,I.tok _,⟨_,rfl⟩,q⟩
 |byt y=>obtain⟨t,rfl⟩:=rx;obtain⟨hy,e'⟩:y.size<=sizeLine/\n=y.size:=e;subst e';exact W.len_bytes (by omega) ⟨.int _,H,I.tok _,⟨_,rfl⟩,q⟩
 |ref p=>
  cases rx;have e':(∃xs,SqL X.K H p xs/\n=xs.length)\/∃xs,SqT X.K H p xs/\n=xs.length:=e;rcases e' with⟨xs,hx,e'⟩|⟨xs,hx,e'⟩
  ·subst e';obtain⟨its,r',pl,hz⟩:=I.list hx;have hlen:=r'.length;exact Calls.call_len_list pl.isList (by simp only[v4];omega) ⟨.int xs.length,H,I.tok _,⟨_,by simp only[v4];rw[hlen]⟩,q⟩
  ·subst e';obtain⟨its,r',pl,hz⟩:=I.tuple hx;have hlen:=r'.length;exact len_tuple pl (by simp only[v4];omega) ⟨.int xs.length,H,I.tok _,⟨_,by simp only[v4];rw[hlen]⟩,q⟩
 |_=>exact(show False from e).elim
end
structure ObjM(h:Heap)(x dx C:Addr)(mA:Str->Option Value):Prop where
 obj:h.get? x=some (W.instObj C dx)
 ns:h.Ns1 dx mA
 ne:dx≠x
noncomputable def lI(f:Str)(v:V):List (Str×V)->List (Str×V)
 | []=>[(f,v)]
 | (g,x)::r=>if g=f then (g,v)::r else (g,x)::lI f v r
structure Cls(K:W.Frag)(C:Addr):Prop where
 pg:W.plainGet K C Str.empty=true
 hd:W.hasDictIn K C=true
 po:W.plainOver K C=true
 sa:W.findIn K (.ref C) "__setattr__"=some (some (.builtin "object.__setattr__"))
noncomputable def FZ(K:W.Frag)(C:Addr)(f:Str):Prop:=W.findIn K (.ref C) f=some none
structure Con(K:W.Frag)(C:Addr)(f:Str)(v:V)(u:Value):Prop where
 at_:W.findIn K (.ref C) f=some (some u)
 rel:RelV v u
 get:W.specialIn K u "__get__"=some none
 cp:W.copiedNames.contains f=false
structure Meth(K:W.Frag)(C:Addr)(m:Str)(f:Addr):Prop where
 at_:W.findIn K (.ref C) m=some (some (.ref f))
 fn:W.isFn K (.ref f)=true
 kp:W.keepIn K (.ref f)=true
section
variable{A:Around}{Q:Value->Shared->Prop}{c:Value}{b:Bool}
inductive TyOf(K:W.Frag)(H:Hp):V->Value->Prop where
 |non:TyOf K H .non (.type "NoneType")
 |bl (x:Bool):TyOf K H (.bl x) (.type "bool")
 |int (i:Int):TyOf K H (.int i) (.type "int")
 |str (x:Str):TyOf K H (.str x) (.type "str")
 |flt (x:UInt64):TyOf K H (.flt x) (.type "float")
 |lst {a:Addr} {xs:List V} (e:H a=some (.lst xs)):TyOf K H (.ref a) (.type "list")
 |frz {a:Addr} {o:Obj} {xs:List V} (e:H a=some (.frz o (.lst xs))):TyOf K H (.ref a) (.type "list")
 |tup {a:Addr} {xs:List V} (e:H a=some (.tup xs)):TyOf K H (.ref a) (.type "tuple")
 |dK {a:Addr} {kvs:List (Key×V)} (e:H a=some (.dK kvs)):TyOf K H (.ref a) (.type "dict")
 |dT {a:Addr} {kvs:List (List Key×V)} (e:H a=some (.dT kvs)):TyOf K H (.ref a) (.type "dict")
 |ins {a C dx:Addr} {fs:List (Str×V)} (e:H a=some (.ins C dx fs)) (cl:Cls K C) (ha:W.findIn K (.ref C) "__class__"=some (some (.builtin "object.__class__")))
   (hn:W.specialIn K (.builtin "object.__class__") "__get__"=some (some (.builtin "getset_descriptor.__get__"))) (htk:W.takesIn K (.builtin "object.__class__")=some true)
   (hm:W.mroIn K C (.type "object")=some true):TyOf K H (.ref a) (.ref C)
end
structure Room(k:Nat)(A:Around):Prop where
 hd:A.handled=none
 dp:A.depth+3 * k+5<recursionLimit
 un:A.units+16 * k+200<cLine
def Room.mono{A:Around}(r:Room k A)(h:j<=k):Room j A:=⟨r.hd,by have:=r.dp;omega,by have:=r.un;omega⟩
def Room.deeper{A:Around}(r:Room (k+1) A)(env:Env):Room k (A.deeper env):=
 ⟨r.hd,by have:=r.dp;show A.depth+1+3 * k+5<_;omega,by have:=r.un;show A.units+3+16 * k+200<_;omega⟩
def Room.in1{A:Around}(r:Room (k+1) A):Room k A.in1:=
 ⟨r.hd,by have:=r.dp;show A.depth+3 * k+5<_;omega,by have:=r.un;show A.units+1+16 * k+200<_;omega⟩
def Room.depth{A:Around}(r:Room k A):A.depth<recursionLimit:=by have:=r.dp;omega
def Room.units{A:Around}(r:Room k A):A.units+64<cLine:=by have:=r.un;omega
noncomputable def GI:TA:=λ_ H Q=>Q [] H
noncomputable def uQ(ta:TE)(tr:TA):TA:=λσ H Q=>ta σ H λx H1=>tr σ H1 λxs H2=>Q (x::xs) H2
section
variable{e:Expr}{te:TE}{t:TA}{pos:Pos}
def gU:PA X [] GI:=λ_ _ _ _ H Q I h=>Calls.spliced_nil ⟨[],H,I,.nil,h⟩
def cE(ha:PE X e te)(hr:PA X es t)(hs:starEach (e::es) X.env=(false,eval e X.env)::starEach es X.env:=by rfl):PA X (e::es) (uQ te t):=by intro pos pins s σ H Q I h;rw[hs];show wpAny _ _ (spliced ((false,eval e X.env)::backTo pos (starEach es X.env))) _ _ s;refine Calls.spliced_cons (thn (ha pins s σ H _ I h) λu s1 ⟨x,H1,I1,r1,q1⟩=>?_);exact thn (hr pos pins s1 σ H1 _ I1 q1) λus s2 ⟨xs,H2,I2,r2,q2⟩=>⟨x::xs,H2,I2,.cons r1 r2,q2⟩
noncomputable def Kl(t:TA):TE:=λσ H Q=>t σ H λxs H1=>xs.length<=sizeLine/\∀p,H1 p=none->Q (.ref p) (upd H1 p (.tup xs))
noncomputable def Ji(t:TA):TE:=λσ H Q=>t σ H λxs H1=>xs.length<=sizeLine/\∀p,H1 p=none->Q (.ref p) (upd H1 p (.lst xs))
def A2 {x1} (h:PA X es t):PE X (.Tuple es x1 pos) (Kl t):=by intro pins s σ H Q I hq;refine wpAny_Tuple_spliced (thn (h pos pins s σ H _ I hq) λus s1 ⟨xs,H1,I1,r,z,q⟩=>⟨by rw[<- r.length];exact z,?_⟩);have hf:H1 s1.heap.objs.size=none:=I1.hok.fresh (yo _);refine⟨.ref s1.heap.objs.size,upd H1 s1.heap.objs.size (.tup xs),I1.laid (t':=s1.toks) (λb u e=>w8 _ e) (yo _) ?_,rfl,q _ hf⟩;exact⟨z,us,r,⟨_,t8 _ rfl,rfl,_,rfl⟩⟩
def Bk(h:PA X es t):PE X (.List es pos) (Ji t):=by intro pins s σ H Q I hq;refine wpAny_List_spliced (thn (h pos pins s σ H _ I hq) λus s1 ⟨xs,H1,I1,r,z,q⟩=>⟨by rw[<- r.length];exact z,?_⟩);have hf:H1 s1.heap.objs.size=none:=I1.hok.fresh (yo _);refine⟨.ref s1.heap.objs.size,upd H1 s1.heap.objs.size (.lst xs),I1.laid (t':=s1.toks) (λb u e=>w8 _ e) (yo _) ?_,rfl,q _ hf⟩;exact⟨z,us,0,r,t8 _ rfl⟩
end
noncomputable abbrev Sp:=List V->Hp->VK->XK->Prop
noncomputable abbrev CXT:=List Env->Hp->Shared->XK->Value->Shared->Prop
structure Env0(P:Program)(w:World)(K:W.Frag)(mg:Str->Option Value)(base:Heap)(A:Around)(outer:List Env)(s:Shared)(H:Hp):Prop where
 frames:A.frames=some outer
 mod:Mod K mg base
 bs:∀b o,base.get? b=some o->s.heap.get? b=some o/\H b=none
 bsz:base.objs.size<=s.heap.objs.size
 funs:s.heap.FunFrames base outer
 frf:∀b∈frs outer,H b=none
 hok:HOk P w H s.heap
 bare:AllBare s.gens
 tabs:TabsIn base H
noncomputable def CE(outer:List Env)(P:Program)(w:World)(H:Hp)(s:Shared)(Q:VK)(u:Value)(s':Shared):Prop:=
 ∃v H',s'.os=s.os/\AllBare s'.gens/\Un (frs outer) [] H H' s.heap s'.heap/\HOk P w H' s'.heap/\RelV v u/\Q v H'
noncomputable def CR(CX:CXT)(outer:List Env)(P:Program)(w:World)(H:Hp)(s:Shared)(Q:VK)(E:XK)(r:Result)(s':Shared):Prop:=
 match r with
 |.ok (.ret u)=>CE outer P w H s Q u s'
 |.ok _=>False
 |.error e=>CX outer H s E e s'
structure FnOk(P:Program)(w:World)(K:W.Frag)(mg:Str->Option Value)(base:Heap)(CX:CXT)(k:Nat)(f:Addr)(fd:FuncData)(ps:List Str)(sp:Sp):Prop where
 len:∀vs H Q E,sp vs H Q E->vs.length=ps.length
 run:∀(A:Around)(outer:List Env)(s:Shared)(H:Hp)(args:Args)(us:List Value)(vs:List V)(Q:VK)(E:XK),Room k A->Env0 P w K mg base A outer s H->BindsTo s fd args (ps.zip us)->Vals vs us->sp vs H Q E->
  codeAny (model P w) A (.call (.ref f) args) (CR CX outer P w H s Q E) s
def FnOk.imp{w:World}{K:W.Frag}{mg:Str->Option Value}{base:Heap}{CX:CXT}{sp sp':Sp}(F:FnOk P w K mg base CX k f fd ps sp)(h:∀vs H Q E,sp' vs H Q E->sp vs H Q E):FnOk P w K mg base CX k f fd ps sp':=
 ⟨λvs H Q E q=>F.len vs H Q E (h _ _ _ _ q),λA outer s H args us vs Q E hr he hb hv hs=>F.run A outer s H args us vs Q E hr he hb hv (h _ _ _ _ hs)⟩
section
def Inv.env0(I:Inv X pins σ H s):Env0 X.prog X.w X.K X.mg X.base X.A X.stack s H:=
 ⟨I.ok.frames,I.ok.mod,I.bs,w9 I.ok.bsz I.sz,I.stack,I.stkFree,I.hok,I.bare,I.ok.tabs.un I.base⟩
def Inv.after{Q:VK}{u:Value}(I:Inv X pins σ H s)(h:CE X.stack X.prog X.w H s Q u s'):EP X pins σ Q u s':=by obtain⟨v,H',os,bare,un,hok,r,q⟩:=h;obtain⟨hh,g,d,t,os'⟩:=s';obtain rfl:os'=s.os:=os;exact⟨v,H',I.call (h':=hh) (g':=g) (d':=d) (t':=t) (ch:=[]) un hok bare (λb z=>absurd z (by simp)),r,q⟩
end
noncomputable def Binds(K:W.Frag)(fd:FuncData)(ps:List Str)(ds:List Value):Prop:=
 ∀(s:Shared)(us:List Value),K.In s.heap->(us++ds).length=ps.length->BindsTo s fd ⟨us,[]⟩ (ps.zip (us++ds))
def Binds.all{K:W.Frag}(h:∀us:List Value,us.length=ps.length->bindArgs fd ⟨us,[]⟩=pure (ps.zip us)):Binds K fd ps []:=λs us _ hl=>by rw[mP]at hl⊢;exact .of_eq (h us hl)
section
variable{CX:CXT}{sp:Sp}{dvs:List V}{ds:List Value}{E:XK}{m:Str}{pos apos:Pos}{e o:Expr}{ta:TE}{t:TA}
structure Mk(K:W.Frag)(C f:Addr):Prop where
 makes:W.makesIn K C=true
 init:W.findIn K (.ref C) "__init__"=some (some (.ref f))
 fn:W.isFn K (.ref f)=true
 kp:W.keepIn K (.ref C)=true
end
section
variable{CX:CXT}{ks:List Str}{sp:Sp}{E:XK}{m:Str}{pos apos kpos:Pos}{e o:Expr}{kws:List Keyword}{te ta:TE}{t tk:TA}{nm:Option Str}
structure KBinds(K:W.Frag)(fd:FuncData)(ps ks:List Str)(g:List Value->List Value->List Value)(gV:List V->List V->List V):Prop where
 to:∀(s:Shared)(us ws:List Value),K.In s.heap->(g us ws).length=ps.length->BindsTo s fd ⟨us,ks.zip ws⟩ (ps.zip (g us ws))
 rel:∀{vs:List V}{us:List Value}{zs:List V}{ws:List Value},Vals vs us->Vals zs ws->Vals (gV vs zs) (g us ws)
variable{g:List Value->List Value->List Value}{gV:List V->List V->List V}
end
structure FnScope(N P:List Str)(sc:Scope):Prop where
 kind:sc.kind=.function
 co:sc.isCoroutine=false
 gen:sc.isGenerator=false
 nd:N.Nodup
 pre:N.take P.length=P
 par:∀x∈P,sc.names.lookup x=some .local\/sc.names.lookup x=some .cell
 nofree:∀y∈sc.names,y.2≠.free
theorem qV{kindOf:Str->Option NameKind}{x:Str}:∀{binds:List (Str×Value)}{m:Str->Option Value},(∀v,(x,v)∉binds)->bindL kindOf binds m x=m x
 | [],_,_=>rfl
 | (n,v)::r,m,h=>by
  unfold bindL;rw[qV λw hw=>h w (rO _ hw)];split
  ·have:x≠n:=by rintro rfl;exact h v sS
   simp[this]
  ·rfl
theorem qR{kindOf:Str->Option NameKind}{x:Str}:∀{binds:List (Str×Value)}{m:Str->Option Value},(∀v,(x,v)∉binds)->bindC kindOf binds m x=m x
 | [],_,_=>rfl
 | (n,v)::r,m,h=>by
  unfold bindC;rw[qR λw hw=>h w (rO _ hw)];split;·rfl
  ·have:x≠n:=by rintro rfl;exact h v sS
   simp[this]
theorem qr{kindOf:Str->Option NameKind}{x:Str}{v:Value}:∀{P:List Str}{vs:List Value}{i:Nat}{m:Str->Option Value},P.Nodup->P[i]?=some x->vs[i]?=some v->kindOf x=some .local->
  bindL kindOf (P.zip vs) m x=some v
 | [],_,_,_,_,h,_,_=>by simp at h
 |_::_,[],_,_,_,_,h,_=>by simp at h
 |p::P,w::vs,0,m,nd,h1,h2,hk=>by simp at h1 h2;subst h1;subst h2;show bindL kindOf ((p,w)::P.zip vs) m p=_;unfold bindL;rw[qV λv hv=>(k7.mp nd).1 (bY hv).1,if_pos hk];simp
 |p::P,w::vs,i+1,m,nd,h1,h2,hk=>by show bindL kindOf ((p,w)::P.zip vs) m x=_;unfold bindL;exact qr (i:=i) (k7.mp nd).2 (by simpa using h1) (by simpa using h2) hk
theorem qc{kindOf:Str->Option NameKind}{x:Str}{v:Value}:∀{P:List Str}{vs:List Value}{i:Nat}{m:Str->Option Value},P.Nodup->P[i]?=some x->vs[i]?=some v->kindOf x≠some .local->
  bindC kindOf (P.zip vs) m x=some v
 | [],_,_,_,_,h,_,_=>by simp at h
 |_::_,[],_,_,_,_,h,_=>by simp at h
 |p::P,w::vs,0,m,nd,h1,h2,hk=>by simp at h1 h2;subst h1;subst h2;show bindC kindOf ((p,w)::P.zip vs) m p=_;unfold bindC;rw[qR λv hv=>(k7.mp nd).1 (bY hv).1,if_neg hk];simp
 |p::P,w::vs,i+1,m,nd,h1,h2,hk=>by show bindC kindOf ((p,w)::P.zip vs) m x=_;unfold bindC;exact qc (i:=i) (k7.mp nd).2 (by simpa using h1) (by simpa using h2) hk
noncomputable def mB(N:List Str)(vs:List V):St:=vs.map some++List.replicate (N.length - vs.length) none
noncomputable def gM(CX:CXT)(P:Program)(w:World)(K:W.Frag)(mg:Str->Option Value)(base:Heap)(N:List Str)(qual:Str)(scope:Scope)(f:Addr)(cd:Value)(A:Around)(outer:List Env)(s:Shared)(H:Hp)(E:XK):Cx where
 prog:=P
 w:=w
 K:=K
 mg:=mg
 base:=base
 A:=A.deeper (envOfC qual scope s.heap.objs.size f cd)
 N:=N
 s₀:=s
 H₀:=H
 env:=envOfC qual scope s.heap.objs.size f cd
 outer:=outer
 stack:=envOfC qual scope s.heap.objs.size f cd::outer
 ex:=[]
 calm:=true
 fn:=λ_=>true
 pn:=[]
 xe:=λe s'=>wpAny (model P w) (A.deeper (envOfC qual scope s.heap.objs.size f cd)) (leaving (envOfC qual scope s.heap.objs.size f cd) e) (λ_ s''=>CX outer H s E e s'') (λe' s''=>CX outer H s E e' s'') s'
def ud{sc:Scope}(h:sc.names.lookup x=some .cell):∃c,(cellsFrom n sc.names []).lookup x=some c:=by have q:=W.cellsFrom_some sc.names n [] (.inl h);exact Option.isSome_iff_exists.mp q
def wf{CX:CXT}{w:World}{K:W.Frag}{mg:Str->Option Value}{base:Heap}{N:List Str}{A:Around}{outer:List Env}{s1:Shared}{E:XK}(S:FnScope N ps scope)(hd:A.handled=none)(e0:Env0 P w K mg base A outer s H)(hl:vs.length=ps.length)(r:Vals vs us)(x:InCallC s s.heap.objs.size (bindL (envOfC qual scope s.heap.objs.size f cd).kindOf (ps.zip us) λ_=>none) (cellsFrom (s.heap.objs.size+1) scope.names []) (bindC (envOfC qual scope s.heap.objs.size f cd).kindOf (ps.zip us) λ_=>none) s1):
  Inv (gM CX P w K mg base N qual scope f cd A outer s H E) [] (mB N vs) H s1:=by
 have hpl:ps.length<=N.length:=by have:=n0 List.length S.pre;rw[d7]at this;omega
 obtain⟨h1,tk,rfl,hk⟩:=x.done;have noA:∀b:Addr,b∉(gM CX P w K mg base N qual scope f cd A outer s H E).ex:=λb z=>absurd (show b∈([]:List Addr) from z) (by simp);refine⟨⟨e0.mod,S.kind,rfl,rfl,yo _,λy z c h1 h2=>?_,λy hy=>?_,λy c _ h=>?_,λ_=>hd,Around.frames_deeper e0.frames,.inr ⟨rfl,rfl⟩,λb z=>absurd z (noA b),e0.bs,e0.bsz,λb _ _=>noA b,λb z=>absurd z (noA b),e0.funs,e0.frf,e0.tabs⟩,
  rfl,e0.bare,Un.kept hk,⟨_,x.toInCall.ns,λi y v h1 h2 h3=>?_⟩,λy c h=>⟨_,x.cell y c h⟩,e0.hok.fresh (yo _),λy c h=>?_,λp hp=>absurd (show p∈([]:List (Addr×Obj)) from hp) (by simp),e0.hok.kept hk,?_⟩;·exact name_of_addr x.apart (k8 h1) (k8 h2)
 ·have hy:scope.names.lookup y=some .cell\/scope.names.lookup y=some .free:=hy;rcases hy with hy|hy;·exact ud hy
  ·exact absurd rfl (S.nofree _ (k8 hy))
 ·exact b9 (x.above y c (k8 h))
 ·have hi:i<vs.length:=by
   unfold mB at h2;by_cases hi:i<vs.length;·exact hi
   ·rw[i6 (by simpa using hi)]at h2;rw[i7]at h2;split at h2 <;> cases h2
  have ha:vs[i]?=some v:=by
   unfold mB at h2;rw[i8 (by simpa using hi),v8]at h2;cases e:vs[i]? with
   |none=>rw[e]at h2;cases h2
   |some a=>rw[e]at h2;cases h2;rfl
  obtain⟨u,hu,rv⟩:=r.get ha;have hp:ps[i]?=some y:=by rw[<- S.pre,List.getElem?_take_of_lt (by omega)];exact h1
  have ndP:ps.Nodup:=by rw[<- S.pre];exact S.nd.sublist (List.take_sublist _ _)
  refine⟨u,rv,?_⟩;rcases S.par y (mW hp)with k|k;·exact .inl ⟨k,qr ndP hp hu k⟩
  ·obtain⟨c,e⟩:=ud (n:=s.heap.objs.size+1) k;refine .inr ⟨.inl k,c,e,?_⟩;have q:=x.cell y c e;rw[qc ndP hp hu (by show scope.names.lookup y≠_;rw[k];decide)]at q;exact q
 ·exact e0.hok.fresh (b9 (x.above y c (k8 h)))
 ·unfold mB;show _=N.length;rw[rR,za,o5];omega
def BW{CX:CXT}{w:World}{K:W.Frag}{mg:Str->Option Value}{base:Heap}{name:Str}{params:Arguments}{dV kV doc pm ct:Value}{N:List Str}{sp:Sp}(lk:K.lookup f=some ⟨oc,od,.func (W.fnOf name qual params body scope dV kV doc pm an cdv ct),osl⟩)(hcd:W.codeIn K cdv qual=true)(S:FnScope N ps scope)(len:∀vs H Q E,sp vs H Q E->vs.length=ps.length)(hbody:∀(A:Around)(outer:List Env)(s:Shared)(H:Hp)(vs:List V)(Q:VK)(E:XK),Room k (A.deeper (envOfC qual scope s.heap.objs.size f cdv))->sp vs H Q E->
 ∃t,PSs (gM CX P w K mg base N qual scope f cdv A outer s H E) body t/\t { nx:=λ_ H'=>Q .non H',rt:=Q } (mB N vs) H):
  FnOk P w K mg base CX (k+1) f (W.fnOf name qual params body scope dV kV doc pm an cdv ct) ps sp:=by
 refine⟨len,λA outer s H args us vs Q E hr e0 hb r hsp=>?_⟩;have hl:=len _ _ _ _ hsp;have KX:K.In s.heap:=e0.mod.kin.keeps λb o e=>(e0.bs b o e).1;have lim:s.heap.NoLimit:=e0.mod.nolimit.keeps λb o e=>(e0.bs b o e).1;have hkind:∀y∈ps.zip us,scope.names.lookup y.1=some .local\/(scope.names.lookup y.1=some .cell/\((cellsFrom (s.heap.objs.size+1) scope.names []).lookup y.1).isSome=true):=λ⟨n,v⟩ hy=>by
  rcases S.par n (bY hy).1 with q|q;·exact .inl q
  ·exact .inr ⟨q,W.cellsFrom_some _ _ _ (.inl q)⟩
 refine codeAny_call_function hr.depth (KX _ _ lk) rfl S.co S.gen rfl (W.codeRec_of KX hcd) (hb _ _ _ _ ?_);refine wpAny_newFunctionEnv_cells S.kind hkind λenv he s1 x=>?_;subst he;refine⟨lim.keeps x.toInCall.keep,codeAny_func ?_⟩;obtain⟨t,ht,hq⟩:=hbody A outer s H vs Q E (hr.deeper _) hsp;have I:Inv (gM CX P w K mg base N qual scope f cdv A outer s H E) [] (mB N vs) H s1:=wf S hr.hd e0 hl r x;refine t7 (ht [] s1 (mB N vs) H _ I hq) (λfl s' hs=>?_) λe s' hs=>hs;have fin:∀{σ':St}{H':Hp}{v:V}{u:Value},Inv (gM CX P w K mg base N qual scope f cdv A outer s H E) [] σ' H' s'->RelV v u->Q v H'->CE outer P w H s Q u s':=
  λ{σ' H' v u} J rv q=>⟨v,H',J.os,J.bare,J.base,J.hok,rv,q⟩
 cases fl with
 |ret u=>obtain⟨v,σ',H',J,rv,q⟩:=hs;exact fin J rv q
 |next=>obtain⟨σ',H',J,q⟩:=hs;exact fin (v:=V.non) (u:=Value.none) J rfl q
 |brk=>obtain⟨_,_,_,q⟩:=hs;exact False.elim q
 |cont=>obtain⟨_,_,_,q⟩:=hs;exact False.elim q
end L2
variable{CX:L2.CXT}
namespace L2
open PySem PySem.Spec PyProof.Rows
section
variable{pos:Pos}{e:Expr}{t:TA}{id T:String}{r:List V->Hp->VK->Prop}
noncomputable def tCB(r:List V->Hp->VK->Prop)(t:TA):TE:=λσ H Q=>t σ H λvs H1=>r vs H1 Q
def jH(hc:gT X (.builtin id) r)(hg:Gl X x)(hm:X.mg x=none)(hv:bootBuiltins x=some (.builtin id))(ha:PA X (e::es) t)(hn:x≠"__name__":=by decide)(hdb:(x==("__debug__":Str))=false:=by decide)(he:starEach (e::es) X.env=(false,eval e X.env)::starEach es X.env:=by rfl)(hpl:(backTo pos (starEach es X.env)).any (·.1)=false:=by rfl):PE X (.Call (.Name x p) (e::es) [] pos) (tCB r t):=by
 intro pins s σ H Q I h;refine Zi (lU I hg hm hv ?_ hn hdb);exact callWith_builtin1 (thn (ha pos pins s σ H _ I h) λus s1 ⟨vs,H1,I1,r1,q1⟩=>hc pins s1 σ H1 vs us Q I1 r1 q1) he hpl
def lR(hc:gT X (.type T) r)(hg:Gl X x)(hm:X.mg x=none)(hv:bootBuiltins x=some (.type T))(ha:PA X (e::es) t)(hn:x≠"__name__":=by decide)(hdb:(x==("__debug__":Str))=false:=by decide)(he:starEach (e::es) X.env=(false,eval e X.env)::starEach es X.env:=by rfl)(hpl:(backTo pos (starEach es X.env)).any (·.1)=false:=by rfl):PE X (.Call (.Name x p) (e::es) [] pos) (tCB r t):=by
 intro pins s σ H Q I h;refine Zi (lU I hg hm hv ?_ hn hdb);exact callWith_type1 (thn (ha pos pins s σ H _ I h) λus s1 ⟨vs,H1,I1,r1,q1⟩=>hc pins s1 σ H1 vs us Q I1 r1 q1) he hpl
end
end L2
namespace HT
open PySem PyProof.Rows
section
open PySem.SeqAt
open PySem.AutoSeq1 (wpAny_loadPart')
open PySem.MeetsSeq PySem.MeetsSeq2 PySem.MeetsSeq3
end
section
variable{prog:Program}{w:World}{A:Around}
theorem cat_tup{t b:Addr}{vs ws:List Value}{Q:Value->Shared->Prop}(ht:IsTup s.heap t vs.toArray)(hb:IsTup s.heap b ws.toArray)(hv:vs≠[])(h1:ws=[]->Q (.ref t) s)(h2:ws≠[]->Q (.ref s.heap.objs.size) { s with heap:=s.heap.push { cls:=.type "tuple",data:=.seq (vs++ws).toArray } })(hsz:vs.length+ws.length<=sizeLine):wpAny (model prog w) A (binaryOp .Add (.ref t) (.ref b)) Q E s:=by
 obtain⟨⟨cls,dd,data,sl⟩,ho,hc,n,hd⟩:=id ht;obtain⟨⟨cls2,dd2,data2,sl2⟩,ho2,hc2,n2,hd2⟩:=id hb;simp only at hc hd hc2 hd2;subst hc hd hc2 hd2;have e:vs.toArray++ws.toArray=(vs++ws).toArray:=by simp
 by_cases hw:ws=[]
 ·exact concat_meets ⟨_,ho,rfl⟩ ⟨_,ho2,rfl⟩ ZT seq_tuple_add F.slot_tuple_add F.entry_tuple_add (F.args_tuple_add_2 _ _)
   (tuple_addW1 t b vs.toArray ws.toArray n n2 dd dd2 sl sl2 (by simpa using hv) (by simp[hw])) ⟨ho,ho2,h1 hw⟩
 ·refine concat_meets ⟨_,ho,rfl⟩ ⟨_,ho2,rfl⟩ ZT seq_tuple_add F.slot_tuple_add F.entry_tuple_add (F.args_tuple_add_2 _ _)
   (tuple_addW2 t b vs.toArray ws.toArray n n2 dd dd2 sl sl2 (by simpa using hv) (by simpa using hw) (by rw[v4,v4];exact hsz)) ⟨ho,ho2,?_⟩;rw[e];exact h2 hw
noncomputable def sIx(n d:Nat):Option Int->Nat
 |none=>d
 |some v=>if v<0 then (v+(n:Int)).toNat else min v.toNat n
def sIx_none(n d:Nat):sIx n d none=d:=rfl
def sIx_nat(n d k:Nat):sIx n d (some (k:Int))=min k n:=by show(if (k:Int)<0 then ((k:Int)+(n:Int)).toNat else min (k:Int).toNat n)=min k n;rw[if_neg (by omega),tI]
def sIx_le(n d:Nat)(hd:d<=n)(o:Option Int):sIx n d o<=n:=by
 cases o with
 |none=>exact hd
 |some v=>
  show(if v<0 then (v+(n:Int)).toNat else min v.toNat n)<=n;by_cases hv:v<0;·rw[if_pos hv];omega
  ·rw[if_neg hv];exact Nat.min_le_right _ _
def vK(v:Int)(n d:Nat):(if v<0 then max (v+(n:Int)) 0 else min v (n:Int))=((sIx n d (some v):Nat):Int):=by
 show(if v<0 then max (v+(n:Int)) 0 else min v (n:Int))=(((if v<0 then (v+(n:Int)).toNat else min v.toNat n):Nat):Int);by_cases hv:v<0;·simp only[if_pos hv];omega
 ·simp only[if_neg hv];omega
def vD(lo hi:Option Int)(n:Nat):Builtin.Slice.sliceAdjust lo hi 1 (n:Int)=(((sIx n 0 lo:Nat):Int),((sIx n n hi:Nat):Int)):=by
 have h1 : ¬ ((1:Int)<0):=by omega
 unfold Builtin.Slice.sliceAdjust;simp only[h1,qd];refine Prod.ext ?_ ?_
 ·cases lo with
  |none=>rfl
  |some v=>exact vK v n 0
 ·cases hi with
  |none=>rfl
  |some v=>exact vK v n n
def vB(i j:Nat):Builtin.Slice.slicePlaces (i:Int) (j:Int) 1=j - i:=by
 unfold Builtin.Slice.slicePlaces;have h1:(1:Int) > 0:=by omega
 simp only[h1,t9,Int.ediv_one];split <;> omega
def mZ{v:Value}{o:Option Int}{Q:Option Int->Shared->Prop}(p:IsPart v o)(h:Q o s):wpAny (model prog w) A (Builtin.Slice.slicePartIndex v) Q E s:=by
 cases p with
 |none=>exact slicePart_none h
 |int i t=>exact slicePart_int h
def sliceApplied_gen{sl:Addr}{vl vu:Value}{lo hi:Option Int}{Q:Int×Int×Nat->Shared->Prop}(hs:s.heap.IsSliceOf sl vl vu .none)(pl:IsPart vl lo)(pu:IsPart vu hi)(h:Q (((sIx n 0 lo:Nat):Int),1,sIx n n hi - sIx n 0 lo) s):wpAny (model prog w) A (Builtin.Slice.sliceApplied (.ref sl) (pure (n:Int))) Q E s:=by
 obtain⟨os,hos,hcs,hds⟩:=id hs;unfold Builtin.Slice.sliceApplied Builtin.Slice.sliceFields;refine z6 (z6 (qC hos hds (x:=vl) rfl (z6 (qC hos hds (x:=vu) rfl (z6 (qC hos hds (x:=.none) rfl (z9 ?_)))))));refine z6 (slicePart_none ?_);show wpAny _ _ (if ((1:Int)==0)=true then _ else _) _ _ s;rw[if_neg (by decide)];refine z6 (mZ pl (z6 (mZ pu (z6 (z9 ?_)))));show wpAny _ _ (match Builtin.Slice.sliceAdjust lo hi 1 (n:Int)with|(lo,hi)=>pure (lo,(1:Int),Builtin.Slice.slicePlaces lo hi 1)) _ _ s;rw[vD lo hi n];show wpAny _ _ (pure (((sIx n 0 lo:Nat):Int),(1:Int),Builtin.Slice.slicePlaces ((sIx n 0 lo:Nat):Int) ((sIx n n hi:Nat):Int) 1)) _ _ s;rw[vB];exact z9 h
def AM(xs:Array Value)(i k:Nat):((List.range k).filterMap λ(m:Nat)=>xs[((i:Int)+(m:Int) * 1).toNat]?).toArray=((xs.toList.drop i).take k).toArray:=by
 have e:(λ(m:Nat)=>xs[((i:Int)+(m:Int) * 1).toNat]?)=λm=>xs[i+m]?:=by
  funext m
  have:((i:Int)+(m:Int) * 1).toNat=i+m:=by omega
  rw[this]
 rw[e];have:=pick_run xs i k;rw[List.filterMap_map]at this;have e2:((λx=>xs[x]?) ∘ λx=>i+x)=λm=>xs[i+m]?:=rfl;rw[e2]at this;rw[this]
def getItem_tuple_cut{t sl:Addr}{items:Array Value}{vl vu:Value}{lo hi:Option Int}{Q:Value->Shared->Prop}(ht:IsTup s.heap t items)(hs:s.heap.IsSliceOf sl vl vu .none)(pl:IsPart vl lo)(pu:IsPart vu hi)(hw : ¬ (sIx items.size 0 lo=0/\sIx items.size items.size hi=items.size))(h:Q (.ref s.heap.objs.size) { s with heap:=s.heap.push { cls:=.type "tuple",data:=.seq ((items.toList.drop (sIx items.size 0 lo)).take (sIx items.size items.size hi - sIx items.size 0 lo)).toArray } })(hsz:items.size<=sizeLine):wpAny (model prog w) A (getItem (.ref t) (.ref sl)) Q E s:=by
 have htake:sizeOk (.seq ((items.toList.drop (sIx items.size 0 lo)).take (sIx items.size items.size hi - sIx items.size 0 lo)).toArray):=by show((items.toList.drop (sIx items.size 0 lo)).take (sIx items.size items.size hi - sIx items.size 0 lo)).toArray.size<=sizeLine;rw[v4,d7,d8,nE];omega
 have hj:sIx items.size items.size hi<=items.size:=sIx_le _ _ (yo _) hi;obtain⟨os,hos,hcs,hds⟩:=id hs;have hTs:s.TypeIs (.ref sl) "slice":=⟨os,hos,hcs⟩
 unfold getItem
 try with_reducible refine k9 ?_
 first|refine z6 (z9 ?_)|skip
 refine z6 (wpAny_sequenceKey ht.typeIs (by decide) ?_);refine z6 (kY (name:=Str.ofString "__getitem__") ht.typeIs slot_tuple_getitem
  (lH slot_tuple_getitem ht.typeIs entry_tuple_getitem ?_ (args_tuple_getitem _ _)));show wpAny _ _ (Builtin.Tuple.tupleItemsOf (.ref t)>>=_) _ _ s;refine z6 (aT ht ?_);refine z6 (Z0 hTs ?_);rw[if_pos (by decide)];refine z6 (sliceApplied_gen hs pl pu ?_);have hno : ¬ ((((sIx items.size 0 lo:Nat):Int)==0 && (1:Int)==1 && (sIx items.size items.size hi - sIx items.size 0 lo)==items.size)=true):=by
  intro q;rw[o7,o7]at q;have q1:((sIx items.size 0 lo:Nat):Int)=0:=d9 q.1.1;have q2:sIx items.size items.size hi - sIx items.size 0 lo=items.size:=d9 q.2;exact hw ⟨by omega,by omega⟩
 show wpAny _ _ (if (((sIx items.size 0 lo:Nat):Int)==0 && (1:Int)==1 && (sIx items.size items.size hi - sIx items.size 0 lo)==items.size)=true then _ else _) _ _ s;rw[if_neg hno,AM]
 first
  |exact z6 (m:=Builtin.Tuple.tupleExact _) (mz (z9 ⟨_,rfl,z9 h⟩) htake)
  |exact z6 (m:=Builtin.Tuple.tupleExact _) (mz (z6 (z9 (z9 ⟨_,rfl,z9 h⟩))) htake)
  |exact z6 (z6 (m:=Builtin.Tuple.tupleExact _) (mz (z9 (z9 ⟨_,rfl,z9 h⟩)) htake))
  |exact z6 (z6 (m:=Builtin.Tuple.tupleExact _) (mz (z9 ⟨_,rfl,z9 h⟩) htake))
end
end HT
namespace L2
open PySem PySem.Spec PyProof.Rows
noncomputable abbrev TO:=St->Hp->(Option Int->Hp->Prop)->Prop
noncomputable def PO(X:Cx)(e:Option Expr)(t:TO):Prop:=
 ∀(pins:List (Addr×Obj))(s:Shared)(σ:St)(H:Hp)(Q:Option Int->Hp->Prop),Inv X pins σ H s->t σ H Q->
  wpAny (model X.prog X.w) X.A (evalPart e X.env) (λu s'=>∃o H',Inv X pins σ H' s'/\IsPart u o/\Q o H') X.xe s
noncomputable def Dc:TO:=λ_ H Q=>Q none H
noncomputable def IJ(t:TE):TO:=λσ H Q=>t σ H λx H1=>∃i,x=.int i/\Q (some i) H1
section
variable{e:Expr}{te:TE}{lo hi:Option Expr}{tl th:TO}{pos p2:Pos}
def B7:PO X none Dc:=by intro pins s σ H Q I h;rw[evalPart_none];exact z9 ⟨none,H,I,.none,h⟩
def Co(h:PE X e te):PO X (some e) (IJ te):=by intro pins s σ H Q I hw;rw[evalPart_some];refine thn (h pins s σ H _ I hw) λu s1 ⟨x,H1,I1,r1,q1⟩=>?_;obtain⟨i,rfl,q⟩:=q1;obtain⟨t,rfl⟩:=r1;exact⟨some i,H1,I1,.int i t,q⟩
noncomputable def SlR(X:Cx)(r:V->Option Int->Option Int->Hp->VK->Prop):Prop:=
 ∀(pins:List (Addr×Obj))(s:Shared)(σ:St)(H:Hp)(x:V)(v vl vu:Value)(lo hi:Option Int)(sl:Addr)(Q:VK),Inv X pins σ H s->RelV x v->s.heap.IsSliceOf sl vl vu .none->IsPart vl lo->IsPart vu hi->r x lo hi H Q->
  ∃T id,typeLookup (.type T) "__getitem__"=pure (some (.builtin id))/\s.TypeIs v T/\wpAny (model X.prog X.w) X.A (getItem v (.ref sl)) (EP X pins σ Q) X.xe s
def SlR.or{r r':V->Option Int->Option Int->Hp->VK->Prop}(h:SlR X r)(h':SlR X r'):SlR X (λx lo hi H Q=>r x lo hi H Q\/r' x lo hi H Q):=by
 intro pins s σ H x v vl vu lo hi sl Q I rx hs pl pu q;rcases q with q|q;·exact h pins s σ H x v vl vu lo hi sl Q I rx hs pl pu q
 ·exact h' pins s σ H x v vl vu lo hi sl Q I rx hs pl pu q
noncomputable def tSl(r:V->Option Int->Option Int->Hp->VK->Prop)(te:TE)(tl th:TO):TE:=λσ H Q=>te σ H λx H1=>tl σ H1 λl H2=>th σ H2 λu H3=>r x l u H3 Q
def Ac{r:V->Option Int->Option Int->Hp->VK->Prop}(hr:SlR X r)(he:PE X e te)(hl:PO X lo tl)(hu:PO X hi th):PE X (.Subscript e (.Slice lo hi none p2) pos) (tSl r te tl th):=by intro pins s σ H Q I h;refine Subscript_ (thn (he pins s σ H _ I h) λv s1 ⟨x,H1,I1,r1,q1⟩=>?_);refine wpAny_Slice (thn (hl pins s1 σ H1 _ I1 q1) λvl s2 ⟨l,H2,I2,pl,q2⟩=>thn (hu pins s2 σ H2 _ I2 q2) λvu s3 ⟨u,H3,I3,pu,q3⟩=>?_);rw[evalPart_none];refine z9 ?_;have I4:Inv X pins σ H3 { s3 with heap:=s3.heap.push { cls:=.type "slice",data:=.fields #[vl,vu,.none] } }:=I3.kept (t':=s3.toks) λb ob q=>w8 _ q;obtain⟨T,id,hT,ht,hg⟩:=hr pins { s3 with heap:=s3.heap.push { cls:=.type "slice",data:=.fields #[vl,vu,.none] } } σ H3 x v vl vu l u s3.heap.objs.size Q I4 r1 (Heap.IsSliceOf.new ..) pl pu q3;show wpAny (model X.prog X.w) X.A (subscriptTail e (.Slice lo hi none p2) v (.ref s3.heap.objs.size)) (EP X pins σ Q) X.xe { s3 with heap:=s3.heap.push { cls:=.type "slice",data:=.fields #[vl,vu,.none] } };exact tail_any (ops:=[.ref s3.heap.objs.size,v]) ht hT hg (by with_unfolding_all rfl)
noncomputable def Bm(xs:List V)(lo hi:Option Int):List V:=(xs.drop (HT.sIx xs.length 0 lo)).take (HT.sIx xs.length xs.length hi - HT.sIx xs.length 0 lo)
def ml(xs:List V)(lo hi:Option Int):(Bm xs lo hi).length<=xs.length:=by unfold Bm;rw[d7,d8];omega
noncomputable def Jx(K:W.Frag):V->Option Int->Option Int->Hp->VK->Prop:=λx lo hi H Q=>∃a xs,x=.ref a/\SqT K H a xs/\
 ¬ (HT.sIx xs.length 0 lo=0/\HT.sIx xs.length xs.length hi=xs.length)/\∀p,H p=none->Q (.ref p) (upd H p (.tup (Bm xs lo hi)))
def sl_tup:SlR X (Jx X.K):=by
 intro pins s σ H x v vl vu lo hi sl Q I rx hs pl pu h;obtain⟨a,xs,rfl,hx,hw,q⟩:=h;cases rx;obtain⟨its,r,ht,hz⟩:=I.tuple hx;have hlen:its.toArray.size=xs.length:=by rw[v4];exact r.length.symm
 refine⟨"tuple",_,slot_tuple_getitem.lookup,ht.typeIs,?_⟩;refine HT.getItem_tuple_cut ht hs pl pu (by rw[hlen];exact hw) ?_ (by rw[hlen];exact hz);rw[hlen];refine⟨.ref s.heap.objs.size,_,I.laid (t':=s.toks) (o:=.tup (Bm xs lo hi)) (λb ob q=>w8 _ q) (yo _) ?_,rfl,q _ (I.hok.fresh (yo _))⟩;exact⟨w9 (ml xs lo hi) hz,_,(r.drop (HT.sIx xs.length 0 lo)).take (HT.sIx xs.length xs.length hi - HT.sIx xs.length 0 lo),dO _ _⟩
noncomputable def IX(K:W.Frag):R2:=λx y H Q=>∃a b xs ys,x=.ref a/\y=.ref b/\SqT K H a xs/\SqT K H b ys/\xs≠[]/\xs.length+ys.length<=sizeLine/\
 (ys=[]->Q (.ref a) H)/\(ys≠[]->∀p,H p=none->Q (.ref p) (upd H p (.tup (xs++ys))))
def Vals.nil_iff(r:Vals xs us):us=[] ↔ xs=[]:=by
 cases r with
 |nil=>simp
 |cons _ _=>simp
def BQ:OpR X (binaryOp .Add) (IX X.K):=by intro pins s σ H x y v u Q I rx ry h;obtain⟨a,b,xs,ys,rfl,rfl,ha,hb,hx,hz,q1,q2⟩:=h;cases rx;cases ry;obtain⟨its,r1,p1,_⟩:=I.tuple ha;obtain⟨its2,r2,p2,_⟩:=I.tuple hb;refine HT.cat_tup p1 p2 (λz=>hx (r1.nil_iff.mp z)) (λz=>⟨.ref a,H,I,rfl,q1 (r2.nil_iff.mp z)⟩) (λz=>?_) (by rw[<- r1.length,<- r2.length];exact hz);refine⟨.ref s.heap.objs.size,_,I.laid (t':=s.toks) (o:=.tup (xs++ys)) (λb ob q=>w8 _ q) (yo _) ?_,rfl,q2 (λw=>z (r2.nil_iff.mpr w)) _ (I.hok.fresh (yo _))⟩;exact⟨by rw[rR];exact hz,_,r1.append r2,dO _ _⟩
end
noncomputable def ixN(n:Nat)(i:Int):Option Nat:=if 0<=i then (if i<n then some i.toNat else none)else if -(n:Int)<=i then some (i+n).toNat else none
noncomputable def atI{α:Type}(xs:List α)(i:Int):Option α:=(ixN xs.length i).bind λj=>xs[j]?
def wY{i:Int}(h:ixN n i=some j):seqIndex? i n=some j/\j<n/\-(n:Int)<=i/\i<n:=by
 unfold ixN at h;by_cases h0:0<=i
 ·rw[if_pos h0]at h;by_cases h1:i<n;·rw[if_pos h1]at h;have e:i.toNat=j:=uV h;exact⟨by rw[seqIndex_of h0 h1,e],by omega,by omega,h1⟩
  ·rw[if_neg h1]at h;cases h
 ·rw[if_neg h0]at h;by_cases h1 : -(n:Int)<=i;·rw[if_pos h1]at h;have e:(i+n).toNat=j:=uV h;exact⟨by rw[seqIndex_neg (by omega) h1,e],by omega,h1,by omega⟩
  ·rw[if_neg h1]at h;cases h
def sW{α:Type}{xs:List α}{i:Int}{v:α}(h:atI xs i=some v):∃j,seqIndex? i xs.length=some j/\xs[j]?=some v/\j<xs.length/\-(xs.length:Int)<=i/\i<xs.length:=by
 unfold atI at h;cases e:ixN xs.length i with
 |none=>rw[e]at h;cases h
 |some j=>rw[e]at h;obtain⟨h1,h2,h3,h4⟩:=wY e;exact⟨j,h1,h,h2,h3,h4⟩
def vY{α:Type}{xs:List α}{v:α}(h:xs[j]?=some v):atI xs (j:Int)=some v:=by
 have hj:j<xs.length:=(sT.mp h).1;have e:ixN xs.length (j:Int)=some j:=by unfold ixN;rw[if_pos (by omega),if_pos (by omega)];simp
 unfold atI;rw[e];exact h
noncomputable def sA(b:Expr):Prop:=∀o i,subscripted b false o i=operate [o,i] (getItem o i)
noncomputable def IxR(X:Cx)(r:R2):Prop:=
 ∀(value slice:Expr)(pins:List (Addr×Obj))(s:Shared)(σ:St)(H:Hp)(x y:V)(v u:Value)(Q:VK),Inv X pins σ H s->RelV x v->RelV y u->r x y H Q->
  subscripted slice false v u=operate [v,u] (getItem v u)->wpAny (model X.prog X.w) X.A (subscriptTail value slice v u) (EP X pins σ Q) X.xe s
noncomputable def MtR(X:Cx)(id:String)(r:V->List V->Hp->VK->Prop):Prop:=
 ∀(pins:List (Addr×Obj))(s:Shared)(σ:St)(H:Hp)(x:V)(xs:List V)(v:Value)(us:List Value)(Q:VK),Inv X pins σ H s->RelV x v->Vals xs us->r x xs H Q->
  wpAny (model X.prog X.w) X.A (call (.builtin id) (v::us)) (EP X pins σ Q) X.xe s
section
variable{a b:Expr}{ta tb:TE}{pos:Pos}
def IxR.or{r r':R2}(h:IxR X r)(h':IxR X r'):IxR X (λx y H Q=>r x y H Q\/r' x y H Q):=by
 intro value slice pins s σ H x y v u Q I rx ry q hs;rcases q with q|q;·exact h value slice pins s σ H x y v u Q I rx ry q hs
 ·exact h' value slice pins s σ H x y v u Q I rx ry q hs
def ED{r:R2}(hr:IxR X r)(ha:PE X a ta)(hb:PE X b tb)(hs:sA b):PE X (.Subscript a b pos) (tOp r ta tb):=by intro pins s σ H Q I h;exact Subscript_ (GX ha hb I h λv u s2 x y H2 I2 rx ry q=>hr a b pins s2 σ H2 x y v u Q I2 rx ry q (hs _ _))
noncomputable def GV(K:W.Frag):R2:=λx y H Q=>∃p xs i v,x=.ref p/\y=.int i/\SqL K H p xs/\atI xs i=some v/\Q v H
noncomputable def Js(K:W.Frag):R2:=λx y H Q=>∃p xs i v,x=.ref p/\y=.int i/\SqT K H p xs/\atI xs i=some v/\Q v H
noncomputable def Jw:R2:=λx y H Q=>∃z i c,x=.str z/\y=.int i/\z.length<=sizeLine/\atI z.cps.toList i=some c/\Q (.str ⟨#[c]⟩) H
def ix_list:IxR X (GV X.K):=by
 intro value slice pins s σ H x y v u Q I rx ry h hs;obtain⟨p,xs,i,z,rfl,rfl,hq,he,q⟩:=h;cases rx;obtain⟨t,rfl⟩:=ry;obtain⟨its,r,pl,hz⟩:=I.list hq;obtain⟨j,h1,h2,h3,h4,h5⟩:=sW he;obtain⟨w,ew,rw'⟩:=r.get h2;have hl:=r.length;have hn:=kq;have fin:EP X pins σ Q w s:=⟨z,H,I,rw',q⟩
 by_cases h0:0<=i
 ·have hj:i.toNat=j:=by rw[seqIndex_of h0 h5]at h1;exact uV h1
  exact item_listR pl.isList h0 (by omega) (by rw[hj];simpa using ew) fin hs
 ·have hj:(i+(its.toArray.size:Int)).toNat=j:=by rw[seqIndex_neg (by omega) h4]at h1;rw[v4,<- hl];exact uV h1
  exact subscriptTail_builtinR (x:=w) pl.isList.typeIs slot_list_getitem.lookup
   (wpAny_getItem_list_neg (Q:=λr s'=>r=w/\EP X pins σ Q r s') pl.isList (by omega) (by rw[v4] <;> omega) (by omega) (by rw[hj];simpa using ew) ⟨rfl,fin⟩) hs
def ix_tup:IxR X (Js X.K):=by
 intro value slice pins s σ H x y v u Q I rx ry h hs;obtain⟨p,xs,i,z,rfl,rfl,hq,he,q⟩:=h;cases rx;obtain⟨t,rfl⟩:=ry;obtain⟨its,r,pl,hz⟩:=I.tuple hq;obtain⟨j,h1,h2,h3,h4,h5⟩:=sW he;obtain⟨w,ew,rw'⟩:=r.get h2;have hl:=r.length;have hn:=kq;have fin:EP X pins σ Q w s:=⟨z,H,I,rw',q⟩
 exact subscriptTail_builtinR (x:=w) pl.typeIs slot_tuple_getitem.lookup
  (getItem_tuple (j:=j) (Q:=λr s'=>r=w/\EP X pins σ Q r s') pl (by omega) (by omega) (by rw[v4,<- hl];exact h1) (by simpa using ew) ⟨rfl,fin⟩) hs
def FR:IxR X Jw:=by
 intro value slice pins s σ H x y v u Q I rx ry h hs;obtain⟨z,i,c,rfl,rfl,hz,he,q⟩:=h;obtain⟨t,rfl⟩:=rx;obtain⟨t',rfl⟩:=ry;obtain⟨j,h1,h2,h3,h4,h5⟩:=sW he;have hl:z.cps.toList.length=z.length:=by simp[Str.length]
 rw[hl]at h1 h4 h5;have hn:=kq;exact tail_any (typeIs_str s z t) slot_str_getitem.lookup (getItem_str (c:=c) (by have e1:decide (i < -(2 ^ 63:Int))=false:=tH (by omega);have e2:decide (i ≥ 2 ^ 63)=false:=tH (by omega);rw[e1,e2,Bool.or_false]) (by rw[h1];simpa using h2) ⟨.str ⟨#[c]⟩,H,I.tok _,⟨_,rfl⟩,q⟩) hs
noncomputable def rIx(K:W.Frag):R2:=λx y H Q=>GV K x y H Q\/Js K x y H Q\/Jw x y H Q
def Ff:IxR X (rIx X.K):=ix_list.or (ix_tup.or FR)
def uN(its:List Value)(n j:Nat)(u:Value):Obj.mapSeq (·.setIfInBounds j u) { cls:=.type "list",data:=.seq its.toArray n }={ cls:=.type "list",data:=.seq (its.set j u).toArray n }:=by simp[Obj.mapSeq]
def Inv.lst{p:Addr}(I:Inv X pins σ H s)(h:H p=some (.lst xs)):
  ∃(its:List Value)(n:Nat),Vals xs its/\s.heap.get? p=some { cls:=.type "list",data:=.seq its.toArray n }/\xs.length<=sizeLine:=by
 obtain⟨z,its,n,r,e⟩:=I.hok p _ h;exact⟨its,n,r,e,z⟩
def Inv.lstUpd{p:Addr}{ys:List V}{its':List Value}{n':Nat}{f:Obj->Obj}(I:Inv X pins σ H s)(h:H p=some (.lst xs))(ho:s.heap.get? p=some { cls:=.type "list",data:=.seq its.toArray n })(hf:f { cls:=.type "list",data:=.seq its.toArray n }={ cls:=.type "list",data:=.seq its'.toArray n' })(r:Vals ys its')(hz:ys.length<=sizeLine)(t:Nat):
  Inv X pins σ (upd H p (.lst ys)) { s with heap:=s.heap.update p f,toks:=t }:=by
 have e:(s.heap.update p f).get? p=some { cls:=.type "list",data:=.seq its'.toArray n' }:=by rw[Zj f ho (by rw[hf] <;> rfl),hf]
 refine I.write (x:=p) (e:=p) (by rw[h];trivial) (.inl rfl) (λb u hb q=>(Heap.get?_update_other _ _ (uS hb)).trans q) ⟨_,e⟩ ?_;exact⟨hz,its',n',r,e⟩
noncomputable def HM:V->V->V->Hp->(Hp->Prop)->Prop:=λo i v H Q=>∃p xs k j,o=.ref p/\i=.int k/\H p=some (.lst xs)/\ixN xs.length k=some j/\Q (upd H p (.lst (xs.set j v)))
def zI:Jo X HM:=by
 intro pins s σ H o i v ov iv u Q I ro ri rv h;obtain⟨p,xs,k,j,rfl,rfl,hp,hj,q⟩:=h;cases ro;obtain⟨t,rfl⟩:=ri;obtain⟨its,n,r,ho,hz⟩:=I.lst hp;obtain⟨h1,h2,h3,h4⟩:=wY hj;have hl:=r.length;have hn:=kq;have I':Inv X pins σ (upd H p (.lst (xs.set j v))) { s with heap:=s.heap.update p (Obj.mapSeq (·.setIfInBounds j u)) }:=
  I.lstUpd hp ho (uN its n j u) (r.set rv j) (by rw[ZU];exact hz) s.toks;by_cases h0:0<=k
 ·have hk:k.toNat=j:=by rw[seqIndex_of h0 h4]at h1;exact uV h1
  exact W.ki_setAt ho h0 (by omega) (by rw[v4,<- hl];exact h4) (by rw[hk];exact⟨_,I',q⟩)
 ·have hk:(k+(its.toArray.size:Int)).toNat=j:=by rw[seqIndex_neg (by omega) h3]at h1;rw[v4,<- hl];exact uV h1
  exact W.ki_setBack ho (by omega) (by rw[v4,<- hl];exact h3) (by omega) (by rw[hk];exact⟨_,I',q⟩)
def qq(lo hi:Option Int)(n:Nat):(sliceBounds lo hi none n).1=((HT.sIx n 0 lo:Nat):Int)/\(sliceBounds lo hi none n).2.1=((HT.sIx n n hi:Nat):Int)/\(sliceBounds lo hi none n).2.2=1:=by
 refine⟨?_,?_,rfl⟩
 ·cases lo with
  |none=>simp[sliceBounds,HT.sIx]
  |some i=>
   simp only[sliceBounds,HT.sIx,Option.getD_none,show(1:Int) > 0 by decide,t9];by_cases h:i<0;·simp only[h,t9] <;> omega
   ·simp only[h,qd] <;> omega
 ·cases hi with
  |none=>simp[sliceBounds,HT.sIx]
  |some i=>
   simp only[sliceBounds,HT.sIx,Option.getD_none,show(1:Int) > 0 by decide,t9];by_cases h:i<0;·simp only[h,t9] <;> omega
   ·simp only[h,qd] <;> omega
def pC(its:List Value)(lo hi:Option Int):slicePick its.toArray lo hi none=((its.drop (HT.sIx its.length 0 lo)).take (HT.sIx its.length its.length hi - HT.sIx its.length 0 lo)).toArray:=by obtain⟨h1,h2,h3⟩:=qq lo hi its.toArray.size;unfold slicePick;rw[h1,h2,h3];simp only[sliceRange_one,pick_run,v4] <;> rfl
noncomputable def Ju(K:W.Frag):V->Option Int->Option Int->Hp->VK->Prop:=λx lo hi H Q=>∃a xs,x=.ref a/\SqL K H a xs/\∀p,H p=none->Q (.ref p) (upd H p (.lst (Bm xs lo hi)))
def C4:SlR X (Ju X.K):=by intro pins s σ H x v vl vu lo hi sl Q I rx hs pl pu h;obtain⟨a,xs,rfl,hx,q⟩:=h;cases rx;obtain⟨its,r,ht,hz⟩:=I.list hx;have hlen:=r.length;refine⟨"list",_,slot_list_getitem.lookup,ht.isList.typeIs,?_⟩;refine wpAny_getItem_list_slice ht.isList hs pl pu .none (by simp) ?_ (by rw[v4] <;> omega);rw[pC,<- hlen];refine⟨.ref s.heap.objs.size,_,I.laid (t':=s.toks) (o:=.lst (Bm xs lo hi)) (λb ob q=>w8 _ q) (yo _) ?_,rfl,q _ (I.hok.fresh (yo _))⟩;exact⟨w9 (ml xs lo hi) hz,_,0,(r.drop (HT.sIx xs.length 0 lo)).take (HT.sIx xs.length xs.length hi - HT.sIx xs.length 0 lo),t8 _ rfl⟩
def ou:gT X (.type "tuple") (λxs H Q=>∃p ys,xs=[.ref p]/\((SqL X.K H p ys/\∀l,H l=none->Q (.ref l) (upd H l (.tup ys)))\/(SqT X.K H p ys/\Q (.ref p) H))):=by
 intro pins s σ H xs us Q I r h;obtain⟨p,ys,rfl,h⟩:=h;obtain⟨u,rfl,rx⟩:=sU r;cases rx;rcases h with⟨hq,q⟩|⟨hq,q⟩
 ·obtain⟨its,r',pl,hz⟩:=I.list hq;have hlen:=r'.length;refine call_tuple_list pl.isList (λh' kp=>?_) (by simp only[v4] <;> omega);have I1:Inv X pins σ H { s with heap:=h' }:=I.kept (t':=s.toks) kp;have I2:Inv X pins σ (upd H h'.objs.size (.tup ys)) { s with heap:=h'.push { cls:=.type "tuple",data:=.seq its.toArray } }:=
   I1.laid (t':=s.toks) (λb o e=>w8 _ e) (yo _) (show ObjOk X.prog X.w _ _ _ (.tup ys) from⟨hz,its,r',dO _ _⟩);exact⟨.ref h'.objs.size,_,I2,rfl,q _ (I1.hok.fresh (yo _))⟩
 ·obtain⟨its,r',pl,hz⟩:=I.tuple hq;exact call_tuple_same pl ⟨.ref p,H,I,rfl,q⟩
noncomputable def tyV(K:W.Frag)(T:String)(x:V)(H:Hp):Prop:=match x with
 |.str _=>T="str"
 |.int _=>T="int"
 |.ref p=>(T="list"/\∃xs,SqL K H p xs)\/(T="tuple"/\∃o,K.lookup p=some o/\o.cls=.type "tuple"/\o.dict=none)\/
   (T="dict"/\((∃kvs,H p=some (.dK kvs))\/∃kvs,H p=some (.dT kvs)))\/(T="set"/\∃S n,H p=some (.set S n))
 |_=>False
def Ew{T:String}{x:V}{v:Value}(I:Inv X pins σ H s)(r:RelV x v)(ty:tyV X.K T x H):
  s.TypeIs v T/\∀a,v=.ref a->∃ob,s.heap.get? a=some ob/\ob.dict=none:=by
 cases x with
 |str z=>obtain⟨t,rfl⟩:=r;cases (show T="str" from ty);exact⟨typeIs_str s z t,λ_ e=>nomatch e⟩
 |int i=>obtain⟨t,rfl⟩:=r;cases (show T="int" from ty);exact⟨i9 s i t,λ_ e=>nomatch e⟩
 |ref p=>
  cases r;rcases ty with⟨rfl,xs,hq⟩|⟨rfl,o,hk,hc,hd⟩|⟨rfl,hk⟩|⟨rfl,S,n,hk⟩
  ·obtain⟨its,_,pl,_⟩:=I.list hq;refine⟨pl.isList.typeIs,λa e=>?_⟩;cases e;obtain⟨o,n,e,c,hd,_⟩:=pl;exact⟨o,e,hd⟩
  ·refine⟨⟨o,I.kIn p o hk,hc⟩,λa e=>?_⟩;cases e;exact⟨o,I.kIn _ o hk,hd⟩
  ·have z:∃o,s.heap.get? p=some o/\o.ExactDict:=by
    rcases hk with⟨kvs,hk⟩|⟨kvs,hk⟩;·obtain⟨_,_,_,_,o,_,_,e,ex,_⟩:=I.hok p _ hk;exact⟨o,e,ex⟩
    ·obtain⟨_,_,_,_,o,_,_,e,ex,_⟩:=I.hok p _ hk;exact⟨o,e,ex⟩
   obtain⟨o,e,ex⟩:=z;refine⟨⟨o,e,ex.1⟩,λa e2=>?_⟩;cases e2;exact⟨o,e,ex.2.1⟩
  ·obtain⟨o,_,_,_,e,ex,_⟩:=I.hok p _ hk;refine⟨⟨o,e,ex.1⟩,λa e2=>?_⟩;cases e2;exact⟨o,e,ex.2.1⟩
 |_=>exact False.elim ty
noncomputable def tBM(K:W.Frag)(T:String)(r:V->List V->Hp->VK->Prop)(to:TE)(t:TA):TE:=λσ H Q=>to σ H λx H1=>tyV K T x H1/\t σ H1 λxs H2=>r x xs H2 Q
variable{o e:Expr}{to:TE}{t:TA}{name:Str}{apos cpos:Pos}{T id:String}{r:V->List V->Hp->VK->Prop}
def BZ(pa:PlainAttrs T)(slot:Slot T name id)(hty:typeOf (.builtin id)=pure (.type "method_descriptor"))(hm:MtR X id r)(ho:PE X o to)(ha:PA X (e::es) t)(hbase:attributeBase o name X.env (eval o X.env)=eval o X.env:=by rfl)(hfew:((backTo cpos (starEach (e::es) X.env)).all (λx=>!x.1) && (backToKw cpos (keywordEach [] X.env)).all (λx=>x.1.isSome)
 && decide ((e::es).length+([]:List Keyword).length+(if ([]:List Keyword).isEmpty then 0 else 1)<30))=true:=by rfl)(hline:(apos.endLine==cpos.line)=true:=by rfl)(hs:starEach (e::es) X.env=(false,eval e X.env)::starEach es X.env:=by rfl)(hplain:(backTo cpos (starEach es X.env)).any (·.1)=false:=by rfl):
  PE X (.Call (.Attribute o name apos) (e::es) [] cpos) (tBM X.K T r to t):=by
 intro pins s σ H Q I h;refine wpAny_Call_method_late hbase hfew hline rfl (thn (ho pins s σ H _ I h) λv s1 ⟨x,H1,I1,r1,ty,q1⟩=>?_);obtain⟨h1,h2⟩:=Ew I1 r1 ty;refine⟨T,id,pa,slot,hty,h1,h2,?_⟩;have hA:=ha cpos pins s1 σ H1 _ I1 q1;rw[hs]at hA⊢;refine Calls.callWith_builtin (by show(false || (backTo cpos (starEach es X.env)).any (·.1))=false;rw[hplain] <;> rfl) (Calls.evalArgs_plain ?_);exact thn hA λus s2 ⟨vs,H2,I2,r2,q2⟩=>hm pins s2 σ H2 x vs v us Q I2 r1 r2 q2
/- xs.append(e),list.index on a module's tuple .. are MtR facts of 06m -/
end
noncomputable def MtM(X:Cx)(id:String)(r:V->List V->Hp->VK->Prop):Prop:=
 ∀(pins:List (Addr×Obj))(s:Shared)(σ:St)(H:Hp)(x:V)(xs:List V)(v:Value)(us:List Value)(Q:VK),Inv X pins σ H s->RelV x v->Vals xs us->r x xs H Q->
  wpAny (model X.prog X.w) X.A (call (.builtin id) (v::us)) (EP X pins σ Q) X.xe s
def Vals.one:∀{x:V}{us:List Value},Vals [x] us->∃u,us=[u]/\RelV x u
 |_,_,.cons r .nil=>⟨_,rfl,r⟩
def Vals.two:∀{x y:V}{us:List Value},Vals [x,y] us->∃u v,us=[u,v]/\RelV x u/\RelV y v
 |_,_,_,.cons r (.cons q .nil)=>⟨_,_,rfl,r,q⟩
theorem Vals.rep(h:Vals xs us):∀k:Nat,Vals (List.replicate k xs).flatten (List.replicate k us).flatten
 | 0=>.nil
 |k+1=>by rw[o8,o8,j0,j0];exact Vals.append h (Vals.rep h k)
theorem jx(its:List Value):∀(k:Nat)(acc:List Value),
  List.foldl (λx1 x2=>x1++x2) acc.toArray (List.replicate k its.toArray)=(acc++(List.replicate k its).flatten).toArray
 | 0,acc=>by simp
 |k+1,acc=>by
  have e:acc.toArray++its.toArray=(acc++its).toArray:=by simp
  have e2:(acc++its)++(List.replicate k its).flatten=acc++(List.replicate (k+1) its).flatten:=by rw[o8,j0,io]
  rw[<- e2,<- jx its k (acc++its),<- e,o8,l5]
section
variable{l b:Addr}{ys zs:List V}
def Inv.lset{its':List Value}{f:Array Value->Array Value}{t':Nat}(I:Inv X pins σ H s)(hH:H l=some (.lst xs))(e:s.heap.get? l=some { cls:=.type "list",data:=.seq its.toArray n })(hf:f its.toArray=its'.toArray)(hv:Vals ys its')(hz:ys.length<=sizeLine):
  Inv X pins σ (upd H l (.lst ys)) { s with heap:=s.heap.update l (Obj.mapSeq f),toks:=t' }:=by
 have q:=PySem.IsL.update e f;rw[hf]at q;refine I.write (x:=l) (e:=l) (by rw[hH];exact trivial) (.inl rfl) (λb' u hb hu=>(Heap.get?_update_other s.heap (Obj.mapSeq f) (uS hb)).trans hu) ⟨_,q⟩ ?_;exact⟨hz,its',_,hv,q⟩
def Inv.lnew{t':Nat}(I:Inv X pins σ H s)(hv:Vals ys its)(hz:ys.length<=sizeLine):
  Inv X pins σ (upd H s.heap.objs.size (.lst ys)) { s with heap:=s.heap.push { cls:=.type "list",data:=.seq its.toArray },toks:=t' }:=
 I.laid (λ_ _ q=>w8 _ q) (yo _) ⟨hz,its,0,hv,t8 _ rfl⟩
def Inv.fresh(I:Inv X pins σ H s):H s.heap.objs.size=none:=I.hok.fresh (yo _)
def Inv.lstM(I:Inv X pins σ H s)(hH:H l=some (.lst xs)):xs.length<=sizeLine/\∃(its:List Value)(n:Nat),Vals xs its/\xs.length=its.length/\s.heap.get? l=some { cls:=.type "list",data:=.seq its.toArray n }:=by obtain⟨z,its,n,r,e⟩:=I.hok l _ hH;exact⟨z,its,n,r,r.length,e⟩
def uq(h:n<=sizeLine):Builtin.List.listTooLong n=false:=by unfold Builtin.List.listTooLong;exact tH (by omega)
end
section
noncomputable def Ck:V->List V->Hp->VK->Prop:=λx vs H Q=>∃l xs y,x=.ref l/\vs=[y]/\H l=some (.lst xs)/\xs.length<sizeLine/\Q .non (upd H l (.lst (xs++[y])))
theorem lX:MtM X "list.append" Ck:=by intro pins s σ H x vs v us Q I rx rv h;obtain⟨l,xs,y,rfl,rfl,hH,hz,q⟩:=h;cases rx;obtain⟨u,rfl,ru⟩:=rv.one;obtain⟨z,its,n,r,hl,e⟩:=I.lstM hH;refine lN F.slot_list_append ⟨_,e,rfl⟩ F.entry_list_append (F.args_list_append_2 _ _) (PySem.list_append l its.toArray n u (by rw[v4];omega)) ⟨e,?_⟩;refine⟨.non,_,I.lset (its':=its++[u]) hH e (by simp) (r.append (.cons ru .nil)) ?_,rfl,q⟩;rw[rR,lQ];omega
noncomputable def CU:V->List V->Hp->VK->Prop:=λx vs H Q=>∃l b xs zs,x=.ref l/\vs=[.ref b]/\H l=some (.lst xs)/\H b=some (.lst zs)/\xs.length+zs.length<=sizeLine/\Q .non (upd H l (.lst (xs++zs)))
theorem xF:MtM X "list.extend" CU:=by
 intro pins s σ H x vs v us Q I rx rv h;obtain⟨l,b,xs,zs,rfl,rfl,hH,hB,hz,q⟩:=h;cases rx;obtain⟨u,rfl,ru⟩:=rv.one;cases ru;obtain⟨z,its,n,r,hl,e⟩:=I.lstM hH;obtain⟨z2,its2,n2,r2,hl2,e2⟩:=I.lstM hB;have hsz:its.toArray.size+its2.toArray.size<=sizeLine:=by rw[v4,v4];omega
 have hlong : ¬ (!its.toArray.isEmpty && Builtin.List.listTooLong (its.toArray.size+its2.toArray.size))=true:=by rw[uq hsz,mE];exact rK
 refine lN F.slot_list_extend ⟨_,e,rfl⟩ F.entry_list_extend (F.args_list_extend_2 _ _)
  (AutoSeq1.list_extend_list_list_0 l its.toArray n b its2.toArray n2 hlong (by rw[v4];omega) (by omega)) ⟨e,e2,?_⟩;refine⟨.non,_,I.lset (its':=its++its2) hH e (by simp) (r.append r2) ?_,rfl,q⟩;rw[rR];omega
noncomputable def Jj:R2:=λx y H Q=>∃l b xs zs,x=.ref l/\y=.ref b/\H l=some (.lst xs)/\H b=some (.lst zs)/\xs.length+zs.length<=sizeLine/\∀p,H p=none->Q (.ref p) (upd H p (.lst (xs++zs)))
def op_cat:OpR X (binaryOp .Add) Jj:=by
 intro pins s σ H x y v u Q I rx ry h;obtain⟨l,b,xs,zs,rfl,rfl,hH,hB,hz,q⟩:=h;cases rx;cases ry;obtain⟨z,its,n,r,hl,e⟩:=I.lstM hH;obtain⟨z2,its2,n2,r2,hl2,e2⟩:=I.lstM hB;refine PySem.P.add_list e e2 ?_ (by rw[v4,v4];omega);have ea:its.toArray++its2.toArray=(its++its2).toArray:=by simp
 rw[ea];exact⟨.ref _,_,I.lnew (t':=s.toks) (r.append r2) (by rw[rR];omega),rfl,q _ I.fresh⟩
noncomputable def Jl:R2:=λx y H Q=>∃l k xs,x=.ref l/\y=.int k/\H l=some (.lst xs)/\-(2 ^ 63)<=k/\k<2 ^ 63/\xs.length * k.toNat<=sizeLine/\
 ∀p,H p=none->Q (.ref p) (upd H p (.lst (List.replicate k.toNat xs).flatten))
def oj{α:Type}(xs:List α)(k:Nat):(List.replicate k xs).flatten.length=k * xs.length:=by
 induction k with
 |zero=>simp
 |succ k ih=>rw[o8,j0,rR,ih,Nat.succ_mul,Nat.add_comm]
theorem Ge:OpR X (binaryOp .Mult) Jl:=by
 intro pins s σ H x y v u Q I rx ry h;obtain⟨l,k,xs,rfl,rfl,hH,h1,h2,hz,q⟩:=h;cases rx;obtain⟨t,rfl⟩:=ry;obtain⟨z,its,n,r,hl,e⟩:=I.lstM hH;have hlen:its.toArray.size * k.toNat<=sizeLine:=by rw[v4,<- hl];exact hz
 have hcap : ¬ its.toArray.size * k.toNat > (2 ^ 63 - 1) / 8:=by
  have:(sizeLine:Nat)<=(2 ^ 63 - 1) / 8:=by decide
  omega
 have hfit : ¬ (!Builtin.List.listFitsIndex k)=true:=by rw[fitsIndex_both h1 h2];exact rK
 have hlong : ¬ Builtin.List.listTooLong (its.toArray.size * k.toNat)=true:=by rw[uq hlen];exact rK
 have hnew:List.foldl (λx1 x2=>x1++x2) #[] (List.replicate (if its.toArray.isEmpty=true then 0 else k.toNat) its.toArray)=(List.replicate k.toNat its).flatten.toArray:=by
  have f0:∀m:Nat,List.foldl (λx1 x2=>x1++x2) #[] (List.replicate m its.toArray)=(List.replicate m its).flatten.toArray:=λm=>by have:=jx its m [];rw[j6]at this;exact this
  rw[f0];cases its with
  |nil=>simp
  |cons a r'=>rw[if_neg (by simp)]
 refine wpAny_binaryOp_repeat_ref (T:="list") (U:="int") (by decide) ⟨_,e,rfl⟩ (λs'=>i9 s' k t) noFill_list_mul F.fills_int_mul Zk repeat_list F.slot_int_index.lookup
  (lN Zk (i9 s k t) F.entry_int_rmul (F.args_int_rmul_2 _ _) (int___rmul___int_list k t l its.toArray n)
   ⟨e,rfl,⟨_,e,rfl⟩,lN F.slot_list_mul ⟨_,e,rfl⟩ F.entry_list_mul (F.args_list_mul_2 _ _) (AutoListH.list___mul___list_int_3 l its.toArray n k t hfit hcap hlong) ⟨e,?_⟩⟩);rw[hnew];exact⟨.ref _,_,I.lnew (t':=s.toks) (r.rep k.toNat) (by rw[oj,Zl];exact hz),rfl,q _ I.fresh⟩
end
end L2
namespace Att
open PySem PySem.W PySem.Calls PyProof.Rows
def kZ{P:Params}:∀(ns:List Int)(vs:List Value),WellAll P h vs (ns.map WData.int)->IntsAre vs ns:=by
 intro ns;induction ns with
 |nil=>intro vs w;rw[j3]at w;cases w;exact .nil
 |cons n ns ih=>
  intro vs w;rw[tv]at w;cases w with
  |cons a b=>cases a;exact .cons _ _ (ih _ b)
def xG{l:OpenLaw}(hn:l.most=some n){P:Params}{args:List WData}{vals:List Value}(hpre:l.row.toRowW.claim.pre args=true)(hwl:WellAll P h vals args):
  ∃a vs ns,vals=[Value.ref a]/\args=[WData.list (ns.map WData.int)]/\h.get? a=some { cls:=.type "list",data:=.seq vs.toArray }/\IntsAre vs ns/\ns.length<=n:=by
 have hsh:WShape.hasAll [] args [.list .int]=true:=(pre_splitW hpre).1;have hc:l.pre.holds [] { args:=args }=true:=(pre_splitW hpre).2;obtain⟨d,r,rfl,h1,h2⟩:=hasAllW_cons hsh;obtain rfl:=hasAllW_nil h2;obtain⟨xs,rfl,h3⟩:=hasW_list h1;obtain⟨ns,rfl⟩:=items_int h3;have hlen:ns.length<=n:=by
  unfold OpenLaw.pre at hc;have h4:(WTm.not (.lt (.lit (.int (n:Int))) (.len (.arg 0)))).holds [] { args:=[.list (ns.map .int)] }=true:=by have h4:=(holds_andW hc).1;rw[hn]at h4;exact h4
  have h5:=condW_of h4 (w_not (w_lt w_lit (w_len_list (w_arg rfl))));rw[za]at h5;refine Nat.le_of_not_lt λq=>?_;have q':(n:Int)<((ns.length:Nat):Int):=by omega
  first
   | (rw[sM q']at h5;exact absurd h5 (by decide))
   | (simp at h5;omega)
 cases hwl with
 |cons w1 w2=>
  cases w2;cases w1 with
  |list ho hall=>exact⟨_,_,ns,rfl,rfl,ho,kZ ns _ hall,hlen⟩
def xk(l:OpenLaw)(args:List WData):l.row.toRowW.claim.post args (.bool true) args=true:=
 postW_of (r:=l.row.toRowW) (X:=(true==true))
  (show WShape.has [] (.bool true) .bool=true by first|rfl|decide|simp[WShape.has,WShape.arms,WShape.armsAll])
  (show(WTm.eq .res (.lit (.bool true))).value [] { args:=args,res:=some (.bool true),after:=args }=some (.bool (true==true)) from w_eq_bool (w_res rfl) w_lit) rfl
def attach_call{l:OpenLaw}{q:Program}{XP:(Str->Option Value)->Heap->Prop}{YP:World->Heap->Prop}{d:DefRec}(hn:l.most=some n)(hdf:d.params.defaults=[])(call:∀(w:World)(s₀ s₁:Shared)(mg mb:Str->Option Value)(fa:Addr)(o:Obj)(pm cd doc:Value)(a:Addr)(vs:List Value)(ns:List Int),
 Ground q loose [] XP w s₀ mg mb s₁.heap->YP w s₁.heap->
 s₁.heap.get? fa=some o->o.data=.func (docDef d.name d.params d.body d.scope pm cd doc)->s₁.heap.CodeRec cd d.name->mg d.name=some (.ref fa)->
 s₁.heap.get? a=some { cls:=.type "list",data:=.seq vs.toArray }->IntsAre vs ns->ns.length<=n->s₁.gens = #[]->
 codeAny (model l.prog w) callerA (.call (.ref fa) ⟨[.ref a],[]⟩) (λr s'=>r=.ok (.ret (.bool true))/\OldK s₁.heap s'.heap/\s'.os=s₁.os/\AllBare s'.gens) s₁):
  WalkO q loose XP YP l.row.toRowW d [] (λf vs=>PySem.call f vs):=by
 intro w s₀ s₁ mg mb G Y fa o pm cd doc dV kV ho hd hcd hD hmg hg args vals as hpre hlay hrd hwl hlo;obtain rfl:dV=.none:=Dflts.none hD hdf;obtain rfl:kV=.none:=Dflts.noKw hD;obtain⟨a,vs,ns,rfl,rfl,hobj,hints,hlen⟩:=xG hn hpre hwl;refine enter_call (c0 (call w s₀ s₁ mg mb fa o pm cd doc a vs ns G Y ho (fd_plain hd) hcd hmg hobj hints hlen hg) λr s' hq=>?_);obtain⟨rfl,h2,h3,h4⟩:=hq;exact⟨.inl ⟨.bool true,.bool true,[],rfl,λ_=>rfl,.bool true,xk l _,λ_=>⟨List.Pairwise.nil,λ_ hm=>(nomatch hm)⟩⟩,h2,h3,h4⟩
section
variable{prog:Program}{w:World}{A:Around}{K:Frag}
noncomputable def Jt(h:Heap)(L d:Addr):List (Addr×Obj):=(List.range h.objs.size).filterMap λa=>if a=L\/a=d then none else (h.get? a).map λo=>(a,o)
end
end Att
namespace L2
open PySem PySem.Spec PyProof.Rows
theorem pZ:∀{vs:List Value}{ns:List Int},IntsAre vs ns->Vals (ns.map V.int) vs
 |_,_,.nil=>.nil
 |_,_,.cons n t h=>.cons ⟨t,rfl⟩ (pZ h)
noncomputable abbrev KOf{K:W.Frag}{h:Heap}(_:K.In h):W.Frag:=K
end L2
/- THE LAST THEOREM (shape;LID,My.* are yours):
  My.Adr: a structure of the addresses that your layer names (classes,functions);My.Txt K t: a structure (Prop) of the equations over K;
  My.txt_mk:{K} {implicit addresses ..} (e1:nsIn K mainGlobals "law"=some (some (.ref f))) (e2:K.lookup f=some ⟨oc,od,.func (fnOf "law" "law" params body scope dV kV doc pm an cdv ct),sl⟩) (e3:codeIn K cdv "law"=true) .. : ∃ t,My.Txt K t
set_option maxRecDepth 100000 in
set_option maxHeartbeats 0 in
def PySem.Challenge.cw_LID_holds : PySem.Challenge.rw_LID.Holds := by
 w_on;o_law;k_head;(case hw=>w_witness2)
 k_fill
 refine L2.walk_of (l:=PySem.Challenge.rw_LID) (n:=63) (k:=40) (x:="script") (CX:=λw=>..) (sp:=λ_=>My.sp_law) rfl (by decide) rfl ⟨rfl,by decide,by decide⟩ (λw h Y=>PySem.W.kIn_of Y) ?F ?S ?C
 case F=>
  intro w mg fa h KX G hmg;have T:∃t,My.Txt (L2.KOf KX) t:=by
   dsimp only[L2.KOf]
   refine' My.txt_mk ?e1 ?e2 ?e3 ..
   (case e1=>PySem.W.k_is)
   (case e2=>PySem.W.k_is)
   ..
  obtain⟨t,T⟩:=T;have e0:=hmg.symm.trans (nR KX G T.law);cases e0;exact⟨_,λs u=>.of_eq rfl,λbase kb nb=>My.law_fn T kb nb⟩
 case S=>exact λw H a ns hl hO hS=>..
 case C=>exact ..
(the tactic k_is has no namespace: write k_is) -/
namespace L2
open PySem PySem.Spec PyProof.Rows
noncomputable def iY(s:Stmt):Arguments:=match s with
 |.FunctionDef _ a _ _ _ _ _ _ _ _=>a
 |_=>{ posonlyargs:=[],args:=[],vararg:=none,kwonlyargs:=[],kw_defaults:=[],kwarg:=none,defaults:=[] }
noncomputable def gB(s:Stmt):List Stmt:=match s with
 |.FunctionDef _ _ b _ _ _ _ _ _ _=>b
 |_=>[]
noncomputable def aO(s:Stmt):Scope:=match s with
 |.FunctionDef _ _ _ _ _ _ sc _ _ _=>sc
 |_=>{ kind:=.function,names:=[],isGenerator:=false,isCoroutine:=false }
structure Fun(K:PySem.W.Frag)(x qual:Str)(st:Stmt)(f:Addr)(fd:FuncData):Prop where
 ex:∃(oc:Value)(od:Option Addr)(kV doc pm:Value)(an:Option Addr)(cdv ct:Value)(osl:Array (Option Value)),
  fd=PySem.W.fnOf x qual (iY st) (gB st) (aO st) .none kV doc pm an cdv ct/\K.lookup f=some ⟨oc,od,.func fd,osl⟩/\PySem.W.codeIn K cdv qual=true
 kp:PySem.W.keepIn K (.ref f)=true
section
variable{w:World}{K:PySem.W.Frag}{mg:Str->Option Value}{base:Heap}
def Fun.binds(F:Fun K x qual st f fd)(h:∀(kV doc pm:Value)(an:Option Addr)(cdv ct:Value)(us:List Value),us.length=ps.length->bindArgs (PySem.W.fnOf x qual (iY st) (gB st) (aO st) .none kV doc pm an cdv ct) ⟨us,[]⟩=pure (ps.zip us)):Binds K fd ps []:=by
 obtain⟨oc,od,kV,doc,pm,an,cdv,ct,osl,rfl,lk,hcd⟩:=F.ex;exact .all (h kV doc pm an cdv ct)
def Be{kV doc pm ct:Value}(l:K.lookup f=some ⟨oc,od,.func (PySem.W.fnOf x qual (iY st) (gB st) (aO st) .none kV doc pm an cdv ct),osl⟩)(c:PySem.W.codeIn K cdv qual=true)(k:PySem.W.keepIn K (.ref f)=true):Fun K x qual st f (PySem.W.fnOf x qual (iY st) (gB st) (aO st) .none kV doc pm an cdv ct):=⟨⟨oc,od,kV,doc,pm,an,cdv,ct,osl,rfl,l,c⟩,k⟩
end
noncomputable def Same(H H':Hp):Prop:=∀b o,H b=some o->H' b=some o
def Same.refl(H:Hp):Same H H:=λ_ _ h=>h
def Same.trans{H1 H2:Hp}(a:Same H H1)(b:Same H1 H2):Same H H2:=λc o h=>b c o (a c o h)
def Same.free(e:Same H H'){l:Addr}(h:H' l=Option.none):H l=Option.none:=by
 cases q:H l with
 |none=>rfl
 |some o=>rw[e l o q]at h;cases h
def Same.seq{K:PySem.W.Frag}(e:Same H H')(h:SqL K H a xs):SqL K H' a xs:=by
 rcases h with (h|⟨o,h⟩)|h;·exact .inl (.inl (e _ _ h))
 ·exact .inl (.inr ⟨o,e _ _ h⟩)
 ·exact .inr h
end L2
namespace L2
open PySem PySem.Spec PyProof.Rows
open PySem.MeetsSeq PySem.MeetsSeq2 PySem.MeetsSeq3
noncomputable abbrev DX:=List (List Bool×Addr×V)
noncomputable abbrev DU:=List (List Bool×Addr×Value)
noncomputable def Gf(bs:List Bool):Int:=reduceHash (Builtin.Tuple.tupleHashOf (bs.map λk=>if k then 1 else 0))
noncomputable abbrev JS:DX->DU->Prop:=Paired λp q=>p.1=q.1/\p.2.1=q.2.1/\RelV p.2.2 q.2.2
noncomputable def IQ(a:Addr)(o:Obj)(xs:DX):Heap->Prop:=λh=>h.get? a=some o/\xs.length<=sizeLine/\(a==sysModules)=false/\o.ExactDict/\∃us:DU,JS xs us/\
 ∃es ep,o.data=.dict es ep/\es.toList=us.map (λx=>⟨Gf x.1,.ref x.2.1,x.2.2⟩)/\(us.map (·.1)).Nodup
noncomputable def Jm(a:Addr)(o:Obj)(xs:DX):HO:=.ext (IQ a o xs)
end L2
set_option maxRecDepth 100000
set_option maxHeartbeats 0
namespace L2
open PySem PySem.Spec PyProof.Rows
inductive D where
  |non|bl (b : Bool)|int (i : Int)|str (x : List Nat)|tup (xs : List D)|lst (fz : Bool) (xs : List D)|exc (C : Addr)
  |dct (ks : List Nat) (xs : List D)
noncomputable def code(a b:Bool):Nat:=(if a then 1 else 0)+(if b then 2 else 0)
inductive KeysAt(K:PySem.W.Frag)(G:Hp):DX->List Nat->Prop
 |nil:KeysAt K G [] []
 |cons {q:Addr} {v:V} {a b:Bool} {xs:DX} {ks:List Nat} (h:SqT K G q [.bl a,.bl b]) (t:KeysAt K G xs ks):KeysAt K G (([a,b],q,v)::xs) (code a b::ks)
noncomputable def iS(a C:Addr):Heap->Prop:=λh=>∃ob,h.get? a=some ob/\ob.cls=.ref C
mutual
inductive Rep(K:PySem.W.Frag)(G:Hp):V->D->Prop
 |non:Rep K G .non .non
 |bl (b:Bool):Rep K G (.bl b) (.bl b)
 |int (i:Int):Rep K G (.int i) (.int i)
 |str (x:Str) (h:x.length<=sizeLine):Rep K G (.str x) (.str x.cps.toList)
 |tup {a:Addr} {vs:List V} {ds:List D} (h:SqT K G a vs) (r:Reps K G vs ds):Rep K G (.ref a) (.tup ds)
 |lst {a:Addr} {vs:List V} {ds:List D} (h:G a=some (.lst vs)) (r:Reps K G vs ds):Rep K G (.ref a) (.lst false ds)
 |fls {a:Addr} {vs:List V} {ds:List D} (h:SqL K G a vs) (r:Reps K G vs ds):Rep K G (.ref a) (.lst true ds)
 |exc {a C:Addr} (h:G a=some (.ext (iS a C))):Rep K G (.ref a) (.exc C)
 |dct {a:Addr} {o:Obj} {xs:DX} {ks:List Nat} {ds:List D} (h:G a=some (Jm a o xs)) (k:KeysAt K G xs ks) (r:Reps K G (xs.map (·.2.2)) ds):Rep K G (.ref a) (.dct ks ds)
inductive Reps(K:PySem.W.Frag)(G:Hp):List V->List D->Prop
 |nil:Reps K G [] []
 |cons {v:V} {d:D} {vs:List V} {ds:List D} (r:Rep K G v d) (t:Reps K G vs ds):Reps K G (v::vs) (d::ds)
end
section
variable{K:PySem.W.Frag}{G' G1 H1 G2 H2:Hp}
def SqT.mono(e:Same G G')(h:SqT K G a xs):SqT K G' a xs:=by
 rcases h with (h|⟨o,h⟩)|h;·exact .inl (.inl (e _ _ h))
 ·exact .inl (.inr ⟨o,e _ _ h⟩)
 ·exact .inr h
def KeysAt.mono(e:Same G G'):∀{xs:DX}{ks:List Nat},KeysAt K G xs ks->KeysAt K G' xs ks
 |_,_,.nil=>.nil
 |_,_,.cons h t=>.cons (h.mono e) (t.mono e)
def SqL.mono(e:Same G G')(h:SqL K G a xs):SqL K G' a xs:=e.seq h
mutual
theorem Rep.mono(e:Same G G'):∀{v:V}{d:D},Rep K G v d->Rep K G' v d
 |_,_,.non=>.non
 |_,_,.bl b=>.bl b
 |_,_,.int i=>.int i
 |_,_,.str x h=>.str x h
 |_,_,.tup h r=>.tup (h.mono e) (Reps.mono e r)
 |_,_,.lst h r=>.lst (e _ _ h) (Reps.mono e r)
 |_,_,.fls h r=>.fls (h.mono e) (Reps.mono e r)
 |_,_,.exc h=>.exc (e _ _ h)
 |_,_,.dct h k r=>.dct (e _ _ h) (k.mono e) (Reps.mono e r)
theorem Reps.mono(e:Same G G'):∀{vs:List V}{ds:List D},Reps K G vs ds->Reps K G' vs ds
 |_,_,.nil=>.nil
 |_,_,.cons r t=>.cons (Rep.mono e r) (Reps.mono e t)
end
section inv
def Rep.int_inv{i:Int}(r:Rep K G v (.int i)):v=.int i:=by cases r;rfl
def Rep.bl_inv{b:Bool}(r:Rep K G v (.bl b)):v=.bl b:=by cases r;rfl
def Rep.non_inv(r:Rep K G v .non):v=.non:=by cases r;rfl
def Rep.str_inv{x:List Nat}(r:Rep K G v (.str x)):∃y:Str,v=.str y/\y.cps.toList=x/\y.length<=sizeLine:=by
 generalize e:D.str x=d at r;cases r with
 |str y h=>cases e;exact⟨y,rfl,rfl,h⟩
 |_=>cases e
def Rep.tup_inv{ds:List D}(r:Rep K G v (.tup ds)):∃a vs,v=.ref a/\SqT K G a vs/\Reps K G vs ds:=by
 cases r with
 |tup h t=>exact⟨_,_,rfl,h,t⟩
def Rep.lst_inv{ds:List D}(r:Rep K G v (.lst false ds)):∃a vs,v=.ref a/\G a=some (.lst vs)/\Reps K G vs ds:=by
 cases r with
 |lst h t=>exact⟨_,_,rfl,h,t⟩
def Rep.seq_inv{f:Bool}{ds:List D}(r:Rep K G v (.lst f ds)):∃a vs,v=.ref a/\SqL K G a vs/\Reps K G vs ds:=by
 cases r with
 |lst h t=>exact⟨_,_,rfl,.of h,t⟩
 |fls h t=>exact⟨_,_,rfl,h,t⟩
def Rep.exc_inv(r:Rep K G v (.exc C)):∃a,v=.ref a/\G a=some (.ext (iS a C)):=by
 cases r with
 |exc h=>exact⟨_,rfl,h⟩
def Rep.strL{x:List Nat}(e:y.cps.toList=x)(h:x.length<=sizeLine):Rep K G (.str y) (.str x):=by subst e;exact .str y (by simpa[Str.length]using h)
end inv
theorem Reps.length:∀{vs:List V}{ds:List D},Reps K G vs ds->vs.length=ds.length
 |_,_,.nil=>rfl
 |_,_,.cons _ t=>by simp[Reps.length t]
theorem Reps.get:∀{vs:List V}{ds:List D}{i:Nat}{d:D},Reps K G vs ds->ds[i]?=some d->∃v,vs[i]?=some v/\Rep K G v d
 |_,_,_,_,.nil,e=>by simp at e
 |_,_,0,_,.cons r _,e=>by simp at e;subst e;exact⟨_,rfl,r⟩
 |_,_,i+1,d,.cons _ t,e=>by obtain⟨v,h1,h2⟩:=Reps.get (i:=i) (d:=d) t (by simpa using e);exact⟨v,by simpa using h1,h2⟩
theorem Reps.getV:∀{vs:List V}{ds:List D}{i:Nat}{v:V},Reps K G vs ds->vs[i]?=some v->∃d,ds[i]?=some d/\Rep K G v d
 |_,_,_,_,.nil,e=>by simp at e
 |_,_,0,_,.cons r _,e=>by simp at e;subst e;exact⟨_,rfl,r⟩
 |_,_,i+1,v,.cons _ t,e=>by obtain⟨d,h1,h2⟩:=Reps.getV (i:=i) (v:=v) t (by simpa using e);exact⟨d,by simpa using h1,h2⟩
theorem Reps.append:∀{vs ws:List V}{ds es:List D},Reps K G vs ds->Reps K G ws es->Reps K G (vs++ws) (ds++es)
 |_,_,_,_,.nil,s=>s
 |_,_,_,_,.cons r t,s=>.cons r (Reps.append t s)
theorem Reps.take:∀{vs:List V}{ds:List D}(n:Nat),Reps K G vs ds->Reps K G (vs.take n) (ds.take n)
 |_,_,0,_=>by simpa using Reps.nil
 |_,_,_+1,.nil=>.nil
 |_,_,n+1,.cons r t=>.cons r (Reps.take n t)
theorem Reps.drop:∀{vs:List V}{ds:List D}(n:Nat),Reps K G vs ds->Reps K G (vs.drop n) (ds.drop n)
 |_,_,0,r=>r
 |_,_,_+1,.nil=>.nil
 |_,_,n+1,.cons _ t=>Reps.drop n t
theorem Reps.set{d:D}(r:Rep K G v d):∀{vs:List V}{ds:List D}(i:Nat),Reps K G vs ds->Reps K G (vs.set i v) (ds.set i d)
 |_,_,_,.nil=>.nil
 |_,_,0,.cons _ t=>.cons r t
 |_,_,i+1,.cons q t=>.cons q (Reps.set r i t)
theorem Reps.rep{ds:List D}(r:Reps K G vs ds):∀n:Nat,Reps K G (List.replicate n vs).flatten (List.replicate n ds).flatten
 | 0=>.nil
 |n+1=>by simp only[o8,j0];exact Reps.append r (Reps.rep r n)
structure Up(G H G' H':Hp):Prop where
 sub:Same G' H'
 gg:Same G G'
 hh:Same H H'
 fr:∀a o,G' a=some o->G a=some o\/H a=none
def Up.refl(s:Same G H):Up G H G H:=⟨s,.refl _,.refl _,λ_ _ h=>.inl h⟩
def Up.trans(a:Up G H G1 H1)(b:Up G1 H1 G2 H2):Up G H G2 H2:=⟨b.sub,a.gg.trans b.gg,a.hh.trans b.hh,λc o h=>by
 rcases b.fr c o h with h|h;·exact a.fr c o h
 ·exact .inr (a.hh.free h)⟩
def Same.both{p:Addr}(s:Same G H):Same (upd G p o) (upd H p o):=λa u h=>by
 unfold L2.upd at h⊢;split;·rename_i e;rw[if_pos e]at h;exact h
 ·rename_i e;rw[if_neg e]at h;exact s a u h
def Same.into{p:Addr}(h:H p=none):Same H (upd H p o):=λa u e=>by rw[aQ (aL e h)];exact e
def Up.new{p:Addr}(s:Same G H)(hp:H p=none):Up G H (upd G p o) (upd H p o):=
 ⟨s.both,.into (s.free hp),.into hp,λa u h=>by
  by_cases e:a=p;·subst e;exact .inr hp
  ·rw[aQ e]at h;exact .inl h⟩
end
inductive R(α:Type) where
 |ok (a:α)|ex (C:Addr)|no
noncomputable def R.bind{α β:Type}:R α->(α->R β)->R β
 |.ok a,f=>f a
 |.ex C,_=>.ex C
 |.no,_=>.no
noncomputable instance:Monad R where
 pure:=.ok
 bind:=R.bind
section
variable{α β:Type}
@[simp] theorem R.ok_bind(a:α)(f:α->R β):(R.ok a>>=f)=f a:=rfl
@[simp] theorem R.ex_bind(C:Addr)(f:α->R β):((R.ex C:R α)>>=f)=.ex C:=rfl
noncomputable def R.post(m:R α)(P:α->Prop)(E:Addr->Prop):Prop:=match m with
 |.ok a=>P a
 |.ex C=>E C
 |.no=>False
def R.post.mono{m:R α}{P P':α->Prop}{E E':Addr->Prop}(h:m.post P E)(hp:∀a,P a->P' a)(he:∀C,E C->E' C):m.post P' E':=by
 cases m with
 |ok a=>exact hp a h
 |ex C=>exact he C h
 |no=>exact h
noncomputable def ofO:Option α->R α
 |some a=>.ok a
 |none=>.no
@[simp] theorem fE(a:α):ofO (some a)=R.ok a:=rfl
theorem ofO.ok{o:Option α}{P:α->Prop}{E:Addr->Prop}(h:(ofO o).post P E):∃a,o=some a/\P a:=by
 cases o with
 |none=>exact h.elim
 |some a=>exact⟨a,rfl,h⟩
end
inductive Fd where
 |val (d:D)|own (ds:List D)
inductive Sl where
  |val (d : D)
  |own (ds : List D)
  |obj (m : Bool) (C p : Addr) (fs : List (Nat × Fd))
noncomputable abbrev Ev:=List (Option Sl)
noncomputable def rdV(ρ:Ev)(i:Nat):R D:=match ρ[i]? with
 |some (some (.val d))=>.ok d
 |_=>.no
noncomputable abbrev rvz(i:Nat):Ev->R D:=λρ=>rdV ρ i
noncomputable abbrev ciz(n:Int):Ev->R D:=λ_=>R.ok (D.int n)
noncomputable abbrev nlz:Ev->R (List D):=λ_=>R.ok []
noncomputable abbrev csz(x:List Nat):Ev->R D:=λ_=>R.ok (D.str x)
noncomputable def fnames:List Str:=["states","taken_back","width","screen","last_notes","tasks","numbers_given"]
noncomputable def EX(k:Nat):Str:=fnames.getD k ""
noncomputable abbrev Owns:=Addr->Option (Nat×Nat)
noncomputable def FdAt(K:PySem.W.Frag)(H₀ G H:Hp)(ow:Owns)(i:Nat)(m:Bool)(k:Nat):Fd->V->Prop
 |.val d,v=>Rep K G v d
 |.own ds,v=>∃l ws,v=.ref l/\H l=some (.lst ws)/\G l=none/\(m=true->H₀ l=none)/\Reps K G ws ds/\ow l=some (i,k+1)
inductive FdsAt(K:PySem.W.Frag)(H₀ G H:Hp)(ow:Owns)(i:Nat)(m:Bool):List (Nat×Fd)->List (Str×V)->Prop
 |nil:FdsAt K H₀ G H ow i m [] []
 |cons {k:Nat} {fd:Fd} {v:V} {fs:List (Nat×Fd)} {vs:List (Str×V)} (h:k<fnames.length) (nk:fs.lookup k=none) (r:FdAt K H₀ G H ow i m k fd v) (t:FdsAt K H₀ G H ow i m fs vs):FdsAt K H₀ G H ow i m ((k,fd)::fs) ((EX k,v)::vs)
noncomputable def InsAt(K:PySem.W.Frag)(H₀ G H:Hp)(ow:Owns)(i:Nat)(m:Bool)(C p:Addr)(fs:List (Nat×Fd)):Prop:=
 ∃dx vs,H p=some (.ins C dx vs)/\H dx=some (.own p)/\G p=none/\G dx=none/\(m=true->H₀ p=none/\H₀ dx=none)/\ow p=some (i,0)/\ow dx=some (i,0)/\FdsAt K H₀ G H ow i m fs vs
noncomputable def DcoAt(K:PySem.W.Frag)(H₀ G H:Hp)(ow:Owns)(i:Nat)(m:Bool)(p:Addr)(fs:List (Nat×Fd)):Prop:=
 ∃o xs ks ds,H p=some (Jm p o xs)/\G p=none/\(m=true->H₀ p=none)/\ow p=some (i,0)/\KeysAt K G xs ks/\Reps K G (xs.map (·.2.2)) ds/\fs=ks.zip (ds.map Fd.val)
noncomputable abbrev DC:Addr:=0
noncomputable def ObjAt(K:PySem.W.Frag)(H₀ G H:Hp)(ow:Owns)(i:Nat)(m:Bool)(C p:Addr)(fs:List (Nat×Fd)):Prop:=(C≠DC/\InsAt K H₀ G H ow i m C p fs)\/(C=DC/\DcoAt K H₀ G H ow i m p fs)
section
variable{K:PySem.W.Frag}{H₀ H₀' G':Hp}{ow ow':Owns}
structure ObKeep(H₀ H₀' G H G' H':Hp)(ow ow':Owns)(i:Nat):Prop where
 hh:∀a t o,ow a=some (i,t)->H a=some o->H' a=some o
 gg:Same G G'
 gn:∀a t o,ow a=some (i,t)->H a=some o->G a=none->G' a=none
 oo:∀a t o,ow a=some (i,t)->H a=some o->ow' a=some (i,t)
 h0:∀a o,H a=some o->G a=none->H₀ a=none->H₀' a=none
def FdAt.keep(k:ObKeep H₀ H₀' G H G' H' ow ow' i){m:Bool}:∀{fd:Fd}{v:V},FdAt K H₀ G H ow i m n fd v->FdAt K H₀' G' H' ow' i m n fd v
 |.val d,v,r=>Rep.mono k.gg (show Rep K G v d from r)
 |.own ds,v,⟨l,ws,e,h1,h2,h3,h4,h5⟩=>⟨l,ws,e,k.hh l _ _ h5 h1,k.gn l _ _ h5 h1 h2,λz=>k.h0 l _ h1 h2 (h3 z),h4.mono k.gg,k.oo l _ _ h5 h1⟩
theorem FdsAt.keep(k:ObKeep H₀ H₀' G H G' H' ow ow' i){m:Bool}:∀{fs:List (Nat×Fd)}{vs:List (Str×V)},FdsAt K H₀ G H ow i m fs vs->FdsAt K H₀' G' H' ow' i m fs vs
 |_,_,.nil=>.nil
 |_,_,.cons h nk r t=>.cons h nk (FdAt.keep k r) (FdsAt.keep k t)
def InsAt.keep(k:ObKeep H₀ H₀' G H G' H' ow ow' i){m:Bool}{p:Addr}{fs:List (Nat×Fd)}(h:InsAt K H₀ G H ow i m C p fs):InsAt K H₀' G' H' ow' i m C p fs:=by obtain⟨dx,vs,h1,h2,h3,h4,h5,h6,h7,h8⟩:=h;exact⟨dx,vs,k.hh p _ _ h6 h1,k.hh dx _ _ h7 h2,k.gn p _ _ h6 h1 h3,k.gn dx _ _ h7 h2 h4,λz=>⟨k.h0 p _ h1 h3 (h5 z).1,k.h0 dx _ h2 h4 (h5 z).2⟩,k.oo p _ _ h6 h1,k.oo dx _ _ h7 h2,h8.keep k⟩
def DcoAt.keep(k:ObKeep H₀ H₀' G H G' H' ow ow' i){m:Bool}{p:Addr}{fs:List (Nat×Fd)}(h:DcoAt K H₀ G H ow i m p fs):DcoAt K H₀' G' H' ow' i m p fs:=
 let⟨o,xs,ks,ds,h1,h2,h3,h4,h5,h6,h7⟩:=h
 ⟨o,xs,ks,ds,k.hh p _ _ h4 h1,k.gn p _ _ h4 h1 h2,λz=>k.h0 p _ h1 h2 (h3 z),k.oo p _ _ h4 h1,h5.mono k.gg,h6.mono k.gg,h7⟩
def ObjAt.keep(k:ObKeep H₀ H₀' G H G' H' ow ow' i){m:Bool}{p:Addr}{fs:List (Nat×Fd)}(h:ObjAt K H₀ G H ow i m C p fs):ObjAt K H₀' G' H' ow' i m C p fs:=h.imp (λz=>⟨z.1,z.2.keep k⟩) λz=>⟨z.1,z.2.keep k⟩
def ObKeep.up(u:Up G H G' H'):ObKeep H₀ H₀ G H G' H' ow ow i:=by
 have gn:∀a o,H a=some o->G a=none->G' a=none:=λa o e n=>by
  cases q:G' a with
  |none=>rfl
  |some o'=>
   rcases u.fr a o' q with z|z;·rw[n]at z;cases z
   ·rw[e]at z;cases z
 exact⟨λa t o _ e=>u.hh a o e,u.gg,λa t o _ e n=>gn a o e n,λa t o e _=>e,λa o _ _ n=>n⟩
end
def ObjAt.rd{K:PySem.W.Frag}{H₀:Hp}{ow:Owns}{m:Bool}{p:Addr}{fs:List (Nat×Fd)}(h:ObjAt K H₀ G H ow i m C p fs):ObjAt K (λ_=>none) G H ow i m C p fs:=
 h.keep ⟨λ_ _ _ _ e=>e,.refl _,λ_ _ _ _ _ n=>n,λ_ _ _ e _=>e,λ_ _ _ _ _=>rfl⟩
structure StE(K:PySem.W.Frag)(G H:Hp)(σ:St)(ρ:Ev):Prop where
 sub:Same G H
 len:σ.length=ρ.length
 val:∀(i:Nat) d,ρ[i]?=some (some (.val d))->∃v,σ[i]?=some (some v)/\Rep K G v d
 obs:∀(i:Nat) m C p fs,ρ[i]?=some (some (.obj m C p fs))->σ[i]?=some (some (.ref p))/\∃ow,ObjAt K (λ_=>none) G H ow i m C p fs
def StE.up{K:PySem.W.Frag}{G':Hp}{ρ:Ev}(s:StE K G H σ ρ)(u:Up G H G' H'):StE K G' H' σ ρ:=
 ⟨u.sub,s.len,λi d e=>let⟨v,h1,h2⟩:=s.val i d e;⟨v,h1,h2.mono u.gg⟩,λi m C p fs e=>let⟨h1,ow,h2⟩:=s.obs i m C p fs e;⟨h1,ow,h2.keep (.up u)⟩⟩
noncomputable def Cy(P:Program)(w:World)(outer:List Env)(H:Hp)(s:Shared)(a C:Addr)(H':Hp)(s':Shared):Prop:=
 s'.os=s.os/\AllBare s'.gens/\Un (frs outer) [] H H' s.heap s'.heap/\HOk P w H' s'.heap/\H' a=none/\
 ∃(B:Heap)(a0:Value),Heap.FlyingW B outer a (.ref C) a0 s'.heap/\∀b o,b∉frs outer->((∃o0,s.heap.get? b=some o0)\/∃u,H' b=some u)->s'.heap.get? b=some o->B.get? b=some o
noncomputable def CXo(P:Program)(w:World):CXT:=λouter H s E e s'=>∃a C H',e=.ref a/\Cy P w outer H s a C H' s'/\E (.ref C) none H'
noncomputable def Iy(X:Cx)(pins:List (Addr×Obj))(b:Addr):Prop:=
 (b∈X.ex\/X.s₀.heap.objs.size<=b)/\b≠X.env.locals/\(∀x c,X.env.cells.lookup x=some c->c≠b)/\∀p∈X.pn++pins,p.1≠b
noncomputable def Bi(X:Cx)(pins:List (Addr×Obj))(L:Addr)(H:Hp)(s:Shared)(a C:Addr)(H':Hp)(s':Shared):Prop:=
 s'.os=s.os/\AllBare s'.gens/\(∃ch,(∀b∈ch,Iy X pins b)/\Un (frs X.stack) ch H H' s.heap s'.heap)/\HOk X.prog X.w H' s'.heap/\H' a=none/\s.heap.get? a=none/\
 ∃(B:Heap)(a0:Value),Heap.HeldW B X.stack a (.ref C) a0 L s'.heap/\∀b o,b∉frs X.stack->((∃o0,s.heap.get? b=some o0)\/∃u,H' b=some u)->s'.heap.get? b=some o->B.get? b=some o
noncomputable def Jn(X:Cx)(σ:St)(G₁ H₁:Hp)(C:Addr)(e:Value)(s':Shared):Prop:=
 ∃pins s₁ a,e=.ref a/\Inv X pins σ H₁ s₁/\
  ((∃h' vs,Heap.MadeExcOf s₁.heap h' a (.ref C) vs/\s'={ s₁ with heap:=h' })\/(∃G' H',Cy X.prog X.w X.stack H₁ s₁ a C H' s'/\Up G₁ H₁ G' H')\/∃G' H' L,X.env.frame=some L/\Bi X pins L H₁ s₁ a C H' s'/\Up G₁ H₁ G' H')
noncomputable def Fly(X:Cx)(σ:St)(G H:Hp)(C:Addr)(e:Value)(s':Shared):Prop:=∃G₁ H₁,Up G H G₁ H₁/\Jn X σ G₁ H₁ C e s'
def Fly.up{G1 H1:Hp}{e:Value}(u:Up G H G1 H1)(f:Fly X σ G1 H1 C e s'):Fly X σ G H C e s':=
 let⟨G2,H2,v,q⟩:=f;⟨G2,H2,u.trans v,q⟩
section
variable{α β:Type}
noncomputable def Fin(G H:Hp)(rep:Hp->β->α->Prop)(Q:β->Hp->Prop):α->Prop:=λd=>∀v G' H',Up G H G' H'->rep G' v d->Q v H'
noncomputable def Exx(X:Cx)(σ:St)(G H:Hp):Addr->Prop:=λC=>∀e s',Fly X σ G H C e s'->X.xe e s'
def Fin.up{G1 H1:Hp}{rep:Hp->β->α->Prop}{Q:β->Hp->Prop}{d:α}(u:Up G H G1 H1)(h:Fin G H rep Q d):Fin G1 H1 rep Q d:=λv G' H' u' r=>h v G' H' (u.trans u') r
def Exx.up{G1 H1:Hp}(u:Up G H G1 H1)(h:Exx X σ G H C):Exx X σ G1 H1 C:=λe s' f=>h e s' (f.up u)
def lC{G1 H1:Hp}{rep:Hp->β->α->Prop}{Q:β->Hp->Prop}{m:R α}(u:Up G H G1 H1)(h:m.post (Fin G H rep Q) (Exx X σ G H)):m.post (Fin G1 H1 rep Q) (Exx X σ G1 H1):=
 h.mono (λ_=>Fin.up u) λ_=>Exx.up u
noncomputable def tG(X:Cx)(rep:Hp->β->α->Prop)(g:Ev->R α):St->Hp->(β->Hp->Prop)->Prop:=λσ H Q=>∃G ρ,StE X.K G H σ ρ/\(g ρ).post (Fin G H rep Q) (Exx X σ G H)
def tG.intro{γ δ:Type}{ρ:Ev}{rep:Hp->β->α->Prop}{rep':Hp->δ->γ->Prop}{g:Ev->R α}{k:α->R γ}{Q:β->Hp->Prop}{Q':δ->Hp->Prop}(st:StE X.K G H σ ρ)(h:(g ρ>>=k).post (Fin G H rep' Q') (Exx X σ G H))(hk:∀a,∀v G1 H1,Up G H G1 H1->StE X.K G1 H1 σ ρ->rep G1 v a->(k a).post (Fin G1 H1 rep' Q') (Exx X σ G1 H1)->Q v H1):tG X rep g σ H Q:=by
 refine⟨G,ρ,st,?_⟩;cases e:g ρ with
 |ok a=>rw[e]at h;exact λv G' H' u r=>hk a v G' H' u (st.up u) r (lC u h)
 |ex C=>rw[e]at h;exact h
 |no=>rw[e]at h;exact h
def tG.last{ρ:Ev}{rep:Hp->β->α->Prop}{g:Ev->R α}{Q:β->Hp->Prop}(st:StE X.K G H σ ρ)(h:(g ρ).post (Fin G H rep Q) (Exx X σ G H)):tG X rep g σ H Q:=⟨G,ρ,st,h⟩
end
noncomputable abbrev tF(X:Cx)(g:Ev->R D):TE:=tG X (Rep X.K) g
noncomputable abbrev tTF(X:Cx)(g:Ev->R Bool):TT:=tG X (λ_ b c=>b=c) g
noncomputable abbrev tAF(X:Cx)(g:Ev->R (List D)):TA:=tG X (Reps X.K) g
noncomputable def PF(X:Cx)(e:Expr)(g:Ev->R D):Prop:=PE X e (tF X g)
noncomputable def PB(X:Cx)(e:Expr)(g:Ev->R Bool):Prop:=PT X e (tTF X g)
noncomputable def PBW(X:Cx)(e:Expr)(g:Ev->R Bool):Prop:=PW X e (tTF X g)
noncomputable def PFA(X:Cx)(es:List Expr)(g:Ev->R (List D)):Prop:=PA X es (tAF X g)
end L2
variable{ds items:List L2.D}{d:L2.D}{ρ:L2.Ev}{gb:L2.Ev->L2.R L2.D}{gl gi:L2.Ev->L2.R (List L2.D)}{asg:L2.D->L2.Ev->L2.R L2.Ev}{gs:List (L2.Ev->L2.R L2.D)}{x6 x4 x5 x0 x10 x11:Option L2.Sl}{ft af aE bE bp cy ak aH az bj aC aN ax:List L2.D->L2.R L2.D}
namespace L2
open PySem PySem.Spec PyProof.Rows
def rdV.ok{P:D->Prop}{E:Addr->Prop}(h:(rdV ρ i).post P E):∃d,ρ[i]?=some (some (.val d))/\P d:=by
 unfold rdV at h;split at h;·rename_i d e;exact⟨d,e,h⟩
 ·exact h.elim
section
variable{e a b c:Expr}{ga gc:Ev->R D}{pos:Pos}
def nq(i:Nat)(hN:X.N[i]?=some x:=by rfl)(hv:Vis X.env.scope x:=by first|exact Or.inl rfl|exact Or.inr (Or.inl rfl)|exact Or.inr (Or.inr rfl))(hd:(x==("__debug__":Str))=false:=by decide)(hcd:(x==("__classdict__":Str))=false:=by decide):PF X (.Name x pos) (λρ=>rdV ρ i):=by
 intro pins s σ H Q I h;obtain⟨G,ρ,st,h⟩:=h;refine tQ hN hv hd hcd pins s σ H Q I ?_;obtain⟨d,e,q⟩:=rdV.ok h;obtain⟨v,e',r⟩:=st.val i d e;exact⟨v,e',q v G H (.refl st.sub) r⟩
def iw(h:PE X e (tC v))(hr:∀K G,Rep K G v d):PF X e (λ_=>.ok d):=by intro pins s σ H Q I q;obtain⟨G,ρ,st,q⟩:=q;exact h pins s σ H Q I (q v G H (.refl st.sub) (hr _ _))
def aA{i:Int}:PF X (.Constant (.int i) j pos) (λ_=>.ok (.int i)):=iw EM λ_ _=>.int i
def iI{k:Bool}:PF X (.Constant (.bool k) j pos) (λ_=>.ok (.bl k)):=iw HZ λ_ _=>.bl k
def jt:PF X (.Constant .none j pos) (λ_=>.ok .non):=iw F9 λ_ _=>.non
def bh{l:List Nat}(hl:x.cps.toList=l:=by rfl)(hz:l.length<=1000:=by decide):PF X (.Constant (.str x) j pos) (λ_=>.ok (.str l)):=
 iw Gw λ_ _=>.strL hl (w9 hz (by decide))
def iC{i:Int}{t:Tok}(hg:Gl X x)(hm:X.mg x=some (.int i t))(hd:(x==("__debug__":Str))=false:=by decide):PF X (.Name x pos) (λ_=>.ok (.int i)):=
 iw (ja (v:=.int i) hg hm ⟨t,rfl⟩ hd) λ_ _=>.int i
noncomputable def ROk(K:PySem.W.Frag)(r:R2)(f:D->D->Option D):Prop:=∀(G H:Hp)(x y:V)(dx dy d:D)(Q:VK),Same G H->Rep K G x dx->Rep K G y dy->f dx dy=some d->Fin G H (Rep K) Q d->r x y H Q
noncomputable def g2(f:D->D->Option D)(ga gb:Ev->R D):Ev->R D:=λρ=>ga ρ>>=λx=>gb ρ>>=λy=>ofO (f x y)
def Ag{r:R2}{f:D->D->Option D}(hf:ROk X.K r f){Q:VK}(h:tF X (g2 f ga gb) σ H Q):tOp r (tF X ga) (tF X gb) σ H Q:=by obtain⟨G,ρ,st,h⟩:=h;refine tG.intro st h λx v G1 H1 u1 st1 r1 h1=>?_;refine tG.intro st1 h1 λy w G2 H2 u2 st2 r2 h2=>?_;obtain⟨d,e,q⟩:=ofO.ok h2;exact hf G2 H2 v w x y d Q st2.sub (r1.mono u2.gg) r2 e q
def qJ{op:Operator}{r:R2}{f:D->D->Option D}(ho:OpR X (binaryOp op) r)(hf:ROk X.K r f)(ha:PF X a ga)(hb:PF X b gb):PF X (.BinOp a op b pos) (g2 f ga gb):=
 λpins s σ H Q I h=>IP ho ha hb pins s σ H Q I (Ag hf h)
def Bh{op:CmpOp}{r:R2}{f:D->D->Option D}(ho:OpR X (compareOp op) r)(hf:ROk X.K r f)(ha:PF X a ga)(hb:PF X b gb)(hm:behindInMarks op b=false):PF X (.Compare a [op] [b] pos) (g2 f ga gb):=
 λpins s σ H Q I h=>CY ho ha hb hm pins s σ H Q I (Ag hf h)
noncomputable def g3(f f':D->D->Option D)(ga gb gc:Ev->R D):Ev->R D:=λρ=>ga ρ>>=λx=>gb ρ>>=λy=>ofO (f x y)>>=λz=>match z with
 |.bl true=>gc ρ>>=λw=>ofO (f' y w)
 |.bl false=>.ok (.bl false)
 |_=>.no
def zf{op op':CmpOp}{r r':R2}{f f':D->D->Option D}(ho:OpR X (compareOp op) r)(ho':OpR X (compareOp op') r')(hf:ROk X.K r f)(hf':ROk X.K r' f')(ha:PF X a ga)(hb:PF X b gb)(hc:PF X c gc)(hm:lastMarks [op,op'] [b,c]=false:=by with_unfolding_all rfl):PF X (.Compare a [op,op'] [b,c] pos) (g3 f f' ga gb gc):=by
 intro pins s σ H Q I h;refine AF ho ho' ha hb hc hm pins s σ H Q I ?_;obtain⟨G,ρ,st,h⟩:=h;refine tG.intro st h λx v G1 H1 u1 st1 r1 h1=>?_;refine tG.intro st1 h1 λy w G2 H2 u2 st2 r2 h2=>?_;cases e:f x y with
 |none=>rw[e]at h2;exact h2.elim
 |some d=>
  rw[e]at h2;refine hf G2 H2 v w x y d _ st2.sub (r1.mono u2.gg) r2 e λz G3 H3 u3 r3=>?_;have h3:=lC u3 h2;have st3:=st2.up u3;cases r3 with
  |bl k=>
   refine⟨k,rfl,?_⟩;cases k with
   |false=>rw[if_neg rK];exact h3 _ G3 H3 (.refl st3.sub) (.bl false)
   |true=>rw[if_pos rfl];refine tG.intro st3 (show(gc ρ>>=λw=>ofO (f' y w)).post _ _ from h3) λq vq G4 H4 u4 st4 r4 h4=>?_;obtain⟨d,e',q'⟩:=ofO.ok h4;exact hf' G4 H4 w vq y q d Q st4.sub ((r2.mono u3.gg).mono u4.gg) r4 e' q'
  |_=>exact h3.elim
end
section
noncomputable def bT:D->D->Option D
 |.int i,.int j=>some (.int (i+j))
 |.str x,.str y=>if x.length+y.length<=sizeLine then some (.str (x++y))else none
 |.lst false xs,.lst false ys=>if xs.length+ys.length<=sizeLine then some (.lst false (xs++ys))else none
 |.tup xs,.tup ys=>if xs.length+ys.length<=sizeLine then some (.tup (xs++ys))else none
 |_,_=>none
noncomputable def Bg(K:PySem.W.Frag):R2:=λx y H Q=>∃a b xs ys,x=.ref a/\y=.ref b/\SqT K H a xs/\SqT K H b ys/\xs.length+ys.length<=sizeLine/\
 (xs=[]->Q (.ref b) H)/\(xs≠[]->ys=[]->Q (.ref a) H)/\(xs≠[]->ys≠[]->∀p,H p=none->Q (.ref p) (upd H p (.tup (xs++ys))))
def zE:OpR X (binaryOp .Add) (Bg X.K):=by
 intro pins s σ H x y v u Q I rx ry h;obtain⟨a,b,xs,ys,rfl,rfl,ha,hb,hz,q0,q1,q2⟩:=h;by_cases hx:xs=[]
 ·cases rx;cases ry;obtain⟨its,r1,p1,_⟩:=I.tuple ha;obtain⟨its2,r2,p2,_⟩:=I.tuple hb;have hi:its=[]:=r1.nil_iff.mpr hx;obtain⟨⟨cls,dd,data,sl⟩,ho,hc,n,hd⟩:=id p1;obtain⟨⟨cls2,dd2,data2,sl2⟩,ho2,hc2,n2,hd2⟩:=id p2;simp only at hc hd hc2 hd2;subst hc hd hc2 hd2;exact concat_meets ⟨_,ho,rfl⟩ ⟨_,ho2,rfl⟩ ZT seq_tuple_add PySem.F.slot_tuple_add PySem.F.entry_tuple_add (PySem.F.args_tuple_add_2 _ _)
   (tuple_addW0 a b its.toArray its2.toArray n n2 dd dd2 sl sl2 (by simp[hi])) ⟨ho,ho2,.ref b,H,I,rfl,q0 hx⟩
 ·exact BQ pins s σ H _ _ v u Q I rx ry ⟨a,b,xs,ys,rfl,rfl,ha,hb,hx,hz,q1 hx,q2 hx⟩
noncomputable def Fb(K:PySem.W.Frag):R2:=λx y H Q=>(rI0 λi j=>.int (i+j)) x y H Q\/(∃i j,x=.str i/\y=.str j/\i.length+j.length<=sizeLine/\Q (.str (i++j)) H)\/Jj x y H Q\/Bg K x y H Q
def CC:OpR X (binaryOp .Add) (Fb X.K):=op_add.or (op_add_str.or (op_cat.or zE))
def Str.app_list(x y:Str):(x++y).cps.toList=x.cps.toList++y.cps.toList:=by show(x.cps++y.cps).toList=_;simp
def Str.len_list(x:Str):x.cps.toList.length=x.length:=by simp[Str.length]
def EK(K:PySem.W.Frag):ROk K (Fb K) bT:=by
 intro G H x y dx dy d Q s rx ry e q;unfold bT at e;split at e;·cases e;exact .inl ⟨_,_,rx.int_inv,ry.int_inv,q _ G H (.refl s) (.int _)⟩
 ·split at e;·rename_i hz;cases e;obtain⟨i,rfl,ei,hi⟩:=rx.str_inv;obtain⟨j,rfl,ej,hj⟩:=ry.str_inv;subst ei ej;rw[Str.len_list,Str.len_list]at hz;exact .inr (.inl ⟨i,j,rfl,rfl,hz,q _ G H (.refl s) (.strL (Str.app_list i j) (by rw[rR,Str.len_list,Str.len_list];exact hz))⟩)
  ·cases e
 ·split at e;·rename_i hz;cases e;obtain⟨a,vs,rfl,ha,ra⟩:=rx.lst_inv;obtain⟨b,ws,rfl,hb,rb⟩:=ry.lst_inv;refine .inr (.inr (.inl ⟨a,b,vs,ws,rfl,rfl,s _ _ ha,s _ _ hb,by rw[ra.length,rb.length];exact hz,λp hp=>q _ _ _ (.new s hp) (.lst ba ?_)⟩));exact(ra.append rb).mono (.into (s.free hp))
  ·cases e
 ·split at e
  ·rename_i hz;cases e;obtain⟨a,vs,rfl,ha,ra⟩:=rx.tup_inv;obtain⟨b,ws,rfl,hb,rb⟩:=ry.tup_inv;refine .inr (.inr (.inr ⟨a,b,vs,ws,rfl,rfl,ha.mono s,hb.mono s,by rw[ra.length,rb.length];exact hz,λz=>?_,λ_ z=>?_,λ_ _ p hp=>?_⟩));·subst z;cases ra;exact q _ G H (.refl s) (.tup hb rb)
   ·subst z;cases rb;rw[mP]at q;exact q _ G H (.refl s) (.tup ha ra)
   ·exact q _ _ _ (.new s hp) (.tup (.of ba) ((ra.append rb).mono (.into (s.free hp))))
  ·cases e
 ·cases e
def bo{a b:Expr}{ga:Ev->R D}{pos:Pos}(ha:PF X a ga)(hb:PF X b gb):PF X (.BinOp a .Add b pos) (g2 bT ga gb):=qJ CC (EK _) ha hb
noncomputable def rC:D->D->Option D
 |.int i,.int j=>some (.int (i - j))
 |_,_=>none
def gO{a b:Expr}{ga:Ev->R D}{pos:Pos}(ha:PF X a ga)(hb:PF X b gb):PF X (.BinOp a .Sub b pos) (g2 rC ga gb):=qJ E4 (by
 intro G H x y dx dy d Q s rx ry e q;unfold rC at e;split at e;·cases e;exact⟨_,_,rx.int_inv,ry.int_inv,q _ G H (.refl s) (.int _)⟩
 ·cases e) ha hb
noncomputable def sX:D->D->Option D
 |.int i,.int j=>if 0<j/\j<1073741824 then some (.int (i / j))else none
 |_,_=>none
def xR{a b:Expr}{ga:Ev->R D}{pos:Pos}(ha:PF X a ga)(hb:PF X b gb):PF X (.BinOp a .FloorDiv b pos) (g2 sX ga gb):=qJ Db (by
 intro G H x y dx dy d Q s rx ry e q;unfold sX at e;split at e
 ·split at e;·rename_i hc;cases e;exact⟨_,_,rx.int_inv,ry.int_inv,hc,q _ G H (.refl s) (.int _)⟩
  ·cases e
 ·cases e) ha hb
noncomputable def wy:D->D->Option D
 |.int i,.int j=>if 0<j then some (.int (i % j))else none
 |_,_=>none
def uc{a b:Expr}{ga:Ev->R D}{pos:Pos}(ha:PF X a ga)(hb:PF X b gb):PF X (.BinOp a .Mod b pos) (g2 wy ga gb):=qJ FN (by
 intro G H x y dx dy d Q s rx ry e q;unfold wy at e;split at e
 ·split at e;·rename_i hc;cases e;exact⟨_,_,rx.int_inv,ry.int_inv,hc,q _ G H (.refl s) (.int _)⟩
  ·cases e
 ·cases e) ha hb
end
section
variable{a b c e:Expr}{ga gc:Ev->R D}{pos:Pos}
noncomputable def leD:D->D->Option D
 |.int i,.int j=>some (.bl (decide (i<=j)))
 |.str x,.str y=>some (.bl (!decide (y<x)))
 |_,_=>none
noncomputable def ltD:D->D->Option D
 |.int i,.int j=>some (.bl (decide (i<j)))
 |.str x,.str y=>some (.bl (decide (x<y)))
 |_,_=>none
noncomputable def gtD:D->D->Option D
 |.int i,.int j=>some (.bl (decide (j<i)))
 |_,_=>none
noncomputable def geD:D->D->Option D
 |.int i,.int j=>some (.bl (decide (j<=i)))
 |_,_=>none
def wX:OpR X (compareOp .LtE) (λx y H Q=>∃i j:Str,x=.str i/\y=.str j/\Q (.bl (!decide (j.cps.toList<i.cps.toList))) H):=by intro pins s σ H x y v u Q I rx ry h;obtain⟨i,j,rfl,rfl,q⟩:=h;obtain⟨t,rfl⟩:=rx;obtain⟨t',rfl⟩:=ry;exact PySem.P.le_str (tX I q rfl)
def vQ(K:PySem.W.Frag):ROk K (λx y H Q=>(rI0 λi j=>.bl (decide (i<=j))) x y H Q\/∃i j:Str,x=.str i/\y=.str j/\Q (.bl (!decide (j.cps.toList<i.cps.toList))) H) leD:=by
 intro G H x y dx dy d Q s rx ry e q;unfold leD at e;split at e;·cases e;exact .inl ⟨_,_,rx.int_inv,ry.int_inv,q _ G H (.refl s) (.bl _)⟩
 ·cases e;obtain⟨i,rfl,ei,hi⟩:=rx.str_inv;obtain⟨j,rfl,ej,hj⟩:=ry.str_inv;subst ei ej;exact .inr ⟨i,j,rfl,rfl,q _ G H (.refl s) (.bl _)⟩
 ·cases e
def Hj(K:PySem.W.Frag):ROk K (λx y H Q=>(rI0 λi j=>.bl (decide (i<j))) x y H Q\/∃i j:Str,x=.str i/\y=.str j/\Q (.bl (decide (i.cps.toList<j.cps.toList))) H) ltD:=by
 intro G H x y dx dy d Q s rx ry e q;unfold ltD at e;split at e;·cases e;exact .inl ⟨_,_,rx.int_inv,ry.int_inv,q _ G H (.refl s) (.bl _)⟩
 ·cases e;obtain⟨i,rfl,ei,hi⟩:=rx.str_inv;obtain⟨j,rfl,ej,hj⟩:=ry.str_inv;subst ei ej;exact .inr ⟨i,j,rfl,rfl,q _ G H (.refl s) (.bl _)⟩
 ·cases e
def Hd(K:PySem.W.Frag):ROk K (rI0 λi j=>.bl (decide (j<i))) gtD:=by
 intro G H x y dx dy d Q s rx ry e q;unfold gtD at e;split at e;·cases e;exact⟨_,_,rx.int_inv,ry.int_inv,q _ G H (.refl s) (.bl _)⟩
 ·cases e
def qZ:OpR X (compareOp .LtE) (λx y H Q=>(rI0 λi j=>.bl (decide (i<=j))) x y H Q\/∃i j:Str,x=.str i/\y=.str j/\Q (.bl (!decide (j.cps.toList<i.cps.toList))) H):=op_le.or wX
def Ej:OpR X (compareOp .Lt) (λx y H Q=>(rI0 λi j=>.bl (decide (i<j))) x y H Q\/∃i j:Str,x=.str i/\y=.str j/\Q (.bl (decide (i.cps.toList<j.cps.toList))) H):=op_lt.or xK
def wE(ha:PF X a ga)(hb:PF X b gb)(hc:PF X c gc)(hm:lastMarks [.LtE,.LtE] [b,c]=false:=by with_unfolding_all rfl):PF X (.Compare a [.LtE,.LtE] [b,c] pos) (g3 leD leD ga gb gc):=zf qZ qZ (vQ _) (vQ _) ha hb hc hm
end
noncomputable def eqZ(f:D->D->Option Bool):List D->List D->Option (List Bool)
 |x::xs,y::ys=>(f x y).bind λb=>(eqZ f xs ys).map (b::·)
 |_,_=>some []
noncomputable def eqD:Nat->D->D->Option Bool
 | 0,_,_=>none
 |n+1,a,b=>match a,b with
  |.non,.non=>some true
  |.bl x,.bl y=>some (x==y)
  |.int i,.int j=>some (i==j)
  |.str x,.str y=>some (x==y)
  |.bl x,.int j=>some ((if x then 1 else 0)==j)
  |.int i,.bl y=>some (i==(if y then 1 else 0))
  |.lst _ xs,.lst _ ys=>if xs.length=ys.length then (eqZ (eqD n) xs ys).map λbs=>bs.all id else some false
  |.tup xs,.tup ys=>(eqZ (eqD n) xs ys).map λbs=>bs.all id && xs.length==ys.length
  |.exc _,_=>none
  |.dct _ _,_=>none
  |_,.exc _=>none
  |_,.dct _ _=>none
  |_,_=>some false
theorem eqZ.get{f:D->D->Option Bool}:∀{xs ys:List D}{bs:List Bool},eqZ f xs ys=some bs->bs.length=min xs.length ys.length/\∀(j:Nat)(x y:D),xs[j]?=some x->ys[j]?=some y->∃b,bs[j]?=some b/\f x y=some b
 | [],_,_,e=>by simp[eqZ]at e;subst e;exact⟨by simp,λj x y h=>by simp at h⟩
 |_::_,[],_,e=>by simp[eqZ]at e;subst e;exact⟨by simp,λj x y _ h=>by simp at h⟩
 |x::xs,y::ys,bs,e=>by
  unfold eqZ at e;cases e1:f x y with
  |none=>rw[e1]at e;cases e
  |some b=>
   rw[e1]at e;cases e2:eqZ f xs ys with
   |none=>rw[e2]at e;cases e
   |some cs=>
    rw[e2]at e;cases e;obtain⟨h1,h2⟩:=eqZ.get e2;refine⟨by simp[h1],λj=>?_⟩;cases j with
    |zero=>intro x' y' hx hy;simp at hx hy;subst hx hy;exact⟨b,rfl,e1⟩
    |succ j=>intro x' y' hx hy;exact h2 j x' y' (by simpa using hx) (by simpa using hy)
def kN{bs:List Bool}(h:bs.length=n):(List.range n).all (λj=>bs.getD j true)=bs.all id:=by
 subst h;rw[Bool.eq_iff_iff,v6,v6];constructor;·intro h b hb;obtain⟨i,hi,rfl⟩:=List.mem_iff_getElem.mp hb;have:=h i (by simpa using hi);simpa[xZ,hi]using this
 ·intro h j hj;have hj':j<bs.length:=by simpa using hj
  have:=h bs[j] (oG hj');simpa[xZ,hj']using this
def eW:(Value.type "list":Value)≠.type "tuple":=by intro h;injection h with h;exact absurd h (by decide)
section
open SeqAt
def gD(I:Inv X pins σ H s)(sub:Same G H):∀(n:Nat)(a b:D)(k:Bool)(x:V),eqD n a b=some k->Rep X.K G x a->Rep X.K G x b->k=true:=by
 intro n;induction n with
 |zero=>intro a b k x e;cases e
 |succ n ih=>
  have sq:∀(vs:List V)(xs ys:List D),Reps X.K G vs xs->Reps X.K G vs ys->∀bs,eqZ (eqD n) xs ys=some bs->bs.all id=true:=by
   intro vs;induction vs with
   |nil=>intro xs ys h1 h2 bs e;cases h1;cases h2;simp[eqZ]at e;subst e;rfl
   |cons v vs ihv=>
    intro xs ys h1 h2 bs e;cases h1 with
    |cons r1 t1=>
     cases h2 with
     |cons r2 t2=>
      unfold eqZ at e;rename_i d1 ds1 d2 ds2;cases e1:eqD n d1 d2 with
      |none=>rw[e1]at e;cases e
      |some b=>
       rw[e1]at e;cases e2:eqZ (eqD n) ds1 ds2 with
       |none=>rw[e2]at e;cases e
       |some cs=>rw[e2]at e;cases e;rw[j4,ih _ _ _ _ e1 r1 r2,ihv _ _ t1 t2 _ e2];rfl
  intro a b k x e ra rb;cases ra with
  |non=>cases rb;simp[eqD]at e;exact e
  |bl y=>cases rb;simp[eqD]at e;exact e
  |int i=>cases rb;simp[eqD]at e;exact e
  |str y h=>
   cases rb with
   |str z h'=>simp[eqD]at e;exact e
  |tup h r=>
   cases rb with
   |tup h' r'=>
    have q:=I.tuple_inj (h.mono sub) (h'.mono sub);subst q;simp only[eqD]at e;rename_i ds es;cases e2:eqZ (eqD n) ds es with
    |none=>rw[e2]at e;cases e
    |some cs=>rw[e2]at e;have this:(cs.all id && ds.length==es.length)=k:=uV e;rw[sq _ _ _ r r' _ e2,mG]at this;rw[<- this,<- r.length,<- r'.length];simp
   |lst h' r'=>obtain⟨its,_,⟨o,e1,c1,_⟩,_⟩:=I.tuple (h.mono sub);obtain⟨_,its',n',_,e2⟩:=I.hok _ _ (sub _ _ h');rw[e1]at e2;cases e2;exact absurd c1 eW
   |fls h' r'=>obtain⟨its,_,⟨o,e1,c1,_⟩,_⟩:=I.tuple (h.mono sub);obtain⟨its',_,⟨o',n',e2,c2,_⟩,_⟩:=I.list (h'.mono sub);rw[e1]at e2;cases e2;rw[c1]at c2;exact absurd c2.symm eW
   |exc h'=>simp[eqD]at e
   |dct _ _ _=>simp[eqD]at e
  |lst h r=>
   have hl:SqL X.K G _ _:=SqL.of h;cases rb with
   |tup h' r'=>obtain⟨its,_,⟨o,e1,c1,_⟩,_⟩:=I.tuple (h'.mono sub);obtain⟨_,its',n',_,e2⟩:=I.hok _ _ (sub _ _ h);rw[e1]at e2;cases e2;exact absurd c1 eW
   |lst h' r'=>
    rw[h]at h';cases h';simp only[eqD]at e;rw[if_pos (by rw[<- r.length,<- r'.length])]at e;rename_i ds es;cases e2:eqZ (eqD n) ds es with
    |none=>rw[e2]at e;cases e
    |some cs=>rw[e2]at e;have:=uV e;rw[<- this];exact sq _ _ _ r r' _ e2
   |fls h' r'=>
    have q:=I.list_inj (hl.mono sub) (h'.mono sub);subst q;simp only[eqD]at e;rw[if_pos (by rw[<- r.length,<- r'.length])]at e;rename_i ds es;cases e2:eqZ (eqD n) ds es with
    |none=>rw[e2]at e;cases e
    |some cs=>rw[e2]at e;have:=uV e;rw[<- this];exact sq _ _ _ r r' _ e2
   |exc h'=>simp[eqD]at e
   |dct _ _ _=>simp[eqD]at e
  |fls h r=>
   cases rb with
   |tup h' r'=>obtain⟨its,_,⟨o,e1,c1,_⟩,_⟩:=I.tuple (h'.mono sub);obtain⟨its',_,⟨o',n',e2,c2,_⟩,_⟩:=I.list (h.mono sub);rw[e1]at e2;cases e2;rw[c1]at c2;exact absurd c2.symm eW
   |lst h' r'=>
    have q:=I.list_inj (h.mono sub) ((SqL.of h':SqL X.K G _ _).mono sub);subst q;simp only[eqD]at e;rw[if_pos (by rw[<- r.length,<- r'.length])]at e;rename_i ds es;cases e2:eqZ (eqD n) ds es with
    |none=>rw[e2]at e;cases e
    |some cs=>rw[e2]at e;have:=uV e;rw[<- this];exact sq _ _ _ r r' _ e2
   |fls h' r'=>
    have q:=I.list_inj (h.mono sub) (h'.mono sub);subst q;simp only[eqD]at e;rw[if_pos (by rw[<- r.length,<- r'.length])]at e;rename_i ds es;cases e2:eqZ (eqD n) ds es with
    |none=>rw[e2]at e;cases e
    |some cs=>rw[e2]at e;have:=uV e;rw[<- this];exact sq _ _ _ r r' _ e2
   |exc h'=>simp[eqD]at e
   |dct _ _ _=>simp[eqD]at e
  |exc h=>simp[eqD]at e
  |dct _ _ _=>simp[eqD]at e
structure Eqs(A:Around)(s:Shared)(v u:Value)(k:Bool):Prop where
 eq:EqAt A s v u k
 rc:RcAt A s v u k
 ne:RcNeAt A s v u (!k)
def jj{f:Bool}{x:V}{u:Value}(I:Inv X pins σ H s)(sub:Same G H)(r:Rep X.K G x (.lst f ds))(ru:RelV x u):∃a its vs,u=.ref a/\s.heap.IsList a (List.toArray its)/\Vals vs its/\Reps X.K G vs ds:=by obtain⟨a,vs,rfl,h,t⟩:=r.seq_inv;cases ru;obtain⟨its,rv,⟨o,n,e1,c1,_,d1⟩,_⟩:=I.list (h.mono sub);exact⟨a,its,vs,rfl,⟨o,e1,c1,n,d1⟩,rv,t⟩
def jz{x:V}{u:Value}(I:Inv X pins σ H s)(sub:Same G H)(r:Rep X.K G x (.tup ds))(ru:RelV x u):∃a its vs,u=.ref a/\s.heap.IsTuple a (List.toArray its)/\Vals vs its/\Reps X.K G vs ds:=by obtain⟨a,vs,rfl,h,t⟩:=r.tup_inv;cases ru;obtain⟨its,rv,p,_⟩:=I.tuple (h.mono sub);exact⟨a,its,vs,rfl,p,rv,t⟩
def om(I:Inv X pins σ H s)(sub:Same G H):∀(n:Nat)(A:Around)(a b:D)(k:Bool)(x y:V)(v u:Value),A.units+n<cLine->eqD n a b=some k->Rep X.K G x a->Rep X.K G y b->RelV x v->RelV y u->Eqs A s v u k:=by
 intro n;induction n with
 |zero=>intro A a b k x y v u _ e;cases e
 |succ n ih=>
  have sq:∀(A:Around)(vs ws:List V)(xs ys:List D)(is js:List Value)(bs:List Bool),A.units+(n+1)<cLine->Reps X.K G vs xs->Reps X.K G ws ys->Vals vs is->Vals ws js->eqZ (eqD n) xs ys=some bs->
    bs.length=min is.length js.length/\∀j (h1:j<is.toArray.size) (h2:j<js.toArray.size),EqAt A.in1 s is.toArray[j] js.toArray[j] (bs.getD j true):=by
   intro A vs ws xs ys is js bs hA r1 r2 v1 v2 e;obtain⟨h1,h2⟩:=eqZ.get e;refine⟨by rw[h1,<- r1.length,<- r2.length,v1.length,v2.length],λj q1 q2=>?_⟩;rw[v4]at q1 q2;have p1:j<xs.length:=by rw[<- r1.length,v1.length];exact q1
   have p2:j<ys.length:=by rw[<- r2.length,v2.length];exact q2
   obtain⟨b,e1,e2⟩:=h2 j xs[j] ys[j] (by simp[p1]) (by simp[p2]);obtain⟨x',ex,rx⟩:=r1.get (i:=j) (d:=xs[j]) (by simp[p1]);obtain⟨y',ey,ry⟩:=r2.get (i:=j) (d:=ys[j]) (by simp[p2]);obtain⟨u1,eu1,ru1⟩:=v1.get ex;obtain⟨u2,eu2,ru2⟩:=v2.get ey;have g1:is.toArray[j]=u1:=by simpa[q1]using eu1
   have g2:js.toArray[j]=u2:=by simpa[q2]using eu2
   rw[xZ,e1];simp only[ZV]at g1 g2⊢;rw[g1,g2];exact(ih A.in1 _ _ b x' y' u1 u2 (by show A.units+1+n<cLine;omega) e2 rx ry ru1 ru2).eq
  intro A a b k x y v u hA e ra rb rv ru;have hu:A.units<cLine:=by omega
  have same:∀c d:Addr,v=.ref c->u=.ref d->c=d->k=true:=λc d h1 h2 h3=>by
   subst h1 h2 h3;cases ra with
   |tup h r=>cases rv;cases rb with
    |tup h' r'=>cases ru;exact gD I sub (n+1) _ _ k _ e (.tup h r) (.tup h' r')
    |lst h' r'=>cases ru;exact gD I sub (n+1) _ _ k _ e (.tup h r) (.lst h' r')
    |fls h' r'=>cases ru;exact gD I sub (n+1) _ _ k _ e (.tup h r) (.fls h' r')
    |exc h'=>simp[eqD]at e
    |dct _ _ _=>simp[eqD]at e
    |str _ _=>obtain⟨t,z⟩:=ru;cases z
    |int _=>obtain⟨t,z⟩:=ru;cases z
    |non=>cases ru
    |bl _=>cases ru
   |lst h r=>cases rv;cases rb with
    |tup h' r'=>cases ru;exact gD I sub (n+1) _ _ k _ e (.lst h r) (.tup h' r')
    |lst h' r'=>cases ru;exact gD I sub (n+1) _ _ k _ e (.lst h r) (.lst h' r')
    |fls h' r'=>cases ru;exact gD I sub (n+1) _ _ k _ e (.lst h r) (.fls h' r')
    |exc h'=>simp[eqD]at e
    |dct _ _ _=>simp[eqD]at e
    |str _ _=>obtain⟨t,z⟩:=ru;cases z
    |int _=>obtain⟨t,z⟩:=ru;cases z
    |non=>cases ru
    |bl _=>cases ru
   |fls h r=>cases rv;cases rb with
    |tup h' r'=>cases ru;exact gD I sub (n+1) _ _ k _ e (.fls h r) (.tup h' r')
    |lst h' r'=>cases ru;exact gD I sub (n+1) _ _ k _ e (.fls h r) (.lst h' r')
    |fls h' r'=>cases ru;exact gD I sub (n+1) _ _ k _ e (.fls h r) (.fls h' r')
    |exc h'=>simp[eqD]at e
    |dct _ _ _=>simp[eqD]at e
    |str _ _=>obtain⟨t,z⟩:=ru;cases z
    |int _=>obtain⟨t,z⟩:=ru;cases z
    |non=>cases ru
    |bl _=>cases ru
   |exc h=>simp[eqD]at e
   |dct _ _ _=>simp[eqD]at e
   |str _ _=>obtain⟨t,z⟩:=rv;cases z
   |int _=>obtain⟨t,z⟩:=rv;cases z
   |non=>cases rv
   |bl _=>cases rv
  have refs:∀c d:Addr,v=.ref c->u=.ref d->RcAt A s v u k->EqAt A s v u k:=λc d h1 h2 h=>by
   subst h1 h2;by_cases h3:c=d;·have:=same c d rfl rfl h3;subst h3 this;exact EqAt.same _
   ·exact EqAt.of_refs h3 h
  cases a with
  |exc C=>simp[eqD]at e
  |dct _ _=>simp[eqD]at e
  |non=>
   obtain rfl:=ra.non_inv;cases rv;cases b with
   |exc C=>simp[eqD]at e
   |dct _ _=>simp[eqD]at e
   |non=>obtain rfl:=rb.non_inv;cases ru;simp[eqD]at e;subst e;exact⟨EqAt.same _,RcAt.none_none,RcNeAt.none_none⟩
   |bl z=>obtain rfl:=rb.bl_inv;cases ru;simp[eqD]at e;subst e;exact⟨EqAt.none_bool _,RcAt.none_bool _,RcNeAt.none_bool _⟩
   |int z=>obtain rfl:=rb.int_inv;obtain⟨t,rfl⟩:=ru;simp[eqD]at e;subst e;exact⟨EqAt.none_int _ _,RcAt.none_int _ _,RcNeAt.none_int _ _⟩
   |str z=>obtain⟨z,rfl,-,-⟩:=rb.str_inv;obtain⟨t,rfl⟩:=ru;simp[eqD]at e;subst e;exact⟨EqAt.none_str _ _,RcAt.none_str _ _,RcNeAt.none_str _ _⟩
   |tup ds=>obtain⟨c,its,vs,rfl,p,_,_⟩:=jz I sub rb ru;simp[eqD]at e;subst e;exact⟨EqAt.none_tuple p hu,RcAt.none_tuple p hu,RcNeAt.none_tuple p hu⟩
   |lst f ds=>obtain⟨c,its,vs,rfl,p,_,_⟩:=jj I sub rb ru;simp[eqD]at e;subst e;exact⟨EqAt.none_list p hu,RcAt.none_list p hu,RcNeAt.none_list p hu⟩
  |bl w=>
   obtain rfl:=ra.bl_inv;cases rv;cases b with
   |exc C=>simp[eqD]at e
   |dct _ _=>simp[eqD]at e
   |non=>obtain rfl:=rb.non_inv;cases ru;simp[eqD]at e;subst e;exact⟨EqAt.bool_none _,RcAt.bool_none _,RcNeAt.bool_none _⟩
   |bl z=>obtain rfl:=rb.bl_inv;cases ru;simp only[eqD]at e;cases e;exact⟨EqAt.bool_bool _ _,RcAt.bool_bool _ _,RcNeAt.bool_bool _ _⟩
   |int z=>obtain rfl:=rb.int_inv;obtain⟨t,rfl⟩:=ru;simp only[eqD]at e;cases e;exact⟨EqAt.bool_int _ _ _,RcAt.bool_int _ _ _,RcNeAt.bool_int _ _ _⟩
   |str z=>obtain⟨z,rfl,-,-⟩:=rb.str_inv;obtain⟨t,rfl⟩:=ru;simp[eqD]at e;subst e;exact⟨EqAt.bool_str _ _ _,RcAt.bool_str _ _ _,RcNeAt.bool_str _ _ _⟩
   |tup ds=>obtain⟨c,its,vs,rfl,p,_,_⟩:=jz I sub rb ru;simp[eqD]at e;subst e;exact⟨EqAt.bool_tuple _ p hu,RcAt.bool_tuple _ p hu,RcNeAt.bool_tuple _ p hu⟩
   |lst f ds=>obtain⟨c,its,vs,rfl,p,_,_⟩:=jj I sub rb ru;simp[eqD]at e;subst e;exact⟨EqAt.bool_list _ p hu,RcAt.bool_list _ p hu,RcNeAt.bool_list _ p hu⟩
  |int w=>
   obtain rfl:=ra.int_inv;obtain⟨t0,rfl⟩:=rv;cases b with
   |exc C=>simp[eqD]at e
   |dct _ _=>simp[eqD]at e
   |non=>obtain rfl:=rb.non_inv;cases ru;simp[eqD]at e;subst e;exact⟨EqAt.int_none _ _,RcAt.int_none _ _,RcNeAt.int_none _ _⟩
   |bl z=>obtain rfl:=rb.bl_inv;cases ru;simp only[eqD]at e;cases e;exact⟨EqAt.int_bool _ _ _,RcAt.int_bool _ _ _,RcNeAt.int_bool _ _ _⟩
   |int z=>obtain rfl:=rb.int_inv;obtain⟨t,rfl⟩:=ru;simp only[eqD]at e;cases e;exact⟨EqAt.int_int _ _ _ _,RcAt.int_int _ _ _ _,RcNeAt.int_int _ _ _ _⟩
   |str z=>obtain⟨z,rfl,-,-⟩:=rb.str_inv;obtain⟨t,rfl⟩:=ru;simp[eqD]at e;subst e;exact⟨EqAt.int_str _ _ _ _,RcAt.int_str _ _ _ _,RcNeAt.int_str _ _ _ _⟩
   |tup ds=>obtain⟨c,its,vs,rfl,p,_,_⟩:=jz I sub rb ru;simp[eqD]at e;subst e;exact⟨EqAt.int_tuple _ _ p hu,RcAt.int_tuple _ _ p hu,RcNeAt.int_tuple _ _ p hu⟩
   |lst f ds=>obtain⟨c,its,vs,rfl,p,_,_⟩:=jj I sub rb ru;simp[eqD]at e;subst e;exact⟨EqAt.int_list _ _ p hu,RcAt.int_list _ _ p hu,RcNeAt.int_list _ _ p hu⟩
  |str w=>
   obtain⟨w,rfl,ew,-⟩:=ra.str_inv;obtain⟨t0,rfl⟩:=rv;cases b with
   |exc C=>simp[eqD]at e
   |dct _ _=>simp[eqD]at e
   |non=>obtain rfl:=rb.non_inv;cases ru;simp[eqD]at e;subst e;exact⟨EqAt.str_none _ _,RcAt.str_none _ _,RcNeAt.str_none _ _⟩
   |bl z=>obtain rfl:=rb.bl_inv;cases ru;simp[eqD]at e;subst e;exact⟨EqAt.str_bool _ _ _,RcAt.str_bool _ _ _,RcNeAt.str_bool _ _ _⟩
   |int z=>obtain rfl:=rb.int_inv;obtain⟨t,rfl⟩:=ru;simp[eqD]at e;subst e;exact⟨EqAt.str_int _ _ _ _,RcAt.str_int _ _ _ _,RcNeAt.str_int _ _ _ _⟩
   |str z=>obtain⟨z,rfl,ez,-⟩:=rb.str_inv;obtain⟨t,rfl⟩:=ru;simp only[eqD]at e;subst ew ez;rw[str_beq]at e;cases e;exact⟨EqAt.str_str _ _ _ _,RcAt.str_str _ _ _ _,RcNeAt.str_str _ _ _ _⟩
   |tup ds=>obtain⟨c,its,vs,rfl,p,_,_⟩:=jz I sub rb ru;simp[eqD]at e;subst e;exact⟨EqAt.str_tuple _ _ p hu,RcAt.str_tuple _ _ p hu,RcNeAt.str_tuple _ _ p hu⟩
   |lst f ds=>obtain⟨c,its,vs,rfl,p,_,_⟩:=jj I sub rb ru;simp[eqD]at e;subst e;exact⟨EqAt.str_list _ _ p hu,RcAt.str_list _ _ p hu,RcNeAt.str_list _ _ p hu⟩
  |tup ds1=>
   obtain⟨c1,its1,vs1,rfl,p1,w1,q1⟩:=jz I sub ra rv;cases b with
   |exc C=>simp[eqD]at e
   |dct _ _=>simp[eqD]at e
   |non=>obtain rfl:=rb.non_inv;cases ru;simp[eqD]at e;subst e;exact⟨EqAt.tuple_none p1 hu,RcAt.tuple_none p1 hu,RcNeAt.tuple_none p1 hu⟩
   |bl z=>obtain rfl:=rb.bl_inv;cases ru;simp[eqD]at e;subst e;exact⟨EqAt.tuple_bool _ p1 hu,RcAt.tuple_bool _ p1 hu,RcNeAt.tuple_bool _ p1 hu⟩
   |int z=>obtain rfl:=rb.int_inv;obtain⟨t,rfl⟩:=ru;simp[eqD]at e;subst e;exact⟨EqAt.tuple_int _ _ p1 hu,RcAt.tuple_int _ _ p1 hu,RcNeAt.tuple_int _ _ p1 hu⟩
   |str z=>obtain⟨z,rfl,-,-⟩:=rb.str_inv;obtain⟨t,rfl⟩:=ru;simp[eqD]at e;subst e;exact⟨EqAt.tuple_str _ _ p1 hu,RcAt.tuple_str _ _ p1 hu,RcNeAt.tuple_str _ _ p1 hu⟩
   |lst f ds=>obtain⟨c,its,vs,rfl,p,_,_⟩:=jj I sub rb ru;simp[eqD]at e;subst e;exact⟨EqAt.tuple_list p1 p hu,RcAt.tuple_list p1 p hu,RcNeAt.tuple_list p1 p hu⟩
   |tup ds2=>
    obtain⟨c2,its2,vs2,rfl,p2,w2,q2⟩:=jz I sub rb ru;simp only[eqD]at e;cases e2:eqZ (eqD n) ds1 ds2 with
    |none=>rw[e2]at e;cases e
    |some bs=>
     rw[e2]at e;have ek:=uV e;obtain⟨hl,he⟩:=sq A _ _ _ _ _ _ bs hA q1 q2 w1 w2 e2;have e3:((List.range (min its1.toArray.size its2.toArray.size)).all (λj=>bs.getD j true) && its1.toArray.size==its2.toArray.size)=k:=by rw[<- ek,v4,v4,kN hl,<- w1.length,<- w2.length,q1.length,q2.length]
     have hrc:RcAt A s (.ref c1) (.ref c2) k:=by rw[<- e3];exact RcAt.tuples p1 p2 hu he
     have hne:RcNeAt A s (.ref c1) (.ref c2) (!k):=by rw[<- e3];exact RcNeAt.tuples p1 p2 hu he
     exact⟨refs _ _ rfl rfl hrc,hrc,hne⟩
  |lst f1 ds1=>
   obtain⟨c1,its1,vs1,rfl,p1,w1,q1⟩:=jj I sub ra rv;cases b with
   |exc C=>simp[eqD]at e
   |dct _ _=>simp[eqD]at e
   |non=>obtain rfl:=rb.non_inv;cases ru;simp[eqD]at e;subst e;exact⟨EqAt.list_none p1 hu,RcAt.list_none p1 hu,RcNeAt.list_none p1 hu⟩
   |bl z=>obtain rfl:=rb.bl_inv;cases ru;simp[eqD]at e;subst e;exact⟨EqAt.list_bool _ p1 hu,RcAt.list_bool _ p1 hu,RcNeAt.list_bool _ p1 hu⟩
   |int z=>obtain rfl:=rb.int_inv;obtain⟨t,rfl⟩:=ru;simp[eqD]at e;subst e;exact⟨EqAt.list_int _ _ p1 hu,RcAt.list_int _ _ p1 hu,RcNeAt.list_int _ _ p1 hu⟩
   |str z=>obtain⟨z,rfl,-,-⟩:=rb.str_inv;obtain⟨t,rfl⟩:=ru;simp[eqD]at e;subst e;exact⟨EqAt.list_str _ _ p1 hu,RcAt.list_str _ _ p1 hu,RcNeAt.list_str _ _ p1 hu⟩
   |tup ds=>obtain⟨c,its,vs,rfl,p,_,_⟩:=jz I sub rb ru;simp[eqD]at e;subst e;exact⟨EqAt.list_tuple p1 p hu,RcAt.list_tuple p1 p hu,RcNeAt.list_tuple p1 p hu⟩
   |lst f2 ds2=>
    obtain⟨c2,its2,vs2,rfl,p2,w2,q2⟩:=jj I sub rb ru;simp only[eqD]at e;by_cases hlen:ds1.length=ds2.length
    ·rw[if_pos hlen]at e;cases e2:eqZ (eqD n) ds1 ds2 with
     |none=>rw[e2]at e;cases e
     |some bs=>
      rw[e2]at e;have ek:=uV e;obtain⟨hl,he⟩:=sq A _ _ _ _ _ _ bs hA q1 q2 w1 w2 e2;have hz:its1.toArray.size=its2.toArray.size:=by rw[v4,v4,<- w1.length,<- w2.length,q1.length,q2.length];exact hlen
      have e3:(List.range its1.toArray.size).all (λj=>bs.getD j true)=k:=by rw[<- ek,kN];rw[hl,v4];simp only[v4]at hz;omega
      have hrc:RcAt A s (.ref c1) (.ref c2) k:=by rw[<- e3];exact RcAt.lists p1 p2 hz hu he
      have hne:RcNeAt A s (.ref c1) (.ref c2) (!k):=by rw[<- e3];exact RcNeAt.lists p1 p2 hz hu he
      exact⟨refs _ _ rfl rfl hrc,hrc,hne⟩
    ·rw[if_neg hlen]at e;cases e;have hz:(its1.toArray.size != its2.toArray.size)=true:=by rw[v4,v4,<- w1.length,<- w2.length,q1.length,q2.length];simpa using hlen
     have hrc:RcAt A s (.ref c1) (.ref c2) false:=RcAt.lists_lengths p1 p2 hz hu;exact⟨refs _ _ rfl rfl hrc,hrc,RcNeAt.lists_lengths p1 p2 hz hu⟩
end
section
variable{a b:Expr}{ga:Ev->R D}{pos:Pos}
noncomputable def eqF(x y:D):Option D:=(eqD 40 x y).map .bl
noncomputable def neF(x y:D):Option D:=(eqD 40 x y).map λk=>.bl (!k)
noncomputable def GP(K:PySem.W.Frag)(neg:Bool):R2:=λx y H Q=>∃G dx dy k,Same G H/\Rep K G x dx/\Rep K G y dy/\eqD 40 dx dy=some k/\Q (.bl (if neg then !k else k)) H
def AW(hu:X.A.units+64<cLine):OpR X (compareOp .Eq) (GP X.K false):=by intro pins s σ H x y v u Q I rx ry h;obtain⟨G,dx,dy,k,sub,r1,r2,e,q⟩:=h;exact(om I sub 40 X.A dx dy k x y v u (by omega) e r1 r2 rx ry).rc _ _ _ _ ⟨.bl k,H,I,rfl,q⟩
def EH(hu:X.A.units+64<cLine):OpR X (compareOp .NotEq) (GP X.K true):=by intro pins s σ H x y v u Q I rx ry h;obtain⟨G,dx,dy,k,sub,r1,r2,e,q⟩:=h;exact(om I sub 40 X.A dx dy k x y v u (by omega) e r1 r2 rx ry).ne _ _ _ _ ⟨.bl (!k),H,I,rfl,q⟩
def xx(hu:X.A.units+64<cLine)(ha:PF X a ga)(hb:PF X b gb):PF X (.Compare a [.Eq] [b] pos) (g2 eqF ga gb):=Bh (AW hu) (by
 intro G H x y dx dy d Q s rx ry e q;unfold eqF at e;cases e1:eqD 40 dx dy with
 |none=>rw[e1]at e;cases e
 |some k=>rw[e1]at e;cases e;exact⟨G,dx,dy,k,s,rx,ry,e1,q _ G H (.refl s) (.bl k)⟩) ha hb (kn _)
end
end L2
namespace L2
open PySem PySem.Spec PyProof.Rows
section
variable{a b c e:Expr}{fS:List Expr}{ga gc:Ev->R D}{gt gu:Ev->R Bool}{pos:Pos}
noncomputable def isD:D->D->Option Bool
 |.non,.non=>some true
 |_,.non=>some false
 |.bl x,.bl y=>some (x==y)
 |_,_=>none
noncomputable def isF(x y:D):Option D:=(isD x y).map .bl
noncomputable def uL(x y:D):Option D:=(isD x y).map λk=>.bl (!k)
noncomputable def rIs(neg:Bool):R2:=λx y H Q=>(y=.non/\Q (.bl (if neg then !decide (x=.non)else decide (x=.non))) H)\/∃i j,x=.bl i/\y=.bl j/\Q (.bl (if neg then !(i==j)else (i==j))) H
def Eu:OpR X (compareOp .Is) (rIs false):=op_isN.or (r':=λx y H Q=>∃i j,x=.bl i/\y=.bl j/\Q (.bl (i==j)) H) (by intro pins s σ H x y v u Q I rx ry h;obtain⟨i,j,rfl,rfl,q⟩:=h;cases rx;cases ry;exact is_bool ⟨.bl _,H,I,rfl,q⟩)
def yp:OpR X (compareOp .IsNot) (rIs true):=op_notN.or (r':=λx y H Q=>∃i j,x=.bl i/\y=.bl j/\Q (.bl (!(i==j))) H) (by intro pins s σ H x y v u Q I rx ry h;obtain⟨i,j,rfl,rfl,q⟩:=h;cases rx;cases ry;exact isnot_bool ⟨.bl _,H,I,rfl,q⟩)
def Gc(K:PySem.W.Frag)(neg:Bool):ROk K (rIs neg) (λx y=>(isD x y).map λk=>.bl (if neg then !k else k)):=by
 intro G H x y dx dy d Q s rx ry e q;dsimp only at e;cases e1:isD dx dy with
 |none=>rw[e1]at e;cases e
 |some k=>
  rw[e1]at e;have ed:D.bl (if neg=true then !k else k)=d:=uV e;subst ed;unfold isD at e1;split at e1;·cases e1;exact .inl ⟨ry.non_inv,by rw[rx.non_inv];exact q _ G H (.refl s) (.bl _)⟩
  ·rename_i hx;cases e1;have hn:x≠.non:=λz=>by subst z;cases rx;exact hx rfl
   refine .inl ⟨ry.non_inv,?_⟩;rw[tH hn];exact q _ G H (.refl s) (.bl _)
  ·cases e1;exact .inr ⟨_,_,rx.bl_inv,ry.bl_inv,q _ G H (.refl s) (.bl _)⟩
  ·cases e1
noncomputable def asB:D->R Bool
 |.bl k=>.ok k
 |_=>.no
noncomputable def sB(ga gb:Ev->R D):Ev->R D:=λρ=>ga ρ>>=λx=>asB x>>=λk=>if k=true then gb ρ else .ok (.bl false)
noncomputable def gOr(ga gb:Ev->R D):Ev->R D:=λρ=>ga ρ>>=λx=>asB x>>=λk=>if k=true then .ok (.bl true)else gb ρ
noncomputable def IT(ga:Ev->R D):Ev->R D:=λρ=>ga ρ>>=λx=>asB x>>=λk=>.ok (.bl (!k))
def asB.ok{β:Type}{K:PySem.W.Frag}{k:Bool->R β}{P:β->Prop}{E:Addr->Prop}(r:Rep K G v d)(h:(asB d>>=k).post P E):∃c,v=.bl c/\d=.bl c/\(k c).post P E:=by
 cases r with
 |bl c=>exact⟨c,rfl,rfl,h⟩
 |_=>exact h.elim
def kO{op:BoolOp}(h:PF X a ga):PF X (.BoolOp op [a] pos) ga:=DN h
def iL(ha:PF X a ga)(hb:PF X (.BoolOp .And (b::fS) pos) gb):PF X (.BoolOp .And (a::b::fS) pos) (sB ga gb):=by
 intro pins s σ H Q I h;refine FU ha hb pins s σ H Q I ?_;obtain⟨G,ρ,st,h⟩:=h;refine tG.intro st h λx v G1 H1 u1 st1 r1 h1=>?_;obtain⟨c,ec,ed,h2⟩:=asB.ok r1 h1;subst ec ed;refine⟨c,rfl,?_⟩;cases c with
 |true=>rw[if_pos rfl]at h2⊢;exact tG.last st1 h2
 |false=>rw[if_neg rK]at h2⊢;exact h2 _ G1 H1 (.refl st1.sub) (.bl false)
def D0(ha:PF X a ga):PF X (.UnaryOp .Not a pos) (IT ga):=by intro pins s σ H Q I h;refine Em ha pins s σ H Q I ?_;obtain⟨G,ρ,st,h⟩:=h;refine tG.intro st h λx v G1 H1 u1 st1 r1 h1=>?_;obtain⟨c,ec,ed,h2⟩:=asB.ok r1 h1;subst ec ed;exact⟨c,rfl,h2 _ G1 H1 (.refl st1.sub) (.bl _)⟩
noncomputable def BN:D->R D
 |.int i=>.ok (.int (-i))
 |_=>.no
def Gu(ha:PF X a ga):PF X (.UnaryOp .USub a pos) (λρ=>ga ρ>>=BN):=by
 intro pins s σ H Q I h;refine Ix DZ ha pins s σ H Q I ?_;obtain⟨G,ρ,st,h⟩:=h;refine tG.intro st h λx v G1 H1 u1 st1 r1 h1=>?_;cases r1 with
 |int i=>exact⟨i,rfl,h1 _ G1 H1 (.refl st1.sub) (.int _)⟩
 |_=>exact h1.elim
noncomputable def fO:D->R Bool
 |.non=>.ok false
 |.bl k=>.ok k
 |.int i=>.ok (i != 0)
 |.str x=>.ok (!x.isEmpty)
 |.tup xs=>.ok (!xs.isEmpty)
 |.lst _ xs=>.ok (!xs.isEmpty)
 |.exc _=>.no
 |.dct _ _=>.no
def Reps.isEmpty{K:PySem.W.Frag}(r:Reps K G vs ds):vs.isEmpty=ds.isEmpty:=by cases r <;> rfl
def Ba(h:PF X e ga)(he:∀whole,isTrue e X.env whole=(do let v <- whole;standAt e.pos;holding [v] (truthy v)):=by intro _;rfl):PB X e (λρ=>ga ρ>>=fO):=by
 intro pins s σ H Q I hq;refine yJ h he pins s σ H Q I ?_;obtain⟨G,ρ,st,hq⟩:=hq;refine tG.intro st hq λx v G1 H1 u1 st1 r1 h1=>?_;have fin:∀k,fO x=.ok k->Q k H1:=λk ek=>by rw[ek]at h1;exact h1 k G1 H1 (.refl st1.sub) rfl
 cases r1 with
 |non=>exact⟨_,rfl,fin _ rfl⟩
 |bl k=>exact⟨_,rfl,fin _ rfl⟩
 |int i=>exact⟨_,rfl,fin _ rfl⟩
 |str y hy=>
  refine⟨_,⟨hy,rfl⟩,fin _ ?_⟩;show R.ok _=R.ok _
  congr 1
  have:y.cps.toList.length=y.length:=Str.len_list y;cases h:y.cps.toList with
  |nil=>rw[h]at this;rw[<- this];rfl
  |cons c cs=>rw[h]at this;rw[<- this];simp;omega
 |tup h r=>exact⟨_,.inr (.inl ⟨_,h.mono st1.sub,rfl⟩),fin _ (by show R.ok _=R.ok _;rw[r.isEmpty])⟩
 |lst h r=>exact⟨_,.inl ⟨_,.of (st1.sub _ _ h),rfl⟩,fin _ (by show R.ok _=R.ok _;rw[r.isEmpty])⟩
 |fls h r=>exact⟨_,.inl ⟨_,h.mono st1.sub,rfl⟩,fin _ (by show R.ok _=R.ok _;rw[r.isEmpty])⟩
 |_=>exact h1.elim
def ko{op:CmpOp}{r:R2}{f:D->D->Option D}(ho:OpR X (compareOp op) r)(hf:ROk X.K r f)(ha:PF X a ga)(hb:PF X b gb)(hm:behindInMarks op b=false):PB X (.Compare a [op] [b] pos) (λρ=>g2 f ga gb ρ>>=asB):=by
 intro pins s σ H Q I h;refine Cp ho ha hb hm pins s σ H Q I ?_;obtain⟨G,ρ,st,h⟩:=h;refine Ag hf ?_;refine tG.intro st h λx v G1 H1 u1 st1 r1 h1=>?_;cases r1 with
 |bl k=>exact⟨k,rfl,h1 k G1 H1 (.refl st1.sub) rfl⟩
 |_=>exact h1.elim
def Hw(ha:PF X a ga)(hb:PF X b gb):PB X (.Compare a [.Lt] [b] pos) (λρ=>g2 ltD ga gb ρ>>=asB):=ko Ej (Hj _) ha hb (kn _)
def Ho(ha:PF X a ga)(hb:PF X b gb):PB X (.Compare a [.LtE] [b] pos) (λρ=>g2 leD ga gb ρ>>=asB):=ko qZ (vQ _) ha hb (kn _)
def HR(ha:PF X a ga)(hb:PF X b gb):PB X (.Compare a [.Gt] [b] pos) (λρ=>g2 gtD ga gb ρ>>=asB):=ko Hv (Hd _) ha hb (kn _)
def AV(K:PySem.W.Frag)(neg:Bool):ROk K (GP K neg) (λx y=>(eqD 40 x y).map λk=>.bl (if neg then !k else k)):=by
 intro G H x y dx dy d Q s rx ry e q;dsimp only at e;cases e1:eqD 40 dx dy with
 |none=>rw[e1]at e;cases e
 |some k=>rw[e1]at e;cases e;exact⟨G,dx,dy,k,s,rx,ry,e1,q _ G H (.refl s) (.bl _)⟩
def GQ(hu:X.A.units+64<cLine)(ha:PF X a ga)(hb:PF X b gb):PB X (.Compare a [.Eq] [b] pos) (λρ=>g2 eqF ga gb ρ>>=asB):=ko (AW hu) (AV _ false) ha hb (kn _)
def Hr(hu:X.A.units+64<cLine)(ha:PF X a ga)(hb:PF X b gb):PB X (.Compare a [.NotEq] [b] pos) (λρ=>g2 neF ga gb ρ>>=asB):=ko (EH hu) (AV _ true) ha hb (kn _)
def Ie(ha:PF X a ga)(hb:PF X b gb):PB X (.Compare a [.Is] [b] pos) (λρ=>g2 isF ga gb ρ>>=asB):=ko Eu (Gc _ false) ha hb (kn _)
def yR(ha:PF X a ga)(hb:PF X b gb):PB X (.Compare a [.IsNot] [b] pos) (λρ=>g2 uL ga gb ρ>>=asB):=ko yp (Gc _ true) ha hb (kn _)
def Ak{op op':CmpOp}{r r':R2}{f f':D->D->Option D}(ho:OpR X (compareOp op) r)(ho':OpR X (compareOp op') r')(hf:ROk X.K r f)(hf':ROk X.K r' f')(ha:PF X a ga)(hb:PF X b gb)(hc:PF X c gc)(hm:lastMarks [op,op'] [b,c]=false:=by with_unfolding_all rfl):PB X (.Compare a [op,op'] [b,c] pos) (λρ=>g3 f f' ga gb gc ρ>>=asB):=by
 intro pins s σ H Q I h;refine zL ho ho' ha hb hc hm pins s σ H Q I ?_;obtain⟨G,ρ,st,h⟩:=h;have h':(ga ρ>>=λx=>gb ρ>>=λy=>ofO (f x y)>>=λz=>(match z with|.bl true=>gc ρ>>=λw=>ofO (f' y w)|.bl false=>.ok (.bl false)|_=>.no)>>=asB).post (Fin G H (λ_ b c=>b=c) Q) (Exx X σ G H):=by
  have e:(g3 f f' ga gb gc ρ>>=asB)=(ga ρ>>=λx=>gb ρ>>=λy=>ofO (f x y)>>=λz=>(match z with|.bl true=>gc ρ>>=λw=>ofO (f' y w)|.bl false=>.ok (.bl false)|_=>.no)>>=asB):=by
   unfold g3;cases ga ρ with
   |ok x=>cases gb ρ with
    |ok y=>simp only[R.ok_bind];cases ofO (f x y) <;> rfl
    |_=>rfl
   |_=>rfl
  rw[<- e];exact h
 refine tG.intro st h' λx v G1 H1 u1 st1 r1 h1=>?_;refine tG.intro st1 h1 λy w G2 H2 u2 st2 r2 h2=>?_;cases e:f x y with
 |none=>rw[e]at h2;exact h2.elim
 |some d=>
  rw[e]at h2;refine hf G2 H2 v w x y d _ st2.sub (r1.mono u2.gg) r2 e λz G3 H3 u3 r3=>?_;have h3:=lC u3 h2;have st3:=st2.up u3;cases r3 with
  |bl k=>
   refine⟨k,rfl,?_⟩;cases k with
   |false=>rw[if_neg rK];exact⟨false,rfl,h3 _ G3 H3 (.refl st3.sub) rfl⟩
   |true=>
    rw[if_pos rfl];have h3':(gc ρ>>=λw=>ofO (f' y w)>>=asB).post (Fin G3 H3 (λ_ b c=>b=c) Q) (Exx X σ G3 H3):=by
     have e:((gc ρ>>=λw=>ofO (f' y w))>>=asB)=(gc ρ>>=λw=>ofO (f' y w)>>=asB):=by cases gc ρ <;> rfl
     rw[<- e];exact h3
    refine tG.intro st3 h3' λq vq G4 H4 u4 st4 r4 h4=>?_;cases e':f' y q with
    |none=>rw[e']at h4;exact h4.elim
    |some d'=>
     rw[e']at h4;refine hf' G4 H4 w vq y q d' _ st4.sub ((r2.mono u3.gg).mono u4.gg) r4 e' λz' G5 H5 u5 r5=>?_;have h5:=lC u5 h4;cases r5 with
     |bl k'=>exact⟨k',rfl,h5 k' G5 H5 (.refl u5.sub) rfl⟩
     |_=>exact h5.elim
  |_=>exact h3.elim
def C9(ha:PF X a ga)(hb:PF X b gb)(hc:PF X c gc)(hm:lastMarks [.LtE,.LtE] [b,c]=false:=by with_unfolding_all rfl):PB X (.Compare a [.LtE,.LtE] [b,c] pos) (λρ=>g3 leD leD ga gb gc ρ>>=asB):=Ak qZ qZ (vQ _) (vQ _) ha hb hc hm
noncomputable def wx(t u:Ev->R Bool):Ev->R Bool:=λρ=>t ρ>>=λk=>if k=true then u ρ else .ok false
noncomputable def vy(t u:Ev->R Bool):Ev->R Bool:=λρ=>t ρ>>=λk=>if k=true then .ok true else u ρ
def oO(ha:PB X a gt):PBW X (.BoolOp .And [a] pos) gt:=Du ha
def hZ(ha:PB X a gt):PBW X (.BoolOp .Or [a] pos) gt:=GF ha
def sG(ha:PB X a gt)(hb:PBW X (.BoolOp .And (b::fS) pos) gu):PBW X (.BoolOp .And (a::b::fS) pos) (wx gt gu):=by
 intro whole pins s σ H Q I h;refine E9 ha hb whole pins s σ H Q I ?_;obtain⟨G,ρ,st,h⟩:=h;refine tG.intro st h λx v G1 H1 u1 st1 r1 h1=>?_;subst r1;cases v with
 |true=>rw[if_pos rfl]at h1⊢;exact tG.last st1 h1
 |false=>rw[if_neg rK]at h1⊢;exact h1 _ G1 H1 (.refl st1.sub) rfl
def hU(ha:PB X a gt)(hb:PBW X (.BoolOp .Or (b::fS) pos) gu):PBW X (.BoolOp .Or (a::b::fS) pos) (vy gt gu):=by
 intro whole pins s σ H Q I h;refine Ih ha hb whole pins s σ H Q I ?_;obtain⟨G,ρ,st,h⟩:=h;refine tG.intro st h λx v G1 H1 u1 st1 r1 h1=>?_;subst r1;cases v with
 |true=>rw[if_pos rfl]at h1⊢;exact h1 _ G1 H1 (.refl st1.sub) rfl
 |false=>rw[if_neg rK]at h1⊢;exact tG.last st1 h1
def E6(ha:PB X a gt):PB X (.UnaryOp .Not a pos) (λρ=>gt ρ>>=λk=>.ok (!k)):=by intro pins s σ H Q I h;refine Gx ha pins s σ H Q I ?_;obtain⟨G,ρ,st,h⟩:=h;refine tG.intro st h λx v G1 H1 u1 st1 r1 h1=>?_;subst r1;exact h1 _ G1 H1 (.refl st1.sub) rfl
noncomputable def gIf(gt:Ev->R Bool)(ga gb:Ev->R D):Ev->R D:=λρ=>gt ρ>>=λk=>if k=true then ga ρ else gb ρ
def De(hc:PB X c gt)(ha:PF X a ga)(hb:PF X b gb):PF X (.IfExp c a b pos) (gIf gt ga gb):=by
 intro pins s σ H Q I h;refine yY hc ha hb pins s σ H Q I ?_;obtain⟨G,ρ,st,h⟩:=h;refine tG.intro st h λx v G1 H1 u1 st1 r1 h1=>?_;subst r1;cases v with
 |true=>rw[if_pos rfl]at h1⊢;exact tG.last st1 h1
 |false=>rw[if_neg rK]at h1⊢;exact tG.last st1 h1
def ag:PFA X [] (λ_=>.ok []):=by intro pos pins s σ H Q I h;obtain⟨G,ρ,st,h⟩:=h;exact gU pos pins s σ H Q I (h [] G H (.refl st.sub) .nil)
def yC(ha:PF X e ga)(hr:PFA X es gl)(hs:starEach (e::es) X.env=(false,eval e X.env)::starEach es X.env:=by rfl):PFA X (e::es) (λρ=>ga ρ>>=λx=>gl ρ>>=λxs=>.ok (x::xs)):=by intro pos pins s σ H Q I h;refine cE ha hr hs pos pins s σ H Q I ?_;obtain⟨G,ρ,st,h⟩:=h;refine tG.intro st h λx v G1 H1 u1 st1 r1 h1=>?_;refine tG.intro st1 h1 λy w G2 H2 u2 st2 r2 h2=>?_;exact h2 _ G2 H2 (.refl st2.sub) (.cons (r1.mono u2.gg) r2)
noncomputable def mkT(ds:List D):R D:=if ds.length<=sizeLine then .ok (.tup ds)else .no
def DV(h:PFA X es gl):PF X (.Tuple es k pos) (λρ=>gl ρ>>=mkT):=by
 intro pins s σ H Q I hq;refine A2 h pins s σ H Q I ?_;obtain⟨G,ρ,st,hq⟩:=hq;refine tG.intro st hq λds vs G1 H1 u1 st1 r1 h1=>?_;unfold mkT at h1;split at h1;·rename_i hz;exact⟨by rw[r1.length];exact hz,λp hp=>h1 _ _ _ (.new st1.sub hp) (.tup (.of ba) (r1.mono (.into (st1.sub.free hp))))⟩
 ·exact h1.elim
def A3{c:Nat}:[c].length<=sizeLine:=by show 1<=sizeLine;decide
noncomputable def ixD:D->D->Option D
 |.lst _ xs,.int i=>atI xs i
 |.tup xs,.int i=>atI xs i
 |.str x,.int i=>(atI x i).map λc=>.str [c]
 |_,_=>none
def Reps.atI{K:PySem.W.Frag}{G:Hp}{vs:List V}{ds:List D}{i:Int}{d:D}(r:Reps K G vs ds)(h:atI ds i=some d):∃v,atI vs i=some v/\Rep K G v d:=by
 unfold L2.atI at h⊢;rw[r.length];cases e:ixN ds.length i with
 |none=>rw[e]at h;cases h
 |some j=>rw[e]at h;exact r.get h
def IB(K:PySem.W.Frag):ROk K (rIx K) ixD:=by
 intro G H x y dx dy d Q s rx ry e q;unfold ixD at e;split at e;·obtain⟨a,vs,rfl,h,r⟩:=rx.seq_inv;obtain⟨v,e1,r1⟩:=r.atI e;exact .inl ⟨a,vs,_,v,rfl,ry.int_inv,h.mono s,e1,q v G H (.refl s) r1⟩
 ·obtain⟨a,vs,rfl,h,r⟩:=rx.tup_inv;obtain⟨v,e1,r1⟩:=r.atI e;exact .inr (.inl ⟨a,vs,_,v,rfl,ry.int_inv,h.mono s,e1,q v G H (.refl s) r1⟩)
 ·rename_i z i;obtain⟨y',rfl,ey,hy⟩:=rx.str_inv;subst ey;cases e1:L2.atI y'.cps.toList i with
  |none=>rw[e1]at e;cases e
  |some c=>rw[e1]at e;cases e;exact .inr (.inr ⟨y',i,c,rfl,ry.int_inv,hy,e1,q _ G H (.refl s) (.strL (by simp) A3)⟩)
 ·cases e
def cB(ha:PF X a ga)(hb:PF X b gb)(hs:sA b:=by exact λ_ _=>rfl):PF X (.Subscript a b pos) (g2 ixD ga gb):=
 λpins s σ H Q I h=>ED Ff ha hb hs pins s σ H Q I (Ag (IB _) h)
end
noncomputable def iJ{α:Type}(xs:List α)(lo hi:Option Int):List α:=(xs.drop (HT.sIx xs.length 0 lo)).take (HT.sIx xs.length xs.length hi - HT.sIx xs.length 0 lo)
def C2{α:Type}(xs:List α)(lo hi:Option Int):(iJ xs lo hi).length<=xs.length:=by unfold iJ;rw[d7,d8];omega
def Reps.cut{K:PySem.W.Frag}(r:Reps K G vs ds)(lo hi:Option Int):Reps K G (Bm vs lo hi) (iJ ds lo hi):=by unfold Bm iJ;rw[r.length];exact(r.drop _).take _
section
variable{a b c e:Expr}{fS:List Expr}{lo hi:Option Expr}{ga gc:Ev->R D}{go gp:Ev->R (Option Int)}{pos p2:Pos}
noncomputable def Gm(K:PySem.W.Frag):V->Option Int->Option Int->Hp->VK->Prop:=λx lo hi H Q=>∃a xs,x=.ref a/\SqT K H a xs/\
 (HT.sIx xs.length 0 lo=0/\HT.sIx xs.length xs.length hi=xs.length)/\Q (.ref a) H
def sl_tup_whole:SlR X (Gm X.K):=by
 intro pins s σ H x v vl vu lo hi sl Q I rx hs pl pu h;obtain⟨a,xs,rfl,hx,⟨hw1,hw2⟩,q⟩:=h;cases rx;obtain⟨its,r,ht,hz⟩:=I.tuple hx;have hlen:its.toArray.size=xs.length:=by rw[v4];exact r.length.symm
 refine⟨"tuple",_,PyProof.Rows.slot_tuple_getitem.lookup,ht.typeIs,?_⟩;obtain⟨os,hos,hcs,hds⟩:=id hs;have hTs:s.TypeIs (.ref sl) "slice":=⟨os,hos,hcs⟩
 unfold getItem
 try with_reducible refine k9 ?_
 first|refine z6 (z9 ?_)|skip
 refine z6 (wpAny_sequenceKey ht.typeIs (by decide) ?_);refine z6 (kY (name:=Str.ofString "__getitem__") ht.typeIs Yk
  (lH Yk ht.typeIs entry_tuple_getitem ?_ (args_tuple_getitem _ _)));show wpAny _ _ (Builtin.Tuple.tupleItemsOf (.ref a)>>=_) _ _ s;refine z6 (aT ht ?_);refine z6 (Z0 hTs ?_);rw[if_pos (by decide)];refine z6 (HT.sliceApplied_gen hs pl pu ?_);rw[hlen,hw1,hw2];dsimp only;rw[if_pos (by simp)];have fin:EP X pins σ Q (.ref a) s:=⟨.ref a,H,I,rfl,q⟩
 obtain⟨o,ho,hc,n,hd⟩:=id ht;unfold Builtin.Tuple.tupleIsExact;refine z6 (z6 (Z0 ht.typeIs (z9 ?_)));rw[if_pos (by decide)];exact z6 (lT (z9 ⟨_,rfl,z9 fin⟩))
theorem Gg{α:Type}(xs:List α)(a:Nat):∀k:Nat,((List.range k).map (a + ·)).filterMap (λi:Nat=>xs[i]?)=(xs.drop a).take k
 | 0=>by simp
 |k+1=>by
  rw[List.range_succ,Z1,List.filterMap_append,Gg xs a k,List.take_add_one,ZW]
  congr 1
  try (simp only[tv,j3,ZR,List.filterMap_nil];cases xs[a+k]? <;> rfl)
def ub(n d:Nat)(v:Option Int):(match v with|none=>(d:Int)|some i=>max 0 (min (if i<0 then i+(n:Int)else i) (n:Int)))=((HT.sIx n d v:Nat):Int):=by
 cases v with
 |none=>rfl
 |some i=>show max 0 (min (if i<0 then i+(n:Int)else i) (n:Int))=(((if i<0 then (i+(n:Int)).toNat else min i.toNat n):Nat):Int);split <;> omega
def BC(lo hi:Option Int)(n:Nat):Builtin.Str.strSliceIndices lo hi 1 n=(List.range (HT.sIx n n hi - HT.sIx n 0 lo)).map (HT.sIx n 0 lo + ·):=by
 have e:Builtin.Str.strSliceIndices lo hi 1 n=sliceRange ((HT.sIx n 0 lo:Nat):Int) ((HT.sIx n n hi:Nat):Int) 1:=by rw[<- ub n 0 lo,<- ub n n hi];rfl
 rw[e];generalize HT.sIx n 0 lo=a;generalize HT.sIx n n hi=b;unfold sliceRange;have hc:(if (1:Int) > 0 then (if (a:Int)<(b:Int)then ((b:Int) - (a:Int)+1 - 1) / 1 else 0)else (if (a:Int) > (b:Int)then ((a:Int) - (b:Int) - 1 - 1) / (-1)else 0)).toNat=b - a:=by
  rw[if_pos (by decide)];split;·rw[Int.ediv_one];omega
  ·omega
 simp only[hc];apply mH;intro k _;omega
def yd(x:Str)(lo hi:Option Int):(Txt.slice x lo hi).cps.toList=iJ x.cps.toList lo hi:=by
 have hn:x.cps.toList.length=x.length:=Str.len_list x;unfold Txt.slice iJ;rw[hn,BC];have hb:HT.sIx x.length x.length hi<=x.length:=HT.sIx_le _ _ (yo _) hi;by_cases hc:((1:Int)==1 && ((List.range (HT.sIx x.length x.length hi - HT.sIx x.length 0 lo)).map (HT.sIx x.length 0 lo + ·)).length==x.length)=true
 ·rw[if_pos hc];have h2:HT.sIx x.length x.length hi - HT.sIx x.length 0 lo=x.length:=by simpa using hc
  have h3:HT.sIx x.length 0 lo=0\/x.length=0:=by omega
  rw[h2];rcases h3 with h3|h3;·rw[h3,Z2,<- hn,ZX]
  ·have:x.cps.toList=[]:=Yl (by rw[hn];exact h3);rw[this];simp
 ·rw[if_neg hc];have e:(λi:Nat=>x.cps[i]?)=(λi:Nat=>x.cps.toList[i]?):=by funext i;simp
  show(List.filterMap (λi:Nat=>x.cps[i]?) _).toArray.toList=_;rw[List.toList_toArray,e,Gg]
noncomputable def Jv:V->Option Int->Option Int->Hp->VK->Prop:=λx lo hi H Q=>∃y:Str,x=.str y/\y.length<=sizeLine/\Q (.str (Txt.slice y lo hi)) H
theorem sl_str:SlR X Jv:=by
 intro pins s σ H x v vl vu lo hi sl Q I rx hs pl pu h;obtain⟨y,rfl,hz,q⟩:=h;obtain⟨t,rfl⟩:=rx;refine⟨"str",_,F.slot_str_getitem.lookup,typeIs_str _ _ _,?_⟩;cases pl with
 |none=>
  cases pu with
  |none=>exact Zm (l:=none) (u:=none) (st:=none) hs rfl (Zn ⟨w9 (Zo y _ _) hz,λt' k=>⟨.str _,H,I.tok k,⟨t',rfl⟩,q⟩⟩)
  |int j uj=>exact Zm (l:=none) (u:=some (j,uj)) (st:=none) hs rfl (Zn ⟨w9 (Zo y _ _) hz,λt' k=>⟨.str _,H,I.tok k,⟨t',rfl⟩,q⟩⟩)
 |int i ui=>
  cases pu with
  |none=>exact Zm (l:=some (i,ui)) (u:=none) (st:=none) hs rfl (Zn ⟨w9 (Zo y _ _) hz,λt' k=>⟨.str _,H,I.tok k,⟨t',rfl⟩,q⟩⟩)
  |int j uj=>exact Zm (l:=some (i,ui)) (u:=some (j,uj)) (st:=none) hs rfl (Zn ⟨w9 (Zo y _ _) hz,λt' k=>⟨.str _,H,I.tok k,⟨t',rfl⟩,q⟩⟩)
noncomputable def DI(lo hi:Option Int):D->Option D
 |.str x=>some (.str (iJ x lo hi))
 |.tup xs=>some (.tup (iJ xs lo hi))
 |.lst _ xs=>some (.lst false (iJ xs lo hi))
 |_=>none
noncomputable def rSl(K:PySem.W.Frag):V->Option Int->Option Int->Hp->VK->Prop:=λx lo hi H Q=>Jv x lo hi H Q\/Gm K x lo hi H Q\/Jx K x lo hi H Q\/Ju K x lo hi H Q
def F0:SlR X (rSl X.K):=sl_str.or (sl_tup_whole.or (sl_tup.or C4))
noncomputable def PFO(X:Cx)(o:Option Expr)(g:Ev->R (Option Int)):Prop:=PO X o (tG X (λ_ b c=>b=c) g)
def cT:PFO X none (λ_=>.ok none):=by intro pins s σ H Q I h;obtain⟨G,ρ,st,h⟩:=h;exact B7 pins s σ H Q I (h none G H (.refl st.sub) rfl)
noncomputable def asI:D->R Int
 |.int i=>.ok i
 |_=>.no
def zi(h:PF X e ga):PFO X (some e) (λρ=>ga ρ>>=λx=>asI x>>=λi=>.ok (some i)):=by
 intro pins s σ H Q I hq;refine Co h pins s σ H Q I ?_;obtain⟨G,ρ,st,hq⟩:=hq;refine tG.intro st hq λx v G1 H1 u1 st1 r1 h1=>?_;cases r1 with
 |int i=>exact⟨i,rfl,h1 (some i) G1 H1 (.refl st1.sub) rfl⟩
 |_=>exact h1.elim
noncomputable def gSl(ga:Ev->R D)(go gp:Ev->R (Option Int)):Ev->R D:=λρ=>ga ρ>>=λx=>go ρ>>=λl=>gp ρ>>=λu=>ofO (DI l u x)
def cU(ha:PF X a ga)(hl:PFO X lo go)(hu:PFO X hi gp):PF X (.Subscript a (.Slice lo hi none p2) pos) (gSl ga go gp):=by
 intro pins s σ H Q I h;refine Ac F0 ha hl hu pins s σ H Q I ?_;obtain⟨G,ρ,st,h⟩:=h;refine tG.intro st h λx v G1 H1 u1 st1 r1 h1=>?_;refine tG.intro st1 h1 λl l' G2 H2 u2 st2 r2 h2=>?_;subst r2;refine tG.intro st2 h2 λu u' G3 H3 u3 st3 r3 h3=>?_;subst r3;obtain⟨d,e,q⟩:=ofO.ok h3;have r:=(r1.mono u2.gg).mono u3.gg;unfold DI at e;split at e;·cases e;obtain⟨y,rfl,ey,hy⟩:=r.str_inv;subst ey;exact .inl ⟨y,rfl,hy,q _ G3 H3 (.refl st3.sub) (.strL (yd y _ _) (w9 (C2 _ _ _) (by rw[Str.len_list];exact hy)))⟩
 ·rename_i xs0;cases e;obtain⟨a,vs,rfl,h,t⟩:=r.tup_inv;by_cases hw:HT.sIx vs.length 0 l'=0/\HT.sIx vs.length vs.length u'=vs.length
  ·refine .inr (.inl ⟨a,vs,rfl,h.mono st3.sub,hw,q _ G3 H3 (.refl st3.sub) ?_⟩);have e1:iJ xs0 l' u'=xs0:=by unfold iJ;rw[<- t.length,hw.1,hw.2,Z2,Nat.sub_zero,t.length,ZX]
   rw[e1];exact .tup h t
  ·exact .inr (.inr (.inl ⟨a,vs,rfl,h.mono st3.sub,hw,λp hp=>q _ _ _ (.new st3.sub hp) (.tup (.of ba) ((t.cut _ _).mono (.into (st3.sub.free hp))))⟩))
 ·cases e;obtain⟨a,vs,rfl,h,t⟩:=r.seq_inv;exact .inr (.inr (.inr ⟨a,vs,rfl,h.mono st3.sub,λp hp=>q _ _ _ (.new st3.sub hp) (.lst ba ((t.cut _ _).mono (.into (st3.sub.free hp))))⟩))
 ·cases e
noncomputable def Bx(K:PySem.W.Frag)(r:List V->Hp->VK->Prop)(f:List D->Option D):Prop:=∀(G H:Hp)(xs:List V)(ds:List D)(d:D)(Q:VK),Same G H->Reps K G xs ds->f ds=some d->Fin G H (Rep K) Q d->r xs H Q
def gI{id:String}{r:List V->Hp->VK->Prop}{f:List D->Option D}(hc:gT X (.builtin id) r)(hf:Bx X.K r f)(hg:Gl X x)(hm:X.mg x=none)(hv:bootBuiltins x=some (.builtin id))(ha:PFA X (e::es) gl)(hn:x≠"__name__":=by decide)(hdb:(x==("__debug__":Str))=false:=by decide)(he:starEach (e::es) X.env=(false,eval e X.env)::starEach es X.env:=by rfl)(hpl:(backTo pos (starEach es X.env)).any (·.1)=false:=by rfl):PF X (.Call (.Name x p) (e::es) [] pos) (λρ=>gl ρ>>=λds=>ofO (f ds)):=by
 intro pins s σ H Q I h;refine jH hc hg hm hv ha hn hdb he hpl pins s σ H Q I ?_;obtain⟨G,ρ,st,h⟩:=h;refine tG.intro st h λds vs G1 H1 u1 st1 r1 h1=>?_;obtain⟨d,e,q⟩:=ofO.ok h1;exact hf G1 H1 vs ds d Q st1.sub r1 e q
def yg{T:String}{r:List V->Hp->VK->Prop}{f:List D->Option D}(hc:gT X (.type T) r)(hf:Bx X.K r f)(hg:Gl X x)(hm:X.mg x=none)(hv:bootBuiltins x=some (.type T))(ha:PFA X (e::es) gl)(hn:x≠"__name__":=by decide)(hdb:(x==("__debug__":Str))=false:=by decide)(he:starEach (e::es) X.env=(false,eval e X.env)::starEach es X.env:=by rfl)(hpl:(backTo pos (starEach es X.env)).any (·.1)=false:=by rfl):PF X (.Call (.Name x p) (e::es) [] pos) (λρ=>gl ρ>>=λds=>ofO (f ds)):=by
 intro pins s σ H Q I h;refine lR hc hg hm hv ha hn hdb he hpl pins s σ H Q I ?_;obtain⟨G,ρ,st,h⟩:=h;refine tG.intro st h λds vs G1 H1 u1 st1 r1 h1=>?_;obtain⟨d,e,q⟩:=ofO.ok h1;exact hf G1 H1 vs ds d Q st1.sub r1 e q
def Reps.one{K:PySem.W.Frag}(r:Reps K G vs [d]):∃v,vs=[v]/\Rep K G v d:=by
 cases r with
 |cons r t=>cases t;exact⟨_,rfl,r⟩
def Reps.two{K:PySem.W.Frag}{d':D}(r:Reps K G vs [d,d']):∃v w,vs=[v,w]/\Rep K G v d/\Rep K G w d':=by
 cases r with
 |cons r t=>obtain⟨w,rfl,r'⟩:=t.one;exact⟨_,w,rfl,r,r'⟩
noncomputable def df:List D->Option D
 | [.str x]=>some (.int x.length)
 | [.tup xs]=>some (.int xs.length)
 | [.lst _ xs]=>some (.int xs.length)
 |_=>none
def FT(hg:Gl X "len")(hm:X.mg "len"=none)(ha:PFA X [e] gl)(he:starEach [e] X.env=[(false,eval e X.env)]:=by rfl):PF X (.Call (.Name "len" p) [e] [] pos) (λρ=>gl ρ>>=λds=>ofO (df ds)):=
 gI zQ (by
  intro G H xs ds d Q s r e q;unfold df at e;split at e;·cases e;obtain⟨v,rfl,r1⟩:=r.one;obtain⟨y,rfl,ey,hy⟩:=r1.str_inv;subst ey;exact⟨_,y.length,rfl,⟨hy,rfl⟩,by rw[<- Str.len_list];exact q _ G H (.refl s) (.int _)⟩
  ·cases e;obtain⟨v,rfl,r1⟩:=r.one;obtain⟨a,vs,rfl,h,t⟩:=r1.tup_inv;exact⟨_,vs.length,rfl,.inr ⟨vs,h.mono s,rfl⟩,by rw[t.length];exact q _ G H (.refl s) (.int _)⟩
  ·cases e;obtain⟨v,rfl,r1⟩:=r.one;obtain⟨a,vs,rfl,h,t⟩:=r1.seq_inv;exact⟨_,vs.length,rfl,.inl ⟨vs,h.mono s,rfl⟩,by rw[t.length];exact q _ G H (.refl s) (.int _)⟩
  ·cases e) hg hm PySem.boot_len ha (he:=by rw[he];rfl)
noncomputable def DJ:List D->Option D
 | [.str [c]]=>some (.int (c:Nat))
 |_=>none
noncomputable def F6:List D->Option D
 | [.int i,.int j]=>some (.int (if j<i then j else i))
 |_=>none
def FE(K:PySem.W.Frag):Bx K (λxs H Q=>∃x:Str,xs=[.str x]/\x.length=1/\Q (.int (x.cps.getD 0 0:Nat)) H) DJ:=by
 intro G H xs ds d Q s r e q;unfold DJ at e;split at e
 ·rename_i c;cases e;obtain⟨v,rfl,r1⟩:=r.one;obtain⟨y,rfl,ey,hy⟩:=r1.str_inv;refine⟨y,rfl,by rw[<- Str.len_list,ey];rfl,?_⟩;have h0:y.cps = #[c]:=by rw[<- Array.toArray_toList (xs:=y.cps),ey]
  rw[h0];exact q _ G H (.refl s) (.int _)
 ·cases e
def Et(K:PySem.W.Frag):Bx K (λxs H Q=>∃i j,xs=[.int i,.int j]/\Q (.int (if j<i then j else i)) H) F6:=by
 intro G H xs ds d Q s r e q;unfold F6 at e;split at e;·cases e;obtain⟨v,w,rfl,r1,r2⟩:=r.two;obtain rfl:=r1.int_inv;obtain rfl:=r2.int_inv;exact⟨_,_,rfl,q _ G H (.refl s) (.int _)⟩
 ·cases e
noncomputable def fX:List D->Option D
 | [.lst _ xs]=>some (.tup xs)
 | [.tup xs]=>some (.tup xs)
 |_=>none
def zq(K:PySem.W.Frag):Bx K (λxs H Q=>∃p ys,xs=[.ref p]/\((SqL K H p ys/\∀l,H l=none->Q (.ref l) (upd H l (.tup ys)))\/(SqT K H p ys/\Q (.ref p) H))) fX:=by
 intro G H xs ds d Q s r e q;unfold fX at e;split at e;·cases e;obtain⟨v,rfl,r1⟩:=r.one;obtain⟨a,vs,rfl,h,t⟩:=r1.seq_inv;exact⟨a,vs,rfl,.inl ⟨h.mono s,λl hl=>q _ _ _ (.new s hl) (.tup (.of ba) (t.mono (.into (s.free hl))))⟩⟩
 ·cases e;obtain⟨v,rfl,r1⟩:=r.one;obtain⟨a,vs,rfl,h,t⟩:=r1.tup_inv;exact⟨a,vs,rfl,.inr ⟨h.mono s,q _ G H (.refl s) (.tup h t)⟩⟩
 ·cases e
end
noncomputable def ItOk(K:PySem.W.Frag)(G₁:Hp)(J:It)(items:List D):Prop:=∀(i:Nat)(G H:Hp),Same G₁ G->Same G H->
 (∀d,items[i]?=some d->J.go i H/\∀x H',J.yld i H x H'->∃G',Up G H G' H'/\Rep K G' x d)/\(items.length<=i->J.stop i H)
noncomputable def PIF(X:Cx)(tg iter:Expr)(g:Ev->R (List D)):Prop:=PI X tg iter (tG X (λG J items=>ItOk X.K G J items) g)
noncomputable def Its(x:Str):It:=⟨λi _=>i<x.cps.size,λi H v H'=>H'=H/\∃c,x.cps[i]?=some c/\v=.str ⟨#[c]⟩,λi _=>x.cps.size<=i⟩
section
variable{a e:Expr}{ga:Ev->R D}{pos:Pos}
def yw{l:Addr}{Rr:It->Hp->Prop}(I:Inv X pins σ H s)(h:SqL X.K H l xs)(q:Rr (Itl X.K l) H):
  wpAny (model X.prog X.w) X.A (pyIter (.ref l)) (PIE X pins σ tg Rr) X.xe s:=by
 obtain⟨its,rv,p,hz⟩:=I.list h;refine Zp p.isList ?_;refine⟨s.heap.objs.size,[s.heap.objs.size],_,_,H,rfl,I.kept (t':=s.toks) λb o e=>w8 _ e,xV l _,⟨_,t8 _ rfl,rfl,rfl⟩,λb hb=>?_,q⟩;have e:b=s.heap.objs.size:=by simpa using hb
 subst e;exact I.fpOk (yo _) (I.hok.fresh (yo _))
def DQ{l:Addr}{Rr:It->Hp->Prop}(I:Inv X pins σ H s)(h:SqT X.K H l xs)(q:Rr (Itt X.K l) H):
  wpAny (model X.prog X.w) X.A (pyIter (.ref l)) (PIE X pins σ tg Rr) X.xe s:=by
 obtain⟨its,rv,p,hz⟩:=I.tuple h;refine Zq (show s.heap.IsTuple l its.toArray from p) ?_;refine⟨s.heap.objs.size,[s.heap.objs.size],_,_,H,rfl,I.kept (t':=s.toks) λb o e=>w8 _ e,uZ l _,⟨_,t8 _ rfl,rfl,rfl⟩,λb hb=>?_,q⟩;have e:b=s.heap.objs.size:=by simpa using hb
 subst e;exact I.fpOk (yo _) (I.hok.fresh (yo _))
def uX{w:World}{K:PySem.W.Frag}(it:Addr)(x:Str)(t:Tok):Turn P w K tg (Its x) [it] it (λi h=>h.IsStrIter it "str_ascii_iterator" x t i) where
 mem:=by simp
 obj:=λi h st b hb=>by
  have e:b=it:=by simpa using hb
  subst e;obtain⟨o,e,c,d⟩:=st;exact⟨o,e,λv z=>by rw[d]at z;cases z⟩
 keep:=λi h h' st k=>let⟨o,ho,r⟩:=st;⟨o,k it (by simp) o ho,r⟩
 item:=by intro X hP hw hK hc i pins s σ H E I hf st hg;subst hP hw hK;have hg':i<x.cps.size:=hg;obtain⟨f0,f1,f2,f3,f4,f5⟩:=hf it (by simp);refine wpAny_pyNext_ascii_item st (c:=x.cps[i]) (by simp[hg']) λh' st' sb=>?_;have I1:Inv X pins σ H { s with heap:=h',toks:=s.toks+1 }:=I.turned (t':=s.toks+1) (λb o hb e=>(sb.2 b hb).trans e) f0 f1 f3 f4 f5;obtain⟨o,e,c,d⟩:=id st';exact⟨_,rfl,wO (s:={ s with heap:=h',toks:=s.toks+1 }) e c d (by decide) ⟨.str ⟨#[x.cps[i]]⟩,H,I1,⟨_,rfl⟩,⟨rfl,_,by simp[hg'],rfl⟩,st',λb hb=>(hf b hb).1⟩⟩
 done:=by intro X hP hw hK hc i pins s σ H E I hf st hg;subst hP hw hK;obtain⟨f0,f1,f2,f3,f4,f5⟩:=hf it (by simp);have hg':x.cps.size<=i:=hg;exact wpAny_pyNext_ascii_end (I.ok.hd hc) st (by simp;omega) λh' eb=>⟨rfl,I.turned (t':=s.toks) (λb o hb e=>eb b o hb e) f0 f1 f3 f4 f5⟩
 self:=λ_ _ _ _ _ st h=>wpAny_pyIter_striter_ascii st h
def wD{w:World}{K:PySem.W.Frag}(it:Addr)(x:Str)(t:Tok):Turn P w K tg (Its x) [it] it (λi h=>h.IsStrIter it "str_iterator" x t i) where
 mem:=by simp
 obj:=λi h st b hb=>by
  have e:b=it:=by simpa using hb
  subst e;obtain⟨o,e,c,d⟩:=st;exact⟨o,e,λv z=>by rw[d]at z;cases z⟩
 keep:=λi h h' st k=>let⟨o,ho,r⟩:=st;⟨o,k it (by simp) o ho,r⟩
 item:=by intro X hP hw hK hc i pins s σ H E I hf st hg;subst hP hw hK;have hg':i<x.cps.size:=hg;obtain⟨f0,f1,f2,f3,f4,f5⟩:=hf it (by simp);refine wpAny_pyNext_wide_item st (c:=x.cps[i]) (by simp[hg']) λh' st' sb=>?_;have I1:Inv X pins σ H { s with heap:=h',toks:=s.toks+1 }:=I.turned (t':=s.toks+1) (λb o hb e=>(sb.2 b hb).trans e) f0 f1 f3 f4 f5;obtain⟨o,e,c,d⟩:=id st';exact⟨_,rfl,wO (s:={ s with heap:=h',toks:=s.toks+1 }) e c d (by decide) ⟨.str ⟨#[x.cps[i]]⟩,H,I1,⟨_,rfl⟩,⟨rfl,_,by simp[hg'],rfl⟩,st',λb hb=>(hf b hb).1⟩⟩
 done:=by intro X hP hw hK hc i pins s σ H E I hf st hg;subst hP hw hK;obtain⟨f0,f1,f2,f3,f4,f5⟩:=hf it (by simp);have hg':x.cps.size<=i:=hg;exact wpAny_pyNext_wide_end (I.ok.hd hc) st (by simp;omega) λh' eb=>⟨rfl,I.turned (t':=s.toks) (λb o hb e=>eb b o hb e) f0 f1 f3 f4 f5⟩
 self:=λ_ _ _ _ _ st h=>wpAny_pyIter_striter_wide st h
def F8{t:Tok}{Rr:It->Hp->Prop}(I:Inv X pins σ H s)(q:Rr (Its x) H):
  wpAny (model X.prog X.w) X.A (pyIter (.str x t)) (PIE X pins σ tg Rr) X.xe s:=by
 have fp:∀(o:Obj),∀b∈[s.heap.objs.size],kE X pins H b:=λo b hb=>by
  have e:b=s.heap.objs.size:=by simpa using hb
  subst e;exact I.fpOk (yo _) (I.hok.fresh (yo _))
 cases ha:x.cps.all (· < 128);·refine wpAny_pyIter_wide ha ⟨s.heap.objs.size,[s.heap.objs.size],_,_,H,rfl,I.kept (t':=s.toks) λb o e=>w8 _ e,wD _ x t,⟨_,t8 _ rfl,rfl,rfl⟩,fp default,q⟩
 ·refine wpAny_pyIter_ascii ha ⟨s.heap.objs.size,[s.heap.objs.size],_,_,H,rfl,I.kept (t':=s.toks) λb o e=>w8 _ e,uX _ x t,⟨_,t8 _ rfl,rfl,rfl⟩,fp default,q⟩
noncomputable def bg:D->R (List D)
 |.lst _ xs=>.ok xs
 |.tup xs=>.ok xs
 |.str x=>.ok (x.map λc=>.str [c])
 |_=>.no
def ItOk.list{K:PySem.W.Frag}{l:Addr}(h:SqL K G l vs)(r:Reps K G vs ds):ItOk K G (Itl K l) ds:=by intro i G1 H1 s1 s2;refine⟨λd e=>?_,λhl=>⟨vs,(h.mono s1).mono s2,by rw[r.length];exact hl⟩⟩;obtain⟨v,ev,rv⟩:=r.get e;refine⟨⟨vs,v,(h.mono s1).mono s2,ev⟩,λx H' y=>?_⟩;obtain⟨rfl,y⟩:=y;have:=y vs ((h.mono s1).mono s2);rw[ev]at this;cases this;exact⟨G1,.refl s2,rv.mono s1⟩
def ItOk.tup{K:PySem.W.Frag}{l:Addr}(h:SqT K G l vs)(r:Reps K G vs ds):ItOk K G (Itt K l) ds:=by intro i G1 H1 s1 s2;refine⟨λd e=>?_,λhl=>⟨vs,(h.mono s1).mono s2,by rw[r.length];exact hl⟩⟩;obtain⟨v,ev,rv⟩:=r.get e;refine⟨⟨vs,v,(h.mono s1).mono s2,ev⟩,λx H' y=>?_⟩;obtain⟨rfl,y⟩:=y;have:=y vs ((h.mono s1).mono s2);rw[ev]at this;cases this;exact⟨G1,.refl s2,rv.mono s1⟩
def ItOk.str{K:PySem.W.Frag}(x:Str):ItOk K G (Its x) (x.cps.toList.map λc=>.str [c]):=by
 intro i G1 H1 s1 s2;refine⟨λd e=>?_,λhl=>show x.cps.size<=i by simpa using hl⟩;rw[v8]at e;cases ec:x.cps.toList[i]? with
 |none=>rw[ec]at e;cases e
 |some c=>
  rw[ec]at e;cases e;have hi:i<x.cps.size:=by have:=(sT.mp ec).1;simpa using this
  refine⟨hi,λv H' y=>?_⟩;obtain⟨rfl,c',e',rfl⟩:=y;have:c'=c:=by
   have h2:x.cps.toList[i]?=x.cps[i]?:=by simp
   rw[h2,e']at ec;exact uV ec
  subst this;exact⟨G1,.refl s2,.strL rfl A3⟩
def ItOk.range{K:PySem.W.Frag}(lo:Int)(n:Nat):ItOk K G (Itr lo n) ((List.range n).map λi=>.int (lo+(i:Nat))):=by
 intro i G1 H1 s1 s2;refine⟨λd e=>?_,λhl=>show n<=i by simpa using hl⟩;rw[v8]at e;by_cases hi:i<n;·rw[l7 hi]at e;cases e;refine⟨hi,λv H' y=>?_⟩;obtain⟨rfl,rfl⟩:=y;exact⟨G1,.refl s2,.int _⟩
 ·rw[Z4 (by simpa using hi)]at e;cases e
def B4(ha:PF X a ga):PIF X tg a (λρ=>ga ρ>>=bg):=by
 intro pins s σ H Rr I h;obtain⟨G,ρ,st,h⟩:=h;have t:tF X ga σ H (λx H1=>∃G1 d,Same G1 H1/\Rep X.K G1 x d/\(bg d).post (Fin G1 H1 (λG J items=>ItOk X.K G J items) Rr) (Exx X σ G1 H1)):=
  tG.intro st h λx v G1 H1 u1 st1 r1 h1=>⟨G1,x,st1.sub,r1,h1⟩
 refine thn (ha pins s σ H _ I t) λv s1 ⟨x,H1,I1,r1,G1,d,sub,rd,h1⟩=>?_;cases rd with
 |lst hh r=>cases r1;exact yw I1 (.of (sub _ _ hh)) (h1 _ G1 H1 (.refl sub) (.list (.of hh) r))
 |fls hh r=>cases r1;exact yw I1 (hh.mono sub) (h1 _ G1 H1 (.refl sub) (.list hh r))
 |tup hh r=>cases r1;exact DQ I1 (hh.mono sub) (h1 _ G1 H1 (.refl sub) (.tup hh r))
 |str y hy=>obtain⟨t,rfl⟩:=r1;exact F8 I1 (h1 _ G1 H1 (.refl sub) (.str y))
 |_=>exact h1.elim
noncomputable def bQ:List D->R (List D)
 | [.int j]=>if -(2 ^ 62)<=j/\j<2 ^ 62 then .ok ((List.range j.toNat).map λi=>.int (0+(i:Nat)))else .no
 |_=>.no
def vF(hg:Gl X "range")(hm:X.mg "range"=none)(ha:PFA X [a] gl)(hs:starEach [a] X.env=[(false,eval a X.env)]:=by rfl):PIF X tg (.Call (.Name "range" p) [a] [] pos) (λρ=>gl ρ>>=bQ):=by
 intro pins s σ H Rr I h;refine yz hg hm ha hs pins s σ H Rr I ?_;obtain⟨G,ρ,st,h⟩:=h;refine tG.intro st h λds vs G1 H1 u1 st1 r1 h1=>?_;unfold bQ at h1;split at h1
 ·split at h1;·rename_i hj;obtain⟨v,rfl,r⟩:=r1.one;obtain rfl:=r.int_inv;exact⟨_,rfl,hj.1,hj.2,h1 _ G1 H1 (.refl st1.sub) (.range 0 _)⟩
  ·exact h1.elim
 ·exact h1.elim
end
noncomputable def ObSt(K:PySem.W.Frag)(H₀ G H:Hp)(σ:St)(ρ:Ev):Prop:=
 ∃ow:Owns,(∀(i:Nat) ds l,ρ[i]?=some (some (.own ds))->σ[i]?=some (some (.ref l))->ow l=some (i,0))/\
  ∀(i:Nat) m C p fs,ρ[i]?=some (some (.obj m C p fs))->σ[i]?=some (some (.ref p))/\ObjAt K H₀ G H ow i m C p fs
def ObSt.rd{K:PySem.W.Frag}{H₀:Hp}(h:ObSt K H₀ G H σ ρ):∀(i:Nat) m C p fs,ρ[i]?=some (some (.obj m C p fs))->σ[i]?=some (some (.ref p))/\∃ow,ObjAt K (λ_=>none) G H ow i m C p fs:=λi m C p fs e=>by obtain⟨ow,_,o2⟩:=h;exact⟨(o2 i m C p fs e).1,ow,(o2 i m C p fs e).2.rd⟩
noncomputable def NoOwn(ρ:Ev):Prop:=∀(j:Nat)(x:Sl),ρ[j]?=some (some x)->∃d,x=.val d
def NoOwn.own(h:NoOwn ρ)(j:Nat)(ds:List D):ρ[j]?≠some (some (.own ds)):=λe=>by obtain⟨d,z⟩:=h j _ e;cases z
def NoOwn.obj(h:NoOwn ρ)(j:Nat)(m:Bool)(C p:Addr)(fs:List (Nat×Fd)):ρ[j]?≠some (some (.obj m C p fs)):=λe=>by obtain⟨d,z⟩:=h j _ e;cases z
def NoOwn.ob{K:PySem.W.Frag}{H₀:Hp}(h:NoOwn ρ):ObSt K H₀ G H σ ρ:=
 ⟨λ_=>none,λi ds l e=>absurd e (h.own i ds),λi m C p fs e=>absurd e (h.obj i m C p fs)⟩
structure StR(K:PySem.W.Frag)(G₀ H₀ G H:Hp)(σ:St)(ρ:Ev):Prop where
 e:StE K G H σ ρ
 sub0:Same G₀ H₀
 up:Up G₀ H₀ G H
 own:∀(i:Nat) ds,ρ[i]?=some (some (.own ds))->∃l vs,σ[i]?=some (some (.ref l))/\H l=some (.lst vs)/\G l=none/\H₀ l=none/\Reps K G vs ds
 inj:∀(i j:Nat) ds es l,ρ[i]?=some (some (.own ds))->ρ[j]?=some (some (.own es))->σ[i]?=some (some (.ref l))->σ[j]?=some (some (.ref l))->i=j
 ob:ObSt K H₀ G H σ ρ
section
variable{K:PySem.W.Frag}{H₀ G':Hp}
def StR.ups(s:StR K G₀ H₀ G H σ ρ)(u:Up G H G' H'):StR K G₀ H₀ G' H' σ ρ:=⟨s.e.up u,s.sub0,s.up.trans u,(λi ds e=>by
 obtain⟨l,vs,h1,h2,h3,h4,h5⟩:=s.own i ds e;refine⟨l,vs,h1,u.hh _ _ h2,?_,h4,h5.mono u.gg⟩;cases q:G' l with
 |none=>rfl
 |some o=>
  rcases u.fr l o q with z|z;·rw[h3]at z;cases z
  ·rw[h2]at z;cases z),s.inj,by
 obtain⟨ow,o1,o2⟩:=s.ob;exact⟨ow,o1,λi m C p fs e=>⟨(o2 i m C p fs e).1,(o2 i m C p fs e).2.keep (.up u)⟩⟩⟩
def StR.set(s:StR K G₀ H₀ G H σ ρ)(r:Rep K G v d)(i:Nat):StR K G₀ H₀ G H (σ.set i (some v)) (ρ.set i (some (.val d))):=by
 have get:∀(j:Nat) x,(ρ.set i (some (.val d)))[j]?=some (some x)->(j=i/\x=.val d/\i<σ.length)\/(j≠i/\ρ[j]?=some (some x)/\(σ.set i (some v))[j]?=σ[j]?):=λj x h=>by
  by_cases e:i=j
  ·subst e;have hl:i<ρ.length:=by have:=(sT.mp h).1;simpa using this
   rw[n8 hl]at h;exact .inl ⟨rfl,by injection (uV h)with q;exact q.symm,by rw[s.e.len];exact hl⟩
  ·rw[mO e]at h;exact .inr ⟨λz=>e z.symm,h,mO e⟩
 have ob:ObSt K H₀ G H (σ.set i (some v)) (ρ.set i (some (.val d))):=by
  obtain⟨ow,o1,o2⟩:=s.ob;refine⟨ow,λj ds l h1 h2=>?_,λj m C p fs h1=>?_⟩
  ·rcases get j _ h1 with⟨_,e,_⟩|⟨_,e,e'⟩;·cases e
   ·exact o1 j ds l e (e'▸h2)
  ·rcases get j _ h1 with⟨_,e,_⟩|⟨_,e,e'⟩;·cases e
   ·rw[e'];exact o2 j m C p fs e
 refine⟨⟨s.e.sub,by simp[s.e.len],λj d' h=>?_,ob.rd⟩,s.sub0,s.up,λj ds h=>?_,λj k ds es l h1 h2 h3 h4=>?_,ob⟩
 ·rcases get j _ h with⟨rfl,e,hl⟩|⟨_,e,e'⟩;·cases e;exact⟨v,n8 hl,r⟩
  ·rw[e'];exact s.e.val j d' e
 ·rcases get j _ h with⟨_,e,_⟩|⟨_,e,e'⟩;·cases e
  ·rw[e'];exact s.own j ds e
 ·rcases get j _ h1 with⟨_,e,_⟩|⟨_,e,e'⟩;·cases e
  ·rcases get k _ h2 with⟨_,f,_⟩|⟨_,f,f'⟩;·cases f
   ·exact s.inj j k ds es l e f (e'▸h3) (f'▸h4)
end
noncomputable def PGF(X:Cx)(tg:Expr)(asg:D->Ev->R Ev):Prop:=PG X tg (λv σ H Q=>∃G₀ H₀ G ρ d ρ',StR X.K G₀ H₀ G H σ ρ/\Rep X.K G v d/\asg d ρ=.ok ρ'/\∀σ',StR X.K G₀ H₀ G H σ' ρ'->Q σ' H)
section
variable{pos:Pos}
noncomputable def iT(i:Nat):D->Ev->R Ev:=λd ρ=>.ok (ρ.set i (some (.val d)))
def eP(i:Nat)(hN:X.N.Nodup)(hi:X.N[i]?=some x:=by rfl)(hx:Loc X.env.scope x:=by first|exact Or.inl rfl|exact Or.inr rfl)(hf:X.fn x=true\/X.env.scope.names.lookup x=some .local:=by first|exact .inl rfl|exact .inr rfl):PGF X (.Name x pos) (iT i):=by
 intro pins s σ H v u Q I r h;obtain⟨G₀,H₀,G,ρ,d,ρ',st,rd,e,q⟩:=h;cases e;exact sY hN hi hx hf pins s σ H v u Q I r (q _ (st.set rd i))
end
noncomputable def mw(K:PySem.W.Frag)(G H:Hp)(Q:VK):List D->Prop:=λds=>∀l vs G' H',Up G H G' H'->H' l=none->Reps K G' vs ds->Q (.ref l) (upd H' l (.lst vs))
noncomputable def tL(X:Cx)(g:Ev->R (List D)):TE:=λσ H Q=>∃G ρ,StE X.K G H σ ρ/\(g ρ).post (mw X.K G H Q) (Exx X σ G H)
noncomputable def PFL(X:Cx)(e:Expr)(g:Ev->R (List D)):Prop:=PE X e (tL X g)
def uM{e:Expr}{g:Ev->R (List D)}(h:PFL X e g):PF X e (λρ=>g ρ>>=λds=>.ok (.lst false ds)):=by
 intro pins s σ H Q I hq;refine h pins s σ H Q I ?_;obtain⟨G,ρ,st,hq⟩:=hq
 try dsimp only at hq
 refine⟨G,ρ,st,?_⟩;cases e:g ρ with
 |ok ds=>rw[e]at hq;intro l vs G' H' u hl r;exact hq _ _ _ (u.trans (.new u.sub hl)) (.lst ba (r.mono (.into (u.sub.free hl))))
 |ex C=>rw[e]at hq;exact hq
 |no=>rw[e]at hq;exact hq
def Cv{pos:Pos}(h:PFA X es gl):PFL X (.List es pos) (λρ=>gl ρ>>=λds=>if ds.length<=sizeLine then .ok ds else .no):=by
 intro pins s σ H Q I hq;refine Bk h pins s σ H Q I ?_;obtain⟨G,ρ,st,hq⟩:=hq
 try dsimp only at hq
 refine⟨G,ρ,st,?_⟩;cases e:gl ρ with
 |ok ds=>
  rw[e]at hq;intro vs G' H' u r;simp only[R.ok_bind]at hq;split at hq;·rename_i hz;exact⟨by rw[r.length];exact hz,λp hp=>hq p vs G' H' u hp r⟩
  ·exact hq.elim
 |ex C=>rw[e]at hq;exact hq
 |no=>rw[e]at hq;exact hq
noncomputable def kF(env:Env):List (Str×NameKind)->List (Str×Addr)->List (Str×Addr)
 | [],cs=>cs
 | (n,k)::r,cs=>kF env r (if (k==.free)=true then (match env.cells.lookup n with|some c=>(n,c)::cs|none=>cs)else cs)
theorem uH{env:Env}{F:Str×NameKind->List (Str×Addr)->Sem (ForInStep (List (Str×Addr)))}(hF:∀n k r,(k=NameKind.free->∃c,env.cells.lookup n=some c)->F (n,k) r=pure (ForInStep.yield (if (k==.free)=true then (match env.cells.lookup n with|some c=>(n,c)::r|none=>r)else r))):
  ∀(l:List (Str×NameKind))(cs:List (Str×Addr)),(∀x∈l,x.2=.free->∃c,env.cells.lookup x.1=some c)->forIn l cs F=pure (kF env l cs)
 | [],cs,_=>rfl
 | (n,k)::l,cs,h=>by rw[iF,hF n k cs (h (n,k) sS),pure_bind];exact uH hF l _ λy hy=>h y (rO _ hy)
def dD{env:Env}(h:∀x∈scope.names,x.2=.free->∃c,env.cells.lookup x.1=some c):closureFor scope env=pure (kF env scope.names []):=by
 simp only[closureFor];rw[uH (env:=env) (λn k r hk=>?_) scope.names [] h];·rfl
 ·by_cases hf:(k==NameKind.free)=true;·obtain⟨c,hc⟩:=hk (by simpa using hf);simp only[hf,t9,cellOf,hc,pure_bind]
  ·simp only[hf,qd];rfl
theorem kL{env:Env}:∀(l:List (Str×NameKind))(cs:List (Str×Addr)),(∀x c,cs.lookup x=some c->env.cells.lookup x=some c)->∀x c,(kF env l cs).lookup x=some c->env.cells.lookup x=some c
 | [],cs,h,x,c,e=>h x c e
 | (n,k)::l,cs,h,x,c,e=>by
  unfold kF at e;refine kL l _ (λy d ed=>?_) x c e;split at ed
  ·split at ed
   ·rename_i c' hc';rw[oH]at ed;split at ed;·rename_i q;rw[d9 q];rw[<- uV ed];exact hc'
    ·exact h y d ed
   ·exact h y d ed
  ·exact h y d ed
theorem iz{env:Env}:∀(l:List (Str×NameKind))(cs:List (Str×Addr))(x:Str),((∃c,cs.lookup x=some c)\/((x,NameKind.free)∈l/\∃c,env.cells.lookup x=some c))->∃c,(kF env l cs).lookup x=some c
 | [],cs,x,h=>by
  rcases h with h|⟨h,_⟩;·exact h
  ·cases h
 | (n,k)::l,cs,x,h=>by
  unfold kF;refine iz l _ x ?_;rcases h with⟨c,h⟩|⟨h,c,hc⟩
  ·left;split
   ·split
    ·rename_i c' _;rw[oH];split;·exact⟨_,rfl⟩
     ·exact⟨c,h⟩
    ·exact⟨c,h⟩
   ·exact⟨c,h⟩
  ·rcases v0.mp h with e|h;·cases e;left;rw[if_pos (by rfl),hc];exact⟨c,by simp[oH]⟩
   ·exact .inr ⟨h,c,hc⟩
noncomputable def bJ(X:Cx)(N':List Str)(scope:Scope)(C:Addr)(s₂:Shared)(H₂:Hp)(fp:List Addr):Cx:=
 { X with N:=N',s₀:=s₂,H₀:=H₂,env:=compEnvC scope (kF X.env scope.names []) C X.env,outer:=X.stack,stack:=X.stack,ex:=fp,fn:=λ_=>false,pn:=[],xe:=λ_ _=>False }
noncomputable def gR{α:Type}:R α->R α
 |.ok a=>.ok a
 |_=>.no
noncomputable def cP(ix:List Nat)(ρ:Ev):Ev:=none::ix.map λ(i:Nat)=>match ρ[i]? with
 |some (some (.val d))=>some (.val d)
 |_=>none
noncomputable def ce(n:Nat)(ix:List Nat)(ρ:Ev):Ev:=List.replicate n none++ix.map λ(i:Nat)=>match ρ[i]? with
 |some (some (.val d))=>some (.val d)
 |_=>none
noncomputable def cM(asg:D->Ev->R Ev)(gt:Ev->R Bool)(ge:Ev->R D):List D->Ev->R (List D)
 | [],_=>.ok []
 |d::ds,ρ=>gR (asg d ρ)>>=λρ1=>gR (gt ρ1)>>=λk=>if k=true then gR (ge ρ1)>>=λx=>cM asg gt ge ds ρ1>>=λxs=>.ok (x::xs)else cM asg gt ge ds ρ1
noncomputable def cH(gt:Ev->R Bool)(ge:Ev->R D):List D->Ev->R (List D):=cM (iT 0) gt ge
theorem iB{asg:D->Ev->R Ev}{gt:Ev->R Bool}{ge:Ev->R D}:∀(ds:List D)(ρ:Ev),(∃xs,cM asg gt ge ds ρ=.ok xs)\/cM asg gt ge ds ρ=.no
 | [],ρ=>.inl ⟨[],rfl⟩
 |d::ds,ρ=>by
  unfold cM;cases asg d ρ with
  |ok ρ1=>
   simp only[gR,R.ok_bind];cases gt ρ1 with
   |ok k=>
    simp only[gR,R.ok_bind];cases k with
    |true=>
     simp only[t9];cases ge ρ1 with
     |ok x=>
      simp only[gR,R.ok_bind];rcases iB (asg:=asg) ds ρ1 with⟨xs,e⟩|e;·rw[e];exact .inl ⟨_,rfl⟩
      ·rw[e];exact .inr rfl
     |ex C=>exact .inr rfl
     |no=>exact .inr rfl
    |false=>simp only[c7,qd];exact iB ds _
   |ex C=>exact .inr rfl
   |no=>exact .inr rfl
  |ex C=>exact .inr rfl
  |no=>exact .inr rfl
noncomputable def cC(gi:Ev->R (List D))(ix:List Nat)(gt:Ev->R Bool)(ge:Ev->R D):Ev->R (List D):=λρ=>gi ρ>>=λitems=>cH gt ge items (cP ix ρ)>>=λds=>if ds.length<=sizeLine then .ok ds else .no
noncomputable def dX(n:Nat)(asg:D->Ev->R Ev)(gi:Ev->R (List D))(ix:List Nat)(gt:Ev->R Bool)(ge:Ev->R D):Ev->R (List D):=λρ=>gi ρ>>=λitems=>cM asg gt ge items (ce n ix ρ)>>=λds=>if ds.length<=sizeLine then .ok ds else .no
noncomputable def PTs(X:Cx)(ifs:List Expr)(gt:Ev->R Bool):Prop:=∀(pins:List (Addr×Obj))(s:Shared)(σ:St)(H:Hp)(Q:Bool->Hp->Prop),Inv X pins σ H s->tTF X gt σ H Q->
 wpAny (model X.prog X.w) X.A (forIn ifs true λc r=>if r=true then do let ok <- isTrue c X.env (eval c X.env);pure (ForInStep.yield ok)else pure (ForInStep.yield r)) (TP X pins σ Q) X.xe s
def bz:PTs X [] (λ_=>.ok true):=by intro pins s σ H Q I h;obtain⟨G,ρ,st,h⟩:=h;exact z9 ⟨H,I,h true G H (.refl st.sub) rfl⟩
def wa{c:Expr}{gt:Ev->R Bool}(h:PB X c gt):PTs X [c] gt:=λpins s σ H Q I q=>wpAny_tests_one (h pins s σ H Q I q)
def Un.sameBut{fs ex:List Addr}{h1 h2:Heap}(u:Un fs ex H H' h h1)(k:∀b o,b≠C->h1.get? b=some o->h2.get? b=some o)(hC:h.objs.size<=C):Un fs ex H H' h h2:=by have ne:∀b o,h.get? b=some o->b≠C:=λb o e=>t5 (sI (xz e) hC);exact⟨λb o e n hb hx=>k b o (ne b o e) (u.keep b o e n hb hx),λb o e n hb hx=>let⟨sl,q⟩:=u.slot b o e n hb hx;⟨sl,k b _ (ne b o e) q⟩,u.free,λb o e hx=>let⟨o',q⟩:=u.there b o e hx;⟨o',k b o' (ne b o e) q⟩,u.tups,u.frzs,u.tbls⟩
def HOk.sameBut{w:World}(x:HOk P w H h)(k:∀b o,b≠C->h.get? b=some o->h'.get? b=some o)(hC:H C=none):HOk P w H h':=λa o e=>by
 refine(x a o e).stay (λb u hb q=>k b u ?_ q) (λ_ z=>z) (λ_ _ z=>z);rcases hb with rfl|hb;·exact aL e hC
 ·exact aL hb hC
section
variable{elt:Expr}{ifs:List Expr}{px pos:Pos}{gt:Ev->R Bool}{ge:Ev->R D}
structure CompOk(X:Cx)(scope:Scope)(x:Str)(N':List Str)(ix:List Nat):Prop where
 kind:scope.kind=.function
 cell:∀y∈scope.names,y.2≠.cell
 names:∀y∈scope.names,y.2=.local->scope.names.lookup y.1=some .local
 loc:scope.names.lookup x=some .local
 fr:∀y∈scope.names,y.2=.free->X.env.kindOf y.1=some .cell
 nd:N'.Nodup
 hd:N'[0]?=some x
 tl:N'.tail=ix.map λ(i:Nat)=>X.N.getD i Str.empty
 lt:∀i∈ix,i<X.N.length
 fre:∀y∈N'.tail,scope.names.lookup y=some .free/\(y,NameKind.free)∈scope.names
structure CompOkT(X:Cx)(scope:Scope)(n:Nat)(N':List Str)(ix:List Nat):Prop where
 kind:scope.kind=.function
 cell:∀y∈scope.names,y.2≠.cell
 names:∀y∈scope.names,y.2=.local->scope.names.lookup y.1=some .local
 fr:∀y∈scope.names,y.2=.free->X.env.kindOf y.1=some .cell
 le:n<=N'.length
 tl:N'.drop n=ix.map λ(i:Nat)=>X.N.getD i Str.empty
 lt:∀i∈ix,i<X.N.length
 fre:∀y∈N'.drop n,scope.names.lookup y=some .free/\(y,NameKind.free)∈scope.names
def CompOk.t(ok:CompOk X scope x N' ix):CompOkT X scope 1 N' ix:=
 ⟨ok.kind,ok.cell,ok.names,ok.fr,(sT.mp ok.hd).1,List.drop_one▸ok.tl,ok.lt,List.drop_one▸ok.fre⟩
theorem ig{env:Env}(hk:env.scope.kind=.function):∀{names:List (Str×NameKind)}{x:Str},names.lookup x=some .free->env.kindOf x=some .cell->
  (names.map λ(n,k)=>if (k==NameKind.free && env.scope.kind==.function && env.kindOf n==some .cell)then (n,NameKind.cell)else (n,k)).lookup x=some .cell
 | [],_,h,_=>by simp at h
 | (n,k)::r,x,h,hc=>by
  have ih:=@ig env hk r x;show List.lookup x ((if (k==NameKind.free && env.scope.kind==.function && env.kindOf n==some .cell)=true then (n,NameKind.cell)else (n,k))::_)=_;cases hx:x==n with
  |true=>simp only[oH,hx]at h;cases h;have e:=d9 hx;subst e;rw[if_pos (by rw[hk,hc];rfl)];simp[oH]
  |false=>
   simp only[oH,hx]at h;by_cases hc':(k==NameKind.free && env.scope.kind==.function && env.kindOf n==some .cell)=true;·rw[if_pos hc'];simp only[oH,hx];exact ih h hc
   ·rw[if_neg hc'];simp only[oH,hx];exact ih h hc
def yt(h:(ce n ix ρ)[j]?=some (some (.val d))):∃k i,j=k+n/\ix[k]?=some i/\ρ[i]?=some (some (.val d)):=by
 unfold ce at h;by_cases hj:j<n;·rw[i8 (by simpa using hj),i7,if_pos hj]at h;cases h
 ·rw[i6 (by simpa using o9.1 hj),o5,v8]at h;cases e:ix[j - n]? with
  |none=>rw[e]at h;cases h
  |some i=>
   rw[e]at h;refine⟨j - n,i,by omega,e,?_⟩;simp only[p9,Zr]at h;split at h;·rename_i d' e';cases h;exact e'
   ·cases h
noncomputable def cO(n:Nat)(ix:List Nat)(σ:St):St:=List.replicate n none++ix.map λ(i:Nat)=>(σ[i]?).join
def fW:NoOwn (ce n ix ρ):=λj x h=>by
 unfold ce at h;by_cases hj:j<n;·rw[i8 (by simpa using hj),i7,if_pos hj]at h;cases h
 ·rw[i6 (by simpa using o9.1 hj),o5,v8]at h;cases e:ix[j - n]? with
  |none=>rw[e]at h;cases h
  |some i=>
   rw[e]at h;simp only[p9,Zr]at h;split at h;·cases h;exact⟨_,rfl⟩
   ·cases h
def jv{K:PySem.W.Frag}(st:StE K G H σ ρ)(n:Nat)(ix:List Nat):StE K G H (cO n ix σ) (ce n ix ρ):=by refine⟨st.sub,by simp[ce,cO],λj d h=>?_,λj m C p fs h=>absurd h (NoOwn.obj fW j m C p fs)⟩;obtain⟨k,i,rfl,e1,e2⟩:=yt h;obtain⟨v,h1,h2⟩:=st.val i d e2;refine⟨v,?_,h2⟩;unfold cO;rw[i6 (by simp),o5,Nat.add_sub_cancel,v8,e1];simp[h1]
def As{h₁:Heap}{tk:Nat}(ok:CompOkT X scope n N' ix)(hcalm:X.calm=true)(I:Inv X pins σ H s)(hf:∀b∈fp,kE X pins H b)(hfl:∀b∈fp,b<s.heap.objs.size)(hC:s.heap.objs.size<=C)(hn:h₁.Ns C m)(old:∀b o,s.heap.get? b=some o->h₁.get? b=some o)(un:Un (frs X.stack) fp H H' s.heap h₁)(hok:HOk X.prog X.w H' h₁)(hfC:H' C=none)(hfc:∀c:Addr,c<s.heap.objs.size->H c=none->H' c=none):
  Inv (bJ X N' scope C s H fp) [] (cO n ix σ) H' { s with heap:=h₁,toks:=tk }:=by
 have cl:∀y c,(kF X.env scope.names []).lookup y=some c->X.env.cells.lookup y=some c:=kL scope.names [] (λy c h=>by simp at h);have nlt:N'.length=n+ix.length:=by have h1:=n0 List.length ok.tl;rw[d8,za]at h1;have:=ok.le;omega
 refine⟨⟨I.ok.mod,by show(relabel scope X.env).kind=_;exact ok.kind,I.ok.glob,I.ok.blt,hC,?_,?_,?_,I.ok.hd,I.ok.frames,.inl rfl,?_,I.bs,w9 I.ok.bsz I.sz,?_,?_,I.stack,I.stkFree,I.ok.tabs.un I.base⟩,rfl,I.bare,un,?_,?_,hfC,?_,?_,hok,?_⟩;·intro y z c h1 h2;exact I.ok.inj y z c (cl y c h1) (cl z c h2)
 ·intro y hy;have h1:(y,NameKind.free)∈scope.names:=by
   have hy':(relabel scope X.env).names.lookup y=some .cell\/(relabel scope X.env).names.lookup y=some .free:=hy;have mem:∀k,(relabel scope X.env).names.lookup y=some k->(k=.cell\/k=.free)->(y,NameKind.free)∈scope.names:=λk e hk=>by
    have hm:=k8 e;obtain⟨⟨n,k'⟩,hm1,hm2⟩:=v7.mp hm;dsimp only at hm2;split at hm2
    ·rename_i hc;cases hm2;have:k'=.free:=by have:=(o7 _ _▸(o7 _ _▸hc).1).1;simpa using this
     rw[<- this];exact hm1
    ·cases hm2;rcases hk with rfl|rfl;·exact absurd rfl (ok.cell _ hm1)
     ·exact hm1
   rcases hy' with h|h;·exact mem _ h (.inl rfl)
   ·exact mem _ h (.inr rfl)
  have hc:=I.ok.has y (.inl (ok.fr _ h1 rfl));exact iz scope.names [] y (.inr ⟨h1,hc⟩)
 ·intro y c hfn;cases hfn
 ·intro b hb;obtain⟨f0,f1,f2,f3,f4,f5⟩:=hf b hb;exact⟨λz=>absurd (hfl b hb) (by rw[z];exact o9.mpr hC),λy c h=>f4 y c (cl y c h)⟩
 ·intro b o e hb;obtain⟨f0,f1,f2,f3,f4,f5⟩:=hf b hb;rcases f3 with f3|f3;·exact I.ok.noex b o e f3
  ·exact absurd (xz (I.ok.bs b o e).1) (o9.mpr f3)
 ·intro b hb hb';obtain⟨f0,f1,f2,f3,f4,f5⟩:=hf b hb;rcases v0.mp (I.stkSub b hb')with e|e;·exact f1 e
  ·exact f2 e
 ·refine⟨m,hn,λi y v h1 h2 h3=>?_⟩;have h1:N'[i]?=some y:=h1;have h2:(cO n ix σ)[i]?=some (some v):=h2;by_cases hi:i<n;·unfold cO at h2;rw[i8 (by simpa using hi),i7,if_pos hi]at h2;cases h2
  ·unfold cO at h2;rw[i6 (by simpa using o9.1 hi),o5,v8]at h2;cases e:ix[i - n]? with
   |none=>rw[e]at h2;cases h2
   |some i0=>
    rw[e]at h2;have h2':σ[i0]?=some (some v):=by
     cases q:σ[i0]? with
     |none=>rw[p9,q]at h2;cases h2
     |some z=>rw[p9,q]at h2;have:=uV h2;rw[<- this];rfl
    have ht:(N'.drop n)[i - n]?=some y:=by rw[ZW,Nat.add_sub_cancel' (o9.1 hi)];exact h1
    have hy:X.N[i0]?=some y:=by have ht2:=ht;rw[ok.tl,v8,e]at ht2;have hl:=ok.lt i0 (mW e);have q:=uV ht2;rw[xw hl];rw[<- q];show some X.N[i0]=some (X.N.getD i0 Str.empty);rw[xZ,xw hl];rfl
    obtain⟨fr1,fr2⟩:=ok.fre y (mW ht);have kc:=ok.fr _ fr2 rfl;obtain⟨m0,hn0,hl⟩:=I.loc;obtain⟨u,ru,lk⟩:=hl i0 y v hy h2' (.inr (.inl kc));refine⟨u,ru,.inr ⟨.inl (ig I.ok.kind fr1 kc),?_⟩⟩;rcases lk with⟨z,_⟩|⟨_,c,hc,hcell⟩;·rw[kc]at z;cases z
    ·obtain⟨c',hc'⟩:=iz scope.names [] y (.inr ⟨fr2,c,hc⟩);have:=cl y c' hc';rw[hc]at this;cases this;exact⟨c,hc',hcell.keeps old⟩
 ·intro y c h;obtain⟨v,q⟩:=I.cell y c (cl y c h);exact⟨v,q.keeps old⟩
 ·intro y c h;obtain⟨v,q⟩:=I.cell y c (cl y c h);exact hfc c q.lt (I.freeC y c (cl y c h))
 ·intro p hp;exact absurd (show p∈([]:List (Addr×Obj)) from hp) (by simp)
 ·show(cO n ix σ).length=N'.length;rw[nlt];simp[cO]
def nr{prog:Program}{w:World}{A:Around}{R':Result->Shared->Prop}{elt target:Expr}{ifs:List Expr}{pos:Pos}{it acc:Value}{env:Env}(I:Nat->Shared->Prop)(turn:∀n s,I n s->wpAny (model prog w) A (pyNext it) (λr s₁=>match r with
 |none=>R' (.ok .next) s₁
 |some v=>wpAny (model prog w) A (letOwnedTupleGo target it v) (λ_ s₁'=>wpAny (model prog w) A (assign target env v) (λ_ s₂=>
 wpAny (model prog w) A (forIn ifs true λc r=>if r=true then do let ok <- isTrue c env (eval c env);pure (ForInStep.yield ok)else pure (ForInStep.yield r)) (λok s₃=>
 if ok=true then wpAny (model prog w) A (eval elt env) (λx s₄=>
 wpAny (model prog w) A (call (.builtin "list.append") [acc,x]) (λ_ s₅=>∃m,m<n/\I m s₅) (λ_ _=>False) s₄) (λ_ _=>False) s₃
 else ∃m,m<n/\I m s₃) (λ_ _=>False) s₂) (λ_ _=>False) s₁') (λ_ _=>False) s₁) (λ_ _=>False) s)(n:Nat)(h:I n s):
  codeAny (model prog w) A (.compLoop (.ListComp elt [⟨target,iter,ifs,0⟩] scope pos) 0 it acc env) R' s:=by
 refine codeAny_loop rfl I (λn s hI=>?_) n h;show wpAny _ A ((compTurn (.ListComp elt [⟨target,iter,ifs,0⟩] scope pos) 0 it acc env).onRaise (λx=>do noteFrame x env;theTreesLotGoes x)) _ _ s;refine wpAny_noted ?_;rw[compTurn_list];refine z6 (Zs (z6 (t7 (turn n s hI) (λr s₁ h₁=>?_) λ_ _ z=>z.elim)));cases r with
 |none=>exact z9 h₁
 |some v=>
  refine z6 (t7 h₁ (λ_ s₁' h₁'=>?_) λ_ _ z=>z.elim);refine z6 (t7 h₁' (λ_ s₂ h₂=>z6 (t7 h₂ (λok s₃ h₃=>?_) λ_ _ z=>z.elim)) λ_ _ z=>z.elim);cases ok with
  |false=>exact z9 ⟨rfl,h₃⟩
  |true=>exact z6 (z6 (t7 h₃ (λx s₄ h₄=>z6 (t7 h₄ (λ_ s₅ h₅=>z9 (z9 ⟨rfl,h₅⟩)) λ_ _ z=>z.elim)) λ_ _ z=>z.elim))
def kG:∀d ρ ρ',iT i d ρ=.ok ρ'->NoOwn ρ->NoOwn ρ':=by
 intro d ρ ρ' e h j x q;have e':ρ.set i (some (.val d))=ρ':=R.ok.inj e;rw[<- e',Z5]at q;split at q
 ·split at q;·cases q;exact⟨d,rfl⟩
  ·cases q
 ·exact h j x q
def jc{tn : Nat -> Heap -> Prop}{J : It}{Q : VK}{RR : Value -> Addr -> Result -> Shared -> Prop}{E : Value -> Shared -> Prop}(ok : CompOkT X scope n N' ix)(hcalm : X.calm = true)(hg : ∀C s₂ H₂ fp, PGF (bJ X N' scope C s₂ H₂ fp) tgt asg)(hown : ∀d ρ ρ', asg d ρ = .ok ρ' -> (NoOwn ρ) -> NoOwn ρ')(he : ∀C s₂ H₂ fp, PF (bJ X N' scope C s₂ H₂ fp) elt ge)(ht : ∀C s₂ H₂ fp, PTs (bJ X N' scope C s₂ H₂ fp) ifs gt)(I : Inv X pins σ H s)(T : Turn X.prog X.w X.K tgt J fp it tn)(st0 : tn 0 s.heap)(hf : ∀b ∈ fp, kE X pins H b)(st : StE X.K G H σ ρ)(hi : ItOk X.K G J items)(h : (cM asg gt ge items (ce n ix ρ) >>= λds => if ds.length <= sizeLine then R.ok ds else .no).post (mw X.K G H Q) (Exx X σ G H))(hR : ∀(Dd C : Addr)(s' : Shared)(m : Str -> Option Value)(vs : List V)(G' H' : Hp), Up G H G' H' -> H' Dd = none -> C≠Dd -> (∀ds, Reps X.K G' vs ds -> True) -> Q (.ref Dd) (upd H' Dd (.lst vs)) -> s'.heap.Ns C m -> s'.os = s.os -> AllBare s'.gens -> H' C = none -> s.heap.objs.size <= C ->
 Un (frs X.stack) fp H (upd H' Dd (.lst vs)) s.heap s'.heap -> HOk X.prog X.w (upd H' Dd (.lst vs)) s'.heap -> RR (.ref Dd) C (.ok .next) s'):
    wpAny (model X.prog X.w) X.A (newList []) (λacc s₃ => wpAny (model X.prog X.w) X.A (newFunctionEnv scope X.env.globals (kF X.env scope.names []) [] X.env.qual none .none (some X.env)) (λcenv s₄ =>codeAny (model X.prog X.w) X.A (.compStart (.ListComp elt [⟨tgt, iter, ifs, 0⟩] scope pos) 0 (.ref it) acc { cenv with scope := relabel scope X.env }) (RR acc cenv.locals) s₄) E s₃) E s := by
  have hfl : ∀b ∈ fp, b < s.heap.objs.size := λb hb => let⟨o, e, _⟩ := T.obj 0 s.heap st0 b hb; xz e;refine mz (wpAny_newFunctionEnv ok.cell (by intro y hy; simp at hy) (λh₁ hns₁ hsb₁ => ?_) ok.kind);dsimp only at hns₁ hsb₁⊢;generalize hH2 : s.heap.push { cls := .type "list", dict := none, data := .seq ([] : List Value).toArray } = Hq at hns₁ hsb₁⊢;have hC : Hq.objs.size = s.heap.objs.size + 1 := by rw[<- hH2, p6]
  have hDC : s.heap.objs.size≠Hq.objs.size := by rw[hC]; exact t5 (c8 _)
  have hCle : s.heap.objs.size <= Hq.objs.size := by rw[hC]; exact Z6 _
  have old : ∀b o, s.heap.get? b = some o -> h₁.get? b = some o := λb o e =>
    hsb₁.extBut b o (by rw[hC]; exact t5 (Zt (xz e))) (w8 _ (hH2▸w8 _ e));have hacc : h₁.get? s.heap.objs.size = some { cls := .type "list", data := .seq ([] : List Value).toArray } := hsb₁.extBut _ _ hDC (w8 _ (hH2▸t8 _ rfl));have hD0 : H s.heap.objs.size = none := I.fresh;have hC0 : H Hq.objs.size = none := I.hok.fresh hCle;have st0' : tn 0 h₁ := T.keep 0 _ _ st0 λb hb o e => old b o e;have I0 : ∀tk, Inv (bJ X N' scope Hq.objs.size s H fp) [] (cO n ix σ) (upd H s.heap.objs.size (.lst [])) { s with heap := h₁, toks := tk } := λtk => by
    refine As ok hcalm I hf hfl hCle hns₁ old (Un.laid old (yo _) hD0) (I.hok.laid old (yo _) ⟨oR _, [], 0, .nil, hacc⟩) (by rw[aQ hDC.symm]; exact hC0) λc hc e => ?_;rw[aQ (t5 hc)]; exact e
  have loop : ∀tk, codeAny (model X.prog X.w) X.A (.compLoop (.ListComp elt [⟨tgt, iter, ifs, 0⟩] scope pos) 0 (.ref it) (.ref s.heap.objs.size) (compEnvC scope (kF X.env scope.names []) Hq.objs.size X.env))
      (RR (.ref s.heap.objs.size) Hq.objs.size) { s with heap := h₁, toks := tk } := λtk => by
    have fpk : ∀{pins' : List (Addr × Obj)}{σ' : St}{H' : Hp}{s' : Shared}, Inv (bJ X N' scope Hq.objs.size s H fp) pins' σ' H' s' -> pins' = [] -> (∀b ∈ fp, H' b = none) -> ∀b ∈ fp, kE (bJ X N' scope Hq.objs.size s H fp) pins' H' b := λI' e hn b hb =>⟨hn b hb, (I'.ok.exf b hb).1, I'.ok.exfs b hb, .inl hb, (I'.ok.exf b hb).2, by subst e; intro p hp; exact absurd (show p ∈ ([] : List (Addr × Obj)) from hp) (by simp)⟩
    refine nr (λnn s' => ∃(i : Nat)(σ' : St)(G' H' : Hp)(ρ' : Ev)(vs : List V)(ys : List D), nn = items.length - i /\ i <= items.length /\ Inv (bJ X N' scope Hq.objs.size s H fp) [] σ' H' s' /\ tn i s'.heap /\ (∀b ∈ fp, H' b = none) /\
      H' s.heap.objs.size = some (.lst vs) /\ G' s.heap.objs.size = none /\ Up G H G' H' /\ StE X.K G' H' σ' ρ' /\ (NoOwn ρ') /\ Reps X.K G' vs ys /\
      (cM asg gt ge (items.drop i) ρ' >>= λzs => if (ys ++ zs).length <= sizeLine then R.ok (ys ++ zs)else .no).post (mw X.K G H Q) (Exx X σ G H)) ?_ items.length
      ⟨0, cO n ix σ, G, upd H s.heap.objs.size (.lst []), ce n ix ρ, [], [], by simp, oR _, I0 tk, st0', λb hb => by rw[aQ (t5 (hfl b hb))]; exact(hf b hb).1, ba, st.sub.free hD0,
        ⟨λa o e => by rw[aQ (aL e (st.sub.free hD0))]; exact st.sub a o e, .refl _, .into hD0, λ_ _ e => .inl e⟩,
        ⟨λa o e => by rw[aQ (aL e (st.sub.free hD0))]; exact st.sub a o e, (jv st n ix).len, (jv st n ix).val, λj m C p fs h => absurd h (NoOwn.obj fW j m C p fs)⟩, fW, .nil, by simpa using h⟩;rintro nn s' ⟨i, σ', G', H', ρ', vs, ys, rfl, hil, I', tn', fr', hD', gD', up', st', no', rp', h'⟩;have hIt := hi i G' H' up'.gg st'.sub;by_cases hlt : i < items.length
    ·
      have hd : items.drop i = items[i] :: items.drop (i + 1) := Zu hlt;rw[hd]at h';obtain⟨go, yl⟩ := hIt.1 items[i] (by simp[hlt]);refine t7 (T.item (bJ X N' scope Hq.objs.size s H fp) rfl rfl rfl hcalm i [] s' σ' H' (λ_ _ => False) I' (fpk I' rfl fr') tn' go) (λr s1 ⟨u, hr, h1⟩ => ?_) λ_ _ z => z;subst hr;refine t7 h1 (λ_ s2 ⟨x2, H2, I2, r2, y2, tn2, fr2⟩ => ?_) λ_ _ z => z;obtain⟨G2, up2, rep2⟩ := yl x2 H2 y2;have I2p := I2.pinned (fpk I2 rfl fr2) (T.obj _ _ tn2);have st2 : StE X.K G2 H2 σ' ρ' := st'.up up2;have sr2 : StR X.K G2 H2 G2 H2 σ' ρ' := ⟨st2, up2.sub, .refl up2.sub, λj ds e => absurd e (no'.own j ds), λj k ds es l e => absurd e (no'.own j ds), no'.ob⟩
      have ea : ∃ρ1, asg items[i] ρ' = .ok ρ1 := by
        unfold cM at h';cases q : asg items[i] ρ' with
        |ok k => exact⟨k, rfl⟩
        |_ => rw[q]at h'; exact h'.elim
      obtain⟨ρ1, ea⟩ := ea;unfold cM at h';rw[ea]at h';simp only[gR, R.ok_bind]at h';refine t7 (hg Hq.objs.size s H fp _ s2 σ' H2 x2 u (λσ3 H3 => H3 = H2 /\ StR X.K G2 H2 G2 H2 σ3 ρ1) I2p r2
        ⟨G2, H2, G2, ρ', items[i], _, sr2, rep2, ea, λσ3 q => ⟨rfl, q⟩⟩) (λ_ s3 ⟨σ3, H3, I3, e3, sr3⟩ => ?_) λ_ _ z => z;subst e3;have no3 := hown _ _ _ ea no';have hD2 : H3 s.heap.objs.size = some (.lst vs) := up2.hh _ _ hD';have gD2 : G2 s.heap.objs.size = none := by
        cases q : G2 s.heap.objs.size with
        |none => rfl
        |some o =>
          rcases up2.fr _ _ q with z|z;· rw[gD']at z; cases z
          · rw[hD']at z; cases z
      have ek : ∃k, gt ρ1 = .ok k := by
        cases q : gt ρ1 with
        |ok k => exact⟨k, rfl⟩
        |_ => rw[q]at h'; exact h'.elim
      obtain⟨k, ek⟩ := ek;rw[ek]at h';simp only[gR, R.ok_bind]at h';refine t7 (ht Hq.objs.size s H fp _ s3 σ3 H3 (λb H4 => b = k /\ ∃G4, Up G2 H3 G4 H4) I3 ⟨G2, _, sr3.e, by rw[ek]; exact λb G4 H4 u4 e4 => ⟨e4, G4, u4⟩⟩) (λb s4 ⟨H4, I4, eb, G4, up4⟩ => ?_) λ_ _ z => z;subst eb;have next : ∀{H7 : Hp}{s7 : Shared}{G7 : Hp}{vs7 : List V}{ys7 : List D}, Inv (bJ X N' scope Hq.objs.size s H fp) ([] ++ nA fp s2.heap) σ3 H7 s7 -> H7 s.heap.objs.size = some (.lst vs7) -> G7 s.heap.objs.size = none -> Up G H G7 H7 -> StE X.K G7 H7 σ3 ρ1 -> Reps X.K G7 vs7 ys7 ->
          (cM asg gt ge (items.drop (i + 1)) ρ1 >>= λzs => if (ys7 ++ zs).length <= sizeLine then R.ok (ys7 ++ zs)else .no).post (mw X.K G H Q) (Exx X σ G H) ->
          ∃m, m < items.length - i /\ ∃(i : Nat)(σ' : St)(G' H' : Hp)(ρ' : Ev)(vs : List V)(ys : List D), m = items.length - i /\ i <= items.length /\ Inv (bJ X N' scope Hq.objs.size s H fp) [] σ' H' s7 /\ tn i s7.heap /\ (∀b ∈ fp, H' b = none) /\
            H' s.heap.objs.size = some (.lst vs) /\ G' s.heap.objs.size = none /\ Up G H G' H' /\ StE X.K G' H' σ' ρ' /\ (NoOwn ρ') /\ Reps X.K G' vs ys /\
            (cM asg gt ge (items.drop i) ρ' >>= λzs => if (ys ++ zs).length <= sizeLine then R.ok (ys ++ zs)else .no).post (mw X.K G H Q) (Exx X σ G H) := λ{H7 s7 G7 vs7 ys7} I7 hD7 gD7 up7 st7 rp7 h7 => by
        have pin : ∀b ∈ fp, ∀o, s2.heap.get? b = some o -> s7.heap.get? b = some o /\ H7 b = none := λb hb o e => by have := I7.pin (b, o) (lE _ (lE _ (iG hb e)));exact⟨this.1, this.2.1⟩
        refine⟨items.length - (i + 1), by omega, i + 1, σ3, G7, H7, _, vs7, ys7, rfl, hlt, I7.unpinned, T.keep _ _ _ tn2 λb hb o e => (pin b hb o e).1, λb hb => ?_, hD7, gD7, up7, st7, no3, rp7, h7⟩;obtain⟨o, e, _⟩ := T.obj _ _ tn2 b hb;exact(pin b hb o e).2
      have hD4 : H4 s.heap.objs.size = some (.lst vs) := up4.hh _ _ hD2;have gD4 : G4 s.heap.objs.size = none := by
        cases q : G4 s.heap.objs.size with
        |none => rfl
        |some o =>
          rcases up4.fr _ _ q with z|z;· rw[gD2]at z; cases z
          · rw[hD2]at z; cases z
      cases b with
      |false =>simp only[c7, qd]at h'⊢;exact next I4 hD4 gD4 ((up'.trans up2).trans up4) (sr3.e.up up4) ((rp'.mono up2.gg).mono up4.gg) h'
      |true =>
        simp only[t9]at h'⊢;have ex : ∃y, ge ρ1 = .ok y := by
          cases q : ge ρ1 with
          |ok y => exact⟨y, rfl⟩
          |_ => rw[q]at h'; exact h'.elim
        obtain⟨y, ey⟩ := ex;rw[ey]at h';simp only[gR, R.ok_bind]at h';refine t7 (he Hq.objs.size s H fp _ s4 σ3 H4 (λv H5 => ∃G5, Up G4 H4 G5 H5 /\ Rep X.K G5 v y) I4 ⟨G4, _, sr3.e.up up4, by rw[ey]; exact λv G5 H5 u5 r5 => ⟨G5, u5, r5⟩⟩) (λu5 s5 ⟨v5, H5, I5, r5, G5, up5, rep5⟩ => ?_) λ_ _ z => z;have hD5 : H5 s.heap.objs.size = some (.lst vs) := up5.hh _ _ hD4;have gD5 : G5 s.heap.objs.size = none := by
          cases q : G5 s.heap.objs.size with
          |none => rfl
          |some o =>
            rcases up5.fr _ _ q with z|z;· rw[gD4]at z; cases z
            · rw[hD4]at z; cases z
        have ups := ((up'.trans up2).trans up4).trans up5;rcases iB (asg := asg) (gt := gt) (ge := ge) (items.drop (i + 1)) ρ1 with⟨zs, ez⟩|ez
        · rw[ez]at h';simp only[R.ok_bind]at h';have hz : (ys ++ y :: zs).length <= sizeLine := by
            by_cases hz : (ys ++ y :: zs).length <= sizeLine;· exact hz
            · rw[if_neg hz]at h'; exact h'.elim
          have hvl : vs.length < sizeLine := by rw[rp'.length];rw[rR, r6]at hz;omega
          refine t7 (lX (X := bJ X N' scope Hq.objs.size s H fp) _ s5 σ3 H5 (.ref s.heap.objs.size) [v5] (.ref s.heap.objs.size) [u5] (λ_ H6 => H6 = upd H5 s.heap.objs.size (.lst (vs ++ [v5]))) I5 rfl (.cons r5 .nil)
            ⟨_, vs, v5, rfl, rfl, hD5, hvl, rfl⟩) (λ_ s6 ⟨_, H6, I6, _, e6⟩ => ?_) λ_ _ z => z;subst e6;have sub6 : Same G5 (upd H5 s.heap.objs.size (.lst (vs ++ [v5]))) := λa o e => by rw[aQ (aL e gD5)]; exact up5.sub a o e
          refine next I6 ba gD5 ⟨sub6, ups.gg, λa o e => ?_, ups.fr⟩ ?_ (ys7 := ys ++ [y]) ((((rp'.mono up2.gg).mono up4.gg).mono up5.gg).append (.cons rep5 .nil)) ?_
          · rw[aQ (aL e hD0)]; exact ups.hh a o e
          · exact⟨sub6, ((sr3.e.up up4).up up5).len, ((sr3.e.up up4).up up5).val, λj m C p fs h => absurd h (no3.obj j m C p fs)⟩
          · rw[ez];simp only[R.ok_bind, io, List.singleton_append];exact h'
        · rw[ez]at h'; exact h'.elim
    ·
      have hie : i = items.length := by omega
      subst hie;rw[Zv]at h';unfold cM at h';simp only[R.ok_bind, mP]at h';refine t7 (T.done (bJ X N' scope Hq.objs.size s H fp) rfl rfl rfl hcalm items.length [] s' σ' H' (λ_ _ => False) I' (fpk I' rfl fr') tn' (hIt.2 (yo _))) (λr s1 ⟨hr, I1⟩ => ?_) λ_ _ z => z;subst hr;have hz : ys.length <= sizeLine := by
        by_cases hz : ys.length <= sizeLine;· exact hz
        · rw[if_neg hz]at h'; exact h'.elim
      rw[if_pos hz]at h';have eH : upd (λa => if a = s.heap.objs.size then none else H' a) s.heap.objs.size (.lst vs) = H' := by
        funext a
        unfold upd;by_cases e : a = s.heap.objs.size;· subst e; rw[if_pos rfl]; exact hD'.symm
        · rw[if_neg e];show(if a = s.heap.objs.size then none else H' a) = _;rw[if_neg e]
      have hn : (λa => if a = s.heap.objs.size then none else H' a) s.heap.objs.size = none := by simp
      have upn : Up G H G' (λa => if a = s.heap.objs.size then none else H' a) := by
        refine⟨λa o e => ?_, up'.gg, λa o e => ?_, up'.fr⟩;· have : a≠s.heap.objs.size := aL e gD';simp only[this, qd]; exact up'.sub a o e
        · have : a≠s.heap.objs.size := aL e hD0;simp only[this, qd]; exact up'.hh a o e
      obtain⟨m1, hm1, _⟩ := I1.loc;refine hR s.heap.objs.size Hq.objs.size s1 m1 vs G' _ upn hn hDC.symm (λ_ _ => trivial) (h' _ vs G' _ upn hn rp') hm1 I1.os I1.bare ?_ hCle (by rw[eH]; exact I1.base) (by rw[eH]; exact I1.hok);have := I1.free;show(if Hq.objs.size = s.heap.objs.size then none else H' Hq.objs.size) = none;rw[if_neg hDC.symm]; exact this
  exact codeAny_compStart_list (loop _) (T.self X.A 0 _ _ _ st0' (loop _))

def vi{tn:Nat->Heap->Prop}{J:It}{Q:VK}{RR:Value->Addr->Result->Shared->Prop}{E:Value->Shared->Prop}(ok:CompOk X scope x N' ix)(hcalm:X.calm=true)(he:∀C s₂ H₂ fp,PF (bJ X N' scope C s₂ H₂ fp) elt ge)(ht:∀C s₂ H₂ fp,PTs (bJ X N' scope C s₂ H₂ fp) ifs gt)(I:Inv X pins σ H s)(T:Turn X.prog X.w X.K (.Name x px) J fp it tn)(st0:tn 0 s.heap)(hf:∀b∈fp,kE X pins H b)(st:StE X.K G H σ ρ)(hi:ItOk X.K G J items)(h:(cH gt ge items (cP ix ρ)>>=λds=>if ds.length<=sizeLine then R.ok ds else .no).post (mw X.K G H Q) (Exx X σ G H))(hR:∀(Dd C:Addr)(s':Shared)(m:Str->Option Value)(vs:List V)(G' H':Hp),Up G H G' H'->H' Dd=none->C≠Dd->(∀ds,Reps X.K G' vs ds->True)->Q (.ref Dd) (upd H' Dd (.lst vs))->s'.heap.Ns C m->s'.os=s.os->AllBare s'.gens->H' C=none->s.heap.objs.size<=C->
 Un (frs X.stack) fp H (upd H' Dd (.lst vs)) s.heap s'.heap->HOk X.prog X.w (upd H' Dd (.lst vs)) s'.heap->RR (.ref Dd) C (.ok .next) s'):
  wpAny (model X.prog X.w) X.A (newList []) (λacc s₃=>wpAny (model X.prog X.w) X.A (newFunctionEnv scope X.env.globals (kF X.env scope.names []) [] X.env.qual none .none (some X.env)) (λcenv s₄=>codeAny (model X.prog X.w) X.A (.compStart (.ListComp elt [⟨.Name x px,iter,ifs,0⟩] scope pos) 0 (.ref it) acc { cenv with scope:=relabel scope X.env }) (RR acc cenv.locals) s₄) E s₃) E s:=
 jc (n:=1) (asg:=iT 0) ok.t hcalm (λC s₂ H₂ fp=>eP (X:=bJ X N' scope C s₂ H₂ fp) (pos:=px) 0 ok.nd ok.hd (.inl (Zw ok.loc)) (.inr (Zw ok.loc))) kG he ht I T st0 hf st hi h hR
def bw(ok:CompOk X scope x N' ix)(hcalm:X.calm=true)(hi:PIF X (.Name x px) iter gi)(he:∀C s₂ H₂ fp,PF (bJ X N' scope C s₂ H₂ fp) elt ge)(ht:∀C s₂ H₂ fp,PTs (bJ X N' scope C s₂ H₂ fp) ifs gt)(hs:∀x,foldedSetIterable iter X.env x=pure x:=by intro _;rfl):PFL X (.ListComp elt [⟨.Name x px,iter,ifs,0⟩] scope pos) (cC gi ix gt ge):=by
 intro pins s σ H Q I h;obtain⟨G,ρ,st,h⟩:=h;rw[eval_ListComp];refine Zx (use:=none) rfl hs (dD λy hy hy2=>I.ok.has y.1 (.inl (ok.fr y hy hy2))) ok.kind ok.names ?_;have t:tG X (λG J items=>ItOk X.K G J items) gi σ H (λJ H1=>∃G1 items,Up G H G1 H1/\StE X.K G1 H1 σ ρ/\ItOk X.K G1 J items/\(cH gt ge items (cP ix ρ)>>=λds=>if ds.length<=sizeLine then R.ok ds else .no).post (mw X.K G H Q) (Exx X σ G H)):=by
  refine⟨G,ρ,st,?_⟩;unfold cC at h;cases e:gi ρ with
  |ok items=>rw[e]at h;exact λJ G1 H1 u r=>⟨G1,items,u,st.up u,r,h⟩
  |ex C=>rw[e]at h;exact h
  |no=>rw[e]at h;exact h
 refine thn (hi pins s σ H _ I t) λv s1 h1=>thn h1 λitv s2 h2=>?_;obtain⟨it,fp,tn,J,H2,e,I2,T,st2,f2,G2,items,u2,sE2,iok,h2⟩:=h2;subst e;have h2':(cH gt ge items (cP ix ρ)>>=λds=>if ds.length<=sizeLine then R.ok ds else .no).post (mw X.K G2 H2 Q) (Exx X σ G2 H2):=
  h2.mono (λds q l vs G' H' u hl r=>q l vs G' H' (u2.trans u) hl r) λC q=>q.up u2;refine vi (iter:=iter) (pos:=pos) (RR:=λacc C=>compPost (model X.prog X.w) X.A X.xe none (EP X pins σ Q) acc C) ok hcalm he ht I2 T st2 f2 sE2 iok h2' ?_;intro Dd C s' m vs G' H' up hd hCD _ q hm hos hb hC hCl un hok;refine⟨m,hm,λh' hs'=>?_⟩;have I3:=I2.call' (H':=upd H' Dd (.lst vs)) (s':={ s' with heap:=h' }) (ch:=fp) hos (un.sameBut (λb o hbc e=>hs'.extBut b o hbc e) hCl) (hok.sameBut (λb o hbc e=>hs'.extBut b o hbc e) (by rw[aQ hCD];exact hC)) hb λb hb'=>by
  obtain⟨f0,f1,f2',f3,f4,f5⟩:=f2 b hb';exact⟨f3,f1,f4,f5⟩
 exact⟨.ref Dd,_,I3,rfl,q⟩
end
inductive O where
 |nx (ρ:Ev)|rt (d:D)|re (d:D) (ρ:Ev)|bk (ρ:Ev)|ct (ρ:Ev)|ex (C:Addr) (ρ:Ev)|no
noncomputable def FlyS(X:Cx)(G₀ H₀:Hp)(ρ:Ev)(C:Addr)(e:Value)(s':Shared):Prop:=∃σ H₁ pins s₁ a,e=.ref a/\Inv X pins σ H₁ s₁/\
 ((∃G₁ h' vs,StR X.K G₀ H₀ G₁ H₁ σ ρ/\Heap.MadeExcOf s₁.heap h' a (.ref C) vs/\s'={ s₁ with heap:=h' })\/(∃G' H',Cy X.prog X.w X.stack H₁ s₁ a C H' s'/\StR X.K G₀ H₀ G' H' σ ρ)\/
  ∃G' H' L,X.env.frame=some L/\Bi X pins L H₁ s₁ a C H' s'/\StR X.K G₀ H₀ G' H' σ ρ)
def FlyS.of{H₀ G₁ H₁:Hp}{e:Value}(sr:StR X.K G₀ H₀ G₁ H₁ σ ρ)(f:Jn X σ G₁ H₁ C e s'):FlyS X G₀ H₀ ρ C e s':=by
 obtain⟨pins,s₁,a,e,I,way⟩:=f;refine⟨σ,H₁,pins,s₁,a,e,I,?_⟩;rcases way with⟨h',vs,m,z⟩|⟨G',H',fl,u⟩|⟨G',H',L,hL,fl,u⟩;·exact .inl ⟨G₁,h',vs,sr,m,z⟩
 ·exact .inr (.inl ⟨G',H',fl,sr.ups u⟩)
 ·exact .inr (.inr ⟨G',H',L,hL,fl,sr.ups u⟩)
def FlyS.map{A B A' B':Hp}{ρ':Ev}{e:Value}(f:FlyS X A B ρ C e s')(h:∀σ G H,StR X.K A B G H σ ρ->StR X.K A' B' G H σ ρ'):FlyS X A' B' ρ' C e s':=by
 obtain⟨σ,H₁,pins,s₁,a,e,I,way⟩:=f;refine⟨σ,H₁,pins,s₁,a,e,I,?_⟩;rcases way with⟨G₁,h',vs,sr,m,z⟩|⟨G',H',fl,sr⟩|⟨G',H',L,hL,fl,sr⟩;·exact .inl ⟨G₁,h',vs,h _ _ _ sr,m,z⟩
 ·exact .inr (.inl ⟨G',H',fl,h _ _ _ sr⟩)
 ·exact .inr (.inr ⟨G',H',L,hL,fl,h _ _ _ sr⟩)
noncomputable def pV(X:Cx)(G₀ H₀:Hp)(D:Ends)(o:O):Prop:=match o with
 |.nx ρ=>∀σ G H,StR X.K G₀ H₀ G H σ ρ->D.nx σ H
 |.rt d=>∀v G H,Up G₀ H₀ G H->Rep X.K G v d->D.rt v H
 |.re d ρ=>∀v σ G H,StR X.K G₀ H₀ G H σ ρ->Rep X.K G v d->D.rt v H
 |.bk ρ=>∀σ G H,StR X.K G₀ H₀ G H σ ρ->D.bk σ H
 |.ct ρ=>∀σ G H,StR X.K G₀ H₀ G H σ ρ->D.ct σ H
 |.ex C ρ=>∀e s',FlyS X G₀ H₀ ρ C e s'->X.xe e s'
 |.no=>False
noncomputable def tS(X:Cx)(G₀ H₀:Hp)(g:Ev->O):TS:=λD σ H=>∃G ρ,StR X.K G₀ H₀ G H σ ρ/\pV X G₀ H₀ D (g ρ)
noncomputable def PSF(X:Cx)(st:Stmt)(g:Ev->O):Prop:=∀G₀ H₀,PS X st (tS X G₀ H₀ g)
noncomputable def kh(X:Cx)(st:List Stmt)(g:Ev->O):Prop:=∀G₀ H₀,PSs X st (tS X G₀ H₀ g)
noncomputable def R.out{α:Type}(m:R α)(ρ:Ev)(k:α->O):O:=match m with
 |.ok a=>k a
 |.ex C=>.ex C ρ
 |.no=>.no
noncomputable def O.seq(o:O)(k:Ev->O):O:=match o with
 |.nx ρ=>k ρ
 |o=>o
section
variable{fS a b:List Stmt}{e c:Expr}{g g1 g2:Ev->O}{ga:Ev->R D}{gt:Ev->R Bool}{pos:Pos}
def Exx.of{H₀:Hp}{D:Ends}(sr:StR X.K G₀ H₀ G H σ ρ)(h:pV X G₀ H₀ D (.ex C ρ)):Exx X σ G H C:=λe s' ⟨G1,H1,u,f⟩=>h e s' (.of (sr.ups u) f)
def vL:kh X [] (λρ=>.nx ρ):=λG₀ H₀ pins s σ H D I h=>by
 obtain⟨G,ρ,sr,h⟩:=h
 try dsimp only at h
 exact Ca pins s σ H D I (h σ G H sr)
def uT(h1:PSF X st g1)(h2:kh X fS g2):kh X (st::fS) (λρ=>(g1 ρ).seq g2):=λG₀ H₀ pins s σ H D I h=>by
 refine AE (h1 G₀ H₀) (h2 G₀ H₀) pins s σ H D I ?_;obtain⟨G,ρ,sr,h⟩:=h
 try dsimp only at h
 refine⟨G,ρ,sr,?_⟩;cases q:g1 ρ with
 |nx ρ'=>rw[q]at h;exact λσ' G' H' sr'=>⟨G',ρ',sr',h⟩
 |rt d=>rw[q]at h;exact h
 |re d ρ'=>rw[q]at h;exact h
 |bk ρ'=>rw[q]at h;exact h
 |ct ρ'=>rw[q]at h;exact h
 |ex C ρ'=>rw[q]at h;exact h
 |no=>rw[q]at h;exact h
def Aw(he:PF X e ga):PSF X (.Return (some e) pos) (λρ=>(ga ρ).out ρ .rt):=λG₀ H₀ pins s σ H D I h=>by
 refine D2 he pins s σ H D I ?_;obtain⟨G,ρ,sr,h⟩:=h
 try dsimp only at h
 refine⟨G,ρ,sr.e,?_⟩;cases q:ga ρ with
 |ok d=>rw[q]at h;exact λv G' H' u r=>h v G' H' (sr.up.trans u) r
 |ex C=>rw[q]at h;exact Exx.of sr h
 |no=>rw[q]at h;exact h
def xf(he:PF X e ga)(hs:swapsWith e none pos.line X.env=pure false:=by rfl):PSF X (.Expr e pos) (λρ=>(ga ρ).out ρ λ_=>.nx ρ):=λG₀ H₀ pins s σ H D I h=>by
 refine sO he hs pins s σ H D I ?_;obtain⟨G,ρ,sr,h⟩:=h
 try dsimp only at h
 refine⟨G,ρ,sr.e,?_⟩;cases q:ga ρ with
 |ok d=>rw[q]at h;exact λv G' H' u r=>h σ G' H' (sr.ups u)
 |ex C=>rw[q]at h;exact Exx.of sr h
 |no=>rw[q]at h;exact h
def BE(hc:PB X c gt)(ha:kh X a g1)(hb:kh X b g2):PSF X (.If c a b pos) (λρ=>(gt ρ).out ρ λk=>if k=true then g1 ρ else g2 ρ):=λG₀ H₀ pins s σ H D I h=>by
 refine E1 hc (ha G₀ H₀) (hb G₀ H₀) pins s σ H D I ?_;obtain⟨G,ρ,sr,h⟩:=h
 try dsimp only at h
 refine⟨G,ρ,sr.e,?_⟩;cases q:gt ρ with
 |ok k=>
  rw[q]at h;intro b' G' H' u r;subst r;cases b' with
  |true=>rw[if_pos rfl];exact⟨G',ρ,sr.ups u,by simpa[R.out]using h⟩
  |false=>rw[if_neg rK];exact⟨G',ρ,sr.ups u,by simpa[R.out]using h⟩
 |ex C=>rw[q]at h;exact Exx.of sr h
 |no=>rw[q]at h;exact h
def Ah(he:PF X e ga)(hg:PGF X tg asg)(hs:swapsWithSole [tg] e pos.line X.env=pure false:=by rfl)(hw:swappedStores [tg] e X.env=pure none:=by rfl)(hn:∀d ρ C,asg d ρ≠.ex C:=by intro _ _ _ z;cases z)(h1:(assignEach [tg] X.env).map (·.2)=[assign tg X.env]:=by rfl):PSF X (.Assign [tg] e pos) (λρ=>(ga ρ).out ρ λd=>(asg d ρ).out ρ .nx):=λG₀ H₀ pins s σ H D I h=>by
 refine Bl he hg hs hw h1 pins s σ H D I ?_;obtain⟨G,ρ,sr,h⟩:=h
 try dsimp only at h
 refine⟨G,ρ,sr.e,?_⟩;cases q:ga ρ with
 |ok d=>
  rw[q]at h;simp only[R.out]at h;intro v G' H' u r;cases q2:asg d ρ with
  |ok ρ'=>rw[q2]at h;exact⟨G₀,H₀,G',ρ,d,ρ',sr.ups u,r,q2,λσ' sr'=>h σ' G' H' sr'⟩
  |ex C=>exact absurd q2 (hn d ρ C)
  |no=>rw[q2]at h;exact h.elim
 |ex C=>rw[q]at h;exact Exx.of sr h
 |no=>rw[q]at h;exact h
def Ae(i:Nat)(hN:X.N.Nodup)(he:PF X e ga)(hi:X.N[i]?=some x:=by rfl)(hx:Loc X.env.scope x:=by first|exact Or.inl rfl|exact Or.inr rfl)(hs:swapsWithSole [.Name x p] e pos.line X.env=pure false:=by rfl)(hw:swappedStores [.Name x p] e X.env=pure none:=by rfl)(hf:X.fn x=true\/X.env.scope.names.lookup x=some .local:=by first|exact .inl rfl|exact .inr rfl):
  PSF X (.Assign [.Name x p] e pos) (λρ=>(ga ρ).out ρ λd=>.nx (ρ.set i (some (.val d)))):=Ah he (eP i hN hi hx hf) hs hw
def StR.setOwn{K:PySem.W.Frag}{H₀:Hp}(s:StR K G₀ H₀ G H σ ρ){l:Addr}(hl:H l=none)(r:Reps K G vs ds)(i:Nat):
  StR K G₀ H₀ G (upd H l (.lst vs)) (σ.set i (some (.ref l))) (ρ.set i (some (.own ds))):=by
 have gl:G l=none:=s.e.sub.free hl;have sub:Same G (upd H l (.lst vs)):=λa o e=>by rw[aQ (aL e gl)];exact s.e.sub a o e
 have get:∀(j:Nat) x,(ρ.set i (some (.own ds)))[j]?=some (some x)->(j=i/\x=.own ds/\i<σ.length)\/(j≠i/\ρ[j]?=some (some x)/\(σ.set i (some (.ref l)))[j]?=σ[j]?):=λj x h=>by
  by_cases e:i=j
  ·subst e;have hl:i<ρ.length:=by have:=(sT.mp h).1;simpa using this
   rw[n8 hl]at h;exact .inl ⟨rfl,by injection (uV h)with q;exact q.symm,by rw[s.e.len];exact hl⟩
  ·rw[mO e]at h;exact .inr ⟨λz=>e z.symm,h,mO e⟩
 have ob:ObSt K H₀ G (upd H l (.lst vs)) (σ.set i (some (.ref l))) (ρ.set i (some (.own ds))):=by
  obtain⟨ow,o1,o2⟩:=s.ob;have nl:∀{a:Addr}{o:HO},H a=some o->a≠l:=λe z=>by rw[z,hl]at e;cases e
  refine⟨λa=>if a=l then some (i,0)else ow a,λj es l' h1 h2=>?_,λj m C p fs h1=>?_⟩
  ·rcases get j _ h1 with⟨rfl,e,hj⟩|⟨_,e,e'⟩;·rw[n8 hj]at h2;cases h2;exact if_pos rfl
   ·rw[e']at h2;obtain⟨l2,vs2,q1,q2,_⟩:=s.own j es e;rw[h2]at q1;cases q1;exact(if_neg (nl q2)).trans (o1 j es l' e h2)
  ·rcases get j _ h1 with⟨_,e,_⟩|⟨_,e,e'⟩;·cases e
   ·rw[e'];refine⟨(o2 j m C p fs e).1,(o2 j m C p fs e).2.keep ⟨λa t o _ q=>?_,.refl _,λa t o _ _ n=>n,λa t o q1 q2=>?_,λa o _ _ n=>n⟩⟩;·rw[aQ (nl q)];exact q
    ·exact(if_neg (nl q2)).trans q1
 refine⟨⟨sub,by simp[s.e.len],λj d' h=>?_,ob.rd⟩,s.sub0,⟨sub,s.up.gg,λa o e=>?_,s.up.fr⟩,λj es h=>?_,λj k es fs l' h1 h2 h3 h4=>?_,ob⟩
 ·rcases get j _ h with⟨_,e,_⟩|⟨_,e,e'⟩;·cases e
  ·rw[e'];exact s.e.val j d' e
 ·rw[aQ (aL (s.up.hh a o e) hl)];exact s.up.hh a o e
 ·rcases get j _ h with⟨rfl,e,hj⟩|⟨_,e,e'⟩;·cases e;exact⟨l,vs,n8 hj,ba,gl,s.up.hh.free hl,r⟩
  ·obtain⟨l',vs',h1,h2,h3,h4,h5⟩:=s.own j es e;exact⟨l',vs',by rw[e'];exact h1,by rw[aQ (aL h2 hl)];exact h2,h3,h4,h5⟩
 ·rcases get j _ h1 with⟨rfl,e,hj⟩|⟨nj,e,e'⟩
  ·rcases get k _ h2 with⟨rfl,f,_⟩|⟨nk,f,f'⟩;·rfl
   ·obtain⟨l2,vs2,q1,q2,_⟩:=s.own k fs f;rw[n8 hj]at h3;rw[f',q1]at h4;cases h3;cases h4;rw[hl]at q2;cases q2
  ·rcases get k _ h2 with⟨rfl,f,hk⟩|⟨nk,f,f'⟩;·obtain⟨l2,vs2,q1,q2,_⟩:=s.own j es e;rw[n8 hk]at h4;rw[e',q1]at h3;cases h3;cases h4;rw[hl]at q2;cases q2
   ·exact s.inj j k es fs l' e f (e'▸h3) (f'▸h4)
def An(i:Nat)(hN:X.N.Nodup)(he:PFL X e gl)(hi:X.N[i]?=some x:=by rfl)(hx:Loc X.env.scope x:=by first|exact Or.inl rfl|exact Or.inr rfl)(hs:swapsWithSole [.Name x p] e pos.line X.env=pure false:=by rfl)(hw:swappedStores [.Name x p] e X.env=pure none:=by rfl)(hf:X.fn x=true\/X.env.scope.names.lookup x=some .local:=by first|exact .inl rfl|exact .inr rfl):
  PSF X (.Assign [.Name x p] e pos) (λρ=>(gl ρ).out ρ λds=>.nx (ρ.set i (some (.own ds)))):=λG₀ H₀ pins s σ H D I h=>by
 refine Bl he (sY (i:=i) hN hi hx hf) hs hw rfl pins s σ H D I ?_;obtain⟨G,ρ,sr,h⟩:=h
 try dsimp only at h
 refine⟨G,ρ,sr.e,?_⟩;cases q:gl ρ with
 |ok ds=>rw[q]at h;exact λl vs G' H' u hl r=>h _ G' _ ((sr.ups u).setOwn hl r i)
 |ex C=>rw[q]at h;exact Exx.of sr h
 |no=>rw[q]at h;exact h
def StR.mut{K:PySem.W.Frag}{H₀:Hp}(s:StR K G₀ H₀ G H σ ρ){l:Addr}{es:List D}(e:ρ[i]?=some (some (.own ds)))(hs:σ[i]?=some (some (.ref l)))(r:Reps K G vs es):
  StR K G₀ H₀ G (upd H l (.lst vs)) σ (ρ.set i (some (.own es))):=by
 obtain⟨l0,vs0,h1,h2,h3,h4,h5⟩:=s.own i ds e;rw[hs]at h1;cases h1;have sub:Same G (upd H l (.lst vs)):=λa o e=>by rw[aQ (aL e h3)];exact s.e.sub a o e
 have hl:i<ρ.length:=(sT.mp e).1;have get:∀(j:Nat) x,(ρ.set i (some (.own es)))[j]?=some (some x)->(j=i/\x=.own es)\/(j≠i/\ρ[j]?=some (some x)):=λj x h=>by
  by_cases e:i=j;·subst e;rw[n8 hl]at h;exact .inl ⟨rfl,by injection (uV h)with q;exact q.symm⟩
  ·rw[mO e]at h;exact .inr ⟨λz=>e z.symm,h⟩
 have ob:ObSt K H₀ G (upd H l (.lst vs)) σ (ρ.set i (some (.own es))):=by
  obtain⟨ow,o1,o2⟩:=s.ob;have ol:=o1 i ds l e hs;refine⟨ow,λj fs l' q1 q2=>?_,λj m C p fs q1=>?_⟩
  ·rcases get j _ q1 with⟨rfl,_⟩|⟨nj,f1⟩;·exact o1 j ds l' e q2
   ·exact o1 j fs l' f1 q2
  ·rcases get j _ q1 with⟨_,e'⟩|⟨nj,f1⟩;·cases e'
   ·have ne:∀a t,ow a=some (j,t)->a≠l:=λa t q z=>by rw[z,ol]at q;cases q;exact nj rfl
    refine⟨(o2 j m C p fs f1).1,(o2 j m C p fs f1).2.keep ⟨λa t o q1 q=>?_,.refl _,λa t o _ _ n=>n,λa t o q1 _=>q1,λa o _ _ n=>n⟩⟩;·rw[aQ (ne a t q1)];exact q
 refine⟨⟨sub,by simp[s.e.len],λj d' h=>?_,ob.rd⟩,s.sub0,⟨sub,s.up.gg,λa o e=>?_,s.up.fr⟩,λj fs h=>?_,λj k fs gs l' q1 q2 q3 q4=>?_,ob⟩
 ·rcases get j _ h with⟨_,e⟩|⟨_,e⟩;·cases e
  ·exact s.e.val j d' e
 ·rw[aQ (aL e h4)];exact s.up.hh a o e
 ·rcases get j _ h with⟨rfl,e'⟩|⟨nj,e'⟩;·cases e';exact⟨l,vs,hs,ba,h3,h4,r⟩
  ·obtain⟨l',vs',p1,p2,p3,p4,p5⟩:=s.own j fs e';have:l'≠l:=λz=>by subst z;exact nj (s.inj j i fs ds l' e' e p1 hs)
   exact⟨l',vs',p1,by rw[aQ this];exact p2,p3,p4,p5⟩
 ·rcases get j _ q1 with⟨rfl,_⟩|⟨nj,f1⟩
  ·rcases get k _ q2 with⟨rfl,_⟩|⟨nk,f2⟩;·rfl
   ·exact s.inj j k ds gs l' e f2 q3 q4
  ·rcases get k _ q2 with⟨rfl,_⟩|⟨nk,f2⟩;·exact s.inj j k fs ds l' f1 e q3 q4
   ·exact s.inj j k fs gs l' f1 f2 q3 q4
noncomputable def frz(i:Nat)(ρ:Ev):Ev:=match ρ[i]? with
 |some (some (.own ds))=>ρ.set i (some (.val (.lst false ds)))
 |_=>ρ
def StR.frzTo{K:PySem.W.Frag}{H₀:Hp}(s:StR K G₀ H₀ G H σ ρ)(i:Nat):∃G',StR K G₀ H₀ G' H σ (L2.frz i ρ)/\(G'=G\/∃l vs,G l=none/\G'=upd G l (.lst vs)):=by
 unfold L2.frz;split
 ·rename_i ds e;obtain⟨l,vs,h1,h2,h3,h4,h5⟩:=s.own i ds e;have hl:i<ρ.length:=(sT.mp e).1;have g0:G₀ l=none:=s.sub0.free h4;have into:Same G (upd G l (.lst vs)):=.into h3;have sub:Same (upd G l (.lst vs)) H:=λa o q=>by
   by_cases ea:a=l;·subst ea;rw[ba]at q;rw[<- q];exact h2
   ·rw[aQ ea]at q;exact s.e.sub a o q
  have get:∀(j:Nat) x,(ρ.set i (some (.val (.lst false ds))))[j]?=some (some x)->(j=i/\x=.val (.lst false ds))\/(j≠i/\ρ[j]?=some (some x)):=λj x h=>by
   by_cases e:i=j;·subst e;rw[n8 hl]at h;exact .inl ⟨rfl,by injection (uV h)with q;exact q.symm⟩
   ·rw[mO e]at h;exact .inr ⟨λz=>e z.symm,h⟩
  have ob:ObSt K H₀ (upd G l (.lst vs)) H σ (ρ.set i (some (.val (.lst false ds)))):=by
   obtain⟨ow,o1,o2⟩:=s.ob;have ol:=o1 i ds l e h1;refine⟨ow,λj fs l' q1 q2=>?_,λj m C p fs q1=>?_⟩
   ·rcases get j _ q1 with⟨_,e'⟩|⟨nj,f1⟩;·cases e'
    ·exact o1 j fs l' f1 q2
   ·rcases get j _ q1 with⟨_,e'⟩|⟨nj,f1⟩;·cases e'
    ·have ne:∀a t,ow a=some (j,t)->a≠l:=λa t q z=>by rw[z,ol]at q;cases q;exact nj rfl
     refine⟨(o2 j m C p fs f1).1,(o2 j m C p fs f1).2.keep ⟨λa t o _ q=>q,into,λa t o q1 _ n=>?_,λa t o q1 _=>q1,λa o _ _ n=>n⟩⟩;·rw[aQ (ne a t q1)];exact n
  refine⟨upd G l (.lst vs),⟨⟨sub,by simp[s.e.len],λj d' h=>?_,ob.rd⟩,s.sub0,⟨sub,s.up.gg.trans into,s.up.hh,λa o q=>?_⟩,λj fs h=>?_,λj k fs gs l' q1 q2 q3 q4=>?_,ob⟩,.inr ⟨l,vs,h3,rfl⟩⟩
  ·rcases get j _ h with⟨rfl,e'⟩|⟨_,e'⟩;·cases e';exact⟨.ref l,h1,.lst ba (h5.mono into)⟩
   ·obtain⟨v,p1,p2⟩:=s.e.val j d' e';exact⟨v,p1,p2.mono into⟩
  ·by_cases ea:a=l;·subst ea;exact .inr h4
   ·rw[aQ ea]at q;exact s.up.fr a o q
  ·rcases get j _ h with⟨_,e'⟩|⟨nj,e'⟩;·cases e'
   ·obtain⟨l',vs',p1,p2,p3,p4,p5⟩:=s.own j fs e';have:l'≠l:=λz=>by subst z;exact nj (s.inj j i fs ds l' e' e p1 h1)
    exact⟨l',vs',p1,p2,by rw[aQ this];exact p3,p4,p5.mono into⟩
  ·rcases get j _ q1 with⟨_,e'⟩|⟨nj,f1⟩;·cases e'
   ·rcases get k _ q2 with⟨_,e'⟩|⟨nk,f2⟩;·cases e'
    ·exact s.inj j k fs gs l' f1 f2 q3 q4
 ·exact⟨G,s,.inl rfl⟩
def StR.frz{K:PySem.W.Frag}{H₀:Hp}(s:StR K G₀ H₀ G H σ ρ)(i:Nat):∃G',StR K G₀ H₀ G' H σ (L2.frz i ρ):=
 let⟨G',h,_⟩:=s.frzTo i;⟨G',h⟩
def yk{sts:List Stmt}(i:Nat)(h:kh X sts g):kh X sts (λρ=>g (frz i ρ)):=λG₀ H₀ pins s σ H D I q=>by obtain⟨G,ρ,sr,q⟩:=q;obtain⟨G',sr'⟩:=sr.frz i;exact h G₀ H₀ pins s σ H D I ⟨G',_,sr',q⟩
noncomputable def ownAt(ρ:Ev)(i:Nat):R (List D):=match ρ[i]? with
 |some (some (.own ds))=>.ok ds
 |_=>.no
def ownAt.ok{k:List D->O}{D:Ends}{H₀:Hp}(h:pV X G₀ H₀ D ((ownAt ρ i).out ρ k)):∃ds,ρ[i]?=some (some (.own ds))/\pV X G₀ H₀ D (k ds):=by
 unfold ownAt at h;split at h;·rename_i ds e;exact⟨ds,e,h⟩
 ·exact h.elim
def se(i:Nat){ap cp:Pos}(he:PF X e ga)(hi:X.N[i]?=some x:=by rfl)(hv:Vis X.env.scope x:=by first|exact Or.inl rfl|exact Or.inr (Or.inl rfl))(hd:(x==("__debug__":Str))=false:=by decide)(hcd:(x==("__classdict__":Str))=false:=by decide)(hs1:starEach [e] X.env=(false,eval e X.env)::starEach [] X.env:=by rfl)(hbase:attributeBase (.Name x p) "append" X.env (eval (.Name x p) X.env)=eval (.Name x p) X.env:=by rfl)(hfew:((backTo cp (starEach [e] X.env)).all (λx=>!x.1) && (backToKw cp (keywordEach [] X.env)).all (λx=>x.1.isSome)
 && decide ([e].length+([]:List Keyword).length+(if ([]:List Keyword).isEmpty then 0 else 1)<30))=true:=by rfl)(hline:(ap.endLine==cp.line)=true:=by rfl)(hs:swapsWith (.Call (.Attribute (.Name x p) "append" ap) [e] [] cp) none pos.line X.env=pure false:=by rfl):
  PSF X (.Expr (.Call (.Attribute (.Name x p) "append" ap) [e] [] cp) pos) (λρ=>(ownAt ρ i).out ρ λds=>(ga ρ).out ρ λd=>if ds.length<sizeLine then .nx (ρ.set i (some (.own (ds++[d]))))else .no):=λG₀ H₀ pins s σ H D I h=>by
 refine sO (BZ Zy PySem.F.slot_list_append PySem.F.type_list_append lX (tQ hi hv hd hcd) (cE he gU hs1) hbase hfew hline hs1 rfl) hs pins s σ H D I ?_;obtain⟨G,ρ,sr,h⟩:=h
 try dsimp only at h
 obtain⟨ds,e1,h⟩:=ownAt.ok h;obtain⟨l,vs,h1,h2,h3,h4,h5⟩:=sr.own i ds e1;refine⟨.ref l,h1,.inl ⟨rfl,vs,.of h2⟩,G,ρ,sr.e,?_⟩;cases q:ga ρ with
 |ok d=>
  rw[q]at h;simp only[R.out]at h;intro v G' H' u r;by_cases hz:ds.length<sizeLine;·rw[if_pos hz]at h;refine⟨l,vs,v,rfl,rfl,u.hh _ _ h2,by rw[h5.length];exact hz,h _ G' _ ?_⟩;exact(sr.ups u).mut e1 h1 ((h5.mono u.gg).append (.cons r .nil))
  ·rw[if_neg hz]at h;exact h.elim
 |ex C=>rw[q]at h;exact Exx.of sr h
 |no=>rw[q]at h;exact h
noncomputable def asL:D->R (List D)
 |.lst false xs=>.ok xs
 |_=>.no
def sC(i:Nat){ap cp:Pos}(he:PF X e ga)(hi:X.N[i]?=some x:=by rfl)(hv:Vis X.env.scope x:=by first|exact Or.inl rfl|exact Or.inr (Or.inl rfl))(hd:(x==("__debug__":Str))=false:=by decide)(hcd:(x==("__classdict__":Str))=false:=by decide)(hs1:starEach [e] X.env=(false,eval e X.env)::starEach [] X.env:=by rfl)(hbase:attributeBase (.Name x p) "extend" X.env (eval (.Name x p) X.env)=eval (.Name x p) X.env:=by rfl)(hfew:((backTo cp (starEach [e] X.env)).all (λx=>!x.1) && (backToKw cp (keywordEach [] X.env)).all (λx=>x.1.isSome)
 && decide ([e].length+([]:List Keyword).length+(if ([]:List Keyword).isEmpty then 0 else 1)<30))=true:=by rfl)(hline:(ap.endLine==cp.line)=true:=by rfl)(hs:swapsWith (.Call (.Attribute (.Name x p) "extend" ap) [e] [] cp) none pos.line X.env=pure false:=by rfl):
  PSF X (.Expr (.Call (.Attribute (.Name x p) "extend" ap) [e] [] cp) pos) (λρ=>(ownAt ρ i).out ρ λds=>(ga ρ).out ρ λd=>(asL d).out ρ λes=>if ds.length+es.length<=sizeLine then .nx (ρ.set i (some (.own (ds++es))))else .no):=λG₀ H₀ pins s σ H D I h=>by
 refine sO (BZ Zy PySem.F.slot_list_extend PySem.F.type_list_extend xF (tQ hi hv hd hcd) (cE he gU hs1) hbase hfew hline hs1 rfl) hs pins s σ H D I ?_;obtain⟨G,ρ,sr,h⟩:=h
 try dsimp only at h
 obtain⟨ds,e1,h⟩:=ownAt.ok h;obtain⟨l,vs,h1,h2,h3,h4,h5⟩:=sr.own i ds e1;refine⟨.ref l,h1,.inl ⟨rfl,vs,.of h2⟩,G,ρ,sr.e,?_⟩;cases q:ga ρ with
 |ok d=>
  rw[q]at h;simp only[R.out]at h;intro v G' H' u r;cases r with
  |lst hb t=>
   rename_i b ws es;have h:pV X G₀ H₀ D (if ds.length+es.length<=sizeLine then .nx (ρ.set i (some (.own (ds++es))))else .no):=h;by_cases hz:ds.length+es.length<=sizeLine;·rw[if_pos hz]at h;refine⟨l,b,vs,ws,rfl,rfl,u.hh _ _ h2,u.sub _ _ hb,by rw[h5.length,t.length];exact hz,h _ G' _ ?_⟩;exact(sr.ups u).mut e1 h1 ((h5.mono u.gg).append t)
   ·rw[if_neg hz]at h;exact h.elim
  |_=>exact h.elim
 |ex C=>rw[q]at h;exact Exx.of sr h
 |no=>rw[q]at h;exact h
noncomputable def eR(asg:D->Ev->R Ev)(g:Ev->O):List D->Ev->O
 | [],ρ=>.nx ρ
 |d::ds,ρ=>(asg d ρ).out ρ λρ1=>match g ρ1 with
  |.nx ρ2=>eR asg g ds ρ2
  |.ct ρ2=>eR asg g ds ρ2
  |.bk ρ2=>.nx ρ2
  |.rt d=>.rt d
  |.re d ρ2=>.re d ρ2
  |.ex C ρ2=>.ex C ρ2
  |.no=>.no
noncomputable def mix(H₀ G₁:Hp):Hp:=λa=>match G₁ a with
 |some o=>some o
 |none=>H₀ a
def pO{H₀ G₁:Hp}{a:Addr}(h:mix H₀ G₁ a=none):G₁ a=none/\H₀ a=none:=by
 unfold mix at h;cases q:G₁ a with
 |none=>rw[q]at h;exact⟨rfl,h⟩
 |some o=>rw[q]at h;cases h
section
variable{K:PySem.W.Frag}{H₀ G₁ H₁:Hp}
def StR.to(s:StR K G₀ H₀ G₁ H₁ σ ρ):StR K G₁ (mix H₀ G₁) G₁ H₁ σ ρ:=by
 refine⟨s.e,λa o e=>?_,⟨s.e.sub,.refl _,λa o e=>?_,λ_ _ e=>.inl e⟩,λi ds e=>?_,s.inj,?_⟩;·unfold mix;rw[e]
 ·unfold mix at e;cases q:G₁ a with
  |none=>rw[q]at e;exact s.up.hh a o e
  |some o'=>rw[q]at e;cases e;exact s.e.sub a o q
 ·obtain⟨l,vs,h1,h2,h3,h4,h5⟩:=s.own i ds e;exact⟨l,vs,h1,h2,h3,by unfold mix;rw[h3];exact h4,h5⟩
 ·obtain⟨ow,o1,o2⟩:=s.ob;exact⟨ow,o1,λi m C p fs e=>⟨(o2 i m C p fs e).1,(o2 i m C p fs e).2.keep ⟨λa t o _ q=>q,.refl _,λa t o _ _ n=>n,λa t o q1 _=>q1,λa o _ g n=>by unfold mix;rw[g];exact n⟩⟩⟩
def Up.back(u:Up G₀ H₀ G₁ H₁)(v:Up G₁ (mix H₀ G₁) G H):Up G₀ H₀ G H:=by
 refine⟨v.sub,u.gg.trans v.gg,λa o e=>?_,λa o e=>?_⟩
 ·cases q:G₁ a with
  |none=>exact v.hh a o (by unfold mix;rw[q];exact e)
  |some o'=>have h1:=u.sub a o' q;have h2:=u.hh a o e;rw[h1]at h2;cases h2;exact v.hh a o (by unfold mix;rw[q])
 ·rcases v.fr a o e with h|h;·exact u.fr a o h
  ·exact .inr (pO h).2
def StR.back(s0:Same G₀ H₀)(u:Up G₀ H₀ G₁ H₁)(s:StR K G₁ (mix H₀ G₁) G H σ ρ):StR K G₀ H₀ G H σ ρ:=
 ⟨s.e,s0,u.back s.up,λi ds e=>let⟨l,vs,h1,h2,h3,h4,h5⟩:=s.own i ds e;⟨l,vs,h1,h2,h3,(pO h4).2,h5⟩,s.inj,by
 obtain⟨ow,o1,o2⟩:=s.ob;exact⟨ow,o1,λi m C p fs e=>⟨(o2 i m C p fs e).1,(o2 i m C p fs e).2.keep ⟨λa t o _ q=>q,.refl _,λa t o _ _ n=>n,λa t o q1 _=>q1,λa o _ _ n=>(pO n).2⟩⟩⟩⟩
end
def zN(hp:PassesOwn (model X.prog X.w) X.A X.env X.xe)(hcalm:X.calm=true)(hi:PIF X tg iter gi)(hg:PGF X tg asg)(hb:kh X body g)(hs:∀x,foldedSetIterable iter X.env x=pure x:=by intro _;rfl)(hn:∀d ρ C,asg d ρ≠.ex C:=by intro _ _ _ z;cases z):PSF X (.For tg iter body [] pos) (λρ=>(gi ρ).out ρ λitems=>eR asg g items ρ):=λG₀ H₀ pins s σ H D I h=>by
 obtain⟨G,ρ,sr,h⟩:=h
 try dsimp only at h
 cases q:gi ρ with
 |ok items=>
  rw[q]at h;simp only[R.out]at h;have key:∀(J:It)(G1 H1:Hp),Up G H G1 H1->ItOk X.K G1 J items->∃W:Nat->Nat->St->Hp->Prop,(∃m,W 0 m σ H1)/\∀i m σ H,W i m σ H->
    (J.stop i H/\D.nx σ H)\/(J.go i H/\∃N:St->Hp->Prop,(∀σ' H',N σ' H'->∃m',m'<m/\W (i+1) m' σ' H')/\∀x H',J.yld i H x H'->(λv σ H Q=>∃G₀ H₀ G ρ d ρ',StR X.K G₀ H₀ G H σ ρ/\Rep X.K G v d/\asg d ρ=.ok ρ'/\∀σ',StR X.K G₀ H₀ G H σ' ρ'->Q σ' H) x σ H' λσ2 H2=>(λD σ H=>∃G₀ H₀,tS X G₀ H₀ g D σ H) { D with nx:=N,ct:=N,bk:=D.nx } σ2 H2):=by
   intro J G1 H1 u1 iok;have sr1:=sr.ups u1;refine⟨λi m σ' H'=>m=items.length - i/\i<=items.length/\∃G' ρ',StR X.K G1 (mix H₀ G1) G' H' σ' ρ'/\pV X G₀ H₀ D (eR asg g (items.drop i) ρ'),⟨items.length,by simp,oR _,G1,ρ,sr1.to,by simpa using h⟩,?_⟩;rintro i m σ' H' ⟨rfl,hil,G',ρ',sr',h'⟩;have hIt:=iok i G' H' sr'.up.gg sr'.e.sub;by_cases hlt:i<items.length
   ·have hd:items.drop i=items[i]::items.drop (i+1):=Zu hlt;rw[hd]at h';obtain⟨go,yl⟩:=hIt.1 items[i] (by simp[hlt]);refine .inr ⟨go,λσ2 H2=>i+1<=items.length/\∃G2 ρ2,StR X.K G1 (mix H₀ G1) G2 H2 σ2 ρ2/\pV X G₀ H₀ D (eR asg g (items.drop (i+1)) ρ2),λσ2 H2 q2=>⟨items.length - (i+1),by omega,rfl,q2⟩,λx H2 y=>?_⟩;obtain⟨G2,up2,rep2⟩:=yl x H2 y;unfold eR at h';cases q2:asg items[i] ρ' with
    |ok ρ1=>
     rw[q2]at h';simp only[R.out]at h';refine⟨G1,mix H₀ G1,G2,ρ',items[i],ρ1,sr'.ups up2,rep2,q2,λσ3 sr3=>⟨G1,mix H₀ G1,G2,ρ1,sr3,?_⟩⟩;cases q3:g ρ1 with
     |nx ρ2=>rw[q3]at h';exact λσ4 G4 H4 sr4=>⟨hlt,G4,ρ2,sr4,h'⟩
     |ct ρ2=>rw[q3]at h';exact λσ4 G4 H4 sr4=>⟨hlt,G4,ρ2,sr4,h'⟩
     |bk ρ2=>rw[q3]at h';exact λσ4 G4 H4 sr4=>h' σ4 G4 H4 (sr4.back sr.sub0 sr1.up)
     |rt d=>rw[q3]at h';exact λv G4 H4 u4 r4=>h' v G4 H4 (sr1.up.back u4) r4
     |re d ρ2=>rw[q3]at h';exact λv σ4 G4 H4 sr4 r4=>h' v σ4 G4 H4 (sr4.back sr.sub0 sr1.up) r4
     |ex C ρ2=>rw[q3]at h';exact λe s' f4=>h' e s' (f4.map λσ4 G4 H4 sr4=>sr4.back sr.sub0 sr1.up)
     |no=>rw[q3]at h';exact h'
    |ex C=>exact absurd q2 (hn _ _ C)
    |no=>rw[q2]at h';exact h'.elim
   ·have hie:i=items.length:=by omega
    subst hie;rw[Zv]at h';exact .inl ⟨hIt.2 (yo _),h' σ' G' H' (sr'.back sr.sub0 sr1.up)⟩
  have hb':PSs X body (λD σ H=>∃G₀ H₀,tS X G₀ H₀ g D σ H):=λpins s σ H D I ⟨G₀,H₀,q⟩=>hb G₀ H₀ pins s σ H D I q;refine AQ hp hcalm hi hg hb' hs pins s σ H D I ⟨G,ρ,sr.e,?_⟩;rw[q];exact λJ G1 H1 u1 iok=>key J G1 H1 u1 iok
 |ex C=>rw[q]at h;have hb':PSs X body (λD σ H=>∃G₀ H₀,tS X G₀ H₀ g D σ H):=λpins s σ H D I ⟨G₀,H₀,q⟩=>hb G₀ H₀ pins s σ H D I q;refine AQ hp hcalm hi hg hb' hs pins s σ H D I ⟨G,ρ,sr.e,?_⟩;rw[q];exact Exx.of sr h
 |no=>rw[q]at h;exact h.elim
end
noncomputable def spF(K:PySem.W.Frag)(f:List D->R D):Sp:=λvs H Q E=>∃G ds,Same G H/\Reps K G vs ds/\(f ds).post (Fin G H (Rep K) Q) (λC=>∀G' H',Up G H G' H'->E (.ref C) none H')
noncomputable abbrev FnF(P:Program)(w:World)(K:PySem.W.Frag)(mg:Str->Option Value)(base:Heap)(k:Nat)(f:Addr)(fd:FuncData)(ps:List Str)(g:List D->R D):Prop:=FnOk P w K mg base (CXo P w) k f fd ps (λvs H Q E=>vs.length=ps.length/\spF K g vs H Q E)
section
variable{pos:Pos}{e:Expr}{g:List D->R D}
def CD(F:FnF X.prog X.w X.K X.mg X.base k f fd ps g)(hr:Room k X.A)(hg:Gl X x)(hm:X.mg x=some (.ref f))(hk:PySem.W.keepIn X.K (.ref f)=true)(hb:Binds X.K fd ps [])(ha:PFA X (e::es) gl)(hdb:(x==("__debug__":Str))=false:=by decide)(he:starEach (e::es) X.env=(false,eval e X.env)::starEach es X.env:=by rfl)(hpl:(backTo pos (starEach es X.env)).any (·.1)=false:=by rfl):
  PF X (.Call (.Name x p) (e::es) [] pos) (λρ=>gl ρ>>=λds=>if ds.length=ps.length then g ds else .no):=by
 intro pins s σ H Q I h;obtain⟨G,ρ,st,h⟩:=h;have t:tAF X gl σ H (λvs H1=>∃G1 ds,Up G H G1 H1/\Same G1 H1/\Reps X.K G1 vs ds/\ds.length=ps.length/\(g ds).post (Fin G1 H1 (Rep X.K) Q) (Exx X σ G1 H1)):=by
  refine tG.intro st h λds vs G1 H1 u1 st1 r1 h1=>?_;by_cases hl:ds.length=ps.length;·rw[if_pos hl]at h1;exact⟨G1,ds,u1,st1.sub,r1,hl,h1⟩
  ·rw[if_neg hl]at h1;exact h1.elim
 refine Zi (oM I hg hm ?_ hdb);refine PySem.W.callWith_K (h₀:=X.base) I.ok.mod.kin hk (thn (ha pos pins s σ H _ I t) λus s1 q=>⟨?_,?_⟩) he hpl;·obtain⟨vs,H1,I1,r,_⟩:=q;exact I1.kIn
 obtain⟨vs,H1,I1,r,G1,ds,u1,sub1,rp,hl,h1⟩:=q;have hvl:vs.length=ps.length:=by rw[rp.length];exact hl
 have hul:(us++[]).length=ps.length:=by rw[mP,<- r.length];exact hvl
 have hbb:=hb s1 us I1.kIn hul;rw[mP]at hbb;refine c9 (c0 (F.run X.A X.stack s1 H1 ⟨us,[]⟩ us vs Q (λc _ H'=>∃C G',c=.ref C/\Up G1 H1 G' H'/\Exx X σ G1 H1 C) hr I1.env0 hbb r ⟨hvl,G1,ds,sub1,rp,h1.mono (λ_ q=>q) λC q G' H' u=>⟨C,G',rfl,u,q⟩⟩) λr' s' hq=>?_);cases r' with
 |error e'=>obtain⟨a,C,H',rfl,fl,C',G',ec,u,q⟩:=hq;cases ec;exact q _ _ ⟨G1,H1,.refl sub1,pins,s1,a,rfl,I1,.inr (.inl ⟨G',H',fl,u⟩)⟩
 |ok fl=>
  cases fl with
  |ret u=>exact I1.after hq
  |_=>exact False.elim hq
end
def ObjOk.there{w:World}(x:ObjOk P w H h a o):∃ob,h.get? a=some ob:=by
 cases o with
 |lst xs=>obtain⟨_,_,_,_,e⟩:=x;exact⟨_,e⟩
 |tup xs=>obtain⟨_,_,_,o,e,_⟩:=x;exact⟨_,e⟩
 |dK kvs=>obtain⟨_,_,_,_,o,_,_,e,_⟩:=x;exact⟨_,e⟩
 |dT kvs=>obtain⟨_,_,_,_,o,_,_,e,_⟩:=x;exact⟨_,e⟩
 |set S n=>obtain⟨o,_,_,_,e,_⟩:=x;exact⟨_,e⟩
 |ins C dx fs=>obtain⟨_,_,_,e,_⟩:=x;exact⟨_,e⟩
 |own y=>obtain⟨_,e⟩:=x;exact⟨_,e⟩
 |xd fs=>obtain⟨_,⟨_,_,_,e,_⟩,_⟩:=x;exact⟨_,e⟩
 |rng lo hi=>obtain⟨_,_,_,e⟩:=x;exact⟨_,e⟩
 |frz ob u=>obtain⟨e,_⟩:=x;exact⟨_,e⟩
 |tbl ps=>obtain⟨_,e,_⟩:=x;exact⟨_,e⟩
 |met f y=>exact⟨_,show h.get? a=some _ from x⟩
 |ext φ=>obtain⟨_,⟨_,e⟩,_⟩:=x;exact⟨_,e⟩
def uA{env:Env}{outer:List Env}{L:Addr}(h:env.frame=some L):frs (env::outer)=L::frs outer:=by unfold frs;rw[ZR,h]
section
variable{w:World}{h1 h2 hm:Heap}{l l':List Addr}{B:Heap}
def HOk.flight(x:HOk P w H' h1)(hb:B.StaysIn h2)(hk:∀b o,b∉l->((∃o0,hm.get? b=some o0)\/∃u,H' b=some u)->h1.get? b=some o->B.get? b=some o)(hl:∀b∈l,H' b=none):HOk P w H' h2:=λa o e=>by
 refine(x a o e).stay (λb u hbb q=>hb b u (hk b u (λz=>?_) (.inr ?_) q)) (λ_ z=>z) (λ_ _ z=>z)
 ·rcases hbb with rfl|hbb;·rw[hl _ z]at e;cases e
  ·rw[hl _ z]at hbb;cases hbb
 ·rcases hbb with rfl|hbb;·exact⟨_,e⟩
  ·exact⟨_,hbb⟩
def Un.flight{ex:List Addr}(u:Un l' ex H H' h h1)(hb:B.StaysIn h2)(sm:h1.UpToSlots h2)(hk:∀b o,b∉l->((∃o0,hm.get? b=some o0)\/∃u,H' b=some u)->h1.get? b=some o->B.get? b=some o)(lt:∀b o,h.get? b=some o->∃o0,hm.get? b=some o0)(hl:∀b∈l,b∈l'\/h.objs.size<=b)(hd:∀b∈l,∀o,h1.get? b=some o->∀vs,o.data≠.fields vs):Un l' ex H H' h h2:=by
 refine⟨λb o e nn hb' hx=>?_,λb o e nn hb' hx=>?_,u.free,λb o e hx=>?_,u.tups,u.frzs,u.tbls⟩
 ·have q:=u.keep b o e nn hb' hx;refine hb b o (hk b o (λz=>?_) (.inl (lt b o e)) q);rcases hl b z with z|z;·exact hb' z
  ·exact absurd (xz e) (o9.mpr z)
 ·obtain⟨sl,q⟩:=u.slot b o e nn hb' hx;by_cases z:b∈l;·obtain⟨sl',q'⟩:=sm b _ q (hd b z _ q);exact⟨sl',q'⟩
  ·exact⟨sl,hb b _ (hk b _ z (.inl (lt b o e)) q)⟩
 ·obtain⟨o',q⟩:=u.there b o e hx;by_cases z:b∈l;·obtain⟨sl',q'⟩:=sm b _ q (hd b z _ q);exact⟨_,q'⟩
  ·exact⟨o',hb b _ (hk b _ z (.inl (lt b o e)) q)⟩
end
def FunFrames.data{base:Heap}:∀{l:List Env},h.FunFrames base l->∀b∈frs l,∃o,h.get? b=some o/\(∀vs,o.data≠.fields vs)/\base.get? b=none:=λ{l} hf b hb=>by obtain⟨h1,o,h2,h3⟩:=hf.mem hb;exact⟨o,h2,h3,h1⟩
noncomputable def gCx(P:Program)(w:World)(K:PySem.W.Frag)(mg:Str->Option Value)(base:Heap)(N:List Str)(env:Env)(fn:Str->Bool)(A:Around)(outer:List Env)(s:Shared)(H:Hp)(E:XK):Cx where
 prog:=P
 w:=w
 K:=K
 mg:=mg
 base:=base
 A:=A.deeper env
 N:=N
 s₀:=s
 H₀:=H
 env:=env
 outer:=outer
 stack:=env::outer
 ex:=[]
 calm:=true
 fn:=fn
 pn:=[]
 xe:=λe s'=>wpAny (model P w) (A.deeper env) (leaving env e) (λ_ s''=>CXo P w outer H s E e s'') (λe' s''=>CXo P w outer H s E e' s'') s'
def CL{w : World}{K : PySem.W.Frag}{mg : Str -> Option Value}{base : Heap}{N : List Str}{env : Env}{fn : Str -> Bool}{A : Around}{outer : List Env}{E : XK}{e : Value}(hloc : env.locals = s.heap.objs.size)(hf : env.frame = some s.heap.objs.size)(fl : FlyS (gCx P w K mg base N env fn A outer s H E) G H ρ C e s')(hE : ∀G' H', Up G H G' H' -> E (.ref C) none H'): (gCx P w K mg base N env fn A outer s H E).xe e s' := by
  obtain⟨σ, H₁, pins, s₁, a, rfl, I, way⟩ := fl;have hfr : (A.deeper (env)).frames = some (env :: outer) := I.ok.frames;have hst : frs (env :: outer) = s.heap.objs.size :: frs outer := uA hf;have old : ∀b o, s.heap.get? b = some o -> ∃o0, s₁.heap.get? b = some o0 := λb o e => I.base.there b o e (by show b∉([] : List Addr); simp);show wpAny (model P w) (A.deeper (env)) (leaving (env) (.ref a)) (λ_ s'' => CXo P w outer H s E (.ref a) s'') (λe' s'' => CXo P w outer H s E e' s'') s';have fin : ∀{H' : Hp}{G' : Hp}{s' : Shared}{h'' B : Heap}{a0 : Value}, Inv (gCx P w K mg base N env fn A outer s H E) pins σ H' s' -> StR K G H G' H' σ ρ -> H' a = none -> Heap.FlyingW B outer a (.ref C) a0 h'' -> s'.heap.UpToSlots h'' ->
      (∀b o, b∉s.heap.objs.size :: frs outer -> ((∃o0, s₁.heap.get? b = some o0) \/ ∃u, H' b = some u) -> s'.heap.get? b = some o -> B.get? b = some o) -> CXo P w outer H s E (.ref a) { s' with heap := h'' } := by
    intro H' G' s' h'' B a0 J up ha fl sm hk;have J0 : H' s.heap.objs.size = none := by have q : H' env.locals = none := J.free; rw[hloc]at q; exact q
    have fr0 : ∀b ∈ frs outer, H' b = none := λb hb => J.stkFree b (by show b ∈ frs (env :: outer); rw[hst]; exact rO _ hb);have frA : ∀b ∈ s.heap.objs.size :: frs outer, H' b = none := λb hb => by
      rcases v0.mp hb with rfl|hb;· exact J0
      · exact fr0 b hb
    have dat : ∀b ∈ s.heap.objs.size :: frs outer, ∀o, s'.heap.get? b = some o -> ∀vs, o.data≠.fields vs := λb hb o e => by obtain⟨o', e', d', _⟩ := FunFrames.data J.stack b (by show b ∈ frs (env :: outer); rw[hst]; exact hb);rw[e]at e'; cases e'; exact d'
    have hok : HOk P w H' h'' := J.hok.flight fl.1 hk frA;have un : Un (frs outer) [] H H' s.heap h'' := Un.flight J.base fl.1 sm hk old (λb hb => (v0.mp hb).elim (λz => .inr (by rw[z]; exact yo _)) .inl) dat;refine⟨a, C, H', rfl, ⟨J.os, J.bare, un, hok, ha, B, a0, fl, λb o hb ho e => ?_⟩, hE G' H' up.up⟩;have nb : b∉s.heap.objs.size :: frs outer := λz => by
      rcases v0.mp z with z|z
      · rcases ho with⟨o0, ho⟩ | ⟨u, ho⟩;· rw[z]at ho; exact mK _ (xz ho)
        · rw[z, J0]at ho; cases ho
      · exact hb z
    have ho' : (∃o0, s₁.heap.get? b = some o0) \/ ∃u, H' b = some u := ho.imp (λ⟨o0, z⟩ => old b o0 z) id;have ex : ∃o', s'.heap.get? b = some o' := by
      rcases ho with⟨o0, ho⟩ | ⟨u, ho⟩;· exact J.base.there b o0 ho (by show b∉([] : List Addr); simp)
      · exact(J.hok b u ho).there
    obtain⟨o', e'⟩ := ex;have q := hk b o' nb ho' e';have q2 := fl.1 b o' q;have e2 : h''.get? b = some o := e;rw[q2]at e2;cases e2;exact q
  rcases way with⟨G₁, h', vs, sr, made, rfl⟩ | ⟨G', H', ⟨os, bare, un, hok, ha, B, a0, fl, hk⟩, up⟩ | ⟨G', H', L', hL, ⟨os, bare, ⟨ch, hch, un⟩, hok, ha, _, B, a0, fl, hk⟩, up⟩
  ·
    have J : Inv (gCx P w K mg base N env fn A outer s H E) pins σ H₁ { s₁ with heap := h' } := I.kept (t' := s₁.toks) made.keeps;have hin : ∀en ∈ (env :: outer), ∀b, en.frame = some b -> b ∈ s.heap.objs.size :: frs outer := λen he b hb => by rw[<- hst]; exact Zh.mpr ⟨en, he, hb⟩
    refine wpAny_leaves_madeW (base := PySem.W.hideAll s₁.heap (s.heap.objs.size :: frs outer)) hfr hf (λb o q => ZY _ q) (PySem.W.funFrames_hide I.stack hin) made λh'' t fl' _ _ sm => ?_;have ha : H₁ a = none := by
      cases q : H₁ a with
      |none => rfl
      |some u =>obtain⟨ob, e⟩ := (I.hok a u q).there;rw[made.new]at e; cases e
    refine fin J sr ha fl' sm λb o hb ho e => ?_;have e1 : s₁.heap.get? b = some o := by
      rcases ho with⟨o0, ho⟩ | ⟨u, ho⟩;· have q := made.keeps b o0 ho;have e' : h'.get? b = some o := e;rw[q]at e'; cases e'; exact ho
      · obtain⟨ob, ho⟩ := (I.hok b u ho).there;have q := made.keeps b ob ho;have e' : h'.get? b = some o := e;rw[q]at e'; cases e'; exact ho
    exact PySem.W.hideAll_get _ e1 hb
  · have J := I.call' (s' := s') (ch := []) os un hok bare (λb z => absurd z (by simp));exact wpAny_leaves_onW hfr hf fl λh'' fl' sm => fin J up ha fl' sm λb o hb ho e => hk b o (by show b∉frs (env :: outer); rw[hst]; exact hb) ho e
  · have J := I.call' (s' := s') (ch := ch) os un hok bare hch;have eL : s.heap.objs.size = L' := uV (hf.symm.trans hL);rw[<- eL]at fl;refine z6 (wpAny_noteFrame_againW hf fl.2.2.2 (wpAny_landsW fl λh'' fl' sm => ?_));obtain⟨k1, k2, ⟨_, _, k3⟩, k4⟩ := fl';exact fin J up ha ⟨k1, k2, k3, k4⟩ sm λb o hb ho e => hk b o (by show b∉frs (env :: outer); rw[hst]; exact hb) ho e

def uk{w:World}{K:PySem.W.Frag}{mg:Str->Option Value}{base:Heap}{N:List Str}{A:Around}{outer:List Env}{E:XK}{e:Value}(fl:FlyS (gM (CXo P w) P w K mg base N qual scope f cd A outer s H E) G H ρ C e s')(hE:∀G' H',Up G H G' H'->E (.ref C) none H'):(gM (CXo P w) P w K mg base N qual scope f cd A outer s H E).xe e s':=
 CL (env:=envOfC qual scope s.heap.objs.size f cd) (fn:=λ_=>true) rfl rfl fl hE
noncomputable def aM(n:Nat)(ds:List D):Ev:=ds.map (λd=>some (.val d))++List.replicate (n - ds.length) none
noncomputable def aJ(o:O):R D:=match o with
 |.rt d=>.ok d
 |.re d _=>.ok d
 |.nx _=>.ok .non
 |.ex C _=>.ex C
 |_=>.no
def uf{K:PySem.W.Frag}{N:List Str}(sub:Same G H)(r:Reps K G vs ds):StR K G H G H (mB N vs) (aM N.length ds):=by
 have hl:=r.length;have get:∀(i:Nat) x,(aM N.length ds)[i]?=some (some x)->∃d,ds[i]?=some d/\x=.val d:=λi x e=>by
  unfold aM at e;by_cases hi:i<ds.length
  ·rw[i8 (by simpa using hi),v8]at e;cases q:ds[i]? with
   |none=>rw[q]at e;cases e
   |some d=>rw[q]at e;cases e;exact⟨d,rfl,rfl⟩
  ·rw[i6 (by simpa using hi),i7]at e;split at e <;> cases e
 have no:NoOwn (aM N.length ds):=λi x e=>by obtain⟨d',_,q⟩:=get i _ e;exact⟨d',q⟩
 refine⟨⟨sub,by simp[mB,aM,hl],λi d e=>?_,λi m C p fs e=>absurd e (no.obj i m C p fs)⟩,sub,.refl sub,λi es e=>?_,λi j es fs l e=>?_,no.ob⟩;·obtain⟨d',e',q⟩:=get i _ e;cases q;obtain⟨v,ev,rv⟩:=r.get e';refine⟨v,?_,rv⟩;unfold mB;rw[i8 (by have:=(sT.mp ev).1;simpa using this),v8,ev];rfl
 ·obtain⟨d',_,q⟩:=get i _ e;cases q
 ·obtain⟨d',_,q⟩:=get i _ e;cases q
def Fun.okF{w:World}{K:PySem.W.Frag}{mg:Str->Option Value}{base:Heap}{N:List Str}(F:Fun K x qual st f fd)(S:FnScope N ps (aO st)){g:Ev->O}(hbody:∀(cdv:Value)(A:Around)(outer:List Env)(s:Shared)(H:Hp)(E:XK),Room k (A.deeper (envOfC qual (aO st) s.heap.objs.size f cdv))->kh (gM (CXo P w) P w K mg base N qual (aO st) f cdv A outer s H E) (gB st) g):
  FnF P w K mg base (k+1) f fd ps (λds=>aJ (g (aM N.length ds))):=by
 obtain⟨oc,od,kV,doc,pm,an,cdv,ct,osl,rfl,lk,hcd⟩:=F.ex;refine BW lk hcd S (λvs H Q E h=>h.1) λA outer s H vs Q E hr hsp=>?_;obtain⟨hl,G,ds,sub,r,h⟩:=hsp;refine⟨_,hbody cdv A outer s H E hr G H,G,aM N.length ds,uf sub r,?_⟩;dsimp only at h;cases q:g (aM N.length ds)with
 |nx ρ=>rw[q]at h;exact λσ G' H' sr=>h .non G' H' sr.up .non
 |rt d=>rw[q]at h;exact λv G' H' u rv=>h v G' H' u rv
 |re d ρ=>rw[q]at h;exact λv σ G' H' sr rv=>h v G' H' sr.up rv
 |bk ρ=>rw[q]at h;exact h.elim
 |ct ρ=>rw[q]at h;exact h.elim
 |ex C ρ=>rw[q]at h;exact λe s' fl=>uk fl h
 |no=>rw[q]at h;exact h.elim
theorem mD:fillsNumberSlot (.type "tuple") "mul"=pure false:=
 PySem.fillsNumberSlot_seq (id:="tuple.__mul__") (r:=some (.builtin "tuple.__rmul__")) F.slot_tuple_mul.lookup (by decide +kernel) F.slot_tuple_rmul.lookup (by decide +kernel)
theorem Cn:seqRepeat? (.type "tuple")=pure (some (.builtin "tuple.__mul__")):=by unfold seqRepeat?;rw[PySem.seqSlot_of (T:="tuple") (name:="__mul__") (id:="tuple.__mul__") F.slot_tuple_mul.lookup (by decide +kernel),PySem.seqSlot_of (T:="tuple") (name:="__rmul__") (id:="tuple.__rmul__") F.slot_tuple_rmul.lookup (by decide +kernel)];rfl
open Builtin in
def qz(a:Int)(t:Tok)(l:Addr)(items:Array Value)(n:Nat)(dd:Option Addr)(sl:Array (Option Value)):
  Meets (Builtin.«int.__rmul__» ⟨[.int a t,.ref l],[]⟩) (λ_ Rr s=>s.heap.get? l=some { cls:=.type "tuple",dict:=dd,data:=.seq items n,slots:=sl }/\Rr (.ok (.ret Value.notImplemented)) s):=
 .of_wp λprog w A Rr s h=>by obtain⟨hp,g,d,tk,os⟩:=s;obtain⟨hl,h⟩:=h;wp_walk;exact⟨_,rfl,h⟩
section
open Builtin AutoSeq1
variable(l:Addr)(items:Array Value)(n:Nat)(dd:Option Addr)(sl:Array (Option Value))(x:Int)(u:Tok)(h1:(decide (x < -(2 ^ 63)) || decide (x ≥ 2 ^ 63))=false)
include h1
def zx(hc:(items.isEmpty || x==1)=true):
  Meets (Builtin.«tuple.__mul__» ⟨[.ref l,.int x u],[]⟩) (λ_ Rr s=>s.heap.get? l=some { cls:=.type "tuple",dict:=dd,data:=.seq items n,slots:=sl }/\Rr (.ok (.ret (.ref l))) s):=
 .of_wp λprog w A Rr s h=>by
  obtain⟨hp,g,d,tk,os⟩:=s;obtain⟨hl,h⟩:=h;have f1:=idx_int
  wp_walk
  refine ZZ (by rw[h1];rfl) ?_;refine z6 (aT (show IsTup hp l items from⟨_,hl,rfl,n,rfl⟩) ?_);dsimp only;rw[if_pos hc];unfold Tuple.tupleIsExact;refine z6 (z6 (Z0 ⟨_,hl,rfl⟩ (z9 ?_)));rw[if_pos (by decide)];exact z6 (lT (z9 ⟨_,rfl,h⟩))
def Au(hc : ¬ (items.isEmpty || x==1)=true)(h2:(decide (x<=0) || items.isEmpty)=true):
  Meets (Builtin.«tuple.__mul__» ⟨[.ref l,.int x u],[]⟩) (λ_ Rr s=>s.heap.get? l=some { cls:=.type "tuple",dict:=dd,data:=.seq items n,slots:=sl }/\Rr (.ok (.ret (.ref s.heap.objs.size))) { s with heap:=s.heap.push { cls:=.type "tuple",data:=.seq #[] } }):=
 .of_wp λprog w A Rr s h=>by
  obtain⟨hp,g,d,tk,os⟩:=s;obtain⟨hl,h⟩:=h;have f1:=idx_int
  wp_walk
  refine ZZ (by rw[h1];rfl) ?_;refine z6 (aT (show IsTup hp l items from⟨_,hl,rfl,n,rfl⟩) ?_);dsimp only;rw[if_neg hc,if_pos h2];exact z6 (m:=Builtin.Tuple.tupleExact _) (mz (z9 ⟨_,rfl,h⟩) (oR _))
def zt(hc : ¬ (items.isEmpty || x==1)=true)(h2 : ¬ (decide (x<=0) || items.isEmpty)=true)(hz:items.size * x.toNat<=sizeLine):
  Meets (Builtin.«tuple.__mul__» ⟨[.ref l,.int x u],[]⟩) (λ_ Rr s=>s.heap.get? l=some { cls:=.type "tuple",dict:=dd,data:=.seq items n,slots:=sl }/\
   Rr (.ok (.ret (.ref s.heap.objs.size))) { s with heap:=s.heap.push { cls:=.type "tuple",data:=.seq (List.foldl (λx1 x2=>x1++x2) #[] (List.replicate x.toNat items)) } }):=
 .of_wp λprog w A Rr s h=>by
  obtain⟨hp,g,d,tk,os⟩:=s;obtain⟨hl,h⟩:=h;have f1:=idx_int;have hx:0<x:=by
   cases q:decide (x<=0)with
   |true=>rw[q]at h2;exact absurd rfl h2
   |false=>exact Int.not_le.mp (of_decide_eq_false q)
  have ez:(items.size:Int) * x=((items.size * x.toNat:Nat):Int):=by rw[Int.natCast_mul,j5 (Int.le_of_lt hx)]
  have hlim:(sizeLine:Nat)<=(2 ^ 63 - 1) / 8:=by decide
  have h3 : ¬ ((items.size:Int) * x > (2 ^ 63 - 1) / 8):=by
   rw[ez];have:((sizeLine:Nat):Int)<=(2 ^ 63 - 1) / 8:=by decide
   omega
  have h4 : ¬ (Tuple.tupleTooMany ((items.size:Int) * x)=true):=by unfold Tuple.tupleTooMany;rw[ez];intro q;have:=iN q;omega
  have hfz:(List.foldl (λx1 x2=>x1++x2) #[] (List.replicate x.toNat items)).size<=sizeLine:=by have e:=jx items.toList x.toNat [];simp only[j6,Array.toArray_toList]at e;rw[e,v4,oj,nE,Zl];exact hz
  wp_walk
  refine ZZ (by rw[h1];rfl) ?_;refine z6 (aT (show IsTup hp l items from⟨_,hl,rfl,n,rfl⟩) ?_);dsimp only;rw[if_neg hc,if_neg h2,if_neg h3,if_neg h4];exact z6 (m:=Builtin.Tuple.tupleExact _) (mz (z9 ⟨_,rfl,h⟩) hfz)
end
section
noncomputable def Gr(K:PySem.W.Frag):R2:=λx y H Q=>∃l k xs,x=.ref l/\y=.int k/\SqT K H l xs/\-(2 ^ 63)<=k/\k<2 ^ 63/\xs.length * k.toNat<=sizeLine/\
 (xs=[]\/k=1->Q (.ref l) H)/\(xs≠[]->k≠1->∀p,H p=none->Q (.ref p) (upd H p (.tup (List.replicate k.toNat xs).flatten)))
theorem op_repT:OpR X (binaryOp .Mult) (Gr X.K):=by
 intro pins s σ H x y v u Q I rx ry h;obtain⟨l,k,xs,rfl,rfl,hH,h1,h2,hz,q0,q1⟩:=h;cases rx;obtain⟨t,rfl⟩:=ry;obtain⟨its,r,p,hzz⟩:=I.tuple hH;obtain⟨⟨cls,dd,data,sl⟩,ho,hc,n,hd⟩:=id p;simp only at hc hd;subst hc hd;have hlen:its.length=xs.length:=r.length.symm;have hin:(decide (k < -(2 ^ 63)) || decide (k ≥ 2 ^ 63))=false:=by rw[tH (by omega),tH (by omega)];rfl
 have emp:its.toArray.isEmpty=decide (xs=[]):=by
  cases its with
  |nil=>cases r;rfl
  |cons a b=>cases r;rfl
 refine wpAny_binaryOp_repeat_ref (T:="tuple") (U:="int") (by decide) ⟨_,ho,rfl⟩ (λs'=>i9 s' k t) mD F.fills_int_mul Zk Cn F.slot_int_index.lookup
  (lN Zk (i9 s k t) F.entry_int_rmul (F.args_int_rmul_2 _ _) (qz k t l its.toArray n dd sl) ⟨ho,rfl,⟨_,ho,rfl⟩,?_⟩);by_cases hc:(its.toArray.isEmpty || k==1)=true;·refine lN Y0 ⟨_,ho,rfl⟩ Y1 (Y2 _ _) (zx l its.toArray n dd sl k t hin hc) ⟨ho,.ref l,H,I,rfl,q0 ?_⟩;rw[emp]at hc;simpa using hc
 ·have hne:xs≠[]/\k≠1:=by rw[emp]at hc;simpa using hc
  have fin:∀its',its'=(List.replicate k.toNat its).flatten->EP X pins σ Q (.ref s.heap.objs.size) { s with heap:=s.heap.push { cls:=.type "tuple",data:=.seq its'.toArray } }:=λits' e=>by subst e;refine⟨.ref s.heap.objs.size,_,I.laid (t':=s.toks) (o:=.tup (List.replicate k.toNat xs).flatten) (λb ob q=>w8 _ q) (yo _) ?_,rfl,q1 hne.1 hne.2 _ I.fresh⟩;exact⟨by rw[oj,Zl];exact hz,_,r.rep k.toNat,dO _ _⟩
  by_cases h0:(decide (k<=0) || its.toArray.isEmpty)=true
  ·refine lN Y0 ⟨_,ho,rfl⟩ Y1 (Y2 _ _) (Au l its.toArray n dd sl k t hin hc h0) ⟨ho,?_⟩;refine fin [] ?_;have:k<=0:=by rw[emp,tH hne.1,Bool.or_false]at h0;exact iN h0
   rw[Int.toNat_of_nonpos this];rfl
  ·refine lN Y0 ⟨_,ho,rfl⟩ Y1 (Y2 _ _) (zt l its.toArray n dd sl k t hin hc h0 (by rw[v4,hlen];exact hz)) ⟨ho,?_⟩;have e:=jx its k.toNat [];simp only[j6]at e;rw[e];exact fin _ rfl
def C5(x:Str)(n:Int):(Txt.mul x n).cps.toList=(List.replicate n.toNat x.cps.toList).flatten:=by
 unfold Txt.mul;by_cases h1:n<1;·rw[if_pos h1,Int.toNat_of_nonpos (by omega)];rfl
 ·rw[if_neg h1];by_cases h2:(n==1 || x.length==0)=true
  ·rw[if_pos h2];rcases Bool.or_eq_true_iff.mp h2 with h|h
   ·have:n=1:=by simpa using h
    subst this;show _=(List.replicate 1 x.cps.toList).flatten;simp
   ·have:x.cps.toList=[]:=Yl (by rw[Str.len_list];simpa using h);rw[this];simp
  ·rw[if_neg h2];have:∀(m:Nat)(acc:Array Nat),((List.replicate m x.cps).foldl (·++·) acc).toList=acc.toList++(List.replicate m x.cps.toList).flatten:=by
    intro m;induction m with
    |zero=>intro acc;simp
    |succ m ih=>intro acc;rw[o8,l5,ih,o8,j0];simp
   simpa using this n.toNat #[]
def op_mul_str:OpR X (binaryOp .Mult) (λx y H Q=>∃(i:Str)(k:Int),x=.str i/\y=.int k/\-(2 ^ 63)<=k/\k<2 ^ 63/\i.length * k.toNat<=sizeLine/\Q (.str (Txt.mul i k)) H):=by
 intro pins s σ H x y v u Q I rx ry h;obtain⟨i,k,rfl,rfl,h1,h2,hz,q⟩:=h;obtain⟨t,rfl⟩:=rx;obtain⟨t',rfl⟩:=ry;refine SB.mul ⟨by rw[tH (by omega),tH (by omega)];rfl,λh3 h4=>?_,λh3 h4=>?_⟩ λt'' n=>⟨.str _,H,I.tok _,⟨_,rfl⟩,q⟩
 ·have hk:0<k:=by omega
  intro h5;have h6:(2 ^ 63 - 1) / k * k<=2 ^ 63 - 1:=Int.ediv_mul_le _ (by omega);have h7:(((i.length * k.toNat:Nat)):Int)=(i.length:Int) * k:=by rw[Int.natCast_mul,j5 (by omega)]
  have h8:((2 ^ 63 - 1) / k+1) * k<=(i.length:Int) * k:=Int.mul_le_mul_of_nonneg_right (by omega) (by omega);have h9:2 ^ 63 - 1<((2 ^ 63 - 1) / k+1) * k:=Int.lt_ediv_add_one_mul_self _ hk;have h10:((sizeLine:Nat):Int)<2 ^ 63 - 1:=by decide
  omega
 ·unfold Builtin.Str.tooLong;exact tH (by omega)
noncomputable def dz:D->D->Option D
 |.int i,.int j=>if (-(2 ^ 64)<i/\i<2 ^ 64)\/(-(2 ^ 64)<j/\j<2 ^ 64)then some (.int (i * j))else none
 |.str x,.int k=>if -(2 ^ 63)<=k/\k<2 ^ 63/\x.length * k.toNat<=sizeLine then some (.str (List.replicate k.toNat x).flatten)else none
 |.tup xs,.int k=>if -(2 ^ 63)<=k/\k<2 ^ 63/\xs.length * k.toNat<=sizeLine then some (.tup (List.replicate k.toNat xs).flatten)else none
 |.lst false xs,.int k=>if -(2 ^ 63)<=k/\k<2 ^ 63/\xs.length * k.toNat<=sizeLine then some (.lst false (List.replicate k.toNat xs).flatten)else none
 |_,_=>none
noncomputable def DP(K:PySem.W.Frag):R2:=λx y H Q=>rI CMul (λi j=>.int (i * j)) x y H Q\/(∃(i:Str)(k:Int),x=.str i/\y=.int k/\-(2 ^ 63)<=k/\k<2 ^ 63/\i.length * k.toNat<=sizeLine/\Q (.str (Txt.mul i k)) H)\/Gr K x y H Q\/Jl x y H Q
def BP:OpR X (binaryOp .Mult) (DP X.K):=op_mul.or (op_mul_str.or (op_repT.or Ge))
def Fw(K:PySem.W.Frag):ROk K (DP K) dz:=by
 intro G H x y dx dy d Q s rx ry e q;unfold dz at e;split at e
 ·split at e;·rename_i hc;cases e;exact .inl ⟨_,_,rx.int_inv,ry.int_inv,hc,q _ G H (.refl s) (.int _)⟩
  ·cases e
 ·split at e;·rename_i hc;cases e;obtain⟨i,rfl,ei,hi⟩:=rx.str_inv;subst ei;rw[Str.len_list]at hc;exact .inr (.inl ⟨i,_,rfl,ry.int_inv,hc.1,hc.2.1,hc.2.2,q _ G H (.refl s) (.strL (C5 i _) (by rw[oj,Str.len_list,Zl];exact hc.2.2))⟩)
  ·cases e
 ·split at e
  ·rename_i k hc;cases e;obtain⟨a,vs,rfl,ha,ra⟩:=rx.tup_inv;refine .inr (.inr (.inl ⟨a,_,vs,rfl,ry.int_inv,ha.mono s,hc.1,hc.2.1,by rw[ra.length];exact hc.2.2,λz=>?_,λ_ _ p hp=>q _ _ _ (.new s hp) (.tup (.of ba) ((ra.rep _).mono (.into (s.free hp))))⟩));rcases z with z|z
   ·subst z;cases ra;have e:(List.replicate k.toNat ([]:List D)).flatten=[]:=by simp
    rw[e]at q;exact q _ G H (.refl s) (.tup ha .nil)
   ·subst z;have e:∀l:List D,(List.replicate (1:Int).toNat l).flatten=l:=λl=>by show(List.replicate 1 l).flatten=l;simp
    rw[e]at q;exact q _ G H (.refl s) (.tup ha ra)
  ·cases e
 ·split at e;·rename_i hc;cases e;obtain⟨a,vs,rfl,ha,ra⟩:=rx.lst_inv;exact .inr (.inr (.inr ⟨a,_,vs,rfl,ry.int_inv,s _ _ ha,hc.1,hc.2.1,by rw[ra.length];exact hc.2.2,λp hp=>q _ _ _ (.new s hp) (.lst ba ((ra.rep _).mono (.into (s.free hp))))⟩))
  ·cases e
 ·cases e
def cF{a b:Expr}{ga:Ev->R D}{pos:Pos}(ha:PF X a ga)(hb:PF X b gb):PF X (.BinOp a .Mult b pos) (g2 dz ga gb):=qJ BP (Fw _) ha hb
end
end L2
namespace L2
open PySem PySem.W PySem.Spec PySem.Calls PyProof.Rows
structure ExcCls(K:Frag)(C:Addr):Prop where
 ga:findIn K (.ref C) "__getattribute__"=some (some (.builtin "BaseException.__getattribute__"))
 gt:findIn K (.ref C) "__getattr__"=some none
 cl:findIn K (.ref C) "__class__"=some (some (.builtin "object.__class__"))
 sp:specialIn K (.builtin "object.__class__") "__get__"=some (some (.builtin "getset_descriptor.__get__"))
 tk:takesIn K (.builtin "object.__class__")=some true
 mo:mroIn K C (.type "object")=some true
 be:subIn K (.ref C) (.type "BaseException")=some true
 some:(clsIn K C).isSome=true
section
variable{prog:Program}{w:World}{A:Around}{K:Frag}
section
open Builtin Builtin.ObjectAttr Builtin.Getset_descriptor
def BF{tp:Value}{Rr:Result->Shared->Prop}(X:K.In s.heap)(L0:Looks (model prog w) s.heap (typeOf (.ref a)) (.ref C))(hm:mroIn K C (.type "object")=some true)(h:Rr (.ok (.ret (.ref C))) s):
  codeAny (model prog w) A (.call (.builtin "getset_descriptor.__get__") ⟨[.builtin "object.__class__",.ref a,tp],[]⟩) Rr s:=by
 obtain⟨hh,gg,dd,tt,oo⟩:=s;have L1:=looks_mroIn (M:=model prog w) X hm;refine codeAny_call_builtin KF.slot_gs.plain KF.entry_gs
  (KF.slot_gs.check _ _ _ _ _ _ _ _ KF.type_class (KF.args_gs _ _ _) ?_);unfold Builtin.«getset_descriptor.__get__» descrGet;rw[dga_obj];refine z6 (z9 ?_);unfold descrGetter descrCheckInstance descrNameAndClass isInstance;simp only[KF.owner_class]
 repeat lk
 refine⟨Code.quiet_builtin _ (by decide +kernel),
  codeAny_builtin KF.entry_class ?_⟩;unfold Builtin.«object.__class__» shownTypeOf
 repeat lk
 exact h
end
theorem wG{Q:Option Value->Shared->Prop}(X:K.In s.heap)(T:ExcCls K C)(L0:Looks (model prog w) s.heap (typeOf (.ref a)) (.ref C))(h:Q (some (.ref C)) { s with toks:=s.toks+1 }):wpAny (model prog w) A (getAttr? (.ref a) "__class__") Q E s:=by
 obtain⟨hh,g,d,t,os⟩:=s;have L1:=looks_findIn (M:=model prog w) X T.ga;have L2:=looks_findIn (M:=model prog w) X T.gt;have L3:Looks (model prog w) hh (Builtin.ObjectAttr.find (.ref a) (.ref C) "__class__") (.bind (.builtin "getset_descriptor.__get__") (.builtin "object.__class__")):=by have M1:=looks_findIn (M:=model prog w) X T.cl;have M2:Looks (model prog w) hh (Builtin.ObjectAttr.getOf (some (.builtin "object.__class__"))) (some (.builtin "getset_descriptor.__get__")):=looks_specialIn X T.sp;have M3:=looks_takesIn (M:=model prog w) X T.tk;refine M1.andThen (M2.andThen ?_);exact(show Looks (model prog w) hh (Builtin.ObjectAttr.dataDescriptor? (some (.builtin "object.__class__")) (some (.builtin "getset_descriptor.__get__"))) (some (.builtin "getset_descriptor.__get__",.builtin "object.__class__")) from M3.andThen .now).andThen (Looks.tag .now)
 unfold getAttr? getAttrBy? getAttrBy;refine z6 (wpAny_mkText (z6 (iO (k9 (z6 (L0.at (z6 (L1.at ?_))))))));have hx2:(Value.builtin "BaseException.__getattribute__"==Value.builtin "object.__getattribute__")=false:=by decide +kernel
 dsimp only;rw[if_neg (by rw[hx2,mE];exact rK)];unfold getAttrByItsOwn hookBefore;rw[if_pos (show onTheHeap (Value.ref C)=true from rfl)];refine z6 (L2.at ?_);refine z6 (iO (k9 ?_));unfold callGetattribute;rw[if_neg (by rw[pX];exact rK)];unfold boundAndCalled;rw[F.attr_ValueError.ga.bind (.ref a)];refine z6 (z9 ?_);show wpAny _ _ (call (.builtin "BaseException.__getattribute__") [.ref a,.str "__class__" t]) _ _ _;have LB:Looks (model prog w) hh (isInstance (.ref a) (.type "BaseException")) true:=L0.andThen (looks_subIn X T.be);have hk:builtinKind "BaseException.__getattribute__"=some .slot:=by decide +kernel
 have hsp:splitId "BaseException.__getattribute__"=some ("BaseException","__getattribute__"):=by decide +kernel
 have ha:=F.args_bexc_ga (.ref a) (.str "__class__" t);refine c9 (codeAny_call_builtin F.attr_ValueError.ga.plain F.entry_bexc_ga ?_);simp only[checkBuiltinCall,hk,hsp];refine z6 (LB.at ?_);rw[if_neg (by decide)];refine j7 (a:=()) ha ?_;unfold Builtin.«object.__getattribute__»;refine z6 (z9 ?_);refine z6 (z9 ?_);refine z6 (L0.at ?_);refine z6 (L3.at ?_);show wpAny _ _ (Builtin.ObjectAttr.bindTo (.builtin "getset_descriptor.__get__") (.builtin "object.__class__") (.ref a) (.ref C)) _ _ _;unfold Builtin.ObjectAttr.bindTo;dsimp only;exact z6 (k9 (c9 (BF (s:=⟨hh,g,d,t+1,os⟩) X L0 T.mo (z9 (handed_on rfl (z9 h))))))
def zX(T:ExcCls K C):KitX K (.ref a) (.ref C) (λh=>∃ob,h.get? a=some ob/\ob.cls=.ref C) where
 ty:=λM h _ p=>by obtain⟨o,h1,h2⟩:=p;exact h2▸(Looks.ld h1).andThen .now
 it:=λM h X _=>by
  have z:=T.some;unfold clsIn at z;split at z;·rename_i c' d' cd' sl' ho;intro A' Q' E' s' k q;unfold isType loadHead;exact z6 (wpAny_loadPart (k _ _ (X _ _ ho)) (z9 q))
  ·cases z
 ne:=λh tp dd its n sl X htp=>by
  refine Bool.eq_false_iff.mpr λq=>?_;have e:C=tp:=Value.ref.inj (Z7.mp q);subst e;have z:=T.some;unfold clsIn at z;split at z;·rename_i c' d' cd' sl' ho;cases (X _ _ ho).symm.trans htp
  ·cases z
 ca:=λ{prog w A E Q s} X p k=>by obtain⟨o,h1,h2⟩:=p;exact wG X T (h2▸(Looks.ld h1).andThen .now) k
end
section
variable{A:Around}{Q:Value->Shared->Prop}
noncomputable def tyN:D->Option String
 |.non=>some "NoneType"
 |.bl _=>some "bool"
 |.int _=>some "int"
 |.str _=>some "str"
 |.tup _=>some "tuple"
 |.lst _ _=>some "list"
 |.exc _=>none
 |.dct _ _=>none
def FY{x:V}{u c:Value}{T:String}{b:Bool}(I:Inv X pins σ H s)(sub:Same G H)(r:Rep X.K G x d)(ru:RelV x u)(ht:tyN d=some T)(e:kitOne X.K (.type T) c=some b)(h:∀tk,Q (.bool b) { s with toks:=tk }):
  wpAny (model X.prog X.w) A (call (.builtin "isinstance") [u,c]) Q E s:=by
 cases r with
 |non=>cases ht;cases ru;exact kia_one kitx_none I.kIn True.intro e (λz=>nomatch z) h
 |bl y=>cases ht;cases ru;exact kia_one kitx_bool I.kIn True.intro e (λz=>nomatch z) h
 |int i=>cases ht;obtain⟨t,rfl⟩:=ru;exact kia_one kitx_int I.kIn True.intro e (λz=>nomatch z) h
 |str y hy=>cases ht;obtain⟨t,rfl⟩:=ru;exact kia_one kitx_str I.kIn True.intro e (λz=>nomatch z) h
 |tup hh t=>cases ht;cases ru;obtain⟨its,rv,⟨o,h1,h2,_⟩,_⟩:=I.tuple (hh.mono sub);exact kia_one kitx_tuple I.kIn ⟨o,h1,h2⟩ e (λz=>nomatch z) h
 |lst hh t=>cases ht;cases ru;obtain⟨its,rv,⟨o,n,h1,h2,_⟩,_⟩:=I.list ((SqL.of hh:SqL X.K G _ _).mono sub);exact kia_one kitx_list I.kIn ⟨o,h1,h2⟩ e (λz=>nomatch z) h
 |fls hh t=>cases ht;cases ru;obtain⟨its,rv,⟨o,n,h1,h2,_⟩,_⟩:=I.list (hh.mono sub);exact kia_one kitx_list I.kIn ⟨o,h1,h2⟩ e (λz=>nomatch z) h
 |exc hh=>cases ht
 |dct _ _ _=>cases ht
def yP{x:V}{u c:Value}{b:Bool}(I:Inv X pins σ H s)(sub:Same G H)(r:Rep X.K G x (.exc C))(ru:RelV x u)(T:ExcCls X.K C)(e:kitOne X.K (.ref C) c=some b)(h:∀tk,Q (.bool b) { s with toks:=tk }):
  wpAny (model X.prog X.w) A (call (.builtin "isinstance") [u,c]) Q E s:=by
 obtain⟨a,rfl,hh⟩:=r.exc_inv;cases ru;obtain⟨h1,_,_⟩:=(show ObjOk X.prog X.w H s.heap a (.ext (iS a C)) from I.hok a _ (sub _ _ hh))
 exact kia_one (zX T) I.kIn h1 e (λz=>nomatch z) h
end
section
variable{e:Expr}{ga:Ev->R D}{p2 pos:Pos}
noncomputable def fu(f:String->Bool)(d:D):R D:=match tyN d with
 |some t=>.ok (.bl (f t))
 |none=>.no
def kU{T:String}(f:String->Bool)(hf:∀K:Frag,∀t∈["NoneType","bool","int","str","tuple","list"],kitOne K (.type t) (.type T)=some (f t))(hg:Gl X "isinstance")(hm:X.mg "isinstance"=none)(hg2:Gl X y)(hm2:X.mg y=none)(hv:bootBuiltins y=some (.type T))(ha:PF X e ga)(hs1:starEach [e,.Name y p2] X.env=(false,eval e X.env)::starEach [.Name y p2] X.env:=by rfl)(hn:y≠"__name__":=by decide)(hdb:(y==("__debug__":Str))=false:=by decide):
  PF X (.Call (.Name "isinstance" p) [e,.Name y p2] [] pos) (λρ=>ga ρ>>=fu f):=by
 intro pins s σ H Q I h;have hc:gT X (.builtin "isinstance") (λxs H Q=>∃x G d,xs=[x,.ty T]/\Same G H/\Rep X.K G x d/\∃t,tyN d=some t/\Q (.bl (f t)) H):=by
  intro pins s σ H xs us Q I r ⟨x,G,d,ex,sub,rd,t,et,q⟩;subst ex;obtain⟨u,u2,rfl,r1,r2⟩:=r.two;cases r2;refine FY I sub rd r1 et (hf X.K t ?_) λtk=>⟨.bl (f t),H,I.tok tk,rfl,q⟩
  cases d <;> cases et <;> simp
 refine jH hc hg hm PyProof.Rows.Boot.«isinstance» (cE ha (cE (pG (v:=.ty T) hg2 hm2 hv rfl hn hdb) gU) hs1) (by decide) (by decide) hs1 rfl pins s σ H Q I ?_;obtain⟨G,ρ,st,h⟩:=h;refine tG.intro st h λx v G1 H1 u1 st1 r1 h1=>?_;refine⟨v,G1,x,rfl,st1.sub,r1,?_⟩;unfold fu at h1;cases et:tyN x with
 |none=>rw[et]at h1;exact h1.elim
 |some t=>rw[et]at h1;exact⟨t,rfl,h1 _ G1 H1 (.refl st1.sub) (.bl _)⟩
noncomputable def mS(f:Addr->Option Bool)(d:D):R D:=match d with
 |.exc C=>ofO ((f C).map .bl)
 |_=>.no
def wB{v2:V}{u2:Value}(f:Addr->Option Bool)(hf:∀C b,f C=some b->ExcCls X.K C/\kitOne X.K (.ref C) u2=some b)(hg:Gl X "isinstance")(hm:X.mg "isinstance"=none)(hy:PE X (.Name y p2) (tC v2))(hr:RelV v2 u2)(hr2:∀u,RelV v2 u->u=u2)(ha:PF X e ga)(hs1:starEach [e,.Name y p2] X.env=(false,eval e X.env)::starEach [.Name y p2] X.env:=by rfl):
  PF X (.Call (.Name "isinstance" p) [e,.Name y p2] [] pos) (λρ=>ga ρ>>=mS f):=by
 intro pins s σ H Q I h;have hc:gT X (.builtin "isinstance") (λxs H Q=>∃x G C b,xs=[x,v2]/\Same G H/\Rep X.K G x (.exc C)/\f C=some b/\Q (.bl b) H):=by intro pins s σ H xs us Q I r ⟨x,G,C,b,ex,sub,rd,ef,q⟩;subst ex;obtain⟨u,w,rfl,r1,r2⟩:=r.two;obtain rfl:=hr2 w r2;exact yP I sub rd r1 (hf C b ef).1 (hf C b ef).2 λtk=>⟨.bl b,H,I.tok tk,rfl,q⟩
 refine jH hc hg hm PyProof.Rows.Boot.«isinstance» (cE ha (cE hy gU) hs1) (by decide) (by decide) hs1 rfl pins s σ H Q I ?_;obtain⟨G,ρ,st,h⟩:=h;refine tG.intro st h λx v G1 H1 u1 st1 r1 h1=>?_;cases x with
 |exc C=>
  cases ef:f C with
  |none=>simp only[mS,ef]at h1;exact h1.elim
  |some b=>simp only[mS,ef]at h1;exact⟨v,G1,C,b,rfl,st1.sub,r1,ef,h1 _ G1 H1 (.refl st1.sub) (.bl b)⟩
 |_=>exact h1.elim
end
end L2
namespace L2
open PySem PySem.Spec PyProof.Rows
noncomputable def ur:List D->Option (List Bool)
 | []=>some []
 |.bl b::ds=>(ur ds).map (b::·)
 |_=>none
theorem Reps.bls{K:PySem.W.Frag}:∀{vs:List V}{ds:List D}{bs:List Bool},Reps K G vs ds->ur ds=some bs->vs=bs.map .bl
 |_,_,bs,.nil,e=>by cases e;rfl
 |_,_,bs,.cons r t,e=>by
  cases r with
  |bl b=>
   rename_i ds;unfold ur at e;cases q:ur ds with
   |none=>rw[q]at e;cases e
   |some cs=>rw[q]at e;cases e;rw[Reps.bls t q];rfl
  |_=>simp[ur]at e
theorem Vals.bls:∀{bs:List Bool}{us:List Value},Vals (bs.map V.bl) us->us=bs.map Value.bool
 | [],_,.nil=>rfl
 |b::bs,_,.cons r t=>by rw[Vals.bls t,show _=Value.bool b from r];rfl
section
variable{e o:Expr}{ga:Ev->R D}{pos:Pos}
noncomputable def JM(K:PySem.W.Frag)(f:List Bool->Bool):List V->Hp->VK->Prop:=λxs H Q=>∃p bs,xs=[.ref p]/\SqL K H p (bs.map V.bl)/\Q (.bl (f bs)) H
def wH(A:Around)(prog:Program)(w:World)(bs:List Bool):TruthOf prog w A (λi v=>(bs.map Value.bool).toArray[i]?=some v) (λi=>bs.getD i true):=by
 intro i v s Q E hP hQ;rw[Zz,v8]at hP;cases q:bs[i]? with
 |none=>rw[q]at hP;cases hP
 |some b=>
  rw[q]at hP;cases hP;have e:bs.getD i true=b:=by rw[xZ,q];rfl
  have hQ:Q (bs.getD i true) s:=hQ;rw[e]at hQ;exact k6 hQ
def wb(hc:X.calm=true):gT X (.builtin "all") (JM X.K λbs=>bs.all id):=by
 intro pins s σ H xs us Q I r ⟨p,bs,ex,hs,q⟩;subst ex;obtain⟨u,rfl,r1⟩:=r.one;cases r1;obtain⟨its,rv,pl,hz⟩:=I.list hs;obtain rfl:=rv.bls;have hh:X.A.in1.handled=none:=I.ok.hd hc;have hlt:p<s.heap.objs.size:=by obtain⟨o,n,e,_⟩:=id pl;exact xz e
 refine call_all_walk (Zp pl.isList ?_);refine⟨s.heap.objs.size,[s.heap.objs.size,p],[s.heap.objs.size],_,_,_,λi=>bs.getD i true,rfl,Walks.list hh s.heap.objs.size p (t5 hlt) (bs.map Value.bool).toArray,⟨⟨_,t8 _ rfl,rfl,rfl⟩,?_⟩,wH _ _ _ bs,λh' tk hk=>?_⟩;·obtain⟨o,n,e,c,_,d⟩:=id pl;exact⟨o,w8 _ e,c,n,d⟩
 ·have e:(List.range (bs.map Value.bool).toArray.size).all (λi=>bs.getD i true)=bs.all id:=by rw[v4,za];exact kN rfl
  rw[e];refine⟨.bl _,H,I.kept (t':=tk) λb o eb=>hk b o (λz=>?_) (w8 _ eb),rfl,q⟩;have:b=s.heap.objs.size:=by simpa using z
  exact mK _ (this▸xz eb)
noncomputable def yV:List D->Option D
 | [.lst _ ds]=>(ur ds).map λbs=>.bl (bs.all id)
 |_=>none
def EJ(hc:X.calm=true)(hg:Gl X "all")(hm:X.mg "all"=none)(ha:PFA X [e] gl)(he:starEach [e] X.env=[(false,eval e X.env)]:=by rfl):PF X (.Call (.Name "all" p) [e] [] pos) (λρ=>gl ρ>>=λds=>ofO (yV ds)):=
 gI (wb hc) (by
  intro G H xs ds d Q s r e q;unfold yV at e;split at e
  ·rename_i f ds;obtain⟨v,rfl,r1⟩:=r.one;obtain⟨a,vs,rfl,h,t⟩:=r1.seq_inv;cases eb:ur ds with
   |none=>rw[eb]at e;cases e
   |some bs=>rw[eb]at e;cases e;obtain rfl:=t.bls eb;exact⟨a,bs,rfl,h.mono s,q _ G H (.refl s) (.bl _)⟩
  ·cases e) hg hm PyProof.Rows.Boot.«all» ha (he:=by rw[he];rfl)
noncomputable def DG(K:PySem.W.Frag)(T:String)(r:V->List V->Hp->VK->Prop)(f:D->List D->Option D):Prop:=∀(G H:Hp)(x:V)(xs:List V)(dx:D)(ds:List D)(d:D)(Q:VK),Same G H->Rep K G x dx->Reps K G xs ds->f dx ds=some d->Fin G H (Rep K) Q d->r x xs H Q
noncomputable def gP(T:String):D->Bool
 |.str _=>T=="str"
 |.lst _ _=>T=="list"
 |_=>false
def mj{T id:String}{name:Str}{ap cp:Pos}{r:V->List V->Hp->VK->Prop}{f:D->List D->Option D}(pa:PlainAttrs T)(slot:PySem.Slot T name id)(hty:typeOf (.builtin id)=pure (.type "method_descriptor"))(hm:MtR X id r)(hf:DG X.K T r f)(ho:PF X o ga)(ha:PFA X (e::es) gl)(hbase:attributeBase o name X.env (eval o X.env)=eval o X.env:=by rfl)(hfew:((backTo cp (starEach (e::es) X.env)).all (λx=>!x.1) && (backToKw cp (keywordEach [] X.env)).all (λx=>x.1.isSome)
 && decide ((e::es).length+([]:List Keyword).length+(if ([]:List Keyword).isEmpty then 0 else 1)<30))=true:=by rfl)(hline:(ap.endLine==cp.line)=true:=by rfl)(hs:starEach (e::es) X.env=(false,eval e X.env)::starEach es X.env:=by rfl)(hplain:(backTo cp (starEach es X.env)).any (·.1)=false:=by rfl):
  PF X (.Call (.Attribute o name ap) (e::es) [] cp) (λρ=>ga ρ>>=λx=>if gP T x=true then gl ρ>>=λds=>ofO (f x ds)else .no):=by
 intro pins s σ H Q I h;refine BZ pa slot hty hm ho ha hbase hfew hline hs hplain pins s σ H Q I ?_;obtain⟨G,ρ,st,h⟩:=h;refine tG.intro st h λx v G1 H1 u1 st1 r1 h1=>?_;by_cases hk:gP T x=true
 ·rw[if_pos hk]at h1;have ty:tyV X.K T v H1:=by
   cases r1 with
   |str y hy=>exact show T="str" by simpa[gP]using hk
   |lst hh t=>exact .inl ⟨by simpa[gP]using hk,_,.of (st1.sub _ _ hh)⟩
   |fls hh t=>exact .inl ⟨by simpa[gP]using hk,_,hh.mono st1.sub⟩
   |_=>cases hk
  refine⟨ty,tG.intro st1 h1 λds vs G2 H2 u2 st2 r2 h2=>?_⟩;obtain⟨d,e',q⟩:=ofO.ok h2;exact hf G2 H2 v vs x ds d Q st2.sub (r1.mono u2.gg) r2 e' q
 ·rw[if_neg hk]at h1;exact h1.elim
def Bb{A:Around}{bs:List Bool}(k:Bool):∀y,y∈(bs.map Value.bool).toArray->SeqAt.EqAt A s y (.bool k) (y==.bool k):=λy hy=>by
 obtain⟨b,_,rfl⟩:=v7.mp (Y3.mp hy);have:=SeqAt.EqAt.bool_bool (A:=A) (s:=s) b k;have e:(Value.bool b==Value.bool k)=(b==k):=by cases b <;> cases k <;> rfl
 rw[e];exact this
noncomputable def AS(K:PySem.W.Frag):V->List V->Hp->VK->Prop:=λx vs H Q=>∃(l:Addr)(bs:List Bool)(k:Bool),x=.ref l/\vs=[.bl k]/\SqL K H l (bs.map V.bl)/\Q (.int (bs.count k:Nat)) H
def xq(bs:List Bool)(k:Bool):(bs.map Value.bool).countP (·==.bool k)=bs.count k:=by
 rw[List.countP_map];unfold List.count
 congr 1
 funext b
 cases b <;> cases k <;> rfl
theorem Ad:MtR X "list.count" (AS X.K):=by intro pins s σ H x xs v us Q I rx rv ⟨l,bs,k,ex,exs,hs,q⟩;subst ex exs;cases rx;obtain⟨u,rfl,r1⟩:=rv.one;cases r1;obtain⟨its,rv',⟨⟨cls,dd,data,sl⟩,n,eo,c,_,d⟩,hz⟩:=I.list hs;obtain rfl:=rv'.bls;simp only at c d;subst c d;refine lN F.slot_list_count ⟨_,eo,rfl⟩ F.entry_list_count (F.args_list_count_2 _ _) (SeqAt.list_countAt l (bs.map Value.bool).toArray n dd sl (.bool k) (·==.bool k)) ⟨eo,Bb k,?_⟩;rw[List.toList_toArray,xq];exact⟨.int _,H,I.tok _,⟨_,rfl⟩,q⟩
noncomputable def kM:D->List D->Option D
 |.lst _ ds,[.bl k]=>(ur ds).map λbs=>.int (bs.count k:Nat)
 |_,_=>none
def ze(K:PySem.W.Frag):DG K "list" (AS K) kM:=by
 intro G H x xs dx ds d Q s rx rs e q;unfold kM at e;split at e
 ·rename_i f ds k;obtain⟨v,rfl,r1⟩:=rs.one;obtain rfl:=r1.bl_inv;obtain⟨a,vs,rfl,h,t⟩:=rx.seq_inv;cases eb:ur ds with
  |none=>rw[eb]at e;cases e
  |some bs=>rw[eb]at e;cases e;obtain rfl:=t.bls eb;exact⟨a,bs,k,rfl,rfl,h.mono s,q _ G H (.refl s) (.int _)⟩
 ·cases e
noncomputable def Bw(K:PySem.W.Frag):V->List V->Hp->VK->Prop:=λx vs H Q=>∃(l:Addr)(bs:List Bool)(k:Bool),x=.ref l/\vs=[.bl k]/\SqL K H l (bs.map V.bl)/\k∈bs/\Q (.int (bs.idxOf k:Nat)) H
theorem nB(k:Bool):∀(bs:List Bool)(m:Nat),m<bs.idxOf k->bs[m]?≠some k
 | [],m,h=>by simp
 |b::bs,m,h=>by
  rw[List.idxOf_cons]at h;cases hb:(b==k)with
  |true=>rw[hb]at h;exact absurd h (Nat.not_lt_zero _)
  |false=>
   rw[hb]at h;cases m with
   |zero=>intro e;have e1:=uV e;rw[e1,ZA]at hb;cases hb
   |succ m=>rw[Z8];exact nB k bs m (Nat.lt_of_succ_lt_succ h)
theorem Ar:MtR X "list.index" (Bw X.K):=by
 intro pins s σ H x xs v us Q I rx rv ⟨l,bs,k,ex,exs,hs,hk,q⟩;subst ex exs;cases rx;obtain⟨u,rfl,r1⟩:=rv.one;cases r1;obtain⟨its,rv',⟨⟨cls,dd,data,sl⟩,n,eo,c,_,d⟩,hz⟩:=I.list hs;obtain rfl:=rv'.bls;simp only at c d;subst c d;have hlt:bs.idxOf k<bs.length:=List.idxOf_lt_length_iff.mpr hk;have hsz:bs.length<=sizeLine:=by simpa using hz
 have h63:=kq;have tob:∀a b:Bool,(Value.bool a==Value.bool b)=(a==b):=λa b=>by cases a <;> cases b <;> rfl
 refine lN F.slot_list_index ⟨_,eo,rfl⟩ F.entry_list_index (F.args_list_index_2 _ _) (SeqAt.list_indexAt l (bs.map Value.bool).toArray n dd sl (.bool k) (·==.bool k) (bs.idxOf k) (by simpa using hlt) (by omega) ?_ ?_) ⟨eo,Bb k,?_⟩;·simp only[ZV,Y4,tob];exact Z7.mpr (List.getElem_idxOf hlt)
 ·intro m hm hlt';simp only[ZV,Y4,tob];have hm':m<bs.length:=by simpa using hm
  cases hq:(bs[m]==k)with
  |false=>rfl
  |true=>exact absurd (by rw[xw hm',Z7.mp hq]) (nB k bs m hlt')
 ·exact⟨.int _,H,I.tok _,⟨_,rfl⟩,q⟩
noncomputable def kP:D->List D->Option D
 |.lst _ ds,[.bl k]=>(ur ds).bind λbs=>if k∈bs then some (.int (bs.idxOf k:Nat))else none
 |_,_=>none
def Ao(K:PySem.W.Frag):DG K "list" (Bw K) kP:=by
 intro G H x xs dx ds d Q s rx rs e q;unfold kP at e;split at e
 ·rename_i f ds k;obtain⟨v,rfl,r1⟩:=rs.one;obtain rfl:=r1.bl_inv;obtain⟨a,vs,rfl,h,t⟩:=rx.seq_inv;cases eb:ur ds with
  |none=>rw[eb]at e;cases e
  |some bs=>
   rw[eb,Y5]at e;split at e;·rename_i hk;cases e;obtain rfl:=t.bls eb;exact⟨a,bs,k,rfl,rfl,h.mono s,hk,q _ G H (.refl s) (.int _)⟩
   ·cases e
 ·cases e
def zw{ap cp:Pos}(ho:PF X o ga)(ha:PFA X [e] gl)(hbase:attributeBase o "count" X.env (eval o X.env)=eval o X.env:=by rfl)(hfew:((backTo cp (starEach [e] X.env)).all (λx=>!x.1) && (backToKw cp (keywordEach [] X.env)).all (λx=>x.1.isSome)
 && decide ([e].length+([]:List Keyword).length+(if ([]:List Keyword).isEmpty then 0 else 1)<30))=true:=by rfl)(hline:(ap.endLine==cp.line)=true:=by rfl)(hs:starEach [e] X.env=(false,eval e X.env)::starEach [] X.env:=by rfl):
  PF X (.Call (.Attribute o "count" ap) [e] [] cp) (λρ=>ga ρ>>=λx=>if gP "list" x=true then gl ρ>>=λds=>ofO (kM x ds)else .no):=
 mj Zy PySem.F.slot_list_count PySem.F.type_list_count Ad (ze _) ho ha hbase hfew hline hs rfl
def AD{ap cp:Pos}(ho:PF X o ga)(ha:PFA X [e] gl)(hbase:attributeBase o "index" X.env (eval o X.env)=eval o X.env:=by rfl)(hfew:((backTo cp (starEach [e] X.env)).all (λx=>!x.1) && (backToKw cp (keywordEach [] X.env)).all (λx=>x.1.isSome)
 && decide ([e].length+([]:List Keyword).length+(if ([]:List Keyword).isEmpty then 0 else 1)<30))=true:=by rfl)(hline:(ap.endLine==cp.line)=true:=by rfl)(hs:starEach [e] X.env=(false,eval e X.env)::starEach [] X.env:=by rfl):
  PF X (.Call (.Attribute o "index" ap) [e] [] cp) (λρ=>ga ρ>>=λx=>if gP "list" x=true then gl ρ>>=λds=>ofO (kP x ds)else .no):=
 mj Zy PySem.F.slot_list_index PySem.F.type_list_index Ar (Ao _) ho ha hbase hfew hline hs rfl
end
noncomputable def nW:List Nat->List D->Ev->R Ev
 | [],[],ρ=>.ok ρ
 |i::is,d::ds,ρ=>nW is ds (ρ.set i (some (.val d)))
 |_,_,_=>.no
theorem nh:∀(is:List Nat)(ds:List D)(ρ:Ev)(C:Addr),nW is ds ρ≠.ex C
 | [],[],_,_=>by intro z;cases z
 | [],_::_,_,_=>by intro z;cases z
 |_::_,[],_,_=>by intro z;cases z
 |i::is,d::ds,ρ,C=>nh is ds _ C
section
variable{e:Expr}{ga:Ev->R D}{pos:Pos}
noncomputable def GH(X:Cx)(es:List Expr)(is:List Nat):Prop:=PGs X es (λvs σ H Q=>∃G₀ H₀ G ρ ds ρ',StR X.K G₀ H₀ G H σ ρ/\Reps X.K G vs ds/\nW is ds ρ=.ok ρ'/\∀σ',StR X.K G₀ H₀ G H σ' ρ'->Q σ' H)
def ju:GH X [] []:=by
 intro pins s σ H vs us Q I r h;obtain⟨G₀,H₀,G,ρ,ds,ρ',sr,rd,e,q⟩:=h;refine Cl pins s σ H vs us Q I r ?_;cases rd with
 |nil=>cases e;exact⟨rfl,q σ sr⟩
 |cons _ _=>cases e
def cL(i:Nat)(hN:X.N.Nodup)(h2:GH X es is)(hi:X.N[i]?=some x:=by rfl)(hx:Loc X.env.scope x:=by first|exact Or.inl rfl|exact Or.inr rfl)(hs:(assignEach (.Name x p::es) X.env).map (·.2)=assign (.Name x p) X.env::(assignEach es X.env).map (·.2):=by rfl)(hf:X.fn x=true\/X.env.scope.names.lookup x=some .local:=by first|exact .inl rfl|exact .inr rfl):
  GH X (.Name x p::es) (i::is):=by
 intro pins s σ H vs us Q I r h;obtain⟨G₀,H₀,G,ρ,ds,ρ',sr,rd,e,q⟩:=h;refine zS (sY (i:=i) hN hi hx hf) h2 hs pins s σ H vs us Q I r ?_;cases rd with
 |nil=>cases e
 |cons r1 t1=>exact⟨_,_,rfl,G₀,H₀,G,_,_,ρ',sr.set r1 i,t1,e,q⟩
noncomputable def qH(is:List Nat)(d:D)(ρ:Ev):R Ev:=match d with
 |.tup ds=>nW is ds ρ
 |_=>.no
theorem qb:∀(is:List Nat)(ds:List D)(ρ ρ':Ev),nW is ds ρ=.ok ρ'->ds.length=is.length
 | [],[],_,_,_=>rfl
 | [],_::_,_,_,e=>by cases e
 |_::_,[],_,_,e=>by cases e
 |i::is,d::ds,ρ,ρ',e=>by simp[qb is ds _ ρ' e]
def lK(hc:X.calm=true)(h:GH X es is)(hn:(assignEach es X.env).length=is.length:=by rfl)(hst:(assignEach es X.env).findIdx? (·.1)=none:=by rfl):PGF X (.Tuple es k pos) (qH is):=by
 intro pins s σ H v u Q I r q;obtain⟨G₀,H₀,G,ρ,d,ρ',sr,rd,e,q⟩:=q;refine Gp hc h hn hst pins s σ H v u Q I r ?_;cases rd with
 |tup hh t=>rename_i ds;exact⟨_,_,rfl,hh.mono sr.e.sub,by rw[t.length];exact qb is ds ρ ρ' e,G₀,H₀,G,ρ,ds,ρ',sr,t,e,q⟩
 |_=>cases e
def wn(is:List Nat):∀(d:D)(ρ:Ev)(C:Addr),qH is d ρ≠.ex C:=λd ρ C=>by
 cases d with
 |tup ds=>exact nh is ds ρ C
 |_=>intro z;cases z
def vp{np cp:Pos}{bm:List Value}{B newId initId:String}(Oc:OwnCls x C bm newId X.mg X.base)(FB:ExcBaseFacts B newId initId bm)(hh:X.A.handled=none)(hg:Gl X x)(ha:PFA X [e] gl)(hdb:(x==("__debug__":Str))=false:=by decide)(hs:starEach [e] X.env=(false,eval e X.env)::starEach [] X.env:=by rfl)(hz:∀ρ ds,gl ρ=.ok ds->ds.length<=1:=by intro _ _ z;first|(cases z;decide)|skip):
  PSF X (.Raise (some (.Call (.Name x np) [e] [] cp)) none pos) (λρ=>(gl ρ).out ρ λ_=>.ex C ρ):=λG₀ H₀ pins s σ H D I h=>by
 obtain⟨G,ρ,sr,h⟩:=h;dsimp only at h;obtain⟨tl,N,nm,qn,bs,hdct,sn,sub,ab,col,dd,k0,k1,k2,k3,k5,mN,hC,hN,hni,T⟩:=Oc.obj;refine wpAny_Raise_call_subT (C:=C) (nm:=nm) (q:=qn) (N:=N) (bs:=bs) (bm:=tl) (hdct:=hdct) (sn:=sn) (sub:=sub) (ab:=ab) (col:=col) (dd:=dd) (k0:=k0) (k1:=k1) (k2:=k2) (k3:=k3) (k5:=k5)
  FB (mN:=mN) (T.hasType FB.hasBase) hh (by rw[hs];rfl) hni (oM I hg Oc.bound ⟨rfl,?_⟩ hdb);have t:tAF X gl σ H (λvs H1=>vs.length<=sizeLine/\∃G1,Up G H G1 H1/\pV X G₀ H₀ D (.ex C ρ)):=by
  refine⟨G,ρ,sr.e,?_⟩;cases q:gl ρ with
  |ok ds=>rw[q]at h;intro vs G1 H1 u r;exact⟨by rw[r.length];exact w9 (hz ρ ds q) (by decide),G1,u,h⟩
  |ex C'=>rw[q]at h;exact Exx.of sr h
  |no=>rw[q]at h;exact h
 have hA:=ha cp pins s σ H _ I t;rw[hs]at hA⊢;refine Calls.evalArgs_plain (t7 hA (λvs s₂ q=>?_) λ_ _ y=>y);obtain⟨vs',H1,I1,r,hz,G1,u,h⟩:=q;exact⟨rfl,by show vs.length<=sizeLine;rw[<- r.length];exact hz,I1.bk _ _ hC,hN.keeps I1.bk,T.keeps I1.bk,λh' a made=>h _ _ (.of (sr.ups u) ⟨pins,s₂,a,rfl,I1,.inl ⟨h',vs,made,rfl⟩⟩)⟩
end
section
def Inv.unset{u:Option Value}(I:Inv X pins σ H s)(hN:X.N.Nodup)(hi:X.N[i]?=some x)(hm:∀(j:Nat)(y:Str)(v:V),X.N[j]?=some y->σ[j]?=some (some v)->Vis X.env.scope y->∃u,RelV v u/\Jr X.env s.heap m y u)(hn:h'.Ns X.env.locals (λy=>if y=x then u else m y))(sb:Heap.SameBut X.env.locals s.heap h'):
  Inv X pins (σ.set i none) H { s with heap:=h' }:=by
 have kp:∀b o,b≠X.env.locals->s.heap.get? b=some o->h'.get? b=some o:=λb o hb e=>(sb.2 b hb).trans e;refine⟨I.ok,I.os,I.bare,I.base.sameBut kp I.ok.above,⟨_,hn,λj y v h1 h2 h3=>?_⟩,λy c e=>?_,I.free,I.freeC,λp hp=>?_,I.hok.sameBut kp I.free,by simp[I.len]⟩
 ·have hj:i≠j:=λz=>by subst z;rw[Z5]at h2;simp only[t9]at h2;split at h2 <;> cases h2
  rw[mO hj]at h2;have hy:y≠x:=λz=>hj (oU hN hi (z▸h1));obtain⟨w,rw',lk⟩:=hm j y v h1 h2 h3;refine⟨w,rw',?_⟩;rcases lk with⟨k,e⟩|⟨k,c,hc,cell⟩;·exact .inl ⟨k,by show(if y=x then u else m y)=some w;rw[if_neg hy];exact e⟩
  ·exact .inr ⟨k,c,hc,cell.sameBut sb (I.cne y c hc)⟩
 ·obtain⟨v,q⟩:=I.cell y c e;exact⟨v,q.sameBut sb (I.cne y c e)⟩
 ·obtain⟨p1,p2,p3,p4,p5⟩:=I.pin p hp;exact⟨kp _ _ p3 p1,p2,p3,p4,p5⟩
def Inv.cx{A':Around}{calm':Bool}{pn' pins':List (Addr×Obj)}{xe':Value->Shared->Prop}(I:Inv X pins σ H s)(hp:∀p∈pn'++pins',p∈X.pn++pins)(hA:A'.frames=X.A.frames)(hd:calm'=true->A'.handled=none):
  Inv { X with A:=A',calm:=calm',pn:=pn',xe:=xe' } pins' σ H s:=
 ⟨⟨I.ok.mod,I.ok.kind,I.ok.glob,I.ok.blt,I.ok.above,I.ok.inj,I.ok.has,I.ok.cab,hd,hA.trans I.ok.frames,I.ok.stk,I.ok.exf,I.ok.bs,I.ok.bsz,I.ok.noex,I.ok.exfs,I.ok.funs,I.ok.frf,I.ok.tabs⟩,
  I.os,I.bare,I.base,I.loc,I.cell,I.free,I.freeC,λp q=>I.pin p (hp p q),I.hok,I.len⟩
end
noncomputable def DF(gb gs:Ev->O)(f:Addr->Option Bool)(i:Nat):Ev->O:=λρ=>match gb ρ with
 |.ex C ρ'=>(match f C with
  |some true=>(match gs (ρ'.set i (some (.val (.exc C))))with
   |.nx ρ''=>.nx (ρ''.set i none)
   |.rt d=>.rt d
   |_=>.no)
  |_=>.no)
 |o=>o
section
variable{suite:List Stmt}{b₀:Stmt}{gb gs:Ev->O}{pos hp tp:Pos}{tn nm:Str}{Ct:Addr}
noncomputable abbrev mV(X:Cx)(pn:List (Addr×Obj))(xe:Value->Shared->Prop):Cx:={ X with A:=X.A,calm:=X.calm,pn:=pn,xe:=xe }
noncomputable abbrev kS(X:Cx)(a:Addr)(xe:Value->Shared->Prop):Cx:={ X with A:=X.A.mark (some (.ref a)),calm:=false,pn:=X.pn,xe:=xe }
def yO(pr:St->Prop)(i:Nat)(f:Addr->Option Bool)(hN:X.N.Nodup)(hcalm:X.calm=true)(hst:X.stack=X.env::X.outer)(hfr:X.env.frame=some X.env.locals)(hkd:X.env.scope.kind=.function)(G₀ H₀:Hp)(hb:∀pn xe,PSs (mV X pn xe) body λD σ H=>pr σ/\tS (mV X pn xe) G₀ H₀ gb D σ H)(hh:∀a xe,kh (kS X a xe) (b₀::suite) gs)(hf:∀C,f C=some true->PySem.W.exmOne X.K (.ref C) (.ref Ct)=some true)(hg:Gl X tn)(hm:X.mg tn=some (.ref Ct))(hi:X.N[i]?=some nm)(hx:X.env.scope.names.lookup nm=some .local)(hdb:(tn==("__debug__":Str))=false:=by decide):
  PS X (.Try body [.ExceptHandler (some (.Name tn tp)) (some nm) (b₀::suite) hp] [] [] pos) λD σ H=>pr σ/\tS X G₀ H₀ (DF gb gs f i) D σ H:=λpins s σ H D I h=>by
 obtain⟨hpr,G,ρ,sr,h⟩:=h;refine wpAny_Try_except ?_;have fs:frs X.stack=X.env.locals::frs X.outer:=by rw[hst];exact uA hfr
 have I1:∀xe,Inv (mV X (X.pn++pins) xe) [] σ H s:=λxe=>I.cx (λp q=>by simpa using q) rfl I.ok.hd;have back:∀{xe:Value->Shared->Prop}{pins':List (Addr×Obj)}{σ':St}{H':Hp}{s':Shared},Inv (mV X (X.pn++pins) xe) pins' σ' H' s'->Inv X pins σ' H' s':=λJ=>(J.cx (pn':=X.pn) (pins':=pins) (xe':=X.xe) (λp q=>Zf _ q) rfl J.ok.hd:Inv { (mV X (X.pn++pins) _)with A:=X.A,calm:=X.calm,pn:=X.pn,xe:=X.xe } pins _ _ _)
 refine t7 (hb (X.pn++pins) (λe s₁=>wpAny (model X.prog X.w) X.A (noteFrame e X.env) (λ_ s₂=>wpAny (model X.prog X.w) X.A (setFlight e none) (λ_ s₃=>wpAny (model X.prog X.w) X.A (handleBy e X.env [.ExceptHandler (some (.Name tn tp)) (some nm) (b₀::suite) hp]) (SP X pins D) X.xe s₃) X.xe s₂) X.xe s₁) [] s σ H D (I1 _) ⟨hpr,G,ρ,sr,?_⟩) (λfl s₁ q=>?_) λe s₁ q=>q
 case refine_2=>
  cases fl with
  |next=>obtain⟨σ',H',J,q⟩:=q;exact Zg ⟨σ',H',back J,q⟩
  |brk=>obtain⟨σ',H',J,q⟩:=q;exact⟨σ',H',back J,q⟩
  |cont=>obtain⟨σ',H',J,q⟩:=q;exact⟨σ',H',back J,q⟩
  |ret u=>obtain⟨v,σ',H',J,r,q⟩:=q;exact⟨v,σ',H',back J,r,q⟩
 unfold DF at h;cases q:gb ρ with
 |nx ρ'=>rw[q]at h;exact h
 |rt d=>rw[q]at h;exact h
 |re d ρ'=>rw[q]at h;exact h
 |bk ρ'=>rw[q]at h;exact h
 |ct ρ'=>rw[q]at h;exact h
 |no=>rw[q]at h;exact h.elim
 |ex C ρ'=>
  rw[q]at h;dsimp only at h;cases qf:f C with
  |none=>rw[qf]at h;exact h.elim
  |some b=>
   cases b with
   |false=>rw[qf]at h;exact h.elim
   |true=>
    rw[qf]at h;dsimp only at h;have way8:(∃ρ'',gs (ρ'.set i (some (.val (.exc C))))=.nx ρ'')\/∃d,gs (ρ'.set i (some (.val (.exc C))))=.rt d:=by cases qs:gs (ρ'.set i (some (.val (.exc C)))) <;> rw[qs]at h <;> first|exact .inl ⟨_,rfl⟩|exact .inr ⟨_,rfl⟩|exact h.elim
    ·intro e s' fl;obtain⟨σ',H₁,pins₁,s₁,a,rfl,J0,way⟩:=fl;have J₁:Inv X pins σ' H₁ s₁:=back J0;have cont:∀{ch:List Addr}{H' G':Hp}{s':Shared}{B:Heap}{a0:Value}{h₄:Heap},(∀b∈ch,Iy X pins b)->s'.os=s₁.os->AllBare s'.gens->Un (frs X.stack) ch H₁ H' s₁.heap s'.heap->HOk X.prog X.w H' s'.heap->H' a=none->s₁.heap.get? a=none->StR X.K G₀ H₀ G' H' σ' ρ'->
       (∀b o,b∉frs X.stack->((∃o0,s₁.heap.get? b=some o0)\/∃u,H' b=some u)->s'.heap.get? b=some o->B.get? b=some o)->Heap.HeldW B (X.env::X.outer) a (.ref C) a0 X.env.locals h₄->s'.heap.UpToSlots h₄->
       wpAny (model X.prog X.w) X.A (setFlight (.ref a) none) (λ_ s₃=>wpAny (model X.prog X.w) X.A (handleBy (.ref a) X.env [.ExceptHandler (some (.Name tn tp)) (some nm) (b₀::suite) hp]) (SP X pins D) X.xe s₃) X.xe { s' with heap:=h₄ }:=by
      intro ch H' G' s' B a0 h₄ hch os bare un hok ha hnew up hk held sm;have J':Inv X pins σ' H' s':=J₁.call' (ch:=ch) os un hok bare hch;have dat:∀b∈frs X.stack,∀o,s'.heap.get? b=some o->∀vs,o.data≠.fields vs:=λb hb o e=>by obtain⟨o',e',d',_⟩:=FunFrames.data J'.stack b hb;rw[e]at e';cases e';exact d'
      have at_:∀{h5:Heap},B.StaysIn h5->s'.heap.UpToSlots h5->Un (frs X.stack) ch H₁ H' s₁.heap h5/\HOk X.prog X.w H' h5:=λ{h5} hb5 sm5=>⟨un.flight hb5 sm5 hk (λb o e=>⟨o,e⟩) (λb hb=>.inl hb) dat,hok.flight hb5 hk J'.stkFree⟩
      refine wpAny_landsW held λh₅ fl₅ sm₅=>?_;obtain⟨un₅,hok₅⟩:=at_ fl₅.1 (sm.trans sm₅);have J₅:Inv X pins σ' H' { s' with heap:=h₅ }:=J₁.call' (s':={ s' with heap:=h₅ }) (ch:=ch) os un₅ hok₅ bare hch;have S₅:Inv (kS X a λ_ _=>False) pins σ' H' { s' with heap:=h₅ }:=J₅.cx (λp q=>q) rfl (λz=>by cases z);obtain⟨ob,hob,hobc⟩:=fl₅.there;refine wpAny_handleBy_cons (codeAny_handlers_test (oM S₅ hg hm ?_ hdb)) (by intro z;cases z);refine(PySem.W.exm_one (M:=model X.prog X.w) S₅.kIn (hobc▸(PySem.W.Looks.ld hob).andThen .now) (hf C qf)).here ?_;show codeAny _ _ _ _ _;refine codeAny_handlers_suite_as ?_;refine lands_againW fl₅ λh₆ fl₆ sm₆=>?_;obtain⟨un₆,hok₆⟩:=at_ fl₆.1 ((sm.trans sm₅).trans sm₆);obtain⟨ob6,hob6,hobc6⟩:=fl₆.there;have hokA:HOk X.prog X.w (upd H' a (.ext (iS a C))) h₆:=λb o e=>by
       by_cases eb:b=a;·subst eb;rw[ba]at e;cases e;exact⟨⟨ob6,hob6,hobc6⟩,⟨ob6,hob6⟩,λh1 h2 ⟨ob,e1,e2⟩ k=>⟨ob,k _ e1,e2⟩⟩
       ·rw[aQ eb]at e;refine(hok₆ b o e).stay (λ_ _ _ z=>z) (λc z=>?_) (λc xs z=>?_) (λc ob u z=>?_)
        case refine_3=>rw[aQ (aL z ha)];exact z
        ·rw[aQ (aL z ha)];exact z
        ·rw[aQ (aL z ha)];exact z
      have unA:Un (frs X.stack) ch H₁ (upd H' a (.ext (iS a C))) s₁.heap h₆:=by
       refine⟨un₆.keep,un₆.slot,λb o e n x=>?_,un₆.there,λb xs z=>?_,λb o u z=>?_,λb ps z=>?_⟩;·rw[aQ (λz=>by rw[z,hnew]at e;cases e)];exact un₆.free b o e n x
       ·have:=un₆.tups b xs z;rw[aQ (aL this ha)];exact this
       ·have:=un₆.frzs b o u z;rw[aQ (aL this ha)];exact this
       ·obtain⟨more,this⟩:=un₆.tbls b ps z;exact⟨more,by rw[aQ (aL this ha)];exact this⟩
      have J₆:Inv X pins σ' (upd H' a (.ext (iS a C))) { s' with heap:=h₆ }:=J₁.call' (s':={ s' with heap:=h₆ }) (ch:=ch) os unA hokA bare hch;have upA:Up G' H' (upd G' a (.ext (iS a C))) (upd H' a (.ext (iS a C))):=.new up.e.sub ha;have S₆:Inv (kS X a λ_ _=>False) pins σ' (upd H' a (.ext (iS a C))) { s' with heap:=h₆ }:=J₆.cx (λp q=>q) rfl (λz=>by cases z);refine nV (X:=kS X a λ_ _=>False) S₆ hN hi (.inl hx) (v:=.ref a) rfl (λs₇ S₇=>?_) (.inr hx);have sr7:=(up.ups upA).set (.exc ba:Rep X.K (upd G' a (.ext (iS a C))) (.ref a) (.exc C)) i;refine t7 (hh a (λ_ _=>False) G₀ H₀ pins s₇ _ _ { nx:=λσ₈ H₈=>∃ρ'' G₈,gs (ρ'.set i (some (.val (.exc C))))=.nx ρ''/\StR X.K G₀ H₀ G₈ H₈ σ₈ ρ'',rt:=λv H₈=>∃d G₈,gs (ρ'.set i (some (.val (.exc C))))=.rt d/\Up G₀ H₀ G₈ H₈/\Rep X.K G₈ v d } S₇ ⟨_,_,sr7,by
       rcases way8 with⟨ρ'',qs⟩|⟨d,qs⟩;·rw[qs];exact λσ₈ G₈ H₈ sr8=>⟨ρ'',G₈,rfl,sr8⟩
       ·rw[qs];exact λv G₈ H₈ u8 rp8=>⟨d,G₈,rfl,u8,rp8⟩⟩) (λfl s₈ q8=>?_) λ_ _ z=>z.elim;cases fl with
      |next=>
       obtain⟨σ₈,H₈,S₈,ρ'',G₈,qs,sr8⟩:=q8;rw[qs]at h;have J₈:Inv X pins σ₈ H₈ s₈:=(S₈.cx (pn':=X.pn) (pins':=pins) (A':=X.A) (calm':=X.calm) (xe':=X.xe) (λp q=>q) rfl I.ok.hd:Inv { (kS X a λ_ _=>False)with A:=X.A,calm:=X.calm,pn:=X.pn,xe:=X.xe } pins _ _ _)
       refine z6 (wpAny_bindName (gZ J₈ hN hi (.inl hx) (v:=.non) rfl (λs₉ J₉ _=>?_) (.inr hx)));obtain⟨m9,hn9,hl9⟩:=id J₉.loc;have hlt:i<σ₈.length:=by rw[J₈.len];exact(sT.mp hi).1
       obtain⟨u9,r9,lk9⟩:=hl9 i nm .non hi (by rw[n8 hlt]) (.inl hx);have hv9:m9 nm=some u9:=by
        rcases lk9 with⟨_,e⟩|⟨k,_⟩;·exact e
        ·have k':X.env.scope.names.lookup nm=some .cell\/X.env.scope.names.lookup nm=some .free:=k;rw[hx]at k';rcases k' with k'|k' <;> cases k'
       refine b6 (wpAny_unbindName_local hx hn9 hv9 (by rw[hkd];rfl) λh10 u10 hn10 sb10=>?_);have J10:=J₉.unset hN hi hl9 hn10 sb10;refine⟨_,_,J10,?_⟩;have e10:(σ₈.set i (some V.non)).set i none=σ₈.set i none:=by rw[List.set_set]
       rw[e10];refine h _ G₈ _ ?_;have get:∀(j:Nat) x,(ρ''.set i none)[j]?=some (some x)->j≠i/\ρ''[j]?=some (some x)/\(σ₈.set i none)[j]?=σ₈[j]?:=λj x e=>by
        by_cases ej:i=j;·subst ej;rw[Z5]at e;simp only[t9]at e;split at e <;> cases e
        ·rw[mO ej]at e;exact⟨λz=>ej z.symm,e,mO ej⟩
       have ob:ObSt X.K H₀ G₈ H₈ (σ₈.set i none) (ρ''.set i none):=by
        obtain⟨ow,o1,o2⟩:=sr8.ob;refine⟨ow,λj ds l e1 e2=>?_,λj m C p fs e1=>?_⟩;·obtain⟨_,f1,f2⟩:=get j _ e1;exact o1 j ds l f1 (f2▸e2)
        ·obtain⟨_,f1,f2⟩:=get j _ e1;rw[f2];exact o2 j m C p fs f1
       refine⟨⟨sr8.e.sub,by simp[sr8.e.len],λj d e=>?_,ob.rd⟩,sr8.sub0,sr8.up,λj ds e=>?_,λj k ds es l e1 e2 e3 e4=>?_,ob⟩;·obtain⟨_,e1,e2⟩:=get j _ e;rw[e2];exact sr8.e.val j d e1
       ·obtain⟨_,e1,e2⟩:=get j _ e;rw[e2];exact sr8.own j ds e1
       ·obtain⟨_,f1,f2⟩:=get j _ e1;obtain⟨_,f3,f4⟩:=get k _ e2;exact sr8.inj j k ds es l f1 f3 (f2▸e3) (f4▸e4)
      |brk=>obtain⟨_,_,_,z⟩:=q8;exact z.elim
      |cont=>obtain⟨_,_,_,z⟩:=q8;exact z.elim
      |ret u=>
       obtain⟨v,σ₈,H₈,S₈,r8,d,G₈,qs,u8,rp8⟩:=q8;rw[qs]at h;have J₈:Inv X pins σ₈ H₈ s₈:=(S₈.cx (pn':=X.pn) (pins':=pins) (A':=X.A) (calm':=X.calm) (xe':=X.xe) (λp q=>q) rfl I.ok.hd:Inv { (kS X a λ_ _=>False)with A:=X.A,calm:=X.calm,pn:=X.pn,xe:=X.xe } pins _ _ _)
       refine z6 (wpAny_bindName (gZ J₈ hN hi (.inl hx) (v:=.non) rfl (λs₉ J₉ _=>?_) (.inr hx)));obtain⟨m9,hn9,hl9⟩:=id J₉.loc;have hlt:i<σ₈.length:=by rw[J₈.len];exact(sT.mp hi).1
       obtain⟨u9,r9,lk9⟩:=hl9 i nm .non hi (by rw[n8 hlt]) (.inl hx);have hv9:m9 nm=some u9:=by
        rcases lk9 with⟨_,e⟩|⟨k,_⟩;·exact e
        ·have k':X.env.scope.names.lookup nm=some .cell\/X.env.scope.names.lookup nm=some .free:=k;rw[hx]at k';rcases k' with k'|k' <;> cases k'
       refine b6 (wpAny_unbindName_local hx hn9 hv9 (by rw[hkd];rfl) λh10 u10 hn10 sb10=>?_);have J10:=J₉.unset hN hi hl9 hn10 sb10;exact⟨v,_,_,J10,r8,h v G₈ _ u8 rp8⟩
     have hfrm:X.A.frames=some (X.env::X.outer):=by rw[<- hst];exact I.ok.frames
     rcases way with⟨G₁,h',vs,sr',made,rfl⟩|⟨G',H',⟨os,bare,un,hok,ha,B,a0,fl,hk⟩,up⟩|⟨G',H',L',hL,⟨os,bare,⟨ch,hch,un⟩,hok,ha,hna,B,a0,fl,hk⟩,up⟩
     ·have hin:∀env∈X.stack,∀b,env.frame=some b->b∈frs X.stack:=λenv he b hb=>Zh.mpr ⟨env,he,hb⟩;have ha:H₁ a=none:=by
       cases q:H₁ a with
       |none=>rfl
       |some u=>obtain⟨ob,e⟩:=(J₁.hok a u q).there;rw[made.new]at e;cases e
      obtain⟨t,he,htn,ht⟩:=made.there;have hkb:(PySem.W.hideAll s₁.heap (frs X.stack)).StaysIn h':=λb o q=>made.keeps b o (ZY _ q);have hen:(PySem.W.hideAll s₁.heap (frs X.stack)).get? a=none:=by
       cases q:(PySem.W.hideAll s₁.heap (frs X.stack)).get? a with
       |none=>rfl
       |some o=>have:=ZY _ q;rw[made.new]at this;cases this
      have hff:h'.FunFrames (PySem.W.hideAll s₁.heap (frs X.stack)) (X.env::X.outer):=by rw[<- hst];exact(PySem.W.funFrames_hide J₁.stack hin).of_keeps λb o hb _=>⟨o,made.keeps b o hb,rfl⟩
      show wpAny _ _ (noteFrame (.ref a) X.env) _ _ _;unfold noteFrame;simp only[hfr];refine z6 (qC (show({ s₁ with heap:=h' }:Shared).heap.get? a=some _ from he) rfl (x:=.none) rfl ?_);rw[if_neg (by decide)];refine wpAny_entryW (base:=PySem.W.hideAll s₁.heap (frs X.stack)) (a0:=.ref t) hfrm hff hfr he hkb hen rfl (by show 1<6;decide) rfl λh₄ noted=>?_;obtain⟨n1,n2,n3,n4⟩:=noted;refine cont (ch:=[]) (s':={ s₁ with heap:=h' }) (λb z=>absurd z (by simp)) rfl J₁.bare (Un.kept made.keeps) (J₁.hok.kept made.keeps) ha made.new sr' (λb o hb ho e=>?_) ⟨n1,hen,n2,n3⟩ n4;have e1:s₁.heap.get? b=some o:=by
       rcases ho with⟨o0,ho⟩|⟨u,ho⟩;·have q:=made.keeps b o0 ho;have e':h'.get? b=some o:=e;rw[q]at e';cases e';exact ho
       ·obtain⟨ob,ho⟩:=(J₁.hok b u ho).there;have q:=made.keeps b ob ho;have e':h'.get? b=some o:=e;rw[q]at e';cases e';exact ho
      exact PySem.W.hideAll_get _ e1 hb
     ·have hna:s₁.heap.get? a=none:=by
       cases q:s₁.heap.get? a with
       |none=>rfl
       |some o0=>
        obtain⟨o',e'⟩:=un.there a o0 q (by simp);have hna:a∉frs X.stack:=λz=>by obtain⟨o1,e1,d1,_⟩:=FunFrames.data fl.2.2.1 a z;obtain⟨oe,vs,_,_,_,e2,_,d2,_⟩:=fl.2.2.2;rw[e1]at e2;cases e2;exact d1 vs d2
        have:=hk a o' hna (.inl ⟨o0,q⟩) e';rw[fl.2.1]at this;cases this
      rw[hst]at fl;exact wpAny_looks_onW hfrm hfr fl λh₄ held sm=>cont (ch:=[]) (λb z=>absurd z (by simp)) os bare un hok ha hna up hk held sm
     ·have hch':∀b∈ch,Iy X pins b:=λb hb=>let⟨c1,c2,c3,c4⟩:=hch b hb;⟨c1,c2,c3,λp hp=>c4 p (Zf _ hp)⟩;have eL:X.env.locals=L':=uV (hfr.symm.trans hL);rw[hst,<- eL]at fl;exact wpAny_noteFrame_againW hfr fl.2.2.2 (cont (h₄:=s'.heap) hch' os bare un hok ha hna up hk fl λb o hb _=>⟨o.slots,hb⟩)
def AL(i:Nat)(f:Addr->Option Bool)(hN:X.N.Nodup)(hcalm:X.calm=true)(hst:X.stack=X.env::X.outer)(hfr:X.env.frame=some X.env.locals)(hkd:X.env.scope.kind=.function)(hb:∀pn xe,kh (mV X pn xe) body gb)(hh:∀a xe,kh (kS X a xe) (b₀::suite) gs)(hf:∀C,f C=some true->PySem.W.exmOne X.K (.ref C) (.ref Ct)=some true)(hg:Gl X tn)(hm:X.mg tn=some (.ref Ct))(hi:X.N[i]?=some nm)(hx:X.env.scope.names.lookup nm=some .local)(hdb:(tn==("__debug__":Str))=false:=by decide):
  PSF X (.Try body [.ExceptHandler (some (.Name tn tp)) (some nm) (b₀::suite) hp] [] [] pos) (DF gb gs f i):=λG₀ H₀ pins s σ H D I h=>
 yO (λ_=>True) i f hN hcalm hst hfr hkd G₀ H₀ (λpn xe pins s σ H D I h=>hb pn xe G₀ H₀ pins s σ H D I h.2) hh hf hg hm hi hx hdb pins s σ H D I ⟨True.intro,h⟩
end
structure Callee(P:Program)(w:World)(K:PySem.W.Frag)(mg:Str->Option Value)(base:Heap)(x:Str)(k n:Nat)(g:List D->R D):Prop where
 ex:∃f fd ps,FnF P w K mg base k f fd ps g/\mg x=some (.ref f)/\PySem.W.keepIn K (.ref f)=true/\Binds K fd ps []/\ps.length=n
def AC{g:List D->R D}{e:Expr}{pos:Pos}(c:Callee X.prog X.w X.K X.mg X.base x k n g)(hr:Room k X.A)(ha:PFA X (e::es) gl)(hg:Gl X x:=by rfl)(hdb:(x==("__debug__":Str))=false:=by decide)(he:starEach (e::es) X.env=(false,eval e X.env)::starEach es X.env:=by rfl)(hpl:(backTo pos (starEach es X.env)).any (·.1)=false:=by rfl):
  PF X (.Call (.Name x p) (e::es) [] pos) (λρ=>gl ρ>>=λds=>if ds.length=n then g ds else .no):=by
 obtain⟨f,fd,ps,F,hm,hk,hb,rfl⟩:=c.ex;exact CD F hr hg hm hk hb ha hdb he hpl
def FnF.to{w:World}{K:PySem.W.Frag}{mg:Str->Option Value}{base:Heap}{g g':List D->R D}(F:FnF P w K mg base k f fd ps g)(h:∀ds,ds.length=ps.length->g' ds=.no\/g ds=g' ds):FnF P w K mg base k f fd ps g':=by
 refine F.imp λvs H Q E ⟨hl,G,ds,sub,r,q⟩=>⟨hl,G,ds,sub,r,?_⟩
 rcases h ds (by rw[<- r.length];exact hl)with z|z;·rw[z]at q;exact q.elim
 ·rw[z];exact q
def Fun.callee{w:World}{K:PySem.W.Frag}{mg:Str->Option Value}{base:Heap}{g:List D->R D}(F:Fun K x x st f fd)(hm:mg x=some (.ref f))(ok:FnF P w K mg base k f fd ps g)(h:∀(kV doc pm:Value)(an:Option Addr)(cdv ct:Value)(us:List Value),us.length=ps.length->bindArgs (PySem.W.fnOf x x (iY st) (gB st) (aO st) .none kV doc pm an cdv ct) ⟨us,[]⟩=pure (ps.zip us)):Callee P w K mg base x k ps.length g:=
 ⟨f,fd,ps,ok,hm,F.kp,F.binds h,rfl⟩
def hV{T:String}{f:String->Bool}(h:∀K:PySem.W.Frag,PySem.W.kitOne K (.type "NoneType") (.type T)=some (f "NoneType")/\PySem.W.kitOne K (.type "bool") (.type T)=some (f "bool")/\PySem.W.kitOne K (.type "int") (.type T)=some (f "int")/\
 PySem.W.kitOne K (.type "str") (.type T)=some (f "str")/\PySem.W.kitOne K (.type "tuple") (.type T)=some (f "tuple")/\PySem.W.kitOne K (.type "list") (.type T)=some (f "list")):
  ∀K:PySem.W.Frag,∀t∈["NoneType","bool","int","str","tuple","list"],PySem.W.kitOne K (.type t) (.type T)=some (f t):=λK t ht=>by
 obtain⟨h1,h2,h3,h4,h5,h6⟩:=h K;simp only[v0,sy,sH]at ht;rcases ht with rfl|rfl|rfl|rfl|rfl|rfl <;> assumption
noncomputable def isInt(t:String):Bool:=t=="int" || t=="bool"
section
variable{e:Expr}{ga:Ev->R D}{p2 pos:Pos}
def Av(hm:X.mg "isinstance"=none)(ha:PF X e ga)(hm2:X.mg "int"=none)(hg2:Gl X "int":=by rfl)(hg:Gl X "isinstance":=by rfl)(hs1:starEach [e,.Name "int" p2] X.env=(false,eval e X.env)::starEach [.Name "int" p2] X.env:=by rfl):PF X (.Call (.Name "isinstance" p) [e,.Name "int" p2] [] pos) (λρ=>ga ρ>>=fu isInt):=
 kU (T:="int") isInt (hV λK=>⟨rfl,rfl,rfl,rfl,rfl,rfl⟩) hg hm hg2 hm2 PyProof.Rows.Boot.«int» ha hs1
def xJ(hm:X.mg "isinstance"=none)(ha:PF X e ga)(hm2:X.mg "bool"=none)(hg2:Gl X "bool":=by rfl)(hg:Gl X "isinstance":=by rfl)(hs1:starEach [e,.Name "bool" p2] X.env=(false,eval e X.env)::starEach [.Name "bool" p2] X.env:=by rfl):PF X (.Call (.Name "isinstance" p) [e,.Name "bool" p2] [] pos) (λρ=>ga ρ>>=fu (·=="bool")):=
 kU (T:="bool") (·=="bool") (hV λK=>⟨rfl,rfl,rfl,rfl,rfl,rfl⟩) hg hm hg2 hm2 PyProof.Rows.Boot.«bool» ha hs1
def Al(hm:X.mg "isinstance"=none)(ha:PF X e ga)(hm2:X.mg "str"=none)(hg2:Gl X "str":=by rfl)(hg:Gl X "isinstance":=by rfl)(hs1:starEach [e,.Name "str" p2] X.env=(false,eval e X.env)::starEach [.Name "str" p2] X.env:=by rfl):PF X (.Call (.Name "isinstance" p) [e,.Name "str" p2] [] pos) (λρ=>ga ρ>>=fu (·=="str")):=
 kU (T:="str") (·=="str") (hV λK=>⟨rfl,rfl,rfl,rfl,rfl,rfl⟩) hg hm hg2 hm2 PyProof.Rows.Boot.«str» ha hs1
def vm(hm:X.mg "isinstance"=none)(ha:PF X e ga)(hm2:X.mg "tuple"=none)(hg2:Gl X "tuple":=by rfl)(hg:Gl X "isinstance":=by rfl)(hs1:starEach [e,.Name "tuple" p2] X.env=(false,eval e X.env)::starEach [.Name "tuple" p2] X.env:=by rfl):PF X (.Call (.Name "isinstance" p) [e,.Name "tuple" p2] [] pos) (λρ=>ga ρ>>=fu (·=="tuple")):=
 kU (T:="tuple") (·=="tuple") (hV λK=>⟨rfl,rfl,rfl,rfl,rfl,rfl⟩) hg hm hg2 hm2 PyProof.Rows.Boot.«tuple» ha hs1
def yu(hm:X.mg "isinstance"=none)(ha:PF X e ga)(hm2:X.mg "list"=none)(hg2:Gl X "list":=by rfl)(hg:Gl X "isinstance":=by rfl)(hs1:starEach [e,.Name "list" p2] X.env=(false,eval e X.env)::starEach [.Name "list" p2] X.env:=by rfl):PF X (.Call (.Name "isinstance" p) [e,.Name "list" p2] [] pos) (λρ=>ga ρ>>=fu (·=="list")):=
 kU (T:="list") (·=="list") (hV λK=>⟨rfl,rfl,rfl,rfl,rfl,rfl⟩) hg hm hg2 hm2 PyProof.Rows.Boot.«list» ha hs1
end
noncomputable def dv(ga:Ev->R D):Ev->O:=λρ=>(ga ρ).out ρ .rt
noncomputable def aG(g1 g2:Ev->O):Ev->O:=λρ=>(g1 ρ).seq g2
noncomputable def oIf(gt:Ev->R Bool)(g1 g2:Ev->O):Ev->O:=λρ=>(gt ρ).out ρ λk=>if k=true then g1 ρ else g2 ρ
noncomputable def oNx:Ev->O:=λρ=>.nx ρ
noncomputable def fZ(i:Nat)(ga:Ev->R D):Ev->O:=λρ=>(ga ρ).out ρ λd=>.nx (ρ.set i (some (.val d)))
noncomputable def vx(i:Nat)(gl:Ev->R (List D)):Ev->O:=λρ=>(gl ρ).out ρ λds=>.nx (ρ.set i (some (.own ds)))
noncomputable def vA(ga:Ev->R D):Ev->O:=λρ=>(ga ρ).out ρ λ_=>.nx ρ
noncomputable def yH(asg:D->Ev->R Ev)(gi:Ev->R (List D))(g:Ev->O):Ev->O:=λρ=>(gi ρ).out ρ λitems=>eR asg g items ρ
noncomputable def iP(C:Addr)(gl:Ev->R (List D)):Ev->O:=λρ=>(gl ρ).out ρ λ_=>.ex C ρ
noncomputable def KB(asg:D->Ev->R Ev)(ga:Ev->R D):Ev->O:=λρ=>(ga ρ).out ρ λd=>(asg d ρ).out ρ .nx
noncomputable def pU(i:Nat)(g:Ev->O):Ev->O:=λρ=>g (frz i ρ)
noncomputable def aK{α β:Type}(f:α->R β)(ga:Ev->R α):Ev->R β:=λρ=>ga ρ>>=f
noncomputable def gOf(f:List D->Option D)(gl:Ev->R (List D)):Ev->R D:=λρ=>gl ρ>>=λds=>ofO (f ds)
noncomputable def aa(ga:Ev->R D)(gl:Ev->R (List D)):Ev->R (List D):=λρ=>ga ρ>>=λx=>gl ρ>>=λxs=>.ok (x::xs)
noncomputable def aR(n:Nat)(g:List D->R D)(gl:Ev->R (List D)):Ev->R D:=λρ=>gl ρ>>=λds=>if ds.length=n then g ds else .no
noncomputable def aX(gl:Ev->R (List D)):Ev->R D:=λρ=>gl ρ>>=λds=>.ok (.lst false ds)
noncomputable def gG(gl:Ev->R (List D)):Ev->R (List D):=λρ=>gl ρ>>=λds=>if ds.length<=sizeLine then .ok ds else .no
noncomputable def gB2(f:D->D->Option D)(ga gb:Ev->R D):Ev->R Bool:=λρ=>g2 f ga gb ρ>>=asB
noncomputable def gB3(f f':D->D->Option D)(ga gb gc:Ev->R D):Ev->R Bool:=λρ=>g3 f f' ga gb gc ρ>>=asB
noncomputable def gBn(gt:Ev->R Bool):Ev->R Bool:=λρ=>gt ρ>>=λk=>.ok (!k)
noncomputable def jy(ga:Ev->R D):Ev->R (Option Int):=λρ=>ga ρ>>=λx=>asI x>>=λi=>.ok (some i)
noncomputable def iH(T:String)(f:D->List D->Option D)(ga:Ev->R D)(gl:Ev->R (List D)):Ev->R D:=λρ=>ga ρ>>=λx=>if gP T x=true then gl ρ>>=λds=>ofO (f x ds)else .no
def Callee.mono{w:World}{K:PySem.W.Frag}{mg:Str->Option Value}{base:Heap}{g:List D->R D}(c:Callee P w K mg base x k n g)(k':Nat)(h:k<=k':=by decide):Callee P w K mg base x k' n g:=by obtain⟨f,fd,ps,F,hm,hk,hb,e⟩:=c.ex;exact⟨f,fd,ps,{ F with run:=λA outer s H args us vs Q E hr=>F.run A outer s H args us vs Q E (hr.mono h) },hm,hk,hb,e⟩
section
variable{fS sa sb:List Stmt}{e a b c o:Expr}{g gs1 gs2:Ev->O}{ga gc:Ev->R D}{gt:Ev->R Bool}{pos p2:Pos}
def av(h1:PSF X st gs1)(h2:kh X fS gs2):kh X (st::fS) (aG gs1 gs2):=uT h1 h2
def aU:kh X [] oNx:=vL
def bC(he:PF X e ga):PSF X (.Return (some e) pos) (dv ga):=Aw he
def iR(hc:PB X c gt)(ha:kh X sa gs1)(hb:kh X sb gs2):PSF X (.If c sa sb pos) (oIf gt gs1 gs2):=BE hc ha hb
def Df(i:Nat)(hN:X.N.Nodup)(he:PF X e ga)(hi:X.N[i]?=some x:=by rfl)(hx:Loc X.env.scope x:=by first|exact Or.inl rfl|exact Or.inr rfl)(hs:swapsWithSole [.Name x p] e pos.line X.env=pure false:=by rfl)(hw:swappedStores [.Name x p] e X.env=pure none:=by rfl)(hf:X.fn x=true\/X.env.scope.names.lookup x=some .local:=by first|exact .inl rfl|exact .inr rfl):
  PSF X (.Assign [.Name x p] e pos) (fZ i ga):=Ae i hN he hi hx hs hw hf
def xA(i:Nat)(hN:X.N.Nodup)(he:PFL X e gl)(hi:X.N[i]?=some x:=by rfl)(hx:Loc X.env.scope x:=by first|exact Or.inl rfl|exact Or.inr rfl)(hs:swapsWithSole [.Name x p] e pos.line X.env=pure false:=by rfl)(hw:swappedStores [.Name x p] e X.env=pure none:=by rfl)(hf:X.fn x=true\/X.env.scope.names.lookup x=some .local:=by first|exact .inl rfl|exact .inr rfl):
  PSF X (.Assign [.Name x p] e pos) (vx i gl):=An i hN he hi hx hs hw hf
def tT(he:PF X e ga)(hs:swapsWith e none pos.line X.env=pure false:=by rfl):PSF X (.Expr e pos) (vA ga):=xf he hs
def vg(hp:PassesOwn (model X.prog X.w) X.A X.env X.xe)(hcalm:X.calm=true)(hi:PIF X tg iter gi)(hg:PGF X tg asg)(hb:kh X body g)(hs:∀x,foldedSetIterable iter X.env x=pure x:=by intro _;rfl)(hn:∀d ρ C,asg d ρ≠.ex C:=by intro _ _ _ z;cases z):PSF X (.For tg iter body [] pos) (yH asg gi g):=zN hp hcalm hi hg hb hs hn
def eS(hg:Gl X "len")(hm:X.mg "len"=none)(ha:PFA X [e] gl)(he:starEach [e] X.env=[(false,eval e X.env)]:=by rfl):PF X (.Call (.Name "len" p) [e] [] pos) (gOf df gl):=FT hg hm ha he
def wK(hc:X.calm=true)(hg:Gl X "all")(hm:X.mg "all"=none)(ha:PFA X [e] gl)(he:starEach [e] X.env=[(false,eval e X.env)]:=by rfl):PF X (.Call (.Name "all" p) [e] [] pos) (gOf yV gl):=EJ hc hg hm ha he
def ae(ha:PF X e ga)(hr:PFA X es gl)(hs:starEach (e::es) X.env=(false,eval e X.env)::starEach es X.env:=by rfl):PFA X (e::es) (aa ga gl):=yC ha hr hs
def aV{f:List D->R D}(c:Callee X.prog X.w X.K X.mg X.base x k n f)(hr:Room k X.A)(ha:PFA X (e::es) gl)(hg:Gl X x:=by rfl)(hdb:(x==("__debug__":Str))=false:=by decide)(he:starEach (e::es) X.env=(false,eval e X.env)::starEach es X.env:=by rfl)(hpl:(backTo pos (starEach es X.env)).any (·.1)=false:=by rfl):
  PF X (.Call (.Name x p) (e::es) [] pos) (aR n f gl):=AC c hr ha hg hdb he hpl
def bU{gens:List Comprehension}{sc:Scope}(h:PFL X (.ListComp e gens sc pos) gl):PF X (.ListComp e gens sc pos) (aX gl):=uM h
def cj(h:PFL X (.List es pos) gl):PF X (.List es pos) (aX gl):=uM h
def dm(h:PFA X es gl):PFL X (.List es pos) (gG gl):=Cv h
def gF(h:PFA X es gl):PF X (.Tuple es k pos) (aK mkT gl):=DV h
def DW(ha:PF X a ga):PF X (.UnaryOp .USub a pos) (aK BN ga):=Gu ha
def wr(hm:X.mg "isinstance"=none)(ha:PF X e ga)(hm2:X.mg "int"=none)(hg2:Gl X "int":=by rfl)(hg:Gl X "isinstance":=by rfl)(hs1:starEach [e,.Name "int" p2] X.env=(false,eval e X.env)::starEach [.Name "int" p2] X.env:=by rfl):PF X (.Call (.Name "isinstance" p) [e,.Name "int" p2] [] pos) (aK (fu isInt) ga):=Av hm ha hm2 hg2 hg hs1
def ue(hm:X.mg "isinstance"=none)(ha:PF X e ga)(hm2:X.mg "bool"=none)(hg2:Gl X "bool":=by rfl)(hg:Gl X "isinstance":=by rfl)(hs1:starEach [e,.Name "bool" p2] X.env=(false,eval e X.env)::starEach [.Name "bool" p2] X.env:=by rfl):PF X (.Call (.Name "isinstance" p) [e,.Name "bool" p2] [] pos) (aK (fu (·=="bool")) ga):=xJ hm ha hm2 hg2 hg hs1
def su(hm:X.mg "isinstance"=none)(ha:PF X e ga)(hm2:X.mg "str"=none)(hg2:Gl X "str":=by rfl)(hg:Gl X "isinstance":=by rfl)(hs1:starEach [e,.Name "str" p2] X.env=(false,eval e X.env)::starEach [.Name "str" p2] X.env:=by rfl):PF X (.Call (.Name "isinstance" p) [e,.Name "str" p2] [] pos) (aK (fu (·=="str")) ga):=Al hm ha hm2 hg2 hg hs1
def fv(hm:X.mg "isinstance"=none)(ha:PF X e ga)(hm2:X.mg "tuple"=none)(hg2:Gl X "tuple":=by rfl)(hg:Gl X "isinstance":=by rfl)(hs1:starEach [e,.Name "tuple" p2] X.env=(false,eval e X.env)::starEach [.Name "tuple" p2] X.env:=by rfl):PF X (.Call (.Name "isinstance" p) [e,.Name "tuple" p2] [] pos) (aK (fu (·=="tuple")) ga):=vm hm ha hm2 hg2 hg hs1
def gN(h:PF X e ga):PFO X (some e) (jy ga):=zi h
def zH(ha:PF X a ga)(hb:PF X b gb):PB X (.Compare a [.Lt] [b] pos) (gB2 ltD ga gb):=Hw ha hb
def HU(ha:PF X a ga)(hb:PF X b gb):PB X (.Compare a [.LtE] [b] pos) (gB2 leD ga gb):=Ho ha hb
def wM(ha:PF X a ga)(hb:PF X b gb):PB X (.Compare a [.Gt] [b] pos) (gB2 gtD ga gb):=HR ha hb
def zo(hu:X.A.units+64<cLine)(ha:PF X a ga)(hb:PF X b gb):PB X (.Compare a [.Eq] [b] pos) (gB2 eqF ga gb):=GQ hu ha hb
def kx(hu:X.A.units+64<cLine)(ha:PF X a ga)(hb:PF X b gb):PB X (.Compare a [.NotEq] [b] pos) (gB2 neF ga gb):=Hr hu ha hb
def Hz(ha:PF X a ga)(hb:PF X b gb):PB X (.Compare a [.Is] [b] pos) (gB2 isF ga gb):=Ie ha hb
def Aq(ha:PF X a ga)(hb:PF X b gb):PB X (.Compare a [.IsNot] [b] pos) (gB2 uL ga gb):=yR ha hb
def rP(ha:PF X a ga)(hb:PF X b gb)(hc:PF X c gc)(hm:lastMarks [.LtE,.LtE] [b,c]=false:=by with_unfolding_all rfl):PB X (.Compare a [.LtE,.LtE] [b,c] pos) (gB3 leD leD ga gb gc):=C9 ha hb hc hm
def dt(ha:PB X a gt):PB X (.UnaryOp .Not a pos) (gBn gt):=E6 ha
def du(h:PF X (.Call a es [] pos) ga):PB X (.Call a es [] pos) (aK fO ga):=Ba h
def lg{op:BoolOp}(h:PBW X (.BoolOp op es pos) gt):PB X (.BoolOp op es pos) gt:=λpins s σ H Q I q=>h _ pins s σ H Q I q
def cG(ha:PF X a ga):PIF X tg a (aK bg ga):=B4 ha
def dG(hg:Gl X "range")(hm:X.mg "range"=none)(ha:PFA X [a] gl)(hs:starEach [a] X.env=[(false,eval a X.env)]:=by rfl):PIF X tg (.Call (.Name "range" p) [a] [] pos) (aK bQ gl):=vF hg hm ha hs
end
@[simp] theorem R.ok_out{α:Type}(a:α)(ρ:Ev)(k:α->O):(R.ok a).out ρ k=k a:=rfl
@[simp] theorem R.ex_out{α:Type}(C:Addr)(ρ:Ev)(k:α->O):(R.ex C:R α).out ρ k=.ex C ρ:=rfl
@[simp] theorem pT{α:Type}(a:α):gR (R.ok a)=R.ok a:=rfl
theorem jA{gt:Ev->R Bool}{ge:Ev->R D}(p:D->Bool)(h:D->D)(tl:Ev):∀(ds:List D)(a:Option Sl),(∀d∈ds,gt (some (.val d)::tl)=.ok (p d)/\(p d=true->ge (some (.val d)::tl)=.ok (h d)))->cH gt ge ds (a::tl)=.ok ((ds.filter p).map h)
 | [],a,_=>rfl
 |d::ds,a,H=>by
  have ih:=jA p h tl ds (some (.val d)) λx m=>H x (rO _ m);obtain⟨e1,e2⟩:=H d (sS ..);show(gR (gt (some (.val d)::tl))>>=λk=>if k=true then gR (ge (some (.val d)::tl))>>=λx=>cH gt ge ds (some (.val d)::tl)>>=λxs=>.ok (x::xs)else cH gt ge ds (some (.val d)::tl))=_;rw[e1,pT,R.ok_bind,ih];cases q:p d with
  |true=>rw[if_pos rfl,e2 q,pT,R.ok_bind,R.ok_bind,List.filter_cons_of_pos q];rfl
  |false=>rw[if_neg rK,List.filter_cons_of_neg (by rw[q];exact rK)]
def br{gt:Ev->R Bool}{ge:Ev->R D}(h:D->D)(tl:Ev)(ds:List D)(a:Option Sl)(H:∀d∈ds,gt (some (.val d)::tl)=.ok true/\ge (some (.val d)::tl)=.ok (h d)):cH gt ge ds (a::tl)=.ok (ds.map h):=by rw[jA (λ_=>true) h tl ds a λd m=>⟨(H d m).1,λ_=>(H d m).2⟩,List.filter_eq_self.2 λ_ _=>rfl]
theorem uK(f:D->Bool):∀ds:List D,ur (ds.map λd=>.bl (f d))=some (ds.map f)
 | []=>rfl
 |d::ds=>by
  have ih:=uK f ds;rw[tv,tv];unfold ur
  first|(rw[ih];rfl)|(simp only[ih];rfl)|simp[ih]
def jE(f:D->Bool)(k:Bool)(ds:List D):yV [.lst k (ds.map λd=>.bl (f d))]=some (.bl (ds.all f)):=by show(ur (ds.map λd=>.bl (f d))).map _=_;rw[uK];show some (D.bl ((ds.map f).all id))=_;rw[p7];rfl
def xI(a b:Nat):(!decide (([b]:List Nat)<[a]))=decide (a<=b):=by
 have:(([b]:List Nat)<[a]) ↔ b<a:=by
  constructor
  ·intro h;cases h with
   |rel h=>exact h
   |cons h=>cases h
  ·intro h;exact .rel h
 by_cases h:a<=b
 ·have h2 : ¬ ([b]:List Nat)<[a]:=λq=>by have:=this.1 q;omega
  simp[h,h2]
 ·have h2:([b]:List Nat)<[a]:=this.2 (by omega);simp[h,h2]
def bD(hk:scope.kind=.function:=by rfl)(h1:(∀y∈scope.names,y.2≠.cell)/\(∀y∈scope.names,y.2=.local->scope.names.lookup y.1=some .local)/\scope.names.lookup x=some .local/\(∀y∈scope.names,y.2=.free->y.1∈N'.tail)/\N'.Nodup/\N'[0]?=some x/\
 ∀y∈N'.tail,scope.names.lookup y=some .free/\(y,NameKind.free)∈scope.names:=by decide +kernel)(h2:N'.tail.map X.env.kindOf=N'.tail.map λ_=>some NameKind.cell:=by rfl)(h3:N'.tail=ix.map (λ(i:Nat)=>X.N.getD i Str.empty):=by rfl)(h4:ix.all (λi=>decide (i<X.N.length))=true:=by rfl):CompOk X scope x N' ix:=by
 obtain⟨a,b,c,d,e,f,g⟩:=h1;refine⟨hk,a,b,c,λy hy h=>?_,e,f,h3,λi hi=>?_,g⟩;·exact ZB.1 h2 _ (d y hy h)
 ·exact iN (v6.1 h4 i hi)
def rd0(d:D)(ρ:Ev):rdV (some (.val d)::ρ) 0=.ok d:=rfl
def rd1(a0:Option Sl)(d:D)(ρ:Ev):rdV (a0::some (.val d)::ρ) 1=.ok d:=rfl
def rd2(a0 a1:Option Sl)(d:D)(ρ:Ev):rdV (a0::a1::some (.val d)::ρ) 2=.ok d:=rfl
def rd3(a0 a1 a2:Option Sl)(d:D)(ρ:Ev):rdV (a0::a1::a2::some (.val d)::ρ) 3=.ok d:=rfl
def rd4(a0 a1 a2 a3:Option Sl)(d:D)(ρ:Ev):rdV (a0::a1::a2::a3::some (.val d)::ρ) 4=.ok d:=rfl
def rd5(a0 a1 a2 a3 a4:Option Sl)(d:D)(ρ:Ev):rdV (a0::a1::a2::a3::a4::some (.val d)::ρ) 5=.ok d:=rfl
def rd6(a0 a1 a2 a3 a4 a5:Option Sl)(d:D)(ρ:Ev):rdV (a0::a1::a2::a3::a4::a5::some (.val d)::ρ) 6=.ok d:=rfl
section
variable{f:List D->R D}{ga gc gd:Ev->R D}
def Ee:aR 1 f (aa ga λ_=>.ok []) ρ=ga ρ>>=λx=>f [x]:=by unfold aR aa;cases ga ρ <;> rfl
def Bt:aR 2 f (aa ga (aa gb λ_=>.ok [])) ρ=ga ρ>>=λx=>gb ρ>>=λy=>f [x,y]:=by
 unfold aR aa;cases ga ρ <;> try rfl
 simp only[aa,R.ok_bind];cases gb ρ <;> rfl
def FJ:aR 3 f (aa ga (aa gb (aa gc λ_=>.ok []))) ρ=ga ρ>>=λx=>gb ρ>>=λy=>gc ρ>>=λz=>f [x,y,z]:=by
 unfold aR aa;cases ga ρ <;> try rfl
 simp only[aa,R.ok_bind];cases gb ρ <;> try rfl
 simp only[R.ok_bind];cases gc ρ <;> rfl
end
noncomputable def At(N:List Str)(i:Nat)(x:Str):Prop:=N[i]?=some x
def at0:At (x::l) 0 x:=rfl
def at1:At (y0::x::l) 1 x:=rfl
def at2:At (y0::y1::x::l) 2 x:=rfl
def at3:At (y0::y1::y2::x::l) 3 x:=rfl
def at4:At (y0::y1::y2::y3::x::l) 4 x:=rfl
def at5{y4:Str}:At (y0::y1::y2::y3::y4::x::l) 5 x:=rfl
def at6{y4 y5:Str}:At (y0::y1::y2::y3::y4::y5::x::l) 6 x:=rfl
def at7{y4 y5 y6:Str}:At (y0::y1::y2::y3::y4::y5::y6::x::l) 7 x:=rfl
def at8{y4 y5 y6 y7:Str}:At (y0::y1::y2::y3::y4::y5::y6::y7::x::l) 8 x:=rfl
def at9{y4 y5 y6 y7 y8:Str}:At (y0::y1::y2::y3::y4::y5::y6::y7::y8::x::l) 9 x:=rfl
def GN{y4 y5 y6 y7 y8 y9:Str}:At (y0::y1::y2::y3::y4::y5::y6::y7::y8::y9::x::l) 10 x:=rfl
def Jh{y4 y5 y6 y7 y8 y9 y10:Str}:At (y0::y1::y2::y3::y4::y5::y6::y7::y8::y9::y10::x::l) 11 x:=rfl
section
variable{N:List Str}{pos:Pos}
def ai{w:World}{K:PySem.W.Frag}{mg:Str->Option Value}{base:Heap}{A:Around}{outer:List Env}{E:XK}(h:At N i x)(hv:Vis (gM CX P w K mg base N qual scope f cdv A outer s H E).env.scope x:=by first|exact Or.inl rfl|exact Or.inr (Or.inl rfl)|exact Or.inr (Or.inr rfl))(hd:(x==("__debug__":Str))=false:=by decide)(hcd:(x==("__classdict__":Str))=false:=by decide):PF (gM CX P w K mg base N qual scope f cdv A outer s H E) (.Name x pos) (λρ=>rdV ρ i):=nq i h hv hd hcd
def aW{s₂:Shared}{H₂:Hp}(h:At N i x)(hv:Vis (bJ X N scope C s₂ H₂ fp).env.scope x:=by first|exact Or.inl rfl|exact Or.inr (Or.inl rfl)|exact Or.inr (Or.inr rfl))(hd:(x==("__debug__":Str))=false:=by decide)(hcd:(x==("__classdict__":Str))=false:=by decide):PF (bJ X N scope C s₂ H₂ fp) (.Name x pos) (λρ=>rdV ρ i):=nq i h hv hd hcd
def di{w:World}{K:PySem.W.Frag}{mg:Str->Option Value}{base:Heap}{A:Around}{outer:List Env}{E:XK}{e:Expr}{ga:Ev->R D}(h:At N i x)(hN:N.Nodup)(he:PF (gM CX P w K mg base N qual scope f cdv A outer s H E) e ga)(hx:Loc (gM CX P w K mg base N qual scope f cdv A outer s H E).env.scope x:=by first|exact Or.inl rfl|exact Or.inr rfl)(hs:swapsWithSole [.Name x p] e pos.line (gM CX P w K mg base N qual scope f cdv A outer s H E).env=pure false:=by rfl)(hw:swappedStores [.Name x p] e (gM CX P w K mg base N qual scope f cdv A outer s H E).env=pure none:=by rfl)(hf:(gM CX P w K mg base N qual scope f cdv A outer s H E).fn x=true\/(gM CX P w K mg base N qual scope f cdv A outer s H E).env.scope.names.lookup x=some .local:=by first|exact .inl rfl|exact .inr rfl):
  PSF (gM CX P w K mg base N qual scope f cdv A outer s H E) (.Assign [.Name x p] e pos) (fZ i ga):=Df i hN he h hx hs hw hf
end
def CN{ga:Ev->R D}(h:aa ga (λ_=>.ok []) ρ=.ok ds):ds.length<=1:=by
 unfold aa at h;cases e:ga ρ with
 |ok x=>rw[e]at h;cases h;exact yo _
 |ex C=>rw[e]at h;cases h
 |no=>rw[e]at h;cases h
structure Ref(x:Str)(C:Addr)(mg:Str->Option Value)(base:Heap):Prop where
 ex:∃bm B newId initId,OwnCls x C bm newId mg base/\ExcBaseFacts B newId initId bm
def gY{e:Expr}{ga:Ev->R D}{np cp pos:Pos}(r:Ref x C X.mg X.base)(hh:X.A.handled=none)(ha:PF X e ga)(hg:Gl X x:=by rfl)(hdb:(x==("__debug__":Str))=false:=by decide)(hs:starEach [e] X.env=(false,eval e X.env)::starEach [] X.env:=by rfl):
  PSF X (.Raise (some (.Call (.Name x np) [e] [] cp)) none pos) (iP C (aa ga λ_=>.ok [])):=by
 obtain⟨bm,B,newId,initId,Oc,FB⟩:=r.ex;exact vp Oc FB hh hg (ae ha ag hs) hdb hs (λρ ds h=>CN h)
def Un.but{fs:List Addr}(hs:Heap.SameBut C h h'):Un fs [C] H H h h':=by have ne:∀b,b∉[C]->b≠C:=λb hb z=>hb (by rw[z];exact l9.2 rfl);exact⟨λb o e _ _ hx=>(hs.2 b (ne b hx)).trans e,λb o e _ _ hx=>⟨o.slots,(hs.2 b (ne b hx)).trans e⟩,λ_ _ _ n _=>n,λb o e hx=>⟨o,(hs.2 b (ne b hx)).trans e⟩,λ_ _ e=>e,λ_ _ _ e=>e,λ_ ps e=>⟨#[],by rw[Array.append_empty];exact e⟩⟩
section
variable{elt:Expr}{ifs:List Expr}{px pos:Pos}{gt:Ev->R Bool}{ge:Ev->R D}
def wm(i:Nat){py:Pos}(hN:X.N.Nodup)(ok:CompOkT X scope n N' ix)(hcalm:X.calm=true)(hg:∀C s₂ H₂ fp,PGF (bJ X N' scope C s₂ H₂ fp) tgt asg)(hown:∀d ρ ρ',asg d ρ=.ok ρ'->(NoOwn ρ)->NoOwn ρ')(hi:PIF X tgt iter gi)(he:∀C s₂ H₂ fp,PF (bJ X N' scope C s₂ H₂ fp) elt ge)(ht:∀C s₂ H₂ fp,PTs (bJ X N' scope C s₂ H₂ fp) ifs gt)(hni:X.N[i]?=some y:=by rfl)(hy:X.env.scope.names.lookup y=some .local:=by rfl)(hs:∀x,foldedSetIterable iter X.env x=pure x:=by intro _;rfl)(hsw:swapsWith (.ListComp elt [⟨tgt,iter,ifs,0⟩] scope pos) (some (.Name y py)) spos.line X.env=pure true:=by rfl){D:Ends}(I:Inv X pins σ H s)(sE:StE X.K G H σ ρ)(hq:(dX n asg gi ix gt ge ρ).post (mw X.K G H λv H1=>D.nx (σ.set i (some v)) H1) (Exx X σ G H)):
  wpAny (model X.prog X.w) X.A (exec (.Assign [.Name y py] (.ListComp elt [⟨tgt,iter,ifs,0⟩] scope pos) spos) X.env) (SP X pins D) X.xe s:=by
 rw[exec_Assign_Name_used _ _ _ _ hsw];refine z6 (Zs (z6 ?_));show wpAny _ X.A (do let _ <- comprehension (.ListComp elt [⟨tgt,iter,ifs,0⟩] scope pos) scope X.env _ (newList []) false (eval iter X.env) (some (assign (.Name y py) X.env))) _ _ s;refine z6 (t7 (Zx (use:=some (assign (.Name y py) X.env)) (Q:=λ_ s'=>SP X pins D .next s') rfl hs (dD λz hz hz2=>I.ok.has z.1 (.inl (ok.fr z hz hz2))) ok.kind ok.names ?_) (λ_ s' hq=>z9 (z9 hq)) λ_ _ e=>e);have t:tG X (λG J items=>ItOk X.K G J items) gi σ H (λJ H1=>∃G1 items,Up G H G1 H1/\StE X.K G1 H1 σ ρ/\ItOk X.K G1 J items/\(cM asg gt ge items (ce n ix ρ)>>=λds=>if ds.length<=sizeLine then R.ok ds else .no).post (mw X.K G H λv H1=>D.nx (σ.set i (some v)) H1) (Exx X σ G H)):=by
  refine⟨G,ρ,sE,?_⟩;unfold dX at hq;cases e:gi ρ with
  |ok items=>rw[e]at hq;exact λJ G1 H1 u r=>⟨G1,items,u,sE.up u,r,hq⟩
  |ex C=>rw[e]at hq;exact hq
  |no=>rw[e]at hq;exact hq
 refine thn (hi pins s σ H _ I t) λv s1 h1=>thn h1 λitv s2 h2=>?_;obtain⟨it,fp,tn,J,H2,e,I2,T,st2,f2,G2,items,u2,sE2,iok,h2⟩:=h2;subst e;have h2':(cM asg gt ge items (ce n ix ρ)>>=λds=>if ds.length<=sizeLine then R.ok ds else .no).post (mw X.K G2 H2 λv H1=>D.nx (σ.set i (some v)) H1) (Exx X σ G2 H2):=
  h2.mono (λds q l vs G' H' u hl r=>q l vs G' H' (u2.trans u) hl r) λC q=>q.up u2;refine jc (iter:=iter) (pos:=pos) (RR:=λacc C=>compPost (model X.prog X.w) X.A X.xe (some (assign (.Name y py) X.env)) (λ_ s'=>SP X pins D .next s') acc C) ok hcalm hg hown he ht I2 T st2 f2 sE2 iok h2' ?_;intro Dd C s' m vs G' H' up hd hCD _ q hm hos hb hC hCl un hok;have I3:Inv X pins σ (upd H' Dd (.lst vs)) s':=I2.call' (ch:=fp) hos un hok hb λb hb'=>by
  obtain⟨f0,f1,f2',f3,f4,f5⟩:=f2 b hb';exact⟨f3,f1,f4,f5⟩
 have lc:X.env.locals≠C:=t5 (sI I2.lt hCl);have cc:∀z c,X.env.cells.lookup z=some c->c≠C:=λz c e=>by obtain⟨v,q⟩:=I2.cell z c e;exact t5 (sI q.lt hCl)
 show wpAny (model X.prog X.w) X.A (assign (.Name y py) X.env (.ref Dd)) _ X.xe s';refine ZS (gZ I3 hN hni (.inl hy) (v:=.ref Dd) rfl (λs'' I4 ⟨a,hsb,ha⟩=>?_) (.inr hy));have na:C≠a:=by
  rcases ha with rfl|ha;·exact lc.symm
  ·exact(cc _ _ ha).symm
 refine⟨m,hm.sameBut hsb na,λh' hs'=>?_⟩;have I5:=I4.call' (s':={ s'' with heap:=h' }) (H':=upd H' Dd (.lst vs)) (ch:=[C]) rfl (Un.but hs') (I4.hok.sameBut (λb o hbc e=>(hs'.2 b hbc).trans e) (by rw[aQ hCD];exact hC)) I4.bare λb hb'=>by rw[l9.1 hb'];exact⟨.inr (w9 I2.sz hCl),lc.symm,cc,λp hp z=>mK _ (sI (z▸xz (I2.pin p hp).1) hCl)⟩
 exact⟨_,_,I5,q⟩
def AH(i:Nat){py:Pos}(hN:X.N.Nodup)(ok:CompOkT X scope n N' ix)(hcalm:X.calm=true)(hg:∀C s₂ H₂ fp,PGF (bJ X N' scope C s₂ H₂ fp) tgt asg)(hown:∀d ρ ρ',asg d ρ=.ok ρ'->(NoOwn ρ)->NoOwn ρ')(hi:PIF X tgt iter gi)(he:∀C s₂ H₂ fp,PF (bJ X N' scope C s₂ H₂ fp) elt ge)(ht:∀C s₂ H₂ fp,PTs (bJ X N' scope C s₂ H₂ fp) ifs gt)(hni:X.N[i]?=some y:=by rfl)(hy:X.env.scope.names.lookup y=some .local:=by rfl)(hs:∀x,foldedSetIterable iter X.env x=pure x:=by intro _;rfl)(hsw:swapsWith (.ListComp elt [⟨tgt,iter,ifs,0⟩] scope pos) (some (.Name y py)) spos.line X.env=pure true:=by rfl):
  PSF X (.Assign [.Name y py] (.ListComp elt [⟨tgt,iter,ifs,0⟩] scope pos) spos) (vx i (dX n asg gi ix gt ge)):=λG₀ H₀ pins s σ H D I h=>by
 obtain⟨G,ρ,sr,h⟩:=h;have h:pV X G₀ H₀ D ((dX n asg gi ix gt ge ρ).out ρ λds=>.nx (ρ.set i (some (.own ds)))):=h;refine wm i hN ok hcalm hg hown hi he ht hni hy hs hsw I sr.e ?_;cases q:dX n asg gi ix gt ge ρ with
 |ok ds=>rw[q]at h;exact λl vs G' H' u hl r=>h _ G' _ ((sr.ups u).setOwn hl r i)
 |ex C=>rw[q]at h;exact Exx.of sr h
 |no=>rw[q]at h;exact h
def ym(i:Nat){py:Pos}(hN:X.N.Nodup)(ok:CompOk X scope x N' ix)(hcalm:X.calm=true)(hi:PIF X (.Name x px) iter gi)(he:∀C s₂ H₂ fp,PF (bJ X N' scope C s₂ H₂ fp) elt ge)(ht:∀C s₂ H₂ fp,PTs (bJ X N' scope C s₂ H₂ fp) ifs gt)(hni:X.N[i]?=some y:=by rfl)(hy:X.env.scope.names.lookup y=some .local:=by rfl)(hs:∀x,foldedSetIterable iter X.env x=pure x:=by intro _;rfl)(hsw:swapsWith (.ListComp elt [⟨.Name x px,iter,ifs,0⟩] scope pos) (some (.Name y py)) spos.line X.env=pure true:=by rfl):
  PSF X (.Assign [.Name y py] (.ListComp elt [⟨.Name x px,iter,ifs,0⟩] scope pos) spos) (vx i (cC gi ix gt ge)):=
 AH (n:=1) (asg:=iT 0) i hN ok.t hcalm (λC s₂ H₂ fp=>eP (X:=bJ X N' scope C s₂ H₂ fp) (pos:=px) 0 ok.nd ok.hd (.inl (Zw ok.loc)) (.inr (Zw ok.loc))) kG hi he ht hni hy hs hsw
end
def Fun.noF{w:World}{K:PySem.W.Frag}{mg:Str->Option Value}{base:Heap}{N:List Str}(F:Fun K x qual st f fd)(S:FnScope N ps (aO st)):FnF P w K mg base (k+1) f fd ps (λ_=>.no):=by obtain⟨oc,od,kV,doc,pm,an,cdv,ct,osl,rfl,lk,hcd⟩:=F.ex;refine BW lk hcd S (λvs H Q E h=>h.1) λA outer s H vs Q E hr hsp=>?_;obtain⟨hl,G,ds,sub,r,h⟩:=hsp;exact h.elim
noncomputable def DL(i:Nat)(ga:Ev->R D):Ev->O:=λρ=>(ownAt ρ i).out ρ λds=>(ga ρ).out ρ λd=>(asL d).out ρ λes=>if ds.length+es.length<=sizeLine then .nx (ρ.set i (some (.own (ds++es))))else .no
noncomputable def Fp(i:Nat)(ga:Ev->R D):Ev->O:=λρ=>(ownAt ρ i).out ρ λds=>(ga ρ).out ρ λd=>if ds.length<sizeLine then .nx (ρ.set i (some (.own (ds++[d]))))else .no
noncomputable def KD(i j:Nat)(gl:Ev->R (List D)):Ev->O:=λρ=>(gl ρ).out ρ λds=>(nW [i,j] ds ρ).out ρ .nx
section
variable{fS:List Stmt}{e c o:Expr}{g:Ev->O}{ga:Ev->R D}{pos p2:Pos}
def kJ(i:Nat){ap cp:Pos}(he:PF X e ga)(hi:X.N[i]?=some x:=by rfl)(hv:Vis X.env.scope x:=by first|exact Or.inl rfl|exact Or.inr (Or.inl rfl))(hd:(x==("__debug__":Str))=false:=by decide)(hcd:(x==("__classdict__":Str))=false:=by decide)(hs1:starEach [e] X.env=(false,eval e X.env)::starEach [] X.env:=by rfl)(hbase:attributeBase (.Name x p) "extend" X.env (eval (.Name x p) X.env)=eval (.Name x p) X.env:=by rfl)(hfew:((backTo cp (starEach [e] X.env)).all (λx=>!x.1) && (backToKw cp (keywordEach [] X.env)).all (λx=>x.1.isSome)
 && decide ([e].length+([]:List Keyword).length+(if ([]:List Keyword).isEmpty then 0 else 1)<30))=true:=by rfl)(hline:(ap.endLine==cp.line)=true:=by rfl)(hs:swapsWith (.Call (.Attribute (.Name x p) "extend" ap) [e] [] cp) none pos.line X.env=pure false:=by rfl):
  PSF X (.Expr (.Call (.Attribute (.Name x p) "extend" ap) [e] [] cp) pos) (DL i ga):=sC i he hi hv hd hcd hs1 hbase hfew hline hs
def nP(i:Nat){ap cp:Pos}(he:PF X e ga)(hi:X.N[i]?=some x:=by rfl)(hv:Vis X.env.scope x:=by first|exact Or.inl rfl|exact Or.inr (Or.inl rfl))(hd:(x==("__debug__":Str))=false:=by decide)(hcd:(x==("__classdict__":Str))=false:=by decide)(hs1:starEach [e] X.env=(false,eval e X.env)::starEach [] X.env:=by rfl)(hbase:attributeBase (.Name x p) "append" X.env (eval (.Name x p) X.env)=eval (.Name x p) X.env:=by rfl)(hfew:((backTo cp (starEach [e] X.env)).all (λx=>!x.1) && (backToKw cp (keywordEach [] X.env)).all (λx=>x.1.isSome)
 && decide ([e].length+([]:List Keyword).length+(if ([]:List Keyword).isEmpty then 0 else 1)<30))=true:=by rfl)(hline:(ap.endLine==cp.line)=true:=by rfl)(hs:swapsWith (.Call (.Attribute (.Name x p) "append" ap) [e] [] cp) none pos.line X.env=pure false:=by rfl):
  PSF X (.Expr (.Call (.Attribute (.Name x p) "append" ap) [e] [] cp) pos) (Fp i ga):=se i he hi hv hd hcd hs1 hbase hfew hline hs
def B9(h:PF X (.Name x pos) ga):PB X (.Name x pos) (aK fO ga):=Ba h
def pW{sts:List Stmt}(i:Nat)(h:kh X sts g):kh X sts (pU i g):=yk i h
def Dg{ap cp:Pos}(ho:PF X o ga)(ha:PFA X [e] gl)(hbase:attributeBase o "count" X.env (eval o X.env)=eval o X.env:=by rfl)(hfew:((backTo cp (starEach [e] X.env)).all (λx=>!x.1) && (backToKw cp (keywordEach [] X.env)).all (λx=>x.1.isSome)
 && decide ([e].length+([]:List Keyword).length+(if ([]:List Keyword).isEmpty then 0 else 1)<30))=true:=by rfl)(hline:(ap.endLine==cp.line)=true:=by rfl)(hs:starEach [e] X.env=(false,eval e X.env)::starEach [] X.env:=by rfl):
  PF X (.Call (.Attribute o "count" ap) [e] [] cp) (iH "list" kM ga gl):=zw ho ha hbase hfew hline hs
def CH{ap cp:Pos}(ho:PF X o ga)(ha:PFA X [e] gl)(hbase:attributeBase o "index" X.env (eval o X.env)=eval o X.env:=by rfl)(hfew:((backTo cp (starEach [e] X.env)).all (λx=>!x.1) && (backToKw cp (keywordEach [] X.env)).all (λx=>x.1.isSome)
 && decide ([e].length+([]:List Keyword).length+(if ([]:List Keyword).isEmpty then 0 else 1)<30))=true:=by rfl)(hline:(ap.endLine==cp.line)=true:=by rfl)(hs:starEach [e] X.env=(false,eval e X.env)::starEach [] X.env:=by rfl):
  PF X (.Call (.Attribute o "index" ap) [e] [] cp) (iH "list" kP ga gl):=AD ho ha hbase hfew hline hs
end
structure Errs(K:PySem.W.Frag)(mg:Str->Option Value)(rs:List Addr)(ts:List (Str×Addr)):Prop where
 na:∀t∈ts,mg t.1=some (.ref t.2)
 ec:∀r∈rs,ExcCls K r
 kit:∀r∈rs,∀t∈ts,PySem.W.kitOne K (.ref r) (.ref t.2)=some (r==t.2)
 ve:∀r∈rs,PySem.W.kitOne K (.ref r) (.type "ValueError")=some true
 le:∃L,mg "LineError"=some (.ref L)/\∀r∈rs,PySem.W.exmOne K (.ref r) (.ref L)=some true
noncomputable def tY(rs:List Addr)(T C:Addr):Option Bool:=if C∈rs then some (C==T)else none
noncomputable def uw(rs:List Addr)(C:Addr):Option Bool:=if C∈rs then some true else none
section
variable{e:Expr}{ga:Ev->R D}{p2 pos:Pos}
def iX{T:Addr}(Er:Errs X.K X.mg rs ts)(hy:(y,T)∈ts)(hm:X.mg "isinstance"=none)(ha:PF X e ga)(hg:Gl X "isinstance":=by rfl)(hg2:Gl X y:=by rfl)(hd:(y==("__debug__":Str))=false:=by decide)(hs1:starEach [e,.Name y p2] X.env=(false,eval e X.env)::starEach [.Name y p2] X.env:=by rfl):PF X (.Call (.Name "isinstance" p) [e,.Name y p2] [] pos) (aK (mS (tY rs T)) ga):=by
 refine wB (v2:=.ref T) (u2:=.ref T) (tY rs T) (λC b h=>?_) hg hm (ja hg2 (Er.na _ hy) rfl hd) rfl (λu h=>h) ha hs1;unfold tY at h;split at h;·rename_i hC;cases h;exact⟨Er.ec _ hC,Er.kit _ hC _ hy⟩
 ·cases h
end
section
variable{e:Expr}{ga:Ev->R D}{p2 pos:Pos}
def GA(Er:Errs X.K X.mg rs ts)(hm:X.mg "isinstance"=none)(hm2:X.mg "ValueError"=none)(ha:PF X e ga)(hg:Gl X "isinstance":=by rfl)(hg2:Gl X "ValueError":=by rfl)(hs1:starEach [e,.Name "ValueError" p2] X.env=(false,eval e X.env)::starEach [.Name "ValueError" p2] X.env:=by rfl):PF X (.Call (.Name "isinstance" p) [e,.Name "ValueError" p2] [] pos) (aK (mS (uw rs)) ga):=by
 refine wB (v2:=.ty "ValueError") (u2:=.type "ValueError") (uw rs) (λC b h=>?_) hg hm (pG hg2 hm2 rfl rfl) rfl (λu h=>h) ha hs1;unfold uw at h;split at h;·rename_i hC;cases h;exact⟨Er.ec _ hC,Er.ve _ hC⟩
 ·cases h
end
section
variable{w:World}{K:PySem.W.Frag}{mg:Str->Option Value}{base:Heap}{N:List Str}{A:Around}{outer:List Env}{E:XK}{pn:List (Addr×Obj)}{xe:Value->Shared->Prop}{pos:Pos}{e:Expr}{ga:Ev->R D}
def tK(h:At N i x)(hv:Vis (gM CX P w K mg base N qual scope f cdv A outer s H E).env.scope x:=by first|exact Or.inl rfl|exact Or.inr (Or.inl rfl)|exact Or.inr (Or.inr rfl))(hd:(x==("__debug__":Str))=false:=by decide)(hcd:(x==("__classdict__":Str))=false:=by decide):PF (mV (gM CX P w K mg base N qual scope f cdv A outer s H E) pn xe) (.Name x pos) (λρ=>rdV ρ i):=nq i h hv hd hcd
def FL(h:At N i x)(hv:Vis (gM CX P w K mg base N qual scope f cdv A outer s H E).env.scope x:=by first|exact Or.inl rfl|exact Or.inr (Or.inl rfl)|exact Or.inr (Or.inr rfl))(hd:(x==("__debug__":Str))=false:=by decide)(hcd:(x==("__classdict__":Str))=false:=by decide):PF (kS (gM CX P w K mg base N qual scope f cdv A outer s H E) a xe) (.Name x pos) (λρ=>rdV ρ i):=nq i h hv hd hcd
def DY(h:At N i x)(hN:N.Nodup)(he:PF (mV (gM CX P w K mg base N qual scope f cdv A outer s H E) pn xe) e ga)(hx:Loc (gM CX P w K mg base N qual scope f cdv A outer s H E).env.scope x:=by first|exact Or.inl rfl|exact Or.inr rfl)(hs:swapsWithSole [.Name x p] e pos.line (gM CX P w K mg base N qual scope f cdv A outer s H E).env=pure false:=by rfl)(hw:swappedStores [.Name x p] e (gM CX P w K mg base N qual scope f cdv A outer s H E).env=pure none:=by rfl)(hf:(gM CX P w K mg base N qual scope f cdv A outer s H E).fn x=true\/(gM CX P w K mg base N qual scope f cdv A outer s H E).env.scope.names.lookup x=some .local:=by first|exact .inl rfl|exact .inr rfl):
  PSF (mV (gM CX P w K mg base N qual scope f cdv A outer s H E) pn xe) (.Assign [.Name x p] e pos) (fZ i ga):=Df i hN he h hx hs hw hf
def FQ(h:At N i x)(hN:N.Nodup)(he:PF (kS (gM CX P w K mg base N qual scope f cdv A outer s H E) a xe) e ga)(hx:Loc (gM CX P w K mg base N qual scope f cdv A outer s H E).env.scope x:=by first|exact Or.inl rfl|exact Or.inr rfl)(hs:swapsWithSole [.Name x p] e pos.line (gM CX P w K mg base N qual scope f cdv A outer s H E).env=pure false:=by rfl)(hw:swappedStores [.Name x p] e (gM CX P w K mg base N qual scope f cdv A outer s H E).env=pure none:=by rfl)(hf:(gM CX P w K mg base N qual scope f cdv A outer s H E).fn x=true\/(gM CX P w K mg base N qual scope f cdv A outer s H E).env.scope.names.lookup x=some .local:=by first|exact .inl rfl|exact .inr rfl):
  PSF (kS (gM CX P w K mg base N qual scope f cdv A outer s H E) a xe) (.Assign [.Name x p] e pos) (fZ i ga):=Df i hN he h hx hs hw hf
end
section
variable{suite:List Stmt}{b₀:Stmt}{gb gs:Ev->O}{pos hp tp:Pos}{nm:Str}
def Hu(i:Nat)(Er:Errs X.K X.mg rs ts)(hN:X.N.Nodup)(hcalm:X.calm=true)(hst:X.stack=X.env::X.outer)(hfr:X.env.frame=some X.env.locals)(hkd:X.env.scope.kind=.function)(hb:∀pn xe,kh (mV X pn xe) body gb)(hh:∀a xe,kh (kS X a xe) (b₀::suite) gs)(hg:Gl X "LineError":=by rfl)(hi:X.N[i]?=some nm:=by rfl)(hx:X.env.scope.names.lookup nm=some .local:=by rfl):
  PSF X (.Try body [.ExceptHandler (some (.Name "LineError" tp)) (some nm) (b₀::suite) hp] [] [] pos) (DF gb gs (uw rs) i):=by
 obtain⟨L,hL,hk⟩:=Er.le;refine AL i (uw rs) hN hcalm hst hfr hkd hb hh (λC h=>?_) hg hL hi hx;unfold uw at h;split at h;·rename_i hC;exact hk C hC
 ·cases h
end
noncomputable def fl:Nat->D->Bool
 | 0,_=>false
 |n+1,.tup xs=>xs.all (fl n)
 |_+1,.lst _ _=>false
 |_+1,.exc _=>false
 |_+1,.dct _ _=>false
 |_+1,_=>true
def StR.peek{K:PySem.W.Frag}{H₀:Hp}(s:StR K G₀ H₀ G H σ ρ)(i:Nat):∃G1,StE K G1 H σ (L2.frz i ρ)/\
  ∀G' H',Up G1 H G' H'->∃G2,Up G H G2 H'/\∀a o,G' a=some o->(∀vs,o≠HO.lst vs)->G2 a=some o:=by
 obtain⟨G1,sr,e|⟨l,vs,hl,e⟩⟩:=s.frzTo i;·subst e;exact⟨G1,sr.e,λG' H' u=>⟨G',u,λa o q _=>q⟩⟩
 ·subst e;refine⟨_,sr.e,λG' H' u=>⟨λa=>if a=l then none else G' a,⟨λa o q=>?_,λa o q=>?_,u.hh,λa o q=>?_⟩,λa o q hq=>?_⟩⟩
  ·have q:(if a=l then none else G' a)=some o:=q;split at q;·cases q
   ·exact u.sub a o q
  ·have ne:a≠l:=λz=>by subst z;rw[hl]at q;cases q
   show(if a=l then none else G' a)=some o;rw[if_neg ne];exact u.gg a o (by rw[aQ ne];exact q)
  ·have q:(if a=l then none else G' a)=some o:=q;split at q;·cases q
   ·rename_i ne;rcases u.fr a o q with z|z;·rw[aQ ne]at z;exact .inl z
    ·exact .inr z
  ·have ne:a≠l:=λz=>by subst z;have:=u.gg a _ ba;rw[q]at this;cases this;exact hq vs rfl
   show(if a=l then none else G' a)=some o;rw[if_neg ne];exact q
section
variable{fS a b:List Stmt}{e c:Expr}{g g1 g2:Ev->O}{ga:Ev->R D}{gt:Ev->R Bool}{pos:Pos}
noncomputable def HD(i:Nat)(gt:Ev->R Bool)(g1 g2:Ev->O):Ev->O:=λρ=>(gR (gt (frz i ρ))).out ρ λk=>if k=true then g1 ρ else g2 ρ
def IZ(i:Nat)(hc:PB X c gt)(ha:kh X a g1)(hb:kh X b g2):PSF X (.If c a b pos) (HD i gt g1 g2):=λG₀ H₀ pins s σ H D I h=>by
 refine E1 hc (ha G₀ H₀) (hb G₀ H₀) pins s σ H D I ?_;obtain⟨G,ρ,sr,h⟩:=h;have h:pV X G₀ H₀ D ((gR (gt (frz i ρ))).out ρ λk=>if k=true then g1 ρ else g2 ρ):=h;obtain⟨G1,st1,pk⟩:=sr.peek i;refine⟨G1,_,st1,?_⟩;cases q:gt (frz i ρ)with
 |ok k=>
  rw[q]at h;intro b' G' H' u r;subst r;obtain⟨G2,u2,_⟩:=pk G' H' u;cases b' with
  |true=>rw[if_pos rfl];exact⟨G2,ρ,sr.ups u2,by simpa[R.out,gR]using h⟩
  |false=>rw[if_neg rK];exact⟨G2,ρ,sr.ups u2,by simpa[R.out,gR]using h⟩
 |_=>rw[q]at h;exact h.elim
noncomputable def HL(j i:Nat)(ga:Ev->R D):Ev->O:=λρ=>(gR (ga (frz j ρ))).out ρ λd=>if fl 10 d=true then .nx (ρ.set i (some (.val d)))else .no
noncomputable def HX(j i:Nat)(ga:Ev->R D):Ev->O:=λρ=>(ownAt ρ i).out ρ λds=>(gR (ga (frz j ρ))).out ρ λd=>if ds.length<sizeLine/\fl 10 d=true then .nx (ρ.set i (some (.own (ds++[d]))))else .no
noncomputable def IL(i:Nat)(gk ga:Ev->R D):Ev->O:=λρ=>(ownAt ρ i).out ρ λds=>(gR (ga (frz i ρ))).out ρ λd=>(gR (gk (frz i ρ)>>=asI)).out ρ λk=>match ixN ds.length k with
 |some n=>if fl 10 d=true then .nx (ρ.set i (some (.own (ds.set n d))))else .no
 |none=>.no
noncomputable def JK:D->R (List D)
 |.lst _ xs=>.ok xs
 |.tup xs=>.ok xs
 |_=>.no
noncomputable def GL:List D->R (List D)
 | [d]=>JK d
 |_=>.no
noncomputable def HY(gl:Ev->R (List D)):Ev->R (List D):=λρ=>gl ρ>>=GL
end
end L2
namespace L2
open PySem PySem.Spec PyProof.Rows PySem.W
section
variable{A:Around}{Q:Value->Shared->Prop}
def B6{x:V}{u:Value}{T:String}{b:Bool}{tp:Addr}{cs:List Value}(I:Inv X pins σ H s)(sub:Same G H)(r:Rep X.K G x d)(ru:RelV x u)(ht:tyN d=some T)(htp:IsTup s.heap tp cs.toArray)(e:kitAny X.K (.type T) cs=some b)(h:∀tk,Q (.bool b) { s with toks:=tk }):
  wpAny (model X.prog X.w) A (call (.builtin "isinstance") [u,.ref tp]) Q E s:=by
 obtain⟨⟨cls,dd,data,sl⟩,ho,hc,n,hd⟩:=htp;simp only at hc hd;subst hc hd;cases r with
 |non=>cases ht;cases ru;exact kia_tup kitx_none I.kIn True.intro ho e (λz=>nomatch z) h
 |bl y=>cases ht;cases ru;exact kia_tup kitx_bool I.kIn True.intro ho e (λz=>nomatch z) h
 |int i=>cases ht;obtain⟨t,rfl⟩:=ru;exact kia_tup kitx_int I.kIn True.intro ho e (λz=>nomatch z) h
 |str y hy=>cases ht;obtain⟨t,rfl⟩:=ru;exact kia_tup kitx_str I.kIn True.intro ho e (λz=>nomatch z) h
 |tup hh t=>cases ht;cases ru;obtain⟨its,rv,⟨o,h1,h2,_⟩,_⟩:=I.tuple (hh.mono sub);exact kia_tup kitx_tuple I.kIn ⟨o,h1,h2⟩ ho e (λz=>nomatch z) h
 |lst hh t=>cases ht;cases ru;obtain⟨its,rv,⟨o,n,h1,h2,_⟩,_⟩:=I.list ((SqL.of hh:SqL X.K G _ _).mono sub);exact kia_tup kitx_list I.kIn ⟨o,h1,h2⟩ ho e (λz=>nomatch z) h
 |fls hh t=>cases ht;cases ru;obtain⟨its,rv,⟨o,n,h1,h2,_⟩,_⟩:=I.list (hh.mono sub);exact kia_tup kitx_list I.kIn ⟨o,h1,h2⟩ ho e (λz=>nomatch z) h
 |exc hh=>cases ht
 |dct _ _ _=>cases ht
end
noncomputable def Dp(t:String):Bool:=t=="list" || t=="tuple"
def D7(K:Frag):∀t∈["NoneType","bool","int","str","tuple","list"],kitAny K (.type t) [.type "list",.type "tuple"]=some (Dp t):=by intro t ht;simp only[v0,sy,sH]at ht;rcases ht with rfl|rfl|rfl|rfl|rfl|rfl <;> rfl
section
variable{e:Expr}{ga:Ev->R D}{p2 p3 p4 pos:Pos}
def D5(hm:X.mg "isinstance"=none)(ha:PF X e ga)(hm2:X.mg "list"=none)(hm3:X.mg "tuple"=none)(hg2:Gl X "list":=by rfl)(hg3:Gl X "tuple":=by rfl)(hg:Gl X "isinstance":=by rfl)(hs1:starEach [e,.Tuple [.Name "list" p2,.Name "tuple" p3] k p4] X.env=(false,eval e X.env)::starEach [.Tuple [.Name "list" p2,.Name "tuple" p3] k p4] X.env:=by rfl)(hs2:starEach [.Tuple [.Name "list" p2,.Name "tuple" p3] k p4] X.env=(false,eval (.Tuple [.Name "list" p2,.Name "tuple" p3] k p4) X.env)::starEach [] X.env:=by rfl):
  PF X (.Call (.Name "isinstance" p) [e,.Tuple [.Name "list" p2,.Name "tuple" p3] k p4] [] pos) (aK (fu Dp) ga):=by
 intro pins s σ H Q I h;have hc:gT X (.builtin "isinstance") (λxs H Q=>∃x G d tp,xs=[x,.ref tp]/\Same G H/\Rep X.K G x d/\H tp=some (.tup [.ty "list",.ty "tuple"])/\∃t,tyN d=some t/\Q (.bl (Dp t)) H):=by
  intro pins s σ H xs us Q I r ⟨x,G,d,tp,ex,sub,rd,htp,t,et,q⟩;subst ex;obtain⟨u,u2,rfl,r1,r2⟩:=r.two;cases r2;obtain⟨its,rv,it,_⟩:=I.tuple (xs:=[.ty "list",.ty "tuple"]) (.of htp);obtain⟨c1,c2,rfl,q1,q2⟩:=rv.two;cases q1;cases q2;refine B6 I sub rd r1 et it (D7 X.K t ?_) λtk=>⟨.bl (Dp t),H,I.tok tk,rfl,q⟩
  cases d <;> cases et <;> simp
 refine jH hc hg hm PyProof.Rows.Boot.«isinstance» (cE ha (cE (A2 (cE (pG (v:=.ty "list") hg2 hm2 PyProof.Rows.Boot.«list» rfl (by decide) (by decide)) (cE (pG (v:=.ty "tuple") hg3 hm3 PyProof.Rows.Boot.«tuple» rfl (by decide) (by decide)) gU rfl) rfl)) gU hs2) hs1) (by decide) (by decide) hs1 rfl pins s σ H Q I ?_;obtain⟨G,ρ,st,h⟩:=h;refine tG.intro st h λx v G1 H1 u1 st1 r1 h1=>?_;refine⟨by show 2<=sizeLine;decide,λtp htp=>?_⟩;have sub:Same G1 (upd H1 tp (.tup [.ty "list",.ty "tuple"])):=λa o q=>by rw[aQ (aL (st1.sub a o q) htp)];exact st1.sub a o q
 refine⟨v,G1,x,tp,rfl,sub,r1,ba,?_⟩;unfold fu at h1;cases et:tyN x with
 |none=>rw[et]at h1;exact h1.elim
 |some t=>rw[et]at h1;exact⟨t,rfl,h1 _ G1 _ ⟨sub,.refl _,.into htp,λ_ _ z=>.inl z⟩ (.bl _)⟩
end
noncomputable def pF:List D->Option (List (List Nat))
 | []=>some []
 |.str x::ds=>(pF ds).map (x::·)
 |_=>none
noncomputable def bK(sep:List Nat):List (List Nat)->List Nat
 | []=>[]
 | [x]=>x
 |x::y::r=>x++sep++bK sep (y::r)
noncomputable def lz:D->List D->Option D
 |.str s,[.lst _ ds]=>match pF ds with
  |some xs=>if (xs.map List.length).sum+xs.length * s.length<=sizeLine then some (.str (bK s xs))else none
  |none=>none
 |_,_=>none
theorem Reps.strs{K:PySem.W.Frag}:∀{vs:List V}{ds:List D}{xs:List (List Nat)},Reps K G vs ds->pF ds=some xs->∃ys:List Str,vs=ys.map V.str/\ys.map (λy=>y.cps.toList)=xs
 |_,_,_,.nil,h=>by cases h;exact⟨[],rfl,rfl⟩
 |_,_,xs,.cons (d:=d) r t,h=>by
  cases d <;> first|(cases h;done)|skip
  rename_i x;rename_i ds';cases q:pF ds' with
  |none=>simp[pF,q]at h
  |some zs=>simp[pF,q]at h;obtain⟨ys,e1,e2⟩:=Reps.strs t q;obtain⟨y,rfl,ey,_⟩:=r.str_inv;exact⟨y::ys,by rw[e1];rfl,by rw[tv,e2,ey];exact h⟩
theorem Vals.strs:∀{ys:List Str}{us:List Value},Vals (ys.map V.str) us->StrsAre us ys
 | [],_,h=>by cases h;exact .nil
 |y::ys,_,h=>by
  cases h with
  |cons a b=>obtain⟨t,rfl⟩:=a;exact .cons y t (Vals.strs b)
def qj(s:Str):∀ys:List Str,(Txt.join s ys).cps.toList=bK s.cps.toList (ys.map λy=>y.cps.toList):=by
 intro ys;show(Builtin.Str.glued s ys).cps.toList=_;rw[StrLaws.glued_eq_join];induction ys with
 |nil=>rfl
 |cons y r ih=>
  cases r with
  |nil=>rfl
  |cons z r=>show(y++s++Str.join s (z::r)).cps.toList=_;rw[Str.app_list,Str.app_list,ih];rfl
theorem kr(s:List Nat):∀xs:List (List Nat),(bK s xs).length<=(xs.map List.length).sum+xs.length * s.length
 | []=>by simp[bK]
 | [x]=>by simp[bK]
 |x::y::r=>by have:=kr s (y::r);simp only[bK,rR,tv,j8,r6,Nat.succ_mul]at this⊢;omega
noncomputable def FO(K:PySem.W.Frag):V->List V->Hp->VK->Prop:=λx vs H Q=>∃(y:Str)(p:Addr)(ys:List Str),x=.str y/\vs=[.ref p]/\SqL K H p (ys.map V.str)/\(ys.map (·.length)).sum+ys.length * y.length<=16777216/\Q (.str (Txt.join y ys)) H
def B5:MtR X "str.join" (FO X.K):=by intro pins s σ H x xs v us Q I rx rv ⟨y,p,ys,ex,exs,hl,hz,q⟩;subst ex exs;obtain⟨t,rfl⟩:=rx;obtain⟨u,rfl,r1⟩:=rv.one;cases r1;obtain⟨its,rvs,pl,_⟩:=I.list hl;exact join_list pl.isList (Vals.strs (by simpa using rvs)) hz λt' k=>⟨.str _,H,I.tok _,⟨_,rfl⟩,q⟩
def BT(K:PySem.W.Frag):DG K "str" (FO K) lz:=by
 intro G H x xs dx ds d Q s rx rs e q;unfold lz at e;split at e
 ·split at e
  ·rename_i zs hz;split at e
   ·rename_i hle;cases e;obtain⟨v,rfl,r1⟩:=rs.one;obtain⟨y,rfl,ey,hy⟩:=rx.str_inv;obtain⟨a,vs,rfl,hs,rr⟩:=r1.seq_inv;obtain⟨ys,e1,e2⟩:=rr.strs hz;subst e1;subst e2;subst ey;have hle':(ys.map (·.length)).sum+ys.length * y.length<=16777216:=by
     have e3:(ys.map λy=>y.cps.toList).map List.length=ys.map (·.length):=by rw[v9];exact mH λz _=>Str.len_list z
     rw[e3,za,Str.len_list]at hle;exact hle
    refine⟨y,a,ys,rfl,rfl,hs.mono s,hle',q _ G H (.refl s) (.strL (qj y ys) ?_)⟩;exact w9 (kr _ _) hle
   ·cases e
  ·cases e
 ·cases e
def rn{o e:Expr}{ga:Ev->R D}{ap cp:Pos}(ho:PF X o ga)(ha:PFA X [e] gl)(hbase:attributeBase o "join" X.env (eval o X.env)=eval o X.env:=by rfl)(hfew:((backTo cp (starEach [e] X.env)).all (λx=>!x.1) && (backToKw cp (keywordEach [] X.env)).all (λx=>x.1.isSome)
 && decide ([e].length+([]:List Keyword).length+(if ([]:List Keyword).isEmpty then 0 else 1)<30))=true:=by rfl)(hline:(ap.endLine==cp.line)=true:=by rfl)(hs:starEach [e] X.env=(false,eval e X.env)::starEach [] X.env:=by rfl):
  PF X (.Call (.Attribute o "join" ap) [e] [] cp) (iH "str" lz ga gl):=mj Y6 PySem.F.slot_str_join PySem.F.type_str_join B5 (BT _) ho ha hbase hfew hline hs rfl
noncomputable def kz:List D->Option (List Int)
 | []=>some []
 |.int i::ds=>(kz ds).map (i::·)
 |_=>none
noncomputable def BB:List D->Option D
 | [.lst _ ds]=>match kz ds with
  |some (n::ns)=>some (.int (ns.foldl max n))
  |_=>none
 |_=>none
theorem Reps.nums{K:PySem.W.Frag}:∀{vs:List V}{ds:List D}{ns:List Int},Reps K G vs ds->kz ds=some ns->vs=ns.map V.int
 |_,_,_,.nil,h=>by cases h;rfl
 |_,_,ns,.cons (d:=d) r t,h=>by
  cases d <;> first|(cases h;done)|skip
  rename_i x;rename_i ds';cases q:kz ds' with
  |none=>simp[kz,q]at h
  |some zs=>simp[kz,q]at h;subst h;rw[Reps.nums t q,r.int_inv];rfl
theorem Vals.nums:∀{ns:List Int}{us:List Value},Vals (ns.map V.int) us->us.length=ns.length/\∀(i:Nat) u,us[i]?=some u->∃t,u=.int (ns.getD i 0) t
 | [],_,h=>by cases h;exact⟨rfl,λi u e=>by simp at e⟩
 |n::ns,_,h=>by
  cases h with
  |cons a b=>
   obtain⟨t,rfl⟩:=a;obtain⟨hl,hg⟩:=Vals.nums b;refine⟨by simp[hl],λi u e=>?_⟩;cases i with
   |zero=>simp at e;exact⟨t,e.symm⟩
   |succ i=>simp at e;simpa using hg i u e
theorem kj:∀(ns:List Int)(n:Int),n<=ns.foldl max n/\(∀a∈ns,a<=ns.foldl max n)/\(ns.foldl max n=n\/ns.foldl max n∈ns)
 | [],n=>⟨by simp,by simp,by simp⟩
 |m::ns,n=>by
  obtain⟨h1,h2,h3⟩:=kj ns (max n m);refine⟨?_,?_,?_⟩;·simp only[l5];omega
  ·intro a ha;simp only[l5];rcases v0.1 ha with rfl|ha;·omega
   ·exact h2 a ha
  ·simp only[l5];rcases h3 with h3|h3
   ·rw[h3];rcases Int.le_total n m with q|q;·rw[Int.max_eq_right q];exact .inr (sS ..)
    ·rw[Int.max_eq_left q];exact .inl rfl
   ·exact .inr (rO _ h3)
def zU{ns:List Int}{n a:Int}(h:a∈n::ns):∃j,j<(n::ns).length/\(n::ns).getD j 0=a:=by obtain⟨j,hj,e⟩:=List.mem_iff_getElem.1 h;exact⟨j,hj,by rw[xZ,xw hj];exact e⟩
def zn{ns:List Int}{n:Int}(h:j<(n::ns).length):(n::ns).getD j 0∈n::ns:=by rw[xZ,xw h];exact oG h
section
def wC(hc:X.calm=true):gT X (.builtin "max") (λxs H Q=>∃p n ns,xs=[.ref p]/\SqL X.K H p ((n::ns).map V.int)/\Q (.int (ns.foldl max n)) H):=by
 intro pins s σ H xs us Q I r ⟨p,n,ns,ex,hs,q⟩;subst ex;obtain⟨u,rfl,r1⟩:=r.one;cases r1;obtain⟨its,rv,pl,hz⟩:=I.list hs;obtain⟨hlen,hget⟩:=Vals.nums rv;have hh:X.A.in1.handled=none:=I.ok.hd hc;have hlt:p<s.heap.objs.size:=by obtain⟨o,n,e,_⟩:=id pl;exact xz e
 refine call_max_walk (Zp pl.isList ?_);refine⟨s.heap.objs.size,[s.heap.objs.size,p],[s.heap.objs.size],_,_,_,_,rfl,Walks.list hh s.heap.objs.size p (t5 hlt) its.toArray,⟨⟨_,t8 _ rfl,rfl,rfl⟩,?_⟩,?_,?_,CmpOf.ints_gt (λi=>(n::ns).getD i 0) (λi v hv=>hget i v (by simpa using hv)),λv h' tk hP hk=>?_⟩;·obtain⟨o,n,e,c,_,d⟩:=id pl;exact⟨o,w8 _ e,c,n,d⟩
 ·intro b hb;have e:(s.heap.push { cls:=.type "list_iterator",data:=.fields #[.ref p,.int 0 0] }).objs.size=s.heap.objs.size+1:=p6 _ _;show b<(s.heap.push { cls:=.type "list_iterator",data:=.fields #[.ref p,.int 0 0] }).objs.size;rw[e];simp only[v0,sy,sH]at hb;rcases hb with rfl|rfl;·exact c8 _
  ·exact Zt hlt
 ·rw[v4,hlen];simp
 ·have hP':its.toArray[argBest (λi j=>decide ((n::ns).getD i 0 > (n::ns).getD j 0)) (its.toArray.size - 1)]?=some v:=hP;rw[Zz]at hP';obtain⟨t,rfl⟩:=hget _ v hP';have e1:its.toArray.size - 1=ns.length:=by rw[v4,hlen];simp
  obtain⟨a1,a2⟩:=argBest_gt (λi=>(n::ns).getD i 0) ns.length;have e2:(n::ns).getD (argBest (λi j=>decide ((n::ns).getD i 0 > (n::ns).getD j 0)) ns.length) 0=ns.foldl max n:=by
   obtain⟨m1,m2,m3⟩:=kj ns n;refine Int.le_antisymm ?_ ?_
   ·have:=zn (ns:=ns) (n:=n) (j:=argBest (λi j=>decide ((n::ns).getD i 0 > (n::ns).getD j 0)) ns.length) (by rw[r6];exact Nat.lt_succ_of_le a1);rcases v0.1 this with q|q;·rw[q];exact m1
    ·exact m2 _ q
   ·obtain⟨j,hj,e⟩:=zU (ns:=ns) (n:=n) (a:=ns.foldl max n) (by
     rcases m3 with q|q;·rw[q];exact sS ..
     ·exact rO _ q);rw[<- e];exact a2 j (by simp at hj;omega)
  rw[e1,e2];refine⟨.int _,H,I.kept (t':=tk) λb o eb=>hk b o (λz=>?_) (w8 _ eb),⟨_,rfl⟩,q⟩;have:b=s.heap.objs.size:=by simpa using z
  exact mK _ (this▸xz eb)
def Cj(K:PySem.W.Frag):Bx K (λxs H Q=>∃p n ns,xs=[.ref p]/\SqL K H p ((n::ns).map V.int)/\Q (.int (ns.foldl max n)) H) BB:=by
 intro G H xs ds d Q s r e q;unfold BB at e;split at e
 ·split at e;·rename_i n ns hn;cases e;obtain⟨v,rfl,r1⟩:=r.one;obtain⟨a,vs,rfl,hs,rr⟩:=r1.seq_inv;obtain rfl:=rr.nums hn;exact⟨a,n,ns,rfl,hs.mono s,q _ G H (.refl s) (.int _)⟩
  ·cases e
 ·cases e
def A8{e:Expr}{pos:Pos}(hc:X.calm=true)(hg:Gl X "max")(hm:X.mg "max"=none)(ha:PFA X [e] gl)(he:starEach [e] X.env=(false,eval e X.env)::starEach [] X.env:=by rfl):
  PF X (.Call (.Name "max" p) [e] [] pos) (gOf BB gl):=gI (wC hc) (Cj _) hg hm PyProof.Rows.Boot.«max» ha (by decide) (by decide) he rfl
def zd{e:Expr}{ga:Ev->R D}{p2 pos:Pos}(hm:X.mg "isinstance"=none)(ha:PF X e ga)(hm2:X.mg "list"=none)(hg2:Gl X "list":=by rfl)(hg:Gl X "isinstance":=by rfl)(hs1:starEach [e,.Name "list" p2] X.env=(false,eval e X.env)::starEach [.Name "list" p2] X.env:=by rfl):PF X (.Call (.Name "isinstance" p) [e,.Name "list" p2] [] pos) (aK (fu (·=="list")) ga):=yu hm ha hm2 hg2 hg hs1
end
end L2
namespace L2
open PySem PySem.Spec PyProof.Rows
open Sem (wp)
open AutoSeq1 (wpAny_loadPart')
def EN:isSubtype (.type "enumerate") (.type "enumerate")=pure true:=PySem.sub_enumerate
def BM(l:Addr)(its:Array Value)(n:Nat)(dct:Option Addr)(sl:Array (Option Value)):
  Meets (Builtin.«enumerate.__new__» ⟨[.type "enumerate",.ref l],[]⟩) (λ_ Rr s=>s.heap.get? l=some { cls:=.type "tuple",dict:=dct,data:=.seq its n,slots:=sl }/\
   Rr (.ok (.ret (.ref (s.heap.push { cls:=.type "tuple_iterator",data:=.fields #[.ref l,.int 0 0] }).objs.size)))
    { s with heap:=(s.heap.push { cls:=.type "tuple_iterator",data:=.fields #[.ref l,.int 0 0] }).push { cls:=.type "enumerate",data:=.fields #[.none,.bool false,.ref s.heap.objs.size,rawInt 0,.none,.none] } }):=
 .of_wp λprog w A Rr s h=>by
  obtain⟨hp,g,d,tk,os⟩:=s;obtain⟨hl,h⟩:=h;have hsub:=EN;have hT:Heap.IsTuple (Shared.heap ⟨hp,g,d,tk,os⟩) l its:=⟨_,hl,rfl,n,rfl⟩
  wp_walk using Y7 hl
  refine wpAny_stack_any λst=>z9 ?_;split;·rename_i c _ _ _ _ _;cases (c==Value.type "enumerate") <;> (wp_walk using Y7 hl,Zq hT;exact⟨_,rfl,h⟩)
  ·wp_walk using Y7 hl,Zq hT
   exact⟨_,rfl,h⟩
section
variable{prog:Program}{w:World}{A:Around}
def CV{itT:String}{l:Addr}{c:Int}{Q:Value->Shared->Prop}(h:∀h',IsEnum h' (s.heap.objs.size+1) s.heap.objs.size c .none->h'.get? s.heap.objs.size=some { cls:=.type itT,data:=.fields #[.ref l,.int 0 0] }->h'.objs.size=s.heap.objs.size+2->
 (∀b o,s.heap.get? b=some o->h'.get? b=some o)->Q (.ref (s.heap.objs.size+1)) { s with heap:=h' }):
  wants (λobj s₁=>s₁.TypeIs obj "enumerate"/\Q obj s₁) E (.ok (.ret (.ref (s.heap.push { cls:=.type itT,data:=.fields #[.ref l,.int 0 0] }).objs.size)))
   { s with heap:=(s.heap.push { cls:=.type itT,data:=.fields #[.ref l,.int 0 0] }).push { cls:=.type "enumerate",data:=.fields #[.none,.bool false,.ref s.heap.objs.size,rawInt c,.none,.none] } }:=by
 have hz:(s.heap.push { cls:=.type itT,data:=.fields #[.ref l,.int 0 0] }).objs.size=s.heap.objs.size+1:=p6 ..;have he:IsEnum ((s.heap.push { cls:=.type itT,data:=.fields #[.ref l,.int 0 0] }).push { cls:=.type "enumerate",data:=.fields #[.none,.bool false,.ref s.heap.objs.size,rawInt c,.none,.none] }) (s.heap.objs.size+1) s.heap.objs.size c .none:=by have q:=t8 (s.heap.push { cls:=.type itT,data:=.fields #[.ref l,.int 0 0] }) (o:={ cls:=.type "enumerate",data:=.fields #[.none,.bool false,.ref s.heap.objs.size,rawInt c,.none,.none] }) rfl;rw[hz]at q;exact q
 show _/\_;rw[hz];exact⟨⟨_,he,rfl⟩,h _ he (w8 _ (t8 _ rfl)) (by rw[p6,hz]) λb o x=>w8 _ (w8 _ x)⟩
theorem zj{l:Addr}{its:Array Value}{dct:Option Addr}{sl:Array (Option Value)}{Q:Value->Shared->Prop}(hl:s.heap.get? l=some { cls:=.type "tuple",dict:=dct,data:=.seq its n,slots:=sl })(h:∀h',IsEnum h' (s.heap.objs.size+1) s.heap.objs.size 0 .none->h'.get? s.heap.objs.size=some { cls:=.type "tuple_iterator",data:=.fields #[.ref l,.int 0 0] }->h'.objs.size=s.heap.objs.size+2->
 (∀b o,s.heap.get? b=some o->h'.get? b=some o)->Q (.ref (s.heap.objs.size+1)) { s with heap:=h' }):
  wpAny (model prog w) A (call (.type "enumerate") [.ref l]) Q E s:=
 callType_new F.called_enumerate (by decide) (F.typeCall_enumerate_1 _) (F.newCall_enumerate_1 _) (λobj=>F.args_object_init_2 obj _) F.entry_enumerate_new (BM l its n dct sl) ⟨hl,CV h⟩
def BO{t:Addr}{its:Array Value}{x:Value}{Q:Value->Shared->Prop}(hit:s.heap.IsTupleIter it t i)(ht:s.heap.IsTuple t its)(hx:its[i]?=some x)(hQ:∀h',h'.IsTupleIter it t (i+1)->Heap.SameBut it s.heap h'->Q x { s with heap:=h' }):wpAny (model prog w) A (Builtin.SmallTypes.nextOf (.ref it)) Q E s:=by
 obtain⟨ob,h1,h2,h3⟩:=id hit;obtain⟨ot,k1,_,m,k2⟩:=ht;unfold Builtin.SmallTypes.nextOf;refine z6 (kY (name:=Str.ofString "__next__") hit.typeIs j9 (lH j9 hit.typeIs ZC ?_ (ZD _)));refine z6 (m:=field (.ref it) 0) (qC h1 h3 (x:=.ref t) rfl ?_);show wpAny _ _ (if (Value.ref t==Value.none)=true then _ else _) _ _ s;rw[if_neg (by exact rK)];refine z6 (m:=field (.ref it) 1) (qC h1 h3 (x:=.int i 0) rfl (z6 (m:=seqItems? (.ref t)) (oz k1 k2 ?_)));simp only[tI,hx];refine z6 (ZE h1 h3 (by simp) (z9 ⟨x,rfl,z9 (hQ _ ⟨_,Zj _ h1 (Obj.isFreed_of_fields (ZF h3 _)),(Obj.cls_mapFields ..).trans h2,?_⟩ (nT ..))⟩));rw[ZF h3];simp[rawInt]
def Bz{t:Addr}{its:Array Value}{Q:Value->Shared->Prop}(hh:A.handled=none)(hit:s.heap.IsTupleIter it t i)(ht:s.heap.IsTuple t its)(hx:its[i]?=none)(hE:∀h' e,Heap.ExtBut it s.heap h'->(∃o,h'.get? e=some o/\o.cls=.type "StopIteration")->E (.ref e) { s with heap:=h' }):wpAny (model prog w) A (Builtin.SmallTypes.nextOf (.ref it)) Q E s:=by
 obtain⟨ob,h1,h2,h3⟩:=id hit;obtain⟨ot,k1,_,m,k2⟩:=ht;unfold Builtin.SmallTypes.nextOf;refine z6 (kY (name:=Str.ofString "__next__") hit.typeIs j9 (lH j9 hit.typeIs ZC ?_ (ZD _)));refine z6 (m:=field (.ref it) 0) (qC h1 h3 (x:=.ref t) rfl ?_);show wpAny _ _ (if (Value.ref t==Value.none)=true then _ else _) _ _ s;rw[if_neg (by exact rK)];refine z6 (m:=field (.ref it) 1) (qC h1 h3 (x:=.int i 0) rfl (z6 (m:=seqItems? (.ref t)) (oz k1 k2 ?_)));simp only[tI,hx];refine z6 (lT (z6 (ZE h1 h3 (by simp) (z6 (m:=newExc (.type "StopIteration") []) ?_))));simp only[newExc,newTuple];refine z6 (mz (z6 (m:=firstArgMember _ _) (j7 (a:=Value.none) (by first|rfl|(simp only[firstArgMember];rfl)) (mz ?_ (by size_fits)))) (by size_fits));simp only[raiseNew];refine z6 (wpAny_handled ?_)
 first|rw[show A.in1.handled=none from hh]|rw[hh]
 exact z6 (z9 (wpAny_throw (hE _ _ (((nT ..).extBut.push _).push _) ⟨_,t8 _ rfl,rfl⟩)))
end
def FD{prog:Program}{w:World}{A:Around}(hh:A.handled=none)(it l:Addr)(hne:l≠it)(its:Array Value)(c:Nat):
  Draws prog w A it [it,l] (c+its.size) (λi v=>∃k,i=c+k/\its[k]?=some v) (λi h=>∃k,i=c+k/\h.IsTupleIter it l k/\h.IsTuple l its) where
 live:=λ_ _ ⟨_,_,st,_⟩=>let⟨o,ho,_⟩:=st;⟨o,ho⟩
 frame:=λ_ _ _ ⟨k,e,st,t⟩ hk=>⟨k,e,st.at λo e=>hk it (by simp) o e,let⟨o,ho,r⟩:=t;⟨o,hk l (by simp) o ho,r⟩⟩
 item:=λi s Q E hi ⟨k,e,st,t⟩ hQ=>by
  have hk:k<its.size:=by omega
  refine BO st t (x:=its[k]) (by simp[hk]) λh' st' sb=>hQ _ h' s.toks ⟨k,e,by simp[hk]⟩ ⟨k+1,by omega,st',?_⟩ sb;obtain⟨o,ho,r⟩:=t;exact⟨o,(sb.2 l hne).trans ho,r⟩
 done:=λs Q E ⟨k,e,st,t⟩ hE=>Bz hh st t (Array.getElem?_eq_none (by omega)) hE
def GB{prog:Program}{w:World}{A:Around}(hh:A.handled=none)(it l:Addr)(hne:l≠it)(its:Array Value)(c:Nat):
  Draws prog w A it [it,l] (c+its.size) (λi v=>∃k,i=c+k/\its[k]?=some v) (λi h=>∃k,i=c+k/\h.IsListIter it l k/\h.IsList l its) where
 live:=λ_ _ ⟨_,_,st,_⟩=>let⟨o,ho,_⟩:=st;⟨o,ho⟩
 frame:=λ_ _ _ ⟨k,e,st,t⟩ hk=>⟨k,e,st.at λo e=>hk it (by simp) o e,t.at λo e=>hk l (by simp) o e⟩
 item:=λi s Q E hi ⟨k,e,st,t⟩ hQ=>by
  have hk:k<its.size:=by omega
  exact wpAny_nextOf_list_item st t (x:=its[k]) (by simp[hk]) λh' st' sb=>hQ _ h' s.toks ⟨k,e,by simp[hk]⟩ ⟨k+1,by omega,st',t.extBut sb.extBut hne⟩ sb
 done:=λs Q E ⟨k,e,st,t⟩ hE=>Y8 hh st t (Array.getElem?_eq_none (by omega)) hE
def Inv.turned2{σ:List (Option V)}{t':Nat}{e:Addr}(I:Inv X pins σ H s)(k:∀b o,b≠it->b≠e->s.heap.get? b=some o->h'.get? b=some o)(f1:kE X pins H it)(f2:kE X pins H e):
  Inv X pins σ H { s with heap:=h',toks:=t' }:=by
 obtain⟨a0,a1,a2,a3,a4,a5⟩:=f1;obtain⟨b0,b1,b2,b3,b4,b5⟩:=f2;have n1:∀b u,H b=some u->b≠it:=λb u q z=>by rw[z,a0]at q;cases q
 have n2:∀b u,H b=some u->b≠e:=λb u q z=>by rw[z,b0]at q;cases q
 have kk:∀b o,b∉[it,e]->s.heap.get? b=some o->h'.get? b=some o:=λb o hb q=>k b o (λz=>hb (by simp[z])) (λz=>hb (by simp[z])) q;refine I.step (g':=s.gens) (d':=s.drawn) (ch:=[it,e]) (λb hb=>?_) (λb o _ _ hc q _=>kk b o hc q) (λb o _ _ hc q _=>⟨o.slots,kk b o hc q⟩) (λ_ _ _ _ n=>n) (λb o hc q=>⟨o,kk b o hc q⟩) (λ_ _ q=>q) (λ_ _ _ q=>q) (λb ps q=>⟨#[],by rw[q];simp⟩) (λm hm=>?_) (λb u q=>?_) I.bare
 ·simp only[v0,sy,sH]at hb;rcases hb with rfl|rfl;·exact⟨a3,a1,a4,a5⟩
  ·exact⟨b3,b1,b4,b5⟩
 ·obtain⟨o,es,ep,ho,r⟩:=hm;exact⟨o,es,ep,k _ o (uS a1) (uS b1) ho,r⟩
 ·refine(I.hok b u q).stay (λc v hc q'=>k c v ?_ ?_ q') (λ_ q'=>q') λ_ _ q'=>q'
  ·rcases hc with z|z;·rw[z];exact n1 b u q
   ·exact n1 c _ z
  ·rcases hc with z|z;·rw[z];exact n2 b u q
   ·exact n2 c _ z
noncomputable def Ite(sq:Hp->List V->Prop)(c:Nat):It:=⟨λi H=>∃xs x,sq H xs/\xs[i]?=some x,
 λi H v H'=>∃p x,v=.ref p/\H p=none/\H'=upd H p (.tup [.int ((c+i:Nat):Int),x])/\∀xs,sq H xs->xs[i]?=some x,λi H=>∃xs,sq H xs/\xs.length<=i⟩
section
variable{w:World}{K:PySem.W.Frag}{elts:List Expr}{kt:Nat}{tp:Pos}
structure Inner(P:Program)(w:World)(K:PySem.W.Frag)(sq:Hp->List V->Prop)(a it:Addr)(iter:Nat->Heap->Prop):Prop where
 obj:∀i h,iter i h->∃o,h.get? it=some o/\∀v,o.data≠.cell v
 at_:∀i h h',iter i h->(∀o,h.get? it=some o->h'.get? it=some o)->iter i h'
 inj:∀(X:Cx),X.K=K->∀(pins:List (Addr×Obj))(σ:St)(H:Hp)(s:Shared) xs ys,Inv X pins σ H s->sq H xs->sq H ys->xs=ys
 dr:∀(X:Cx),X.prog=P->X.w=w->X.K=K->X.calm=true->∀(pins:List (Addr×Obj))(σ:St)(H:Hp)(s:Shared)(xs:List V)(c:Nat),Inv X pins σ H s->sq H xs->(∀i,iter i s.heap->a≠it)->
  ∃its:List Value,Vals xs its/\xs.length<=sizeLine/\∃(Pd:Nat->Value->Prop)(St:Nat->Heap->Prop),Draws P w X.A.in1 it [it,a] (c+its.length) Pd St/\(∀k v,Pd (c+k) v->its[k]?=some v)/\
   (∀k h,iter k h->(∀o,s.heap.get? a=some o->h.get? a=some o)->a≠it->St (c+k) h)/\∀k h,St (c+k) h->iter k h
 fin:∀(X:Cx),X.prog=P->X.w=w->X.K=K->X.calm=true->∀(pins:List (Addr×Obj))(σ:St)(H:Hp)(s:Shared)(xs:List V)(i:Nat)(Q:Value->Shared->Prop)(E:Value->Shared->Prop),Inv X pins σ H s->sq H xs->xs.length<=i->iter i s.heap->
  (∀h' x,Heap.ExtBut it s.heap h'->(∃o,h'.get? x=some o/\o.cls=.type "StopIteration")->E (.ref x) { s with heap:=h' })->wpAny (model P w) X.A.in1 (Builtin.SmallTypes.nextOf (.ref it)) Q E s
def qT{b:Addr}{ob o:Obj}(hb:b<h.objs.size)(q:(h.push ob).get? b=some o):h.get? b=some o:=by unfold Heap.get? Heap.push at *;simpa[Array.getElem?_push,t5 hb]using q
theorem F5{prog:Program}{A:Around}{e:Addr}{c:Int}{old:Value}{Q:Option Value->Shared->Prop}(he:IsEnum s.heap e it c old)(hn:∀(Q':Value->Shared->Prop)(E':Value->Shared->Prop),(∀h' x,Heap.ExtBut it s.heap h'->(∃o,h'.get? x=some o/\o.cls=.type "StopIteration")->E' (.ref x) { s with heap:=h' })->wpAny (model prog w) A.in1 (Builtin.SmallTypes.nextOf (.ref it)) Q' E' s)(hQ:∀h',Heap.ExtBut it s.heap h'->Q none { s with heap:=h' }):wpAny (model prog w) A (pyNext (.ref e)) Q E s:=by
 have ht:s.TypeIs (.ref e) "enumerate":=⟨_,he,rfl⟩
 unfold pyNext;refine z6 (iO (kY (name:=Str.ofString "__next__") ht F.slot_enumerate_next (lH F.slot_enumerate_next ht F.entry_enumerate_next ?_ (F.args_enumerate_next_1 _))));refine z6 (m:=field (.ref e) 2) (qC he rfl (x:=.ref it) rfl (z6 (hn _ _ λh' x hb hx=>?_)));obtain⟨o,ho,hc⟩:=hx;exact z6 (wpAny_isInstance (T:="StopIteration") (b:=true) ⟨o,ho,hc⟩ isSubtype_stop (z9 (hQ _ hb)))
def wR{e:Addr}{iter:Nat->Heap->Prop}(N:Inner P w K sq a it iter)(c:Nat)(hei:e≠it)(hea:e≠a)(hai:a≠it):
  Turn P w K (.Tuple elts kt tp) (Ite sq c) [e,it] e (λi h=>(∃old,IsEnum h e it ((c+i:Nat):Int) old)/\iter i h) where
 mem:=by simp
 obj:=λi h st b hb=>by
  simp only[v0,sy,sH]at hb;rcases hb with rfl|rfl
  ·obtain⟨old,q⟩:=st.1;exact⟨_,q,λv z=>by cases z⟩
  ·exact N.obj i h st.2
 keep:=λi h h' st k=>⟨st.1.imp λold q=>k e (by simp) _ q,N.at_ i h h' st.2 λo q=>k it (by simp) o q⟩
 item:=by
  intro X hP hw hK hc i pins s σ H E I hf st hg;obtain⟨xs,x,hq,hx⟩:=hg;obtain⟨⟨old,he⟩,hi⟩:=st;obtain⟨its,rv,hz,Pd,St,Dr,p1,p2,p3⟩:=N.dr X hP hw hK hc pins σ H s xs c I hq λ_ _=>hai;obtain⟨u,hu,ru⟩:=rv.get hx;have hil:i<its.length:=(sT.mp hu).1;have fe:=hf e (by simp);have fi:=hf it (by simp);subst hP hw;refine wpAny_pyNext_enum_itemD Dr he (p2 i _ hi (λ_ q=>q) hai) (by omega) hei (by simp only[v0,sy,sH,not_or];exact⟨hei,hea⟩) λy h1 tk hy ho hs1 ht hsz hk=>?_;have ey:y=u:=by have q:=p1 i y hy;rw[hu]at q;exact(uV q).symm
  subst ey;refine⟨_,rfl,wpAny_letOwnedTupleGo_enum ho λh2 he2 sb=>?_⟩;have helt:e<s.heap.objs.size:=xz he;have hpe:s.heap.objs.size≠e:=lB helt;obtain⟨oi,hoi,_⟩:=N.obj i _ hi;have hpi:s.heap.objs.size≠it:=lB (xz hoi);have hp:H s.heap.objs.size=none:=I.hok.fresh (yo _);have Ia:Inv X pins σ (upd H s.heap.objs.size (.tup [.int ((c+i:Nat):Int),x])) { s with heap:=s.heap.push { cls:=.type "tuple",data:=.seq #[.int ((c+i:Nat):Int) tk,y] } }:=by refine I.laid (t':=s.toks) (λb o q=>w8 _ q) (yo _) ?_;exact⟨by show 2<=sizeLine;decide,[.int ((c+i:Nat):Int) tk,y],.cons ⟨tk,rfl⟩ (.cons ru .nil),dO _ _⟩
  have fe':kE X pins (upd H s.heap.objs.size (.tup [.int ((c+i:Nat):Int),x])) e:=⟨by rw[aQ (uS hpe)];exact fe.1,fe.2⟩
  have fi':kE X pins (upd H s.heap.objs.size (.tup [.int ((c+i:Nat):Int),x])) it:=⟨by rw[aQ (uS hpi)];exact fi.1,fi.2⟩
  have ht2:h2.get? s.heap.objs.size=some { cls:=.type "tuple",data:=.seq #[.int ((c+i:Nat):Int) tk,y] }:=(sb.2 _ hpe).trans ht;have Ib:Inv X pins σ (upd H s.heap.objs.size (.tup [.int ((c+i:Nat):Int),x])) { s with heap:=h2,toks:=tk+1 }:=by
   refine Ia.turned2 (t':=tk+1) (λb o n1 n2 q=>?_) fi' fe';by_cases z:b=s.heap.objs.size;·subst z;have q':=t8 s.heap (o:={ cls:=.type "tuple",data:=.seq #[.int ((c+i:Nat):Int) tk,y] }) rfl;have q:(s.heap.push { cls:=.type "tuple",data:=.seq #[.int ((c+i:Nat):Int) tk,y] }).get? s.heap.objs.size=some o:=q;rw[q']at q;rw[ht2];exact q
   ·have q:(s.heap.push { cls:=.type "tuple",data:=.seq #[.int ((c+i:Nat):Int) tk,y] }).get? b=some o:=q;have q2:s.heap.get? b=some o:=by
     rcases ZG b s.heap.objs.size with hb|hb;·exact qT hb q
     ·have hlt:b<(s.heap.push { cls:=.type "tuple",data:=.seq #[.int ((c+i:Nat):Int) tk,y] }).objs.size:=xz q;rw[p6]at hlt;exact absurd (Nat.le_antisymm (Nat.le_of_lt_succ hlt) hb) z
    exact(sb.2 b n2).trans (hk b o n2 n1 q2)
  refine⟨.ref s.heap.objs.size,_,Ib,rfl,⟨_,x,rfl,hp,rfl,λys hy'=>by rw[N.inj X hK pins σ H s ys xs I hy' hq];exact hx⟩,⟨⟨y,by have q:=he2;rw[show((c+(i+1):Nat):Int)=((c+i:Nat):Int)+1 by omega];exact q⟩,?_⟩,λb hb=>?_⟩;·refine N.at_ (i+1) h1 h2 (p3 (i+1) h1 hs1) λo q=>(sb.2 it (uS hei)).trans q
  ·simp only[v0,sy,sH]at hb;rcases hb with rfl|rfl;·exact fe'.1
   ·exact fi'.1
 done:=by intro X hP hw hK hc i pins s σ H E I hf st hg;obtain⟨xs,hq,hx⟩:=hg;obtain⟨⟨old,he⟩,hi⟩:=st;have fi:=hf it (by simp);have fin:=N.fin X hP hw hK hc pins σ H s xs i;subst hP hw;exact F5 he (λQ' E' hE=>fin Q' E' I hq hx hi hE) λh' hb=>⟨rfl,I.turned (t':=s.toks) (λb o n q=>hb b o n q) fi.1 fi.2.1 fi.2.2.2.1 fi.2.2.2.2.1 fi.2.2.2.2.2⟩
 self:=λA i s Q E st h=>by obtain⟨⟨old,he⟩,_⟩:=st;exact ZH he h
def wF(a it:Addr):Inner P w K (λH xs=>SqT K H a xs) a it (λi h=>h.IsTupleIter it a i) where
 obj:=λi h st=>let⟨o,q,c,d⟩:=st;⟨o,q,λv z=>by rw[d]at z;cases z⟩
 at_:=λi h h' st k=>st.at k
 inj:=λX hK pins σ H s xs ys I h1 h2=>by subst hK;exact I.tuple_inj h1 h2
 dr:=λX hP hw hK hc pins σ H s xs c I hq hne=>by
  subst hP hw hK;obtain⟨its,rv,p,hz⟩:=I.tuple hq;have hh:X.A.in1.handled=none:=I.ok.hd hc;by_cases hai:a=it;·exact⟨its,rv,hz,λ_ _=>False,λ_ _=>False,⟨λ_ _ z=>z.elim,λ_ _ _ z _=>z,λ_ _ _ _ _ z _=>z.elim,λ_ _ _ z _=>z.elim⟩,λ_ _ z=>z.elim,λ_ _ _ _ z=>absurd hai z,λ_ _ z=>z.elim⟩
  ·have Dq:=FD (prog:=X.prog) (w:=X.w) hh it a hai its.toArray c;rw[v4]at Dq;refine⟨its,rv,hz,λi v=>∃k,i=c+k/\its.toArray[k]?=some v,λi h=>∃k,i=c+k/\h.IsTupleIter it a k/\h.IsTuple a its.toArray,Dq,λk v q=>?_,λk h st kp _=>⟨k,rfl,st,?_⟩,λk h q=>?_⟩
   ·obtain⟨k',e,q⟩:=q;have:k=k':=by omega
    subst this;simpa using q
   ·obtain⟨o,ho,r⟩:=p;exact⟨o,kp o ho,r⟩
   ·obtain⟨k',e,st,_⟩:=q;have:k=k':=by omega
    subst this;exact st
 fin:=λX hP hw hK hc pins σ H s xs i Q E I hq hx st hE=>by subst hP hw hK;obtain⟨its,rv,p,hz⟩:=I.tuple hq;have hl:=rv.length;exact Bz (I.ok.hd hc) st (show s.heap.IsTuple a its.toArray from p) (by simp;omega) hE
def qx(a it:Addr):Inner P w K (λH xs=>SqL K H a xs) a it (λi h=>h.IsListIter it a i) where
 obj:=λi h st=>let⟨o,q,c,d⟩:=st;⟨o,q,λv z=>by rw[d]at z;cases z⟩
 at_:=λi h h' st k=>st.at k
 inj:=λX hK pins σ H s xs ys I h1 h2=>by subst hK;exact I.list_inj h1 h2
 dr:=λX hP hw hK hc pins σ H s xs c I hq hne=>by
  subst hP hw hK;obtain⟨its,rv,p,hz⟩:=I.list hq;have hh:X.A.in1.handled=none:=I.ok.hd hc;by_cases hai:a=it;·exact⟨its,rv,hz,λ_ _=>False,λ_ _=>False,⟨λ_ _ z=>z.elim,λ_ _ _ z _=>z,λ_ _ _ _ _ z _=>z.elim,λ_ _ _ z _=>z.elim⟩,λ_ _ z=>z.elim,λ_ _ _ _ z=>absurd hai z,λ_ _ z=>z.elim⟩
  ·have Dq:=GB (prog:=X.prog) (w:=X.w) hh it a hai its.toArray c;rw[v4]at Dq;refine⟨its,rv,hz,λi v=>∃k,i=c+k/\its.toArray[k]?=some v,λi h=>∃k,i=c+k/\h.IsListIter it a k/\h.IsList a its.toArray,Dq,λk v q=>?_,λk h st kp _=>⟨k,rfl,st,?_⟩,λk h q=>?_⟩
   ·obtain⟨k',e,q⟩:=q;have:k=k':=by omega
    subst this;simpa using q
   ·obtain⟨o,ho,r⟩:=p.isList;exact⟨o,kp o ho,r⟩
   ·obtain⟨k',e,st,_⟩:=q;have:k=k':=by omega
    subst this;exact st
 fin:=λX hP hw hK hc pins σ H s xs i Q E I hq hx st hE=>by subst hP hw hK;obtain⟨its,rv,p,hz⟩:=I.list hq;have hl:=rv.length;exact Y8 (I.ok.hd hc) st p.isList (by simp;omega) hE
end
end L2
namespace L2
open PySem PySem.Spec PyProof.Rows
noncomputable def bN(c:Nat)(xs:List D):List D:=(List.range xs.length).map λi=>.tup [.int ((c+i:Nat):Int),xs.getD i .non]
def qo{xs:List D}(h:(bN c xs)[i]?=some d):∃x,xs[i]?=some x/\d=.tup [.int ((c+i:Nat):Int),x]:=by
 unfold bN at h;rw[v8]at h;by_cases hi:i<xs.length
 ·rw[l7 hi]at h;refine⟨xs[i],xw hi,?_⟩;have e:xs.getD i .non=xs[i]:=by rw[xZ,xw hi];rfl
  rw[<- e];exact(uV h).symm
 ·rw[Z4 (by simp;omega)]at h;cases h
def lA(c:Nat)(xs:List D):(bN c xs).length=xs.length:=by simp[bN]
def ItOk.enum{K:PySem.W.Frag}(hs:∀G1 H1,Same G G1->Same G1 H1->sq H1 vs)(r:Reps K G vs ds):ItOk K G (Ite sq c) (bN c ds):=by intro i G1 H1 s1 s2;refine⟨λd e=>?_,λhl=>⟨vs,hs G1 H1 s1 s2,by rw[lA]at hl;rw[r.length];exact hl⟩⟩;obtain⟨dx,ex,rfl⟩:=qo e;obtain⟨v,ev,rv⟩:=r.get ex;refine⟨⟨vs,v,hs G1 H1 s1 s2,ev⟩,λx H' y=>?_⟩;obtain⟨p,x',rfl,hp,rfl,y⟩:=y;have z:=y vs (hs G1 H1 s1 s2);rw[ev]at z;cases z;refine⟨upd G1 p (.tup [.int ((c+i:Nat):Int),v]),.new s2 hp,.tup (.of ba) (.cons (.int _) (.cons ((rv.mono s1).mono (.into (s2.free hp))) .nil))⟩
section
variable{elts:List Expr}{kt:Nat}{tp:Pos}{Rr:It->Hp->Prop}
def nZ{l:Addr}{iter:Nat->Heap->Prop}(I:Inv X pins σ H s)(N:Inner X.prog X.w X.K sq l (s.heap.objs.size) iter)(hl:l<s.heap.objs.size)(he:IsEnum h' (s.heap.objs.size+1) s.heap.objs.size (c:Int) .none)(hi:iter 0 h')(hk:∀b o,s.heap.get? b=some o->h'.get? b=some o)(q:Rr (Ite sq c) H):PIE X pins σ (.Tuple elts kt tp) Rr (.ref (s.heap.objs.size+1)) { s with heap:=h' }:=by
 have hlt:s.heap.objs.size<=s.heap.objs.size+1:=Z6 _;refine⟨_,_,_,_,H,rfl,I.kept (t':=s.toks) hk,wR N c (lB (c8 _)) (lB (Zt hl)) (t5 hl),⟨⟨_,he⟩,hi⟩,λb hb=>?_,q⟩;simp only[v0,sy,sH]at hb;rcases hb with rfl|rfl;·exact I.fpOk hlt (I.hok.fresh hlt)
 ·exact I.fpOk (yo _) (I.hok.fresh (yo _))
def SqT.lt'(I:Inv X pins σ H s)(h:SqT X.K H a xs):a<s.heap.objs.size:=by obtain⟨its,rv,⟨o,q,_⟩,_⟩:=I.tuple h;exact xz q
def SqL.lt'(I:Inv X pins σ H s)(h:SqL X.K H a xs):a<s.heap.objs.size:=by obtain⟨its,rv,p,_⟩:=I.list h;obtain⟨o,q,_⟩:=p.isList;exact xz q
end
noncomputable def rT:D->R (List D)
 |.lst _ xs=>.ok (bN 0 xs)
 |.tup xs=>.ok (bN 0 xs)
 |_=>.no
noncomputable def AZ:D->D->R (List D)
 |.tup xs,.int c=>if 0<=c/\c<1073741824 then .ok (bN c.toNat xs)else .no
 |_,_=>.no
section
variable{a b:Expr}{ga:Ev->R D}{elts:List Expr}{kt:Nat}{pos tp kp:Pos}
def yh(hg:Gl X "enumerate")(hm:X.mg "enumerate"=none)(ha:PF X a ga)(hs:starEach [a] X.env=(false,eval a X.env)::starEach [] X.env:=by rfl):
  PIF X (.Tuple elts kt tp) (.Call (.Name "enumerate" p) [a] [] pos) (aK rT ga):=by
 intro pins s σ H Rr I h;obtain⟨G,ρ,st,h⟩:=h;have ta:uQ (tF X ga) GI σ H (λvs H1=>∃v,vs=[v]/\∃G1 d,Up G H G1 H1/\Rep X.K G1 v d/\Same G1 H1/\(rT d).post (Fin G1 H1 (λG J items=>ItOk X.K G J items) Rr) (Exx X σ G1 H1)):=
  tG.intro st h λd v G1 H1 u1 st1 r1 h1=>⟨v,rfl,G1,d,u1,r1,st1.sub,h1⟩
 refine Call_ (lU I hg hm PyProof.Rows.Boot.«enumerate» (Yn (thn ((cE ha gU hs) pos pins s σ H _ I ta) λus s1 ⟨vs,H1,I1,r1,q1⟩=>?_) hs rfl));obtain⟨v,hv,G1,d,u1,rd,sub,h1⟩:∃v,vs=[v]/\∃G1 d,Up G H G1 H1/\Rep X.K G1 v d/\Same G1 H1/\(rT d).post (Fin G1 H1 (λG J items=>ItOk X.K G J items) Rr) (Exx X σ G1 H1):=q1;subst hv;obtain⟨u,rfl,rv⟩:=r1.one;cases rd with
 |lst hq t=>cases rv;have hq':SqL X.K G1 _ _:=.of hq;obtain⟨its,rvs,p,hz⟩:=I1.list (hq'.mono sub);exact call_enumerate_list p.isList λh' he hi hsz hk=>ZH he (nZ (c:=0) I1 (qx _ _) (SqL.lt' I1 (hq'.mono sub)) he hi hk (h1 _ G1 H1 (.refl sub) (ItOk.enum (λG2 H2 s1 s2=>(hq'.mono s1).mono s2) t)))
 |fls hq t=>cases rv;obtain⟨its,rvs,p,hz⟩:=I1.list (hq.mono sub);exact call_enumerate_list p.isList λh' he hi hsz hk=>ZH he (nZ (c:=0) I1 (qx _ _) (SqL.lt' I1 (hq.mono sub)) he hi hk (h1 _ G1 H1 (.refl sub) (ItOk.enum (λG2 H2 s1 s2=>(hq.mono s1).mono s2) t)))
 |tup hq t=>cases rv;obtain⟨its,rvs,⟨⟨cls,dd,data,sl⟩,ho,hc,n,hd⟩,hz⟩:=I1.tuple (hq.mono sub);simp only at hc hd;subst hc hd;exact zj ho λh' he hi hsz hk=>ZH he (nZ (c:=0) I1 (wF _ _) (SqT.lt' I1 (hq.mono sub)) he ⟨_,hi,rfl,rfl⟩ hk (h1 _ G1 H1 (.refl sub) (ItOk.enum (λG2 H2 s1 s2=>(hq.mono s1).mono s2) t)))
 |_=>exact h1.elim
noncomputable def GG(ga gb:Ev->R D):Ev->R (List D):=λρ=>ga ρ>>=λx=>gb ρ>>=λc=>AZ x c
end
theorem qK:∀(is:List Nat)(ds:List D)(ρ ρ':Ev),nW is ds ρ=.ok ρ'->(NoOwn ρ)->NoOwn ρ'
 | [],[],ρ,ρ',e,h=>by cases e;exact h
 | [],_::_,_,_,e,_=>by cases e
 |_::_,[],_,_,e,_=>by cases e
 |i::is,d::ds,ρ,ρ',e,h=>qK is ds _ ρ' e (kG (i:=i) d ρ _ rfl h)
def kK:∀d ρ ρ',qH is d ρ=.ok ρ'->(NoOwn ρ)->NoOwn ρ':=λd ρ ρ' e h=>by
 cases d with
 |tup ds=>exact qK is ds ρ ρ' e h
 |_=>cases e
def kC(hk:scope.kind=.function:=by rfl)(h1:(∀y∈scope.names,y.2≠.cell)/\(∀y∈scope.names,y.2=.local->scope.names.lookup y.1=some .local)/\(∀y∈scope.names,y.2=.free->y.1∈N'.drop n)/\n<=N'.length/\
 ∀y∈N'.drop n,scope.names.lookup y=some .free/\(y,NameKind.free)∈scope.names:=by decide +kernel)(h2:(N'.drop n).map X.env.kindOf=(N'.drop n).map λ_=>some NameKind.cell:=by rfl)(h3:N'.drop n=ix.map (λ(i:Nat)=>X.N.getD i Str.empty):=by rfl)(h4:ix.all (λi=>decide (i<X.N.length))=true:=by rfl):CompOkT X scope n N' ix:=by
 obtain⟨a,b,d,f,g⟩:=h1;refine⟨hk,a,b,λy hy h=>?_,f,h3,λi hi=>?_,g⟩;·exact ZB.1 h2 _ (d y hy h)
 ·exact iN (v6.1 h4 i hi)
section
variable{elt:Expr}{ifs:List Expr}{pos:Pos}{gt:Ev->R Bool}{ge:Ev->R D}
def jI(ok:CompOkT X scope n N' ix)(hcalm:X.calm=true)(hg:∀C s₂ H₂ fp,PGF (bJ X N' scope C s₂ H₂ fp) tgt asg)(hown:∀d ρ ρ',asg d ρ=.ok ρ'->(NoOwn ρ)->NoOwn ρ')(hi:PIF X tgt iter gi)(he:∀C s₂ H₂ fp,PF (bJ X N' scope C s₂ H₂ fp) elt ge)(ht:∀C s₂ H₂ fp,PTs (bJ X N' scope C s₂ H₂ fp) ifs gt)(hs:∀x,foldedSetIterable iter X.env x=pure x:=by intro _;rfl):PFL X (.ListComp elt [⟨tgt,iter,ifs,0⟩] scope pos) (dX n asg gi ix gt ge):=by
 intro pins s σ H Q I h;obtain⟨G,ρ,st,h⟩:=h;rw[eval_ListComp];refine Zx (use:=none) rfl hs (dD λy hy hy2=>I.ok.has y.1 (.inl (ok.fr y hy hy2))) ok.kind ok.names ?_;have t:tG X (λG J items=>ItOk X.K G J items) gi σ H (λJ H1=>∃G1 items,Up G H G1 H1/\StE X.K G1 H1 σ ρ/\ItOk X.K G1 J items/\(cM asg gt ge items (ce n ix ρ)>>=λds=>if ds.length<=sizeLine then R.ok ds else .no).post (mw X.K G H Q) (Exx X σ G H)):=by
  refine⟨G,ρ,st,?_⟩;unfold dX at h;cases e:gi ρ with
  |ok items=>rw[e]at h;exact λJ G1 H1 u r=>⟨G1,items,u,st.up u,r,h⟩
  |ex C=>rw[e]at h;exact h
  |no=>rw[e]at h;exact h
 refine thn (hi pins s σ H _ I t) λv s1 h1=>thn h1 λitv s2 h2=>?_;obtain⟨it,fp,tn,J,H2,e,I2,T,st2,f2,G2,items,u2,sE2,iok,h2⟩:=h2;subst e;have h2':(cM asg gt ge items (ce n ix ρ)>>=λds=>if ds.length<=sizeLine then R.ok ds else .no).post (mw X.K G2 H2 Q) (Exx X σ G2 H2):=
  h2.mono (λds q l vs G' H' u hl r=>q l vs G' H' (u2.trans u) hl r) λC q=>q.up u2;refine jc (iter:=iter) (pos:=pos) (RR:=λacc C=>compPost (model X.prog X.w) X.A X.xe none (EP X pins σ Q) acc C) ok hcalm hg hown he ht I2 T st2 f2 sE2 iok h2' ?_;intro Dd C s' m vs G' H' up hd hCD _ q hm hos hb hC hCl un hok;refine⟨m,hm,λh' hs'=>?_⟩;have I3:=I2.call' (H':=upd H' Dd (.lst vs)) (s':={ s' with heap:=h' }) (ch:=fp) hos (un.sameBut (λb o hbc e=>hs'.extBut b o hbc e) hCl) (hok.sameBut (λb o hbc e=>hs'.extBut b o hbc e) (by rw[aQ hCD];exact hC)) hb λb hb'=>by
  obtain⟨f0,f1,f2',f3,f4,f5⟩:=f2 b hb';exact⟨f3,f1,f4,f5⟩
 exact⟨.ref Dd,_,I3,rfl,q⟩
end
noncomputable def CO:List D->Option D
 | [.lst _ ds]=>match kz ds with
  |some ns=>some (.int ns.sum)
  |none=>none
 | [.tup ds]=>match kz ds with
  |some ns=>some (.int ns.sum)
  |none=>none
 |_=>none
theorem Vals.ints:∀{ns:List Int}{its:List Value},Vals (ns.map V.int) its->IntsAre its ns
 | [],_,.nil=>.nil
 |n::ns,_,.cons r t=>by obtain⟨tk,rfl⟩:=r;exact .cons n tk (Vals.ints t)
section
def qP{ns:List Int}(rv:Vals (ns.map V.int) its):∃xs:Array (Int×Tok),its.toArray=intItems xs/\preSum (numAt xs) xs.size=ns.sum:=by
 have hi:=Vals.ints rv;obtain⟨xs,hx⟩:=hi.allInts.items;have e1:ns=xs.toList.map (·.1):=by rw[<- nums_intItems,<- hx];exact(show numsOf its.toArray.toList=ns from hi.numsOf).symm
 exact⟨xs,hx,by rw[preSum_eq,Y9 (by simp),e1]⟩
def xh(hc:X.calm=true):gT X (.builtin "sum") (λxs H Q=>∃p,∃ns:List Int,xs=[.ref p]/\(SqL X.K H p (ns.map V.int)\/SqT X.K H p (ns.map V.int))/\Q (.int ns.sum) H):=by
 intro pins s σ H xs us Q I r ⟨p,ns,ex,hs,q⟩;subst ex;obtain⟨u,rfl,r1⟩:=r.one;cases r1;rcases hs with hs|hs
 ·obtain⟨its,rv,pl,hz⟩:=I.list hs;obtain⟨xs,hx,e2⟩:=qP rv;refine sum_intListG (I.ok.hd hc) (hx▸pl.isList) λh' tk t' hk=>?_;rw[e2];exact⟨.int _,H,I.kept (t':=tk) hk,⟨_,rfl⟩,q⟩
 ·obtain⟨its,rv,pl,hz⟩:=I.tuple hs;obtain⟨xs,hx,e2⟩:=qP rv;have ht:s.heap.IsTuple p its.toArray:=pl;refine PySem.W.ktm_sumG (I.ok.hd hc) (hx▸ht) λh' tk t' hk=>?_;rw[e2];exact⟨.int _,H,I.kept (t':=tk) hk,⟨_,rfl⟩,q⟩
def B0(K:PySem.W.Frag):Bx K (λxs H Q=>∃p,∃ns:List Int,xs=[.ref p]/\(SqL K H p (ns.map V.int)\/SqT K H p (ns.map V.int))/\Q (.int ns.sum) H) CO:=by
 intro G H xs ds d Q s r e q;unfold CO at e;split at e
 ·split at e;·rename_i ns hn;cases e;obtain⟨v,rfl,r1⟩:=r.one;obtain⟨a,vs,rfl,hs,rr⟩:=r1.seq_inv;obtain rfl:=rr.nums hn;exact⟨a,ns,rfl,.inl (hs.mono s),q _ G H (.refl s) (.int _)⟩
  ·cases e
 ·split at e;·rename_i ns hn;cases e;obtain⟨v,rfl,r1⟩:=r.one;obtain⟨a,vs,rfl,hs,rr⟩:=r1.tup_inv;obtain rfl:=rr.nums hn;exact⟨a,ns,rfl,.inr (hs.mono s),q _ G H (.refl s) (.int _)⟩
  ·cases e
 ·cases e
def IM{e:Expr}{pos:Pos}(hc:X.calm=true)(hg:Gl X "sum")(hm:X.mg "sum"=none)(ha:PFA X [e] gl)(he:starEach [e] X.env=(false,eval e X.env)::starEach [] X.env:=by rfl):
  PF X (.Call (.Name "sum" p) [e] [] pos) (gOf CO gl):=gI (xh hc) (B0 _) hg hm PyProof.Rows.Boot.«sum» ha (by decide) (by decide) he rfl
end
noncomputable def Ip(i j:Nat)(ga:Ev->R D)(gl:Ev->R (List D)):Ev->O:=λρ=>(ga ρ).out ρ λd=>(gl ρ).out ρ λds=>.nx ((ρ.set i (some (.val d))).set j (some (.own ds)))
def Inv.turnedL{σ:List (Option V)}{t':Nat}(I:Inv X pins σ H s)(k:∀b o,b∉ch->s.heap.get? b=some o->h'.get? b=some o)(f:∀b∈ch,kE X pins H b):
  Inv X pins σ H { s with heap:=h',toks:=t' }:=by
 have n1:∀b u,H b=some u->b∉ch:=λb u q z=>by rw[(f b z).1]at q;cases q
 refine I.step (g':=s.gens) (d':=s.drawn) (ch:=ch) (λb hb=>?_) (λb o _ _ hc q _=>k b o hc q) (λb o _ _ hc q _=>⟨o.slots,k b o hc q⟩) (λ_ _ _ _ n=>n) (λb o hc q=>⟨o,k b o hc q⟩) (λ_ _ q=>q) (λ_ _ _ q=>q) (λb ps q=>⟨#[],by rw[q];simp⟩) (λm hm=>?_) (λb u q=>?_) I.bare;·obtain⟨a0,a1,a2,a3,a4,a5⟩:=f b hb;exact⟨a3,a1,a4,a5⟩
 ·obtain⟨o,es,ep,ho,r⟩:=hm;exact⟨o,es,ep,k _ o (λz=>(f _ z).2.1 rfl) ho,r⟩
 ·refine(I.hok b u q).stay (λc v hc q'=>k c v ?_ q') (λ_ q'=>q') λ_ _ q'=>q';rcases hc with z|z;·rw[z];exact n1 b u q
  ·exact n1 c _ z
noncomputable def GM:D->D->R D
 |.str x,.int k=>if k = -1 then .ok (.str x.reverse)else .no
 |.lst _ xs,.int k=>if k = -1 then .ok (.lst false xs.reverse)else .no
 |_,_=>.no
noncomputable def KM(ga gs:Ev->R D):Ev->R D:=λρ=>ga ρ>>=λx=>gs ρ>>=λk=>GM x k
noncomputable def fb(gt:Ev->R Bool)(g:Ev->O):Nat->Ev->O
 | 0,_=>.no
 |n+1,ρ=>(gt ρ).out ρ λk=>if k=true then (match g ρ with
  |.nx ρ2=>fb gt g n ρ2
  |.ct ρ2=>fb gt g n ρ2
  |.bk ρ2=>.nx ρ2
  |.rt d=>.rt d
  |.re d ρ2=>.re d ρ2
  |.ex C ρ2=>.ex C ρ2
  |.no=>.no)else .nx ρ
noncomputable def xU(n:Nat)(gt:Ev->R Bool)(g:Ev->O):Ev->O:=λρ=>fb gt g n ρ
section
variable{c e:Expr}{gt:Ev->R Bool}{g:Ev->O}{ga:Ev->R D}{pos:Pos}
def BD(n:Nat)(hp:PassesOwn (model X.prog X.w) X.A X.env X.xe)(hc:PB X c gt)(hb:kh X body g):PSF X (.While c body [] pos) (xU n gt g):=λG₀ H₀ pins s σ H D I h=>by
 obtain⟨G,ρ,sr,h⟩:=h;refine zu hp hc (hb G₀ H₀) pins s σ H D I ?_;refine⟨λm σ H=>∃G ρ,StR X.K G₀ H₀ G H σ ρ/\pV X G₀ H₀ D (fb gt g m ρ),⟨n,G,ρ,sr,h⟩,?_⟩;rintro m σ H ⟨G,ρ,sr,h⟩;cases m with
 |zero=>exact h.elim
 |succ m=>
  refine⟨G,ρ,sr.e,?_⟩;have h:pV X G₀ H₀ D ((gt ρ).out ρ λk=>if k=true then (match g ρ with
   |.nx ρ2=>fb gt g m ρ2
   |.ct ρ2=>fb gt g m ρ2
   |.bk ρ2=>.nx ρ2
   |.rt d=>.rt d
   |.re d ρ2=>.re d ρ2
   |.ex C ρ2=>.ex C ρ2
   |.no=>.no)else .nx ρ):=h;cases q:gt ρ with
  |ok k=>
   rw[q]at h;intro b G1 H1 u1 eb;have eb:b=k:=eb;subst eb;simp only[R.out]at h;cases b with
   |true=>
    rw[if_pos rfl]at h⊢;refine⟨λσ' H'=>∃G ρ,StR X.K G₀ H₀ G H' σ' ρ/\pV X G₀ H₀ D (fb gt g m ρ),λσ' H' w=>⟨m,c8 _,w⟩,G1,ρ,sr.ups u1,?_⟩;cases q3:g ρ with
    |nx ρ2=>rw[q3]at h;exact λσ4 G4 H4 sr4=>⟨G4,ρ2,sr4,h⟩
    |ct ρ2=>rw[q3]at h;exact λσ4 G4 H4 sr4=>⟨G4,ρ2,sr4,h⟩
    |bk ρ2=>rw[q3]at h;exact h
    |rt d=>rw[q3]at h;exact h
    |re d ρ2=>rw[q3]at h;exact h
    |ex C ρ2=>rw[q3]at h;exact h
    |no=>rw[q3]at h;exact h
   |false=>rw[if_neg rK]at h⊢;exact h _ G1 H1 (sr.ups u1)
  |ex C=>rw[q]at h;exact Exx.of sr h
  |no=>rw[q]at h;exact h
noncomputable def GJ(f:Int->Int->Int):D->D->Option D
 |.int i,.int j=>some (.int (f i j))
 |_,_=>none
def Ey(i:Nat){op:Operator}{f:Int->Int->Int}(hN:X.N.Nodup)(he:PF X e ga)(ho:PIp X op (ipI f))(hi:X.N[i]?=some x:=by rfl)(hx:Loc X.env.scope x:=by first|exact Or.inl rfl|exact Or.inr rfl)(hf:X.fn x=true\/X.env.scope.names.lookup x=some .local:=by first|exact .inl rfl|exact .inr rfl):
  PSF X (.AugAssign (.Name x p) op e pos) (fZ i (g2 (GJ f) (λρ=>rdV ρ i) ga)):=λG₀ H₀ pins s σ H D I h=>by
 refine D4 hN hi hx he ho hf pins s σ H D I ?_;obtain⟨G,ρ,sr,h⟩:=h;have h:pV X G₀ H₀ D ((rdV ρ i>>=λa=>ga ρ>>=λb=>ofO (GJ f a b)).out ρ λd=>.nx (ρ.set i (some (.val d)))):=h;cases q1:rdV ρ i with
 |ok d=>
  have e1:ρ[i]?=some (some (.val d)):=by
   unfold rdV at q1;split at q1;·rename_i d' e';cases q1;exact e'
   ·cases q1
  rw[q1]at h;simp only[R.ok_bind]at h;obtain⟨v,hv,rv⟩:=sr.e.val i d e1;refine⟨v,hv,G,ρ,sr.e,?_⟩;cases q2:ga ρ with
  |ok b=>
   rw[q2]at h;simp only[R.ok_bind]at h;intro w G1 H1 u1 r1;cases d with
   |int a=>
    cases b with
    |int b=>cases rv;cases r1;exact⟨_,_,rfl,rfl,h _ G1 H1 ((sr.ups u1).set (.int _) i)⟩
    |_=>exact h.elim
   |_=>exact h.elim
  |ex C=>rw[q2]at h;exact Exx.of sr h
  |no=>rw[q2]at h;exact h
 |ex C=>rw[q1]at h;unfold rdV at q1;split at q1 <;> cases q1
 |no=>rw[q1]at h;exact h.elim
noncomputable def oI(i:Nat)(f:Int->Int->Int)(gk ga:Ev->R D):Ev->O:=λρ=>(ownAt ρ i).out ρ λds=>(gR (gk ρ>>=asI)).out ρ λk=>(gR (ga ρ>>=asI)).out ρ λb=>if 0<=k then (match ds[k.toNat]? with
 |some (.int a)=>.nx (ρ.set i (some (.own (ds.set k.toNat (.int (f a b))))))
 |_=>.no)else .no
noncomputable def IH:V->V->Hp->VK->Prop:=λo i H Q=>∃p xs k v,o=.ref p/\i=.int k/\H p=some (.lst xs)/\0<=k/\xs[k.toNat]?=some v/\Q v H
def zZ:Jp X IH:=by intro pins s σ H o i ov iv Q I ro ri h;obtain⟨p,xs,k,v,rfl,rfl,hp,h0,he,q⟩:=h;cases ro;obtain⟨t,rfl⟩:=ri;obtain⟨its,r,pl,hz⟩:=I.list (.of hp);obtain⟨w,ew,rw'⟩:=r.get he;have hl:=r.length;have hn:=kq;have hlt:k.toNat<xs.length:=(sT.mp he).1;exact wpAny_getItem_list pl.isList h0 (by omega) (by simpa using ew) ⟨v,H,I,rw',q⟩
def yq(i:Nat){tp:Pos}{ix:Expr}{gk:Ev->R D}{op:Operator}{f:Int->Int->Int}(hk:PF X ix gk)(he:PF X e ga)(ho:PIp X op (ipI f))(hi:X.N[i]?=some x:=by rfl)(hv:Vis X.env.scope x:=by first|exact Or.inl rfl|exact Or.inr (Or.inl rfl))(hd:(x==("__debug__":Str))=false:=by decide)(hcd:(x==("__classdict__":Str))=false:=by decide)(ha:∀ov iv new,augStore ix ov iv new=(do holding [new,ov,iv] (setItem ov iv new);release [new,ov,iv] [];pure .next):=by intros;rfl):
  PSF X (.AugAssign (.Subscript (.Name x p) ix tp) op e pos) (oI i f gk ga):=λG₀ H₀ pins s σ H D I h=>by
 refine BI (tQ hi hv hd hcd) hk zZ he ho zI ha pins s σ H D I ?_;obtain⟨G,ρ,sr,h⟩:=h;have h:pV X G₀ H₀ D ((ownAt ρ i).out ρ λds=>(gR (gk ρ>>=asI)).out ρ λk=>(gR (ga ρ>>=asI)).out ρ λb=>if 0<=k then (match ds[k.toNat]? with
  |some (.int a)=>.nx (ρ.set i (some (.own (ds.set k.toNat (.int (f a b))))))
  |_=>.no)else .no):=h;obtain⟨ds,e1,h⟩:=ownAt.ok h;obtain⟨l,vs,h1,h2,h3,h4,h5⟩:=sr.own i ds e1;refine⟨.ref l,h1,G,ρ,sr.e,?_⟩;cases q2:gk ρ with
 |ok kd=>
  rw[q2]at h;intro kv G' H' u' rk;cases rk with
  |int k=>
   have h:pV X G₀ H₀ D ((gR (ga ρ>>=asI)).out ρ λb=>if 0<=k then (match ds[k.toNat]? with
    |some (.int a)=>.nx (ρ.set i (some (.own (ds.set k.toNat (.int (f a b))))))
    |_=>.no)else .no):=h;cases q3:ga ρ with
   |ok bd=>
    rw[q3]at h;cases bd with
    |int b=>
     have h:pV X G₀ H₀ D (if 0<=k then (match ds[k.toNat]? with
      |some (.int a)=>.nx (ρ.set i (some (.own (ds.set k.toNat (.int (f a b))))))
      |_=>.no)else .no):=h;by_cases h0:0<=k
     ·rw[if_pos h0]at h;split at h;·rename_i a ea;obtain⟨v,ev,rv⟩:=h5.get ea;cases rv;have hlt:k.toNat<ds.length:=(sT.mp ea).1;refine⟨l,vs,k,_,rfl,rfl,u'.hh _ _ h2,h0,ev,G',ρ,(sr.ups u').e,?_⟩;rw[q3];intro bv G'' H'' u'' rb;cases rb;refine⟨a,b,rfl,rfl,l,vs,k,k.toNat,rfl,rfl,(u'.trans u'').hh _ _ h2,?_,h _ G'' _ ((sr.ups (u'.trans u'')).mut e1 h1 (.set (.int _) k.toNat (h5.mono (u'.trans u'').gg)))⟩;unfold ixN;rw[if_pos h0,if_pos (by rw[h5.length];omega)]
      ·exact h.elim
     ·rw[if_neg h0]at h;exact h.elim
    |_=>exact h.elim
   |_=>rw[q3]at h;exact h.elim
  |_=>exact h.elim
 |_=>rw[q2]at h;exact h.elim
end
noncomputable def xQ(gs:List (Ev->R D))(ρ:Ev):D->R D
 |.int i=>if 0<=i then (match gs[i.toNat]? with
  |some g=>g ρ
  |none=>.no)else .no
 |_=>.no
noncomputable def Cr(gs:List (Ev->R D))(gi:Ev->R D):Ev->R D:=λρ=>gi ρ>>=xQ gs ρ
def FX{gi:Ev->R D}:Cr gs gi ρ=gi ρ>>=xQ gs ρ:=rfl
def DS{g:Ev->R D}:xQ (g::gs) ρ (.int 0)=g ρ:=rfl
def Gz{f g:Ev->R D}:xQ (f::g::gs) ρ (.int 1)=g ρ:=rfl
noncomputable def inD(x:D):List D->Option Bool
 | []=>some false
 |y::ys=>(eqD 40 y x).bind λk=>if k=true then some true else inD x ys
noncomputable def inF:D->D->Option D
 |x,.lst _ ys=>if inD x ys=some false then some (.bl false)else none
 |_,_=>none
section
variable{a b ix e:Expr}{ga gi:Ev->R D}{pos p1 p2 pl sp:Pos}
def zb(v sl:Expr)(args:List Expr)(env:Env):eval (.Call (.Subscript v sl sp) args [] pos) env=(do
  callWith pos (<- eval (.Subscript v sl sp) env) [] (backTo pos (starEach args env)) (backToKw pos (keywordEach [] env))):=rfl
def rM{Q:VK}{g:List D->R D}(F:FnF X.prog X.w X.K X.mg X.base k f fd ps g)(hr:Room k X.A)(hk:PySem.W.keepIn X.K (.ref f)=true)(hb:Binds X.K fd ps [])(ha:PFA X (e::es) gl)(he:starEach (e::es) X.env=(false,eval e X.env)::starEach es X.env)(hpl:(backTo pos (starEach es X.env)).any (·.1)=false)(I:Inv X pins σ H s)(st:StE X.K G H σ ρ)(h:(aR ps.length g gl ρ).post (Fin G H (Rep X.K) Q) (Exx X σ G H)):wpAny (model X.prog X.w) X.A (callWith pos (.ref f) [] (backTo pos (starEach (e::es) X.env)) (backToKw pos (keywordEach [] X.env))) (EP X pins σ Q) X.xe s:=by
 have t:tAF X gl σ H (λvs H1=>∃G1 ds,Up G H G1 H1/\Same G1 H1/\Reps X.K G1 vs ds/\ds.length=ps.length/\(g ds).post (Fin G1 H1 (Rep X.K) Q) (Exx X σ G1 H1)):=by
  refine tG.intro st h λds vs G1 H1 u1 st1 r1 h1=>?_;by_cases hl:ds.length=ps.length;·rw[if_pos hl]at h1;exact⟨G1,ds,u1,st1.sub,r1,hl,h1⟩
  ·rw[if_neg hl]at h1;exact h1.elim
 refine PySem.W.callWith_K (h₀:=X.base) I.ok.mod.kin hk (thn (ha pos pins s σ H _ I t) λus s1 q=>⟨?_,?_⟩) he hpl;·obtain⟨vs,H1,I1,r,_⟩:=q;exact I1.kIn
 obtain⟨vs,H1,I1,r,G1,ds,u1,sub1,rp,hl,h1⟩:=q;have hvl:vs.length=ps.length:=by rw[rp.length];exact hl
 have hul:(us++[]).length=ps.length:=by rw[mP,<- r.length];exact hvl
 have hbb:=hb s1 us I1.kIn hul;rw[mP]at hbb;refine c9 (c0 (F.run X.A X.stack s1 H1 ⟨us,[]⟩ us vs Q (λc _ H'=>∃C G',c=.ref C/\Up G1 H1 G' H'/\Exx X σ G1 H1 C) hr I1.env0 hbb r ⟨hvl,G1,ds,sub1,rp,h1.mono (λ_ q=>q) λC q G' H' u=>⟨C,G',rfl,u,q⟩⟩) λr' s' hq=>?_);cases r' with
 |error e'=>obtain⟨a,C,H',rfl,fl,C',G',ec,u,q⟩:=hq;cases ec;exact q _ _ ⟨G1,H1,.refl sub1,pins,s1,a,rfl,I1,.inr (.inl ⟨G',H',fl,u⟩)⟩
 |ok fl=>
  cases fl with
  |ret u=>exact I1.after hq
  |_=>exact False.elim hq
end
noncomputable def qt(dx:D)(l:List Nat):Bool:=match eqD 40 (.str l) dx with
 |some b=>b
 |none=>false
noncomputable def inTF:D->D->Option D
 |dx,.tup ds=>match strsOf ds with
  |some ls=>if (ls.all λl=>(eqD 40 (.str l) dx).isSome)=true then some (.bl (ls.any (qt dx)))else none
  |none=>none
 |_,_=>none
where strsOf:List D->Option (List (List Nat))
 | []=>some []
 |.str x::ds=>(strsOf ds).map (x::·)
 |_::_=>none
theorem mq:∀{ds:List D}{ls:List (List Nat)},inTF.strsOf ds=some ls->ds=ls.map .str
 | [],ls,h=>by cases h;rfl
 |d::ds,ls,h=>by
  cases d <;> first|(cases h;done)|skip
  rename_i x;unfold inTF.strsOf at h;cases q:inTF.strsOf ds with
  |none=>rw[q]at h;cases h
  |some ms=>rw[q]at h;cases h;rw[mq q];rfl
section
variable{a b:Expr}{ga:Ev->R D}{pos:Pos}
def Ab{z:Str}{l:List Nat}{t:Tok}(hg:Gl X x)(hm:X.mg x=some (.str z t))(hl:z.cps.toList=l:=by rfl)(hz:l.length<=1000:=by decide)(hd:(x==("__debug__":Str))=false:=by decide):PF X (.Name x pos) (λ_=>.ok (.str l)):=
 iw (ja (v:=.str z) hg hm ⟨t,rfl⟩ hd) λ_ _=>.strL hl (w9 hz (by decide))
structure KTup(K:PySem.W.Frag)(c:Addr)(ls:List (List Nat)):Prop where
 ex:∃(o:Obj)(its:Array Value)(n:Nat)(vs:List V),K.lookup c=some o/\o.cls=.type "tuple"/\o.data=.seq its n/\its.size<=sizeLine/\Vals vs its.toList/\∀G,Reps K G vs (ls.map .str)
def Aa{c:Addr}{ls:List (List Nat)}(hg:Gl X x)(hm:X.mg x=some (.ref c))(hk:KTup X.K c ls)(hd:(x==("__debug__":Str))=false:=by decide):PF X (.Name x pos) (λ_=>.ok (.tup (ls.map .str))):=by obtain⟨o,its,n,vs,h1,h2,h3,h4,h5,h6⟩:=hk.ex;intro pins s σ H Q I q;obtain⟨G,ρ,st,q⟩:=q;exact ja (v:=.ref c) hg hm rfl hd pins s σ H Q I (q _ G H (.refl st.sub) (.tup (.inr ⟨o,its,n,h1,h2,h3,h4,h5⟩) (h6 G)))
noncomputable def Jy(K:PySem.W.Frag):R2:=λx y H Q=>∃(G:Hp)(dx:D)(ls:List (List Nat)),Same G H/\Rep K G x dx/\Rep K G y (.tup (ls.map .str))/\(∀l∈ls,(eqD 40 (.str l) dx).isSome=true)/\Q (.bl (ls.any (qt dx))) H
noncomputable def eV(dx:D):Value->Bool
 |.str z _=>qt dx z.cps.toList
 |_=>false
theorem oq{K:PySem.W.Frag}{G:Hp}(dx:D):∀{ls:List (List Nat)}{vs:List V}{its:List Value},Reps K G vs (ls.map .str)->Vals vs its->its.any (eV dx)=ls.any (qt dx)/\∀u∈its,∃z t l,u=.str z t/\l∈ls/\z.cps.toList=l/\Rep K G (.str z) (.str l)
 | [],_,_,.nil,.nil=>⟨rfl,λ_ h=>by cases h⟩
 |l::ls,_,_,.cons r t,.cons q w=>by
  obtain⟨h1,h2⟩:=oq dx (ls:=ls) t w;obtain⟨z,rfl,ez,hz⟩:=r.str_inv;obtain⟨tk,rfl⟩:=q;refine⟨?_,λu hu=>?_⟩;·rw[List.any_cons,List.any_cons,h1];show(qt dx z.cps.toList || _)=_;rw[ez]
  ·rcases v0.1 hu with rfl|hu;·exact⟨z,tk,l,rfl,sS ..,ez,r⟩
   ·obtain⟨z',t',l',e1,e2,e3,e4⟩:=h2 u hu;exact⟨z',t',l',e1,rO _ e2,e3,e4⟩
def FH(hu:X.A.units+64<cLine):OpR X (compareOp .In) (Jy X.K):=by
 intro pins s σ H x y v u Q I rx ry h;obtain⟨G,dx,ls,sub,r1,r2,he,q⟩:=h;obtain⟨c,its,vs,rfl,p,w,r⟩:=jz I sub r2 ry;obtain⟨h1,h2⟩:=oq dx r w;refine SeqAt.in_tupleAt (eV dx) p (λz hz=>?_) ?_
 ·obtain⟨z',t',l,rfl,m,ez,rr⟩:=h2 z (Y3.1 hz);have e1:eqD 40 (.str l) dx=some (qt dx l):=by
   have:=he l m;unfold qt;cases q2:eqD 40 (.str l) dx with
   |none=>rw[q2]at this;cases this
   |some k=>rfl
  have e2:eV dx (.str z' t')=qt dx l:=by show qt dx z'.cps.toList=_;rw[ez]
  rw[e2];exact(om I sub 40 X.A.in1 (.str l) dx _ (.str z') x (.str z' t') v (by show X.A.units+1+40<cLine;omega) e1 rr r1 ⟨t',rfl⟩ rx).eq
 ·have e:(List.toArray its).any (eV dx)=ls.any (qt dx):=by rw[<- h1];simp
  rw[e];exact⟨.bl _,H,I,rfl,q⟩
def Fg(K:PySem.W.Frag):ROk K (Jy K) inTF:=by
 intro G H x y dx dy d Q s rx ry e q;unfold inTF at e;split at e
 ·split at e
  ·rename_i ls hs;split at e;·rename_i hl;cases e;have:=mq hs;subst this;exact⟨G,_,ls,s,rx,ry,v6.1 hl,q _ G H (.refl s) (.bl _)⟩
   ·cases e
  ·cases e
 ·cases e
def Eg(hu:X.A.units+64<cLine)(ha:PF X a ga)(hb:PF X b gb)(hm:behindInMarks .In b=false:=by rfl):PF X (.Compare a [.In] [b] pos) (g2 inTF ga gb):=Bh (FH hu) (Fg _) ha hb hm
end
noncomputable def J8(n:Nat):List Nat:=(Nat.toDigits 10 n).map Char.toNat
section
variable{a b c e e1 e2 e3 e4 e5:Expr}{ga gc g1 g2' g3' g4 g5:Ev->R D}{pos:Pos}
noncomputable def Kp:D->R D
 |.int i=>if 0<=i/\i<10000000000 then .ok (.str (J8 i.toNat))else .no
 |.str x=>.ok (.str x)
 |_=>.no
noncomputable def sg:List (Ev->R D)->List Nat->Ev->R D
 | [],out=>λ_=>.ok (.str out)
 |g::gs,out=>λρ=>g ρ>>=λd=>match d with
  |.str x=>if (out++x).length<=sizeLine then sg gs (out++x) ρ else .no
  |_=>.no
noncomputable def Iq(gs:List (Ev->R D)):Ev->R D:=sg gs []
end
noncomputable def Iz(j i:Nat)(gl:Ev->R (List D)):Ev->O:=λρ=>(gR (gl (frz j ρ))).out ρ λds=>if ds.all (fl 10)=true then .nx (ρ.set i (some (.own ds)))else .no
noncomputable def itN(b:Bool):String:=if b then "tuple_iterator" else "list_iterator"
noncomputable def sqN(b:Bool):String:=if b then "tuple" else "list"
noncomputable def SIt(b:Bool)(h:Heap)(it a:Addr)(k:Nat):Prop:=∃o,h.get? it=some o/\o.cls=.type (itN b)/\o.data=.fields #[.ref a,.int k 0]
noncomputable def SSq(b:Bool)(h:Heap)(a:Addr)(xs:Array Value):Prop:=∃o,h.get? a=some o/\o.cls=.type (sqN b)/\∃n,o.data=.seq xs n
def SIt.ext{b:Bool}{c:Addr}(x:SIt b h it a k)(hs:Heap.ExtBut c h h')(n:it≠c):SIt b h' it a k:=let⟨o,ho,r⟩:=x;⟨o,hs it o n ho,r⟩
def SSq.ext{b:Bool}{c:Addr}{xs:Array Value}(x:SSq b h a xs)(hs:Heap.ExtBut c h h')(n:a≠c):SSq b h' a xs:=let⟨o,ho,r⟩:=x;⟨o,hs a o n ho,r⟩
def SIt.at{b:Bool}(x:SIt b h it a k)(f:∀o,h.get? it=some o->h'.get? it=some o):SIt b h' it a k:=let⟨o,ho,r⟩:=x;⟨o,f o ho,r⟩
section
variable{prog:Program}{w:World}{A:Around}
def lP{b:Bool}{xs:Array Value}{x:Value}{Q:Value->Shared->Prop}(hit:SIt b s.heap it a k)(hs:SSq b s.heap a xs)(hx:xs[k]?=some x)(hQ:∀h',SIt b h' it a (k+1)->Heap.SameBut it s.heap h'->Q x { s with heap:=h' }):wpAny (model prog w) A (Builtin.SmallTypes.nextOf (.ref it)) Q E s:=by
 cases b with
 |false=>exact wpAny_nextOf_list_item (l:=a) hit hs hx hQ
 |true=>
  obtain⟨o,ho,hc,hd⟩:=id hit;obtain⟨ol,hol,c2,nl,hdl⟩:=hs;have hT:s.TypeIs (.ref it) "tuple_iterator":=⟨o,ho,hc⟩
  unfold Builtin.SmallTypes.nextOf;refine z6 (kY (name:=Str.ofString "__next__") hT j9 (lH j9 hT ZC ?_ (ZD _)));show wpAny _ _ (field (.ref it) 0>>=_) _ _ s;refine z6 (qC ho hd (x:=.ref a) rfl ?_);show wpAny _ _ (if (Value.ref a==Value.none)=true then _ else _) _ _ s;rw[if_neg (show ¬ ((Value.ref a==Value.none)=true) from rK)];show wpAny _ _ (field (.ref it) 1>>=_) _ _ s;refine z6 (qC ho hd (x:=.int k 0) rfl ?_);show wpAny _ _ (seqItems? (.ref a)>>=_) _ _ s;refine z6 (oz hol hdl ?_);simp only[tI,hx];refine z6 (ZE ho hd (by simp) (z9 ⟨x,rfl,z9 (hQ _ ?_ (nT ..))⟩));exact⟨_,Zj _ ho (Obj.isFreed_of_fields (ZF hd _)),(Obj.cls_mapFields ..).trans hc,by rw[ZF hd];simp[rawInt]⟩
def Ay{b:Bool}{xs:Array Value}{Q:Value->Shared->Prop}(hh:A.handled=none)(hit:SIt b s.heap it a k)(hs:SSq b s.heap a xs)(hx:xs[k]?=none)(hE:∀h' e,Heap.ExtBut it s.heap h'->(∃o,h'.get? e=some o/\o.cls=.type "StopIteration")->E (.ref e) { s with heap:=h' }):wpAny (model prog w) A (Builtin.SmallTypes.nextOf (.ref it)) Q E s:=by
 cases b with
 |false=>exact Y8 hh (l:=a) hit hs hx hE
 |true=>
  obtain⟨o,ho,hc,hd⟩:=id hit;obtain⟨ol,hol,c2,nl,hdl⟩:=hs;have hT:s.TypeIs (.ref it) "tuple_iterator":=⟨o,ho,hc⟩
  unfold Builtin.SmallTypes.nextOf;refine z6 (kY (name:=Str.ofString "__next__") hT j9 (lH j9 hT ZC ?_ (ZD _)));show wpAny _ _ (field (.ref it) 0>>=_) _ _ s;refine z6 (qC ho hd (x:=.ref a) rfl ?_);show wpAny _ _ (if (Value.ref a==Value.none)=true then _ else _) _ _ s;rw[if_neg (show ¬ ((Value.ref a==Value.none)=true) from rK)];show wpAny _ _ (field (.ref it) 1>>=_) _ _ s;refine z6 (qC ho hd (x:=.int k 0) rfl ?_);show wpAny _ _ (seqItems? (.ref a)>>=_) _ _ s;refine z6 (oz hol hdl ?_);simp only[tI,hx];refine z6 (lT (z6 (ZE ho hd (by simp) ?_)));show wpAny _ _ (newExc (.type "StopIteration") []>>=_) _ _ _;refine z6 ?_;simp only[newExc,newTuple];refine z6 (mz ?_ (by size_fits));refine z6 (m:=firstArgMember _ _) (j7 (a:=Value.none) (by first|rfl|(simp only[firstArgMember];rfl)) ?_);refine mz ?_ (by size_fits);simp only[raiseNew];refine z6 (wpAny_handled ?_)
  first|rw[show A.in1.handled=none from hh]|(rw[hh];skip)
  refine z6 (z9 (wpAny_throw ?_));exact hE _ _ (((nT ..).extBut.push _).push _) ⟨_,t8 _ rfl,rfl⟩
def oS{b:Bool}{xs:Array Value}{Q:Value->Shared->Prop}(hs:SSq b s.heap a xs)(hQ:Q (.ref s.heap.objs.size) { s with heap:=s.heap.push { cls:=.type (itN b),data:=.fields #[.ref a,.int 0 0] } }):
  wpAny (model prog w) A (pyIter (.ref a)) Q E s:=by
 cases b with
 |false=>exact Zp (l:=a) hs hQ
 |true=>exact Zq (t:=a) hs hQ
noncomputable abbrev qY(h:Heap)(T:Addr)(a b c:Value):Prop:=h.get? T=some { cls:=.type "tuple",data:=.seq #[a,b,c] }
def vZ{T:Addr}{a b c x:Value}{Q:Unit->Shared->Prop}(hT:qY s.heap T a b c)(h:∀h',h'.get? T=some { cls:=.type "tuple",data:=.seq ((#[a,b,c]:Array Value).setIfInBounds k x) }->Heap.SameBut T s.heap h'->Q () { s with heap:=h' }):wpAny (model prog w) A (updateSeq T (·.setIfInBounds k x)) Q E s:=by
 refine fV hT rfl (h _ ?_ (nT ..));rw[Zj _ hT rfl];simp[Obj.mapSeq]
structure Z3(z TI TO i1 i2 i3 l1 l2 l3:Addr):Prop where
 nd:[z,TI,TO,i1,i2,i3].Nodup
 ap:∀l∈[l1,l2,l3],l∉[z,TO,i1,i2,i3]
theorem yv{z TI TO i1 i2 i3 l1 l2 l3:Addr}{b1 b2 b3:Bool}{xs ys zs:Array Value}{x y u a b c:Value}{Q:Option Value->Shared->Prop}(D:Z3 z TI TO i1 i2 i3 l1 l2 l3)(hz:IsZip s.heap z TI TO .none)(hTI:qY s.heap TI (.ref i1) (.ref i2) (.ref i3))(hTO:qY s.heap TO a b c)(h1:SIt b1 s.heap i1 l1 k)(h2:SIt b2 s.heap i2 l2 k)(h3:SIt b3 s.heap i3 l3 k)(hl1:SSq b1 s.heap l1 xs)(hl2:SSq b2 s.heap l2 ys)(hl3:SSq b3 s.heap l3 zs)(hx:xs[k]?=some x)(hy:ys[k]?=some y)(hu:zs[k]?=some u)(hQ:∀h',IsZip h' z TI TO (rawInt s.heap.objs.size)->qY h' TO x y u->SIt b1 h' i1 l1 (k+1)->SIt b2 h' i2 l2 (k+1)->SIt b3 h' i3 l3 (k+1)->qY h' s.heap.objs.size x y u->h'.objs.size=s.heap.objs.size+1->
 (∀e o,e∉[z,TO,i1,i2,i3]->s.heap.get? e=some o->h'.get? e=some o)->Q (some (.ref s.heap.objs.size)) { s with heap:=h' }):wpAny (model prog w) A (pyNext (.ref z)) Q E s:=by
 have nd:=D.nd;have p1:=D.ap l1 (by simp);have p2:=D.ap l2 (by simp);have p3:=D.ap l3 (by simp);simp only[k7,v0,sy,sH,not_or]at nd p1 p2 p3;obtain⟨⟨zTI,zTO,z1,z2,z3⟩,⟨TITO,TI1,TI2,TI3⟩,⟨TO1,TO2,TO3⟩,⟨n12,n13⟩,n23,_⟩:=nd;obtain⟨p1z,p1T,p11,p12,p13⟩:=p1;obtain⟨p2z,p2T,p21,p22,p23⟩:=p2;obtain⟨p3z,p3T,p31,p32,p33⟩:=p3;have hT:s.TypeIs (.ref z) "zip":=⟨_,hz,rfl⟩
 unfold pyNext;refine z6 (iO (kY (name:=Str.ofString "__next__") hT ZI (lH ZI hT F.entry_zip_next ?_ (F.args_zip_next_1 _))));show wpAny _ _ (field (.ref z) 2>>=_) _ _ _;refine z6 (qC hz rfl (x:=.bool false) rfl ?_);show wpAny _ _ (field (.ref z) 3>>=_) _ _ _;refine z6 (qC hz rfl (x:=.ref TI) rfl ?_);refine z6 (oz hTI rfl ?_);show wpAny _ _ (Builtin.SmallTypes.ownedTupleIsFree (.ref z)>>=_) _ _ _;refine z6 ?_;unfold Builtin.SmallTypes.ownedTupleIsFree;refine wpAny_bind (wpAny_field hz rfl (x:=.none) rfl (wpAny_pure ?_));simp only[t9];refine z6 (lT ?_);refine z6 (qC hz rfl (x:=.ref TO) rfl ?_);refine z6 (Z9 hz (by simp) λg1 hz1 s1=>?_);replace hz1:IsZip g1 z TI TO .ellipsis:=hz1;refine z6 ?_;simp only[List.zipIdx_cons,List.zipIdx_nil,iF,b7];refine z6 (z6 (b6 ?_));show wpAny _ _ (Builtin.SmallTypes.nextOf (.ref i1)>>=_) _ _ _;refine z6 (lP (h1.ext s1.extBut (uS z1)) (hl1.ext s1.extBut p1z) hx λg2 q1 s2=>z9 ?_);have T2:qY g2 TO a b c:=s2.extBut _ _ TO1 (s1.extBut _ _ (uS zTO) hTO);refine z6 (oz T2 rfl ?_);refine z6 (vZ T2 λg3 T3 s3=>?_);replace T3:qY g3 TO x b c:=T3;refine z6 (ZJ (z9 ?_));refine z6 (z6 (b6 ?_));show wpAny _ _ (Builtin.SmallTypes.nextOf (.ref i2)>>=_) _ _ _;refine z6 (lP (((h2.ext s1.extBut (uS z2)).ext s2.extBut (uS n12)).ext s3.extBut (uS TO2)) (((hl2.ext s1.extBut p2z).ext s2.extBut p21).ext s3.extBut p2T) hy λg4 q2 s4=>z9 ?_);have T4:qY g4 TO x b c:=s4.extBut _ _ TO2 T3;refine z6 (oz T4 rfl ?_);refine z6 (vZ T4 λg5 T5 s5=>?_);replace T5:qY g5 TO x y c:=T5;refine z6 (ZJ (z9 ?_));refine z6 (z6 (b6 ?_));show wpAny _ _ (Builtin.SmallTypes.nextOf (.ref i3)>>=_) _ _ _;refine z6 (lP (((((h3.ext s1.extBut (uS z3)).ext s2.extBut (uS n13)).ext s3.extBut (uS TO3)).ext s4.extBut (uS n23)).ext s5.extBut (uS TO3)) (((((hl3.ext s1.extBut p3z).ext s2.extBut p31).ext s3.extBut p3T).ext s4.extBut p32).ext s5.extBut p3T) hu λg6 q3 s6=>z9 ?_);have T6:qY g6 TO x y c:=s6.extBut _ _ TO3 T5;refine z6 (oz T6 rfl ?_);refine z6 (vZ T6 λg7 T7 s7=>?_);replace T7:qY g7 TO x y u:=T7;refine z6 (ZJ (z9 (z9 ?_)));refine z6 (oz T7 rfl ?_);refine z6 (wpAny_newTuple ?_);have hsz:g7.objs.size=s.heap.objs.size:=by rw[s7.1,s6.1,s5.1,s4.1,s3.1,s2.1,s1.1]
 have hz7:IsZip g7 z TI TO .ellipsis:=s7.extBut _ _ zTO (s6.extBut _ _ z3 (s5.extBut _ _ zTO (s4.extBut _ _ z2 (s3.extBut _ _ zTO (s2.extBut _ _ z1 hz1)))));have hk:∀e o,e∉[z,TO,i1,i2,i3]->s.heap.get? e=some o->g7.get? e=some o:=λe o he q=>by simp only[v0,sy,sH,not_or]at he;obtain⟨e1,e2,e3,e4,e5⟩:=he;exact s7.extBut _ _ e2 (s6.extBut _ _ e5 (s5.extBut _ _ e2 (s4.extBut _ _ e4 (s3.extBut _ _ e2 (s2.extBut _ _ e3 (s1.extBut _ _ e1 q))))))
 have r1:SIt b1 g7 i1 l1 (k+1):=((((q1.ext s3.extBut (uS TO1)).ext s4.extBut n12).ext s5.extBut (uS TO1)).ext s6.extBut n13).ext s7.extBut (uS TO1);have r2:SIt b2 g7 i2 l2 (k+1):=((q2.ext s5.extBut (uS TO2)).ext s6.extBut n23).ext s7.extBut (uS TO2);have r3:SIt b3 g7 i3 l3 (k+1):=q3.ext s7.extBut (uS TO3);have hzlt:z<g7.objs.size:=xz hz7;show wpAny _ _ (Builtin.SmallTypes.ownedTupleHandOut (.ref z) (.ref g7.objs.size)>>=_) _ _ _;refine z6 ?_;unfold Builtin.SmallTypes.ownedTupleHandOut;have hz8:IsZip (g7.push { cls:=.type "tuple",data:=.seq #[x,y,u] }) z TI TO .ellipsis:=w8 _ hz7;refine z6 (Z9 hz8 (by simp) λg9 hz9 s9=>?_);replace hz9:IsZip g9 z TI TO (rawInt g7.objs.size):=hz9;refine Z9 hz9 (by simp) λg10 hz10 s10=>?_;replace hz10:IsZip g10 z TI TO (rawInt g7.objs.size):=hz10;have up:∀e o,e≠z->g7.get? e=some o->g10.get? e=some o:=λe o e1 q=>s10.extBut _ _ e1 (s9.extBut _ _ e1 (w8 _ q));have hT10:qY g10 g7.objs.size x y u:=s10.extBut _ _ (lB hzlt) (s9.extBut _ _ (lB hzlt) (t8 _ rfl));have hsz10:g10.objs.size=g7.objs.size+1:=by rw[s10.1,s9.1,p6]
 rw[hsz]at hz10 hT10 hsz10;refine z9 ⟨_,rfl,?_⟩;refine z9 ?_;show Q (some (.ref g7.objs.size)) _;rw[hsz];exact hQ g10 hz10 (up _ _ (uS zTO) T7) (r1.at λo q=>up _ o (uS z1) q) (r2.at λo q=>up _ o (uS z2) q) (r3.at λo q=>up _ o (uS z3) q) hT10 hsz10 λe o he q=>up e o (λz'=>he (by rw[z'];simp)) (hk e o he q)
theorem yT{z TI TO i1 i2 i3 l1 l2 l3:Addr}{b1:Bool}{xs:Array Value}{Q:Option Value->Shared->Prop}(hh:A.handled=none)(D:Z3 z TI TO i1 i2 i3 l1 l2 l3)(hz:IsZip s.heap z TI TO .none)(hTI:qY s.heap TI (.ref i1) (.ref i2) (.ref i3))(h1:SIt b1 s.heap i1 l1 k)(hl1:SSq b1 s.heap l1 xs)(hx:xs[k]?=none)(hQ:∀h',(∀e o,e∉[z,TO,i1,i2,i3]->s.heap.get? e=some o->h'.get? e=some o)->Q none { s with heap:=h' }):wpAny (model prog w) A (pyNext (.ref z)) Q E s:=by
 have nd:=D.nd;have p1:=D.ap l1 (by simp);simp only[k7,v0,sy,sH,not_or]at nd p1;obtain⟨⟨zTI,zTO,z1,z2,z3⟩,⟨TITO,TI1,TI2,TI3⟩,⟨TO1,TO2,TO3⟩,⟨n12,n13⟩,n23,_⟩:=nd;obtain⟨p1z,p1T,p11,p12,p13⟩:=p1;have hT:s.TypeIs (.ref z) "zip":=⟨_,hz,rfl⟩
 unfold pyNext;refine z6 (iO (kY (name:=Str.ofString "__next__") hT ZI (lH ZI hT F.entry_zip_next ?_ (F.args_zip_next_1 _))));show wpAny _ _ (field (.ref z) 2>>=_) _ _ _;refine z6 (qC hz rfl (x:=.bool false) rfl ?_);show wpAny _ _ (field (.ref z) 3>>=_) _ _ _;refine z6 (qC hz rfl (x:=.ref TI) rfl ?_);refine z6 (oz hTI rfl ?_);show wpAny _ _ (Builtin.SmallTypes.ownedTupleIsFree (.ref z)>>=_) _ _ _;refine z6 ?_;unfold Builtin.SmallTypes.ownedTupleIsFree;refine wpAny_bind (wpAny_field hz rfl (x:=.none) rfl (wpAny_pure ?_));simp only[t9];refine z6 (lT ?_);refine z6 (qC hz rfl (x:=.ref TO) rfl ?_);refine z6 (Z9 hz (by simp) λg1 hz1 s1=>?_);replace hz1:IsZip g1 z TI TO .ellipsis:=hz1;refine z6 ?_;simp only[List.zipIdx_cons,List.zipIdx_nil,iF,b7];refine z6 (z6 (b6 ?_));show wpAny _ _ (Builtin.SmallTypes.nextOf (.ref i1)>>=_) _ _ _;refine z6 (Ay hh (h1.ext s1.extBut (uS z1)) (hl1.ext s1.extBut p1z) hx λg2 e s2 he=>?_);obtain⟨oe,hoe,hce⟩:=he;have hz2:IsZip g2 z TI TO .ellipsis:=s2 _ _ z1 hz1;have hez:e≠z:=λq=>by subst q;rw[hz2]at hoe;cases hoe;simp at hce
 refine Z9 hz2 (by simp) λg3 hz3 s3=>?_;refine z6 (wpAny_isInstance (T:="StopIteration") (b:=true) ⟨oe,s3.extBut _ _ hez hoe,hce⟩ isSubtype_stop ?_);refine z9 (hQ _ λe' o he' q=>?_);simp only[v0,sy,sH,not_or]at he';exact s3.extBut _ _ he'.1 (s2 _ _ he'.2.2.1 (s1.extBut _ _ he'.1 q))
def mM(a b c:Value):checkTypeCall "zip" ⟨[a,b,c],[]⟩=pure ():=by kernel_rfl
def ph(a b c:Value):checkBuiltinCall "zip.__new__" ⟨[.type "zip",a,b,c],[]⟩=pure ():=by kernel_rfl
noncomputable abbrev zA(b:Bool)(h:Heap)(l:Addr):Heap:=h.push { cls:=.type (itN b),data:=.fields #[.ref l,.int 0 0] }
noncomputable abbrev zB(h:Heap)(n:Nat):Heap:=(h.push { cls:=.type "tuple",data:=.seq #[.ref n,.ref (n+1),.ref (n+2)] }).push { cls:=.type "tuple",data:=.seq #[.none,.none,.none] }
noncomputable abbrev zC(h:Heap)(n:Nat):Heap:=h.push { cls:=.type "zip",data:=.fields #[.none,.bool false,.bool false,.ref (n+3),.ref (n+4)] }
def SSq.push{b:Bool}{xs:Array Value}(x:SSq b h a xs)(o:Obj):SSq b (h.push o) a xs:=let⟨o',ho,r⟩:=x;⟨o',w8 o ho,r⟩
def vb(b1 b2 b3:Bool)(l1 l2 l3:Addr)(xs ys zs:Array Value):
  Meets (Builtin.«zip.__new__» ⟨[.type "zip",.ref l1,.ref l2,.ref l3],[]⟩) (λ_ R s=>SSq b1 s.heap l1 xs/\SSq b2 s.heap l2 ys/\SSq b3 s.heap l3 zs/\
   R (.ok (.ret (.ref (s.heap.objs.size+5)))) { s with heap:=zC (zB (zA b3 (zA b2 (zA b1 s.heap l1) l2) l3) s.heap.objs.size) s.heap.objs.size }):=
 .of_wp λprog w A R s h=>by
  obtain⟨hp,g,d,tk,os⟩:=s;obtain⟨q1,q2,q3,h⟩:=h;have hsub:=sub_zip;have L1:SSq b1 (Shared.heap ⟨hp,g,d,tk,os⟩) l1 xs:=q1;have L2:SSq b2 (Shared.heap ⟨hp.push { cls:=.type (itN b1),data:=.fields #[.ref l1,.int 0 0] },g,d,tk,os⟩) l2 ys:=q2.push _;have L3:SSq b3 (Shared.heap ⟨(hp.push { cls:=.type (itN b1),data:=.fields #[.ref l1,.int 0 0] }).push { cls:=.type (itN b2),data:=.fields #[.ref l2,.int 0 0] },g,d,tk,os⟩) l3 zs:=(q3.push _).push _;have e2:(hp.push { cls:=.type (itN b1),data:=.fields #[.ref l1,.int 0 0] }).objs.size=hp.objs.size+1:=p6 ..;have e3:((hp.push { cls:=.type (itN b1),data:=.fields #[.ref l1,.int 0 0] }).push { cls:=.type (itN b2),data:=.fields #[.ref l2,.int 0 0] }).objs.size=hp.objs.size+2:=by rw[p6,e2]
  wp_walk using oS L1,oS L2,oS L3
  refine⟨_,rfl,?_⟩;simp only[p6,e2,e3]at h⊢;exact h
theorem vo{b1 b2 b3:Bool}{l1 l2 l3:Addr}{xs ys zs:Array Value}{Q:Value->Shared->Prop}(q1:SSq b1 s.heap l1 xs)(q2:SSq b2 s.heap l2 ys)(q3:SSq b3 s.heap l3 zs)(h:∀h',IsZip h' (s.heap.objs.size+5) (s.heap.objs.size+3) (s.heap.objs.size+4) .none->qY h' (s.heap.objs.size+3) (.ref s.heap.objs.size) (.ref (s.heap.objs.size+1)) (.ref (s.heap.objs.size+2))->
 qY h' (s.heap.objs.size+4) .none .none .none->SIt b1 h' s.heap.objs.size l1 0->SIt b2 h' (s.heap.objs.size+1) l2 0->SIt b3 h' (s.heap.objs.size+2) l3 0->(∀e o,s.heap.get? e=some o->h'.get? e=some o)->Q (.ref (s.heap.objs.size+5)) { s with heap:=h' }):
  wpAny (model prog w) A (call (.type "zip") [.ref l1,.ref l2,.ref l3]) Q E s:=by
 have n1:(zA b1 s.heap l1).objs.size=s.heap.objs.size+1:=p6 ..;have n2:(zA b2 (zA b1 s.heap l1) l2).objs.size=s.heap.objs.size+2:=by rw[p6,n1]
 have n3:(zA b3 (zA b2 (zA b1 s.heap l1) l2) l3).objs.size=s.heap.objs.size+3:=by rw[p6,n2]
 have g1:(zA b1 s.heap l1).get? s.heap.objs.size=some { cls:=.type (itN b1),data:=.fields #[.ref l1,.int 0 0] }:=t8 _ rfl;have g2:(zA b2 (zA b1 s.heap l1) l2).get? (s.heap.objs.size+1)=some { cls:=.type (itN b2),data:=.fields #[.ref l2,.int 0 0] }:=by rw[<- n1];exact t8 _ rfl
 have g3:(zA b3 (zA b2 (zA b1 s.heap l1) l2) l3).get? (s.heap.objs.size+2)=some { cls:=.type (itN b3),data:=.fields #[.ref l3,.int 0 0] }:=by rw[<- n2];exact t8 _ rfl
 have k1:∀(e:Addr)(o:Obj),(zA b1 s.heap l1).get? e=some o->(zA b3 (zA b2 (zA b1 s.heap l1) l2) l3).get? e=some o:=λe o q=>w8 _ (w8 _ q);have k0:∀(e:Addr)(o:Obj),s.heap.get? e=some o->(zA b3 (zA b2 (zA b1 s.heap l1) l2) l3).get? e=some o:=λe o q=>k1 e o (w8 _ q);have g1':=k1 _ _ g1;have g2':(zA b3 (zA b2 (zA b1 s.heap l1) l2) l3).get? (s.heap.objs.size+1)=_:=w8 _ g2;have m:=vb b1 b2 b3 l1 l2 l3 xs ys zs;generalize hH:zA b3 (zA b2 (zA b1 s.heap l1) l2) l3=H at n3 g3 k1 k0 g1' g2';have n4:(H.push { cls:=.type "tuple",data:=.seq #[.ref s.heap.objs.size,.ref (s.heap.objs.size+1),.ref (s.heap.objs.size+2)] }).objs.size=s.heap.objs.size+4:=by rw[p6,n3]
 have n5:(zB H s.heap.objs.size).objs.size=s.heap.objs.size+5:=by rw[p6,n4]
 have t1:(zB H s.heap.objs.size).get? (s.heap.objs.size+3)=some { cls:=.type "tuple",data:=.seq #[.ref s.heap.objs.size,.ref (s.heap.objs.size+1),.ref (s.heap.objs.size+2)] }:=by rw[<- n3];exact w8 _ (t8 _ rfl)
 have t2:(zB H s.heap.objs.size).get? (s.heap.objs.size+4)=some { cls:=.type "tuple",data:=.seq #[.none,.none,.none] }:=by rw[<- n4];exact t8 _ rfl
 have t3:(zC (zB H s.heap.objs.size) s.heap.objs.size).get? (s.heap.objs.size+5)=some { cls:=.type "zip",data:=.fields #[.none,.bool false,.bool false,.ref (s.heap.objs.size+3),.ref (s.heap.objs.size+4)] }:=by rw[<- n5];exact t8 _ rfl
 have kH:∀(e:Addr)(o:Obj),H.get? e=some o->(zC (zB H s.heap.objs.size) s.heap.objs.size).get? e=some o:=λe o q=>w8 _ (w8 _ (w8 _ q));refine callType_new F.called_zip (by decide) (mM _ _ _) (ph _ _ _) (λobj=>?_) F.entry_zip_new m ⟨q1,q2,q3,?_⟩;·unfold argsOk;rw[signature?_of (id:="object.__init__") (n:=['_','_','t','i','n','i','_','_']) (o:=['t','c','e','j','b','o']) (by kernel_rfl) F.owner_object];kernel_rfl
 ·subst hH;exact⟨⟨_,t3,rfl⟩,h _ t3 (w8 _ t1) (w8 _ t2) ⟨_,kH _ _ g1',rfl,rfl⟩ ⟨_,kH _ _ g2',rfl,rfl⟩ ⟨_,kH _ _ g3,rfl,rfl⟩ λe o q=>kH e o (k0 e o q)⟩
end
noncomputable def SqB(b:Bool)(K:PySem.W.Frag)(H:Hp)(l:Addr)(xs:List V):Prop:=if b then SqT K H l xs else SqL K H l xs
def SqB.mono{b:Bool}{K:PySem.W.Frag}{l:Addr}(s:Same G H)(q:SqB b K G l xs):SqB b K H l xs:=by
 cases b with
 |false=>exact SqL.mono s q
 |true=>exact SqT.mono s q
def Inv.sqB{σ:List (Option V)}{b:Bool}{l:Addr}(I:Inv X pins σ H s)(q:SqB b X.K H l xs):∃its,Vals xs its/\SSq b s.heap l its.toArray/\l<s.heap.objs.size:=by
 cases b with
 |false=>obtain⟨its,rv,p,hz⟩:=I.list q;exact⟨its,rv,p.isList,SqL.lt' I q⟩
 |true=>obtain⟨its,rv,p,hz⟩:=I.tuple q;have p':s.heap.IsTuple l its.toArray:=p;obtain⟨o,ho,r⟩:=id p';exact⟨its,rv,⟨o,ho,r⟩,xz ho⟩
def Inv.sqB_inj{σ:List (Option V)}{b:Bool}{l:Addr}{ys:List V}(I:Inv X pins σ H s)(q:SqB b X.K H l xs)(q':SqB b X.K H l ys):xs=ys:=by
 cases b with
 |false=>exact I.list_inj q q'
 |true=>exact I.tuple_inj q q'
noncomputable def Jq(sq1 sq2 sq3:Hp->List V->Prop):It:=⟨λi H=>∃xs ys zs x y u,sq1 H xs/\sq2 H ys/\sq3 H zs/\xs[i]?=some x/\ys[i]?=some y/\zs[i]?=some u,
 λi H v H'=>∃p x y u,v=.ref p/\H p=none/\H'=upd H p (.tup [x,y,u])/\(∀xs,sq1 H xs->xs[i]?=some x)/\(∀ys,sq2 H ys->ys[i]?=some y)/\∀zs,sq3 H zs->zs[i]?=some u,λi H=>∃xs,sq1 H xs/\xs.length<=i⟩
section
variable{w:World}{K:PySem.W.Frag}{elts:List Expr}{kt:Nat}{tp:Pos}
def xt{z TI TO i1 i2 i3 l1 l2 l3:Addr}{b1 b2 b3:Bool}(D:Z3 z TI TO i1 i2 i3 l1 l2 l3):
  Turn P w K (.Tuple elts kt tp) (Jq (λH xs=>SqB b1 K H l1 xs) (λH xs=>SqB b2 K H l2 xs) (λH xs=>SqB b3 K H l3 xs)) [z,TI,TO,i1,i2,i3] z (λi h=>IsZip h z TI TO .none/\qY h TI (.ref i1) (.ref i2) (.ref i3)/\(∃a b c,qY h TO a b c)/\SIt b1 h i1 l1 i/\SIt b2 h i2 l2 i/\SIt b3 h i3 l3 i) where
 mem:=by simp
 obj:=λi h st b hb=>by
  obtain⟨s1,s2,⟨a,c,d,s3⟩,s4,s5,s6⟩:=st;simp only[v0,sy,sH]at hb;rcases hb with rfl|rfl|rfl|rfl|rfl|rfl;·exact⟨_,s1,λv z=>by cases z⟩
  ·exact⟨_,s2,λv z=>by cases z⟩
  ·exact⟨_,s3,λv z=>by cases z⟩
  ·obtain⟨o,q,c,d⟩:=s4;exact⟨o,q,λv z=>by rw[d]at z;cases z⟩
  ·obtain⟨o,q,c,d⟩:=s5;exact⟨o,q,λv z=>by rw[d]at z;cases z⟩
  ·obtain⟨o,q,c,d⟩:=s6;exact⟨o,q,λv z=>by rw[d]at z;cases z⟩
 keep:=λi h h' st k=>by obtain⟨s1,s2,⟨a,c,d,s3⟩,s4,s5,s6⟩:=st;exact⟨k z (by simp) _ s1,k TI (by simp) _ s2,⟨a,c,d,k TO (by simp) _ s3⟩,s4.at λo q=>k i1 (by simp) o q,s5.at λo q=>k i2 (by simp) o q,s6.at λo q=>k i3 (by simp) o q⟩
 item:=by
  intro X hP hw hK hc i pins s σ H E I hf st hg;obtain⟨xs,ys,zs,x,y,u,hq1,hq2,hq3,hx,hy,hu⟩:=hg;obtain⟨s1,s2,⟨a,c,d,s3⟩,s4,s5,s6⟩:=st;subst hP hw hK;obtain⟨its1,rv1,p1,_⟩:=I.sqB hq1;obtain⟨its2,rv2,p2,_⟩:=I.sqB hq2;obtain⟨its3,rv3,p3,_⟩:=I.sqB hq3;obtain⟨u1,hu1,ru1⟩:=rv1.get hx;obtain⟨u2,hu2,ru2⟩:=rv2.get hy;obtain⟨u3,hu3,ru3⟩:=rv3.get hu;have nd:=D.nd;simp only[k7,v0,sy,sH,not_or]at nd;obtain⟨⟨zTI,zTO,z1,z2,z3⟩,⟨TITO,TI1,TI2,TI3⟩,_⟩:=nd;refine yv D s1 s2 s3 s4 s5 s6 p1 p2 p3 (x:=u1) (y:=u2) (u:=u3) (by simpa using hu1) (by simpa using hu2) (by simpa using hu3) λh1 w1 wTO w4 w5 w6 wp wsz wk=>?_;refine⟨_,rfl,wpAny_letOwnedTupleGo_zip w1 λh2 v1 sb=>?_⟩;have hp:H s.heap.objs.size=none:=I.hok.fresh (yo _);have ltz:∀b∈[z,TI,TO,i1,i2,i3],b<s.heap.objs.size:=λb hb=>by
   simp only[v0,sy,sH]at hb;rcases hb with rfl|rfl|rfl|rfl|rfl|rfl;·exact xz s1
   ·exact xz s2
   ·exact xz s3
   ·obtain⟨o,q,_⟩:=s4;exact xz q
   ·obtain⟨o,q,_⟩:=s5;exact xz q
   ·obtain⟨o,q,_⟩:=s6;exact xz q
  have Ia:Inv X pins σ (upd H s.heap.objs.size (.tup [x,y,u])) { s with heap:=s.heap.push { cls:=.type "tuple",data:=.seq #[u1,u2,u3] } }:=by refine I.laid (t':=s.toks) (λb o q=>w8 _ q) (yo _) ?_;exact⟨by show 3<=sizeLine;decide,[u1,u2,u3],.cons ru1 (.cons ru2 (.cons ru3 .nil)),dO _ _⟩
  have fp':∀b∈[z,TI,TO,i1,i2,i3],kE X pins (upd H s.heap.objs.size (.tup [x,y,u])) b:=λb hb=>⟨by rw[aQ (t5 (ltz b hb))];exact(hf b hb).1,(hf b hb).2⟩
  have hzlt:z<s.heap.objs.size:=xz s1;have ht2:h2.get? s.heap.objs.size=some { cls:=.type "tuple",data:=.seq #[u1,u2,u3] }:=(sb.2 _ (lB hzlt)).trans wp;have Ib:Inv X pins σ (upd H s.heap.objs.size (.tup [x,y,u])) { s with heap:=h2 }:=by
   refine Inv.turnedL (s:={ s with heap:=s.heap.push { cls:=.type "tuple",data:=.seq #[u1,u2,u3] } }) (h':=h2) (t':=s.toks) (ch:=[z,TI,TO,i1,i2,i3]) Ia (λb o hb q=>?_) fp';have q:(s.heap.push { cls:=.type "tuple",data:=.seq #[u1,u2,u3] }).get? b=some o:=q;simp only[v0,sy,sH,not_or]at hb;obtain⟨c1,c2,c3,c4,c5,c6⟩:=hb;by_cases e:b=s.heap.objs.size;·subst e;have q':=t8 s.heap (o:={ cls:=.type "tuple",data:=.seq #[u1,u2,u3] }) rfl;rw[q']at q;rw[ht2];exact q
   ·have q2:s.heap.get? b=some o:=by
     rcases ZG b s.heap.objs.size with hb|hb;·exact qT hb q
     ·have hlt:b<(s.heap.push { cls:=.type "tuple",data:=.seq #[u1,u2,u3] }).objs.size:=xz q;rw[p6]at hlt;exact absurd (Nat.le_antisymm (Nat.le_of_lt_succ hlt) hb) e
    exact(sb.2 b c1).trans (wk b o (by simp[c1,c3,c4,c5,c6]) q2)
  refine⟨.ref s.heap.objs.size,_,Ib,rfl,⟨_,x,y,u,rfl,hp,rfl,λws h=>by rw[I.sqB_inj h hq1];exact hx,λws h=>by rw[I.sqB_inj h hq2];exact hy,λws h=>by rw[I.sqB_inj h hq3];exact hu⟩,⟨v1,?_,⟨u1,u2,u3,(sb.2 TO (uS zTO)).trans wTO⟩,w4.at λo q=>(sb.2 i1 (uS z1)).trans q,w5.at λo q=>(sb.2 i2 (uS z2)).trans q,w6.at λo q=>(sb.2 i3 (uS z3)).trans q⟩,λb hb=>(fp' b hb).1⟩;exact(sb.2 TI (uS zTI)).trans (wk TI _ (by simp[uS zTI,TITO,TI1,TI2,TI3]) s2)
 done:=by
  intro X hP hw hK hc i pins s σ H E I hf st hg;obtain⟨xs,hq1,hx⟩:=hg;obtain⟨s1,s2,⟨a,c,d,s3⟩,s4,s5,s6⟩:=st;subst hP hw hK;obtain⟨its1,rv1,p1,_⟩:=I.sqB hq1;have e1:=rv1.length;refine yT (I.ok.hd hc) D s1 s2 s4 p1 (by simp;omega) λh' hk=>⟨rfl,I.turnedL (t':=s.toks) (ch:=[z,TI,TO,i1,i2,i3]) (λb o hb q=>?_) hf⟩
  simp only[v0,sy,sH,not_or]at hb;obtain⟨c1,c2,c3,c4,c5,c6⟩:=hb;exact hk b o (by simp[c1,c3,c4,c5,c6]) q
 self:=λA i s Q E st h=>wpAny_pyIter_zip st.1 h
def ItOk.zip3{sq1 sq2 sq3:Hp->List V->Prop}{ws us:List V}{es fs:List D}(h1:∀G1 H1,Same G G1->Same G1 H1->sq1 H1 vs)(h2:∀G1 H1,Same G G1->Same G1 H1->sq2 H1 ws)(h3:∀G1 H1,Same G G1->Same G1 H1->sq3 H1 us)(r1:Reps K G vs ds)(r2:Reps K G ws es)(r3:Reps K G us fs)(l1:es.length=ds.length)(l2:fs.length=ds.length):
  ItOk K G (Jq sq1 sq2 sq3) ((List.range ds.length).map λi=>.tup [ds.getD i .non,es.getD i .non,fs.getD i .non]):=by
 intro i G1 H1 s1 s2;refine⟨λd e=>?_,λhl=>⟨vs,h1 G1 H1 s1 s2,by rw[za,Za]at hl;rw[r1.length];exact hl⟩⟩;rw[v8]at e;by_cases hi:i<ds.length
 ·rw[l7 hi]at e;cases e;have g1:ds[i]?=some (ds.getD i .non):=by rw[xZ,xw hi];rfl
  have g2:es[i]?=some (es.getD i .non):=by rw[xZ,xw (by omega)];rfl
  have g3:fs[i]?=some (fs.getD i .non):=by rw[xZ,xw (by omega)];rfl
  obtain⟨v,ev,rv⟩:=r1.get g1;obtain⟨u,eu,ru⟩:=r2.get g2;obtain⟨t,et,rt⟩:=r3.get g3;refine⟨⟨vs,ws,us,v,u,t,h1 G1 H1 s1 s2,h2 G1 H1 s1 s2,h3 G1 H1 s1 s2,ev,eu,et⟩,λx H' y=>?_⟩;obtain⟨p,x',y',t',rfl,hp,rfl,z1,z2,z3⟩:=y;have z1:=z1 vs (h1 G1 H1 s1 s2);have z2:=z2 ws (h2 G1 H1 s1 s2);have z3:=z3 us (h3 G1 H1 s1 s2);rw[ev]at z1;rw[eu]at z2;rw[et]at z3;cases z1;cases z2;cases z3;exact⟨upd G1 p (.tup [v,u,t]),.new s2 hp,.tup (.of ba) (.cons ((rv.mono s1).mono (.into (s2.free hp))) (.cons ((ru.mono s1).mono (.into (s2.free hp))) (.cons ((rt.mono s1).mono (.into (s2.free hp))) .nil)))⟩
 ·rw[Z4 (by rw[Za];omega)]at e;cases e
end
def ne5{l:Nat}(h:l<n):l∉[n+5,n+4,n,n+1,n+2]:=by simp;omega
noncomputable def rg:D->Option (List D)
 |.lst _ xs=>some xs
 |.tup xs=>some xs
 |_=>none
noncomputable def wu:List D->R (List D)
 | [a,b,c]=>match rg a,rg b,rg c with
  |some ds,some es,some fs=>if es.length=ds.length/\fs.length=ds.length then .ok ((List.range ds.length).map λi=>.tup [ds.getD i .non,es.getD i .non,fs.getD i .non])else .no
  |_,_,_=>.no
 |_=>.no
def Rep.sqB{K:PySem.W.Frag}(r:Rep K G v d)(h:rg d=some ds):∃b l vs,v=.ref l/\SqB b K G l vs/\Reps K G vs ds:=by
 cases r with
 |tup hq t=>cases h;exact⟨true,_,_,rfl,hq,t⟩
 |lst hq t=>cases h;exact⟨false,_,_,rfl,.of hq,t⟩
 |fls hq t=>cases h;exact⟨false,_,_,rfl,hq,t⟩
 |_=>cases h
section
variable{a b c:Expr}{elts:List Expr}{kt:Nat}{pos tp:Pos}
def Dj(hg:Gl X "zip")(hm:X.mg "zip"=none)(ha:PFA X [a,b,c] gl)(hs:starEach [a,b,c] X.env=(false,eval a X.env)::starEach [b,c] X.env:=by rfl)(hs2:(backTo pos (starEach [b,c] X.env)).any (·.1)=false:=by rfl):
  PIF X (.Tuple elts kt tp) (.Call (.Name "zip" p) [a,b,c] [] pos) (aK wu gl):=by
 intro pins s σ H Rr I h;obtain⟨G,ρ,st,h⟩:=h;have ta:tAF X gl σ H (λvs H1=>∃G1 ds,Up G H G1 H1/\Reps X.K G1 vs ds/\Same G1 H1/\(wu ds).post (Fin G1 H1 (λG J items=>ItOk X.K G J items) Rr) (Exx X σ G1 H1)):=tG.intro st h λds vs G1 H1 u1 st1 r1 h1=>⟨G1,ds,u1,r1,st1.sub,h1⟩
 refine Call_ (lU I hg hm PyProof.Rows.Boot.«zip» (Yn (thn (ha pos pins s σ H _ I ta) λus s1 ⟨vs,H1,I1,r1,q1⟩=>?_) hs hs2));obtain⟨G1,ds,u1,rd,sub,h1⟩:=q1;unfold wu at h1;split at h1
 ·rename_i da db dc;split at h1
  ·rename_i xs ys zs ea eb ec;split at h1
   ·rename_i hl;cases rd with
    |cons ra t=>
     cases t with
     |cons rb t=>
      cases t with
      |cons rc t=>
       cases t;obtain⟨b1,l1,ws1,rfl,sq1,rr1⟩:=ra.sqB ea;obtain⟨b2,l2,ws2,rfl,sq2,rr2⟩:=rb.sqB eb;obtain⟨b3,l3,ws3,rfl,sq3,rr3⟩:=rc.sqB ec;cases r1 with
       |cons v1 t=>
        cases t with
        |cons v2 t=>
         cases t with
         |cons v3 t=>
          cases t;cases v1;cases v2;cases v3;obtain⟨its1,rv1,p1,lt1⟩:=I1.sqB (sq1.mono sub);obtain⟨its2,rv2,p2,lt2⟩:=I1.sqB (sq2.mono sub);obtain⟨its3,rv3,p3,lt3⟩:=I1.sqB (sq3.mono sub);refine vo p1 p2 p3 λh' z1 zTI zTO zi1 zi2 zi3 zk=>wpAny_pyIter_zip z1 ?_;have Dz:Z3 (s1.heap.objs.size+5) (s1.heap.objs.size+3) (s1.heap.objs.size+4) s1.heap.objs.size (s1.heap.objs.size+1) (s1.heap.objs.size+2) l1 l2 l3:=by
           constructor;·simp
           ·intro l hl;simp only[v0,sy,sH]at hl;rcases hl with rfl|rfl|rfl;·exact ne5 lt1
            ·exact ne5 lt2
            ·exact ne5 lt3
          refine⟨_,_,_,_,H1,rfl,I1.kept (t':=s1.toks) zk,xt Dz,⟨z1,zTI,⟨_,_,_,zTO⟩,zi1,zi2,zi3⟩,λb hb=>?_,h1 _ G1 H1 (.refl sub) (ItOk.zip3 (λG2 H2 s1 s2=>(sq1.mono s1).mono s2) (λG2 H2 s1 s2=>(sq2.mono s1).mono s2) (λG2 H2 s1 s2=>(sq3.mono s1).mono s2) rr1 rr2 rr3 hl.1 hl.2)⟩;have hge:s1.heap.objs.size<=b:=by simp only[v0,sy,sH]at hb;rcases hb with rfl|rfl|rfl|rfl|rfl|rfl <;> omega
          exact I1.fpOk hge (I1.hok.fresh hge)
   ·exact h1.elim
  ·exact h1.elim
 ·exact h1.elim
end
noncomputable def uC(asg:D->Ev->R Ev)(gt:Ev->R Bool)(ge:Ev->R D):List D->Ev->R (List D)
 | [],_=>.ok []
 |d::ds,ρ=>gR (asg d ρ)>>=λρ1=>gR (gt ρ1)>>=λk=>if k=true then ge ρ1>>=λx=>uC asg gt ge ds ρ1>>=λxs=>.ok (x::xs)else uC asg gt ge ds ρ1
noncomputable def Eo(gi:Ev->R (List D))(ix:List Nat)(gt:Ev->R Bool)(ge:Ev->R D):Ev->R (List D):=λρ=>gi ρ>>=λitems=>if items.length<=sizeLine then uC (iT 0) gt ge items (cP ix ρ)else .no
section
variable{a b c e ix:Expr}{ga gi:Ev->R D}{pos p1 p2 p3 pl sp:Pos}
noncomputable def F4(c:Nat):List Nat->Option (List Nat×List Nat)
 | []=>none
 |d::r=>if d=c then some ([],r)else (F4 c r).map λp=>(d::p.1,p.2)
noncomputable def Dn(c:Nat)(x:List Nat):List Nat×List Nat×List Nat:=match F4 c x with
 |some (p,q)=>(p,[c],q)
 |none=>(x,[],[])
noncomputable def Hm:D->List D->Option D
 |.str x,[.str [c]]=>if x.length<=10000 then some (.tup [.str (Dn c x).1,.str (Dn c x).2.1,.str (Dn c x).2.2])else none
 |_,_=>none
def EA{f g h:Ev->R D}:xQ (f::g::h::gs) ρ (.int 2)=h ρ:=rfl
def Cg{x1 x2 x3:Str}{f1 f2 f3:List D->R D}(c1:Callee X.prog X.w X.K X.mg X.base x1 k n f1)(c2:Callee X.prog X.w X.K X.mg X.base x2 k n f2)(c3:Callee X.prog X.w X.K X.mg X.base x3 k n f3)(hr:Room k X.A)(hi:PF X ix gi)(ha:PFA X (e::es) gl)(hg1:Gl X x1:=by rfl)(hg2:Gl X x2:=by rfl)(hg3:Gl X x3:=by rfl)(hd1:(x1==("__debug__":Str))=false:=by decide)(hd2:(x2==("__debug__":Str))=false:=by decide)(hd3:(x3==("__debug__":Str))=false:=by decide)(he:starEach (e::es) X.env=(false,eval e X.env)::starEach es X.env:=by rfl)(hpl:(backTo pos (starEach es X.env)).any (·.1)=false:=by rfl)(hs:sA ix:=by exact λ_ _=>rfl)(hs1:starEach [.Name x1 p1,.Name x2 p2,.Name x3 p3] X.env=(false,eval (.Name x1 p1) X.env)::starEach [.Name x2 p2,.Name x3 p3] X.env:=by rfl)(hs2:starEach [.Name x2 p2,.Name x3 p3] X.env=(false,eval (.Name x2 p2) X.env)::starEach [.Name x3 p3] X.env:=by rfl)(hs3:starEach [.Name x3 p3] X.env=(false,eval (.Name x3 p3) X.env)::starEach [] X.env:=by rfl):
  PF X (.Call (.Subscript (.List [.Name x1 p1,.Name x2 p2,.Name x3 p3] pl) ix sp) (e::es) [] pos) (Cr [aR n f1 gl,aR n f2 gl,aR n f3 gl] gi):=by
 intro pins s σ H Q I h;obtain⟨G,ρ,st,h⟩:=h;obtain⟨a1,fd1,ps1,F1,m1,k1,b1,l1⟩:=c1.ex;obtain⟨a2,fd2,ps2,F2,m2,k2,b2,l2⟩:=c2.ex;obtain⟨a3,fd3,ps3,F3,m3,k3,b3,l3⟩:=c3.ex;rw[zb];have key:PE X (.Subscript (.List [.Name x1 p1,.Name x2 p2,.Name x3 p3] pl) ix sp) (tOp (GV X.K) (Ji (uQ (tC (.ref a1)) (uQ (tC (.ref a2)) (uQ (tC (.ref a3)) GI)))) (tF X gi)):=ED ix_list (Bk (cE (ja hg1 m1 rfl hd1) (cE (ja hg2 m2 rfl hd2) (cE (ja hg3 m3 rfl hd3) gU hs3) hs2) hs1)) hi hs;refine z6 (thn (key pins s σ H (λv H1=>∃G1,StE X.K G1 H1 σ ρ/\((v=.ref a1/\(aR n f1 gl ρ).post (Fin G1 H1 (Rep X.K) Q) (Exx X σ G1 H1))\/(v=.ref a2/\(aR n f2 gl ρ).post (Fin G1 H1 (Rep X.K) Q) (Exx X σ G1 H1))\/(v=.ref a3/\(aR n f3 gl ρ).post (Fin G1 H1 (Rep X.K) Q) (Exx X σ G1 H1)))) I ?_) λu s1 q=>?_)
 ·refine⟨by show 3<=sizeLine;decide,λl hl=>?_⟩;have u0:Up G H (upd G l (.lst [.ref a1,.ref a2,.ref a3])) (upd H l (.lst [.ref a1,.ref a2,.ref a3])):=.new st.sub hl;refine tG.intro (st.up u0) (lC u0 h) λd y G1 H1 u1 st1 r1 h1=>?_;cases r1 with
  |int i=>
   have h1:(if 0<=i then (match [aR n f1 gl,aR n f2 gl,aR n f3 gl][i.toNat]? with
    |some g=>g ρ
    |none=>.no)else .no:R D).post (Fin G1 H1 (Rep X.K) Q) (Exx X σ G1 H1):=h1;by_cases h0:0<=i
   ·rw[if_pos h0]at h1;obtain⟨j,rfl⟩:=Ya h0;rw[tI]at h1;have hsq:SqL X.K H1 l [.ref a1,.ref a2,.ref a3]:=.of (u1.sub _ _ (u1.gg _ _ ba))
    match j,h1 with
    | 0,h1=>exact⟨l,_,_,_,rfl,rfl,hsq,rfl,G1,st1,.inl ⟨rfl,h1⟩⟩
    | 1,h1=>exact⟨l,_,_,_,rfl,rfl,hsq,rfl,G1,st1,.inr (.inl ⟨rfl,h1⟩)⟩
    | 2,h1=>exact⟨l,_,_,_,rfl,rfl,hsq,rfl,G1,st1,.inr (.inr ⟨rfl,h1⟩)⟩
    |j+3,h1=>exact h1.elim
   ·rw[if_neg h0]at h1;exact h1.elim
  |_=>exact h1.elim
 ·obtain⟨v,H1,I1,rv,G1,st1,q⟩:=q;rcases q with⟨rfl,q⟩|⟨rfl,q⟩|⟨rfl,q⟩;·cases rv;rw[<- l1]at q;exact rM F1 hr k1 b1 ha he hpl I1 st1 q
  ·cases rv;rw[<- l2]at q;exact rM F2 hr k2 b2 ha he hpl I1 st1 q
  ·cases rv;rw[<- l3]at q;exact rM F3 hr k3 b3 ha he hpl I1 st1 q
end
noncomputable abbrev qu(P:Program)(w:World)(K:PySem.W.Frag)(mg:Str->Option Value)(base:Heap)(N:List Str)(qual:Str)(scope:Scope)(cl:List (Str×Addr))(f:Addr)(cd:Value)(A:Around)(outer:List Env)(s:Shared)(H:Hp)(E:XK):Cx:=
 gCx P w K mg base N (PySem.W.envX qual scope s.heap.objs.size f cd cl) (λ_=>false) A outer s H E
structure ClOk(N:List Str)(scope:Scope)(cl:List (Str×Addr))(σ:St)(H:Hp)(h:Heap):Prop where
 kind:scope.kind=.function
 nocell:∀y∈scope.names,y.2≠.cell
 inj:∀y z c,cl.lookup y=some c->cl.lookup z=some c->y=z
 has:∀y,scope.names.lookup y=some .free->∃c,cl.lookup y=some c
 cell:∀y c,cl.lookup y=some c->H c=none/\∃v,h.IsCell c v
 val:∀(i:Nat) y v,N[i]?=some y->σ[i]?=some (some v)->∃u c,RelV v u/\scope.names.lookup y=some .free/\cl.lookup y=some c/\h.IsCell c (some u)
 len:σ.length=N.length
def vd{pos:Pos}{a b c cv:Value}:∀{l:List Value},TriplesOk l->codeAmong pos (l++[a,b,c])=some cv->cv=c\/codeAmong pos l=some cv:=λ{l}=>by
 induction l using TriplesOk.induct with
 |case1=>
  intro _ h;left;rw[j6,codeAmong.eq_def]at h
  repeat' split at h
  all_goals simp_all[codeAmong]
 |case2 i t j u v r ih=>
  intro ht h;rw[TriplesOk.eq_2]at ht;simp only[List.cons_append]at h;rw[codeAmong.eq_1]at h⊢;split at h;·rename_i q;rw[if_pos q];exact .inr h
  ·rename_i q;rw[if_neg q];exact ih ht h
 |case3 x h1 h2=>intro ht;rw[TriplesOk.eq_3 x h1 h2]at ht;exact ht.elim
section
variable{params:Arguments}{body:Expr}{pos:Pos}{c P:Addr}{ps:Array Value}{Q:Value->Shared->Prop}
structure Lam(X:Cx)(pins:List (Addr×Obj))(σ:St)(H:Hp)(s:Shared)(params:Arguments)(body:Expr)(scope:Scope)(f:Addr)(cd ctv pm:Value)(H1:Hp)(s1:Shared):Prop where
 inv:Inv X pins σ H1 s1
 hh:Same H H1
 new:∀a,H a=none->H1 a=none\/s.heap.objs.size<=a
 free:H1 f=none
 fn:s1.heap.get? f=some { cls:=.type "function",data:=.func (PySem.W.kla_fn "<lambda>" (X.env.qual++"<lambda>") params body scope (kF X.env scope.names []) pm cd ctv) }
 codeH:∃c o vs t u,cd=.ref c/\H1 c=some (.frz o u)/\o.data=.fields vs/\vs[1]?=some (.str (X.env.qual++"<lambda>") t)
def zp(I:Inv X pins σ H s)(hdef:defaultsOf params X.env=([],[]))(hc:X.env.code=.ref c)(hcd:PySem.W.CodeHd s.heap c P)(hT:H P=some (.tbl ps))(hq:xS ps=X.env.qual++"<lambda>")(hbm:s.heap.BuiltinsAt X.mg P)(hfr:∀y∈scope.names,y.2=.free->X.env.kindOf y.1=some .cell)(hgP:mainGlobals≠P)(h:∀f cd ctv pm H1 s1,Lam X pins σ H s params body scope f cd ctv pm H1 s1->Q (.ref f) s1):
  wpAny (model X.prog X.w) X.A (eval (.Lambda params body scope pos) X.env) Q X.xe s:=by
 have clos:closureFor scope X.env=pure (kF X.env scope.names []):=dD λy hy hk=>I.ok.has y.1 (.inl (hfr y hy hk));have hns:s.heap.Ns mainGlobals X.mg:=by obtain⟨o,es,ep,e,r⟩:=I.ok.mod.glob;exact⟨o,es,ep,I.bk _ _ e,r⟩
 obtain⟨qs,hP,tr,co⟩:=I.hok P _ hT;have neP:∀{b:Addr},H b=none->b≠P:=λe z=>by rw[z,hT]at e;cases e
 refine PySem.W.kla_eval hdef ?_;cases q:codeAmong pos qs.toList with
 |some cv=>obtain⟨c',o',vs',t',e1,e2,e3,e4⟩:=co pos cv q;refine PySem.W.kla_makeFunctionHit clos I.ok.glob hns hc hcd hP tr q hbm λctv h' tk old sz=>?_;have old2:∀b o,s.heap.get? b=some o->∀ob,(h'.push ob).get? b=some o:=λb o e ob=>w8 _ (old b o e);refine h _ cv ctv _ H _ ⟨I.kept (t':=tk) λb o e=>old2 b o e _,.refl _,λa e=>.inl e,I.hok.fresh sz,t8 _ rfl,⟨c',o',vs',t',_,e1,e2,e3,?_⟩⟩;rw[<- hq];exact e4
 |none=>
  refine PySem.W.kla_makeFunction clos I.ok.glob hns hc hcd hP tr q hgP hbm λc' ctv h' tk ext lo hi cr tab=>?_;have fr:H c'=none:=I.hok.fresh lo;obtain⟨c2,oc,vs,t,z1,z2,z3,z4⟩:=cr;cases z1;have old:∀b o,b≠P->s.heap.get? b=some o->∀ob,(h'.push ob).get? b=some o:=λb o n e ob=>w8 _ (ext b o n e);have neU:∀{b:Addr}{o:HO},H b=some o->upd H c' (.frz oc (.own P)) b=some o:=λe=>by rw[aQ (aL e fr)];exact e
  have un:∀ob,Un (frs X.stack) [] H (upd H c' (.frz oc (.own P))) s.heap (h'.push ob):=λob=>by
   refine⟨λb o e n _ _=>old b o (neP n) e ob,λb o e n _ _=>⟨o.slots,old b o (neP n) e ob⟩,λb o e n _=>?_,λb o e _=>?_,λb xs e=>neU e,λb o u e=>neU e,λb ps e=>⟨#[],by rw[neU e];simp⟩⟩;·rw[aQ (λz=>by have:=xz e;rw[z]at this;exact absurd this (o9.mpr lo))];exact n
   ·by_cases z:b=P;·rw[z];exact⟨_,w8 _ tab⟩
    ·exact⟨o,old b o z e ob⟩
  have hok:∀ob,HOk X.prog X.w (upd H c' (.frz oc (.own P))) (h'.push ob):=λob b o e=>by
   by_cases z:b=c';·subst z;rw[ba]at e;cases e;exact⟨w8 _ z2,oc,w8 _ z2⟩
   ·rw[aQ z]at e;by_cases zP:b=P
    ·subst zP;rw[hT]at e;cases e;refine⟨_,w8 _ tab,?_,λpos' cv q'=>?_⟩;·rw[Yb];exact TriplesOk_snoc _ _ _ _ tr
     ·rw[Yb]at q';rcases vd tr q' with y|y
      ·subst y;refine⟨c',oc,vs,t,rfl,ba,z3,?_⟩;rw[hq];exact z4
      ·obtain⟨c2,o3,vs3,t3,y1,y2,y3⟩:=co pos' cv y;exact⟨c2,o3,vs3,t3,y1,neU y2,y3⟩
    ·refine(I.hok b o e).stay (λb' u hb' q'=>old b' u (λz=>?_) q' ob) (λb' e'=>neU e') (λb' xs e'=>neU e') (λb' ob' u' e'=>neU e');rcases hb' with hb'|hb';·exact zP (hb'▸z)
     ·rw[z,hT]at hb';cases hb'
  refine h _ (.ref c') ctv _ (upd H c' (.frz oc (.own P))) _ ⟨I.call' (s':={ s with heap:=_,toks:=tk }) (ch:=[]) rfl (un _) (hok _) I.bare (λb z=>absurd z (by simp)),λb o e=>neU e,λa e=>?_,?_,t8 _ rfl,⟨c',oc,vs,t,_,rfl,ba,z3,z4⟩⟩
  ·by_cases z:a=c';·exact .inr (z▸lo)
   ·exact .inl (by rw[aQ z];exact e)
  ·rw[aQ (lB hi)];refine I.hok.fresh (w9 lo (b9 hi))
end
structure FnFH(P:Program)(w:World)(K:PySem.W.Frag)(mg:Str->Option Value)(base:Heap)(k:Nat)(f:Addr)(fd:FuncData)(ps:List Str)(g:List D->R D):Prop where
 run:∀(A:Around)(x:Addr)(outer:List Env)(s:Shared)(H:Hp)(args:Args)(us:List Value)(vs:List V)(Q:VK)(E:XK),Room k A->Env0 P w K mg base A outer s H->BindsTo s fd args (ps.zip us)->Vals vs us->(vs.length=ps.length/\spF K g vs H Q E)->
  codeAny (model P w) (A.mark (some (.ref x))) (.call (.ref f) args) (CR (CXo P w) outer P w H s Q E) s
structure CalleeH(P:Program)(w:World)(K:PySem.W.Frag)(mg:Str->Option Value)(base:Heap)(x:Str)(k n:Nat)(g:List D->R D):Prop where
 ex:∃f fd ps,FnFH P w K mg base k f fd ps g/\mg x=some (.ref f)/\PySem.W.keepIn K (.ref f)=true/\Binds K fd ps []/\ps.length=n
noncomputable def GE(P:Program)(w:World)(K:PySem.W.Frag)(mg:Str->Option Value)(base:Heap)(k:Nat)(s1:Shared)(G1 H1:Hp)(f:Addr)(m:R D):Prop:=
 ∀(Y:Cx)(pins:List (Addr×Obj))(σY:St)(G2 H2:Hp)(s2:Shared)(fs:List Addr)(Q:VK),Y.prog=P->Y.w=w->Y.K=K->Y.mg=mg->Y.base=base->Inv Y pins σY H2 s2->Room k Y.A->Un fs [] H1 H2 s1.heap s2.heap->Up G1 H1 G2 H2->
  m.post (Fin G2 H2 (Rep Y.K) Q) (Exx Y σY G2 H2)->(∃o fd,s2.heap.get? f=some o/\o.data=.func fd)/\wpAny (model Y.prog Y.w) Y.A (call (.ref f) []) (EP Y pins σY Q) Y.xe s2
structure Told(P:Program)(w:World)(K:PySem.W.Frag)(mg:Str->Option Value)(base:Heap)(x:Str)(k j:Nat)(g:R D->R D):Prop where
 ex:∃ft,mg x=some (.ref ft)/\PySem.W.keepIn K (.ref ft)=true/\∀(A:Around)(outer:List Env)(s1:Shared)(G1 H1:Hp)(f:Addr)(m:R D)(Q:VK)(E:XK),Room k A->Env0 P w K mg base A outer s1 H1->Same G1 H1->GE P w K mg base j s1 G1 H1 f m->
  (g m).post (Fin G1 H1 (Rep K) Q) (λC=>∀G' H',Up G1 H1 G' H'->E (.ref C) none H')->codeAny (model P w) A (.call (.ref ft) ⟨[.ref f],[]⟩) (CR (CXo P w) outer P w H1 s1 Q E) s1
structure LamAt(X:Cx):Prop where
 ex:∃c P q,X.env.code=.ref c/\(∀h,X.K.In h->PySem.W.CodeHd h c P)/\vG X.base P q/\q=X.env.qual++"<lambda>"/\X.base.BuiltinsAt X.mg P/\mainGlobals≠P
structure LamOk(X:Cx)(scope:Scope)(N':List Str)(ix:List Nat):Prop where
 kind:scope.kind=.function
 co:scope.isCoroutine=false
 gen:scope.isGenerator=false
 cell:∀y∈scope.names,y.2≠.cell
 fr:∀y∈scope.names,y.2=.free->X.env.kindOf y.1=some .cell
 tl:N'=ix.map λ(i:Nat)=>X.N.getD i Str.empty
 lt:∀i∈ix,i<X.N.length
 fre:∀y∈N',scope.names.lookup y=some .free/\(y,NameKind.free)∈scope.names
def Fu(hk:scope.kind=.function:=by rfl)(hc:scope.isCoroutine=false:=by rfl)(hg:scope.isGenerator=false:=by rfl)(h1:(∀y∈scope.names,y.2≠.cell)/\(∀y∈scope.names,y.2=.free->y.1∈N')/\∀y∈N',scope.names.lookup y=some .free/\(y,NameKind.free)∈scope.names:=by decide +kernel)(h2:N'.map X.env.kindOf=N'.map λ_=>some NameKind.cell:=by rfl)(h3:N'=ix.map (λ(i:Nat)=>X.N.getD i Str.empty):=by rfl)(h4:ix.all (λi=>decide (i<X.N.length))=true:=by rfl):LamOk X scope N' ix:=by
 obtain⟨a,b,c⟩:=h1;exact⟨hk,hc,hg,a,λy hy h=>ZB.1 h2 _ (b y hy h),h3,λi hi=>iN (v6.1 h4 i hi),c⟩
section
variable{params:Arguments}{body:Expr}{lp pos:Pos}{g:R D->R D}
def CZ(ok:LamOk X scope N' ix)(I:Inv X pins σ H s):ClOk N' scope (kF X.env scope.names []) (cO 0 ix σ) H s.heap:=by
 have cl:∀y c,(kF X.env scope.names []).lookup y=some c->X.env.cells.lookup y=some c:=kL scope.names [] (λy c h=>by simp at h);have hasf:∀y,(y,NameKind.free)∈scope.names->∃c,(kF X.env scope.names []).lookup y=some c:=λy hy=>iz scope.names [] y (.inr ⟨hy,I.ok.has y (.inl (ok.fr _ hy rfl))⟩);refine⟨ok.kind,ok.cell,λy z c h1 h2=>I.ok.inj y z c (cl y c h1) (cl z c h2),λy hy=>hasf y (k8 hy),λy c h=>⟨I.freeC y c (cl y c h),I.cell y c (cl y c h)⟩,λi y v h1 h2=>?_,?_⟩
 ·unfold cO at h2;rw[List.replicate_zero,j6,v8]at h2;cases e:ix[i]? with
  |none=>rw[e]at h2;cases h2
  |some i0=>
   rw[e]at h2;have h2':σ[i0]?=some (some v):=by
    cases q:σ[i0]? with
    |none=>rw[p9,q]at h2;cases h2
    |some z=>rw[p9,q]at h2;have:=uV h2;rw[<- this];rfl
   have hy:X.N[i0]?=some y:=by have ht2:=h1;rw[ok.tl,v8,e]at ht2;have hl:=ok.lt i0 (mW e);have q:=uV ht2;rw[xw hl,<- q];show some X.N[i0]=some (X.N.getD i0 Str.empty);rw[xZ,xw hl];rfl
   obtain⟨fr1,fr2⟩:=ok.fre y (mW h1);have kc:=ok.fr _ fr2 rfl;obtain⟨m0,hn0,hl⟩:=I.loc;obtain⟨u,ru,lk⟩:=hl i0 y v hy h2' (.inr (.inl kc));rcases lk with⟨z,_⟩|⟨_,c,hc,hcell⟩;·rw[kc]at z;cases z
   ·obtain⟨c',hc'⟩:=hasf y fr2;have:=cl y c' hc';rw[hc]at this;cases this;exact⟨u,c,ru,fr1,hc',hcell⟩
 ·unfold cO;rw[ok.tl];simp
end
def A6{w:World}{K:PySem.W.Frag}{mg:Str->Option Value}{base:Heap}{N:List Str}{pos:Pos}{cl:List (Str×Addr)}{A:Around}{outer:List Env}{E:XK}(h:At N i x)(hv:Vis (qu P w K mg base N qual scope cl f cd A outer s H E).env.scope x:=by first|exact Or.inl rfl|exact Or.inr (Or.inl rfl)|exact Or.inr (Or.inr rfl))(hd:(x==("__debug__":Str))=false:=by decide)(hcd:(x==("__classdict__":Str))=false:=by decide):PF (qu P w K mg base N qual scope cl f cd A outer s H E) (.Name x pos) (λρ=>rdV ρ i):=nq i h hv hd hcd
structure LamDef(K:PySem.W.Frag)(mg:Str->Option Value)(fd:FuncData)(Pt:Addr):Prop where
 ex:∃c,fd.code=.ref c/\∀h,K.In h->PySem.W.CodeHd h c Pt
 ne:mainGlobals≠Pt
structure LamB(K:PySem.W.Frag)(mg:Str->Option Value)(base:Heap)(qual:Str)(fd:FuncData)(Pt:Addr):Prop where
 ld:LamDef K mg fd Pt
 tb:vG base Pt (qual++".<locals>."++"<lambda>")
 bm:base.BuiltinsAt mg Pt
def Fun.okFT{w:World}{K:PySem.W.Frag}{mg:Str->Option Value}{base:Heap}{N:List Str}(F:Fun K x qual st f fd)(LB:LamB K mg base qual fd Pt)(S:FnScope N ps (aO st)){g:Ev->O}(hbody:∀(cdv:Value)(A:Around)(outer:List Env)(s:Shared)(H:Hp)(E:XK),Room k (A.deeper (envOfC qual (aO st) s.heap.objs.size f cdv))->LamAt (gM (CXo P w) P w K mg base N qual (aO st) f cdv A outer s H E)->kh (gM (CXo P w) P w K mg base N qual (aO st) f cdv A outer s H E) (gB st) g):
  FnF P w K mg base (k+1) f fd ps (λds=>aJ (g (aM N.length ds))):=by
 obtain⟨oc,od,kV,doc,pm,an,cdv,ct,osl,rfl,lk,hcd⟩:=F.ex;refine BW lk hcd S (λvs H Q E h=>h.1) λA outer s H vs Q E hr hsp=>?_;obtain⟨hl,G,ds,sub,r,h⟩:=hsp;have la:LamAt (gM (CXo P w) P w K mg base N qual (aO st) f cdv A outer s H E):=by obtain⟨c,ec,hd⟩:=LB.ld.ex;exact⟨c,Pt,_,ec,hd,LB.tb,rfl,LB.bm,LB.ld.ne⟩
 refine⟨_,hbody cdv A outer s H E hr la G H,G,aM N.length ds,uf sub r,?_⟩;dsimp only at h;cases q:g (aM N.length ds)with
 |nx ρ=>rw[q]at h;exact λσ G' H' sr=>h .non G' H' sr.up .non
 |rt d=>rw[q]at h;exact λv G' H' u rv=>h v G' H' u rv
 |re d ρ=>rw[q]at h;exact λv σ G' H' sr rv=>h v G' H' sr.up rv
 |bk ρ=>rw[q]at h;exact h.elim
 |ct ρ=>rw[q]at h;exact h.elim
 |ex C ρ=>rw[q]at h;exact λe s' fl=>uk fl h
 |no=>rw[q]at h;exact h.elim
noncomputable def hid(H:Hp)(ow:Owns):Hp:=λa=>if (ow a).isSome=true then none else H a
noncomputable def H8(i j:Nat)(ow:Owns):Owns:=λa=>match ow a with
 |some (i',t)=>if i'=i then some (j,t)else none
 |none=>none
inductive RM where
 |ok (d:D) (fs:List (Nat×Fd))|rd (d:D)|ex (C:Addr)|no
noncomputable abbrev MF:=List (Nat×Fd)->List D->RM
noncomputable def spM(K:PySem.W.Frag)(C:Addr)(F:MF):Sp:=λvs H Q E=>∃G p us ds fs ow,vs=.ref p::us/\Reps K G us ds/\Same G H/\(∀a t,ow a=some t->G a=none)/\ObjAt K (λ_=>none) G H ow 0 true C p fs/\match F fs ds with
 |.ok d fs'=>∀v G' H' ow',Up G (hid H ow) G' H'->ObjAt K (hid H ow) G' H' ow' 0 true C p fs'->Rep K G' v d->Q v H'
 |.rd d=>∀v G' H',Up G H G' H'->Rep K G' v d->Q v H'
 |.ex C'=>∀G' H',Up G H G' H'->E (.ref C') none H'
 |.no=>False
noncomputable abbrev FnM(P:Program)(w:World)(K:PySem.W.Frag)(mg:Str->Option Value)(base:Heap)(k:Nat)(f:Addr)(fd:FuncData)(ps:List Str)(C:Addr)(F:MF):Prop:=FnOk P w K mg base (CXo P w) k f fd ps (λvs H Q E=>vs.length=ps.length/\spM K C F vs H Q E)
noncomputable def KN(i:Nat)(m:Bool)(H₀ G H:Hp)(ow:Owns):Owns:=λa=>open Classical in if (∃o,H a=some o)/\G a=none/\(m=true->H₀ a=none)then H8 i 0 ow a else none
structure CF(K:PySem.W.Frag)(C:Addr)(ks:List Nat):Prop where
 cl:Cls K C
 ne:C≠DC
 na:∀k∈ks,k<fnames.length/\FZ K C (EX k)
structure MCallee(P:Program)(w:World)(K:PySem.W.Frag)(mg:Str->Option Value)(base:Heap)(C:Addr)(mn:Str)(k n:Nat)(F:MF):Prop where
 ex:∃f fd ps,FnM P w K mg base k f fd ps C F/\Meth K C mn f/\Binds K fd ps []/\ps.length=n+1
noncomputable def RM.read:RM->R D
 |.rd d=>.ok d
 |.ex C=>.ex C
 |_=>.no
noncomputable def RM.out(r:RM)(C p:Addr)(i:Nat)(ρ:Ev):O:=match r with
 |.ok _ fs'=>.nx (ρ.set i (some (.obj true C p fs')))
 |.rd _=>.nx ρ
 |.ex E=>.ex E ρ
 |.no=>.no
structure MkC(P:Program)(w:World)(K:PySem.W.Frag)(mg:Str->Option Value)(base:Heap)(C:Addr)(cn:Str)(k n:Nat)(F:MF):Prop where
 ex:∃f fd ps,FnM P w K mg base k f fd ps C F/\Mk K C f/\mg cn=some (.ref C)/\Binds K fd ps []/\ps.length=n+1
 ne:C≠DC
structure CalleeM(P:Program)(w:World)(K:PySem.W.Frag)(mg:Str->Option Value)(base:Heap)(C:Addr)(x:Str)(k n:Nat)(F:MF):Prop where
 ex:∃f fd ps,FnM P w K mg base k f fd ps C F/\mg x=some (.ref f)/\PySem.W.keepIn K (.ref f)=true/\Binds K fd ps []/\ps.length=n+1
noncomputable def FC(P:Program)(w:World)(K:PySem.W.Frag)(mg:Str->Option Value)(base:Heap)(k:Nat)(s1:Shared)(G1 H1:Hp)(f:Addr)(Q:VK):Prop:=
 ∀(Y:Cx)(pins:List (Addr×Obj))(σY:St)(G2 H2:Hp)(s2:Shared)(fs:List Addr),Y.prog=P->Y.w=w->Y.K=K->Y.mg=mg->Y.base=base->Inv Y pins σY H2 s2->Room k Y.A->Un fs [] H1 H2 s1.heap s2.heap->Up G1 H1 G2 H2->
  (∃o fd,s2.heap.get? f=some o/\o.data=.func fd)/\wpAny (model Y.prog Y.w) Y.A (call (.ref f) []) (EP Y pins σY Q) Y.xe s2
structure ToldOk(P:Program)(w:World)(K:PySem.W.Frag)(mg:Str->Option Value)(base:Heap)(x:Str)(k j:Nat):Prop where
 ex:∃ft,mg x=some (.ref ft)/\PySem.W.keepIn K (.ref ft)=true/\∀(A:Around)(outer:List Env)(s1:Shared)(G1 H1:Hp)(f:Addr)(Q:VK)(E:XK),Room k A->Env0 P w K mg base A outer s1 H1->Same G1 H1->FC P w K mg base j s1 G1 H1 f Q->
  codeAny (model P w) A (.call (.ref ft) ⟨[.ref f],[]⟩) (CR (CXo P w) outer P w H1 s1 Q E) s1
def StE.consV{K:PySem.W.Frag}(st:StE K G H σ ρ)(hno:NoOwn ρ)(r:Rep K G v d):StE K G H (some v::σ) (some (.val d)::ρ):=by
 refine⟨st.sub,by simp[st.len],λi d' e=>?_,λi m C p fs e=>?_⟩
 ·cases i with
  |zero=>cases e;exact⟨v,rfl,r⟩
  |succ j=>rw[Z8]at e⊢;exact st.val j d' e
 ·cases i with
  |zero=>cases e
  |succ j=>rw[Z8]at e;exact absurd e (hno.obj j m C p fs)
def yK{w:World}{K:PySem.W.Frag}{mg:Str->Option Value}{base:Heap}{N:List Str}{cl:List (Str×Addr)}{A:Around}{outer:List Env}{E:XK}{tk:Nat}{u:Value}(C:ClOk N scope cl σ H s.heap)(hx:scope.names.lookup x=some .local)(rv:RelV v u)(hd:A.handled=none)(e0:Env0 P w K mg base A outer s H)(hns:h'.Ns s.heap.objs.size λy=>List.lookup y [(x,u)].reverse)(hk:∀b o,s.heap.get? b=some o->h'.get? b=some o):
  Inv (qu P w K mg base (x::N) qual scope cl f cd A outer s H E) [] (some v::σ) H { s with heap:=h',toks:=tk }:=by
 have noA:∀b:Addr,b∉(qu P w K mg base (x::N) qual scope cl f cd A outer s H E).ex:=λb z=>absurd (show b∈([]:List Addr) from z) (by simp);refine⟨⟨e0.mod,C.kind,rfl,rfl,yo _,C.inj,λy hy=>?_,λy c z _=>?_,λ_=>hd,Around.frames_deeper e0.frames,.inr ⟨rfl,rfl⟩,λb z=>absurd z (noA b),e0.bs,e0.bsz,λb _ _=>noA b,λb z=>absurd z (noA b),e0.funs,e0.frf,e0.tabs⟩,
  rfl,e0.bare,Un.kept hk,⟨_,hns,λi y v' h1 h2 h3=>?_⟩,λy c h=>?_,e0.hok.fresh (yo _),λy c h=>(C.cell y c h).1,λp hp=>absurd (show p∈([]:List (Addr×Obj)) from hp) (by simp),e0.hok.kept hk,by show(some v::σ).length=(x::N).length;rw[r6,r6,C.len]⟩
 ·have hy:scope.names.lookup y=some .cell\/scope.names.lookup y=some .free:=hy;rcases hy with hy|hy;·exact absurd rfl (C.nocell _ (k8 hy))
  ·exact C.has y hy
 ·cases z
 ·have h1:(x::N)[i]?=some y:=h1;cases i with
  |zero=>rw[List.getElem?_cons_zero]at h1 h2;cases h1;cases h2;exact⟨u,rv,.inl ⟨hx,by simp[List.lookup]⟩⟩
  |succ j=>rw[Z8]at h1 h2;obtain⟨u,c,r,k,e,q⟩:=C.val j y v' h1 h2;exact⟨u,r,.inr ⟨.inr k,c,e,q.keeps hk⟩⟩
 ·obtain⟨_,v,q⟩:=C.cell y c h;exact⟨v,q.keeps hk⟩
section
variable{Y:Cx}{σY:St}{o:Obj}{N:List Str}{params:Arguments}{body:Expr}{cl:List (Str×Addr)}{pm ctv:Value}{te:TE}{Q:VK}{E:XK}{u:Value}
def wW(J:Inv Y pins σY H s)(hr:Room (k+1) Y.A)(hf:s.heap.get? f=some o)(hfd:o.data=.func (PySem.W.kla_fn "<lambda>" qual params body scope cl pm cd ctv))(hcd:s.heap.CodeRec cd qual)(hp:bindArgs (PySem.W.kla_fn "<lambda>" qual params body scope cl pm cd ctv) ⟨[u],[]⟩=pure [(x,u)])(hco:scope.isCoroutine=false)(hge:scope.isGenerator=false)(C:ClOk N scope cl σ H s.heap)(hx:scope.names.lookup x=some .local)(rv:RelV v u)(hb:PE (qu Y.prog Y.w Y.K Y.mg Y.base (x::N) qual scope cl f cd Y.A Y.stack s H E) body te)(h:te (some v::σ) H Q):
  wpAny (model Y.prog Y.w) Y.A (call (.ref f) [u]) (EP Y pins σY Q) (λe s'=>CXo Y.prog Y.w Y.stack H s E e s') s/\
  wpAny (model Y.prog Y.w) Y.A (call (.ref f) [u]) (λw s'=>CE Y.stack Y.prog Y.w H s Q w s') (λe s'=>CXo Y.prog Y.w Y.stack H s E e s') s:=by
 have lim:s.heap.NoLimit:=J.nolimit;have core:codeAny (model Y.prog Y.w) Y.A (.call (.ref f) ⟨[u],[]⟩) (CR (CXo Y.prog Y.w) Y.stack Y.prog Y.w H s Q E) s:=by refine PySem.W.kla_callFunE hr.depth hf hfd hco hge rfl hcd (j7 hp ?_);refine wpAny_newFunctionEnv C.nocell (by intro y hy;rw[l9.1 hy];exact hx) (λh₁ hns₁ hsb₁=>?_) C.kind;have old:∀b ob,s.heap.get? b=some ob->h₁.get? b=some ob:=λb ob e=>hsb₁.extBut b ob (t5 (xz e)) (w8 _ e);refine⟨lim.keeps old,PySem.W.kla_codeExpr ?_⟩;refine t7 (hb [] _ (some v::σ) H Q (yK C hx rv hr.hd J.env0 hns₁ old) h) (λu s' hs=>?_) λe s' hs=>hs;obtain⟨v,H',I',rv,q⟩:=hs;exact⟨v,H',I'.os,I'.bare,I'.base,I'.hok,rv,q⟩
 refine⟨c9 (c0 core λr s' hq=>?_),c9 (c0 core λr s' hq=>?_)⟩
 ·cases r with
  |error e=>exact hq
  |ok fl=>
   cases fl with
   |ret u=>exact J.after hq
   |_=>exact False.elim hq
 ·cases r with
  |error e=>exact hq
  |ok fl=>
   cases fl with
   |ret u=>exact hq
   |_=>exact False.elim hq
end
end L2
namespace L2
open PySem PySem.Spec PyProof.Rows
open PySem.AutoSeq1 (wpAny_loadPart')
open PySem.MeetsSeq PySem.MeetsSeq2 PySem.MeetsSeq3
inductive NumPairs:List (Value×Value)->List Int->List Int->Prop
 |nil:NumPairs [] [] []
 |cons {zs:List (Value×Value)} {xs ys:List Int} (i:Int) (t:Addr) (j:Int) (u:Addr) (r:NumPairs zs xs ys):NumPairs ((.int i t,.int j u)::zs) (i::xs) (j::ys)
noncomputable def hJ:List D->Option (List Int)
 | []=>some []
 |.int i::ds=>(hJ ds).map (i::·)
 |_=>none
theorem uF{K:PySem.W.Frag}{G:Hp}:∀{ds:List D}{ns:List Int}{vs:List V}{us:List Value},hJ ds=some ns->Reps K G vs ds->Vals vs us->IntsAre us ns
 | [],ns,vs,us,e,r,v=>by cases e;cases r;cases v;exact .nil
 |d::ds,ns,vs,us,e,r,v=>by
  cases d with
  |int i=>
   cases h:hJ ds with
   |none=>simp[hJ,h]at e
   |some ms=>
    simp[hJ,h]at e;subst e;cases r with
    |cons r1 r2=>
     cases v with
     |cons v1 v2=>have:=r1.int_inv;subst this;obtain⟨t,rfl⟩:=v1;exact .cons i t (uF h r2 v2)
  |_=>simp[hJ]at e
def Un.data{fs ex:List Addr}(u:Un fs ex H H' h h'){b:Addr}{o:Obj}(e:h.get? b=some o)(n:H b=none)(x:b∉ex):∃o',h'.get? b=some o'/\o'.data=o.data:=by
 by_cases f:b∈fs;·obtain⟨sl,q⟩:=u.slot b o e n f x;exact⟨_,q,rfl⟩
 ·exact⟨o,u.keep b o e n f x,rfl⟩
end L2
namespace L2
open PySem PySem.Spec PyProof.Rows
section
variable{elt:Expr}{ifs:List Expr}{px pos:Pos}{gt:Ev->R Bool}{ge:Ev->R D}
structure CompOkC(X:Cx)(scope:Scope)(x:Str):Prop where
 kind:scope.kind=.function
 names:∀y∈scope.names,y.2=.local->scope.names.lookup y.1=some .local
 nofree:∀y∈scope.names,y.2≠.free
 cells:∀L,cellsFrom L scope.names []=[(x,L)]
 lk:scope.names.lookup x=some .cell
 only:∀y,scope.names.lookup y=some .cell->y=x
end
noncomputable abbrev TF:=List (Nat×Fd)->Option (List (Nat×Fd))
noncomputable def spT(K:PySem.W.Frag)(C:Addr)(F:TF):Sp:=λvs H Q E=>∃G p fs ow,vs=[.ref p]/\Same G H/\(∀a t,ow a=some t->G a=none)/\ObjAt K (λ_=>none) G H ow 0 true C p fs/\
 ∃fs',F fs=some fs'/\∀x G' H' ow',Up G H G' H'->ObjAt K H G' H' ow' 0 true C x fs'->Q (.ref x) H'
noncomputable abbrev FnT(P:Program)(w:World)(K:PySem.W.Frag)(mg:Str->Option Value)(base:Heap)(k:Nat)(f:Addr)(fd:FuncData)(ps:List Str)(C:Addr)(F:TF):Prop:=FnOk P w K mg base (CXo P w) k f fd ps (λvs H Q E=>vs.length=ps.length/\spT K C F vs H Q E)
structure TCallee(P:Program)(w:World)(K:PySem.W.Frag)(mg:Str->Option Value)(base:Heap)(C:Addr)(mn:Str)(k:Nat)(F:TF):Prop where
 ex:∃f fd ps,FnT P w K mg base k f fd ps C F/\Meth K C mn f/\Binds K fd ps []/\ps.length=1
end L2
namespace L2
noncomputable def jD(key:D->R D):List D->Option (List (List Nat))
 | []=>some []
 |x::xs=>match key x,jD key xs with
  |.ok (.str t),some ts=>some (t::ts)
  |_,_=>none
theorem mh{key:D->R D}:∀{ds:List D}{ts:List (List Nat)},jD key ds=some ts->ts.length=ds.length
 | [],ts,h=>by cases h;rfl
 |d::ds,ts,h=>by
  unfold jD at h;split at h;·rename_i t ts' _ e;cases h;rw[r6,r6,mh e]
  ·cases h
noncomputable def Stab(kl:List (List Nat))(π:Nat->Nat):Prop:=(∀i,i<kl.length->π i<kl.length)/\∀i j,i<j->j<kl.length->¬ kl.getD (π j) []<kl.getD (π i) []/\(π i<π j\/kl.getD (π i) []<kl.getD (π j) [])
theorem HJ:∀(n:Nat)(f:Nat->Nat),(∀i,i<n->f i<n)->(∀i j,i<n->j<n->f i=f j->i=j)->∀y,y<n->∃x,x<n/\f x=y
 | 0,_,_,_,y,h=>by omega
 |n+1,f,lo,inj,y,hy=>by
  have g1:∀i,i<n->(if f i=n then f n else f i)<n:=λi hi=>by
   have a:=lo i (by omega);have b:=lo n (by omega);split
   ·rename_i e;by_cases c:f n=n;·have:=inj i n (by omega) (by omega) (by omega);omega
    ·omega
   ·omega
  have ih:=HJ n (λi=>if f i=n then f n else f i) g1 λi j hi hj e=>by
   split at e
   ·split at e;·exact inj i j (by omega) (by omega) (by omega)
    ·have:=inj n j (by omega) (by omega) e;omega
   ·split at e;·have:=inj i n (by omega) (by omega) e;omega
    ·exact inj i j (by omega) (by omega) e
  by_cases c:y=f n;·exact⟨n,by omega,c.symm⟩
  by_cases d:y=n
  ·have fn:f n<n:=by have:=lo n (by omega);omega
   obtain⟨x,hx,e⟩:=ih (f n) fn;split at e;·rename_i q;exact⟨x,by omega,by omega⟩
   ·have:=inj x n (by omega) (by omega) e;omega
  ·obtain⟨x,hx,e⟩:=ih y (by omega);split at e;·exact absurd e.symm c
   ·exact⟨x,by omega,e⟩
section
variable{kl:List (List Nat)}{π ψ:Nat->Nat}
noncomputable def BefL(kl:List (List Nat))(i j:Nat):Prop:=¬ kl.getD j []<kl.getD i []/\(i<j\/kl.getD i []<kl.getD j [])
def BefL.asym(a:BefL kl i j)(b:BefL kl j i):False:=by
 rcases a.2 with x|x
 ·rcases b.2 with y|y;·omega
  ·exact a.1 y
 ·exact b.1 x
def Gn{a b:List Nat}(h1 : ¬ a<b)(h2 : ¬ b<a):a=b:=List.le_antisymm (List.not_lt.1 h2) (List.not_lt.1 h1)
def BefL.total(h:i≠j):BefL kl i j\/BefL kl j i:=by
 by_cases a:kl.getD i []<kl.getD j [];·exact .inl ⟨List.lt_asymm a,.inr a⟩
 ·by_cases b:kl.getD j []<kl.getD i [];·exact .inr ⟨a,.inr b⟩
  ·by_cases c:i<j;·exact .inl ⟨b,.inl c⟩
   ·exact .inr ⟨a,.inl (by omega)⟩
def Stab.inj(S:Stab kl π)(hi:i<kl.length)(hj:j<kl.length)(e:π i=π j):i=j:=by
 by_cases a:i<j;·have:=S.2 i j a hj;rw[e]at this;exact(BefL.asym (kl:=kl) this this).elim
 ·by_cases b:j<i;·have:=S.2 j i b hi;rw[e]at this;exact(BefL.asym (kl:=kl) this this).elim
  ·omega
def Stab.uniq(S:Stab kl π)(T:Stab kl ψ):∀(i:Nat),i<kl.length->π i=ψ i:=by
 have key:∀{π ψ:Nat->Nat},Stab kl π->Stab kl ψ->∀i,i<kl.length->(∀k,k<i->π k=ψ k)->¬ BefL kl (ψ i) (π i):=λ{π ψ} S T i hi ih b=>by
  obtain⟨m,hm,e⟩:=HJ kl.length π S.1 (λi j a b c=>S.inj a b c) (ψ i) (T.1 i hi);by_cases a:m<i;·have:=T.inj (by omega) hi ((ih m a).symm.trans e);omega
  ·by_cases c:m=i;·subst c;rw[e]at b;exact BefL.asym b b
   ·have:=S.2 i m (by omega) hm;rw[e]at this;exact BefL.asym this b
 intro i;induction i using Nat.strongRecOn with
 |_ i ih=>
  intro hi;by_cases c:π i=ψ i;·exact c
  ·rcases BefL.total (kl:=kl) c with b|b;·exact(key T S i hi (λk hk=>(ih k hk (by omega)).symm) b).elim
   ·exact(key S T i hi (λk hk=>ih k hk (by omega)) b).elim
def jG{a b c:List Nat}(h:a<c):a<b\/b<c:=by
 by_cases e:a<b;·exact .inl e
 ·exact .inr (List.lt_of_le_of_lt (List.not_lt.1 e) h)
theorem tm:∀(n:Nat)(kl:List (List Nat)),n<=kl.length->∃π:Nat->Nat,(∀i,i<n->π i<n)/\∀i j,i<j->j<n->BefL kl (π i) (π j)
 | 0,_,_=>⟨id,λi h=>by omega,λi j a b=>by omega⟩
 |n+1,kl,hn=>by
  obtain⟨π,lo,so⟩:=tm n kl (by omega);have ex:∀m,m<=n->∃l,l<=m/\(∀i,i<l->¬ kl.getD n []<kl.getD (π i) [])/\∀i,l<=i->i<m->kl.getD n []<kl.getD (π i) []:=λm=>by
   induction m with
   |zero=>exact λ_=>⟨0,by omega,λi h=>by omega,λi a b=>by omega⟩
   |succ m ih=>
    intro hm;obtain⟨l,lm,h1,h2⟩:=ih (by omega);by_cases c:kl.getD n []<kl.getD (π m) []
    ·exact⟨l,by omega,h1,λi a b=>by
      by_cases e:i=m;·subst e;exact c
      ·exact h2 i a (by omega)⟩
    ·refine⟨m+1,by omega,λi hi=>?_,λi a b=>by omega⟩;by_cases e:i=m;·subst e;exact c
     ·intro z;rcases jG (b:=kl.getD (π m) []) z with y|y;·exact c y
      ·exact(so i m (by omega) (by omega)).1 y
  obtain⟨l,hl,h1,h2⟩:=ex n (yo _);refine⟨λi=>if i=l then n else if l<i then π (i - 1)else π i,λi hi=>?_,λi j ij jn=>?_⟩
  ·dsimp only;split;·omega
   ·split;·have:=lo (i - 1) (by omega);omega
    ·have:=lo i (by omega);omega
  ·dsimp only;by_cases a:i=l;·rw[if_pos a,if_neg (by omega),if_pos (by omega)];have:=h2 (j - 1) (by omega) (by omega);exact⟨List.lt_asymm this,.inr this⟩
   ·rw[if_neg a];by_cases b:j=l;·rw[if_pos b,if_neg (by omega)];exact⟨h1 i (by omega),.inl (lo i (by omega))⟩
    ·rw[if_neg b];split;·rw[if_pos (by omega)];exact so _ _ (by omega) (by omega)
     ·split
      ·by_cases c:i=j - 1;·omega
       ·exact so _ _ (by omega) (by omega)
      ·exact so _ _ ij (by omega)
noncomputable def nJ(kl:List (List Nat)):Nat->Nat:=Classical.choose (tm kl.length kl (yo _))
def hX(kl:List (List Nat)):Stab kl (nJ kl):=Yc (tm kl.length kl (yo _))
end
noncomputable def rF(ts:List (List Nat))(ds:List D):List D:=(List.range ds.length).map λi=>ds.getD (nJ ts i) .non
noncomputable def tD(key:D->R D)(ds:List D):R D:=match jD key ds with
 |some ts=>if ds.length<64 then .ok (.lst false (rF ts ds))else .no
 |none=>.no
noncomputable def wN(ga:Ev->R D)(ix:List Nat)(gb:Ev->R D):Ev->R D:=λρ=>ga ρ>>=λd=>match d with
 |.lst _ xs=>tD (λd=>gb (some (.val d)::ce 0 ix ρ)) xs
 |_=>.no
noncomputable def iE(a b:List Nat×Int):Bool:=decide (a.1<b.1) || (decide (a.1=b.1) && decide (a.2<b.2))
def bltP_iff{a b:List Nat×Int}:iE a b=true ↔ a.1<b.1\/(a.1=b.1/\a.2<b.2):=by unfold iE;simp
def bltP_false{a b:List Nat×Int}:iE a b=false ↔ ¬ (a.1<b.1\/(a.1=b.1/\a.2<b.2)):=by rw[<- bltP_iff];simp
noncomputable def StabP(kl:List (List Nat×Int))(π:Nat->Nat):Prop:=(∀i,i<kl.length->π i<kl.length)/\∀i j,i<j->j<kl.length->iE (kl.getD (π j) ([],0)) (kl.getD (π i) ([],0))=false/\(π i<π j\/iE (kl.getD (π i) ([],0)) (kl.getD (π j) ([],0))=true)
def md(a:List Nat×Int):iE a a=false:=bltP_false.2 λz=>by
 rcases z with z|z;·exact List.lt_irrefl _ z
 ·omega
def nH{a b c:List Nat×Int}(h1:iE a b=true)(h2:iE b c=true):iE a c=true:=by
 rw[bltP_iff]at *;rcases h1 with x|⟨x,x'⟩
 ·rcases h2 with y|⟨y,_⟩;·exact .inl (List.lt_trans x y)
  ·rw[<- y];exact .inl x
 ·rcases h2 with y|⟨y,y'⟩;·rw[x];exact .inl y
  ·exact .inr ⟨x.trans y,by omega⟩
def uB{a b c:List Nat×Int}(h:iE a c=true):iE a b=true\/iE b c=true:=by
 rw[bltP_iff]at *;rw[bltP_iff];rcases h with x|⟨x,x'⟩
 ·rcases jG (b:=b.1) x with y|y;·exact .inl (.inl y)
  ·exact .inr (.inl y)
 ·by_cases e:a.1<b.1;·exact .inl (.inl e)
  ·by_cases e2:b.1<a.1;·exact .inr (.inl (by rw[<- x];exact e2))
   ·have q:=Gn e e2;by_cases z:a.2<b.2;·exact .inl (.inr ⟨q,z⟩)
    ·exact .inr (.inr ⟨q.symm.trans x,by omega⟩)
def yN{a b:List Nat×Int}(h1:iE a b=false)(h2:iE b a=false):a=b:=by
 rw[bltP_false]at h1 h2;have q:=Gn (λz=>h1 (.inl z)) (λz=>h2 (.inl z));refine Prod.ext q ?_;by_cases z:a.2<b.2;·exact absurd (.inr ⟨q,z⟩) h1
 ·by_cases y:b.2<a.2;·exact absurd (.inr ⟨q.symm,y⟩) h2
  ·omega
section
variable{kl:List (List Nat×Int)}{π ψ:Nat->Nat}
noncomputable def BefP(kl:List (List Nat×Int))(i j:Nat):Prop:=iE (kl.getD j ([],0)) (kl.getD i ([],0))=false/\(i<j\/iE (kl.getD i ([],0)) (kl.getD j ([],0))=true)
def qI{a b:List Nat×Int}(h:iE a b=true):iE b a=false:=by
 cases q:iE b a with
 |false=>rfl
 |true=>rw[<- md a,nH h q]
def BefP.asym(a:BefP kl i j)(b:BefP kl j i):False:=by
 rcases a.2 with x|x
 ·rcases b.2 with y|y;·omega
  ·rw[a.1]at y;cases y
 ·rw[b.1]at x;cases x
def BefP.total(h:i≠j):BefP kl i j\/BefP kl j i:=by
 cases a:iE (kl.getD i ([],0)) (kl.getD j ([],0))with
 |true=>exact .inl ⟨qI a,.inr a⟩
 |false=>
  cases b:iE (kl.getD j ([],0)) (kl.getD i ([],0))with
  |true=>exact .inr ⟨a,.inr b⟩
  |false=>
   by_cases c:i<j;·exact .inl ⟨b,.inl c⟩
   ·exact .inr ⟨a,.inl (by omega)⟩
def StabP.inj(S:StabP kl π)(hi:i<kl.length)(hj:j<kl.length)(e:π i=π j):i=j:=by
 by_cases a:i<j;·have:=S.2 i j a hj;rw[e]at this;exact(BefP.asym (kl:=kl) this this).elim
 ·by_cases b:j<i;·have:=S.2 j i b hi;rw[e]at this;exact(BefP.asym (kl:=kl) this this).elim
  ·omega
def StabP.uniq(S:StabP kl π)(T:StabP kl ψ):∀(i:Nat),i<kl.length->π i=ψ i:=by
 have key:∀{π ψ:Nat->Nat},StabP kl π->StabP kl ψ->∀i,i<kl.length->(∀k,k<i->π k=ψ k)->¬ BefP kl (ψ i) (π i):=λ{π ψ} S T i hi ih b=>by
  obtain⟨m,hm,e⟩:=HJ kl.length π S.1 (λi j a b c=>S.inj a b c) (ψ i) (T.1 i hi);by_cases a:m<i;·have:=T.inj (by omega) hi ((ih m a).symm.trans e);omega
  ·by_cases c:m=i;·subst c;rw[e]at b;exact BefP.asym b b
   ·have:=S.2 i m (by omega) hm;rw[e]at this;exact BefP.asym this b
 intro i;induction i using Nat.strongRecOn with
 |_ i ih=>
  intro hi;by_cases c:π i=ψ i;·exact c
  ·rcases BefP.total (kl:=kl) c with b|b;·exact(key T S i hi (λk hk=>(ih k hk (by omega)).symm) b).elim
   ·exact(key S T i hi (λk hk=>ih k hk (by omega)) b).elim
theorem oX:∀(n:Nat)(kl:List (List Nat×Int)),n<=kl.length->∃π:Nat->Nat,(∀i,i<n->π i<n)/\∀i j,i<j->j<n->BefP kl (π i) (π j)
 | 0,_,_=>⟨id,λi h=>by omega,λi j a b=>by omega⟩
 |n+1,kl,hn=>by
  obtain⟨π,lo,so⟩:=oX n kl (by omega);have ex:∀m,m<=n->∃l,l<=m/\(∀i,i<l->iE (kl.getD n ([],0)) (kl.getD (π i) ([],0))=false)/\∀i,l<=i->i<m->iE (kl.getD n ([],0)) (kl.getD (π i) ([],0))=true:=λm=>by
   induction m with
   |zero=>exact λ_=>⟨0,by omega,λi h=>by omega,λi a b=>by omega⟩
   |succ m ih=>
    intro hm;obtain⟨l,lm,h1,h2⟩:=ih (by omega);by_cases c:iE (kl.getD n ([],0)) (kl.getD (π m) ([],0))=true
    ·exact⟨l,by omega,h1,λi a b=>by
      by_cases e:i=m;·subst e;exact c
      ·exact h2 i a (by omega)⟩
    ·refine⟨m+1,by omega,λi hi=>?_,λi a b=>by omega⟩;by_cases e:i=m;·subst e;simpa using c
     ·cases z:iE (kl.getD n ([],0)) (kl.getD (π i) ([],0))with
      |false=>rfl
      |true=>
       rcases uB (b:=kl.getD (π m) ([],0)) z with y|y;·exact absurd y c
       ·have:=(so i m (by omega) (by omega)).1;rw[show iE (kl.getD (π m) ([],0)) (kl.getD (π i) ([],0))=true from y]at this;cases this
  obtain⟨l,hl,h1,h2⟩:=ex n (yo _);refine⟨λi=>if i=l then n else if l<i then π (i - 1)else π i,λi hi=>?_,λi j ij jn=>?_⟩
  ·dsimp only;split;·omega
   ·split;·have:=lo (i - 1) (by omega);omega
    ·have:=lo i (by omega);omega
  ·dsimp only;by_cases a:i=l;·rw[if_pos a,if_neg (by omega),if_pos (by omega)];have:=h2 (j - 1) (by omega) (by omega);exact⟨qI this,.inr this⟩
   ·rw[if_neg a];by_cases b:j=l;·rw[if_pos b,if_neg (by omega)];exact⟨h1 i (by omega),.inl (lo i (by omega))⟩
    ·rw[if_neg b];split;·rw[if_pos (by omega)];exact so _ _ (by omega) (by omega)
     ·split
      ·by_cases c:i=j - 1;·omega
       ·exact so _ _ (by omega) (by omega)
      ·exact so _ _ ij (by omega)
noncomputable def piP(kl:List (List Nat×Int)):Nat->Nat:=Classical.choose (oX kl.length kl (yo _))
def ut(kl:List (List Nat×Int)):StabP kl (piP kl):=Yc (oX kl.length kl (yo _))
end
noncomputable def iQ:List D->Option (List (List Nat×Int))
 | []=>some []
 |.tup [.str x,.int i]::ds=>(iQ ds).map ((x,i)::·)
 |_=>none
noncomputable def sK(kl:List (List Nat×Int))(ds:List D):List D:=(List.range ds.length).map λi=>ds.getD (piP kl i) .non
noncomputable def qA:List D->Option D
 | [.lst _ ds]=>match iQ ds with
  |some kl=>if ds.length<64 then some (.lst false (sK kl ds))else none
  |none=>none
 |_=>none
theorem jV:∀{ds:List D}{kl:List (List Nat×Int)},iQ ds=some kl->kl.length=ds.length/\∀i,i<kl.length->ds[i]?=some (.tup [.str (kl.getD i ([],0)).1,.int (kl.getD i ([],0)).2])
 | [],kl,h=>by cases h;exact⟨rfl,λi h=>by simp at h⟩
 |d::ds,kl,h=>by
  unfold iQ at h;split at h;·rename_i e;cases e
  ·rename_i x i ds' e;cases e;cases q:iQ ds with
   |none=>rw[q]at h;cases h
   |some kl'=>
    rw[q]at h;cases h;have ih:=jV q;refine⟨by simp[ih.1],λj hj=>?_⟩;cases j with
    |zero=>rfl
    |succ j=>exact ih.2 j (by simpa using hj)
  ·cases h
noncomputable def pJ(ns:List Int):List Int:=ns.foldl (λacc x=>if acc.any (·==x)then acc else acc++[x]) []
noncomputable def nY:List D->Option D
 | [.lst _ ds]=>match hJ ds with
  |some ns=>if ns.length<=1000 then some (.int ((pJ ns).length:Nat))else none
  |none=>none
 |_=>none
end L2
namespace L2
open PySem PySem.Spec PyProof.Rows
section
variable{prog:Program}{w:World}{A:Around}{a₀:Array Keyed}{κ:KeyKind}{kd:SortKind}{st:SortSt}{π:Nat->Nat}
structure SB(kd:SortKind)(a₀:Array Keyed)(st:SortSt):Prop where
 perm:(arrOf st).Perm a₀
 kind:kindOf st=kd
 failed:failedOf st=none
 pend:pendingOf st = #[]
def SB.size(b:SB kd a₀ st):(arrOf st).size=a₀.size:=b.perm.size_eq
def SB.setArr(b:SB kd a₀ st){xs:Array Keyed}(h:xs.Perm (arrOf st)):SB kd a₀ (setArr st xs):=⟨h.trans b.perm,b.kind,b.failed,b.pend⟩
noncomputable def Am(prog:Program)(w:World)(A:Around)(E:Value->Shared->Prop)(s:Shared)(κ:KeyKind)(kd:SortKind)(a₀:Array Keyed):Prop:=∀(st:SortSt)(i j:Nat)(Q:Option Bool->SortSt->Prop),SB kd a₀ st->i<a₀.size->j<a₀.size->Q (some (κ.blt (KK κ (arrOf st) i) (KK κ (arrOf st) j))) st->wpS (model prog w) A E s (ltAt' i j) Q st
noncomputable def Bef(κ:KeyKind)(a₀:Array Keyed)(i j:Nat):Prop:=κ.blt (KK κ a₀ j) (KK κ a₀ i)=false/\(i<j\/κ.blt (KK κ a₀ i) (KK κ a₀ j)=true)
structure Pr(kd:SortKind)(a₀:Array Keyed)(st:SortSt)(π:Nat->Nat)(k:Nat):Prop where
 b:SB kd a₀ st
 g:∀i,(arrOf st)[i]?=a₀[π i]?
 hi:∀i,k<=i->π i=i
 lo:∀i,i<k->π i<k
noncomputable def So(κ:KeyKind)(a₀:Array Keyed)(π:Nat->Nat)(k:Nat):Prop:=∀i j,i<j->j<k->Bef κ a₀ (π i) (π j)
def Pr.kk(p:Pr kd a₀ st π k)(i:Nat):KK κ (arrOf st) i=KK κ a₀ (π i):=by unfold KK;rw[p.g]
def Pr.more(p:Pr kd a₀ st π k)(h:k<=n):Pr kd a₀ st π n:=⟨p.b,p.g,λi hi=>p.hi i (by omega),λi hi=>by
 by_cases h:i<k;·have:=p.lo i h;omega
 ·rw[p.hi i (by omega)];exact hi⟩
def tR{a b:κ.α}(h:κ.blt a b=true):κ.blt b a=false:=by
 cases q:κ.blt b a with
 |false=>rfl
 |true=>rw[<- κ.irrefl a,κ.trans a b a h q]
def So.asc(p:Pr kd a₀ st π k)(S:So κ a₀ π k)(h:SortedToK κ (arrOf st) n):So κ a₀ π n:=λi j ij jn=>by
 by_cases jk:j<k;·exact S i j ij jk
 ·have e:=h i j (by omega) jn;unfold KeyOrd.kle at e;rw[p.kk,p.kk]at e;refine⟨e,.inl ?_⟩;rw[p.hi j (by omega)];by_cases ik:i<k;·have:=p.lo i ik;omega
  ·rw[p.hi i (by omega)];exact ij
def BA{Q:AscSt->SortSt->Prop}(hL:Am prog w A E s κ kd a₀)(hn:nrem<=a₀.size)(h1:1<=k)(h2:k<=nrem)(p:Pr kd a₀ st π k)(S:So κ a₀ π k)(h:∀n,k<=n->n<=nrem->Pr kd a₀ st π n->So κ a₀ π n->(n=nrem\/κ.klt (KK κ (arrOf st) n) (KK κ (arrOf st) (n - 1)))->Q (none,n) st):wpS (model prog w) A E s (ascLoop k nrem) Q st:=by
 have so:∀i j,i<=j->j<k->κ.kle (KK κ (arrOf st) i) (KK κ (arrOf st) j):=λi j ij jk=>by
  unfold KeyOrd.kle;rw[p.kk,p.kk];by_cases e:i=j;·subst e;exact κ.irrefl _
  ·exact(S i j (by omega) jk).1
 unfold ascLoop;refine b8 (λi c st'=>c=(none,i)/\st'=st/\i<=nrem/\SortedToK κ (arrOf st) i) (λi c st' ha hb=>?_) (λc st'=>?_) ⟨rfl,rfl,h2,so⟩
 ·rintro ⟨rfl,rfl,hi,so⟩;refine t6 (hL _ _ _ _ p.b (by omega) (by omega) ?_);cases q:κ.blt (KK κ (arrOf st') i) (KK κ (arrOf st') (i - 1))with
  |true=>dsimp only;rw[if_pos rfl];exact rh (h i ha hi (p.more ha) (S.asc p so) (.inr q))
  |false=>
   dsimp only;rw[if_neg (by decide)];refine rh ⟨rfl,rfl,by omega,λx y xy yi=>?_⟩;by_cases e:y=i
   ·subst e;by_cases e2:x=y;·subst e2;exact κ.irrefl _
    ·have:=so x (y - 1) (by omega) (by omega);unfold KeyOrd.kle at this⊢;cases z:κ.blt (KK κ (arrOf st') y) (KK κ (arrOf st') x)with
     |false=>rfl
     |true=>
      rcases κ.negTrans _ (KK κ (arrOf st') (y - 1)) _ z with a|a;·rw[q]at a;cases a
      ·rw[this]at a;cases a
   ·exact so x y xy (by omega)
 ·rintro ⟨rfl,rfl,hi,so⟩;have e:max k nrem=nrem:=by omega
  rw[e]at so⊢;exact h nrem h2 (yo _) (p.more h2) (S.asc p so) (.inl rfl)
def Pr.put{l:Nat}(p:Pr kd a₀ st π k)(S:So κ a₀ π k)(hk:k<a₀.size)(hl:l<=k)(h1:∀i,i<l->κ.blt (KK κ a₀ k) (KK κ a₀ (π i))=false)(h2:∀i,l<=i->i<k->κ.blt (KK κ a₀ k) (KK κ a₀ (π i))=true):
  ∃π',Pr kd a₀ (setArr st (bubble (arrOf st) k (k - l))) π' (k+1)/\So κ a₀ π' (k+1):=by
 have hs:k<(arrOf st).size:=by rw[p.b.size];exact hk
 refine⟨λi=>if i=l then k else if l<i/\i<=k then π (i - 1)else π i,⟨p.b.setArr (bubble_perm ..),λi=>?_,λi hi=>?_,λi hi=>?_⟩,λi j ij jk=>?_⟩
 ·show(bubble (arrOf st) k (k - l))[i]?=_;rw[getElem?_bubble hs (k - l) (by omega),show k - (k - l)=l by omega];split;·rw[p.g,p.hi k (yo _)]
  ·split;·exact p.g _
   ·exact p.g _
 ·rw[if_neg (by omega),if_neg (by omega)];exact p.hi i (by omega)
 ·split;·omega
  ·split;·have:=p.lo (i - 1) (by omega);omega
   ·have:=p.lo i (by omega);omega
 ·have pk:∀i,i<k->π i<k:=p.lo;dsimp only;by_cases a:i=l;·rw[if_pos a,if_neg (by omega),if_pos (by omega)];have:=h2 (j - 1) (by omega) (by omega);exact⟨tR this,.inr this⟩
  ·rw[if_neg a];by_cases b:j=l;·rw[if_pos b,if_neg (by omega)];exact⟨h1 i (by omega),.inl (pk i (by omega))⟩
   ·rw[if_neg b];split;·rw[if_pos (by omega)];exact S _ _ (by omega) (by omega)
    ·split
     ·by_cases c:i=j - 1;·omega
      ·exact S _ _ (by omega) (by omega)
     ·exact S _ _ ij (by omega)
def Gd{Q:Bool->SortSt->Prop}{ok:Nat}(hL:Am prog w A E s κ kd a₀)(hn:n<=a₀.size)(h0:1<=ok)(h1:ok<=n)(p:Pr kd a₀ st π ok)(S:So κ a₀ π ok)(h:∀st' π',Pr kd a₀ st' π' n->So κ a₀ π' n->Q true st'):wpS (model prog w) A E s (binarySort' 0 n ok) Q st:=by
 rw[binarySort'_eq];refine t6 (b8 (λk c st=>c=(none,())/\∃π,Pr kd a₀ st π k/\So κ a₀ π k) (λk c st ha hb=>?_) (λc st=>?_) ?_)
 ·rintro ⟨rfl,π,p,S⟩;refine t6 (wpS_mono (b8 (λi c st'=>st'=st/\∃l r,c=(none,l,r)/\l<=r/\r<=k/\r - l<=k - i/\(∀i,i<l->κ.blt (KK κ a₀ k) (KK κ a₀ (π i))=false)/\(∀i,r<=i->i<k->κ.blt (KK κ a₀ k) (KK κ a₀ (π i))=true))
   (Q:=λc st'=>st'=st/\∃l r,c=(none,l,r)/\l<=k/\(∀i,i<l->κ.blt (KK κ a₀ k) (KK κ a₀ (π i))=false)/\(∀i,l<=i->i<k->κ.blt (KK κ a₀ k) (KK κ a₀ (π i))=true)) (λi c st' _ hi=>?_) (λc st'=>?_) ?_) (λc st' hq=>?_))
  ·rintro ⟨rfl,l,r,rfl,lr,rk,mm,q1,q2⟩;dsimp only;by_cases c:l ≥ r;·rw[if_pos c];exact rh ⟨rfl,l,r,rfl,by omega,q1,λi a b=>q2 i (by omega) b⟩
   ·rw[if_neg c];refine t6 (hL _ _ _ _ p.b (by omega) (by omega) ?_);rw[p.kk,p.kk,e8,e8,p.hi k (yo _)];have mono:∀i j,i<j->j<k->κ.blt (KK κ a₀ (π j)) (KK κ a₀ (π i))=false:=λi j a b=>(S i j a b).1;cases q:κ.blt (KK κ a₀ k) (KK κ a₀ (π ((l+r) / 2)))with
    |true=>
     refine rh ⟨rfl,l,(l+r) / 2,rfl,by omega,by omega,by omega,q1,λi a b=>?_⟩;by_cases e:i=(l+r) / 2;·subst e;exact q
     ·rcases κ.negTrans _ (KK κ a₀ (π i)) _ q with z|z;·exact z
      ·rw[mono _ i (by omega) b]at z;cases z
    |false=>
     refine rh ⟨rfl,(l+r) / 2+1,r,rfl,by omega,by omega,by omega,λi a=>?_,q2⟩;by_cases e:i=(l+r) / 2;·subst e;exact q
     ·cases z:κ.blt (KK κ a₀ k) (KK κ a₀ (π i))with
      |false=>rfl
      |true=>
       rcases κ.negTrans _ (KK κ a₀ (π ((l+r) / 2))) _ z with y|y;·rw[q]at y;cases y
       ·rw[mono i _ (by omega) (by omega)]at y;cases y
  ·rintro ⟨rfl,l,r,rfl,lr,rk,mm,q1,q2⟩;exact⟨rfl,l,r,rfl,by omega,q1,λi a b=>q2 i (by omega) b⟩
  ·exact⟨rfl,0,k,rfl,by omega,by omega,by omega,λi a=>by omega,λi a b=>by omega⟩
  ·obtain⟨rfl,l,r,rfl,lk,q1,q2⟩:=hq;dsimp only;rw[e8,e8,moveDown'_eq];refine t6 (wpS_modify (rh ⟨rfl,?_⟩));exact p.put S (by omega) lk q1 q2
 ·rintro ⟨rfl,π,p,S⟩;rw[show max (max ok 1) n=n by omega]at p S;exact rh (h st π p S)
 ·rw[show max ok 1=ok by omega];exact⟨rfl,π,p,S⟩
structure Ds(κ:KeyKind)(kd:SortKind)(a₀:Array Keyed)(st:SortSt)(π:Nat->Nat)(p n:Nat):Prop where
 b:SB kd a₀ st
 g:∀i,(arrOf st)[i]?=a₀[π i]?
 pn:p<=n
 hi:∀i,p<=i->π i=i
 lo:∀i,i<p->π i<p
 r:∀i j,i<j->j<p->Bef κ a₀ (π j) (π i)
 t:∀i j,p<=i->i<n->p<=j->j<n->KK κ a₀ i=KK κ a₀ j
 u:∀i j,i<p->p<=j->j<n->κ.blt (KK κ a₀ j) (KK κ a₀ (π i))=true
noncomputable def turn(π:Nat->Nat)(p n i:Nat):Nat:=if p<=i/\i<n then p+n - 1 - i else π i
def Ds.turn{p:Nat}(d:Ds κ kd a₀ st π p n)(hn:n<=a₀.size):(∀i,(mirror (arrOf st) p n ((n - p) / 2))[i]?=a₀[turn π p n i]?)/\(∀i,n<=i->L2.turn π p n i=i)/\(∀i,i<n->L2.turn π p n i<n)/\∀i j,i<j->j<n->Bef κ a₀ (L2.turn π p n j) (L2.turn π p n i):=by
 have pn:=d.pn;refine⟨λi=>?_,λi h=>?_,λi h=>?_,λi j ij jn=>?_⟩
 ·rw[getElem?_mirror_all (by rw[d.b.size];exact hn)];unfold L2.turn;split;·rw[d.g,d.hi _ (by omega)]
  ·exact d.g i
 ·unfold L2.turn;rw[if_neg (by omega)];exact d.hi i (by omega)
 ·unfold L2.turn;split;·omega
  ·have:=d.lo i (by omega);omega
 ·unfold L2.turn;by_cases jp:p<=j
  ·rw[if_pos ⟨jp,jn⟩];by_cases ip:p<=i;·rw[if_pos ⟨ip,by omega⟩];refine⟨?_,.inl (by omega)⟩;rw[d.t (p+n - 1 - i) (p+n - 1 - j) (by omega) (by omega) (by omega) (by omega)];exact κ.irrefl _
   ·rw[if_neg (by omega)];have:=d.u i (p+n - 1 - j) (by omega) (by omega) (by omega);exact⟨tR this,.inr this⟩
  ·rw[if_neg (by omega),if_neg (by omega)];exact d.r i j ij (by omega)
def uD{p:Nat}(d:Ds κ kd a₀ st π p (p+1)):turn π p (p+1)=π:=funext λi=>by
 unfold turn;split;·rw[d.hi i (by omega)];omega
 ·rfl
structure Rv(κ:KeyKind)(kd:SortKind)(a₀:Array Keyed)(st:SortSt)(π:Nat->Nat)(n:Nat):Prop where
 b:SB kd a₀ st
 g:∀i,(arrOf st)[i]?=a₀[π i]?
 hi:∀i,n<=i->π i=i
 lo:∀i,i<n->π i<n
 r:∀i j,i<j->j<n->Bef κ a₀ (π j) (π i)
def Rv.less(d:Rv κ kd a₀ st π n)(h:∀i,i<n->κ.blt (KK κ a₀ n) (KK κ a₀ (π i))=true):Ds κ kd a₀ st π n (n+1):=
 ⟨d.b,d.g,by omega,d.hi,d.lo,d.r,λi j a b c e=>by rw[show i=j by omega],λi j a b c=>by rw[show j=n by omega];exact h i a⟩
def xC{Q:Option Nat->SortSt->Prop}(hL:Am prog w A E s κ kd a₀)(hn:nrem<=a₀.size)(h1:1<=n)(h2:n<=nrem)(d:Rv κ kd a₀ st π n)(h:∀m st' π',1<=m->m<=nrem->Pr kd a₀ st' π' m->So κ a₀ π' m->Q (some m) st'):wpS (model prog w) A E s (tail3 n nrem) Q st:=by
 unfold tail3;refine t6 (ZK ?_);have P:Pr kd a₀ (setArr st (mirror (arrOf st) 0 n ((n - 0) / 2))) (λi=>if i<n then π (n - 1 - i)else π i) n:=⟨d.b.setArr (ZL ..),λi=>by
   show(mirror (arrOf st) 0 n ((n - 0) / 2))[i]?=_;rw[getElem?_mirror_all (by rw[d.b.size];omega)];by_cases c:i<n;·rw[if_pos ⟨by omega,c⟩,if_pos c,d.g,e8]
   ·rw[if_neg (by omega),if_neg c];exact d.g i,λi hi=>by rw[if_neg (by omega)];exact d.hi i hi,λi hi=>by rw[if_pos hi];exact d.lo _ (by omega)⟩
 have S:So κ a₀ (λi=>if i<n then π (n - 1 - i)else π i) n:=λi j ij jn=>by dsimp only;rw[if_pos (by omega),if_pos jn];exact d.r _ _ (by omega) (by omega)
 exact t6 (BA hL hn h1 h2 P S λm a b p S _=>rh (h m _ _ (by omega) b p S))
def Ds.kk{p:Nat}(d:Ds κ kd a₀ st π p n)(i:Nat):KK κ (arrOf st) i=KK κ a₀ (π i):=by unfold KK;rw[d.g]
def CB{Q:DescSt->SortSt->Prop}(hL:Am prog w A E s κ kd a₀)(hn:nrem<=a₀.size)(h1:n+1<=nrem)(d:Ds κ kd a₀ st π n (n+1))(h:∀m q st' π',q+1<=m->m<=nrem->Ds κ kd a₀ st' π' (m - (q+1)) m->Q (none,m,q) st'):wpS (model prog w) A E s (descLoop (n+1) nrem) Q st:=by
 unfold descLoop;refine b8 (λi c st=>∃q π,c=(none,i,q)/\q+1<=i/\i<=nrem/\Ds κ kd a₀ st π (i - (q+1)) i) (λi c st ha hb=>?_) (λc st=>?_) ⟨0,π,rfl,by omega,h1,d⟩
 ·rintro ⟨q,π,rfl,qi,_,d⟩;dsimp only;refine t6 (hL _ _ _ _ d.b (by omega) (by omega) ?_);rw[d.kk,d.kk,d.hi i (by omega),d.hi (i - 1) (by omega)];cases b1:κ.blt (KK κ a₀ i) (KK κ a₀ (i - 1))with
  |true=>
   have T:=d.turn (by omega);have less:∀j,j<i->κ.blt (KK κ a₀ i) (KK κ a₀ (turn π (i - (q+1)) i j))=true:=λj hj=>by
    unfold turn;split;·rw[d.t (i - (q+1)+i - 1 - j) (i - 1) (by omega) (by omega) (by omega) (by omega)];exact b1
    ·exact κ.trans _ _ _ b1 (d.u j (i - 1) (by omega) (by omega) (by omega))
   dsimp only;rw[if_pos rfl];by_cases c:q > 0;·rw[if_pos c];refine t6 (ZK (rh ⟨0,turn π (i - (q+1)) i,rfl,by omega,by omega,?_⟩));exact(Rv.less ⟨d.b.setArr (ZL ..),T.1,T.2.1,T.2.2.1,T.2.2.2⟩ less)
   ·rw[if_neg c];obtain rfl:q=0:=by omega
    have e:turn π (i - (0+1)) i=π:=by have d':=d;rw[show i=i - (0+1)+1 by omega]at d'⊢;exact uD d'
    rw[e]at T less;exact rh ⟨0,π,rfl,by omega,by omega,Rv.less ⟨d.b,d.g,T.2.1,T.2.2.1,T.2.2.2⟩ less⟩
  |false=>
   dsimp only;rw[if_neg (by decide)];refine t6 (hL _ _ _ _ d.b (by omega) (by omega) ?_);rw[d.kk,d.kk,d.hi i (by omega),d.hi (i - 1) (by omega)];cases b2:κ.blt (KK κ a₀ (i - 1)) (KK κ a₀ i)with
   |true=>dsimp only;rw[if_pos rfl];exact rh (h i q st π qi (by omega) d)
   |false=>
    dsimp only;rw[if_neg (by decide)];have e:=κ.total _ _ b1 b2;refine rh ⟨q+1,π,rfl,by omega,by omega,?_⟩;rw[show i+1 - (q+1+1)=i - (q+1) by omega];have ek:∀j,i - (q+1)<=j->j<i+1->KK κ a₀ j=KK κ a₀ (i - 1):=λj a b=>by
     by_cases z:j=i;·subst z;exact e
     ·exact d.t j (i - 1) a (by omega) (by omega) (by omega)
    refine⟨d.b,d.g,by omega,d.hi,d.lo,d.r,λx y a b c f=>by rw[ek x a b,ek y c f],λx y a b c=>?_⟩;rw[ek y b c];exact d.u x (i - 1) a (by omega) (by omega)
 ·rintro ⟨q,π,rfl,qi,mi,d⟩;exact h _ q st π qi mi d
def lq{Q:Option Nat->SortSt->Prop}(hL:Am prog w A E s κ kd a₀)(hn:nrem<=a₀.size)(h1:n+1<=nrem)(d:Ds κ kd a₀ st π n (n+1))(h:∀m st' π',1<=m->m<=nrem->Pr kd a₀ st' π' m->So κ a₀ π' m->Q (some m) st'):wpS (model prog w) A E s (descPart n nrem) Q st:=by
 unfold descPart;refine t6 (wpS_lift (lT ⟨rfl,?_⟩));refine t6 (CB hL hn h1 d λm q st' π' qm mn d=>?_);have T:=d.turn (by omega);dsimp only;by_cases c:q > 0;·rw[if_pos c];exact t6 (ZK (xC hL hn (by omega) mn ⟨d.b.setArr (ZL ..),T.1,T.2.1,T.2.2.1,T.2.2.2⟩ h))
 ·rw[if_neg c];obtain rfl:q=0:=by omega
  have e:turn π' (m - (0+1)) m=π':=by have d':=d;rw[show m=m - (0+1)+1 by omega]at d'⊢;exact uD d'
  rw[e]at T;exact xC hL hn (by omega) mn ⟨d.b,d.g,T.2.1,T.2.2.1,T.2.2.2⟩ h
def zR{Q:Option Nat->SortSt->Prop}(hL:Am prog w A E s κ kd a₀)(hn:nrem<=a₀.size)(h1:1<=nrem)(b:SB kd a₀ st)(ha:arrOf st=a₀)(h:∀m st' π',1<=m->m<=nrem->Pr kd a₀ st' π' m->So κ a₀ π' m->Q (some m) st'):wpS (model prog w) A E s (countRun' 0 nrem) Q st:=by
 rw[countRun0_eq];have p0:∀n,Pr kd a₀ st id n:=λn=>⟨b,λi=>by rw[ha];rfl,λ_ _=>rfl,λ_ z=>z⟩
 refine t6 (BA hL hn (yo 1) h1 (p0 1) (λi j a b=>by omega) λn a c p S z=>?_);dsimp only;by_cases e:n=nrem;·subst e;rw[if_pos (by simp)];exact rh (h n st id a (yo _) p S)
 ·rw[if_neg (by simp;exact e)];have z:κ.blt (KK κ a₀ n) (KK κ a₀ (n - 1))=true:=by
   rcases z with z|z;·exact absurd z e
   ·unfold KeyOrd.klt at z;rw[ha]at z;exact z
  by_cases c1:n > 1
  ·rw[if_pos c1];refine t6 (hL _ _ _ _ b (by omega) (by omega) ?_);rw[ha];cases rose:κ.blt (KK κ a₀ 0) (KK κ a₀ (n - 1))with
   |true=>dsimp only;rw[if_pos rfl];exact rh (h n st id a c p S)
   |false=>
    dsimp only;rw[if_neg (by decide)];refine t6 (ZK ?_);have all:∀i,i<n->KK κ a₀ i=KK κ a₀ (n - 1):=λi hi=>by
     refine κ.total _ _ ?_ ?_
     ·cases q:κ.blt (KK κ a₀ i) (KK κ a₀ (n - 1))with
      |false=>rfl
      |true=>
       rcases κ.negTrans _ (KK κ a₀ 0) _ q with y|y
       ·by_cases i0:i=0;·subst i0;rw[κ.irrefl]at y;cases y
        ·have:=(S 0 i (by omega) hi).1;rw[show κ.blt (KK κ a₀ i) (KK κ a₀ 0)=false from this]at y;cases y
       ·rw[rose]at y;cases y
     ·by_cases e2:i=n - 1;·rw[e2];exact κ.irrefl _
      ·exact(S i (n - 1) (by omega) (by omega)).1
    refine lq hL hn (by omega) (π:=turn id 0 n) ?_ h;have D:Ds κ kd a₀ st id 0 n:=⟨b,p.g,by omega,λ_ _=>rfl,λi z=>by omega,λi j a b=>by omega,λi j _ a _ b=>by rw[all i a,all j b],λi j a=>by omega⟩
    have T:=D.turn (by omega);refine Rv.less ⟨b.setArr (ZL ..),T.1,T.2.1,T.2.2.1,T.2.2.2⟩ λi hi=>?_;rw[all _ (T.2.2.1 i hi)];exact z
  ·rw[if_neg c1];obtain rfl:n=1:=by omega
   refine lq hL hn (by omega) (π:=id) (Rv.less ⟨b,p.g,λ_ _=>rfl,λ_ z=>z,λi j a b=>by omega⟩ λi hi=>?_) h;obtain rfl:i=0:=by omega
   exact z
def wj{Q:Unit->SortSt->Prop}(hL:Am prog w A E s κ kd a₀)(b:SB kd a₀ st)(ha:arrOf st=a₀)(h2:2<=a₀.size)(h64:a₀.size<64)(h:∀st' π,(∀i,(arrOf st')[i]?=a₀[π i]?)->(∀i,i<a₀.size->π i<a₀.size)->So κ a₀ π a₀.size->failedOf st'=none/\(arrOf st').size=a₀.size->Q () st'):wpS (model prog w) A E s sortRuns' Q st:=by
 rw[sortRuns'_eq];refine t6 (wpS_get ?_);rw[ha];have mr:minRun' a₀.size a₀.size 0=a₀.size:=by
  obtain⟨m,e⟩:∃m,a₀.size=m+1:=⟨a₀.size - 1,by omega⟩
  rw[e,minRun'_succ,if_pos (by omega)]
 dsimp only;rw[mr];refine t6 (wpS_mono (b8 (λi c st'=>(i=0/\c=(none,0)/\st'=st)\/(c=(none,a₀.size)/\(pendingOf st').size=1/\(failedOf st'=none/\(arrOf st').size=a₀.size)/\∃π,(∀i,(arrOf st')[i]?=a₀[π i]?)/\(∀i,i<a₀.size->π i<a₀.size)/\So κ a₀ π a₀.size))
  (Q:=λc st'=>c=(none,a₀.size)/\(pendingOf st').size=1/\(failedOf st'=none/\(arrOf st').size=a₀.size)/\∃π,(∀i,(arrOf st')[i]?=a₀[π i]?)/\(∀i,i<a₀.size->π i<a₀.size)/\So κ a₀ π a₀.size) (λi c st' _ hi=>?_) (λc st'=>?_) (.inl ⟨rfl,rfl,rfl⟩)) (λc st' hq=>?_))
 ·intro z;rcases z with⟨e1,e2,e3⟩|⟨e1,z⟩
  ·subst e2 e3;rw[if_neg (by omega)];refine t6 (zR hL (by omega) (by omega) b ha λm st' π' m1 m2 p S=>?_);have e:min (a₀.size - 0) a₀.size=a₀.size:=by omega
   have fin:∀st1 π1 N,N=a₀.size->Pr kd a₀ st1 π1 a₀.size->So κ a₀ π1 a₀.size->(none,0+N)=((none,a₀.size):Option Unit×Nat)/\(pendingOf (setPending st1 ((pendingOf st1).push (0,N,0)))).size=1/\(failedOf (setPending st1 ((pendingOf st1).push (0,N,0)))=none/\(arrOf (setPending st1 ((pendingOf st1).push (0,N,0)))).size=a₀.size)/\∃π,(∀i,(arrOf (setPending st1 ((pendingOf st1).push (0,N,0))))[i]?=a₀[π i]?)/\(∀i,i<a₀.size->π i<a₀.size)/\So κ a₀ π a₀.size:=λst1 π1 N hN p S=>by subst hN;refine⟨by rw[e8],?_,⟨p.b.failed,p.b.size⟩,π1,p.g,p.lo,S⟩;show((pendingOf st1).push (0,a₀.size,0)).size=1;rw[p.b.pend];rfl
   show wpS _ _ _ _ (if m<a₀.size then _ else _) _ _;by_cases c:m<a₀.size;·rw[if_pos c];refine t6 (wpS_lift (lT ⟨rfl,?_⟩));show wpS _ _ _ _ (binarySort' 0 (min (a₀.size - 0) a₀.size) m>>=_) _ _;refine t6 ?_;rw[e];refine Gd hL (yo _) m1 (by omega) p S λst2 π2 p2 S2=>?_;rw[if_neg (by decide)];refine t6 (wpS_get ?_);rw[p2.b.pend];exact t6 (wpS_modify (rh (.inr (fin st2 π2 _ rfl p2 S2))))
   ·rw[if_neg c];obtain rfl:m=a₀.size:=by omega
    refine t6 (wpS_get ?_);rw[p.b.pend];exact t6 (wpS_modify (rh (.inr (fin _ π' _ rfl p S))))
  ·subst e1;rw[if_pos (by omega)];exact rh ⟨rfl,z⟩
 ·rintro (⟨z,_⟩|z);·omega
  ·exact z
 ·obtain⟨rfl,pz,fz,π,g,lo,S⟩:=hq;dsimp only;refine t6 (wpS_mono (b8 (λi c st''=>c=(none,())/\st''=st') (Q:=λc st''=>c=(none,())/\st''=st') (λi c st'' _ hi=>?_) (λc st'' z=>z) ⟨rfl,rfl⟩) (λc st'' hq=>?_));·rintro ⟨rfl,rfl⟩;refine t6 (wpS_get ?_);rw[if_pos (by omega)];exact rh ⟨rfl,rfl⟩
  ·obtain⟨rfl,rfl⟩:=hq;exact rh (h _ π g lo S fz)
def yW(hO:κ.OneLt)(hK:KeysOf κ a₀):Am prog w A E s κ oneType' a₀:=λ_ _ _ _ b hi hj q=>wpS_ltKK hO ⟨b.perm,b.kind,b.failed,b.pend⟩ hK hi hj q
end
def Inv.adopt{σ:List (Option V)}{t':Nat}(I:Inv X pins σ H s)(f:kE X pins H a)(k:∀b ob,b≠a->s.heap.get? b=some ob->h'.get? b=some ob)(ka:∃ob,h'.get? a=some ob)(new:ObjOk X.prog X.w (upd H a o) h' a o):Inv X pins σ (upd H a o) { s with heap:=h',toks:=t' }:=by
 have ne:∀b u,H b=some u->b≠a:=λb u q z=>by rw[z,f.1]at q;cases q
 refine I.step (g':=s.gens) (d':=s.drawn) (ch:=[a]) (λb hb=>?_) (λb ob _ _ hc q _=>k b ob (λz=>hc (by rw[z];exact sS ..)) q) (λb ob _ _ hc q _=>⟨ob.slots,k b ob (λz=>hc (by rw[z];exact sS ..)) q⟩) (λb ob hc _ n=>by rw[aQ (λz=>hc (by rw[z];exact sS ..))];exact n) (λb ob hc q=>⟨ob,k b ob (λz=>hc (by rw[z];exact sS ..)) q⟩) (λb xs q=>by rw[aQ (ne b _ q)];exact q) (λb ob u q=>by rw[aQ (ne b _ q)];exact q) (λb ps q=>⟨#[],by rw[aQ (ne b _ q),q];simp⟩) (λm hm=>?_) (λb u q=>?_) I.bare;·rw[l9.1 hb];obtain⟨a0,a1,a2,a3,a4,a5⟩:=f;exact⟨a3,a1,a4,a5⟩
 ·obtain⟨ob,es,ep,ho,r⟩:=hm;exact⟨ob,es,ep,k _ ob f.2.1.symm ho,r⟩
 ·by_cases hb:b=a;·subst hb;rw[ba]at q;cases q;exact new
  ·rw[aQ hb]at q;exact(I.hok b u q).stay (λc v hc q'=>k c v (by
    rcases hc with z|z;·rw[z];exact hb
    ·exact ne c _ z) q') (λc q'=>by rw[aQ (ne c _ q')];exact q') (λc xs q'=>by rw[aQ (ne c _ q')];exact q') λc ob u q'=>by rw[aQ (ne c _ q')];exact q'
section
variable{prog:Program}{w:World}{A:Around}
def kI{c:String}{xs:Array Value}{Q:Nat->Shared->Prop}(h:s.heap.get? a=some (seqObj c xs n))(q:Q n s):wpAny (model prog w) A (seqEpoch a) Q E s:=by unfold seqEpoch;refine z6 (wpAny_load h ?_);exact z9 q
def D8:(Str.ofString "key" != Str.ofString "key" && Str.ofString "key" != Str.ofString "reverse")=false:=by decide
def Gh(v:Value):(List.lookup (Str.ofString "key") [(Str.ofString "key",v)]).getD Value.none=v:=by rw[oH];simp
def Gj(v:Value):List.lookup (Str.ofString "reverse") [(Str.ofString "key",v)]=none:=by rw[oH,show(Str.ofString "reverse"==Str.ofString "key")=false by decide];rfl
noncomputable def xu(a f:Addr)(items:Array Value)(st:Value):Sem PUnit:=forIn items PUnit.unit λx _=>do
 let r <- (call (Value.ref f) [x]).attempt
 match r with
 |Except.ok k=>do
  Builtin.List.listUpdate st λx=>x.push k
  pure (ForInStep.yield PUnit.unit)
 |Except.error e=>do
  rule "list.sort.key-raised"
  let made <- Builtin.List.listItems st
  Builtin.List.listUpdate st λx=>#[]
  letGo made.toList.reverse [e]
  Builtin.List.listUpdate (Value.ref a) λx=>items
  throw e
  pure (ForInStep.yield PUnit.unit)
noncomputable def pB(a:Addr)(before:Nat)(items:Array Value)(st:Value)(kind:SortKind)(keys:Array Value):Sem PySem.Fin:=do
 let r <- StateT.run (if items.size<2 then pure ()else sortRuns') (SortSt.mk' kind (keys.zip items) #[] 7 none)
 Builtin.List.listUpdate st λx=>#[]
 letGo (Array.map (λx=>x.fst) (arrOf r.snd)).toList (failedOf r.snd).toList
 let now <- seqEpoch a
 Builtin.List.listUpdate (Value.ref a) λx=>Array.map (λx=>x.snd) (arrOf r.snd)
 match failedOf r.snd with
 |some e=>do
  rule "list.sort.comparison-raised"
  throw e
  if (now != before)=true then do
   rule "list.sort.modified"
   raiseErrorWords "ValueError" "list modified during sort"
   ret Value.none
  else ret Value.none
 |_=>
  if (now != before)=true then do
   rule "list.sort.modified"
   raiseErrorWords "ValueError" "list modified during sort"
   ret Value.none
  else ret Value.none
noncomputable def pS(a:Addr)(before:Nat)(items:Array Value)(st:Value):Sem PySem.Fin:=do
 let keys <- Builtin.List.listItems st
 if items.size<2 then pB a before items st general' keys
 else do
  let kind <- keyKind' keys
  pB a before items st kind keys
def oY(a f:Addr):Builtin.«list.sort» { pos:=[Value.ref a],kw:=[(Str.ofString "key",Value.ref f)] }=(do
  let items <- Builtin.List.listItems (Value.ref a)
  Builtin.List.listUpdate (Value.ref a) λx=>#[]
  let before <- seqEpoch a;let held <- newTuple items.toList;let st <- newList []
  holding [held,st] do
   rule "list.sort.key"
   xu a f items st
   pS a before items st):=by
 unfold Builtin.«list.sort»;dsimp only[List.length_nil,List.length_cons,List.isEmpty_nil];rw[if_neg (by decide),if_neg (by decide)];simp only[Gh,Gj,iF,D8,b7,pure_bind,c7,qd,show(Value.ref f != Value.none)=true from rfl,t9];rfl
def wT{keys items:Array Value}(hs:keys.size=items.size)(i:Nat):((keys.zip items)[i]?).map (·.2)=items[i]?:=by rw[<- eQ,<- eQ,<- v8,Zb,List.map_snd_zip (by simp;omega)]
def tU{vs:List Value}(h:StrsAre vs ss):vs.length=ss.length/\∀i,i<ss.length->∃t,vs[i]?=some (Value.str (ss.getD i default) t):=by
 induction h with
 |nil=>exact⟨rfl,λi h=>by simp at h⟩
 |cons y t h ih=>
  refine⟨by simp[ih.1],λi hi=>?_⟩;cases i with
  |zero=>exact⟨t,rfl⟩
  |succ i=>exact ih.2 i (by simpa using hi)
def A4{b:Addr}{m:Nat}{items keys:Array Value}{kind:SortKind}{P:PySem.Fin->Shared->Prop}(ha:s.heap.get? a=some (seqObj "list" #[] n))(hb:s.heap.get? b=some (seqObj "list" keys m))(ab:a≠b)(hk:StrsAre keys.toList ss)(hs:keys.size=items.size)(h64:items.size<64)(hkd:2<=items.size->kind=oneType')(h:∀(out:Array Value)(π:Nat->Nat)(c:Nat),out.size=items.size->(∀i,out[i]?=items[π i]?)->Stab (ss.map (·.cps.toList)) π->∀h',(∀x o,x≠a->x≠b->s.heap.get? x=some o->h'.get? x=some o)->h'.get? a=some (seqObj "list" out c)->P (.done (.ret Value.none)) { s with heap:=h' }):
  wpAny (model prog w) A (pB a n items (.ref b) kind keys) P E s:=by
 obtain⟨kl,kg⟩:=tU hk;rw[nE]at kl;unfold pB;have fin:∀(st':SortSt)(π:Nat->Nat),(∀i,(arrOf st')[i]?=(keys.zip items)[π i]?)->Stab (ss.map (·.cps.toList)) π->failedOf st'=none/\(arrOf st').size=items.size->wpAny (model prog w) A (do
   Builtin.List.listUpdate (.ref b) λx=>#[]
   letGo (Array.map (λx=>x.fst) (arrOf st')).toList (failedOf st').toList
   let now <- seqEpoch a
   Builtin.List.listUpdate (Value.ref a) λx=>Array.map (λx=>x.snd) (arrOf st')
   match failedOf st' with
   |some e=>do
    rule "list.sort.comparison-raised"
    throw e
    if (now != n)=true then do
     rule "list.sort.modified"
     raiseErrorWords "ValueError" "list modified during sort"
     ret Value.none
    else ret Value.none
   |_=>
    if (now != n)=true then do
     rule "list.sort.modified"
     raiseErrorWords "ValueError" "list modified during sort"
     ret Value.none
    else ret Value.none) P E s:=λst' π g S ⟨fl,sz0⟩=>by
  rw[fl];have sz:(Array.map (λx:Keyed=>x.snd) (arrOf st')).size<=sizeLine+1:=by rw[ZM,sz0,pN];omega
  refine z6 (fV hb rfl (z6 (ZJ ?_)) (by rw[hs,pN];omega));have s1:=nT s.heap b (Obj.mapSeq λ_=>(#[]:Array Value));have ha1:=(s1.2 a ab).trans ha;refine z6 (kI ha1 ?_);refine z6 (fV ha1 rfl ?_ (oR _) sz);have s2:=nT (s.heap.update b (Obj.mapSeq λ_=>(#[]:Array Value))) a (Obj.mapSeq λ_=>Array.map (λx:Keyed=>x.snd) (arrOf st'));dsimp only;rw[if_neg (by simp)];refine z9 (h (Array.map (λx:Keyed=>x.snd) (arrOf st')) π _ (by rw[ZM];exact sz0) (λi=>?_) S _ (λx o xa xb e=>?_) (Zc ha1 λ_=>Array.map (λx:Keyed=>x.snd) (arrOf st')));·rw[Array.getElem?_map,g,wT hs]
  ·exact(s2.2 x xa).trans ((s1.2 x xb).trans e)
 have zs:(keys.zip items).size=items.size:=by rw[Array.size_zip];omega
 have kk:∀i,i<items.size->KK strKind (keys.zip items) i=(ss.map (·.cps.toList)).getD i []:=λi hi=>by
  obtain⟨t,ht⟩:=kg i (by omega);have e:(keys.zip items)[i]?=some (Value.str (ss.getD i default) t,items[i]):=by rw[<- eQ,Zb,List.getElem?_zip_eq_some];exact⟨ht,by rw[eQ];exact Yd hi⟩
  unfold KK;rw[e];show(ss.getD i default).cps.toList=_;rw[xZ,xZ,v8,xw (by omega)];rfl
 by_cases c:items.size<2;·rw[if_pos c];refine z6 (z9 (fin _ id (λi=>rfl) ⟨λi h=>h,λi j ij jn=>?_⟩ ⟨rfl,zs⟩));rw[za]at jn;omega
 ·rw[if_neg c,hkd (by omega)];refine z6 (t7 (wj (a₀:=keys.zip items) (κ:=strKind) (Q:=λ_ st'=>∃π,(∀i,(arrOf st')[i]?=(keys.zip items)[π i]?)/\Stab (ss.map (·.cps.toList)) π/\failedOf st'=none/\(arrOf st').size=items.size) (yW strKind_oneLt (λp hp=>?_)) ⟨.refl _,rfl,rfl,rfl⟩ rfl (by omega) (by omega) (λst' π g lo S fl=>⟨π,g,?_,fl.1,fl.2.trans zs⟩)) (λr s' hq=>?_) λe s' z=>z);·rw[Zb]at hp;have hm:=(bY (show(p.1,p.2)∈_ from hp)).1;obtain⟨i,hi,e⟩:=List.getElem_of_mem hm;obtain⟨t,ht⟩:=kg i (by rw[nE]at hi;omega);rw[xw hi,e]at ht;injection ht with ht;rw[ht];exact⟨_,rfl⟩
  ·rw[zs]at lo S;have nl:(ss.map (·.cps.toList)).length=items.size:=by rw[za];omega
   refine⟨λi hi=>by rw[nl]at hi⊢;exact lo i hi,λi j ij jn=>?_⟩;rw[nl]at jn;obtain⟨b1,b2⟩:=S i j ij jn;rw[kk _ (lo i (by omega)),kk _ (lo j jn)]at b1 b2;exact⟨of_decide_eq_false b1,b2.imp id λz=>iN z⟩
  ·obtain⟨rfl,π,g,S,fl⟩:=hq;exact fin r.2 π g S fl
def B8{b:Addr}{m:Nat}{items keys:Array Value}{P:PySem.Fin->Shared->Prop}(ha:s.heap.get? a=some (seqObj "list" #[] n))(hb:s.heap.get? b=some (seqObj "list" keys m))(ab:a≠b)(hk:StrsAre keys.toList ss)(hs:keys.size=items.size)(h64:items.size<64)(h:∀(out:Array Value)(π:Nat->Nat)(c:Nat),out.size=items.size->(∀i,out[i]?=items[π i]?)->Stab (ss.map (·.cps.toList)) π->∀h',(∀x o,x≠a->x≠b->s.heap.get? x=some o->h'.get? x=some o)->h'.get? a=some (seqObj "list" out c)->P (.done (.ret Value.none)) { s with heap:=h' }):
  wpAny (model prog w) A (pS a n items (.ref b)) P E s:=by
 unfold pS Builtin.List.listItems;refine z6 (z6 (oz hb rfl (z9 ?_)));by_cases c:items.size<2;·rw[if_pos c];exact A4 ha hb ab hk hs h64 (λz=>by omega) h
 ·rw[if_neg c];have kk:keyKind' keys=pure oneType':=by
   have e:keys=keys.toList.toArray:=rfl;have l:keys.toList.length=items.size:=by rw[nE];exact hs
   rw[e];generalize keys.toList=kl at *
   match kl,hk,l with
   |v1::v2::vs,hk,_=>exact keyKind_strs hk
   | [_],_,l=>simp at l;omega
   | [],_,l=>simp at l;omega
  refine z6 (j7 kk ?_);exact A4 ha hb ab hk hs h64 (λz=>rfl) h
end
def yf{vs:List Value}{t:Tok}(h:StrsAre vs ss):StrsAre (vs++[Value.str y t]) (ss++[y]):=by
 induction h with
 |nil=>exact .cons y t .nil
 |cons y' t' h ih=>exact .cons y' t' ih
section
variable{params:Arguments}{body:Expr}{H0:Hp}{L S:Addr}{oL:Obj}{cl:List (Str×Addr)}{pm ctv:Value}{σ':St}{ρ':Ev}{items:Array Value}{Q:PUnit->Shared->Prop}
def ww(hr:Room (j+3) X.A)(hh:X.A.in1.in1.handled=none)(hG:Same G H0)(hLS:L≠S)(fpS:∀H',H' S=none->kE X pins H' S)(nfL:L∉frs X.stack)(nfS:S∉frs X.stack)(hSf:f≠S)(hcd:∃c o vs t u,cd=.ref c/\H0 c=some (.frz o u)/\o.data=.fields vs/\vs[1]?=some (.str qual t))(hp:∀u,bindArgs (PySem.W.kla_fn "<lambda>" qual params body scope cl pm cd ctv) ⟨[u],[]⟩=pure [(x,u)])(hco:scope.isCoroutine=false)(hge:scope.isGenerator=false)(hC:∀H s,Inv X pins σ H s->ClOk N' scope cl σ' H s.heap)(hx:scope.names.lookup x=some .local)(hb:∀s' H',PF (qu X.prog X.w X.K X.mg X.base (x::N') qual scope cl f cd X.A.in1.in1 X.stack s' H' λ_ _ _=>False) body gb)(st:StE X.K G H0 σ' ρ')(hno:NoOwn ρ'):
  ∀(fS:List D)(vrest:List V)(us done:List Value)(sd:List Str)(ts:List (List Nat))(s:Shared)(H:Hp)(m:Nat)(o:Obj),Vals vrest us->Reps X.K G vrest fS->jD (λd=>gb (some (.val d)::ρ')) fS=some ts->done.length+us.length<64->
   Inv X pins σ H s->Same H0 H->s.heap.get? L=some oL->s.heap.get? S=some (seqObj "list" done.toArray m)->H L=none->H S=none->s.heap.get? f=some o->o.data=.func (PySem.W.kla_fn "<lambda>" qual params body scope cl pm cd ctv)->H f=none->StrsAre done sd->
   (∀(s':Shared)(H':Hp)(m':Nat)(keys:List Value)(ss:List Str),Inv X pins σ H' s'->Same H0 H'->s'.heap.get? L=some oL->s'.heap.get? S=some (seqObj "list" keys.toArray m')->H' L=none->H' S=none->StrsAre keys (sd++ss)->ss.map (·.cps.toList)=ts->Q PUnit.unit s')->
   wpAny (model X.prog X.w) X.A.in1.in1 (forIn us PUnit.unit λx _=>do
    let r <- (call (Value.ref f) [x]).attempt
    match r with
    |Except.ok k=>do
     Builtin.List.listUpdate (.ref S) λx=>x.push k
     pure (ForInStep.yield PUnit.unit)
    |Except.error e=>do
     rule "list.sort.key-raised"
     let made <- Builtin.List.listItems (.ref S)
     Builtin.List.listUpdate (.ref S) λx=>#[]
     letGo made.toList.reverse [e]
     Builtin.List.listUpdate (Value.ref L) λx=>items
     throw e
     pure (ForInStep.yield PUnit.unit)) Q E s:=by
 intro fS;induction fS with
 |nil=>intro vrest us done sd ts s H m o hv hrs hk hl I hs gL gS nL nS gf gfd nf hd hQ;cases hrs;cases hv;cases hk;rw[b7];exact z9 (hQ s H m done [] I hs gL gS nL nS (by rw[mP];exact hd) rfl)
 |cons d fS ih=>
  intro vrest us done sd ts s H m o hv hrs hk hl I hs gL gS nL nS gf gfd nf hd hQ;cases hrs with
  |cons rd rrest=>
  rename_i v vrest;cases hv with
  |cons ru rus=>
  rename_i u us;rw[iF];have J:Inv { X with A:=X.A.in1.in1 } pins σ H s:=I.cx (A':=X.A.in1.in1) (calm':=X.calm) (pn':=X.pn) (pins':=pins) (xe':=X.xe) (λp q=>q) rfl (λ_=>hh);have code:s.heap.CodeRec cd qual:=by obtain⟨c,oc,vs,t,u,rfl,e,d,q⟩:=hcd;obtain⟨e2,_⟩:=I.hok c _ (hs c _ e);exact⟨c,oc,vs,t,rfl,e2,d,q⟩
  have up0:Up G H0 G H:=⟨hG.trans hs,.refl _,hs,λ_ _ h=>.inl h⟩
  have stH:=st.up up0;cases eg:gb (some (.val d)::ρ')with
  |ex C=>simp[jD,eg]at hk
  |no=>simp[jD,eg]at hk
  |ok dk=>
  cases dk with
  |str t0=>
   cases ek:jD (λd=>gb (some (.val d)::ρ')) fS with
   |none=>simp[jD,eg,ek]at hk
   |some tr=>
   simp only[jD,eg,ek]at hk;cases hk;have call:=(wW (Y:={ X with A:=X.A.in1.in1 }) (k:=j) (E:=λ_ _ _=>False) (te:=λσ H Q=>∃G ρ,StE X.K G H σ ρ/\∃d,gb ρ=.ok d/\∀v G' H',Up G H G' H'->Rep X.K G' v d->Q v H') (Q:=λv H'=>Same H H'/\∃G',Same G' H'/\Rep X.K G' v (.str t0)) J hr.in1.in1 gf gfd code (hp u) hco hge (hC _ _ I) hx ru (λpins s σ H Q I ⟨G,ρ,st,d,e,h⟩=>by refine hb _ _ pins s σ H Q I ⟨G,ρ,st,?_⟩;rw[e];exact λv G' H' u r=>h v G' H' u r) ⟨G,_,stH.consV hno rd,_,eg,λv G' H' u3 r3=>⟨u3.hh,G',u3.sub,r3⟩⟩).2;refine z6 (z6 (iO (t7 call (λk2 s4 he=>?_) λe s' hF=>?_)))
   rotate_left
   ·obtain⟨_,_,_,_,_,z⟩:=hF;exact z.elim
   obtain⟨v2,H4,os4,bare4,un4,hok4,rk4,sm4,G4,sg4,rp4⟩:=he;have I4:Inv X pins σ H4 s4:=I.call' (s':=s4) (ch:=[]) os4 un4 hok4 bare4 (λb z=>absurd z (by simp));have gS4:=un4.keep _ _ gS nS nfS (by simp);have gL4:=un4.keep _ _ gL nL nfL (by simp);obtain⟨o4,gf4,gd4⟩:=un4.data gf nf (by simp);have nL4:H4 L=none:=un4.free _ _ gL nL (by simp);have nS4:H4 S=none:=un4.free _ _ gS nS (by simp);have nf4:H4 f=none:=un4.free _ _ gf nf (by simp);obtain⟨y,rfl,ey,_⟩:=rp4.str_inv;obtain⟨tk,rfl⟩:∃tk,k2=Value.str y tk:=rk4;have s1:=nT s4.heap S (Obj.mapSeq λx=>x.push (Value.str y tk));refine z6 (fV gS4 rfl (z9 ?_) (by simp;rw[pN];omega) (by simp;rw[pN];omega));obtain⟨m2,hm2⟩:∃m2,(s4.heap.update S (Obj.mapSeq λx=>x.push (Value.str y tk))).get? S=some (seqObj "list" (done++[Value.str y tk]).toArray m2):=⟨_,by have:=Zc gS4 λx=>x.push (Value.str y tk);rw[List.push_toArray]at this;exact this⟩
   refine ih vrest us (done++[Value.str y tk]) (sd++[y]) tr _ H4 m2 o4 rus rrest ek (by simp;simp at hl;omega) (Inv.turnedL (s:=s4) (t':=s4.toks) (ch:=[S]) I4 (λb ob hb e=>(s1.2 b (by simpa using hb)).trans e) (λb hb=>by rw[l9.1 hb];exact fpS H4 nS4)) (hs.trans sm4) ((s1.2 L hLS).trans gL4) hm2 nL4 nS4 ((s1.2 f hSf).trans gf4) (gd4.trans gfd) nf4 (yf hd) ?_;·intro s' H' m' keys ss I' sm' g1 g2 n1 n2 hk' he';refine hQ s' H' m' keys (y::ss) I' sm' g1 g2 n1 n2 (by rw[io]at hk';exact hk') (by rw[tv,he',ey])
  |_=>simp[jD,eg]at hk
end
theorem si:∀{xs:List V}{us:List Value},xs.length=us.length->(∀(i:Nat)(x:V),xs[i]?=some x->∃u,us[i]?=some u/\RelV x u)->Vals xs us
 | [],[],_,_=>.nil
 |x::xs,u::us,l,h=>by obtain⟨u',e,r⟩:=h 0 x rfl;cases e;exact .cons r (si (by simpa using l) λi y e=>h (i+1) y e)
def lu(a v:Value):argsOk "sorted" { pos:=[a],kw:=[(Str.ofString "key",v)] }:=rfl
def jC(a v:Value):argsOk "list.sort" { pos:=[a],kw:=[(Str.ofString "key",v)] }:=rfl
section
variable{params:Arguments}{body:Expr}{l:Addr}{cl:List (Str×Addr)}{pm ctv:Value}{σ':St}{ρ':Ev}{ts:List (List Nat)}{o:Obj}{Q:VK}
def vc(hc:X.calm=true)(hr:Room (j+3) X.A)(I:Inv X pins σ H s)(hG:Same G H)(hq:SqL X.K G l vs)(rr:Reps X.K G vs ds)(h64:vs.length<64)(hf:s.heap.get? f=some o)(hfn:H f=none)(hfd:o.data=.func (PySem.W.kla_fn "<lambda>" qual params body scope cl pm cd ctv))(hcd:∃c o vs t u,cd=.ref c/\H c=some (.frz o u)/\o.data=.fields vs/\vs[1]?=some (.str qual t))(hp:∀u,bindArgs (PySem.W.kla_fn "<lambda>" qual params body scope cl pm cd ctv) ⟨[u],[]⟩=pure [(x,u)])(hco:scope.isCoroutine=false)(hge:scope.isGenerator=false)(hC:∀H s,Inv X pins σ H s->ClOk N' scope cl σ' H s.heap)(hx:scope.names.lookup x=some .local)(hb:∀s' H',PF (qu X.prog X.w X.K X.mg X.base (x::N') qual scope cl f cd X.A.in1.in1 X.stack s' H' λ_ _ _=>False) body gb)(st:StE X.K G H σ' ρ')(hno:NoOwn ρ')(ek:jD (λd=>gb (some (.val d)::ρ')) ds=some ts)(hQ:∀a vs' H' π,Same H H'->H' a=none->Stab ts π->vs'.length=vs.length->(∀i,i<vs.length->vs'[i]?=vs[π i]?)->Q (.ref a) (upd H' a (.lst vs'))):
  wpAny (model X.prog X.w) X.A (call (.builtin "sorted") [.ref l] [(Str.ofString "key",.ref f)]) (EP X pins σ Q) X.xe s:=by
 obtain⟨its,rvs,pl,hz⟩:=I.list (hq.mono hG);have hl:=pl.isList;have hlen:=rvs.length;obtain⟨ol,hol,_⟩:=id hl;have hll:l<s.heap.objs.size:=xz hol;have hfl:f<s.heap.objs.size:=xz hf;have hh:X.A.handled=none:=I.ok.hd hc;refine call_function_entry_kw kind_sorted plain_sorted entry_sorted (lu _ _) ?_;unfold Builtin.sorted;refine z6 (j7 (show checkCount "sorted" 1 1 1=pure () from rfl) ?_);refine z6 (collect_list hl ?_ (by rw[pN];omega));refine z6 (ZN ?_ (by rw[pN];omega));have hsz:((s.heap.push (seqObj "list" #[] 0)).update s.heap.objs.size (Obj.mapSeq λx=>x++its.toArray)).objs.size=s.heap.objs.size+1:=by rw[Ye,size_push']
 have hoL:=t8 ((s.heap.push (seqObj "list" #[] 0)).update s.heap.objs.size (Obj.mapSeq λx=>x++its.toArray)) (o:=seqObj "list" its.toArray 0) rfl;rw[hsz]at hoL⊢;have k2:∀b ob,s.heap.get? b=some ob->(((s.heap.push (seqObj "list" #[] 0)).update s.heap.objs.size (Obj.mapSeq λx=>x++its.toArray)).push (seqObj "list" its.toArray 0)).get? b=some ob:=λb ob e=>by refine w8 _ (((nT (s.heap.push (seqObj "list" #[] 0)) s.heap.objs.size (Obj.mapSeq λx=>x++its.toArray)).2 b ?_).trans (w8 _ e));exact t5 (xz e)
 generalize hL:s.heap.objs.size+1=L at *;generalize ((s.heap.push (seqObj "list" #[] 0)).update s.heap.objs.size (Obj.mapSeq λx=>x++its.toArray)).push (seqObj "list" its.toArray 0)=h2 at *;have hL2:L<h2.objs.size:=xz hoL;refine z6 (k9 (wpAny_call_entry_kw slot_list_sort ⟨_,hoL,rfl⟩ entry_list_sort ?_ (jC _ _)));rw[oY];unfold Builtin.List.listItems;refine z6 (z6 (oz hoL rfl (z9 ?_)));refine z6 (fV hoL rfl ?_ (by simp;rw[pN];omega) (oR _));have s3:=nT h2 L (Obj.mapSeq λ_=>(#[]:Array Value));obtain⟨n3,hL3⟩:∃n,(h2.update L (Obj.mapSeq λ_=>(#[]:Array Value))).get? L=some (seqObj "list" #[] n):=⟨_,Zc hoL λ_=>#[]⟩
 have z3:(h2.update L (Obj.mapSeq λ_=>(#[]:Array Value))).objs.size=h2.objs.size:=Ye _ _ _;generalize h2.update L (Obj.mapSeq λ_=>(#[]:Array Value))=h3 at *;refine z6 (kI hL3 ?_);refine z6 (wpAny_newTuple ?_ (by simp;rw[pN];omega));refine z6 (ZN ?_ (oR _));have k5:∀b ob,h3.get? b=some ob->((h3.push { cls:=Value.type "tuple",data:=Data.seq its.toArray.toList.toArray }).push { cls:=Value.type "list",data:=Data.seq ([]:List Value).toArray }).get? b=some ob:=λb ob e=>w8 _ (w8 _ e);have gK:=t8 (h3.push { cls:=Value.type "tuple",data:=Data.seq its.toArray.toList.toArray }) (o:=seqObj "list" #[] 0) rfl;have zK:(h3.push { cls:=Value.type "tuple",data:=Data.seq its.toArray.toList.toArray }).objs.size=h3.objs.size+1:=size_push' ..;generalize hKK:(h3.push { cls:=Value.type "tuple",data:=Data.seq its.toArray.toList.toArray }).objs.size=K at *;change ((h3.push { cls:=Value.type "tuple",data:=Data.seq its.toArray.toList.toArray }).push { cls:=Value.type "list",data:=Data.seq ([]:List Value).toArray }).get? K=_ at gK;generalize (h3.push { cls:=Value.type "tuple",data:=Data.seq its.toArray.toList.toArray }).push { cls:=Value.type "list",data:=Data.seq ([]:List Value).toArray }=h5 at *;have all5:∀b ob,s.heap.get? b=some ob->h5.get? b=some ob:=λb ob e=>k5 b ob ((s3.2 b (t5 (sI (xz e) (by rw[<- hL];exact Z6 _)))).trans (k2 b ob e));have LK:L≠K:=by omega
 have I5:Inv X pins σ H { s with heap:=h5 }:=I.kept (t':=s.toks) all5;have nL:H L=none:=I.hok.fresh (by omega);have nK:H K=none:=I.hok.fresh (by omega);have fpL:∀H',H' L=none->kE X pins H' L:=λH' n=>I.fpOk (by omega) n;have fpK:∀H',H' K=none->kE X pins H' K:=λH' n=>I.fpOk (by omega) n;have noF:∀b,s.heap.objs.size<=b->b∉frs X.stack:=λb hb z=>by
  have:=I.stack;rcases v0.1 (I.stkSub b z)with rfl|z;·exact absurd I.lt (o9.2 hb)
  ·exact I.nofs hb z
 refine k9 (z6 (lT (z6 ?_)));unfold xu;rw[List.forIn_toArray];refine ww (H0:=H) (G:=G) (oL:=seqObj "list" #[] n3) hr hh hG LK fpK (noF _ (by omega)) (noF _ (by omega)) (t5 (sI hfl (by omega))) hcd hp hco hge hC hx hb st hno ds vs its [] [] ts _ H 0 o rvs rr ek (by simp;omega) I5 (.refl _) (k5 _ _ hL3) gK nL nK (all5 _ _ hf) hfd hfn .nil (λs' H' m' keys ss I' sm' g1 g2 n1 n2 hk' he'=>?_);rw[j6]at hk';have tl:=mh ek;have dl:=rr.length;have kl:keys.length=its.length:=by rw[(tU hk').1,<- za (f:=λx:Str=>x.cps.toList),he'];omega
 refine B8 g1 g2 LK hk' (by simp;exact kl) (by simp;omega) λout π c osz og S h' kp gl=>⟨.none,rfl,z9 ⟨.ref L,rfl,?_⟩⟩
 rw[he']at S;have ol:out.toList.length=vs.length:=by rw[nE,osz];simp;omega
 have vl:((List.range vs.length).map λi=>vs.getD (π i) .non).length=vs.length:=by rw[za,Za]
 have pi:∀i,i<vs.length->π i<vs.length:=λi hi=>by have:=S.1 i (by omega);omega
 have I6:Inv X pins σ H' { s' with heap:=h' }:=Inv.turnedL (s:=s') (t':=s'.toks) (ch:=[L,K]) I' (λb ob hb e=>kp b ob (λz=>hb (by rw[z];exact sS ..)) (λz=>hb (by rw[z];exact rO _ (sS ..))) e) (λb hb=>by
  rcases v0.1 hb with rfl|hb;·exact fpL H' n1
  ·rw[l9.1 hb];exact fpK H' n2);have V':Vals ((List.range vs.length).map λi=>vs.getD (π i) .non) out.toList:=by
  refine si (by rw[vl,ol]) λi x e=>?_;have hi:i<vs.length:=by have:=(sT.1 e).1;omega
  rw[v8,l7 hi]at e;injection e with e;change vs.getD (π i) .non=x at e;rw[xZ,xw (pi i hi)]at e;obtain⟨u,hu,ru⟩:=rvs.get (i:=π i) (x:=x) (by rw[xw (pi i hi)];exact n0 some e);refine⟨u,?_,ru⟩;rw[eQ,og,Zz];exact hu
 refine⟨.ref L,_,Inv.adopt (s:={ s' with heap:=h' }) (t':=s'.toks) (o:=.lst ((List.range vs.length).map λi=>vs.getD (π i) .non)) I6 (fpL H' n1) (λb ob _ e=>e) ⟨_,gl⟩ (show ObjOk X.prog X.w _ h' _ (.lst _) from⟨by rw[vl,pN];omega,out.toList,c,V',gl⟩),rfl,hQ L _ H' π sm' n1 S vl λi hi=>?_⟩;rw[v8,l7 hi];show some (vs.getD (π i) .non)=_;rw[xZ,xw (pi i hi)];rfl
end
theorem rZ{K:PySem.W.Frag}{G:Hp}:∀{vs:List V}{ds:List D},vs.length=ds.length->(∀(i:Nat)(v:V),vs[i]?=some v->∃d,ds[i]?=some d/\Rep K G v d)->Reps K G vs ds
 | [],[],_,_=>.nil
 |v::vs,d::ds,l,h=>by obtain⟨d',e,r⟩:=h 0 v rfl;cases e;exact .cons r (rZ (by simpa using l) λi y e=>h (i+1) y e)
def xD{K:PySem.W.Frag}{vs':List V}{ts:List (List Nat)}{π:Nat->Nat}(rr:Reps K G vs ds)(tl:ts.length=ds.length)(S:Stab ts π)(l:vs'.length=vs.length)(g:∀i,i<vs.length->vs'[i]?=vs[π i]?):Reps K G vs' (rF ts ds):=by
 have dl:=rr.length;refine rZ (by unfold rF;rw[List.length_map,List.length_range];omega) λi v e=>?_;have hi:i<vs.length:=by have:=(sT.1 e).1;omega
 rw[g i hi]at e;obtain⟨d,ed,rd⟩:=rr.getV e;refine⟨d,?_,rd⟩;unfold rF;rw[v8,l7 (by omega)];show some (ds.getD (nJ ts i) .non)=_;rw[<- S.uniq (hX ts) i (by omega),xZ,ed];rfl
section
variable{a:Expr}{ga:Ev->R D}{params:Arguments}{body:Expr}{lp pos kp:Pos}
def CI(hc:X.calm=true)(hg:Gl X "sorted")(hm:X.mg "sorted"=none)(hr:Room (j+3) X.A)(L:LamAt X)(ha:PF X a ga)(ok:LamOk X scope N' ix)(hb:∀(cl:List (Str×Addr))(f:Addr)(cd:Value)(A:Around)(outer:List Env)(s:Shared)(H:Hp)(E:XK),Room j (A.deeper (PySem.W.envX (X.env.qual++"<lambda>") scope s.heap.objs.size f cd cl))->PF (qu X.prog X.w X.K X.mg X.base (x::N') (X.env.qual++"<lambda>") scope cl f cd A outer s H E) body gb)(hx:scope.names.lookup x=some .local:=by rfl)(hp:∀cl pm cd ctv u,bindArgs (PySem.W.kla_fn "<lambda>" (X.env.qual++"<lambda>") params body scope cl pm cd ctv) ⟨[u],[]⟩=pure [(x,u)]:=by intros;rfl)(hdef:defaultsOf params X.env=([],[]):=by rfl)(hs:starEach [a] X.env=(false,eval a X.env)::starEach [] X.env:=by rfl)(hall:(backToKw pos (keywordEach [⟨some "key",.Lambda params body scope lp,kp⟩] X.env)).all (·.1.isSome)=true:=by rfl)(hks:(backToKw pos (keywordEach [⟨some "key",.Lambda params body scope lp,kp⟩] X.env)).filterMap (·.1)=[("key":Str)]:=by rfl)(hpl:((backTo pos (starEach [a] X.env)).any (·.1) || (backToKw pos (keywordEach [⟨some "key",.Lambda params body scope lp,kp⟩] X.env)).any (·.1.isNone))=false:=by rfl):
  PF X (.Call (.Name "sorted" p) [a] [⟨some "key",.Lambda params body scope lp,kp⟩] pos) (wN ga ix gb):=by
 obtain⟨c,P,q,hcc,hcd,hT,rfl,hbm,hgP⟩:=L.ex;intro pins s σ H Q I h;obtain⟨G,ρ,st,h⟩:=h;have ta:uQ (tF X ga) GI σ H (λvs H1=>∃v,vs=[v]/\∃G1 d,Up G H G1 H1/\StE X.K G1 H1 σ ρ/\Rep X.K G1 v d/\(match d with|.lst _ xs=>tD (λd=>gb (some (.val d)::ce 0 ix ρ)) xs|_=>.no:R D).post (Fin G1 H1 (Rep X.K) Q) (Exx X σ G1 H1)):=
  tG.intro st h λd v G1 H1 u1 st1 r1 h1=>⟨v,rfl,G1,d,u1,st1,r1,h1⟩
 refine Zi (lU I hg hm PyProof.Rows.Boot.«sorted» ?_ (by decide) (by decide));refine PySem.W.callWith_of (P:=λ_=>True) hpl (λh _=>by first|exact⟨_,.inl rfl,Yf rfl⟩|exact⟨_,.inr (.inl rfl),Yf rfl⟩|exact⟨_,.inr (.inr rfl),Yf rfl⟩) (evalArgs_kw2 hall (thn ((cE ha gU hs) pos pins s σ H _ I ta) λus s1 ⟨vs,H1,I1,r1,q1⟩=>?_) hs);obtain⟨v,hv,G1,d,u1,st1,rd,h1⟩:∃v,vs=[v]/\∃G1 d,Up G H G1 H1/\StE X.K G1 H1 σ ρ/\Rep X.K G1 v d/\(match d with|.lst _ xs=>tD (λd=>gb (some (.val d)::ce 0 ix ρ)) xs|_=>.no:R D).post (Fin G1 H1 (Rep X.K) Q) (Exx X σ G1 H1):=q1;subst hv;obtain⟨u,rfl,rv⟩:=r1.one;show wpAny _ _ (evalAll ((do let v <- eval (.Lambda params body scope lp) X.env;standAt pos;pure v)::(backToKw pos (keywordEach [] X.env)).map (·.2))) _ _ s1;obtain⟨more,hTH⟩:=I1.ok.tabs.un I1.base P _ hT;refine wpAny_evalAll_cons (z6 (zp I1 hdef hcc (hcd _ I1.kIn) hTH ?_ (hbm.keeps I1.bk) ok.fr hgP λf cd ctv pm H2 s2 L=>z6 (Zs (z9 (wpAny_evalAll_nil ⟨trivial,?_⟩)))));·unfold xS;rw[Yb];rfl
 rw[hks];have sub2:Same G1 H2:=st1.sub.trans L.hh;have up2:Up G1 H1 G1 H2:=⟨sub2,.refl _,L.hh,λa o h=>.inl h⟩
 have st2:=jv (st1.up up2) 0 ix;have fin:∀{l:Addr}{vr:List V}{ds:List D},u=.ref l->SqL X.K G1 l vr->Reps X.K G1 vr ds->(tD (λd=>gb (some (.val d)::ce 0 ix ρ)) ds).post (Fin G1 H1 (Rep X.K) Q) (Exx X σ G1 H1)->
   wpAny (model X.prog X.w) X.A (call (.builtin "sorted") [u] [(Str.ofString "key",.ref f)]) (EP X pins σ Q) X.xe s2:=by
  intro l vr ds eu hq rr h0;subst eu;unfold tD at h0;split at h0
  ·rename_i ts ek;split at h0;·rename_i h64;refine vc (x:=x) hc hr L.inv sub2 hq rr (by rw[rr.length];exact h64) L.fn L.free rfl L.codeH (hp _ _ _ _) ok.co ok.gen (λH s I=>CZ ok I) hx (λs' H'=>hb _ f cd X.A.in1.in1 X.stack s' H' _ (hr.in1.in1.deeper _)) st2 fW ek λa vs' H' π sm na S l g=>?_;have sub':Same G1 H':=sub2.trans sm;refine h0 (.ref a) (upd G1 a (.lst vs')) (upd H' a (.lst vs')) (Up.trans ⟨sub',.refl _,L.hh.trans sm,λa o h=>.inl h⟩ (.new sub' na)) (.lst ba ?_);exact(xD rr (mh ek) S l g).mono (.into (sub'.free na))
   ·exact h0.elim
  ·exact h0.elim
 cases rd with
 |lst hq t=>cases rv;exact fin rfl (.of hq) t h1
 |fls hq t=>cases rv;exact fin rfl hq t h1
 |_=>exact h1.elim
end
section
variable{prog:Program}{w:World}{A:Around}
noncomputable def PairAt(h:Heap)(v:Value)(k:List Nat×Int):Prop:=∃p x t u c f m,v=.ref p/\h.get? p=some ⟨.type "tuple",c,.seq #[.str x t,.int k.2 u] m,f⟩/\x.cps.toList=k.1
theorem B3{i j:Int}{t u:Tok}{Q:Bool->Shared->Prop}(h:Q (decide (i<j)) s):wpAny (model prog w) A (oneLt' false (.int i t) (.int j u)) Q E s:=by rw[oneLt'_eq];dsimp only;rw[if_neg (by decide)];refine z6 (richCompare_gives (op:=.Lt) (i9 s _ t) (i9 s _ u) F.slot_int_lt F.entry_int_lt (F.args_int_lt_2 _ _) (gives_int_lt _ _ t u) (λx=>nomatch x) ?_);show wpAny _ _ (truthOfDropped (.bool _)) _ _ _;exact k6 h
def Dh{x y:Value}{a b:List Nat×Int}{Q:Bool->Shared->Prop}(hx:PairAt s.heap x a)(hy:PairAt s.heap y b)(h:Q (iE a b) s):wpAny (model prog w) A (keyLt' (tuples' true) x y) Q E s:=by
 obtain⟨p,x,t,u,c,f,m,rfl,ep,ex⟩:=hx;obtain⟨q,y,t',u',c',f',m',rfl,eq,ey⟩:=hy;show wpAny _ _ (Builtin.List.listItems (Value.ref p)>>=_) _ _ _;unfold Builtin.List.listItems;refine z6 (z6 (oz ep rfl (z9 ?_)));refine z6 (z6 (oz eq rfl (z9 ?_)));show wpAny _ _ ((forIn [((Value.str x t,Value.str y t'),0),((Value.int a.2 u,Value.int b.2 u'),1)] _ _)>>=_) _ _ _;rw[iF];refine z6 (z6 (z6 (wpAny_eqBool_str ?_)));have e0:x=y ↔ a.1=b.1:=by
  rw[<- ex,<- ey];exact⟨λz=>by rw[z],λz=>by
   cases x;cases y
   congr 1
   exact Array.toList_inj.1 z⟩
 by_cases c1:x=y
 ·rw[sM c1];refine z9 ?_;show wpAny _ _ (forIn [((Value.int a.2 u,Value.int b.2 u'),1)] _ _) _ _ _;rw[iF];refine z6 (z6 (wpAny_eqBool_int ?_));by_cases c2:a.2=b.2
  ·rw[Z7.2 c2];refine z9 ?_;show wpAny _ _ (forIn [] _ _) _ _ _;rw[b7];refine z9 (z9 ?_);rw[show iE a b=false by
    cases z:iE a b with
    |false=>rfl
    |true=>
     rcases bltP_iff.1 z with z|z;·rw[e0.1 c1]at z;exact absurd z (List.lt_irrefl _)
     ·omega]at h;exact h
  ·rw[i4.2 c2];refine z6 (B3 (z9 (z9 (z9 ?_))));rw[show iE a b=decide (a.2<b.2) by unfold iE;rw[e0.1 c1,tH (List.lt_irrefl _),sM rfl];rfl]at h;exact h
 ·rw[tH c1];refine z6 (oneLt_str (z9 (z9 (z9 ?_))));rw[ex,ey];rw[show iE a b=decide (a.1<b.1) by unfold iE;rw[tH (λz=>c1 (e0.2 z))];simp]at h;exact h
open Classical in
noncomputable def gJ(h:Heap):PyProof.Rows.KeyKind where
 α:=List Nat×Int
 blt:=iE
 irrefl:=md
 trans:=λ_ _ _=>nH
 negTrans:=λ_ _ _=>uB
 total:=λ_ _=>yN
 keyOf:=λv=>if hx:∃k,PairAt h v k then some (choose hx)else none
 dflt:=([],0)
def PairAt.uniq{v:Value}{k k':List Nat×Int}(a:PairAt h v k)(b:PairAt h v k'):k=k':=by obtain⟨p,x,t,u,c,f,m,rfl,ep,ex⟩:=a;obtain⟨q,y,t',u',c',f',m',e,eq,ey⟩:=b;cases e;rw[ep]at eq;injection eq with eq;injection eq with _ _ e _;injection e with e _;have e:[Value.str x t,Value.int k.2 u]=[Value.str y t',Value.int k'.2 u']:=n0 Array.toList e;injection e with e1 e2;injection e1 with e1 _;injection e2 with e2 _;injection e2 with e2 _;exact Prod.ext (by rw[<- ex,<- ey,e1]) e2
open Classical in
def tW{v:Value}{k:List Nat×Int}(p:PairAt h v k):(gJ h).keyOf v=some k:=by show(if hx:∃k,PairAt h v k then some (Classical.choose hx)else none)=_;rw[dif_pos ⟨k,p⟩];exact n0 some (PairAt.uniq (Yc (⟨k,p⟩:∃k,PairAt h v k)) p)
def vM{a₀:Array Keyed}(hK:∀p∈a₀.toList,∃k,PairAt s.heap p.1 k):Am prog w A E s (gJ s.heap) (tuples' true) a₀:=λst i j Q b hi hj q=>by
 have at':∀i,i<a₀.size->∃p k,(arrOf st)[i]?=some p/\PairAt s.heap p.1 k/\KK (gJ s.heap) (arrOf st) i=k:=λi hi=>by
  have hs:i<(arrOf st).size:=by rw[b.size];exact hi
  obtain⟨k,hk⟩:=hK (arrOf st)[i] ((b.perm.mem_iff).1 (Array.getElem_mem hs) |> Array.mem_toList_iff.2);refine⟨(arrOf st)[i],k,Yd hs,hk,?_⟩;unfold KK;rw[Yd hs];show((gJ s.heap).keyOf _).getD _=_;rw[tW hk];rfl
 obtain⟨p,k,e1,h1,k1⟩:=at' i hi;obtain⟨p',k',e2,h2,k2⟩:=at' j hj;rw[k1,k2]at q;rw[ltAt'_eq];refine t6 (wpS_get ?_);dsimp only;rw[elem'_eq,elem'_eq,e1,e2];refine t6 (rh (t6 (rh ?_)));rw[lt'_eq];refine t6 (wpS_get (t6 (wpS_lift (iO ?_))));rw[b.kind];exact Dh h1 h2 ⟨rfl,rh q⟩
def zW{v:Value}{k:List Nat×Int}{Q:Option Value->Shared->Prop}(h:PairAt s.heap v k)(q:∀x t,x.cps.toList=k.1->Q (some (.str x t)) s):wpAny (model prog w) A (firstOfTuple' v) Q E s:=by obtain⟨p,x,t,u,c,f,m,rfl,ep,ex⟩:=h;show wpAny _ _ (typeOf (Value.ref p)>>=_) _ _ _;refine z6 (Z0 (T:="tuple") ⟨_,ep,rfl⟩ ?_);rw[if_neg (by decide)];unfold Builtin.List.listItems;exact z6 (z6 (oz ep rfl (z9 (z9 (q x t ex)))))
theorem qN{Q:List (Option Value)->Shared->Prop}:∀(vs:List Value),(∀v∈vs,∃k,PairAt s.heap v k)->(∀fs:List Value,(∀x∈fs,∃y t,x=Value.str y t)->fs.length=vs.length->Q (fs.map some) s)->wpAny (model prog w) A (vs.mapM firstOfTuple') Q E s
 | [],_,q=>by rw[List.mapM_nil];exact z9 (q [] (λ_ h=>by cases h) rfl)
 |v::vs,h,q=>by
  rw[List.mapM_cons];obtain⟨k,hk⟩:=h v (sS ..);refine z6 (zW hk λx t _=>z6 (qN vs (λv hv=>h v (rO _ hv)) λfs hf hl=>z9 ?_));refine q (.str x t::fs) (λy hy=>?_) (by rw[r6,r6,hl]);rcases v0.1 hy with rfl|hy;·exact⟨x,t,rfl⟩
  ·exact hf y hy
theorem qU:∀(fs:List Value),(∀x∈fs,∃y t,x=Value.str y t)->fs.mapM typeOf=(pure (fs.map λ_=>Value.type "str"):Sem (List Value))
 | [],_=>rfl
 |x::fs,h=>by obtain⟨y,t,rfl⟩:=h x (sS ..);rw[List.mapM_cons,qU fs λz hz=>h z (rO _ hz)];rfl
def CJ{keys:Array Value}{Q:SortKind->Shared->Prop}(h2:2<=keys.size)(h:∀v∈keys.toList,∃k,PairAt s.heap v k)(q:Q (tuples' true) s):wpAny (model prog w) A (keyKind' keys) Q E s:=by
 rw[keyKind'_eq,Array.mapM_eq_mapM_toList];show wpAny _ _ ((keys.toList.mapM firstOfTuple'>>=λl=>pure l.toArray)>>=_) _ _ _;refine z6 (z6 (qN _ h λfs hf hl=>z9 ?_));rw[if_pos (by simp)];refine z6 (lT (z6 ?_));have e:Array.filterMap id (fs.map some).toArray=fs.toArray:=by simp[List.filterMap_map]
 rw[e,oneTypeOnly'_eq,Array.mapM_eq_mapM_toList];show wpAny _ _ ((fs.toArray.toList.mapM typeOf>>=λl=>pure l.toArray)>>=_) _ _ _;refine z6 (z6 (j7 (qU fs hf) (z9 ?_)))
 match fs,hl with
 |x::fs,_=>
  refine z9 (z9 ?_);have al:((List.map (λ_=>Value.type "str") (x::fs)).toArray.all λy=>y==Value.type "str")=true:=by rw[<- Array.all_toList,v6];intro y hy;obtain⟨_,_,rfl⟩:=v7.1 hy;rfl
  change Q (tuples' (Option.any (λx=>x != Value.type "tuple") (if ((List.map (λ_=>Value.type "str") (x::fs)).toArray.all λy=>y==Value.type "str")=true then some (Value.type "str")else none))) s;rw[if_pos al];exact q
 | [],hl=>rw[nE]at hl;simp at hl;omega
def Aj{items:List Value}{kl:List (List Nat×Int)}{P:PySem.Fin->Shared->Prop}(ha:s.heap.get? a=some (seqObj "list" items.toArray n))(hl:items.length=kl.length)(hk:∀i,i<kl.length->∃v,items[i]?=some v/\PairAt s.heap v (kl.getD i ([],0))/\v≠.ref a)(h64:items.length<64)(h:∀(out:Array Value)(π:Nat->Nat)(c:Nat),out.size=items.length->(∀i,out[i]?=items[π i]?)->StabP kl π->∀h',(∀x o,x≠a->s.heap.get? x=some o->h'.get? x=some o)->h'.get? a=some (seqObj "list" out c)->P (.done (.ret Value.none)) { s with heap:=h' }):
  wpAny (model prog w) A (Builtin.«list.sort» { pos:=[Value.ref a] }) P E s:=by
 rw[list_sort_plain];unfold Builtin.List.listItems;refine z6 (z6 (oz ha rfl (z9 ?_)));refine z6 (fV ha rfl ?_ (by simp;rw[pN];omega) (oR _));have s3:=nT s.heap a (Obj.mapSeq λ_=>(#[]:Array Value));obtain⟨n3,h3⟩:∃n,(s.heap.update a (Obj.mapSeq λ_=>(#[]:Array Value))).get? a=some (seqObj "list" #[] n):=⟨_,Zc ha λ_=>#[]⟩
 refine z6 (kI h3 ?_);refine z6 (wpAny_newTuple ?_ (by simp;rw[pN];omega));refine z6 (ZN ?_ (oR _));refine k9 ?_;have k5:∀b ob,(s.heap.update a (Obj.mapSeq λ_=>(#[]:Array Value))).get? b=some ob->(((s.heap.update a (Obj.mapSeq λ_=>(#[]:Array Value))).push { cls:=Value.type "tuple",data:=Data.seq items.toArray.toList.toArray }).push { cls:=Value.type "list",data:=Data.seq ([]:List Value).toArray }).get? b=some ob:=λb ob e=>w8 _ (w8 _ e);generalize ((s.heap.update a (Obj.mapSeq λ_=>(#[]:Array Value))).push { cls:=Value.type "tuple",data:=Data.seq items.toArray.toList.toArray }).push { cls:=Value.type "list",data:=Data.seq ([]:List Value).toArray }=h5 at *;have all5:∀b ob,b≠a->s.heap.get? b=some ob->h5.get? b=some ob:=λb ob n e=>k5 b ob ((s3.2 b n).trans e);have g5:=k5 _ _ h3;have kp:∀i,i<kl.length->∃v,items[i]?=some v/\PairAt h5 v (kl.getD i ([],0)):=λi hi=>by obtain⟨v,e,⟨p,x,t,u,c,f,m,rfl,ep,ex⟩,nv⟩:=hk i hi;exact⟨_,e,p,x,t,u,c,f,m,rfl,all5 _ _ (λz=>nv (by rw[z])) ep,ex⟩
 have fin:∀(st':SortSt)(π:Nat->Nat),(∀i,(arrOf st')[i]?=(items.toArray.zip items.toArray)[π i]?)->StabP kl π->failedOf st'=none/\(arrOf st').size=items.length->wpAny (model prog w) A (do
   let now <- seqEpoch a
   Builtin.List.listUpdate (Value.ref a) λx=>Array.map (λx=>x.snd) (arrOf st')
   match failedOf st' with
   |some e=>do
    rule "list.sort.comparison-raised"
    throw e
    if (now != n3)=true then do
     rule "list.sort.modified"
     raiseErrorWords "ValueError" "list modified during sort"
     ret Value.none
    else ret Value.none
   |_=>
    if (now != n3)=true then do
     rule "list.sort.modified"
     raiseErrorWords "ValueError" "list modified during sort"
     ret Value.none
    else ret Value.none) P E { s with heap:=h5 }:=λst' π g S ⟨fl,sz0⟩=>by
  rw[fl];refine z6 (kI g5 ?_);refine z6 (fV g5 rfl ?_ (oR _) (by rw[ZM,sz0,pN];omega));have s6:=nT h5 a (Obj.mapSeq λ_=>Array.map (λx:Keyed=>x.snd) (arrOf st'));dsimp only;rw[if_neg (by simp)];refine z9 (h (Array.map (λx:Keyed=>x.snd) (arrOf st')) π _ (by rw[ZM];exact sz0) (λi=>?_) S _ (λx o xa e=>(s6.2 x xa).trans (all5 x o xa e)) (Zc g5 λ_=>Array.map (λx:Keyed=>x.snd) (arrOf st')));rw[Array.getElem?_map,g,wT rfl,Zz]
 have zs:(items.toArray.zip items.toArray).size=items.length:=by simp
 dsimp only;by_cases c:items.length<2;·rw[if_pos (by simpa using c),if_pos (by simpa using c)];refine z6 (z9 (z6 (z9 (fin _ id (λi=>rfl) ⟨λi h=>h,λi j ij jn=>by omega⟩ ⟨rfl,zs⟩))))
 ·rw[if_neg (by simpa using c),if_neg (by simpa using c)];have mem:∀v∈items,∃k,PairAt h5 v k:=λv hv=>by obtain⟨i,hi,e⟩:=List.getElem_of_mem hv;obtain⟨v',e',p⟩:=kp i (by omega);rw[xw hi,e]at e';injection e' with e';rw[e'];exact⟨_,p⟩
  have kk:∀i,i<items.length->KK (gJ h5) (items.toArray.zip items.toArray) i=kl.getD i ([],0):=λi hi=>by
   obtain⟨v,e,p⟩:=kp i (by omega);have e2:(items.toArray.zip items.toArray)[i]?=some (v,v):=by rw[<- eQ,Zb,List.getElem?_zip_eq_some];exact⟨e,e⟩
   unfold KK;rw[e2];show((gJ h5).keyOf v).getD _=_;rw[tW p];rfl
  refine z6 (CJ (s:={ s with heap:=h5 }) (by simp;omega) (λv hv=>mem v (by simpa using hv)) ?_);refine z6 (t7 (wj (s:={ s with heap:=h5 }) (a₀:=items.toArray.zip items.toArray) (κ:=gJ h5) (kd:=tuples' true) (Q:=λ_ st'=>∃π,(∀i,(arrOf st')[i]?=(items.toArray.zip items.toArray)[π i]?)/\StabP kl π/\failedOf st'=none/\(arrOf st').size=items.length) (vM (s:={ s with heap:=h5 }) λp hp=>?_) ⟨.refl _,rfl,rfl,rfl⟩ rfl (by omega) (by omega) (λst' π g lo S fl=>⟨π,g,?_,fl.1,fl.2.trans zs⟩)) (λr s' hq=>?_) λe s' z=>z);·rw[Zb]at hp;exact mem _ (by simpa using (bY (show(p.1,p.2)∈_ from hp)).1)
  ·rw[zs]at lo S;refine⟨λi hi=>by rw[<- hl]at hi⊢;exact lo i hi,λi j ij jn=>?_⟩;rw[<- hl]at jn;obtain⟨b1,b2⟩:=S i j ij jn;rw[kk _ (lo i (by omega)),kk _ (lo j jn)]at b1 b2;exact⟨b1,b2⟩
  ·obtain⟨rfl,π,g,S,fl⟩:=hq;exact fin r.2 π g S fl
end
def vE{K:PySem.W.Frag}{vs':List V}{kl:List (List Nat×Int)}{π:Nat->Nat}(rr:Reps K G vs ds)(tl:kl.length=ds.length)(S:StabP kl π)(l:vs'.length=vs.length)(g:∀i,i<vs.length->vs'[i]?=vs[π i]?):Reps K G vs' (sK kl ds):=by
 have dl:=rr.length;refine rZ (by unfold sK;rw[List.length_map,List.length_range];omega) λi v e=>?_;have hi:i<vs.length:=by have:=(sT.1 e).1;omega
 rw[g i hi]at e;obtain⟨d,ed,rd⟩:=rr.getV e;refine⟨d,?_,rd⟩;unfold sK;rw[v8,l7 (by omega)];show some (ds.getD (piP kl i) .non)=_;rw[<- S.uniq (ut kl) i (by omega),xZ,ed];rfl
section
noncomputable def Bf(K:PySem.W.Frag):List V->Hp->VK->Prop:=λxs H Q=>∃p G ys ds kl,xs=[.ref p]/\Same G H/\SqL K G p ys/\Reps K G ys ds/\iQ ds=some kl/\ds.length<64/\∀l ys' π,H l=none->StabP kl π->ys'.length=ys.length->(∀i,i<ys.length->ys'[i]?=ys[π i]?)->Q (.ref l) (upd H l (.lst ys'))
def vn:gT X (.builtin "sorted") (Bf X.K):=by
 intro pins s σ H xs us Q I r h;obtain⟨l,G,vs,ds,kl,rfl,hG,hq,rr,ek,h64,hQ⟩:=h;obtain⟨u,rfl,rx⟩:=sU r;cases rx;obtain⟨its,rvs,pl,hz⟩:=I.list (hq.mono hG);have hl:=pl.isList;have hlen:=rvs.length;have dl:=rr.length;obtain⟨tl,tg⟩:=jV ek;refine PySem.Calls.call_function_entry kind_sorted plain_sorted entry_sorted (args_sorted1 _) ?_;unfold Builtin.sorted;refine z6 (j7 (show checkCount "sorted" 1 1 1=pure () from rfl) ?_);refine z6 (collect_list hl ?_ (by rw[pN];omega));refine z6 (ZN ?_ (by rw[pN];omega));have hsz:((s.heap.push (seqObj "list" #[] 0)).update s.heap.objs.size (Obj.mapSeq λx=>x++its.toArray)).objs.size=s.heap.objs.size+1:=by rw[Ye,size_push']
 have hoL:=t8 ((s.heap.push (seqObj "list" #[] 0)).update s.heap.objs.size (Obj.mapSeq λx=>x++its.toArray)) (o:=seqObj "list" its.toArray 0) rfl;rw[hsz]at hoL⊢;have k2:∀b ob,s.heap.get? b=some ob->(((s.heap.push (seqObj "list" #[] 0)).update s.heap.objs.size (Obj.mapSeq λx=>x++its.toArray)).push (seqObj "list" its.toArray 0)).get? b=some ob:=λb ob e=>by refine w8 _ (((nT (s.heap.push (seqObj "list" #[] 0)) s.heap.objs.size (Obj.mapSeq λx=>x++its.toArray)).2 b ?_).trans (w8 _ e));exact t5 (xz e)
 generalize hL:s.heap.objs.size+1=L at *;generalize ((s.heap.push (seqObj "list" #[] 0)).update s.heap.objs.size (Obj.mapSeq λx=>x++its.toArray)).push (seqObj "list" its.toArray 0)=h2 at *;have sL:s.heap.objs.size<=L:=by rw[<- hL];exact Z6 _
 refine z6 (k9 (lH slot_list_sort ⟨_,hoL,rfl⟩ entry_list_sort ?_ (args_list_sort _)));refine Aj hoL (by omega) (kl:=kl) (λi hi=>?_) (by omega) λout π c osz og S h' kp gl=>⟨.none,rfl,z9 ⟨.ref L,rfl,?_⟩⟩
 ·obtain⟨v,ev,rv⟩:=rr.get (tg i hi);obtain⟨u,eu,ru⟩:=rvs.get ev;obtain⟨a,ws,rfl,ht,rt⟩:=rv.tup_inv;cases ru;obtain⟨jts,vj,pj,_⟩:=I.tuple (ht.mono hG);cases rt with
  |cons r1 rt=>
  cases rt with
  |cons r2 rt=>
  cases rt;obtain⟨y,rfl,ey,_⟩:=r1.str_inv;cases r2;cases vj with
  |cons q1 vj=>
  cases vj with
  |cons q2 vj=>
  cases vj;obtain⟨t1,rfl⟩:=q1;obtain⟨t2,rfl⟩:=q2;obtain⟨⟨cls,dd,data,sl⟩,ho,hc,n,hd⟩:=pj;simp only at hc hd;subst hc hd;refine⟨_,eu,⟨a,y,t1,t2,dd,sl,n,rfl,k2 _ _ ho,ey⟩,λz=>?_⟩;injection z with z;have:=xz ho;rw[z]at this;exact mK _ (sI this sL)
 ·have ol:out.toList.length=vs.length:=by rw[nE,osz];omega
  have vl:((List.range vs.length).map λi=>vs.getD (π i) .non).length=vs.length:=by rw[za,Za]
  have pi:∀i,i<vs.length->π i<vs.length:=λi hi=>by have:=S.1 i (by omega);omega
  have V':Vals ((List.range vs.length).map λi=>vs.getD (π i) .non) out.toList:=by
   refine si (by rw[vl,ol]) λi x e=>?_;have hi:i<vs.length:=by have:=(sT.1 e).1;omega
   rw[v8,l7 hi]at e;injection e with e;change vs.getD (π i) .non=x at e;rw[xZ,xw (pi i hi)]at e;obtain⟨u,hu,ru⟩:=rvs.get (i:=π i) (x:=x) (by rw[xw (pi i hi)];exact n0 some e);refine⟨u,?_,ru⟩;rw[eQ,og];exact hu
  refine⟨.ref L,_,I.laid (t':=s.toks) (o:=.lst ((List.range vs.length).map λi=>vs.getD (π i) .non)) (λb ob e=>kp b ob (t5 (sI (xz e) sL)) (k2 b ob e)) sL (show ObjOk X.prog X.w _ h' _ (.lst _) from⟨by rw[vl,pN];omega,out.toList,c,V',gl⟩),rfl,hQ L _ π (I.hok.fresh sL) S vl λi hi=>?_⟩;rw[v8,l7 hi];show some (vs.getD (π i) .non)=_;rw[xZ,xw (pi i hi)];rfl
def Ax(K:PySem.W.Frag):Bx K (Bf K) qA:=by
 intro G H xs ds d Q s r e q;unfold qA at e;split at e
 ·split at e
  ·rename_i kl ek;split at e;·rename_i h64;cases e;obtain⟨v,rfl,r1⟩:=r.one;obtain⟨a,vs,rfl,h,t⟩:=r1.seq_inv;exact⟨a,G,vs,_,kl,rfl,s,h,t,ek,h64,λl ys' π hl S ln g=>q _ _ _ (.new s hl) (.lst ba ((vE t (jV ek).1 S ln g).mono (.into (s.free hl))))⟩
   ·cases e
  ·cases e
 ·cases e
def CP{e:Expr}{pos:Pos}(hg:Gl X "sorted")(hm:X.mg "sorted"=none)(ha:PFA X [e] gl)(he:starEach [e] X.env=(false,eval e X.env)::starEach [] X.env:=by rfl):
  PF X (.Call (.Name "sorted" p) [e] [] pos) (gOf qA gl):=gI vn (Ax _) hg hm PyProof.Rows.Boot.«sorted» ha (by decide) (by decide) he rfl
end
def kT(ns:List Int):firstMet (λi=>ns.getD i 0) ns.length=pJ ns:=by
 unfold firstMet pJ
 congr 1
 refine Yg (by simp) λi h1 h2=>?_;simp[xw h2]
section
noncomputable def JZ(X:Cx):List V->Hp->VK->Prop:=λxs H Q=>∃p G ys ds ns,xs=[.ref p]/\Same G H/\SqL X.K G p ys/\Reps X.K G ys ds/\hJ ds=some ns/\ns.length<=1000/\∀l S,H l=none->Q (.ref l) (upd H l (.set S (pJ ns).length))
def xi(hc:X.calm=true):gT X (.type "set") (JZ X):=by
 intro pins s σ H xs us Q I r h;obtain⟨l,G,vs,ds,ns,rfl,hG,hq,rr,ek,h1,hQ⟩:=h;obtain⟨u,rfl,rx⟩:=sU r;cases rx;obtain⟨its,rvs,pl,hz⟩:=I.list (hq.mono hG);have ia:=uF ek rr rvs;have il:=ia.length;have sz:its.toArray.size=ns.length:=by rw[v4];exact il
 refine call_set_list (I.ok.hd hc) pl.isList ia (by rw[sz];show ns.length+1<4096;omega) λh' tk hS hk=>?_;rw[sz,kT]at hS;exact⟨.ref s.heap.objs.size,_,I.laid (t':=tk) (λb o e=>hk b o (xz e) e) (yo _) (show ObjOk X.prog X.w _ h' _ (.set _ _) from hS),rfl,hQ _ _ (I.hok.fresh (yo _))⟩
def xo:gT X (.builtin "len") (λxs H Q=>∃l S n,xs=[.ref l]/\H l=some (.set S n)/\n<=1000/\Q (.int n) H):=by intro pins s σ H xs us Q I r h;obtain⟨l,S,n,rfl,hl,h1,q⟩:=h;obtain⟨u,rfl,rx⟩:=sU r;cases rx;obtain⟨o,es,ep,t,go,ex,hd,_,_,_,hf,he⟩:s.heap.SetOf (intKind X.prog X.w) l S n:=I.hok l _ hl;refine call_len_set go ex hd hf (by rw[he];omega) ?_;rw[he];exact⟨.int n,H,I.tok _,⟨_,rfl⟩,q⟩
def yE{e:Expr}{p2 pos pos2:Pos}(hc:X.calm=true)(hm:X.mg "len"=none)(hm2:X.mg "set"=none)(ha:PFA X [e] gl)(hg:Gl X "len":=by rfl)(hg2:Gl X "set":=by rfl)(he:starEach [e] X.env=(false,eval e X.env)::starEach [] X.env:=by rfl)(he2:starEach [.Call (.Name "set" p2) [e] [] pos2] X.env=(false,eval (.Call (.Name "set" p2) [e] [] pos2) X.env)::starEach [] X.env:=by rfl):
  PF X (.Call (.Name "len" p) [.Call (.Name "set" p2) [e] [] pos2] [] pos) (gOf nY gl):=by
 intro pins s σ H Q I h;refine jH xo hg hm PyProof.Rows.Boot.«len» (cE (lR (xi hc) hg2 hm2 PyProof.Rows.Boot.«set» ha (by decide) (by decide) he rfl) gU he2) (by decide) (by decide) he2 rfl pins s σ H Q I ?_;obtain⟨G,ρ,st,h⟩:=h;refine tG.intro st h λds vs G1 H1 u1 st1 r1 h1=>?_;unfold nY at h1;split at h1
 ·split at h1
  ·rename_i ns ek;split at h1
   ·rename_i hn;obtain⟨v,rfl,r2⟩:=r1.one;obtain⟨a,ws,rfl,hq,t⟩:=r2.seq_inv;refine⟨a,G1,ws,_,ns,rfl,st1.sub,hq,t,ek,hn,λl S hl=>?_⟩;have sub:Same G1 (upd H1 l (.set S (pJ ns).length)):=λa o q=>by rw[aQ (aL (st1.sub a o q) hl)];exact st1.sub a o q
    refine⟨l,S,(pJ ns).length,rfl,ba,?_,h1 _ G1 _ ⟨sub,.refl _,.into hl,λ_ _ z=>.inl z⟩ (.int _)⟩;have:=firstMet_length_le (λi=>ns.getD i 0) ns.length;rw[kT]at this;omega
   ·exact h1.elim
  ·exact h1.elim
 ·exact h1.elim
end
section
variable{elt:Expr}{ifs:List Expr}{px pos:Pos}{gt:Ev->R Bool}{ge:Ev->R D}
noncomputable def cz(X:Cx)(N':List Str)(x:Str)(scope:Scope)(C:Addr)(s₂:Shared)(H₂:Hp)(fp:List Addr):Cx:=
 { X with N:=N',s₀:=s₂,H₀:=H₂,env:=compEnvC scope ((x,C+1)::kF X.env scope.names []) C X.env,outer:=X.stack,stack:=X.stack,ex:=fp,fn:=λy=>y==x,pn:=[],xe:=λ_ _=>False }
structure CompOkD(X:Cx)(scope:Scope)(x:Str)(N':List Str)(ix:List Nat):Prop where
 kind:scope.kind=.function
 names:∀y∈scope.names,y.2=.local->scope.names.lookup y.1=some .local
 cells:∀L cs,cellsFrom L scope.names cs=(x,L)::cs
 lkx:(relabel scope X.env).names.lookup x=some .cell
 cel:∀y∈scope.names,y.2=.cell->y.1=x
 fr:∀y∈scope.names,y.2=.free->X.env.kindOf y.1=some .cell
 nd:N'.Nodup
 hd:N'[0]?=some x
 tl:N'.drop 1=ix.map λ(i:Nat)=>X.N.getD i Str.empty
 lt:∀i∈ix,i<X.N.length
 fre:∀y∈N'.drop 1,scope.names.lookup y=some .free/\(y,NameKind.free)∈scope.names
 nx:∀y∈N'.drop 1,y≠x
def Cc{M:Model}{A:Around}{globals:Addr}{env:Env}{Q:Env->Shared->Prop}{cl:List (Str×Addr)}(hc:∀L cs,cellsFrom L scope.names cs=(x,L)::cs)(hQ:∀h',h'.Ns s.heap.objs.size (λ_=>none)->h'.IsCell (s.heap.objs.size+1) none->(∀b o,s.heap.get? b=some o->h'.get? b=some o)->
 Q (newEnv scope s.heap.objs.size globals ((x,s.heap.objs.size+1)::cl) qual none .none (some env) builtinsNs) { s with heap:=h' }):
  wpAny M A (newFunctionEnv scope globals cl [] qual none .none (some env)) Q E s:=by
 simp only[newFunctionEnv,Option.isSome_some,t9];refine z6 (wpAny_alloc ?_);refine z6 (wpAny_layCells _ (λname kind cells=>by cases hkc:kind==NameKind.cell <;> simp[hkc]) _ _ _ _ ?_);have ok:=cellsFrom_ok scope.names (s.heap.push { cls:=.type "dict",data:=.dict #[] }) (s.heap.objs.size+1) [] ⟨λ_ _ hm=>(nomatch hm),List.Pairwise.nil⟩ (by rw[p6];exact yo _);rw[p6,hc]at ok;rw[show({ s with heap:=s.heap.push { cls:=.type "dict",data:=.dict #[] } }:Shared).heap.objs.size=s.heap.objs.size+1 from p6 ..,hc];rw[b7];refine z6 (z9 (z9 ?_));exact hQ _ ((Heap.Ns.new s.heap (.type "dict")).keeps (pushCells_keeps _ _)) (ok.empty x _ (l9.2 rfl)).1 λb o e=>pushCells_keeps _ _ b o (w8 _ e)
def xv{h₁:Heap}{tk:Nat}(ok:CompOkD X scope x N' ix)(hcalm:X.calm=true)(I:Inv X pins σ H s)(hf:∀b∈fp,kE X pins H b)(hfl:∀b∈fp,b<s.heap.objs.size)(hC:s.heap.objs.size<=C)(hn:h₁.Ns C m)(hcc:h₁.IsCell (C+1) none)(old:∀b o,s.heap.get? b=some o->h₁.get? b=some o)(un:Un (frs X.stack) fp H H' s.heap h₁)(hok:HOk X.prog X.w H' h₁)(hfC:H' C=none)(hfC1:H' (C+1)=none)(hfc:∀c:Addr,c<s.heap.objs.size->H c=none->H' c=none):
  Inv (cz X N' x scope C s H fp) [] (cO 1 ix σ) H' { s with heap:=h₁,toks:=tk }:=by
 have clx:∀y c,(kF X.env scope.names []).lookup y=some c->X.env.cells.lookup y=some c:=kL scope.names [] (λy c h=>by simp at h);have cl:∀y c,((x,C+1)::kF X.env scope.names []).lookup y=some c->(y=x/\c=C+1)\/(y≠x/\X.env.cells.lookup y=some c):=λy c h=>by
  rw[oH]at h;split at h;·rename_i q;cases h;exact .inl ⟨d9 q,rfl⟩
  ·rename_i q;exact .inr ⟨λz=>by rw[z]at q;simp at q,clx y c h⟩
 have old_lt:∀y c,X.env.cells.lookup y=some c->c<s.heap.objs.size:=λy c h=>by obtain⟨v,q⟩:=I.cell y c h;exact q.lt
 have nlt:N'.length=1+ix.length:=by have h1:=n0 List.length ok.tl;rw[d8,za]at h1;have:=(sT.1 ok.hd).1;omega
 refine⟨⟨I.ok.mod,by show(relabel scope X.env).kind=_;exact ok.kind,I.ok.glob,I.ok.blt,hC,?_,?_,?_,I.ok.hd,I.ok.frames,.inl rfl,?_,I.bs,w9 I.ok.bsz I.sz,?_,?_,I.stack,I.stkFree,I.ok.tabs.un I.base⟩,rfl,I.bare,un,?_,?_,hfC,?_,?_,hok,?_⟩
 ·intro y z c h1 h2;rcases cl y c h1 with⟨a,b⟩|⟨a,b⟩
  ·rcases cl z c h2 with⟨a',b'⟩|⟨a',b'⟩;·rw[a,a']
   ·have:=old_lt z c b';rw[b]at this;exact absurd this (o9.2 (Zd hC))
  ·rcases cl z c h2 with⟨a',b'⟩|⟨a',b'⟩;·have:=old_lt y c b;rw[b']at this;exact absurd this (o9.2 (Zd hC))
   ·exact I.ok.inj y z c b b'
 ·intro y hy;by_cases yx:y=x;·subst yx;exact⟨C+1,by show List.lookup y ((y,C+1)::_)=_;rw[oH];simp⟩
  have h1:(y,NameKind.free)∈scope.names:=by
   have hy':(relabel scope X.env).names.lookup y=some .cell\/(relabel scope X.env).names.lookup y=some .free:=hy;have mem:∀k,(relabel scope X.env).names.lookup y=some k->(k=.cell\/k=.free)->(y,NameKind.free)∈scope.names:=λk e hk=>by
    have hm:=k8 e;obtain⟨⟨n,k'⟩,hm1,hm2⟩:=v7.mp hm;dsimp only at hm2;split at hm2
    ·rename_i hc;cases hm2;have:k'=.free:=by have:=(o7 _ _▸(o7 _ _▸hc).1).1;simpa using this
     rw[<- this];exact hm1
    ·cases hm2;rcases hk with rfl|rfl;·exact absurd (ok.cel _ hm1 rfl) yx
     ·exact hm1
   rcases hy' with h|h;·exact mem _ h (.inl rfl)
   ·exact mem _ h (.inr rfl)
  have hc:=I.ok.has y (.inl (ok.fr _ h1 rfl));obtain⟨c,hc⟩:=iz scope.names [] y (.inr ⟨h1,hc⟩);refine⟨c,?_⟩;show List.lookup y ((x,C+1)::kF X.env scope.names [])=_;rw[oH,show(y==x)=false from i4.2 yx];exact hc
 ·intro y c hfn h;rcases cl y c h with⟨a,b⟩|⟨a,b⟩;·rw[b];exact Zd hC
  ·exact absurd (d9 hfn) a
 ·intro b hb;obtain⟨f0,f1,f2,f3,f4,f5⟩:=hf b hb;refine⟨λz=>absurd (hfl b hb) (by rw[z];exact o9.mpr hC),λy c h z=>?_⟩;rcases cl y c h with⟨a,e⟩|⟨a,e⟩
  ·rw[e]at z;exact absurd (hfl b hb) (by rw[<- z];exact o9.mpr (Zd hC))
  ·exact f4 y c e z
 ·intro b o e hb;obtain⟨f0,f1,f2,f3,f4,f5⟩:=hf b hb;rcases f3 with f3|f3;·exact I.ok.noex b o e f3
  ·exact absurd (xz (I.ok.bs b o e).1) (o9.mpr f3)
 ·intro b hb hb';obtain⟨f0,f1,f2,f3,f4,f5⟩:=hf b hb;rcases v0.mp (I.stkSub b hb')with e|e;·exact f1 e
  ·exact f2 e
 ·refine⟨m,hn,λi y v h1 h2 h3=>?_⟩;have h1:N'[i]?=some y:=h1;have h2:(cO 1 ix σ)[i]?=some (some v):=h2;by_cases hi:i<1;·unfold cO at h2;rw[i8 (by simpa using hi),i7,if_pos hi]at h2;cases h2
  ·unfold cO at h2;rw[i6 (by simpa using o9.1 hi),o5,v8]at h2;cases e:ix[i - 1]? with
   |none=>rw[e]at h2;cases h2
   |some i0=>
    rw[e]at h2;have h2':σ[i0]?=some (some v):=by
     cases q:σ[i0]? with
     |none=>rw[p9,q]at h2;cases h2
     |some z=>rw[p9,q]at h2;have:=uV h2;rw[<- this];rfl
    have ht:(N'.drop 1)[i - 1]?=some y:=by rw[ZW,Nat.add_sub_cancel' (o9.1 hi)];exact h1
    have hy:X.N[i0]?=some y:=by have ht2:=ht;rw[ok.tl,v8,e]at ht2;have hl:=ok.lt i0 (mW e);have q:=uV ht2;rw[xw hl];rw[<- q];show some X.N[i0]=some (X.N.getD i0 Str.empty);rw[xZ,xw hl];rfl
    obtain⟨fr1,fr2⟩:=ok.fre y (mW ht);have kc:=ok.fr _ fr2 rfl;obtain⟨m0,hn0,hl⟩:=I.loc;obtain⟨u,ru,lk⟩:=hl i0 y v hy h2' (.inr (.inl kc));refine⟨u,ru,.inr ⟨.inl (ig I.ok.kind fr1 kc),?_⟩⟩;rcases lk with⟨z,_⟩|⟨_,c,hc,hcell⟩;·rw[kc]at z;cases z
    ·obtain⟨c',hc'⟩:=iz scope.names [] y (.inr ⟨fr2,c,hc⟩);have:=clx y c' hc';rw[hc]at this;cases this;refine⟨c,?_,hcell.keeps old⟩;show List.lookup y ((x,C+1)::kF X.env scope.names [])=_;rw[oH,show(y==x)=false from i4.2 (ok.nx y (mW ht))];exact hc'
 ·intro y c h;rcases cl y c h with⟨a,e⟩|⟨a,e⟩;·rw[e];exact⟨none,hcc⟩
  ·obtain⟨v,q⟩:=I.cell y c e;exact⟨v,q.keeps old⟩
 ·intro y c h;rcases cl y c h with⟨a,e⟩|⟨a,e⟩;·rw[e];exact hfC1
  ·obtain⟨v,q⟩:=I.cell y c e;exact hfc c q.lt (I.freeC y c e)
 ·intro p hp;exact absurd (show p∈([]:List (Addr×Obj)) from hp) (by simp)
 ·show(cO 1 ix σ).length=N'.length;rw[nlt];simp[cO];omega
def sw{tn : Nat -> Heap -> Prop}{J : It}{Q : VK}{RR : Value -> Addr -> Result -> Shared -> Prop}{E : Value -> Shared -> Prop}(ok : CompOkD X scope x N' ix)(hcalm : X.calm = true)(he : ∀C s₂ H₂ fp, PF (cz X N' x scope C s₂ H₂ fp) elt ge)(ht : ∀C s₂ H₂ fp, PTs (cz X N' x scope C s₂ H₂ fp) ifs gt)(I : Inv X pins σ H s)(T : Turn X.prog X.w X.K (.Name x px) J fp it tn)(st0 : tn 0 s.heap)(hf : ∀b ∈ fp, kE X pins H b)(st : StE X.K G H σ ρ)(hi : ItOk X.K G J items)(h : (cM (iT 0) gt ge items (ce 1 ix ρ) >>= λds => if ds.length <= sizeLine then R.ok ds else .no).post (mw X.K G H Q) (Exx X σ G H))(hR : ∀(Dd C : Addr)(s' : Shared)(m : Str -> Option Value)(vs : List V)(G' H' : Hp), Up G H G' H' -> H' Dd = none -> C≠Dd -> (∀ds, Reps X.K G' vs ds -> True) -> Q (.ref Dd) (upd H' Dd (.lst vs)) -> s'.heap.Ns C m -> s'.os = s.os -> AllBare s'.gens -> H' C = none -> s.heap.objs.size <= C ->
 Un (frs X.stack) fp H (upd H' Dd (.lst vs)) s.heap s'.heap -> HOk X.prog X.w (upd H' Dd (.lst vs)) s'.heap -> RR (.ref Dd) C (.ok .next) s'):
    wpAny (model X.prog X.w) X.A (newList []) (λacc s₃ => wpAny (model X.prog X.w) X.A (newFunctionEnv scope X.env.globals (kF X.env scope.names []) [] X.env.qual none .none (some X.env)) (λcenv s₄ =>codeAny (model X.prog X.w) X.A (.compStart (.ListComp elt [⟨.Name x px, iter, ifs, 0⟩] scope pos) 0 (.ref it) acc { cenv with scope := relabel scope X.env }) (RR acc cenv.locals) s₄) E s₃) E s := by
  have hown : ∀d ρ ρ', iT 0 d ρ = .ok ρ' -> NoOwn ρ -> NoOwn ρ' := kG;have lkx := ok.lkx;have hg : ∀C s₂ H₂ fp, PGF (cz X N' x scope C s₂ H₂ fp) (.Name x px) (iT 0) := λC s₂ H₂ fp => eP (X := cz X N' x scope C s₂ H₂ fp) (pos := px) 0 ok.nd ok.hd (.inr lkx) (.inl (by show(x == x) = true; simp));have hfl : ∀b ∈ fp, b < s.heap.objs.size := λb hb => let⟨o, e, _⟩ := T.obj 0 s.heap st0 b hb; xz e;refine mz (Cc ok.cells λh₁ hns₁ hcc₁ old₁ => ?_);dsimp only at hns₁ hcc₁ old₁⊢;generalize hH2 : s.heap.push { cls := .type "list", dict := none, data := .seq ([] : List Value).toArray } = Hq at hns₁ hcc₁ old₁⊢;have hC : Hq.objs.size = s.heap.objs.size + 1 := by rw[<- hH2, p6]
  have hDC : s.heap.objs.size≠Hq.objs.size := by rw[hC]; exact t5 (c8 _)
  have hCle : s.heap.objs.size <= Hq.objs.size := by rw[hC]; exact Z6 _
  have old : ∀b o, s.heap.get? b = some o -> h₁.get? b = some o := λb o e => old₁ b o (hH2▸w8 _ e);have hacc : h₁.get? s.heap.objs.size = some { cls := .type "list", data := .seq ([] : List Value).toArray } := old₁ _ _ (hH2▸t8 _ rfl);have hD0 : H s.heap.objs.size = none := I.fresh;have hC0 : H Hq.objs.size = none := I.hok.fresh hCle;have hC1 : H (Hq.objs.size + 1) = none := I.hok.fresh (Zd hCle);have st0' : tn 0 h₁ := T.keep 0 _ _ st0 λb hb o e => old b o e;have I0 : ∀tk, Inv (cz X N' x scope Hq.objs.size s H fp) [] (cO 1 ix σ) (upd H s.heap.objs.size (.lst [])) { s with heap := h₁, toks := tk } := λtk =>
    xv ok hcalm I hf hfl hCle hns₁ hcc₁ old (Un.laid old (yo _) hD0) (I.hok.laid old (yo _) ⟨oR _, [], 0, .nil, hacc⟩) (by rw[aQ hDC.symm]; exact hC0) (by rw[aQ (by rw[hC]; exact lB (Zt (c8 _)))]; exact hC1) (λc hc n => by rw[aQ (t5 hc)]; exact n);have loop : ∀tk, codeAny (model X.prog X.w) X.A (.compLoop (.ListComp elt [⟨.Name x px, iter, ifs, 0⟩] scope pos) 0 (.ref it) (.ref s.heap.objs.size) (compEnvC scope ((x, Hq.objs.size + 1) :: kF X.env scope.names []) Hq.objs.size X.env))
      (RR (.ref s.heap.objs.size) Hq.objs.size) { s with heap := h₁, toks := tk } := λtk => by
    have fpk : ∀{pins' : List (Addr × Obj)}{σ' : St}{H' : Hp}{s' : Shared}, Inv (cz X N' x scope Hq.objs.size s H fp) pins' σ' H' s' -> pins' = [] -> (∀b ∈ fp, H' b = none) -> ∀b ∈ fp, kE (cz X N' x scope Hq.objs.size s H fp) pins' H' b := λI' e hn b hb =>⟨hn b hb, (I'.ok.exf b hb).1, I'.ok.exfs b hb, .inl hb, (I'.ok.exf b hb).2, by subst e; intro p hp; exact absurd (show p ∈ ([] : List (Addr × Obj)) from hp) (by simp)⟩
    refine nr (λnn s' => ∃(i : Nat)(σ' : St)(G' H' : Hp)(ρ' : Ev)(vs : List V)(ys : List D), nn = items.length - i /\ i <= items.length /\ Inv (cz X N' x scope Hq.objs.size s H fp) [] σ' H' s' /\ tn i s'.heap /\ (∀b ∈ fp, H' b = none) /\
      H' s.heap.objs.size = some (.lst vs) /\ G' s.heap.objs.size = none /\ Up G H G' H' /\ StE X.K G' H' σ' ρ' /\ (NoOwn ρ') /\ Reps X.K G' vs ys /\
      (cM (iT 0) gt ge (items.drop i) ρ' >>= λzs => if (ys ++ zs).length <= sizeLine then R.ok (ys ++ zs)else .no).post (mw X.K G H Q) (Exx X σ G H)) ?_ items.length
      ⟨0, cO 1 ix σ, G, upd H s.heap.objs.size (.lst []), ce 1 ix ρ, [], [], by simp, oR _, I0 tk, st0', λb hb => by rw[aQ (t5 (hfl b hb))]; exact(hf b hb).1, ba, st.sub.free hD0,
        ⟨λa o e => by rw[aQ (aL e (st.sub.free hD0))]; exact st.sub a o e, .refl _, .into hD0, λ_ _ e => .inl e⟩,
        ⟨λa o e => by rw[aQ (aL e (st.sub.free hD0))]; exact st.sub a o e, (jv st 1 ix).len, (jv st 1 ix).val, λj m C p fs h => absurd h (NoOwn.obj fW j m C p fs)⟩, fW, .nil, by simpa using h⟩;rintro nn s' ⟨i, σ', G', H', ρ', vs, ys, rfl, hil, I', tn', fr', hD', gD', up', st', no', rp', h'⟩;have hIt := hi i G' H' up'.gg st'.sub;by_cases hlt : i < items.length
    ·
      have hd : items.drop i = items[i] :: items.drop (i + 1) := Zu hlt;rw[hd]at h';obtain⟨go, yl⟩ := hIt.1 items[i] (by simp[hlt]);refine t7 (T.item (cz X N' x scope Hq.objs.size s H fp) rfl rfl rfl hcalm i [] s' σ' H' (λ_ _ => False) I' (fpk I' rfl fr') tn' go) (λr s1 ⟨u, hr, h1⟩ => ?_) λ_ _ z => z;subst hr;refine t7 h1 (λ_ s2 ⟨x2, H2, I2, r2, y2, tn2, fr2⟩ => ?_) λ_ _ z => z;obtain⟨G2, up2, rep2⟩ := yl x2 H2 y2;have I2p := I2.pinned (fpk I2 rfl fr2) (T.obj _ _ tn2);have st2 : StE X.K G2 H2 σ' ρ' := st'.up up2;have sr2 : StR X.K G2 H2 G2 H2 σ' ρ' := ⟨st2, up2.sub, .refl up2.sub, λj ds e => absurd e (no'.own j ds), λj k ds es l e => absurd e (no'.own j ds), no'.ob⟩
      have ea : ∃ρ1, iT 0 items[i] ρ' = .ok ρ1 := by
        unfold cM at h';cases q : iT 0 items[i] ρ' with
        |ok k => exact⟨k, rfl⟩
        |_ => rw[q]at h'; exact h'.elim
      obtain⟨ρ1, ea⟩ := ea;unfold cM at h';rw[ea]at h';simp only[gR, R.ok_bind]at h';refine t7 (hg Hq.objs.size s H fp _ s2 σ' H2 x2 u (λσ3 H3 => H3 = H2 /\ StR X.K G2 H2 G2 H2 σ3 ρ1) I2p r2
        ⟨G2, H2, G2, ρ', items[i], _, sr2, rep2, ea, λσ3 q => ⟨rfl, q⟩⟩) (λ_ s3 ⟨σ3, H3, I3, e3, sr3⟩ => ?_) λ_ _ z => z;subst e3;have no3 := hown _ _ _ ea no';have hD2 : H3 s.heap.objs.size = some (.lst vs) := up2.hh _ _ hD';have gD2 : G2 s.heap.objs.size = none := by
        cases q : G2 s.heap.objs.size with
        |none => rfl
        |some o =>
          rcases up2.fr _ _ q with z|z;· rw[gD']at z; cases z
          · rw[hD']at z; cases z
      have ek : ∃k, gt ρ1 = .ok k := by
        cases q : gt ρ1 with
        |ok k => exact⟨k, rfl⟩
        |_ => rw[q]at h'; exact h'.elim
      obtain⟨k, ek⟩ := ek;rw[ek]at h';simp only[gR, R.ok_bind]at h';refine t7 (ht Hq.objs.size s H fp _ s3 σ3 H3 (λb H4 => b = k /\ ∃G4, Up G2 H3 G4 H4) I3 ⟨G2, _, sr3.e, by rw[ek]; exact λb G4 H4 u4 e4 => ⟨e4, G4, u4⟩⟩) (λb s4 ⟨H4, I4, eb, G4, up4⟩ => ?_) λ_ _ z => z;subst eb;have next : ∀{H7 : Hp}{s7 : Shared}{G7 : Hp}{vs7 : List V}{ys7 : List D}, Inv (cz X N' x scope Hq.objs.size s H fp) ([] ++ nA fp s2.heap) σ3 H7 s7 -> H7 s.heap.objs.size = some (.lst vs7) -> G7 s.heap.objs.size = none -> Up G H G7 H7 -> StE X.K G7 H7 σ3 ρ1 -> Reps X.K G7 vs7 ys7 ->
          (cM (iT 0) gt ge (items.drop (i + 1)) ρ1 >>= λzs => if (ys7 ++ zs).length <= sizeLine then R.ok (ys7 ++ zs)else .no).post (mw X.K G H Q) (Exx X σ G H) ->
          ∃m, m < items.length - i /\ ∃(i : Nat)(σ' : St)(G' H' : Hp)(ρ' : Ev)(vs : List V)(ys : List D), m = items.length - i /\ i <= items.length /\ Inv (cz X N' x scope Hq.objs.size s H fp) [] σ' H' s7 /\ tn i s7.heap /\ (∀b ∈ fp, H' b = none) /\
            H' s.heap.objs.size = some (.lst vs) /\ G' s.heap.objs.size = none /\ Up G H G' H' /\ StE X.K G' H' σ' ρ' /\ (NoOwn ρ') /\ Reps X.K G' vs ys /\
            (cM (iT 0) gt ge (items.drop i) ρ' >>= λzs => if (ys ++ zs).length <= sizeLine then R.ok (ys ++ zs)else .no).post (mw X.K G H Q) (Exx X σ G H) := λ{H7 s7 G7 vs7 ys7} I7 hD7 gD7 up7 st7 rp7 h7 => by
        have pin : ∀b ∈ fp, ∀o, s2.heap.get? b = some o -> s7.heap.get? b = some o /\ H7 b = none := λb hb o e => by have := I7.pin (b, o) (lE _ (lE _ (iG hb e)));exact⟨this.1, this.2.1⟩
        refine⟨items.length - (i + 1), by omega, i + 1, σ3, G7, H7, _, vs7, ys7, rfl, hlt, I7.unpinned, T.keep _ _ _ tn2 λb hb o e => (pin b hb o e).1, λb hb => ?_, hD7, gD7, up7, st7, no3, rp7, h7⟩;obtain⟨o, e, _⟩ := T.obj _ _ tn2 b hb;exact(pin b hb o e).2
      have hD4 : H4 s.heap.objs.size = some (.lst vs) := up4.hh _ _ hD2;have gD4 : G4 s.heap.objs.size = none := by
        cases q : G4 s.heap.objs.size with
        |none => rfl
        |some o =>
          rcases up4.fr _ _ q with z|z;· rw[gD2]at z; cases z
          · rw[hD2]at z; cases z
      cases b with
      |false =>simp only[c7, qd]at h'⊢;exact next I4 hD4 gD4 ((up'.trans up2).trans up4) (sr3.e.up up4) ((rp'.mono up2.gg).mono up4.gg) h'
      |true =>
        simp only[t9]at h'⊢;have ex : ∃y, ge ρ1 = .ok y := by
          cases q : ge ρ1 with
          |ok y => exact⟨y, rfl⟩
          |_ => rw[q]at h'; exact h'.elim
        obtain⟨y, ey⟩ := ex;rw[ey]at h';simp only[gR, R.ok_bind]at h';refine t7 (he Hq.objs.size s H fp _ s4 σ3 H4 (λv H5 => ∃G5, Up G4 H4 G5 H5 /\ Rep X.K G5 v y) I4 ⟨G4, _, sr3.e.up up4, by rw[ey]; exact λv G5 H5 u5 r5 => ⟨G5, u5, r5⟩⟩) (λu5 s5 ⟨v5, H5, I5, r5, G5, up5, rep5⟩ => ?_) λ_ _ z => z;have hD5 : H5 s.heap.objs.size = some (.lst vs) := up5.hh _ _ hD4;have gD5 : G5 s.heap.objs.size = none := by
          cases q : G5 s.heap.objs.size with
          |none => rfl
          |some o =>
            rcases up5.fr _ _ q with z|z;· rw[gD4]at z; cases z
            · rw[hD4]at z; cases z
        have ups := ((up'.trans up2).trans up4).trans up5;rcases iB (asg := iT 0) (gt := gt) (ge := ge) (items.drop (i + 1)) ρ1 with⟨zs, ez⟩|ez
        · rw[ez]at h';simp only[R.ok_bind]at h';have hz : (ys ++ y :: zs).length <= sizeLine := by
            by_cases hz : (ys ++ y :: zs).length <= sizeLine;· exact hz
            · rw[if_neg hz]at h'; exact h'.elim
          have hvl : vs.length < sizeLine := by rw[rp'.length];rw[rR, r6]at hz;omega
          refine t7 (lX (X := cz X N' x scope Hq.objs.size s H fp) _ s5 σ3 H5 (.ref s.heap.objs.size) [v5] (.ref s.heap.objs.size) [u5] (λ_ H6 => H6 = upd H5 s.heap.objs.size (.lst (vs ++ [v5]))) I5 rfl (.cons r5 .nil)
            ⟨_, vs, v5, rfl, rfl, hD5, hvl, rfl⟩) (λ_ s6 ⟨_, H6, I6, _, e6⟩ => ?_) λ_ _ z => z;subst e6;have sub6 : Same G5 (upd H5 s.heap.objs.size (.lst (vs ++ [v5]))) := λa o e => by rw[aQ (aL e gD5)]; exact up5.sub a o e
          refine next I6 ba gD5 ⟨sub6, ups.gg, λa o e => ?_, ups.fr⟩ ?_ (ys7 := ys ++ [y]) ((((rp'.mono up2.gg).mono up4.gg).mono up5.gg).append (.cons rep5 .nil)) ?_
          · rw[aQ (aL e hD0)]; exact ups.hh a o e
          · exact⟨sub6, ((sr3.e.up up4).up up5).len, ((sr3.e.up up4).up up5).val, λj m C p fs h => absurd h (no3.obj j m C p fs)⟩
          · rw[ez];simp only[R.ok_bind, io, List.singleton_append];exact h'
        · rw[ez]at h'; exact h'.elim
    ·
      have hie : i = items.length := by omega
      subst hie;rw[Zv]at h';unfold cM at h';simp only[R.ok_bind, mP]at h';refine t7 (T.done (cz X N' x scope Hq.objs.size s H fp) rfl rfl rfl hcalm items.length [] s' σ' H' (λ_ _ => False) I' (fpk I' rfl fr') tn' (hIt.2 (yo _))) (λr s1 ⟨hr, I1⟩ => ?_) λ_ _ z => z;subst hr;have hz : ys.length <= sizeLine := by
        by_cases hz : ys.length <= sizeLine;· exact hz
        · rw[if_neg hz]at h'; exact h'.elim
      rw[if_pos hz]at h';have eH : upd (λa => if a = s.heap.objs.size then none else H' a) s.heap.objs.size (.lst vs) = H' := by
        funext a
        unfold upd;by_cases e : a = s.heap.objs.size;· subst e; rw[if_pos rfl]; exact hD'.symm
        · rw[if_neg e];show(if a = s.heap.objs.size then none else H' a) = _;rw[if_neg e]
      have hn : (λa => if a = s.heap.objs.size then none else H' a) s.heap.objs.size = none := by simp
      have upn : Up G H G' (λa => if a = s.heap.objs.size then none else H' a) := by
        refine⟨λa o e => ?_, up'.gg, λa o e => ?_, up'.fr⟩;· have : a≠s.heap.objs.size := aL e gD';simp only[this, qd]; exact up'.sub a o e
        · have : a≠s.heap.objs.size := aL e hD0;simp only[this, qd]; exact up'.hh a o e
      obtain⟨m1, hm1, _⟩ := I1.loc;refine hR s.heap.objs.size Hq.objs.size s1 m1 vs G' _ upn hn hDC.symm (λ_ _ => trivial) (h' _ vs G' _ upn hn rp') hm1 I1.os I1.bare ?_ hCle (by rw[eH]; exact I1.base) (by rw[eH]; exact I1.hok);have := I1.free;show(if Hq.objs.size = s.heap.objs.size then none else H' Hq.objs.size) = none;rw[if_neg hDC.symm]; exact this
  exact codeAny_compStart_list (loop _) (T.self X.A 0 _ _ _ st0' (loop _))

def zF(i:Nat){py:Pos}(hN:X.N.Nodup)(ok:CompOkD X scope x N' ix)(hcalm:X.calm=true)(hi:PIF X (.Name x px) iter gi)(he:∀C s₂ H₂ fp,PF (cz X N' x scope C s₂ H₂ fp) elt ge)(ht:∀C s₂ H₂ fp,PTs (cz X N' x scope C s₂ H₂ fp) ifs gt)(hni:X.N[i]?=some y:=by rfl)(hy:X.env.scope.names.lookup y=some .local:=by rfl)(hs:∀x,foldedSetIterable iter X.env x=pure x:=by intro _;rfl)(hsw:swapsWith (.ListComp elt [⟨.Name x px,iter,ifs,0⟩] scope pos) (some (.Name y py)) spos.line X.env=pure true:=by rfl):
  PSF X (.Assign [.Name y py] (.ListComp elt [⟨.Name x px,iter,ifs,0⟩] scope pos) spos) (vx i (cC gi ix gt ge)):=λG₀ H₀ pins s σ H D I h=>by
 obtain⟨G,ρ,sr,h⟩:=h;have h:pV X G₀ H₀ D ((dX 1 (iT 0) gi ix gt ge ρ).out ρ λds=>.nx (ρ.set i (some (.own ds)))):=h;have sE:=sr.e;have hq:(dX 1 (iT 0) gi ix gt ge ρ).post (mw X.K G H λv H1=>D.nx (σ.set i (some v)) H1) (Exx X σ G H):=by
  cases q:dX 1 (iT 0) gi ix gt ge ρ with
  |ok ds=>rw[q]at h;exact λl vs G' H' u hl r=>h _ G' _ ((sr.ups u).setOwn hl r i)
  |ex C=>rw[q]at h;exact Exx.of sr h
  |no=>rw[q]at h;exact h
 rw[exec_Assign_Name_used _ _ _ _ hsw];refine z6 (Zs (z6 ?_));show wpAny _ X.A (do let _ <- comprehension (.ListComp elt [⟨.Name x px,iter,ifs,0⟩] scope pos) scope X.env _ (newList []) false (eval iter X.env) (some (assign (.Name y py) X.env))) _ _ s;refine z6 (t7 (Zx (use:=some (assign (.Name y py) X.env)) (Q:=λ_ s'=>SP X pins D .next s') rfl hs (dD λz hz hz2=>I.ok.has z.1 (.inl (ok.fr z hz hz2))) ok.kind ok.names ?_) (λ_ s' hq=>z9 (z9 hq)) λ_ _ e=>e);have t:tG X (λG J items=>ItOk X.K G J items) gi σ H (λJ H1=>∃G1 items,Up G H G1 H1/\StE X.K G1 H1 σ ρ/\ItOk X.K G1 J items/\(cM (iT 0) gt ge items (ce 1 ix ρ)>>=λds=>if ds.length<=sizeLine then R.ok ds else .no).post (mw X.K G H λv H1=>D.nx (σ.set i (some v)) H1) (Exx X σ G H)):=by
  refine⟨G,ρ,sE,?_⟩;unfold dX at hq;cases e:gi ρ with
  |ok items=>rw[e]at hq;exact λJ G1 H1 u r=>⟨G1,items,u,sE.up u,r,hq⟩
  |ex C=>rw[e]at hq;exact hq
  |no=>rw[e]at hq;exact hq
 refine thn (hi pins s σ H _ I t) λv s1 h1=>thn h1 λitv s2 h2=>?_;obtain⟨it,fp,tn,J,H2,e,I2,T,st2,f2,G2,items,u2,sE2,iok,h2⟩:=h2;subst e;have h2':(cM (iT 0) gt ge items (ce 1 ix ρ)>>=λds=>if ds.length<=sizeLine then R.ok ds else .no).post (mw X.K G2 H2 λv H1=>D.nx (σ.set i (some v)) H1) (Exx X σ G2 H2):=
  h2.mono (λds q l vs G' H' u hl r=>q l vs G' H' (u2.trans u) hl r) λC q=>q.up u2;refine sw (iter:=iter) (pos:=pos) (RR:=λacc C=>compPost (model X.prog X.w) X.A X.xe (some (assign (.Name y py) X.env)) (λ_ s'=>SP X pins D .next s') acc C) ok hcalm he ht I2 T st2 f2 sE2 iok h2' ?_;intro Dd C s' m vs G' H' up hd hCD _ q hm hos hb hC hCl un hok;have I3:Inv X pins σ (upd H' Dd (.lst vs)) s':=I2.call' (ch:=fp) hos un hok hb λb hb'=>by
  obtain⟨f0,f1,f2',f3,f4,f5⟩:=f2 b hb';exact⟨f3,f1,f4,f5⟩
 have lc:X.env.locals≠C:=t5 (sI I2.lt hCl);have cc:∀z c,X.env.cells.lookup z=some c->c≠C:=λz c e=>by obtain⟨v,q⟩:=I2.cell z c e;exact t5 (sI q.lt hCl)
 show wpAny (model X.prog X.w) X.A (assign (.Name y py) X.env (.ref Dd)) _ X.xe s';refine ZS (gZ I3 hN hni (.inl hy) (v:=.ref Dd) rfl (λs'' I4 ⟨a,hsb,ha⟩=>?_) (.inr hy));have na:C≠a:=by
  rcases ha with rfl|ha;·exact lc.symm
  ·exact(cc _ _ ha).symm
 refine⟨m,hm.sameBut hsb na,λh' hs'=>?_⟩;have I5:=I4.call' (s':={ s'' with heap:=h' }) (H':=upd H' Dd (.lst vs)) (ch:=[C]) rfl (Un.but hs') (I4.hok.sameBut (λb o hbc e=>(hs'.2 b hbc).trans e) (by rw[aQ hCD];exact hC)) I4.bare λb hb'=>by rw[l9.1 hb'];exact⟨.inr (w9 I2.sz hCl),lc.symm,cc,λp hp z=>mK _ (sI (z▸xz (I2.pin p hp).1) hCl)⟩
 exact⟨_,_,I5,q⟩
def zT(h1:scope.kind=.function:=by rfl)(h2:(∀y∈scope.names,y.2=.local->scope.names.lookup y.1=some .local)/\(∀y∈scope.names,y.2=.cell->y.1=x)/\(∀y∈scope.names,y.2=.free->y.1∈N'.drop 1)/\N'.Nodup/\N'[0]?=some x/\(∀y∈N'.drop 1,scope.names.lookup y=some .free/\(y,NameKind.free)∈scope.names)/\∀y∈N'.drop 1,y≠x:=by decide +kernel)(h3:∀L cs,cellsFrom L scope.names cs=(x,L)::cs:=by intro _ _;rfl)(h4:(relabel scope X.env).names.lookup x=some .cell:=by rfl)(h5:(N'.drop 1).map X.env.kindOf=(N'.drop 1).map λ_=>some NameKind.cell:=by rfl)(h6:N'.drop 1=ix.map (λ(i:Nat)=>X.N.getD i Str.empty):=by rfl)(h7:ix.all (λi=>decide (i<X.N.length))=true:=by rfl):CompOkD X scope x N' ix:=by
 obtain⟨a,b,c,d,e,f,g⟩:=h2;refine⟨h1,a,h3,h4,b,λy hy hf=>?_,d,e,h6,λi hi=>by simpa using v6.1 h7 i hi,f,g⟩;have:=ZB.1 h5 y.1 (c y hy hf);exact this
def Bp{N:List Str}{z:Str}{s₂:Shared}{H₂:Hp}(h:At N i y)(hv:Vis (cz X N z scope C s₂ H₂ fp).env.scope y:=by first|exact Or.inl rfl|exact Or.inr (Or.inl rfl)|exact Or.inr (Or.inr rfl))(hd:(y==("__debug__":Str))=false:=by decide)(hcd:(y==("__classdict__":Str))=false:=by decide):PF (cz X N z scope C s₂ H₂ fp) (.Name y p) (λρ=>rdV ρ i):=nq i h hv hd hcd
end
noncomputable def va(a b:D):Option D:=match inTF a b with
 |some (.bl k)=>some (.bl !k)
 |_=>none
section
variable{a b:Expr}{ga:Ev->R D}{pos:Pos}
noncomputable def Ea(K:PySem.W.Frag):R2:=λx y H Q=>∃(G:Hp)(dx:D)(ls:List (List Nat)),Same G H/\Rep K G x dx/\Rep K G y (.tup (ls.map .str))/\(∀l∈ls,(eqD 40 (.str l) dx).isSome=true)/\Q (.bl (!ls.any (qt dx))) H
def CK(hu:X.A.units+64<cLine):OpR X (compareOp .NotIn) (Ea X.K):=by
 intro pins s σ H x y v u Q I rx ry h;obtain⟨G,dx,ls,sub,r1,r2,he,q⟩:=h;obtain⟨c,its,vs,rfl,p,w,r⟩:=jz I sub r2 ry;obtain⟨h1,h2⟩:=oq dx r w;refine SeqAt.notIn_tupleAt (eV dx) p (λz hz=>?_) ?_
 ·obtain⟨z',t',l,rfl,m,ez,rr⟩:=h2 z (Y3.1 hz);have e1:eqD 40 (.str l) dx=some (qt dx l):=by
   have:=he l m;unfold qt;cases q2:eqD 40 (.str l) dx with
   |none=>rw[q2]at this;cases this
   |some k=>rfl
  have e2:eV dx (.str z' t')=qt dx l:=by show qt dx z'.cps.toList=_;rw[ez]
  rw[e2];exact(om I sub 40 X.A.in1 (.str l) dx _ (.str z') x (.str z' t') v (by show X.A.units+1+40<cLine;omega) e1 rr r1 ⟨t',rfl⟩ rx).eq
 ·have e:(List.toArray its).any (eV dx)=ls.any (qt dx):=by rw[<- h1];simp
  rw[e];exact⟨.bl _,H,I,rfl,q⟩
def Di(K:PySem.W.Frag):ROk K (Ea K) va:=by
 intro G H x y dx dy d Q s rx ry e q;unfold va at e;split at e
 ·rename_i k e2;cases e;unfold inTF at e2;split at e2
  ·split at e2
   ·rename_i ls hs;split at e2;·rename_i hl;cases e2;have:=mq hs;subst this;exact⟨G,_,ls,s,rx,ry,v6.1 hl,q _ G H (.refl s) (.bl _)⟩
    ·cases e2
   ·cases e2
  ·cases e2
 ·cases e
def Cu(hu:X.A.units+64<cLine)(ha:PF X a ga)(hb:PF X b gb)(hm:behindInMarks .NotIn b=false:=by rfl):PB X (.Compare a [.NotIn] [b] pos) (gB2 va ga gb):=ko (CK hu) (Di _) ha hb hm
end
noncomputable def ua:List D->Option D
 | [.str x]=>if x.length<=1000 then some (.lst false (x.map λc=>.str [c]))else none
 |_=>none
section
theorem ni:∀(l:List Nat)(its:List Value),its.length=l.length->(∀(j:Nat)(v:Value),its[j]?=some v->∃c u,l[j]?=some c/\v=.str ⟨#[c]⟩ u)->Vals (l.map λc=>V.str ⟨#[c]⟩) its
 | [],[],_,_=>.nil
 |c::l,v::its,h,hv=>by refine .cons ?_ (ni l its (by simpa using h) λj w e=>hv (j+1) w (by rw[Z8];exact e));obtain⟨c',u,e1,e2⟩:=hv 0 v rfl;cases e1;exact⟨u,e2⟩
theorem nI{K:PySem.W.Frag}{G:Hp}:∀l:List Nat,Reps K G (l.map λc=>V.str ⟨#[c]⟩) (l.map λc=>D.str [c])
 | []=>.nil
 |c::l=>.cons (.strL rfl (by show 1<=sizeLine;decide)) (nI l)
noncomputable def Es:List V->Hp->VK->Prop:=λxs H Q=>∃z:Str,xs=[.str z]/\z.cps.toList.length<=1000/\∀l,H l=none->Q (.ref l) (upd H l (.lst (z.cps.toList.map λc=>V.str ⟨#[c]⟩)))
def vf(hc:X.calm=true):gT X (.type "list") Es:=by
 intro pins s σ H xs us Q I r h;obtain⟨z,rfl,hz,hQ⟩:=h;obtain⟨u,rfl,rx⟩:=sU r;obtain⟨t,rfl⟩:=rx;have hz':z.cps.size<=sizeLine:=by rw[<- nE];exact w9 hz (by decide)
 refine call_list_str (I.ok.hd hc) z t (λh' tk acc c' hk hS hacc=>?_) hz';have vv:=ni z.cps.toList acc.toList (by rw[nE,nE];exact hacc.1) λj v e=>by obtain⟨c,u,e1,e2⟩:=hacc.2 j v (by simpa using e);exact⟨c,u,by simpa using e1,e2⟩
 exact⟨.ref s.heap.objs.size,_,I.laid (t':=tk) (o:=.lst (z.cps.toList.map λc=>V.str ⟨#[c]⟩)) (λb o e=>hk b o e) (yo _) ⟨by rw[za];exact w9 hz (by decide),acc.toList,c',vv,by simpa using hS⟩,rfl,hQ _ (I.hok.fresh (yo _))⟩
def Cq{e:Expr}{pos:Pos}(hc:X.calm=true)(hm:X.mg "list"=none)(ha:PFA X [e] gl)(hg:Gl X "list":=by rfl)(he:starEach [e] X.env=(false,eval e X.env)::starEach [] X.env:=by rfl):
  PF X (.Call (.Name "list" p) [e] [] pos) (gOf ua gl):=by
 intro pins s σ H Q I h;obtain⟨G,ρ,st,h⟩:=h;refine lR (vf hc) hg hm PyProof.Rows.Boot.«list» ha (by decide) (by decide) he rfl pins s σ H Q I ?_;refine tG.intro st h λds vs G1 H1 u1 st1 r1 h1=>?_;unfold ua at h1;split at h1
 ·split at h1
  ·rename_i x hx;obtain⟨v,rfl,r2⟩:=r1.one;obtain⟨z,rfl,ez,_⟩:=r2.str_inv;subst ez;refine⟨z,rfl,hx,λl hl=>?_⟩;have sub:Same G1 (upd H1 l (.lst (z.cps.toList.map λc=>V.str ⟨#[c]⟩))):=λa o q=>by rw[aQ (aL (st1.sub a o q) hl)];exact st1.sub a o q
   exact h1 _ _ _ (.new st1.sub hl) (.lst ba (nI _))
  ·exact h1.elim
 ·exact h1.elim
end
noncomputable def spN(K:PySem.W.Frag)(f:List D->R (List D)):Sp:=λvs H Q E=>∃G ds,Same G H/\Reps K G vs ds/\(f ds).post (mw K G H Q) (λC=>∀G' H',Up G H G' H'->E (.ref C) none H')
noncomputable abbrev FnN(P:Program)(w:World)(K:PySem.W.Frag)(mg:Str->Option Value)(base:Heap)(k:Nat)(f:Addr)(fd:FuncData)(ps:List Str)(g:List D->R (List D)):Prop:=FnOk P w K mg base (CXo P w) k f fd ps (λvs H Q E=>vs.length=ps.length/\spN K g vs H Q E)
structure CalleeN(P:Program)(w:World)(K:PySem.W.Frag)(mg:Str->Option Value)(base:Heap)(x:Str)(k n:Nat)(g:List D->R (List D)):Prop where
 ex:∃f fd ps,FnN P w K mg base k f fd ps g/\mg x=some (.ref f)/\PySem.W.keepIn K (.ref f)=true/\Binds K fd ps []/\ps.length=n
noncomputable def IV(P:Program)(w:World)(K:PySem.W.Frag)(mg:Str->Option Value)(base:Heap)(k:Nat)(s1:Shared)(G1 H1:Hp)(f:Addr)(m:R (List D)):Prop:=
 ∀(Y:Cx)(pins:List (Addr×Obj))(σY:St)(G2 H2:Hp)(s2:Shared)(fs:List Addr)(Q:VK),Y.prog=P->Y.w=w->Y.K=K->Y.mg=mg->Y.base=base->Inv Y pins σY H2 s2->Room k Y.A->Un fs [] H1 H2 s1.heap s2.heap->Up G1 H1 G2 H2->
  m.post (mw Y.K G2 H2 Q) (Exx Y σY G2 H2)->(∃o fd,s2.heap.get? f=some o/\o.data=.func fd)/\wpAny (model Y.prog Y.w) Y.A (call (.ref f) []) (EP Y pins σY Q) Y.xe s2
noncomputable def HV(m:R (List D)):R D:=match m with
 |.ok ds=>if ds.length<sizeLine then ofO (eqF (.lst false ds) (.lst false ds))else .no
 |_=>.no
structure Stays(P:Program)(w:World)(K:PySem.W.Frag)(mg:Str->Option Value)(base:Heap)(x:Str)(k j:Nat):Prop where
 ex:∃ft,mg x=some (.ref ft)/\PySem.W.keepIn K (.ref ft)=true/\∀(A:Around)(outer:List Env)(s1:Shared)(G1 H1:Hp)(f:Addr)(m:R (List D))(Q:VK)(E:XK),Room k A->Env0 P w K mg base A outer s1 H1->Same G1 H1->IV P w K mg base j s1 G1 H1 f m->
  (HV m).post (Fin G1 H1 (Rep K) Q) (λC=>∀G' H',Up G1 H1 G' H'->E (.ref C) none H')->codeAny (model P w) A (.call (.ref ft) ⟨[.ref f],[]⟩) (CR (CXo P w) outer P w H1 s1 Q E) s1
section
variable{g g1 g2':Ev->O}{gt gu:Ev->R Bool}{ga gc:Ev->R D}{go gp:Ev->R (Option Int)}{f f':D->D->Option D}
def lJ:aG g1 g2' ρ=(g1 ρ).seq g2':=rfl
def KJ:oIf gt g1 g2' ρ=(gt ρ).out ρ λk=>if k=true then g1 ρ else g2' ρ:=rfl
def Hf:fZ i ga ρ=(ga ρ).out ρ λd=>.nx (ρ.set i (some (.val d))):=rfl
def G8:dv ga ρ=(ga ρ).out ρ .rt:=rfl
def Km:oNx ρ=.nx ρ:=rfl
def Jc:vx i gl ρ=(gl ρ).out ρ λds=>.nx (ρ.set i (some (.own ds))):=rfl
def EL:vA ga ρ=(ga ρ).out ρ λ_=>.nx ρ:=rfl
def I8:yH asg gl g ρ=(gl ρ).out ρ λitems=>eR asg g items ρ:=rfl
def CM:iP C gl ρ=(gl ρ).out ρ λ_=>.ex C ρ:=rfl
def IS:KB asg ga ρ=(ga ρ).out ρ λd=>(asg d ρ).out ρ .nx:=rfl
def G9:pU i g ρ=g (frz i ρ):=rfl
def Ec{α β:Type}{h:α->R β}{gx:Ev->R α}:aK h gx ρ=gx ρ>>=h:=rfl
def Kf{h:List D->Option D}:gOf h gl ρ=gl ρ>>=λds=>ofO (h ds):=rfl
def Bd:aa ga gl ρ=ga ρ>>=λx=>gl ρ>>=λxs=>.ok (x::xs):=rfl
def Cf:aX gl ρ=gl ρ>>=λds=>.ok (.lst false ds):=rfl
def Hy:gG gl ρ=gl ρ>>=λds=>if ds.length<=sizeLine then .ok ds else .no:=rfl
def JE:gB2 f ga gb ρ=g2 f ga gb ρ>>=asB:=rfl
def J6:gB3 f f' ga gb gc ρ=g3 f f' ga gb gc ρ>>=asB:=rfl
def JV:gBn gt ρ=gt ρ>>=λk=>.ok (!k):=rfl
def E2:jy ga ρ=ga ρ>>=λx=>asI x>>=λi=>.ok (some i):=rfl
def FI{T:String}{h:D->List D->Option D}:iH T h ga gl ρ=ga ρ>>=λx=>if gP T x=true then gl ρ>>=λds=>ofO (h x ds)else .no:=rfl
def KA:g2 f ga gb ρ=ga ρ>>=λx=>gb ρ>>=λy=>ofO (f x y):=rfl
def Ig:sB ga gb ρ=ga ρ>>=λx=>asB x>>=λk=>if k=true then gb ρ else .ok (.bl false):=rfl
def Kj:gOr ga gb ρ=ga ρ>>=λx=>asB x>>=λk=>if k=true then .ok (.bl true)else gb ρ:=rfl
def HP:IT ga ρ=ga ρ>>=λx=>asB x>>=λk=>.ok (.bl (!k)):=rfl
def FP:wx gt gu ρ=gt ρ>>=λk=>if k=true then gu ρ else .ok false:=rfl
def IA:vy gt gu ρ=gt ρ>>=λk=>if k=true then .ok true else gu ρ:=rfl
def Iv:gIf gt ga gb ρ=gt ρ>>=λk=>if k=true then ga ρ else gb ρ:=rfl
def KC:gSl ga go gp ρ=ga ρ>>=λx=>go ρ>>=λl=>gp ρ>>=λu=>ofO (DI l u x):=rfl
def EZ:cC gl ix gt ga ρ=gl ρ>>=λitems=>cH gt ga items (cP ix ρ)>>=λds=>if ds.length<=sizeLine then .ok ds else .no:=rfl
def sN{h:List D->R D}:aR 1 h (aa ga λ_=>.ok []) ρ=ga ρ>>=λx=>h [x]:=Ee
def vS{h:List D->R D}:aR 2 h (aa ga (aa gb λ_=>.ok [])) ρ=ga ρ>>=λx=>gb ρ>>=λy=>h [x,y]:=Bt
def pb{h:List D->R D}:aR 3 h (aa ga (aa gb (aa gc λ_=>.ok []))) ρ=ga ρ>>=λx=>gb ρ>>=λy=>gc ρ>>=λz=>h [x,y,z]:=FJ
def nU{h:List D->R D}{gd:Ev->R D}:aR 4 h (aa ga (aa gb (aa gc (aa gd λ_=>.ok [])))) ρ=ga ρ>>=λx=>gb ρ>>=λy=>gc ρ>>=λz=>gd ρ>>=λu=>h [x,y,z,u]:=by
 unfold aR;simp only[Bd];cases ga ρ <;> try rfl
 simp only[R.ok_bind];cases gb ρ <;> try rfl
 simp only[R.ok_bind];cases gc ρ <;> try rfl
 simp only[R.ok_bind];cases gd ρ <;> rfl
end
def Ij(i:Nat)(ga:Ev->R D)(ρ:Ev):DL i ga ρ=(ownAt ρ i).out ρ λds=>(ga ρ).out ρ λd=>(asL d).out ρ λes=>if ds.length+es.length<=sizeLine then .nx (ρ.set i (some (.own (ds++es))))else .no:=rfl
def HA(i:Nat)(ga:Ev->R D)(ρ:Ev):Fp i ga ρ=(ownAt ρ i).out ρ λds=>(ga ρ).out ρ λd=>if ds.length<sizeLine then .nx (ρ.set i (some (.own (ds++[d]))))else .no:=rfl
def Ic(i j:Nat)(gl:Ev->R (List D))(ρ:Ev):KD i j gl ρ=(gl ρ).out ρ λds=>(nW [i,j] ds ρ).out ρ .nx:=rfl
def JF(ds:List D)(ρ:Ev):ownAt (some (.own ds)::ρ) 0=.ok ds:=rfl
def JQ(a0:Option Sl)(ds:List D)(ρ:Ev):ownAt (a0::some (.own ds)::ρ) 1=.ok ds:=rfl
def JU(a0 a1:Option Sl)(ds:List D)(ρ:Ev):ownAt (a0::a1::some (.own ds)::ρ) 2=.ok ds:=rfl
def asl(ds:List D):asL (.lst false ds)=.ok ds:=rfl
def Ki(a0:Option Sl)(ds:List D)(ρ:Ev):frz 1 (a0::some (.own ds)::ρ)=a0::some (.val (.lst false ds))::ρ:=rfl
noncomputable def g3k(f':D->D->Option D)(r:R D)(y:D):D->R D
 |.bl true=>r>>=λw=>ofO (f' y w)
 |.bl false=>.ok (.bl false)
 |_=>.no
def Kn(f f':D->D->Option D)(ga gb gc:Ev->R D)(ρ:Ev):g3 f f' ga gb gc ρ=ga ρ>>=λx=>gb ρ>>=λy=>ofO (f x y)>>=g3k f' (gc ρ) y:=rfl
def Jd(f':D->D->Option D)(r:R D)(y:D)(b:Bool):g3k f' r y (.bl b)=if b=true then (r>>=λw=>ofO (f' y w))else .ok (.bl false):=by cases b <;> rfl
def sv2(i j:Nat)(x y:D)(ρ:Ev):nW [i,j] [x,y] ρ=.ok ((ρ.set i (some (.val x))).set j (some (.val y))):=rfl
def JN(a0 a1 a2 a3:Option Sl)(ds:List D)(ρ:Ev):frz 4 (a0::a1::a2::a3::some (.own ds)::ρ)=a0::a1::a2::a3::some (.val (.lst false ds))::ρ:=rfl
def ya(ρ:Ev)(k:Ev->O):(O.nx ρ).seq k=k ρ:=rfl
def JB(d:D)(k:Ev->O):(O.rt d).seq k=.rt d:=rfl
def J2(C:Addr)(ρ:Ev)(k:Ev->O):(O.ex C ρ).seq k=.ex C ρ:=rfl
def JI(k:Ev->O):(O.no).seq k=.no:=rfl
def Kd(d:D):aJ (.rt d)=.ok d:=rfl
def KI(ρ:Ev):aJ (.nx ρ)=.ok .non:=rfl
def JG(C:Addr)(ρ:Ev):aJ (.ex C ρ)=.ex C:=rfl
def JP(k:Bool):asB (.bl k)=.ok k:=rfl
def mL(i:Int):asI (.int i)=.ok i:=rfl
def J9(k:Bool):fO (.bl k)=.ok k:=rfl
def rd7(a0 a1 a2 a3 a4 a5 a6:Option Sl)(d:D)(ρ:Ev):rdV (a0::a1::a2::a3::a4::a5::a6::some (.val d)::ρ) 7=.ok d:=rfl
def rd8(a0 a1 a2 a3 a4 a5 a6 a7:Option Sl)(d:D)(ρ:Ev):rdV (a0::a1::a2::a3::a4::a5::a6::a7::some (.val d)::ρ) 8=.ok d:=rfl
def rd9(a0 a1 a2 a3 a4 a5 a6 a7 a8:Option Sl)(d:D)(ρ:Ev):rdV (a0::a1::a2::a3::a4::a5::a6::a7::a8::some (.val d)::ρ) 9=.ok d:=rfl
def JO(a0 a1 a2 a3 a4 a5 a6 a7 a8 a9:Option Sl)(d:D)(ρ:Ev):rdV (a0::a1::a2::a3::a4::a5::a6::a7::a8::a9::some (.val d)::ρ) 10=.ok d:=rfl
def J3(a0 a1 a2 a3 a4 a5 a6 a7 a8 a9 a10:Option Sl)(d:D)(ρ:Ev):rdV (a0::a1::a2::a3::a4::a5::a6::a7::a8::a9::a10::some (.val d)::ρ) 11=.ok d:=rfl
def JL(a0 a1 a2 a3 a4 a5 a6 a7 a8 a9 a10 a11:Option Sl)(d:D)(ρ:Ev):rdV (a0::a1::a2::a3::a4::a5::a6::a7::a8::a9::a10::a11::some (.val d)::ρ) 12=.ok d:=rfl
section
variable(i j:Int)
def Hi:bT (.int i) (.int j)=some (.int (i+j)):=by simp only[bT]
def Hg:rC (.int i) (.int j)=some (.int (i - j)):=by simp only[rC]
def Kz:leD (.int i) (.int j)=some (.bl (decide (i<=j))):=by simp only[leD]
def J5:ltD (.int i) (.int j)=some (.bl (decide (i<j))):=by simp only[ltD]
def Kb:gtD (.int i) (.int j)=some (.bl (decide (j<i))):=by simp only[gtD]
def Kh:geD (.int i) (.int j)=some (.bl (decide (j<=i))):=by simp only[geD]
def JW:eqF (.int i) (.int j)=some (.bl (i==j)):=by simp only[eqF,eqD,p9]
def Kq:neF (.int i) (.int j)=some (.bl (!(i==j))):=by simp only[neF,eqD,p9]
end
def Ap{x y:List Nat}(h:x.length+y.length<=sizeLine):bT (.str x) (.str y)=some (.str (x++y)):=by simp only[bT];rw[if_pos h]
def yj{x y:List D}(h:x.length+y.length<=sizeLine):bT (.tup x) (.tup y)=some (.tup (x++y)):=by simp only[bT];rw[if_pos h]
def JD(x y:List Nat):eqF (.str x) (.str y)=some (.bl (x==y)):=by simp only[eqF,eqD,p9]
def Ke(x y:List Nat):neF (.str x) (.str y)=some (.bl (!(x==y))):=by simp only[neF,eqD,p9]
def zG{α:Type}(n:Nat)(x:α):(List.replicate n [x]).flatten=List.replicate n x:=by
 induction n with
 |zero=>rfl
 |succ n ih=>rw[o8,j0,ih];rfl
def cN:(1000:Nat)<=sizeLine:=by decide
def HN(h:n<=1000):dz (.str [c]) (.int (n:Int))=some (.str (List.replicate n c)):=by have:=cN;simp only[dz];rw[if_pos (by refine⟨by omega,by omega,?_⟩;simp;omega),tI,zG]
def DH{xs:List D}(h:xs[k]?=some d):ixD (.tup xs) (.int (k:Int))=some d:=by simp only[ixD];exact vY h
def Ci{xs:List D}(h:xs[k]?=some d):ixD (.lst fz xs) (.int (k:Int))=some d:=by simp only[ixD];exact vY h
def zy{α:Type}(xs:List α)(k:Nat):iJ xs none (some (k:Int))=xs.take k:=by
 unfold iJ;rw[HT.sIx_none,HT.sIx_nat,Z2,Nat.sub_zero];by_cases h:k<=xs.length;·rw[Nat.min_eq_left h]
 ·rw[Nat.min_eq_right (by omega),ZX,Y9 (by omega)]
def me{α:Type}(xs:List α)(k:Nat):iJ xs (some (k:Int)) none=xs.drop k:=by
 unfold iJ;rw[HT.sIx_none,HT.sIx_nat];by_cases h:k<=xs.length;·rw[Nat.min_eq_left h,Y9 (by simp)]
 ·rw[Nat.min_eq_right (by omega),Zv,List.take_nil,List.drop_of_length_le (by omega)]
def IR(lo hi:Option Int)(x:List Nat):DI lo hi (.str x)=some (.str (iJ x lo hi)):=rfl
def Ja(lo hi:Option Int)(x:List D):DI lo hi (.tup x)=some (.tup (iJ x lo hi)):=rfl
def HF(fz:Bool)(x:List D):df [.lst fz x]=some (.int x.length):=rfl
def HQ(x:List D):df [.tup x]=some (.int x.length):=rfl
def IY(x:List Nat):df [.str x]=some (.int x.length):=rfl
def m_t(h:ds.length<=1000):mkT ds=.ok (.tup ds):=if_pos (w9 h cN)
def fC(h:n<=1000):bQ [.int (n:Int)]=.ok ((List.range n).map λ(i:Nat)=>D.int (i:Int)):=by
 have e:bQ [.int (n:Int)]=if -(2 ^ 62)<=(n:Int)/\(n:Int)<2 ^ 62 then .ok ((List.range (n:Int).toNat).map λi=>D.int (0+(i:Nat)))else .no:=by simp only[bQ]
 rw[e,if_pos (by constructor <;> omega),tI];simp only[Int.zero_add]
def JX{α:Type}(a v:α)(l:List α):(a::l).set 0 v=v::l:=rfl
def je{g:Ev->O}{ρ1 ρ2:Ev}(h1:asg d ρ=.ok ρ1)(h2:g ρ1=.nx ρ2):eR asg g (d::ds) ρ=eR asg g ds ρ2:=by
 rw[eR,h1];show(match g ρ1 with
  |.nx ρ2=>eR asg g ds ρ2
  |.ct ρ2=>eR asg g ds ρ2
  |.bk ρ2=>O.nx ρ2
  |.rt d=>O.rt d
  |.re d ρ2=>.re d ρ2
  |.ex C ρ2=>O.ex C ρ2
  |.no=>O.no)=_;rw[h2]
def Ik{e:Expr}{pos:Pos}(hg:Gl X "ord")(hm:X.mg "ord"=none)(ha:PFA X [e] gl)(he:starEach [e] X.env=(false,eval e X.env)::starEach [] X.env:=by rfl):PF X (.Call (.Name "ord" p) [e] [] pos) (gOf DJ gl):=gI zc (FE _) hg hm rfl ha (he:=he)
def jR{e:Expr}{pos:Pos}(hg:Gl X "tuple")(hm:X.mg "tuple"=none)(ha:PFA X [e] gl)(he:starEach [e] X.env=(false,eval e X.env)::starEach [] X.env:=by rfl):
  PF X (.Call (.Name "tuple" p) [e] [] pos) (gOf fX gl):=yg ou (zq _) hg hm PyProof.Rows.Boot.«tuple» ha (by decide) (by decide) he rfl
def GW{a b:Expr}{pos:Pos}(hc:X.calm=true)(hg:Gl X "min")(hm:X.mg "min"=none)(ha:PFA X [a,b] gl)(he:starEach [a,b] X.env=(false,eval a X.env)::starEach [b] X.env:=by rfl)(hpl:(backTo pos (starEach [b] X.env)).any (·.1)=false:=by rfl):
  PF X (.Call (.Name "min" p) [a,b] [] pos) (gOf F6 gl):=gI (wS hc) (Et _) hg hm PyProof.Rows.Boot.«min» ha (by decide) (by decide) he hpl
noncomputable def nu:D->List D->Option D
 |.str x,[.int i]=>if -1000<=i/\i<=1000 then some (.str (x++List.replicate (i.toNat - x.length) 32))else none
 |_,_=>none
noncomputable def Bn:V->List V->Hp->VK->Prop:=λx vs H Q=>∃(y:Str)(i:Int),x=.str y/\vs=[.int i]/\-1000<=i/\i<=1000/\Q (.str (Txt.ljust y i)) H
def yI:MtR X "str.ljust" Bn:=by intro pins s σ H x xs v us Q I rx rv ⟨y,i,ex,exs,h1,h2,q⟩;subst ex exs;obtain⟨t,rfl⟩:=rx;obtain⟨u,rfl,r1⟩:=rv.one;obtain⟨t',rfl⟩:=r1;exact SC.ljust (padOk_of (by omega) (by omega)) (λt'' k=>⟨.str _,H,I.tok _,⟨_,rfl⟩,q⟩)
def ql(y:Str)(i:Int):(Txt.ljust y i).cps.toList=y.cps.toList++List.replicate (i.toNat - y.cps.toList.length) 32:=by
 unfold Txt.ljust;have hl:y.length=y.cps.toList.length:=by simp[Str.length]
 split
 ·rename_i h;have:i.toNat - y.cps.toList.length=0:=by omega
  rw[this];simp
 ·simp[Builtin.Str.padded,Str.length]
def zD(K:PySem.W.Frag):DG K "str" Bn nu:=by
 intro G H x xs dx ds d Q s rx rs e q;unfold nu at e;split at e
 ·split at e
  ·rename_i hi;cases e;obtain⟨v,rfl,r1⟩:=rs.one;obtain⟨y,rfl,ey,hy⟩:=rx.str_inv;obtain rfl:=r1.int_inv;refine⟨y,_,rfl,rfl,hi.1,hi.2,q _ G H (.refl s) (.strL (by rw[ql,ey]) ?_)⟩;have h1:y.length=y.cps.toList.length:=by simp[Str.length]
   have:=cN;rw[h1,ey]at hy;simp;omega
  ·cases e
 ·cases e
def ye{o e:Expr}{ga:Ev->R D}{ap cp:Pos}(ho:PF X o ga)(ha:PFA X [e] gl)(hbase:attributeBase o "ljust" X.env (eval o X.env)=eval o X.env:=by rfl)(hfew:((backTo cp (starEach [e] X.env)).all (λx=>!x.1) && (backToKw cp (keywordEach [] X.env)).all (λx=>x.1.isSome)
 && decide ([e].length+([]:List Keyword).length+(if ([]:List Keyword).isEmpty then 0 else 1)<30))=true:=by rfl)(hline:(ap.endLine==cp.line)=true:=by rfl)(hs:starEach [e] X.env=(false,eval e X.env)::starEach [] X.env:=by rfl):
  PF X (.Call (.Attribute o "ljust" ap) [e] [] cp) (iH "str" nu ga gl):=mj Y6 PySem.F.slot_str_ljust PySem.F.type_str_ljust yI (zD _) ho ha hbase hfew hline hs rfl
noncomputable def qh:D->List D->Option D
 |.str x,[.int i]=>if -1000<=i/\i<=1000 then some (.str (List.replicate (i.toNat - x.length) 32++x))else none
 |_,_=>none
noncomputable def A0:V->List V->Hp->VK->Prop:=λx vs H Q=>∃(y:Str)(i:Int),x=.str y/\vs=[.int i]/\-1000<=i/\i<=1000/\Q (.str (Txt.rjust y i)) H
def yB:MtR X "str.rjust" A0:=by intro pins s σ H x xs v us Q I rx rv ⟨y,i,ex,exs,h1,h2,q⟩;subst ex exs;obtain⟨t,rfl⟩:=rx;obtain⟨u,rfl,r1⟩:=rv.one;obtain⟨t',rfl⟩:=r1;exact SC.rjust (padOk_of (by omega) (by omega)) (λt'' k=>⟨.str _,H,I.tok _,⟨_,rfl⟩,q⟩)
def qa(y:Str)(i:Int):(Txt.rjust y i).cps.toList=List.replicate (i.toNat - y.cps.toList.length) 32++y.cps.toList:=by
 unfold Txt.rjust;have hl:y.length=y.cps.toList.length:=by simp[Str.length]
 split
 ·rename_i h;have:i.toNat - y.cps.toList.length=0:=by omega
  rw[this];simp
 ·simp[Builtin.Str.padded,Str.length]
def zm(K:PySem.W.Frag):DG K "str" A0 qh:=by
 intro G H x xs dx ds d Q s rx rs e q;unfold qh at e;split at e
 ·split at e
  ·rename_i hi;cases e;obtain⟨v,rfl,r1⟩:=rs.one;obtain⟨y,rfl,ey,hy⟩:=rx.str_inv;obtain rfl:=r1.int_inv;refine⟨y,_,rfl,rfl,hi.1,hi.2,q _ G H (.refl s) (.strL (by rw[qa,ey]) ?_)⟩;have h1:y.length=y.cps.toList.length:=by simp[Str.length]
   have:=cN;rw[h1,ey]at hy;simp;omega
  ·cases e
 ·cases e
def CQ{o e:Expr}{ga:Ev->R D}{ap cp:Pos}(ho:PF X o ga)(ha:PFA X [e] gl)(hbase:attributeBase o "rjust" X.env (eval o X.env)=eval o X.env:=by rfl)(hfew:((backTo cp (starEach [e] X.env)).all (λx=>!x.1) && (backToKw cp (keywordEach [] X.env)).all (λx=>x.1.isSome)
 && decide ([e].length+([]:List Keyword).length+(if ([]:List Keyword).isEmpty then 0 else 1)<30))=true:=by rfl)(hline:(ap.endLine==cp.line)=true:=by rfl)(hs:starEach [e] X.env=(false,eval e X.env)::starEach [] X.env:=by rfl):
  PF X (.Call (.Attribute o "rjust" ap) [e] [] cp) (iH "str" qh ga gl):=mj Y6 PySem.F.slot_str_rjust PySem.F.type_str_rjust yB (zm _) ho ha hbase hfew hline hs rfl
def Ks(a0 a1 a2 a3 a4 a5 a6 a7 a8 a9 a10 a11 a12:Option Sl)(d:D)(ρ:Ev):rdV (a0::a1::a2::a3::a4::a5::a6::a7::a8::a9::a10::a11::a12::some (.val d)::ρ) 13=.ok d:=rfl
def Kt(a0 a1 a2 a3 a4 a5 a6 a7 a8 a9 a10 a11 a12 a13:Option Sl)(d:D)(ρ:Ev):rdV (a0::a1::a2::a3::a4::a5::a6::a7::a8::a9::a10::a11::a12::a13::some (.val d)::ρ) 14=.ok d:=rfl
def Im(i:Nat)(gt:Ev->R Bool)(g1 g2:Ev->O)(ρ:Ev):HD i gt g1 g2 ρ=(gR (gt (frz i ρ))).out ρ λk=>if k=true then g1 ρ else g2 ρ:=rfl
def Fo(j i:Nat)(ga:Ev->R D)(ρ:Ev):HL j i ga ρ=(gR (ga (frz j ρ))).out ρ λd=>if fl 10 d=true then .nx (ρ.set i (some (.val d)))else .no:=rfl
def EI(j i:Nat)(ga:Ev->R D)(ρ:Ev):HX j i ga ρ=(ownAt ρ i).out ρ λds=>(gR (ga (frz j ρ))).out ρ λd=>if ds.length<sizeLine/\fl 10 d=true then .nx (ρ.set i (some (.own (ds++[d]))))else .no:=rfl
noncomputable def Ez(i:Nat)(ρ:Ev)(ds:List D)(d:D):Option Nat->O
 |some n=>if fl 10 d=true then .nx (ρ.set i (some (.own (ds.set n d))))else .no
 |none=>.no
def Fs(i:Nat)(gk ga:Ev->R D)(ρ:Ev):IL i gk ga ρ=(ownAt ρ i).out ρ λds=>(gR (ga (frz i ρ))).out ρ λd=>(gR (gk (frz i ρ)>>=asI)).out ρ λk=>Ez i ρ ds d (ixN ds.length k):=rfl
def vC(i:Nat)(ρ:Ev)(ds:List D)(d:D)(n:Nat):Ez i ρ ds d (some n)=if fl 10 d=true then .nx (ρ.set i (some (.own (ds.set n d))))else .no:=rfl
def DM(gl:Ev->R (List D))(ρ:Ev):HY gl ρ=gl ρ>>=GL:=rfl
def I9(xs:List D):GL [.tup xs]=.ok xs:=rfl
def Cw(ga gb:Ev->R D)(ρ:Ev):GG ga gb ρ=ga ρ>>=λx=>gb ρ>>=λc=>AZ x c:=rfl
def BS(n:Nat)(asg:D->Ev->R Ev)(gl:Ev->R (List D))(ix:List Nat)(gt:Ev->R Bool)(ga:Ev->R D)(ρ:Ev):dX n asg gl ix gt ga ρ=gl ρ>>=λitems=>cM asg gt ga items (ce n ix ρ)>>=λds=>if ds.length<=sizeLine then .ok ds else .no:=rfl
def Gb(i j:Nat)(ga:Ev->R D)(gl:Ev->R (List D))(ρ:Ev):Ip i j ga gl ρ=(ga ρ).out ρ λd=>(gl ρ).out ρ λds=>.nx ((ρ.set i (some (.val d))).set j (some (.own ds))):=rfl
def Iu(f:Bool)(lo hi:Option Int)(x:List D):DI lo hi (.lst f x)=some (.lst false (iJ x lo hi)):=rfl
def GZ(ga gs:Ev->R D)(ρ:Ev):KM ga gs ρ=ga ρ>>=λx=>gs ρ>>=λk=>GM x k:=rfl
def Hl(x:List Nat):GM (.str x) (.int (-1))=.ok (.str x.reverse):=rfl
def II(f:Bool)(x:List D):GM (.lst f x) (.int (-1))=.ok (.lst false x.reverse):=rfl
def G0(f:Bool)(xs:List D):GL [.lst f xs]=.ok xs:=rfl
noncomputable def HC(i:Nat):O->O
 |.nx ρ=>.nx (ρ.set i none)
 |.rt d=>.rt d
 |_=>.no
noncomputable def Fz(gs:Ev->O)(f:Addr->Option Bool)(i:Nat):O->O
 |.ex C ρ=>(match f C with
  |some true=>HC i (gs (ρ.set i (some (.val (.exc C)))))
  |_=>.no)
 |o=>o
def GR(gb gs:Ev->O)(f:Addr->Option Bool)(i:Nat)(ρ:Ev):DF gb gs f i ρ=Fz gs f i (gb ρ):=by unfold DF Fz;cases gb ρ <;> rfl
def CT(gs:Ev->O)(f:Addr->Option Bool)(i:Nat)(ρ:Ev):Fz gs f i (.nx ρ)=.nx ρ:=rfl
def oW{gs:Ev->O}{f:Addr->Option Bool}(h:f C=some true):Fz gs f i (.ex C ρ)=HC i (gs (ρ.set i (some (.val (.exc C))))):=by simp only[Fz,h]
def Cz(i:Nat)(ρ:Ev):HC i (.nx ρ)=.nx (ρ.set i none):=rfl
noncomputable def FS(gs:List (Ev->R D))(out:List Nat)(ρ:Ev):D->R D
 |.str x=>if (out++x).length<=sizeLine then sg gs (out++x) ρ else .no
 |_=>.no
def Fa(gs:List (Ev->R D))(ρ:Ev):Iq gs ρ=sg gs [] ρ:=rfl
def BU(out:List Nat)(ρ:Ev):sg [] out ρ=.ok (.str out):=rfl
def BX(g:Ev->R D)(gs:List (Ev->R D))(out:List Nat)(ρ:Ev):sg (g::gs) out ρ=g ρ>>=FS gs out ρ:=rfl
def Dy(gs:List (Ev->R D))(out:List Nat)(ρ:Ev)(x:List Nat):FS gs out ρ (.str x)=if (out++x).length<=sizeLine then sg gs (out++x) ρ else .no:=rfl
def Jb(x:List Nat):Kp (.str x)=.ok (.str x):=rfl
def EF(j i:Nat)(gl:Ev->R (List D))(ρ:Ev):Iz j i gl ρ=(gR (gl (frz j ρ))).out ρ λds=>if ds.all (fl 10)=true then .nx (ρ.set i (some (.own ds)))else .no:=rfl
def H9(n:Nat)(gt:Ev->R Bool)(g:Ev->O)(ρ:Ev):xU n gt g ρ=fb gt g n ρ:=rfl
def Da{g:Ev->O}{r:D}{ρ1:Ev}(h1:asg d ρ=.ok ρ1)(h2:g ρ1=.rt r):eR asg g (d::ds) ρ=.rt r:=by
 rw[eR,h1];show(match g ρ1 with
  |.nx ρ2=>eR asg g ds ρ2
  |.ct ρ2=>eR asg g ds ρ2
  |.bk ρ2=>.nx ρ2
  |.rt d=>.rt d
  |.re d ρ2=>.re d ρ2
  |.ex C ρ2=>.ex C ρ2
  |.no=>.no)=_;rw[h2]
def BJ(gi:Ev->R (List D))(ix:List Nat)(gt:Ev->R Bool)(ge:Ev->R D)(ρ:Ev):Eo gi ix gt ge ρ=gi ρ>>=λitems=>if items.length<=sizeLine then uC (iT 0) gt ge items (cP ix ρ)else .no:=rfl
end L2
section
open L2
set_option compiler.extract_closed false in
local macro_rules | `(tactic| walk_at "run")=>`(tactic| simp -implicitDefEqProofs only[rvz,ciz,nlz,csz,FX,DS,Gz,EA,BJ,↓sN,↓vS,↓pb,↓nU,lJ,KJ,Hf,G8,Km,Jc,EL,I8,CM,IS,G9,Ec,Kf,Bd,Cf,Hy,JE,J6,JV,E2,FI,KA,Ig,Kj,HP,FP,IA,Iv,KC,EZ,Ij,HA,EI,Im,Fo,Fs,pT,DM,Cw,BS,Gb,Iu,GZ,Hl,II,vC,I9,G0,Ks,Kt,and_self,Ic,JF,JQ,JU,asl,Ki,JN,Kn,Jd,sv2,ya,JB,J2,JI,Kd,KI,JG,JP,mL,J9,rd0,rd1,rd2,rd3,rd4,rd5,rd6,rd7,rd8,rd9,JO,J3,JL,R.ok_bind,R.ok_out,R.ex_bind,R.ex_out,fE,Hi,Hg,Kz,J5,Kb,Kh,JW,Kq,JD,Ke,HF,HQ,IY,IR,Ja,JX,Yh,Ze,r6,List.cons_append,j6,Nat.reduceAdd,Nat.reduceBEq,Bool.not_true,Bool.not_false,c7,qd,t9,EF,H9,GR,CT,oW,Cz,Fa,BU,BX,Dy,Jb,Int.reduceLT,Int.reduceLE,Int.reduceBEq,decide_true,decide_false, *])
namespace Q
open L2
open PySem (sizeLine Addr)
noncomputable def Jk:D->Bool
 |.int _=>true
 |_=>false
noncomputable def Az:List D->R D
 | [.exc _]=>.no
 | [.dct _ _]=>.no
 | [d]=>.ok (.bl (Jk d))
 |_=>.no
noncomputable def fG:Ev->O:=(aG (dv (sB (aK (fu isInt) (rvz 0)) (IT (aK (fu (·=="bool")) (rvz 0))))) oNx)
def sJ:∀ds:List D,ds.length=1->Az ds=.no\/aJ (fG  (aM 1 ds))=Az ds:=by
 intro ds hl;unfold fG
 match ds,hl with
 | [d],_=>cases d <;> first|exact Or.inr rfl|exact Or.inl rfl
noncomputable def inB(d:D)(lo hi:Int):Bool:=match d with
 |.int i=>decide (lo<=i) && decide (i<=hi)
 |_=>false
noncomputable def mv:List D->R D
 | [.exc _,_,_]=>.no
 | [.dct _ _,_,_]=>.no
 | [d,.int lo,.int hi]=>.ok (.bl (inB d lo hi))
 |_=>.no
noncomputable def eN(gv:List D->R D):Ev->O:=(aG (dv (sB (aR 1 gv (aa (rvz 0) nlz)) (g3 leD leD (rvz 1) (rvz 0) (rvz 2)))) oNx)
def qO:∀ds:List D,ds.length=3->mv ds=.no\/aJ (eN Az (aM 3 ds))=mv ds:=by
 intro ds hl;unfold eN
 match ds,hl with
 | [d,l,h],_=>
  cases d <;> first|exact Or.inl rfl|skip
  all_goals (cases l <;> first|exact Or.inl rfl|skip)
  all_goals (cases h <;> first|exact Or.inl rfl|skip)
  all_goals first|exact Or.inr rfl|skip
  rename_i i lo hi hl;refine Or.inr ?_;show aJ (aG _ oNx [some (.val (.int i)),some (.val (.int lo)),some (.val (.int hi))])=R.ok (D.bl (inB (.int i) lo hi));by_cases h1:lo<=i <;> simp[aG,dv,sB,aR,aa,g3,rdV,Az,Jk,asB,leD,inB,aJ,O.seq,h1]
noncomputable def plain(x:List Nat):Bool:=x.all λc=>decide (32<=c) && decide (c<=126)
noncomputable def nz:D->Bool
 |.str x=>plain x
 |_=>false
noncomputable def gQ:List D->R D
 | [.exc _]=>.no
 | [.dct _ _]=>.no
 | [.str x]=>if x.length<=sizeLine then .ok (.bl (plain x))else .no
 | [d]=>.ok (.bl false)
 |_=>.no
noncomputable def fF:Ev->O:=(aG (dv (sB (aK (fu (·=="str")) (rvz 0)) (gOf yV (aa (aX (cC (aK bg (rvz 0)) [] (λ_=>R.ok true) (g3 leD leD (csz [32]) (rvz 0) (csz [126])))) nlz)))) oNx)
def rQ:∀ds:List D,ds.length=1->gQ ds=.no\/aJ (fF  (aM 1 ds))=gQ ds:=by
 intro ds hl;unfold fF
 match ds,hl with
 | [d],_=>
  cases d <;> first|exact Or.inl rfl|exact Or.inr rfl|skip
  rename_i x hl;by_cases hx:x.length<=sizeLine
  ·refine Or.inr ?_;have e:cH (λ_=>R.ok true) (g3 leD leD (λ_=>.ok (.str [32])) (rvz 0) (λ_=>.ok (.str [126]))) (x.map λc=>D.str [c]) [none]=.ok ((x.map λc=>D.str [c]).map λd=>.bl (match d with|.str [c]=>decide (32<=c) && decide (c<=126)|_=>false)):=by
    refine br _ [] _ none λd m=>⟨rfl,?_⟩
    obtain⟨c,_,rfl⟩:=v7.1 m;show(ofO (some (D.bl (!decide (([c]:List Nat)<[32]))))>>=λz=>match z with
     |.bl true=>ofO (some (D.bl (!decide (([126]:List Nat)<[c]))))
     |.bl false=>R.ok (D.bl false)
     |_=>R.no:R D)=_;rw[xI,xI,fE,R.ok_bind];cases h1:decide (32<=c) <;> simp[h1]
   have e2:gQ [.str x]=.ok (.bl (plain x)):=if_pos hx;rw[e2];show aJ (aG _ oNx [some (.val (.str x))])=_;simp only[aG,dv,sB,aK,gOf,aa,aX,cC,rd0,fu,tyN,asB,cP,bg,R.ok_bind,j3];simp only[ZA,t9,e,R.ok_bind];simp only[za,hx,t9,R.ok_bind,jE,fE,R.ok_out,aJ,O.seq,p7,plain];rfl
  ·exact Or.inl (if_neg hx)
noncomputable def GS(d:D)(wd:Int):Bool:=match d with
 |.str x=>plain x && ((x.length:Int)==wd)
 |_=>false
noncomputable def Ky(d:D)(wd:Int):Bool:=match d with
 |.tup xs=>decide (1<=xs.length) && decide (xs.length<=12) && xs.all λr=>GS r wd
 |_=>false
noncomputable def place(d:D)(wd m:Int):Bool:=match d with
 |.tup [a,b]=>inB a 0 (m - 1) && inB b 0 wd
 |_=>false
noncomputable def qv:D->Bool
 |.exc _=>false
 |.dct _ _=>false
 |_=>true
def vw{lo hi:Int}(h:qv d=true):mv [d,.int lo,.int hi]=.ok (.bl (inB d lo hi)):=by cases d <;> first|rfl|(cases h;done)
noncomputable def E7:D->Bool
 |.tup [a,r,p]=>match a with
  |.int wd=>inB (.int wd) 1 40 && Ky r wd && (match r with|.tup rows=>place p wd rows.length|_=>false)
  |_=>false
 |_=>false
noncomputable def lf:List D->Option (List Int)
 | []=>some []
 |.int i::ds=>(lf ds).map (i::·)
 |_=>none
theorem oK:∀{ds:List D}{ns:List Int},lf ds=some ns->ds=ns.map .int
 | [],ns,h=>by cases h;rfl
 |d::ds,ns,h=>by
  cases d <;> first|(cases h;done)|skip
  rename_i i;cases q:lf ds with
  |none=>simp[lf,q]at h
  |some ms=>simp[lf,q]at h;subst h;rw[oK q];rfl
theorem li:∀ns:List Int,lf (ns.map .int)=some ns
 | []=>rfl
 |i::ns=>by simp[lf,li ns]
noncomputable def cell(ns:List Int)(k:Nat):Int:=if k<ns.length then ns.getD k 0 else if ns.length=0 then 0 else ns.getD (k % ns.length) 0 * 31+k
def uI{ns:List Int}(h:k<ns.length):atI (ns.map D.int) (k:Int)=some (.int (ns.getD k 0)):=by
 have e:ixN (ns.map D.int).length (k:Int)=some k:=by
  rw[za];simp[ixN]
  try omega
 rw[atI,e];simp[List.getD,h]
def tfr{F:List D->R D}:∀ds:List D,ds.length=n->F ds=.no\/F ds=F ds:=λ_ _=>.inr rfl
noncomputable def eD:Ev->O:=(aG (oIf (gB2 ltD (rvz 1) (gOf df (aa (rvz 0) nlz))) (aG (dv (g2 ixD (rvz 0) (rvz 1))) oNx) oNx) (aG (oIf (gB2 eqF (rvz 0) (aX (gG nlz))) (aG (dv (ciz 0)) oNx) oNx) (aG (dv (g2 bT (g2 dz (g2 ixD (rvz 0) (g2 wy (rvz 1) (gOf df (aa (rvz 0) nlz)))) (ciz 31)) (rvz 1))) oNx)))
noncomputable def AK:List D->R D:=λds=>aJ (eD (aM 2 ds))
def xB{ns:List Int}:AK [.lst fz (ns.map .int),.int n]=.ok (.int (cell ns n)):=by
 show aJ (eD [some (.val (.lst fz (ns.map .int))),some (.val (.int n))])=_;unfold eD;have t3:df [.lst fz (ns.map .int)]=some (.int ns.length):=by simp[df]
 by_cases h1:n<ns.length
 ·have h1':(n:Int)<(ns.length:Int):=by omega
  have x1:ixD (.lst fz (ns.map .int)) (.int n)=some (.int (ns.getD n 0)):=uI h1;simp only[aG,oIf,gB2,g2,dv,gOf,aa,rd0,rd1,R.ok_bind,R.ok_out,t3,x1,fE,ltD,asB,h1',decide_true,t9,O.seq,aJ,cell,h1]
 ·have h1' : ¬ (n:Int)<(ns.length:Int):=by omega
  cases ns with
  |nil=>rfl
  |cons a as=>
   have t4:eqF (.lst fz ((a::as).map .int)) (.lst false [])=some (.bl false):=rfl;have h2:n % (a::as).length<(a::as).length:=Nat.mod_lt _ (by simp);have x1:ixD (.lst fz ((a::as).map .int)) (.int ((n % (a::as).length:Nat):Int))=some (.int ((a::as).getD (n % (a::as).length) 0)):=uI h2;have m1:wy (.int n) (.int (a::as).length)=some (.int ((n % (a::as).length:Nat):Int)):=by
    have:(0:Int)<((a::as).length:Int):=by simp
    simp only[wy,this,t9];rw[Int.natCast_emod]
   have m2:∀z:Int,dz (.int z) (.int 31)=some (.int (z * 31)):=λz=>if_pos (Or.inr (by decide));have z1:(0:Nat)<=sizeLine:=oR _;have z2 : ¬ (a::as).length=0:=by simp
   simp only[aG,oIf,gB2,g2,dv,gOf,aa,aX,gG,rd0,rd1,R.ok_bind,R.ok_out,t3,t4,x1,m1,m2,fE,ltD,bT,asB,h1',decide_false,c7,qd,O.seq,oNx,aJ,cell,h1,Ze,z1,t9,z2]
noncomputable def drawn(ns:List Int)(k:Nat):Int:=(cell ns k+6151 * ((k:Int)+1)) * 40692 % 2147483399
noncomputable def dW(ns:List Int)(k:Nat)(m:Int):Int:=(drawn ns k * drawn ns k+drawn ns k / 31) % 2147483629 % m
def dY(ns:List Int)(k:Nat){m:Int}(h:0<m):0<=dW ns k m/\dW ns k m<m:=⟨Int.emod_nonneg _ (by omega),Int.emod_lt_of_pos _ h⟩
noncomputable def eF(fo:List D->R D):Ev->O:=(aG (fZ 3 (g2 wy (g2 dz (g2 bT (aR 2 fo (aa (rvz 0) (aa (rvz 1) nlz))) (g2 dz (ciz 6151) (g2 bT (rvz 1) (ciz 1)))) (ciz 40692)) (ciz 2147483399))) (aG (dv (g2 wy (g2 wy (g2 bT (g2 dz (rvz 3) (rvz 3)) (g2 sX (rvz 3) (ciz 31))) (ciz 2147483629)) (rvz 2))) oNx))
noncomputable def bc:List D->R D:=λds=>aJ (eF AK (aM 4 ds))
def gj{ns:List Int}{m:Int}(hm:0<m):bc [.lst fz (ns.map .int),.int n,.int m]=.ok (.int (dW ns n m)):=by
 show aJ (eF AK [some (.val (.lst fz (ns.map .int))),some (.val (.int n)),some (.val (.int m)),none])=_;unfold eF;have m1:∀z:Int,dz (.int 6151) (.int z)=some (.int (6151 * z)):=λz=>by show(if ((-(2 ^ 64):Int)<6151/\(6151:Int)<2 ^ 64)\/((-(2 ^ 64):Int)<z/\z<2 ^ 64)then some (D.int (6151 * z))else none)=_;exact if_pos (Or.inl (by decide))
 have m2:∀z:Int,dz (.int z) (.int 40692)=some (.int (z * 40692)):=λz=>if_pos (Or.inr (by decide));have m3:∀z:Int,wy (.int z) (.int 2147483399)=some (.int (z % 2147483399)):=λz=>by show(if (0:Int)<2147483399 then some (D.int (z % 2147483399))else none)=_;exact if_pos (by decide)
 have m4:∀z:Int,wy (.int z) (.int 2147483629)=some (.int (z % 2147483629)):=λz=>by show(if (0:Int)<2147483629 then some (D.int (z % 2147483629))else none)=_;exact if_pos (by decide)
 have m5:∀z:Int,wy (.int z) (.int m)=some (.int (z % m)):=λz=>if_pos hm;have m6:∀z:Int,sX (.int z) (.int 31)=some (.int (z / 31)):=λz=>by show(if (0:Int)<31/\(31:Int)<1073741824 then some (D.int (z / 31))else none)=_;exact if_pos (by decide)
 have m7:∀i j:Int,bT (.int i) (.int j)=some (.int (i+j)):=λ_ _=>rfl;have hd:0<=drawn ns n/\drawn ns n<2147483399:=⟨Int.emod_nonneg _ (by decide),Int.emod_lt_of_pos _ (by decide)⟩
 have m8:dz (.int (drawn ns n)) (.int (drawn ns n))=some (.int (drawn ns n * drawn ns n)):=if_pos (Or.inl (by omega));have s1:∀v,([some (.val (.lst fz (ns.map .int))),some (.val (.int n)),some (.val (.int m)),none]:Ev).set 3 v=[some (.val (.lst fz (ns.map .int))),some (.val (.int n)),some (.val (.int m)),v]:=λ_=>rfl;have q1:(cell ns n+6151 * ((n:Int)+1)) * 40692 % 2147483399=drawn ns n:=rfl;simp only[aG,fZ,dv,g2,Bt,rd0,rd1,rd2,rd3,R.ok_bind,R.ok_out,xB,m1,m2,m3,m4,m5,m6,m7,fE,O.seq,s1,q1,m8,aJ,dW]
noncomputable def BH:D->Bool
 |.str [c]=>!(decide (32<=c) && decide (c<=126))
 |_=>false
theorem qX:∀x:List Nat,((x.map λc=>D.str [c]).filter BH).isEmpty=plain x
 | []=>rfl
 |c::x=>by
  have ih:=qX x;rw[tv,plain,j4];cases h:(decide (32<=c) && decide (c<=126))with
  |true=>rw[List.filter_cons_of_neg (by simp only[BH,h];decide),ih,mG];rfl
  |false=>rw[List.filter_cons_of_pos (by simp only[BH,h];rfl)];rfl
def ES(ys:List D):eqF (.lst false ys) (.lst false [])=some (.bl ys.isEmpty):=by cases ys <;> rfl
def zV{α:Type}(xs:List α)(l:Nat)(h:l<=xs.length):iJ xs none (some (l:Int))=xs.take l:=by
 have h1:HT.sIx xs.length 0 none=0:=rfl;have h2:HT.sIx xs.length xs.length (some (l:Int))=l:=by
  simp only[HT.sIx]
  first|omega|(split <;> omega)
 unfold iJ;rw[h1,h2];simp
noncomputable def cl:Nat->D->Bool
 | 0,_=>false
 |_+1,.exc _=>false
 |_+1,.dct _ _=>false
 |n+1,.tup xs=>xs.all (cl n)
 |n+1,.lst _ xs=>xs.all (cl n)
 |_+1,_=>true
theorem pE{f:D->D->Option Bool}:∀xs:List D,(∀x∈xs,f x x=some true)->eqZ f xs xs=some (xs.map λ_=>true)
 | [],_=>rfl
 |x::xs,h=>by rw[eqZ,h x (sS ..),pE xs λy hy=>h y (rO _ hy)];rfl
theorem oT{α:Type}:∀xs:List α,(xs.map λ_=>true).all id=true
 | []=>rfl
 |_::xs=>by rw[tv,j4,oT xs];rfl
theorem oE:∀(n m:Nat)(d:D),n<=m->cl n d=true->eqD m d d=some true
 | 0,_,_,_,h=>by simp[cl]at h
 |n+1,0,_,h,_=>by omega
 |n+1,m+1,d,hm,h=>by
  cases d <;> first|(simp[cl]at h;done)|(simp[eqD];done)|skip
  ·rename_i xs;simp only[cl,v6]at h;have:=pE (f:=eqD m) xs λx hx=>oE n m x (by omega) (h x hx);simp only[eqD,this,p9,oT,ZA,d3]
  ·rename_i fz xs;simp only[cl,v6]at h;have:=pE (f:=eqD m) xs λx hx=>oE n m x (by omega) (h x hx);simp only[eqD,t9,this,p9,oT]
def sZ(h:cl 10 d=true):neF d d=some (.bl false):=by unfold neF;rw[oE 10 40 d (by omega) h];rfl
def ng(i:Int):BN (.int i)=.ok (.int (-i)):=rfl
noncomputable def xM(b m r:Int):Bool:=decide (0<=b) && decide (b<=r - 1) && (decide (1<=m) && decide (m<=r - b))
noncomputable def E8(l w:Nat):D->D
 |.str x=>.str ((x.drop l).take w)
 |d=>d
noncomputable def Hm:List D->R D
 | [.tup [.int wd,.tup rows,p],.int t,.int l,.int h,.int w]=>if E7 (.tup [.int wd,.tup rows,p])=true/\xM t h rows.length=true/\xM l w wd=true then .ok (.tup [.int w,.tup (((rows.drop t.toNat).take h.toNat).map (E8 l.toNat w.toNat)),.tup [.int 0,.int 0]])else .no
 |_=>.no
noncomputable def pl(ns:List Int)(a:Nat)(wd m:Nat):D:=.tup [.int (dW ns (a+400) m),.int (dW ns (a+401) (wd+1))]
noncomputable def dF(bp:List D->R D)(aF:Addr):Ev->O:=(aG (oIf (gBn (aK fO (aR 1 bp (aa (rvz 0) nlz)))) (aG (iP aF (aa (csz [116,104,105,115,32,105,115,32,110,111,32,112,108,97,105,110,32,116,101,120,116]) nlz)) oNx) oNx) oNx)
noncomputable def dZ:Ev->O:=(aG (dv (g2 inTF (rvz 0) (λ_=>R.ok (D.tup (List.map D.str [[60],[62],[94]]))))) oNx)
noncomputable def dM(aE:List D->R D)(ao:Addr):Ev->O:=(aG (oIf (gBn (aK fO (aR 3 aE (aa (rvz 0) (aa (ciz 1) (aa (ciz 40) nlz)))))) (aG (iP ao (aa (csz [97,32,119,105,100,116,104,32,105,115,32,102,114,111,109,32,49,32,116,111,32,52,48,32,115,105,103,110,115]) nlz)) oNx) oNx) oNx)
noncomputable def oy(dQ dC:List D->R D):Ev->O:=(aG (vA (aR 1 dQ (aa (rvz 0) nlz))) (aG (vA (aR 1 dC (aa (rvz 1) nlz))) (aG (oIf (gB2 leD (gOf df (aa (rvz 0) nlz)) (rvz 1)) (aG (dv (rvz 0)) oNx) oNx) (aG (dv (g2 bT (gSl (rvz 0) (λ_=>R.ok none) (jy (g2 rC (rvz 1) (ciz 1)))) (csz [126]))) oNx))))
noncomputable def eT(xm cy:List D->R D)(aw:Addr):Ev->O:=(aG (fZ 3 (aR 2 xm (aa (rvz 0) (aa (rvz 1) nlz)))) (aG (oIf (gBn (aK fO (aR 1 cy (aa (rvz 2) nlz)))) (aG (iP aw (aa (csz [116,104,101,114,101,32,105,115,32,110,111,32,115,117,99,104,32,115,105,100,101]) nlz)) oNx) oNx) (aG (oIf (gB2 eqF (rvz 2) (csz [60])) (aG (dv (iH "str" nu (rvz 3) (aa (rvz 1) nlz))) oNx) oNx) (aG (oIf (gB2 eqF (rvz 2) (csz [62])) (aG (dv (iH "str" qh (rvz 3) (aa (rvz 1) nlz))) oNx) oNx) (aG (fZ 4 (g2 sX (g2 rC (rvz 1) (gOf df (aa (rvz 3) nlz))) (ciz 2))) (aG (dv (iH "str" nu (g2 bT (g2 dz (csz [32]) (rvz 4)) (rvz 3)) (aa (rvz 1) nlz))) oNx))))))
def fJ:20000<=sizeLine:=by decide
noncomputable def DK(C:Addr):List D->R D:=λds=>aJ (dF gQ C (aM 1 ds))
def mU:∀ds:List D,ds.length=1->DK C ds=.no\/aJ (dF gQ C (aM 1 ds))=DK C ds:=λ_ _=>.inr rfl
def Fx(h:gQ [d]=.ok (.bl true)):DK C [d]=.ok .non:=by
 show aJ (aG _ _ [some (.val d)])=_
 walk_at "run"
 all_goals rfl
def zr{x:List Nat}(h:plain x=true)(hl:x.length<=10000):gQ [.str x]=.ok (.bl true):=by have lb:=fJ;have:gQ [.str x]=.ok (.bl (plain x)):=if_pos (by omega);rw[this,h]
noncomputable def cwF(C:Addr):List D->R D:=λds=>aJ (dM mv C (aM 1 ds))
def mQ:∀ds:List D,ds.length=1->cwF C ds=.no\/aJ (dM mv C (aM 1 ds))=cwF C ds:=λ_ _=>.inr rfl
def Fi(h:mv [d,.int 1,.int 40]=.ok (.bl true)):cwF C [d]=.ok .non:=by
 show aJ (aG _ _ [some (.val d)])=_
 walk_at "run"
 all_goals rfl
def CS{w lo hi:Nat}(h1:lo<=w)(h2:w<=hi):mv [.int (w:Int),.int (lo:Int),.int (hi:Int)]=.ok (.bl true):=by show R.ok (D.bl (decide ((lo:Int)<=(w:Int)) && decide ((w:Int)<=(hi:Int))))=_;rw[sM (by omega),sM (by omega)];rfl
def EO{w:Nat}(h1:1<=w)(h2:w<=40):cwF C [.int (w:Int)]=.ok .non:=Fi (CS (lo:=1) (hi:=40) h1 h2)
noncomputable def rD(w:Nat)(x:List Nat):List Nat:=if x.length<=w then x else x.take (w - 1)++[126]
def ux{w:Nat}(h:1<=w)(x:List Nat):(rD w x).length<=w:=by
 unfold rD;split;·assumption
 ·rw[rR,d7];simp;omega
noncomputable def Gi(C7 C3:Addr):List D->R D:=λds=>aJ (oy (DK C7) (cwF C3) (aM 2 ds))
def Fq{C7 C3:Addr}:∀ds:List D,ds.length=2->Gi C7 C3 ds=.no\/aJ (oy (DK C7) (cwF C3) (aM 2 ds))=Gi C7 C3 ds:=λ_ _=>.inr rfl
section
variable{C7 C3 C1:Addr}
def tE{x:List Nat}{w:Nat}(hp:plain x=true)(hl:x.length<=10000)(h1:1<=w)(h2:w<=40):Gi C7 C3 [.str x,.int (w:Int)]=.ok (.str (rD w x)):=by
 have e1:DK C7 [.str x]=.ok .non:=Fx (zr hp hl);have e2:cwF C3 [.int (w:Int)]=.ok .non:=EO h1 h2;show aJ (aG _ _ [some (.val (.str x)),some (.val (.int (w:Int)))])=_;by_cases h:x.length<=w
 ·have q:decide ((x.length:Int)<=(w:Int))=true:=by simp;omega
  have e:rD w x=x:=if_pos h;rw[e];clear h hp hl h1 h2 e
  walk_at "run"
 ·have q:decide ((x.length:Int)<=(w:Int))=false:=by simp;omega
  have e:rD w x=x.take (w - 1)++[126]:=if_neg h;have k:(w:Int) - 1=((w - 1:Nat):Int):=by omega
  have c:iJ x none (some ((w - 1:Nat):Int))=x.take (w - 1):=zV x _ (by omega);have a:bT (.str (x.take (w - 1))) (.str [126])=some (.str (x.take (w - 1)++[126])):=Ap (by have:=fJ;simp;omega);rw[e];generalize x.take (w - 1)++[126]=r at *;clear h hp hl h1 h2 e
  walk_at "run"
end
noncomputable def sdF:List D->R D:=λds=>aJ (dZ (aM 1 ds))
def vh:∀ds:List D,ds.length=1->sdF ds=.no\/aJ (dZ (aM 1 ds))=sdF ds:=λ_ _=>.inr rfl
noncomputable def lj(n:Nat)(x:List Nat):List Nat:=x++List.replicate (n - x.length) 32
noncomputable def rj(n:Nat)(x:List Nat):List Nat:=List.replicate (n - x.length) 32++x
def Je{x:List Nat}(h:n<=1000):nu (.str x) [.int (n:Int)]=some (.str (lj n x)):=by show(if -1000<=(n:Int)/\(n:Int)<=1000 then some (D.str (x++List.replicate ((n:Int).toNat - x.length) 32))else none)=_;rw[if_pos (by omega),tI];rfl
def Kg{x:List Nat}(h:n<=1000):qh (.str x) [.int (n:Int)]=some (.str (rj n x)):=by show(if -1000<=(n:Int)/\(n:Int)<=1000 then some (D.str (List.replicate ((n:Int).toNat - x.length) 32++x))else none)=_;rw[if_pos (by omega),tI];rfl
noncomputable def ftF(C7 C3 C1:Addr):List D->R D:=λds=>aJ (eT (Gi C7 C3) sdF C1 (aM 5 ds))
def qy{C7 C3 C1:Addr}:∀ds:List D,ds.length=3->ftF C7 C3 C1 ds=.no\/aJ (eT (Gi C7 C3) sdF C1 (aM 5 ds))=ftF C7 C3 C1 ds:=λ_ _=>.inr rfl
section
variable{C7 C3 C1:Addr}
def Cs{x:List Nat}{w:Nat}(hp:plain x=true)(hl:x.length<=10000)(h1:1<=w)(h2:w<=40):ftF C7 C3 C1 [.str x,.int (w:Int),.str [60]]=.ok (.str (lj w (rD w x))):=by
 have e1:=tE (C7:=C7) (C3:=C3) hp hl h1 h2;have s1:sdF [.str [60]]=.ok (.bl true):=rfl;have kd:∀z:List Nat,gP "str" (.str z)=true:=λ_=>rfl;have l1:=Je (x:=rD w x) (n:=w) (by omega);show aJ (aG _ _ [some (.val (.str x)),some (.val (.int (w:Int))),some (.val (.str [60])),none,none])=_;clear hp hl h1 h2
 walk_at "run"
 all_goals rfl
def yU{x:List Nat}{w:Nat}(hp:plain x=true)(hl:x.length<=10000)(h1:1<=w)(h2:w<=40):ftF C7 C3 C1 [.str x,.int (w:Int),.str [62]]=.ok (.str (rj w (rD w x))):=by
 have e1:=tE (C7:=C7) (C3:=C3) hp hl h1 h2;have s1:sdF [.str [62]]=.ok (.bl true):=rfl;have kd:∀z:List Nat,gP "str" (.str z)=true:=λ_=>rfl;have l1:=Kg (x:=rD w x) (n:=w) (by omega);have n1:(([62]:List Nat)==[60])=false:=rfl;have n2:(([62]:List Nat)==[62])=true:=rfl;show aJ (aG _ _ [some (.val (.str x)),some (.val (.int (w:Int))),some (.val (.str [62])),none,none])=_;clear hp hl h1 h2
 walk_at "run"
 all_goals rfl
def Ft{x:List Nat}{w:Nat}(hp:plain x=true)(hl:x.length<=10000)(h1:1<=w)(h2:w<=40):ftF C7 C3 C1 [.str x,.int (w:Int),.str [94]]=.ok (.str (lj w (List.replicate ((w - (rD w x).length) / 2) 32++rD w x))):=by
 have e1:=tE (C7:=C7) (C3:=C3) hp hl h1 h2;have hc:=ux h1 x;have lb:=fJ;have s1:sdF [.str [94]]=.ok (.bl true):=rfl;have kd:∀z:List Nat,gP "str" (.str z)=true:=λ_=>rfl;have n1:(([94]:List Nat)==[60])=false:=rfl;have n2:(([94]:List Nat)==[62])=false:=rfl;generalize rD w x=y at *;have k1:(w:Int) - (y.length:Int)=((w - y.length:Nat):Int):=by omega
 have d1:sX (.int ((w - y.length:Nat):Int)) (.int 2)=some (.int (((w - y.length) / 2:Nat):Int)):=by simp only[sX];rw[if_pos (by omega)];congr 2
 have m1:dz (.str [32]) (.int (((w - y.length) / 2:Nat):Int))=some (.str (List.replicate ((w - y.length) / 2) 32)):=HN (by omega);have a1:bT (.str (List.replicate ((w - y.length) / 2) 32)) (.str y)=some (.str (List.replicate ((w - y.length) / 2) 32++y)):=Ap (by simp;omega);have l1:=Je (x:=List.replicate ((w - y.length) / 2) 32++y) (n:=w) (by omega);generalize List.replicate ((w - y.length) / 2) 32++y=u at *;generalize List.replicate ((w - y.length) / 2) 32=v at *;show aJ (aG _ _ [some (.val (.str x)),some (.val (.int (w:Int))),some (.val (.str [94])),none,none])=_;clear hp hl h1 h2 hc lb
 walk_at "run"
 all_goals rfl
end
noncomputable def fN(aE:List D->R D):Ev->O:=(aG (dv (sB (aK (fu Dp) (rvz 0)) (gOf yV (aa (aX (cC (aK bg (rvz 0)) [] (λ_=>R.ok true) (aR 3 aE (aa (rvz 0) (aa (ciz 0) (aa (ciz 99) nlz)))))) nlz)))) oNx)
noncomputable def qw:Ev->O:=(vx 2 (cC (aK bg (rvz 0)) [] (λ_=>R.ok true) (ciz 0)))
noncomputable def pY:Ev->O:=(fZ 3 (gOf F6 (aa (rvz 1) (aa (gOf CO (aa (rvz 0) nlz)) nlz))))
noncomputable def jK:Ev->O:=(aG (HD 2 (wx (gB2 gtD (rvz 3) (ciz 0)) (gB2 ltD (g2 ixD (rvz 2) (rvz 4)) (rvz 5))) (aG (oI 2 (λi j=>i+j) (rvz 4) (ciz 1)) (aG (fZ 3 (g2 (GJ (λi j=>i - j)) (rvz 3) (ciz 1))) oNx)) oNx) oNx)
noncomputable def eA:Ev->O:=(aG (yH (qH [4,5]) (aK rT (rvz 0)) jK) oNx)
noncomputable def qL:Ev->O:=(xU 1000 (gB2 gtD (rvz 3) (ciz 0)) eA)
noncomputable def qp:Ev->O:=(dv (rvz 2))
noncomputable def jX:Ev->O:=(aG qw (aG pY (aG qL (pU 2 (aG qp oNx)))))
noncomputable def fP(eB aE bE:List D->R D)(aw ao:Addr):Ev->O:=(aG (oIf (gBn (aK fO (aR 1 eB (aa (rvz 0) nlz)))) (aG (iP aw (aa (csz [119,105,115,104,101,115,32,97,114,101,32,119,104,111,108,101,32,110,117,109,98,101,114,115,32,102,114,111,109,32,48,32,116,111,32,57,57]) nlz)) oNx) oNx) (aG (oIf (gBn (aK fO (aR 3 aE (aa (rvz 1) (aa (ciz 0) (aa (ciz 999) nlz)))))) (aG (iP ao (aa (csz [97,32,114,111,111,109,32,116,111,32,98,101,32,115,104,97,114,101,100,32,111,117,116,32,105,115,32,102,114,111,109,32,48,32,116,111,32,57,57,57,32,115,105,103,110,115,32,119,105,100,101]) nlz)) oNx) oNx) (aG (dv (aR 2 bE (aa (rvz 0) (aa (rvz 1) nlz)))) oNx)))
noncomputable def lv(r p i w:Nat):Nat:=min w (r+if i<p then 1 else 0)
noncomputable def eh(ws:List Nat)(r p:Nat):List Nat:=(List.range ws.length).map λi=>lv r p i (ws.getD i 0)
def bi(ws:List Nat)(r p:Nat):(eh ws r p).length=ws.length:=by simp[eh]
def tZ{r p:Nat}(h:i<ws.length):(eh ws r p)[i]?=some (lv r p i (ws.getD i 0)):=by unfold eh;rw[List.getElem?_map,List.getElem?_range h];rfl
def bP{r p:Nat}(h:i<ws.length):(eh ws r p).getD i 0=lv r p i (ws.getD i 0):=by rw[xZ,tZ h];rfl
def kQ{a b:List Nat}(h1:a.length=b.length)(h2:∀k,k<a.length->a.getD k 0=b.getD k 0):a=b:=by apply Yg h1;intro k h3 h4;have:=h2 k h3;rw[xZ,xw h3,xZ,xw h4]at this;exact this
def Bq(ws:List Nat)(r:Nat):eh ws r ws.length=eh ws (r+1) 0:=by refine kQ (by simp[bi]) λk hk=>?_;rw[bi]at hk;rw[bP hk,bP hk];unfold lv;rw[if_pos hk,if_neg (by omega)]
theorem xn:∀{a b:List Nat},a.length=b.length->(∀k,k<a.length->a.getD k 0<=b.getD k 0)->a.sum<=b.sum
 | [],[],_,_=>yo _
 | [],_::_,h,_=>by simp at h
 |_::_,[],h,_=>by simp at h
 |x::a,y::b,h,H=>by
  have h0:=H 0 (by simp);have ih:=xn (a:=a) (b:=b) (by simpa using h) λk hk=>by have:=H (k+1) (by simp;omega);simpa using this
  simp at h0⊢;omega
theorem Bo:∀{a b:List Nat},a.length=b.length->(∀k,k<a.length->a.getD k 0<=b.getD k 0)->b.sum<=a.sum->a=b
 | [],[],_,_,_=>rfl
 | [],_::_,h,_,_=>by simp at h
 |_::_,[],h,_,_=>by simp at h
 |x::a,y::b,h,H,hs=>by
  have h0:=H 0 (by simp);have H':∀k,k<a.length->a.getD k 0<=b.getD k 0:=λk hk=>by have:=H (k+1) (by simp;omega);simpa using this
  have hl:a.length=b.length:=by simpa using h
  have h1:=xn hl H';simp at h0 hs;have ih:=Bo hl H' (by omega);subst ih
  congr 1;omega
noncomputable def ku:List Nat->Nat->List Nat->Nat->List Nat×Nat
 | [],_,gs,l=>(gs,l)
 |w::ws,k,gs,l=>if 0<l/\gs.getD k 0<w then ku ws (k+1) (gs.set k (gs.getD k 0+1)) (l - 1)else ku ws (k+1) gs l
theorem Bj:∀(ws:List Nat)(k:Nat)(gs:List Nat),ku ws k gs 0=(gs,0)
 | [],_,_=>rfl
 |w::ws,k,gs=>by rw[ku,if_neg (by omega),Bj ws]
theorem xc:∀(gs:List Nat)(k:Nat),k<gs.length->(gs.set k (gs.getD k 0+1)).sum=gs.sum+1
 | [],k,h=>by simp at h
 |g::gs,0,_=>by simp;omega
 |g::gs,k+1,h=>by have:=xc gs k (by simpa using h);simp only[List.getD_cons_succ,Yh,j8];omega
def AB{r:Nat}(hk:k<ws.length)(h:r<ws.getD k 0):(eh ws r k).set k ((eh ws r k).getD k 0+1)=eh ws r (k+1):=by
 refine kQ (by simp[bi]) λi hi=>?_;rw[ZU,bi]at hi;rw[bP hi,xZ,Z5,bi];by_cases e:k=i;·subst e;rw[if_pos rfl,if_pos hk,bP hk];unfold lv;rw[if_neg (by omega),if_pos (by omega)];show min _ _+1=_;omega
 ·rw[if_neg e,tZ hi];show lv _ _ _ _=_;unfold lv;by_cases c:i<k;·rw[if_pos c,if_pos (by omega)]
  ·rw[if_neg c,if_neg (by omega)]
def AJ{r:Nat}(hk:k<ws.length)(h:ws.getD k 0<=r):eh ws r k=eh ws r (k+1):=by
 refine kQ (by simp[bi]) λi hi=>?_;rw[bi]at hi;rw[bP hi,bP hi];unfold lv;by_cases e:i=k;·subst e;rw[if_neg (by omega),if_pos (by omega)];omega
 ·by_cases c:i<k;·rw[if_pos c,if_pos (by omega)]
  ·rw[if_neg c,if_neg (by omega)]
theorem kB(ws:List Nat)(r:Nat):∀(m k l:Nat),k+m=ws.length->∃p' l',p'<=ws.length/\ku (ws.drop k) k (eh ws r k) l=(eh ws r p',l')/\(eh ws r p').sum+l'=(eh ws r k).sum+l/\(0<l'->p'=ws.length)
 | 0,k,l,h=>⟨k,l,by omega,by rw[List.drop_of_length_le (by omega)];rfl,rfl,λ_=>by omega⟩
 |m+1,k,l,h=>by
  have hk:k<ws.length:=by omega
  have e:ws.drop k=ws.getD k 0::ws.drop (k+1):=by rw[Zu hk,xZ,xw hk];rfl
  have eg:(eh ws r k).getD k 0=min (ws.getD k 0) r:=by rw[bP hk];unfold lv;rw[if_neg (by omega)];rfl
  rw[e,ku];by_cases c:0<l/\(eh ws r k).getD k 0<ws.getD k 0
  ·rw[if_pos c];have hr:r<ws.getD k 0:=by omega
   have es:=AB hk hr;have hs:=xc (eh ws r k) k (by rw[bi];exact hk);rw[es]at hs⊢;obtain⟨p',l',h1,h2,h3,h4⟩:=kB ws r m (k+1) (l - 1) (by omega);exact⟨p',l',h1,h2,by omega,h4⟩
  ·rw[if_neg c];by_cases hl:l=0;·subst hl;exact⟨k,0,by omega,Bj _ _ _,rfl,λz=>by omega⟩
   ·have hw:ws.getD k 0<=r:=by omega
    rw[AJ hk hw];exact kB ws r m (k+1) l (by omega)
noncomputable def whL:Nat->List Nat->List Nat->Nat->List Nat
 | 0,_,gs,_=>gs
 |n+1,ws,gs,l=>if 0<l then whL n ws (ku ws 0 gs l).1 (ku ws 0 gs l).2 else gs
def uo{r:Nat}(h:(eh ws (r+1) 0).sum<=(eh ws r 0).sum):(eh ws r 0).sum=ws.sum:=by
 have e:=Bo (a:=eh ws r 0) (b:=eh ws (r+1) 0) (by simp[bi]) (λk hk=>by
  rw[bi]at hk;rw[bP hk,bP hk];unfold lv;simp only[Nat.not_lt_zero,if_false];omega) h;have:eh ws r 0=ws:=by
  refine kQ (bi ..) λk hk=>?_;have e2:(eh ws r 0).getD k 0=(eh ws (r+1) 0).getD k 0:=n0 (λl=>l.getD k 0) e;rw[bi]at hk;rw[bP hk,bP hk]at e2;rw[bP hk];unfold lv at e2⊢;simp only[Nat.not_lt_zero,qd]at e2⊢;omega
 rw[this]
theorem AU(ws:List Nat):∀(n r l:Nat),l<n->(eh ws r 0).sum+l<=ws.sum->∃r' p',p'<=ws.length/\whL n ws (eh ws r 0) l=eh ws r' p'/\(eh ws r' p').sum=(eh ws r 0).sum+l
 | 0,r,l,h,_=>by omega
 |n+1,r,l,h,hs=>by
  rw[whL];by_cases hl:0<l
  ·rw[if_pos hl];obtain⟨p',l',h1,h2,h3,h4⟩:=kB ws r ws.length 0 l (by omega);rw[Z2]at h2;rw[h2];by_cases hl':0<l'
   ·have hp:=h4 hl';subst hp;rw[Bq]at h3⊢;have hlt:l'<l:=by
     by_cases q:l'<l;·exact q
     ·have:=uo (ws:=ws) (r:=r) (by omega);omega
    obtain⟨r',p'',a1,a2,a3⟩:=AU ws n (r+1) l' (by omega) (by omega);exact⟨r',p'',a1,a2,by omega⟩
   ·have:l'=0:=by omega
    subst this;refine⟨r,p',h1,?_,by omega⟩;cases n with
    |zero=>rfl
    |succ n=>rw[whL,if_neg (by omega)]
  ·have:l=0:=by omega
   subst this;rw[if_neg hl];exact⟨r,0,by omega,rfl,by omega⟩
noncomputable def shL(ws:List Nat)(room:Nat):List Nat:=whL 1000 ws (ws.map λ_=>0) (min room ws.sum)
def xr(ws:List Nat):ws.map (λ_=>0)=eh ws 0 0:=by refine kQ (by simp[bi]) λk hk=>?_;rw[za]at hk;rw[bP hk,xZ,v8,xw hk];unfold lv;simp
def Ha(ws:List Nat):(eh ws 0 0).sum=0:=by
 rw[<- xr];induction ws with
 |nil=>rfl
 |cons w ws ih=>simpa using ih
def wv(ws:List Nat){room:Nat}(h:room<=999):∃r p,p<=ws.length/\shL ws room=eh ws r p/\(eh ws r p).sum=min room ws.sum:=by
 have z:(eh ws 0 0).sum=0:=by
  rw[<- xr];induction ws with
  |nil=>rfl
  |cons w ws ih=>simpa using ih
 obtain⟨r,p,h1,h2,h3⟩:=AU ws 1000 0 (min room ws.sum) (by omega) (by omega);refine⟨r,p,h1,?_,by omega⟩;unfold shL;rw[xr,h2]
noncomputable def Af:D->Option (List D)
 |.lst _ ds=>some ds
 |.tup ds=>some ds
 |_=>none
def rV(h:Af d=some ds):fu Dp d=.ok (.bl true)/\df [d]=some (.int (ds.length:Int))/\bg d=.ok ds/\rT d=.ok (bN 0 ds):=by
 cases d <;> first|(cases h;done)|skip
 ·cases h;exact⟨rfl,rfl,rfl,rfl⟩
 ·cases h;exact⟨rfl,rfl,rfl,rfl⟩
def Dw(h:Af d=none)(he:qv d=true):fu Dp d=.ok (.bl false):=by cases d <;> first|(cases h;done)|(cases he;done)|rfl
noncomputable def AN(d:D):Bool:=match Af d with
 |some ds=>ds.all λw=>inB w 0 99
 |none=>false
noncomputable def awF:List D->R D
 | [d]=>match Af d with
  |some ds=>if ds.all qv=true/\ds.length<=1000 then .ok (.bl (AN d))else .no
  |none=>if qv d=true then .ok (.bl false)else .no
 |_=>.no
def pL:∀ds:List D,ds.length=1->awF ds=.no\/aJ (fN mv (aM 1 ds))=awF ds:=by
 intro ds hl
 match ds,hl with
 | [d],_=>
  cases h1:Af d with
  |none=>
   by_cases h2:qv d=true
   ·refine Or.inr ?_;have e1:awF [d]=.ok (.bl false):=by simp only[awF,h1];exact if_pos h2
    have t1:=Dw h1 h2;rw[e1];show aJ (aG _ _ [some (.val d)])=_;clear hl h1 h2 e1
    walk_at "run"
   ·exact Or.inl (by simp only[awF,h1];exact if_neg h2)
  |some l=>
   by_cases h2:l.all qv=true/\l.length<=1000
   ·refine Or.inr ?_;have e1:awF [d]=.ok (.bl (l.all λw=>inB w 0 99)):=by simp only[awF,AN,h1];exact if_pos h2
    obtain⟨t1,_,t3',_⟩:=rV h1;rw[e1];have lb:=fJ;have e:cH (λ_=>R.ok true) (aR 3 mv (aa (rvz 0) (aa (ciz 0) (aa (ciz 99) nlz)))) l [none]=.ok (l.map λd=>.bl (inB d 0 99)):=by
     refine br _ [] _ none λd hd=>⟨rfl,?_⟩
     have q:=vw (lo:=0) (hi:=99) (v6.1 h2.1 d hd);clear hl h1 h2 e1 t1 t3' hd
     walk_at "run"
    have al:=jE (λd=>inB d 0 99) false l;have z:(l.map λd=>D.bl (inB d 0 99)).length<=sizeLine:=by simp;omega
    have i1:cP [] [some (.val d)]=[none]:=rfl;show aJ (aG _ _ [some (.val d)])=_;clear hl h1 h2 e1 lb
    walk_at "run"
   ·exact Or.inl (by simp only[awF,h1];exact if_neg h2)
noncomputable def iD(n:Nat):D:=.int (n:Int)
noncomputable def pK:List D->Option (List Nat)
 | []=>some []
 |.int i::ds=>if 0<=i then (pK ds).map (i.toNat::·)else none
 |_=>none
theorem qB:∀ws:List Nat,pK (ws.map iD)=some ws
 | []=>rfl
 |w::ws=>by show(if 0<=(w:Int)then (pK (ws.map iD)).map ((w:Int).toNat::·)else none)=_;rw[if_pos (by omega),qB ws,tI];rfl
theorem uz:∀{ds:List D}{ws:List Nat},pK ds=some ws->ds=ws.map iD
 | [],_,e=>by cases e;rfl
 |d::ds,ws,e=>by
  cases d <;> first|(cases e;done)|skip
  rename_i i;have e:(if 0<=i then (pK ds).map (i.toNat::·)else none)=some ws:=e;by_cases h:0<=i
  ·rw[if_pos h]at e;cases h2:pK ds with
   |none=>rw[h2]at e;cases e
   |some ws'=>rw[h2]at e;cases e;rw[uz h2,tv];show D.int i::_=D.int (i.toNat:Int)::_;rw[j5 h]
  ·rw[if_neg h]at e;cases e
theorem ox:∀ws:List Nat,kz (ws.map iD)=some (ws.map λ(w:Nat)=>(w:Int))
 | []=>rfl
 |w::ws=>by show(kz (ws.map iD)).map ((w:Int)::·)=_;rw[ox ws];rfl
theorem pH:∀ws:List Nat,(ws.map λ(w:Nat)=>(w:Int)).sum=((ws.sum:Nat):Int)
 | []=>rfl
 |w::ws=>by rw[tv,j8,pH ws,j8];omega
def CA(h:Af d=some (ws.map iD)):CO [d]=some (.int ((ws.sum:Nat):Int)):=by
 cases d <;> first|(cases h;done)|skip
 ·cases h;simp only[CO,ox,pH]
 ·cases h;simp only[CO,ox,pH]
def oa(c:Nat)(x:D)(xs:List D):bN c (x::xs)=.tup [.int (c:Int),x]::bN (c+1) xs:=by
 unfold bN;rw[r6,List.range_succ_eq_map,tv,v9];refine n0 (_::·) (mH λi _=>?_);simp only[Function.comp,List.getD_cons_succ]
 congr 2
 congr 1
 congr 1
 omega
def uY(x0 x1:Option Sl)(gs:List Nat)(k l w:Nat)(hk:k<gs.length):jK [x0,x1,some (.own (gs.map iD)),some (.val (.int (l:Int))),some (.val (.int (k:Int))),some (.val (.int (w:Int)))]=if 0<l/\gs.getD k 0<w then .nx [x0,x1,some (.own ((gs.set k (gs.getD k 0+1)).map iD)),some (.val (.int ((l - 1:Nat):Int))),some (.val (.int (k:Int))),some (.val (.int (w:Int)))]else .nx [x0,x1,some (.own (gs.map iD)),some (.val (.int (l:Int))),some (.val (.int (k:Int))),some (.val (.int (w:Int)))]:=by
 have f2:∀(a0 a1 a3 a4 a5:Option Sl)(ds:List D),frz 2 [a0,a1,some (.own ds),a3,a4,a5]=[a0,a1,some (.val (.lst false ds)),a3,a4,a5]:=λ_ _ _ _ _ _=>rfl;have eg:(gs.map iD)[k]?=some (.int (gs.getD k 0:Nat)):=by rw[v8,xw hk,xZ,xw hk];rfl
 have x1':ixD (.lst false (gs.map iD)) (.int (k:Int))=some (.int (gs.getD k 0:Nat)):=Ci eg;have au:∀(a0 a1 a3 a5:Option Sl),oI 2 (λi j=>i+j) (rvz 4) (ciz 1) [a0,a1,some (.own (gs.map iD)),a3,some (.val (.int (k:Int))),a5]=.nx [a0,a1,some (.own ((gs.set k (gs.getD k 0+1)).map iD)),a3,some (.val (.int (k:Int))),a5]:=by
  intro a0 a1 a3 a5;show(if 0<=(k:Int)then (match (gs.map iD)[(k:Int).toNat]? with
   |some (.int a)=>O.nx [a0,a1,some (.own ((gs.map iD).set (k:Int).toNat (.int (a+1)))),a3,some (.val (.int (k:Int))),a5]
   |_=>.no)else .no)=_;rw[if_pos (by omega),tI,eg];show O.nx [a0,a1,some (.own ((gs.map iD).set k (.int (((gs.getD k 0:Nat):Int)+1)))),a3,some (.val (.int (k:Int))),a5]=_;have:(gs.set k (gs.getD k 0+1)).map iD=(gs.map iD).set k (.int (((gs.getD k 0:Nat):Int)+1)):=by rw[List.map_set];rfl
  rw[this]
 have ii:∀i j:Int,GJ (λi j=>i - j) (.int i) (.int j)=some (.int (i - j)):=λ_ _=>rfl;unfold jK;by_cases h1:0<l
 ·have q1:decide ((l:Int) > 0)=true:=by simp;omega
  have k1:(l:Int) - 1=((l - 1:Nat):Int):=by omega
  by_cases h2:gs.getD k 0<w
  ·have q2:decide (((gs.getD k 0:Nat):Int)<(w:Int))=true:=by rw[d4];omega
   rw[if_pos ⟨h1,h2⟩];clear h1 h2 hk eg
   walk_at "run"
  ·have q2:decide (((gs.getD k 0:Nat):Int)<(w:Int))=false:=by rw[decide_eq_false_iff_not];omega
   rw[if_neg (λz=>h2 z.2)];clear h1 h2 hk eg
   walk_at "run"
 ·have q1:decide ((l:Int) > 0)=false:=by simp;omega
  rw[if_neg (λz=>h1 z.1)];clear h1 hk eg
  walk_at "run"
theorem ke(x0 x1:Option Sl):∀(ws gs:List Nat)(k l:Nat)(x4 x5:Option Sl),k+ws.length<=gs.length->∃y4 y5,eR (qH [4,5]) jK (bN k (ws.map iD)) [x0,x1,some (.own (gs.map iD)),some (.val (.int (l:Int))),x4,x5]
  = .nx [x0,x1,some (.own ((ku ws k gs l).1.map iD)),some (.val (.int ((ku ws k gs l).2:Nat))),y4,y5]
 | [],gs,k,l,x4,x5,_=>⟨x4,x5,rfl⟩
 |w::ws,gs,k,l,x4,x5,h=>by
  simp only[r6]at h;have hB:=uY x0 x1 gs k l w (by omega);rw[tv,oa];by_cases c:0<l/\gs.getD k 0<w;·rw[if_pos c]at hB;obtain⟨y4,y5,ih⟩:=ke x0 x1 ws (gs.set k (gs.getD k 0+1)) (k+1) (l - 1) (some (.val (.int (k:Int)))) (some (.val (.int (w:Int)))) (by rw[ZU];omega);refine⟨y4,y5,?_⟩;rw[je (ρ1:=[x0,x1,some (.own (gs.map iD)),some (.val (.int (l:Int))),some (.val (.int (k:Int))),some (.val (.int (w:Int)))]) rfl hB,ih,ku,if_pos c]
  ·rw[if_neg c]at hB;obtain⟨y4,y5,ih⟩:=ke x0 x1 ws gs (k+1) l (some (.val (.int (k:Int)))) (some (.val (.int (w:Int)))) (by omega);refine⟨y4,y5,?_⟩;rw[je (ρ1:=[x0,x1,some (.own (gs.map iD)),some (.val (.int (l:Int))),some (.val (.int (k:Int))),some (.val (.int (w:Int)))]) rfl hB,ih,ku,if_neg c]
theorem kR{d:D}{ws:List Nat}(hd:Af d=some (ws.map iD))(x1:Option Sl):∀(n r l:Nat)(x4 x5:Option Sl),l<n->(eh ws r 0).sum+l<=ws.sum->∃y4 y5,fb (gB2 gtD (rvz 3) (ciz 0)) eA n [some (.val d),x1,some (.own ((eh ws r 0).map iD)),some (.val (.int (l:Int))),x4,x5]
  = .nx [some (.val d),x1,some (.own ((whL n ws (eh ws r 0) l).map iD)),some (.val (.int 0)),y4,y5]
 | 0,r,l,x4,x5,h,_=>by omega
 |n+1,r,l,x4,x5,h,hs=>by
  obtain⟨_,_,_,te⟩:=rV hd;by_cases hl:0<l
  ·obtain⟨p',l',h1,h2,h3,h4⟩:=kB ws r ws.length 0 l (by omega);rw[Z2]at h2;obtain⟨z4,z5,hp⟩:=ke (some (.val d)) x1 ws (eh ws r 0) 0 l x4 x5 (by rw[bi];omega);have hb:eA [some (.val d),x1,some (.own ((eh ws r 0).map iD)),some (.val (.int (l:Int))),x4,x5]=.nx [some (.val d),x1,some (.own ((eh ws r p').map iD)),some (.val (.int (l':Int))),z4,z5]:=by
    rw[h2]at hp;unfold eA;clear h h1 h2 h3 h4 hs hl hd
    walk_at "run"
   have hc:gB2 gtD (rvz 3) (ciz 0) [some (.val d),x1,some (.own ((eh ws r 0).map iD)),some (.val (.int (l:Int))),x4,x5]=.ok true:=by
    have q1:decide ((l:Int) > 0)=true:=by simp;omega
    clear h h1 h2 h3 h4 hs hl hd hp hb te
    walk_at "run"
   rw[fb,hc];show ∃y4 y5,(match eA [some (.val d),x1,some (.own ((eh ws r 0).map iD)),some (.val (.int (l:Int))),x4,x5]with
    |.nx ρ2=>fb (gB2 gtD (rvz 3) (ciz 0)) eA n ρ2
    |.ct ρ2=>fb (gB2 gtD (rvz 3) (ciz 0)) eA n ρ2
    |.bk ρ2=>.nx ρ2
    |.rt d=>.rt d
    |.re d ρ2=>.re d ρ2
    |.ex C ρ2=>.ex C ρ2
    |.no=>.no)=_;rw[hb,whL,if_pos hl,h2];show ∃y4 y5,fb _ eA n _=_;by_cases hl':0<l'
   ·have hp':=h4 hl';subst hp';rw[Bq]at h3⊢;have hlt:l'<l:=by
     by_cases q:l'<l;·exact q
     ·have:=uo (ws:=ws) (r:=r) (by omega);omega
    exact kR hd x1 n (r+1) l' z4 z5 (by omega) (by omega)
   ·have:l'=0:=by omega
    subst this;cases n with
    |zero=>omega
    |succ n=>
     refine⟨z4,z5,?_⟩;have hc2:gB2 gtD (rvz 3) (ciz 0) [some (.val d),x1,some (.own ((eh ws r p').map iD)),some (.val (.int ((0:Nat):Int))),z4,z5]=.ok false:=by
      have q1:decide (((0:Nat):Int) > 0)=false:=by decide
      clear h h1 h2 h3 h4 hs hl hd hp hb te hc
      walk_at "run"
     rw[fb,hc2,whL,if_neg (by omega)];rfl
  ·have:l=0:=by omega
   subst this;refine⟨x4,x5,?_⟩;have hc2:gB2 gtD (rvz 3) (ciz 0) [some (.val d),x1,some (.own ((eh ws r 0).map iD)),some (.val (.int ((0:Nat):Int))),x4,x5]=.ok false:=by
    have q1:decide (((0:Nat):Int) > 0)=false:=by decide
    clear h hs hl hd te
    walk_at "run"
   rw[fb,hc2,whL,if_neg (by omega)];rfl
noncomputable def shF:List D->R D
 | [d,.int room]=>match Af d with
  |some ds=>match pK ds with
   |some ws=>if 0<=room/\room<=999/\ws.length<=1000 then .ok (.lst false ((shL ws room.toNat).map iD))else .no
   |none=>.no
  |none=>.no
 |_=>.no
def wt:∀ds:List D,ds.length=2->shF ds=.no\/aJ (jX (aM 6 ds))=shF ds:=by
 intro ds hl
 match ds,hl with
 | [d,e],_=>
  cases e <;> first|exact Or.inl rfl|skip
  rename_i room hl;cases h1:Af d with
  |none=>exact Or.inl (by simp only[shF,h1])
  |some l=>
   cases h2:pK l with
   |none=>exact Or.inl (by simp only[shF,h1,h2])
   |some ws=>
    by_cases h3:0<=room/\room<=999/\ws.length<=1000
    ·refine Or.inr ?_;have e1:shF [d,.int room]=.ok (.lst false ((shL ws room.toNat).map iD)):=by simp only[shF,h1,h2];exact if_pos h3
     rw[e1];have hds:=uz h2;subst hds;obtain⟨room,rfl⟩:=Ya h3.1;rw[tI];obtain⟨t1,t2',t3',t4'⟩:=rV h1;have sm:=CA h1;have lb:=fJ;have mn:F6 [.int (room:Int),.int ((ws.sum:Nat):Int)]=some (.int ((min room ws.sum:Nat):Int)):=by
      have e9:(if ((ws.sum:Nat):Int)<(room:Int)then ((ws.sum:Nat):Int)else (room:Int))=((min room ws.sum:Nat):Int):=by split <;> omega
      rw[<- e9];rfl
     have z0:=Ha ws;obtain⟨y4,y5,hw⟩:=kR h1 (some (.val (.int (room:Int)))) 1000 0 (min room ws.sum) none none (by omega) (by omega);have hw:qL [some (.val d),some (.val (.int (room:Int))),some (.own ((eh ws 0 0).map iD)),some (.val (.int ((min room ws.sum:Nat):Int))),none,none]=.nx [some (.val d),some (.val (.int (room:Int))),some (.own ((shL ws room).map iD)),some (.val (.int 0)),y4,y5]:=by unfold shL;rw[xr];exact hw
     have e:cH (λ_=>R.ok true) (ciz 0) (ws.map iD) [none]=.ok ((eh ws 0 0).map iD):=by
      have:=br (gt:=λ_=>R.ok true) (ge:=λ_=>R.ok (D.int 0)) (λ_=>.int 0) [] (ws.map iD) none λd _=>⟨rfl,rfl⟩
      rw[this,<- xr,v9,v9];rfl
     have z:((eh ws 0 0).map iD).length<=sizeLine:=by rw[za,bi];omega
     have i1:cP [] [some (.val d),some (.val (.int (room:Int))),none,none,none,none]=[none]:=rfl;have f2:∀(a0 a1 a3 a4 a5:Option Sl)(ds:List D),frz 2 [a0,a1,some (.own ds),a3,a4,a5]=[a0,a1,some (.val (.lst false ds)),a3,a4,a5]:=λ_ _ _ _ _ _=>rfl;show aJ (aG _ _ [some (.val d),some (.val (.int room)),none,none,none,none])=_;unfold qw pY qp;clear hl h1 h2 h3 e1 lb z0
     walk_at "run"
    ·exact Or.inl (by simp only[shF,h1,h2];exact if_neg h3)
noncomputable def soF(C1 C3:Addr):List D->R D
 | [d,e]=>match awF [d]with
  |.ok (.bl true)=>(match mv [e,.int 0,.int 999]with
   |.ok (.bl true)=>shF [d,e]
   |.ok (.bl false)=>.ex C3
   |_=>.no)
  |.ok (.bl false)=>.ex C1
  |_=>.no
 |_=>.no
def pe{C1 C3:Addr}:∀ds:List D,ds.length=2->soF C1 C3 ds=.no\/aJ (fP awF mv shF C1 C3 (aM 2 ds))=soF C1 C3 ds:=by
 intro ds hl
 match ds,hl with
 | [d,e],_=>
  have tb:∀b:Bool,fO (.bl b)=.ok b:=λ_=>rfl;show _\/aJ (aG _ _ [some (.val d),some (.val e)])=_;cases h1:awF [d]with
  |no=>exact Or.inl (by simp only[soF,h1])
  |ex C=>exact Or.inl (by simp only[soF,h1])
  |ok v=>
   cases v <;> first|(refine Or.inl ?_;simp only[soF,h1];done)|skip
   rename_i b;cases b with
   |false=>
    refine Or.inr ?_;have e1:soF C1 C3 [d,e]=.ex C1:=by simp only[soF,h1]
    rw[e1];clear hl e1
    walk_at "run"
    all_goals rfl
   |true=>
    cases h2:mv [e,.int 0,.int 999]with
    |no=>exact Or.inl (by simp only[soF,h1,h2])
    |ex C=>exact Or.inl (by simp only[soF,h1,h2])
    |ok v=>
     cases v <;> first|(refine Or.inl ?_;simp only[soF,h1,h2];done)|skip
     rename_i b;cases b with
     |false=>
      refine Or.inr ?_;have e1:soF C1 C3 [d,e]=.ex C3:=by simp only[soF,h1,h2]
      rw[e1];clear hl e1
      walk_at "run"
      all_goals rfl
     |true=>
      have e1:soF C1 C3 [d,e]=shF [d,e]:=by simp only[soF,h1,h2]
      rw[e1];cases h3:shF [d,e]with
      |no=>exact Or.inl rfl
      |ex C=>
       refine Or.inr ?_;clear hl e1
       walk_at "run"
       all_goals rfl
      |ok v=>
       refine Or.inr ?_;clear hl e1
       walk_at "run"
       all_goals rfl
def AG{r p v:Nat}(h:v∈eh ws r p):∃i,i<ws.length/\v=lv r p i (ws.getD i 0):=by obtain⟨i,h1,h2⟩:=v7.1 h;exact⟨i,oB.1 h1,h2.symm⟩
theorem jZ:∀{l:List Nat}{v:Nat},v∈l->v<=l.sum
 |a::l,v,h=>by
  rw[j8];rcases v0.1 h with rfl|h;·omega
  ·have:=jZ h;omega
theorem nF:∀{l:List Nat},(∀v∈l,1<=v)->l.length<=l.sum
 | [],_=>yo _
 |a::l,h=>by have h1:=h a (sS ..);have h2:=nF (l:=l) λv hv=>h v (rO _ hv);rw[j8,r6];omega
def GD(ws:List Nat){room:Nat}(h:room<=999):(shL ws room).length=ws.length:=by obtain⟨r,p,_,e,_⟩:=wv ws h;rw[e,bi]
def AR(ws:List Nat){room:Nat}(h:room<=999):(shL ws room).sum<=room:=by obtain⟨r,p,_,e,e2⟩:=wv ws h;rw[e,e2];omega
def Fk{room:Nat}(h:room<=999)(hw:∀w∈ws,1<=w)(hr:ws.length<=room):∀v∈shL ws room,1<=v:=by
 obtain⟨r,p,hp,e,e2⟩:=wv ws h;have hs:=nF hw;rw[e];intro v hv;obtain⟨i,hi,rfl⟩:=AG hv;have hw1:1<=ws.getD i 0:=by rw[xZ,xw hi];exact hw _ (oG hi)
 unfold lv;by_cases r0:1<=r;·split <;> omega
 ·have r0:r=0:=by omega
  subst r0;by_cases hip:i<p;·rw[if_pos hip];omega
  ·exfalso;have hle:∀k,k<(eh ws 0 p).length->(eh ws 0 p).getD k 0<=((List.replicate ws.length 1).set i 0).getD k 0:=by
    intro k hk;rw[bi]at hk;rw[bP hk,xZ (l:=(List.replicate ws.length 1).set i 0),Z5];unfold lv;by_cases ki:i=k;·subst ki;rw[if_neg hip];simp
    ·rw[if_neg ki,i7,if_pos hk];show min _ _<=1;split <;> omega
   have:=xn (a:=eh ws 0 p) (b:=(List.replicate ws.length 1).set i 0) (by rw[bi];simp) hle;have e3:∀(n i:Nat),i<n->((List.replicate n 1).set i 0).sum+1=n:=by
    intro n;induction n with
    |zero=>intro i h;omega
    |succ n ih=>
     intro i h;cases i with
     |zero=>simp[o8]
     |succ i=>have:=ih i (by omega);rw[o8,Yh,j8];omega
   have:=e3 ws.length i hi;omega
noncomputable def dE(aC:List D->R D):Ev->O:=(aG (DL 1 (aX (cC (aK bg (aR 1 aC (aa (g2 ixD (rvz 0) (rvz 2)) nlz))) [2] (λ_=>R.ok true) (g2 bT (aK mkT (aa (rvz 1) nlz)) (rvz 0))))) oNx)
noncomputable def em(aC:List D->R D):Ev->O:=(aG (vx 1 (gG (aa (aK mkT nlz) nlz))) (aG (oIf (aK fO (aK (fu (·=="tuple")) (rvz 0))) (aG (yH (iT 2) (aK bQ (aa (gOf df (aa (rvz 0) nlz)) nlz)) (dE aC)) oNx) oNx) (pU 1 (aG (dv (rvz 1)) oNx))))
noncomputable def gE(aN:List D->R D):Ev->O:=(aG (oIf (gB2 eqF (rvz 1) (aK mkT nlz)) (aG (dv (rvz 2)) oNx) oNx) (aG (fZ 3 (g2 ixD (rvz 1) (ciz 0))) (aG (dv (g2 bT (g2 bT (gSl (rvz 0) (λ_=>R.ok none) (jy (rvz 3))) (aK mkT (aa (aR 3 aN (aa (g2 ixD (rvz 0) (rvz 3)) (aa (gSl (rvz 1) (jy (ciz 1)) (λ_=>R.ok none)) (aa (rvz 2) nlz)))) nlz))) (gSl (rvz 0) (jy (g2 bT (rvz 3) (ciz 1))) (λ_=>R.ok none)))) oNx)))
noncomputable def cY(aC af aN:List D->R D):Ev->O:=(fZ 3 (aR 1 aC (aa (rvz 2) nlz)))
noncomputable def cX(aC af aN:List D->R D):Ev->O:=(fZ 4 (g2 ixD (rvz 3) (aR 3 af (aa (rvz 0) (aa (rvz 1) (aa (gOf df (aa (rvz 3) nlz)) nlz))))))
noncomputable def de(aC af aN:List D->R D):Ev->O:=(fZ 5 (rvz 2))
noncomputable def ck(aC af aN:List D->R D):Ev->O:=(aG (fZ 5 (g2 ixD (rvz 5) (rvz 6))) oNx)
noncomputable def dq(aC af aN:List D->R D):Ev->O:=(yH (iT 6) (aK bg (rvz 4)) (ck aC af aN))
noncomputable def dn(aC af aN:List D->R D):Ev->O:=(fZ 7 (aX (gG (aa (ciz 0) (aa (ciz 1) (aa (ciz 2) (aa (ciz 11) (aa (ciz 12) (aa (ciz 40) (aa (ciz 41) (aa (aK BN (ciz 1)) (aa (λ_=>R.ok (D.bl true)) (aa (λ_=>R.ok D.non) (aa (csz [97]) (aa (csz []) (aa (aK mkT (aa (csz [103,111]) (aa (ciz 0) (aa (ciz 0) nlz)))) (aa (aK mkT (aa (ciz 0) (aa (ciz 0) nlz))) (aa (aX (gG (aa (ciz 0) nlz))) (aa (aK mkT (aa (rvz 5) nlz)) (aa (aK mkT (aa (rvz 5) (aa (rvz 5) nlz))) nlz))))))))))))))))))))
noncomputable def cZ(aC af aN:List D->R D):Ev->O:=(fZ 8 (aR 3 af (aa (rvz 0) (aa (g2 bT (rvz 1) (ciz 1)) (aa (ciz 23) nlz)))))
noncomputable def fm(aC af aN:List D->R D):Ev->O:=(oIf (gB2 ltD (rvz 8) (ciz 17)) (aG (dv (aR 3 aN (aa (rvz 2) (aa (rvz 4) (aa (g2 ixD (rvz 7) (rvz 8)) nlz))))) oNx) oNx)
noncomputable def fk(aC af aN:List D->R D):Ev->O:=(oIf (wx (aK fO (aK (fu (·=="tuple")) (rvz 5))) (gB2 neF (rvz 5) (aK mkT nlz))) (aG (fZ 6 (aR 3 af (aa (rvz 0) (aa (g2 bT (rvz 1) (ciz 2)) (aa (gOf df (aa (rvz 5) nlz)) nlz))))) (aG (dv (aR 3 aN (aa (rvz 2) (aa (rvz 4) (aa (gIf (gB2 ltD (rvz 8) (ciz 20)) (g2 bT (gSl (rvz 5) (λ_=>R.ok none) (jy (rvz 6))) (gSl (rvz 5) (jy (g2 bT (rvz 6) (ciz 1))) (λ_=>R.ok none))) (g2 bT (gSl (rvz 5) (λ_=>R.ok none) (jy (g2 bT (rvz 6) (ciz 1)))) (gSl (rvz 5) (jy (rvz 6)) (λ_=>R.ok none)))) nlz))))) oNx)) oNx)
noncomputable def eM(aC af aN:List D->R D):Ev->O:=(oIf (aK fO (aK (fu (·=="str")) (rvz 5))) (aG (fZ 9 (aR 3 af (aa (rvz 0) (aa (g2 bT (rvz 1) (ciz 2)) (aa (g2 bT (gOf df (aa (rvz 5) nlz)) (ciz 1)) nlz))))) (aG (fZ 10 (g2 ixD (aX (gG (aa (csz [10]) (aa (csz []) (aa (csz [97]) (aa (csz [9]) nlz)))))) (gIf (gB2 gtD (rvz 8) (ciz 19)) (g2 rC (rvz 8) (ciz 19)) (ciz 0)))) (aG (dv (aR 3 aN (aa (rvz 2) (aa (rvz 4) (aa (g2 bT (g2 bT (gSl (rvz 5) (λ_=>R.ok none) (jy (rvz 9))) (rvz 10)) (gSl (rvz 5) (jy (g2 bT (rvz 9) (ciz 1))) (λ_=>R.ok none))) nlz))))) oNx))) oNx)
noncomputable def eK(aC af aN:List D->R D):Ev->O:=(dv (aR 3 aN (aa (rvz 2) (aa (rvz 4) (aa (gIf (aK fO (aK (fu isInt) (rvz 5))) (g2 bT (rvz 5) (ciz 1)) (ciz 7)) nlz)))))
noncomputable def bV(aC af aN:List D->R D):Ev->O:=(aG (cY aC af aN) (aG (cX aC af aN) (aG (de aC af aN) (aG (dq aC af aN) (aG (dn aC af aN) (aG (cZ aC af aN) (aG (fm aC af aN) (aG (fk aC af aN) (aG (eM aC af aN) (aG (eK aC af aN) oNx))))))))))
noncomputable def cV:Ev->O:=(aG (dv (sB (aK (fu (·=="str")) (rvz 0)) (g2 eqF (aX (cC (aK bg (rvz 0)) [] (gBn (gB3 leD leD (ciz 32) (gOf DJ (aa (rvz 0) nlz)) (ciz 126))) (rvz 0))) (aX (gG nlz))))) oNx)
def lZ:∀ds:List D,ds.length=1->gQ ds=.no\/aJ (cV (aM 1 ds))=gQ ds:=by
 intro ds hl;unfold cV
 match ds,hl with
 | [d],_=>
  cases d <;> first|exact Or.inl rfl|exact Or.inr rfl|skip
  rename_i x hl;by_cases hx:x.length<=sizeLine
  ·refine Or.inr ?_;have e:cH (gBn (gB3 leD leD (λ_=>R.ok (.int 32)) (gOf DJ (aa (rvz 0) λ_=>.ok [])) (λ_=>R.ok (.int 126)))) (rvz 0) (x.map λc=>D.str [c]) [none]=.ok (((x.map λc=>D.str [c]).filter BH).map id):=by
    refine jA BH id [] _ none λd m=>?_;obtain⟨c,_,rfl⟩:=v7.1 m;refine⟨?_,λ_=>rfl⟩;have o1:DJ [.str [c]]=some (.int (c:Nat)):=rfl;simp only[gBn,gB3,g3,gOf,aa,rd0,R.ok_bind,o1,fE,leD,BH];by_cases h1:32<=c
    ·have h1':(32:Int)<=(c:Int):=by omega
     by_cases h2:c<=126
     ·have h2':(c:Int)<=126:=by omega
      simp[h1,h1',h2,h2',asB]
     ·have h2' : ¬ (c:Int)<=126:=by omega
      simp[h1,h1',h2,h2',asB]
    ·have h1' : ¬ (32:Int)<=(c:Int):=by omega
     simp[h1,h1',asB]
   have e2:gQ [.str x]=.ok (.bl (plain x)):=if_pos hx;rw[e2];have hz:((x.map λc=>D.str [c]).filter BH).length<=sizeLine:=w9 (List.length_filter_le _ _) (by rw[za];exact hx);show aJ (aG _ oNx [some (.val (.str x))])=_;simp only[aG,dv,sB,aK,g2,aX,gG,cC,rd0,fu,tyN,asB,cP,bg,R.ok_bind,j3,ZA,t9,e,List.map_id,hz,Ze,oR,ES,qX,fE,R.ok_out,O.seq,aJ]
  ·exact Or.inl (if_neg hx)
noncomputable def ff(p:List Nat):D:=.tup (p.map λ(k:Nat)=>.int (k:Int))
noncomputable def dA:Nat->D->List (List Nat)
 | 0,_=>[]
 |n+1,.tup xs=>[]::(List.range xs.length).flatMap λk=>(dA n (xs.getD k .non)).map (k::·)
 |_+1,_=>[[]]
noncomputable def okd:Nat->D->Bool
 | 0,_=>false
 |_+1,.exc _=>false
 |_+1,.dct _ _=>false
 |n+1,.tup xs=>xs.all (okd n) && decide ((dA (n+1) (.tup xs)).length<=1000) && decide (xs.length<=1000)
 |_+1,_=>true
noncomputable def bS(n:Nat):List D->R D
 | [d]=>if okd n d=true/\n<=500 then .ok (.lst false ((dA n d).map ff))else .no
 |_=>.no
theorem jU:∀(n:Nat)(d:D)(p:List Nat),p∈dA n d->p.length<n
 | 0,_,p,h=>by simp[dA]at h
 |n+1,d,p,h=>by
  cases d with
  |tup xs=>
   simp only[dA,v0,List.mem_flatMap,v7]at h;rcases h with rfl|⟨k,_,q,hq,rfl⟩;·simp
   ·have:=jU n _ q hq;simp;omega
  |_=>simp[dA]at h;subst h;simp
def Dk(n k:Nat)(hn:n<=500)(ps:List (List Nat))(h:∀p∈ps,p.length<=n):cH (λ_=>R.ok true) (g2 bT (aK mkT (aa (rvz 1) λ_=>R.ok [])) λρ=>rdV ρ 0) (ps.map ff) [none,some (.val (.int (k:Int)))]=.ok ((ps.map (k::·)).map ff):=by
 have z:(ps.map (k::·)).map ff=(ps.map ff).map λd=>match d with|.tup qs=>.tup (.int k::qs)|d=>d:=by rw[v9,v9];refine mH λp _=>?_;simp[ff]
 rw[z];refine br _ _ _ none λd hd=>⟨rfl,?_⟩
 obtain⟨p,hp,rfl⟩:=v7.1 hd;have hl:=h p hp;have k1:mkT [.int (k:Int)]=.ok (.tup [.int (k:Int)]):=m_t (by simp);have k2:bT (.tup [.int (k:Int)]) (ff p)=some (.tup (.int k::p.map λ(k:Nat)=>.int (k:Int))):=by unfold ff;rw[yj (by have:=cN;simp;omega)];rfl
 clear hd hl hp
 walk_at "run"
 rfl
theorem vO(n:Nat)(hn:n<=500)(xs:List D)(hx:xs.all (okd n)=true):∀(ks:List Nat)(acc:List D)(kk:Option Sl),(∀k∈ks,k<xs.length)->acc.length+(ks.flatMap λk=>(dA n (xs.getD k .non)).map (k::·)).length<=1000->
  ∃kk',eR (iT 2) (dE (bS n)) (ks.map λ(i:Nat)=>D.int (i:Int)) [some (.val (.tup xs)),some (.own acc),kk]=.nx [some (.val (.tup xs)),some (.own (acc++(ks.flatMap λk=>(dA n (xs.getD k .non)).map (k::·)).map ff)),kk']
 | [],acc,kk,_,_=>⟨kk,by simp[eR]⟩
 |k::ks,acc,kk,hk,hz=>by
  rw[Yi,rR]at hz;obtain⟨kk',ih⟩:=vO n hn xs hx ks (acc++((dA n (xs.getD k .non)).map (k::·)).map ff) (some (.val (.int (k:Int)))) (λj hj=>hk j (rO _ hj)) (by simp at hz⊢;omega);refine⟨kk',?_⟩;have hlt:=hk k (sS ..);have g1:xs[k]?=some (xs.getD k .non):=by rw[xw hlt];simp[List.getD,hlt]
  have o1:okd n (xs.getD k .non)=true:=v6.1 hx _ (mW g1);have x1:ixD (.tup xs) (.int (k:Int))=some (xs.getD k .non):=DH g1;have p1:bS n [xs.getD k .non]=.ok (.lst false ((dA n (xs.getD k .non)).map ff)):=if_pos ⟨o1,hn⟩;have c1:=Dk n k hn (dA n (xs.getD k .non)) λp hp=>b9 (jU n _ p hp);have i1:∀d:D,bg (.lst false ((dA n (xs.getD k .non)).map ff))=.ok ((dA n (xs.getD k .non)).map ff):=λ_=>rfl;have i2:cP [2] [some (.val (.tup xs)),some (.own acc),some (.val (.int (k:Int)))]=[none,some (.val (.int (k:Int)))]:=rfl;have z1:(((dA n (xs.getD k .non)).map (k::·)).map ff).length<=sizeLine:=by have:=cN;simp at hz⊢;omega
  have z2:acc.length+(((dA n (xs.getD k .non)).map (k::·)).map ff).length<=sizeLine:=by have:=cN;simp at hz⊢;omega
  have hB:dE (bS n) [some (.val (.tup xs)),some (.own acc),some (.val (.int (k:Int)))]=.nx [some (.val (.tup xs)),some (.own (acc++((dA n (xs.getD k .non)).map (k::·)).map ff)),some (.val (.int (k:Int)))]:=by
   unfold dE;have i1':=i1 .non;clear ih hz hk hx hlt g1 o1 i1
   walk_at "run"
  rw[tv,je (ρ1:=[some (.val (.tup xs)),some (.own acc),some (.val (.int (k:Int)))]) rfl hB,ih,Yi,Z1,io]
def pA(n:Nat):∀ds:List D,ds.length=1->bS (n+1) ds=.no\/aJ (em (bS n) (aM 3 ds))=bS (n+1) ds:=by
 intro ds hl;unfold em
 match ds,hl with
 | [d],_=>
  by_cases hk:okd (n+1) d=true/\n+1<=500
  ·refine Or.inr ?_;have e2:bS (n+1) [d]=.ok (.lst false ((dA (n+1) d).map ff)):=if_pos hk;rw[e2];show aJ (aG _ (aG (oIf _ (aG (yH (iT 2) _ (dE (bS n))) oNx) oNx) (pU 1 _)) [some (.val d),none,none])=_;have k1:mkT []=.ok (.tup []):=m_t (by simp);have z0:0+1<=sizeLine:=by decide
   cases d with
   |exc C=>exact absurd hk.1 (by simp[okd])
   |dct _ _=>exact absurd hk.1 (by simp[okd])
   |tup xs=>
    have h1:=hk.1;simp only[okd,o7,d4]at h1;have h2:1+((List.range xs.length).flatMap λk=>(dA n (xs.getD k .non)).map (k::·)).length<=1000:=by have:=h1.1.2;simp only[dA,r6]at this;omega
    have hxl:xs.length<=1000:=h1.2;obtain⟨kk',hL⟩:=vO n (by omega) xs h1.1.1 (List.range xs.length) [.tup []] none (λk hk=>oB.1 hk) (by simpa using h2);have r1:bQ [.int (xs.length:Int)]=.ok ((List.range xs.length).map λ(i:Nat)=>D.int (i:Int)):=fC hxl;have y1:fu (λx=>x=="tuple") (.tup xs)=.ok (.bl true):=rfl;clear hk e2 h1 h2 hl hxl
    walk_at "run"
    simp[dA,ff]
   |_=>
    walk_at "run"
    rfl
  ·exact Or.inl (if_neg hk)
noncomputable def rE:List Nat->D->D->Option D
 | [],_,v=>some v
 |k::ks,.tup xs,v=>match xs[k]? with
  |some x=>if xs.length<=1000 then (rE ks x v).map λy=>.tup (xs.take k++[y]++xs.drop (k+1))else none
  |none=>none
 |_,_,_=>none
noncomputable def pM:List D->Option (List Nat)
 | []=>some []
 |.int i::ds=>if 0<=i then (pM ds).map (i.toNat::·)else none
 |_::_=>none
theorem tO:∀{ds:List D}{ks:List Nat},pM ds=some ks->ds=ks.map λ(k:Nat)=>D.int (k:Int)
 | [],ks,h=>by simp[pM]at h;subst h;rfl
 |d::ds,ks,h=>by
  cases d <;> first|(cases h;done)|skip
  rename_i i;simp only[pM]at h;by_cases hi:0<=i
  ·rw[if_pos hi]at h;cases q:pM ds with
   |none=>rw[q]at h;cases h
   |some ms=>rw[q]at h;cases h;rw[tO q,tv,j5 hi]
  ·rw[if_neg hi]at h;cases h
theorem qG:∀ks:List Nat,pM (ks.map λ(k:Nat)=>D.int (k:Int))=some ks
 | []=>rfl
 |k::ks=>by simp[pM,qG ks]
noncomputable def lI(n:Nat):List D->R D
 | [d,.tup p,v]=>match pM p with
  |some ks=>if ks.length<n/\n<=500 then ofO (rE ks d v)else .no
  |none=>.no
 |_=>.no
def pR{v:D}{ks:List Nat}(h:ks.length<n/\n<=500):lI n [d,.tup (ks.map λ(k:Nat)=>D.int (k:Int)),v]=ofO (rE ks d v):=by simp only[lI,qG];rw[if_pos h]
def uO(n:Nat):∀ds:List D,ds.length=3->lI (n+1) ds=.no\/aJ (gE (lI n) (aM 4 ds))=lI (n+1) ds:=by
 intro ds hl;unfold gE
 match ds,hl with
 | [d,pd,v],_=>
  cases pd <;> first|exact Or.inl rfl|skip
  rename_i p hl;cases hi:pM p with
  |none=>refine Or.inl ?_;simp only[lI,hi]
  |some ks=>
   have e:=tO hi;subst e;by_cases hk:ks.length<n+1/\n+1<=500
   ·rw[pR hk];have k0:mkT []=.ok (.tup []):=m_t (by simp);cases ks with
    |nil=>
     refine Or.inr ?_;show aJ (aG _ _ [some (.val d),some (.val (.tup [])),some (.val v),none])=_;have q1:eqF (.tup []) (.tup [])=some (.bl true):=rfl
     walk_at "run"
     rfl
    |cons j js=>
     cases hp:rE (j::js) d v with
     |none=>exact Or.inl rfl
     |some r=>
      refine Or.inr ?_;cases d <;> first|(cases hp;done)|skip
      rename_i hl2 xs;unfold rE at hp;cases hx:xs[j]? with
      |none=>rw[hx]at hp;cases hp
      |some x=>
       rw[hx]at hp;dsimp only at hp;by_cases hz:xs.length<=1000
       ·rw[if_pos hz]at hp;cases hy:rE js x v with
        |none=>rw[hy]at hp;cases hp
        |some y=>
         rw[hy]at hp;cases hp;have hj:j<xs.length:=(sT.mp hx).1;show aJ (aG _ _ [some (.val (.tup xs)),some (.val (.tup (.int (j:Int)::js.map λ(k:Nat)=>D.int (k:Int)))),some (.val v),none])=_;have q1:eqF (.tup (.int (j:Int)::js.map λ(k:Nat)=>D.int (k:Int))) (.tup [])=some (.bl false):=by simp[eqF,eqD,eqZ]
         have q2:ixD (.tup (.int (j:Int)::js.map λ(k:Nat)=>D.int (k:Int))) (.int 0)=some (.int (j:Int)):=DH (k:=0) rfl;have q3:ixD (.tup xs) (.int (j:Int))=some x:=DH hx;have q4:iJ (.int (j:Int)::js.map λ(k:Nat)=>D.int (k:Int)) (some 1) none=js.map λ(k:Nat)=>D.int (k:Int):=me _ 1;have q5:=zy xs j;have q6:iJ xs (some ((j:Int)+1)) none=xs.drop (j+1):=me xs (j+1);have q7:lI n [x,.tup (js.map λ(k:Nat)=>D.int (k:Int)),v]=.ok y:=by rw[pR (by simp at hk;omega),hy];rfl
         have k1:mkT [y]=.ok (.tup [y]):=m_t (by simp);have q8:bT (.tup (xs.take j)) (.tup [y])=some (.tup (xs.take j++[y])):=yj (by have:=cN;simp;omega);have q9:bT (.tup (xs.take j++[y])) (.tup (xs.drop (j+1)))=some (.tup (xs.take j++[y]++xs.drop (j+1))):=yj (by have:=cN;simp;omega);clear hk hi hl hx hz hj hy
         walk_at "run"
       ·rw[if_neg hz]at hp;cases hp
   ·refine Or.inl ?_;simp only[lI,hi];rw[if_neg hk]
def wV:∀ds:List D,ds.length=1->bS 0 ds=.no:=by
 intro ds hl
 match ds,hl with
 | [d],_=>
  have e:okd 0 d=false:=by simp only[okd]
  simp only[bS,e];rfl
def E3:∀ds:List D,ds.length=3->lI 0 ds=.no:=by
 intro ds hl
 match ds,hl with
 | [d,p,v],_=>
  cases p <;> first|rfl|skip
  simp only[lI];split <;> simp
noncomputable def pt:Nat->D->Bool
 | 0,_=>false
 |_+1,.int _=>true
 |_+1,.str x=>decide (x.length<=900)
 |n+1,.tup xs=>xs.all (pt n) && decide (xs.length<=900)
 |_+1,_=>false
noncomputable def cD:Nat->D->Bool
 | 0,_=>true
 |_+1,.exc _=>false
 |_+1,.dct _ _=>false
 |_+1,.str x=>decide (x.length<=1000)
 |n+1,.tup xs=>xs.all (cD n)
 |n+1,.lst _ xs=>xs.all (cD n)
 |_+1,_=>true
theorem jN:∀(n:Nat)(d:D),cD (n+1) d=true->cD n d=true
 | 0,_,_=>rfl
 |n+1,d,h=>by
  cases d <;> first|(simp[cD]at h;done)|rfl|skip
  ·exact h
  ·simp only[cD,v6]at h⊢;exact λx hx=>jN n x (h x hx)
  ·simp only[cD,v6]at h⊢;exact λx hx=>jN n x (h x hx)
theorem rJ:∀(n m:Nat)(d:D),pt n d=true->cD m d=true
 | 0,_,_,h=>by simp[pt]at h
 |n+1,0,_,_=>rfl
 |n+1,m+1,d,h=>by
  cases d <;> first|(simp[pt]at h;done)|rfl|skip
  ·simp only[pt,d4]at h;simp only[cD,d4];omega
  ·simp only[pt,o7,v6]at h;simp only[cD,v6];exact λx hx=>rJ n m x (h.1 x hx)
theorem tP(n:Nat):∀(ks:List Nat)(d v r:D),rE ks d v=some r->cD n d=true->cD n v=true->cD n r=true
 | [],d,v,r,h,_,hv=>by simp only[rE,Zr]at h;subst h;exact hv
 |k::ks,d,v,r,h,hd,hv=>by
  cases n with
  |zero=>rfl
  |succ n=>
   cases d <;> first|(simp[rE]at h;done)|skip
   rename_i xs;unfold rE at h;cases hx:xs[k]? with
   |none=>rw[hx]at h;cases h
   |some x=>
    rw[hx]at h;dsimp only at h;split at h
    ·cases hy:rE ks x v with
     |none=>rw[hy]at h;cases h
     |some y=>
      rw[hy]at h;cases h;simp only[cD,v6]at hd⊢;have gy:=tP n ks x v y hy (hd x (mW hx)) (jN n v hv);intro z hz;simp only[d6,l9]at hz;rcases hz with (hz|rfl)|hz;·exact hd z (List.mem_of_mem_take hz)
      ·exact gy
      ·exact hd z (List.mem_of_mem_drop hz)
    ·cases h
noncomputable def yb:List Nat->D->Option D
 | [],d=>some d
 |k::ks,.tup xs=>(xs[k]?).bind (yb ks)
 |_::_,_=>none
theorem oN:∀(n:Nat)(d:D)(ks:List Nat),pt n d=true->ks∈dA n d->(∃x,yb ks d=some x/\∃m,pt m x=true)/\∀v,∃r,rE ks d v=some r
 | 0,_,_,h,_=>by simp[pt]at h
 |n+1,d,ks,h,hk=>by
  cases ks with
  |nil=>exact⟨⟨d,rfl,n+1,h⟩,λv=>⟨v,rfl⟩⟩
  |cons k ks=>
   cases d <;> first|(simp[dA]at hk;done)|skip
   rename_i xs;simp only[dA,v0,List.mem_flatMap,v7,oB,reduceCtorEq,false_or]at hk;obtain⟨j,hj,q,hq,e⟩:=hk;cases e;simp only[pt,o7,v6,d4]at h;have g1:xs[k]?=some (xs.getD k .non):=by rw[xw hj];simp[List.getD,hj]
   obtain⟨⟨x,hx,m,hm⟩,hp⟩:=oN n _ ks (h.1 _ (mW g1)) hq;refine⟨⟨x,?_,m,hm⟩,λv=>?_⟩;·simp only[yb,g1,Y5];exact hx
   ·obtain⟨r,hr⟩:=hp v;refine⟨.tup (xs.take k++[r]++xs.drop (k+1)),?_⟩;simp only[rE,g1];rw[if_pos (by omega),hr];rfl
noncomputable def jL(h:D):List D:=[.int 0,.int 1,.int 2,.int 11,.int 12,.int 40,.int 41,.int (-1),.bl true,.non,.str [97],.str [],.tup [.str [103,111],.int 0,.int 0],.tup [.int 0,.int 0],.lst false [.int 0],.tup [h],.tup [h,h]]
noncomputable def signL:List D:=[.str [10],.str [],.str [97],.str [9]]
noncomputable def vJ(w:Int):List Nat:=match signL.getD (if 19<w then (w - 19).toNat else 0) .non with
 |.str x=>x
 |_=>[]
noncomputable def mY(ns:List Int)(a:Nat)(h:D):D:=
 if dW ns (a+1) 23<17 then (jL h).getD (dW ns (a+1) 23).toNat .non
 else match h with
  |.tup xs=>if xs.length=0 then .int 7 else if dW ns (a+1) 23<20 then .tup (xs.take (dW ns (a+2) xs.length).toNat++xs.drop ((dW ns (a+2) xs.length).toNat+1))else .tup (xs.take ((dW ns (a+2) xs.length).toNat+1)++xs.drop (dW ns (a+2) xs.length).toNat)
  |.str x=>.str (x.take (dW ns (a+2) (x.length+1)).toNat++vJ (dW ns (a+1) 23)++x.drop ((dW ns (a+2) (x.length+1)).toNat+1))
  |.int i=>.int (i+1)
  |_=>.int 7
noncomputable def eO(ns:List Int)(a:Nat)(T:D):List Nat:=(dA 4 T).getD (dW ns a (dA 4 T).length).toNat []
noncomputable def bM:List D->R D
 | [.lst _ ds,.int a,T]=>match lf ds with
  |some ns=>if 0<=a/\pt 4 T=true/\okd 4 T=true then ofO (rE (eO ns a.toNat T) T (mY ns a.toNat ((yb (eO ns a.toNat T) T).getD .non)))else .no
  |none=>.no
 |_=>.no
def uJ(n:Nat)(d:D):0<(dA (n+1) d).length:=by cases d <;> simp[dA]
def oh(ns:List Int)(a:Nat)(T:D):eO ns a T∈dA 4 T:=by
 have h0:0<(dA 4 T).length:=uJ 3 T;have h:=dY ns a (m:=((dA 4 T).length:Int)) (by omega);unfold eO;have hl:(dW ns a (dA 4 T).length).toNat<(dA 4 T).length:=by omega
 rw[xZ,xw hl];exact oG hl
def nO(v:Int):(vJ v).length<=1:=by
 unfold vJ;generalize (if 19<v then (v - 19).toNat else 0)=k;rcases ZG k 4 with hk|hk
 ·have:k=0\/k=1\/k=2\/k=3:=by omega
  rcases this with rfl|rfl|rfl|rfl <;> decide
 ·have:signL.getD k .non=.non:=by rw[xZ,Z4 (by show 4<=k;exact hk)];rfl
  rw[this];decide
theorem rm(s0 s1 s2 s3 s4 s7 s8 s9 s10:Option Sl):∀(ks:List Nat)(d x:D)(kk:Option Sl),yb ks d=some x->
  ∃kk',eR (iT 6) (ck (bS 4) bc (lI 4)) (ks.map λ(i:Nat)=>D.int (i:Int)) [s0,s1,s2,s3,s4,some (.val d),kk,s7,s8,s9,s10]=.nx [s0,s1,s2,s3,s4,some (.val x),kk',s7,s8,s9,s10]
 | [],d,x,kk,h=>by simp only[yb,Zr]at h;subst h;exact⟨kk,rfl⟩
 |k::ks,d,x,kk,h=>by
  cases d <;> first|(simp[yb]at h;done)|skip
  rename_i xs;cases hx:xs[k]? with
  |none=>simp[yb,hx]at h
  |some y=>
   simp only[yb,hx,Y5]at h;obtain⟨kk',ih⟩:=rm s0 s1 s2 s3 s4 s7 s8 s9 s10 ks y x (some (.val (.int (k:Int)))) h;refine⟨kk',?_⟩;have q3:ixD (.tup xs) (.int (k:Int))=some y:=DH hx;have hB:(ck (bS 4) bc (lI 4)) [s0,s1,s2,s3,s4,some (.val (.tup xs)),some (.val (.int (k:Int))),s7,s8,s9,s10]=.nx [s0,s1,s2,s3,s4,some (.val y),some (.val (.int (k:Int))),s7,s8,s9,s10]:=by
    unfold ck;clear ih h hx
    walk_at "run"
   rw[tv,je (ρ1:=[s0,s1,s2,s3,s4,some (.val (.tup xs)),some (.val (.int (k:Int))),s7,s8,s9,s10]) rfl hB];exact ih
def iW:∀ds:List D,ds.length=3->bM ds=.no\/aJ (bV (bS 4) bc (lI 4) (aM 11 ds))=bM ds:=by
 intro ds hl;unfold bV
 match ds,hl with
 | [l,ad,T],_=>
  cases l <;> first|exact Or.inl rfl|skip
  cases ad <;> first|exact Or.inl rfl|skip
  rename_i fz ds a hl;cases hi:lf ds with
  |none=>refine Or.inl ?_;simp only[bM,hi]
  |some ns=>
   have e:=oK hi;subst e;by_cases hk:0<=a/\pt 4 T=true/\okd 4 T=true
   ·refine Or.inr ?_;have e2:bM [.lst fz (ns.map .int),.int a,T]=ofO (rE (eO ns a.toNat T) T (mY ns a.toNat ((yb (eO ns a.toNat T) T).getD .non))):=by simp only[bM,hi];rw[if_pos hk]
    rw[e2];obtain⟨ha,hp,ho⟩:=hk;obtain⟨a,rfl⟩:=Ya ha;rw[tI];show aJ (aG _ _ [some (.val (.lst fz (ns.map .int))),some (.val (.int a)),some (.val T),none,none,none,none,none,none,none,none])=_;obtain⟨⟨x,hx,m,hm⟩,hput⟩:=oN 4 T _ hp (oh ns a T);obtain⟨r,hr⟩:=hput (mY ns a x);rw[hx,Option.getD_some,hr];have kl:=jU 4 T _ (oh ns a T);have P1:bS 4 [T]=.ok (.lst false ((dA 4 T).map ff)):=if_pos ⟨ho,by decide⟩;have h0:0<(dA 4 T).length:=uJ 3 T;have h1:=dY ns a (m:=((dA 4 T).length:Int)) (by omega);have P2:bc [.lst fz (ns.map .int),.int (a:Int),.int (((dA 4 T).map ff).length:Int)]=.ok (.int (dW ns a (dA 4 T).length)):=by rw[za];exact gj (by omega)
    have P3:ixD (.lst false ((dA 4 T).map ff)) (.int (dW ns a (dA 4 T).length))=some (ff (eO ns a T)):=by
     have hlt:(dW ns a (dA 4 T).length).toNat<(dA 4 T).length:=by omega
     rw[<- j5 h1.1];refine Ci ?_;rw[v8,xw hlt];unfold eO;rw[xZ,xw hlt];rfl
    have P4:bg (ff (eO ns a T))=.ok ((eO ns a T).map λ(k:Nat)=>.int (k:Int)):=rfl;obtain⟨kk',hL⟩:=rm (some (.val (.lst fz (ns.map .int)))) (some (.val (.int a))) (some (.val T)) (some (.val (.lst false ((dA 4 T).map ff)))) (some (.val (ff (eO ns a T)))) none none none none (eO ns a T) T x none hx
    skip
    have P5:bc [.lst fz (ns.map .int),.int ((a:Int)+1),.int 23]=.ok (.int (dW ns (a+1) 23)):=gj (n:=a+1) (by decide);have P6:lI 4 [T,ff (eO ns a T),mY ns a x]=.ok r:=by unfold ff;rw[pR ⟨kl,by decide⟩,hr];rfl
    have k0:mkT []=.ok (.tup []):=m_t (by simp);have k1:∀x,mkT [x]=.ok (.tup [x]):=λ_=>m_t (by simp);have k2:∀x y,mkT [x,y]=.ok (.tup [x,y]):=λ_ _=>m_t (by simp);have k3:∀x y z,mkT [x,y,z]=.ok (.tup [x,y,z]):=λ_ _ _=>m_t (by simp);have z17:17<=sizeLine:=by decide
    have z1:1<=sizeLine:=by decide
    have z4:4<=sizeLine:=by decide
    have n1:BN (.int 1)=.ok (.int (-1)):=rfl;have hw0:=dY ns (a+1) (m:=23) (by decide);clear e2 hi hl hput hr kl h0 h1 ho hp hx;have R0:cY (bS 4) bc (lI 4) [some (.val (.lst fz (ns.map .int))),some (.val (.int a)),some (.val T),none,none,none,none,none,none,none,none]=.nx [some (.val (.lst fz (ns.map .int))),some (.val (.int a)),some (.val T),some (.val (.lst false ((dA 4 T).map ff))),none,none,none,none,none,none,none]:=by
     unfold cY;clear P6
     walk_at "run"
    have R1:cX (bS 4) bc (lI 4) [some (.val (.lst fz (ns.map .int))),some (.val (.int a)),some (.val T),some (.val (.lst false ((dA 4 T).map ff))),none,none,none,none,none,none,none]=.nx [some (.val (.lst fz (ns.map .int))),some (.val (.int a)),some (.val T),some (.val (.lst false ((dA 4 T).map ff))),some (.val (ff (eO ns a T))),none,none,none,none,none,none]:=by
     unfold cX;clear R0 P6
     walk_at "run"
    have R2:de (bS 4) bc (lI 4) [some (.val (.lst fz (ns.map .int))),some (.val (.int a)),some (.val T),some (.val (.lst false ((dA 4 T).map ff))),some (.val (ff (eO ns a T))),none,none,none,none,none,none]=.nx [some (.val (.lst fz (ns.map .int))),some (.val (.int a)),some (.val T),some (.val (.lst false ((dA 4 T).map ff))),some (.val (ff (eO ns a T))),some (.val T),none,none,none,none,none]:=by
     unfold de;clear R0 R1 P6
     walk_at "run"
    have R3:dq (bS 4) bc (lI 4) [some (.val (.lst fz (ns.map .int))),some (.val (.int a)),some (.val T),some (.val (.lst false ((dA 4 T).map ff))),some (.val (ff (eO ns a T))),some (.val T),none,none,none,none,none]=.nx [some (.val (.lst fz (ns.map .int))),some (.val (.int a)),some (.val T),some (.val (.lst false ((dA 4 T).map ff))),some (.val (ff (eO ns a T))),some (.val x),kk',none,none,none,none]:=by
     unfold dq;clear R0 R1 R2 P6
     walk_at "run"
    have R4:dn (bS 4) bc (lI 4) [some (.val (.lst fz (ns.map .int))),some (.val (.int a)),some (.val T),some (.val (.lst false ((dA 4 T).map ff))),some (.val (ff (eO ns a T))),some (.val x),kk',none,none,none,none]=.nx [some (.val (.lst fz (ns.map .int))),some (.val (.int a)),some (.val T),some (.val (.lst false ((dA 4 T).map ff))),some (.val (ff (eO ns a T))),some (.val x),kk',some (.val (.lst false (jL x))),none,none,none]:=by
     unfold dn jL;clear R0 R1 R2 R3 P6
     walk_at "run"
    have R5:cZ (bS 4) bc (lI 4) [some (.val (.lst fz (ns.map .int))),some (.val (.int a)),some (.val T),some (.val (.lst false ((dA 4 T).map ff))),some (.val (ff (eO ns a T))),some (.val x),kk',some (.val (.lst false (jL x))),none,none,none]=.nx [some (.val (.lst fz (ns.map .int))),some (.val (.int a)),some (.val T),some (.val (.lst false ((dA 4 T).map ff))),some (.val (ff (eO ns a T))),some (.val x),kk',some (.val (.lst false (jL x))),some (.val (.int (dW ns (a+1) 23))),none,none]:=by
     unfold cZ;clear R0 R1 R2 R3 R4 P6
     walk_at "run"
    rw[lJ,R0,ya,lJ,R1,ya,lJ,R2,ya,lJ,R3,ya,lJ,R4,ya,lJ,R5,ya];clear R0 R1 R2 R3 R4 R5 hL P1 P2 P3 P4 P5;unfold fm fk eM eK;by_cases hw:dW ns (a+1) 23<17
    ·have d1:decide (dW ns (a+1) 23<17)=true:=by simp[hw]
     have q1:ixD (.lst false (jL x)) (.int (dW ns (a+1) 23))=some (mY ns a x):=by
      have e:mY ns a x=(jL x).getD (dW ns (a+1) 23).toNat .non:=if_pos hw;rw[e,<- j5 hw0.1];refine Ci ?_;have hlt:(dW ns (a+1) 23).toNat<(jL x).length:=by show _<17;omega
      rw[tI,xZ,xw hlt];rfl
     clear hw hw0 hm
     walk_at "run"
    ·have d1:decide (dW ns (a+1) 23<17)=false:=by simp[hw]
     have y1:∀f xs,fu f (.tup xs)=.ok (.bl (f "tuple")):=λ_ _=>rfl;have y2:∀f xs,fu f (.str xs)=.ok (.bl (f "str")):=λ_ _=>rfl;have y3:∀f xs,fu f (.int xs)=.ok (.bl (f "int")):=λ_ _=>rfl;have u1:("tuple"=="tuple")=true:=rfl;have u2:("tuple"=="str")=false:=rfl;have u3:("str"=="str")=true:=rfl;have u4:("str"=="tuple")=false:=rfl;have u5:("int"=="tuple")=false:=rfl;have u6:("int"=="str")=false:=rfl;have u7:L2.isInt "int"=true:=rfl;have u8:L2.isInt "tuple"=false:=rfl;cases x <;> first|(cases m <;> cases hm;done)|skip
     ·rename_i i;have e:mY ns a (.int i)=.int (i+1):=by simp only[mY,hw,qd]
      rw[e]at P6;clear hw hw0 hm e
      walk_at "run"
     ·rename_i s;have hs:s.length<=900:=by cases m <;> simp[pt]at hm;exact hm
      have hj:=dY ns (a+2) (m:=(s.length:Int)+1) (by omega);have P7:bc [.lst fz (ns.map .int),.int ((a:Int)+2),.int ((s.length:Int)+1)]=.ok (.int (dW ns (a+2) ((s.length:Int)+1))):=gj (n:=a+2) (by omega);have e:mY ns a (.str s)=.str (s.take (dW ns (a+2) (s.length+1)).toNat++vJ (dW ns (a+1) 23)++s.drop ((dW ns (a+2) (s.length+1)).toNat+1)):=by simp only[mY,hw,qd]
      rw[e]at P6;obtain⟨j,hjj⟩:∃j:Nat,dW ns (a+2) ((s.length:Int)+1)=(j:Int):=⟨_,(j5 hj.1).symm⟩
      rw[hjj]at P7;rw[hjj,tI]at P6;have hsg:=nO (dW ns (a+1) 23);have c1:=zy s j;have c2:iJ s (some ((j:Int)+1)) none=s.drop (j+1):=me s (j+1);have a1:bT (.str (s.take j)) (.str (vJ (dW ns (a+1) 23)))=some (.str (s.take j++vJ (dW ns (a+1) 23))):=Ap (by have:=cN;simp;omega);have a2:bT (.str (s.take j++vJ (dW ns (a+1) 23))) (.str (s.drop (j+1)))=some (.str (s.take j++vJ (dW ns (a+1) 23)++s.drop (j+1))):=Ap (by have:=cN;simp;omega);by_cases h19:19<dW ns (a+1) 23
      ·have d2:decide (19<dW ns (a+1) 23)=true:=by simp[h19]
       have q2:ixD (.lst false signL) (.int (dW ns (a+1) 23 - 19))=some (.str (vJ (dW ns (a+1) 23))):=by
        unfold vJ;rw[if_pos h19];generalize dW ns (a+1) 23=v at hw0 h19;have:v=20\/v=21\/v=22:=by omega
        rcases this with rfl|rfl|rfl <;> rfl
       unfold signL at q2;clear hw hw0 hm e hj hjj hs h19 hsg
       walk_at "run"
      ·have d2:decide (19<dW ns (a+1) 23)=false:=by simp[h19]
       have q2:ixD (.lst false signL) (.int 0)=some (.str (vJ (dW ns (a+1) 23))):=by unfold vJ;rw[if_neg h19];rfl
       unfold signL at q2;clear hw hw0 hm e hj hjj hs h19 hsg
       walk_at "run"
     ·rename_i xs;have hs:xs.length<=900:=by cases m <;> simp[pt]at hm;exact hm.2
      cases xs with
      |nil=>
       have e:mY ns a (.tup [])=.int 7:=by simp only[mY,hw,qd,Ze,t9]
       rw[e]at P6;have v1:neF (.tup []) (.tup [])=some (.bl false):=rfl;clear hw hw0 hm e hs
       walk_at "run"
      |cons y ys=>
       generalize hxs:y::ys=xs at hs hm P6;have hl0:0<xs.length:=by rw[<- hxs];simp
       have v1:neF (.tup xs) (.tup [])=some (.bl true):=by rw[<- hxs];simp[neF,eqD,eqZ]
       have hj:=dY ns (a+2) (m:=(xs.length:Int)) (by omega);have P7:bc [.lst fz (ns.map .int),.int ((a:Int)+2),.int (xs.length:Int)]=.ok (.int (dW ns (a+2) (xs.length:Int))):=gj (n:=a+2) (by omega);obtain⟨j,hjj⟩:∃j:Nat,dW ns (a+2) (xs.length:Int)=(j:Int):=⟨_,(j5 hj.1).symm⟩
       rw[hjj]at P7;have ne : ¬ xs.length=0:=by omega
       have c1:=zy xs j;have c2:iJ xs (some ((j:Int)+1)) none=xs.drop (j+1):=me xs (j+1);have c3:iJ xs none (some ((j:Int)+1))=xs.take (j+1):=zy xs (j+1);have c4:=me xs j;by_cases h20:dW ns (a+1) 23<20
       ·have d2:decide (dW ns (a+1) 23<20)=true:=by simp[h20]
        have e:mY ns a (.tup xs)=.tup (xs.take j++xs.drop (j+1)):=by simp only[mY,hw,qd,ne,h20,t9,hjj,tI]
        rw[e]at P6;have a1:bT (.tup (xs.take j)) (.tup (xs.drop (j+1)))=some (.tup (xs.take j++xs.drop (j+1))):=yj (by have:=cN;simp;omega);clear hw hw0 hm e hj hjj hs h20 hl0 ne hxs
        walk_at "run"
       ·have d2:decide (dW ns (a+1) 23<20)=false:=by simp[h20]
        have e:mY ns a (.tup xs)=.tup (xs.take (j+1)++xs.drop j):=by simp only[mY,hw,qd,ne,h20,hjj,tI]
        rw[e]at P6;have a1:bT (.tup (xs.take (j+1))) (.tup (xs.drop j))=some (.tup (xs.take (j+1)++xs.drop j)):=yj (by have:=cN;simp;omega);clear hw hw0 hm e hj hjj hs h20 hl0 ne hxs
        walk_at "run"
   ·refine Or.inl ?_;simp only[bM,hi];rw[if_neg hk]
def uU(h:D)(hp:∀m,cD m h=true)(k:Nat):cD 4 ((jL h).getD k .non)=true:=by
 have h3:=hp 3;have hall:∀x∈jL h,cD 4 x=true:=by
  have e:(jL h).all (cD 4)=true:=by
   have e0:(jL h).all (cD 4)=(cD 3 h && (cD 3 h && cD 3 h)):=by cases hh:cD 3 h <;> simp[jL,cD,hh] <;> decide
   rw[e0,h3];rfl
  exact v6.1 e
 rcases ZG k (jL h).length with hk|hk;·rw[xZ,xw hk];exact hall _ (oG hk)
 ·rw[xZ,Z4 hk];rfl
def xP(ns:List Int)(a:Nat)(h:D){m:Nat}(hp:pt m h=true):cD 4 (mY ns a h)=true:=by
 have hg:∀j,cD j h=true:=λj=>rJ m j h hp;unfold mY;split;·exact uU h hg _
 ·cases h <;> first|rfl|skip
  ·rename_i x;have h1:x.length<=900:=by cases m <;> simp[pt]at hp;exact hp
   have h2:=nO (dW ns (a+1) 23);simp only[cD,d4,rR,d7,d8];omega
  ·rename_i xs;have h1:∀x∈xs,cD 3 x=true:=by have:=hg 4;simp only[cD,v6]at this;exact this
   dsimp only;split;·rfl
   ·split
    all_goals
     simp only[cD,v6,d6];intro x hx;rcases hx with hx|hx;·exact h1 x (List.mem_of_mem_take hx)
     ·exact h1 x (List.mem_of_mem_drop hx)
noncomputable def jl(ao aS:Addr)(aw aj:Addr)(aI aF aZ:Addr)(rs:List Addr):Ev->O:=(vx 1 (gG (aa (aK (mS (tY rs aw)) (rvz 0)) (aa (aK (mS (tY rs aS)) (rvz 0)) (aa (aK (mS (tY rs ao)) (rvz 0)) nlz)))))
noncomputable def ji(ao aS:Addr)(aw aj:Addr)(aI aF aZ:Addr)(rs:List Addr):Ev->O:=(DL 1 (aX (gG (aa (aK (mS (tY rs aI)) (rvz 0)) (aa (aK (mS (tY rs aj)) (rvz 0)) nlz)))))
noncomputable def jb(ao aS:Addr)(aw aj:Addr)(aI aF aZ:Addr)(rs:List Addr):Ev->O:=(DL 1 (aX (gG (aa (aK (mS (tY rs aZ)) (rvz 0)) (aa (aK (mS (tY rs aF)) (rvz 0)) nlz)))))
noncomputable def jq(ao aS:Addr)(aw aj:Addr)(aI aF aZ:Addr)(rs:List Addr):Ev->O:=(oIf (vy (gB2 neF (iH "list" kM (rvz 1) (aa (λ_=>R.ok (D.bl true)) nlz)) (ciz 1)) (gBn (aK fO (aK (mS (uw rs)) (rvz 0))))) (aG (dv (csz [119,114,111,110,103])) oNx) oNx)
noncomputable def jd(ao aS:Addr)(aw aj:Addr)(aI aF aZ:Addr)(rs:List Addr):Ev->O:=(dv (g2 ixD (aX (gG (aa (csz [110,111,32,110,117,109,98,101,114]) (aa (csz [110,111,32,111,114,100,101,114]) (aa (csz [110,111,32,114,111,111,109]) (aa (csz [110,111,32,115,99,114,101,101,110]) (aa (csz [110,111,32,116,97,98,108,101]) (aa (csz [110,111,32,116,97,115,107]) (aa (csz [110,111,32,116,101,120,116]) nlz))))))))) (iH "list" kP (rvz 1) (aa (λ_=>R.ok (D.bl true)) nlz))))
noncomputable def fD(ao aS:Addr)(aw aj:Addr)(aI aF aZ:Addr)(rs:List Addr):Ev->O:=(aG (jl ao aS aw aj aI aF aZ rs) (aG (ji ao aS aw aj aI aF aZ rs) (aG (jb ao aS aw aj aI aF aZ rs) (pU 1 (aG (jq ao aS aw aj aI aF aZ rs) (aG (jd ao aS aw aj aI aF aZ rs) oNx))))))
noncomputable def J1:List Nat:=[110,111,32,114,111,111,109]
noncomputable def HW:List Nat:=[110,111,32,116,97,98,108,101]
noncomputable def td(ao aS aw aj aI aF aZ:Addr)(rs:List Addr):List D->R D:=λds=>aJ (fD ao aS aw aj aI aF aZ rs (aM 2 ds))
def rX(nd:[aI,aS,ao,aw,aj,aZ,aF].Nodup):∀ds:List D,ds.length=1->td ao aS aw aj aI aF aZ rs ds=.no\/aJ (fD ao aS aw aj aI aF aZ rs (aM 2 ds))=td ao aS aw aj aI aF aZ rs ds:=λ_ _=>.inr rfl
def sF(nd:[aI,aS,ao,aw,aj,aZ,aF].Nodup)(h:ao∈rs):td ao aS aw aj aI aF aZ rs [.exc ao]=.ok (.str J1):=by
 simp only[k7,v0,sy,sH,not_or]at nd;obtain⟨⟨n01,n02,n03,n04,n05,n06⟩,⟨n12,n13,n14,n15,n16⟩,⟨n23,n24,n25,n26⟩,⟨n34,n35,n36⟩,⟨n45,n46⟩,n56,_⟩:=nd;have z3:3<=sizeLine:=by decide
 have z2:2<=sizeLine:=by decide
 have z5:3+2<=sizeLine:=by decide
 have z7:5+2<=sizeLine:=by decide
 have z8:7<=sizeLine:=by decide
 have f1:∀(a0:Option Sl)(ds:List D),frz 1 [a0,some (.own ds)]=[a0,some (.val (.lst false ds))]:=λ_ _=>rfl;have o1:∀(a0:Option Sl)(ds:List D),ownAt [a0,some (.own ds)] 1=.ok ds:=λ_ _=>rfl;have tb:∀b:Bool,fO (.bl b)=.ok b:=λ_=>rfl;have kd:∀(f:Bool)(l:List D),gP "list" (.lst f l)=true:=λ_ _=>rfl;have y:∀T,mS (tY rs T) (.exc ao)=.ok (.bl (ao==T)):=λT=>by simp only[mS,tY,h,t9];rfl
 have y2:mS (uw rs) (.exc ao)=.ok (.bl true):=by simp only[mS,uw,h,t9];rfl
 have q0:(ao==ao)=true:=by simp
 have q1:(ao==aI)=false:=by simp;exact λz=>n02 z.symm
 have q2:(ao==aS)=false:=by simp;exact λz=>n12 z.symm
 have q4:(ao==aw)=false:=by simp;exact n23
 have q5:(ao==aj)=false:=by simp;exact n24
 have q6:(ao==aZ)=false:=by simp;exact n25
 have q7:(ao==aF)=false:=by simp;exact n26
 have c1:kM (.lst false [.bl false,.bl false,.bl true,.bl false,.bl false,.bl false,.bl false]) [.bl true]=some (.int 1):=rfl;have c2:kP (.lst false [.bl false,.bl false,.bl true,.bl false,.bl false,.bl false,.bl false]) [.bl true]=some (.int 2):=rfl;show aJ (aG _ _ [some (.val (.exc ao)),none])=_;unfold jl ji jb jq jd;clear h n01 n02 n03 n04 n05 n06 n12 n13 n14 n15 n16 n23 n24 n25 n26 n34 n35 n36 n45 n46 n56
 walk_at "run"
 all_goals rfl
def qF(nd:[aI,aS,ao,aw,aj,aZ,aF].Nodup)(h:aj∈rs):td ao aS aw aj aI aF aZ rs [.exc aj]=.ok (.str HW):=by
 simp only[k7,v0,sy,sH,not_or]at nd;obtain⟨⟨n01,n02,n03,n04,n05,n06⟩,⟨n12,n13,n14,n15,n16⟩,⟨n23,n24,n25,n26⟩,⟨n34,n35,n36⟩,⟨n45,n46⟩,n56,_⟩:=nd;have z3:3<=sizeLine:=by decide
 have z2:2<=sizeLine:=by decide
 have z5:3+2<=sizeLine:=by decide
 have z7:5+2<=sizeLine:=by decide
 have z8:7<=sizeLine:=by decide
 have f1:∀(a0:Option Sl)(ds:List D),frz 1 [a0,some (.own ds)]=[a0,some (.val (.lst false ds))]:=λ_ _=>rfl;have o1:∀(a0:Option Sl)(ds:List D),ownAt [a0,some (.own ds)] 1=.ok ds:=λ_ _=>rfl;have tb:∀b:Bool,fO (.bl b)=.ok b:=λ_=>rfl;have kd:∀(f:Bool)(l:List D),gP "list" (.lst f l)=true:=λ_ _=>rfl;have y:∀T,mS (tY rs T) (.exc aj)=.ok (.bl (aj==T)):=λT=>by simp only[mS,tY,h,t9];rfl
 have y2:mS (uw rs) (.exc aj)=.ok (.bl true):=by simp only[mS,uw,h,t9];rfl
 have q0:(aj==aj)=true:=by simp
 have q1:(aj==aI)=false:=by simp;exact λz=>n04 z.symm
 have q2:(aj==aS)=false:=by simp;exact λz=>n14 z.symm
 have q3:(aj==ao)=false:=by simp;exact λz=>n24 z.symm
 have q4:(aj==aw)=false:=by simp;exact λz=>n34 z.symm
 have q6:(aj==aZ)=false:=by simp;exact n45
 have q7:(aj==aF)=false:=by simp;exact n46
 have c1:kM (.lst false [.bl false,.bl false,.bl false,.bl false,.bl true,.bl false,.bl false]) [.bl true]=some (.int 1):=rfl;have c2:kP (.lst false [.bl false,.bl false,.bl false,.bl false,.bl true,.bl false,.bl false]) [.bl true]=some (.int 4):=rfl;show aJ (aG _ _ [some (.val (.exc aj)),none])=_;unfold jl ji jb jq jd;clear h n01 n02 n03 n04 n05 n06 n12 n13 n14 n15 n16 n23 n24 n25 n26 n34 n35 n36 n45 n46 n56
 walk_at "run"
 all_goals rfl
end Q
namespace Q50
open L2 Q
open PySem (sizeLine Addr)
noncomputable def hY(bp cy:List D->R D):Ev->O:=(dv (sB (aK (fu (·=="tuple")) (rvz 0)) (sB (g2 eqF (gOf df (aa (rvz 0) nlz)) (ciz 2)) (sB (aR 1 bp (aa (g2 ixD (rvz 0) (ciz 0)) nlz)) (aR 1 cy (aa (g2 ixD (rvz 0) (ciz 1)) nlz))))))
noncomputable def gz(bp cy:List D->R D):Ev->O:=(aG (hY bp cy) oNx)
noncomputable def fR(cq:List D->R D):Ev->O:=(oIf (vy (gBn (aK fO (aK (fu (·=="tuple")) (rvz 0)))) (gBn (gB3 leD leD (ciz 1) (gOf df (aa (rvz 0) nlz)) (ciz 6)))) (aG (dv (λ_=>R.ok (D.bl false))) oNx) oNx)
noncomputable def fQ(cq:List D->R D):Ev->O:=(dv (gOf yV (aa (aX (cC (aK bg (rvz 0)) [] (λ_=>R.ok true) (aR 1 cq (aa (rvz 0) nlz)))) nlz)))
noncomputable def fw(cq:List D->R D):Ev->O:=(aG (fR cq) (aG (fQ cq) oNx))
noncomputable def fx(bp:List D->R D):Ev->O:=(dv (sB (aK (fu (·=="tuple")) (rvz 0)) (sB (g2 eqF (gOf df (aa (rvz 0) nlz)) (rvz 1)) (gOf yV (aa (aX (cC (aK bg (rvz 0)) [] (λ_=>R.ok true) (aR 1 bp (aa (rvz 0) nlz)))) nlz)))))
noncomputable def eI(bp:List D->R D):Ev->O:=(aG (fx bp) oNx)
noncomputable def iZ(bG bB:List D->R D):Ev->O:=(oIf (vy (gBn (aK fO (aR 1 bG (aa (rvz 0) nlz)))) (vy (gBn (aK fO (aK (fu (·=="list")) (rvz 1)))) (gB2 gtD (gOf df (aa (rvz 1) nlz)) (ciz 9)))) (aG (dv (λ_=>R.ok (D.bl false))) oNx) oNx)
noncomputable def jh(bG bB:List D->R D):Ev->O:=(dv (gOf yV (aa (aX (cC (aK bg (rvz 1)) [0] (λ_=>R.ok true) (aR 2 bB (aa (rvz 0) (aa (gOf df (aa (rvz 1) nlz)) nlz))))) nlz)))
noncomputable def gW(bG bB:List D->R D):Ev->O:=(aG (iZ bG bB) (aG (jh bG bB) oNx))
noncomputable def cS(ak:List D->R D)(aj:Addr):Ev->O:=(oIf (gBn (aK fO (aR 2 ak (aa (rvz 0) (aa (rvz 1) nlz))))) (aG (iP aj (aa (csz [116,104,105,115,32,105,115,32,110,111,32,116,97,98,108,101]) nlz)) oNx) oNx)
noncomputable def fq(ak:List D->R D)(aj:Addr):Ev->O:=(aG (cS ak aj) oNx)
noncomputable def fL:Ev->O:=(fZ 3 (g2 bT (aX (gG (aa (g2 ixD (g2 ixD (rvz 0) (rvz 2)) (ciz 0)) nlz))) (aX (cC (aK bg (rvz 1)) [2] (λ_=>R.ok true) (g2 ixD (rvz 0) (rvz 1))))))
noncomputable def fM:Ev->O:=(dv (gOf BB (aa (g2 bT (aX (gG (aa (ciz 1) nlz))) (aX (cC (aK bg (rvz 3)) [] (λ_=>R.ok true) (gOf df (aa (rvz 0) nlz))))) nlz)))
noncomputable def fg:Ev->O:=(aG fL (aG fM oNx))
noncomputable def fc(aH aE:List D->R D)(bf bE:List D->R D)(ao:Addr):Ev->O:=(vA (aR 2 aH (aa (rvz 0) (aa (rvz 1) nlz))))
noncomputable def fU(aH aE:List D->R D)(bf bE:List D->R D)(ao:Addr):Ev->O:=(fZ 3 (gOf df (aa (rvz 0) nlz)))
noncomputable def gh(aH aE:List D->R D)(bf bE:List D->R D)(ao:Addr):Ev->O:=(fZ 4 (g2 rC (rvz 3) (ciz 1)))
noncomputable def fY(aH aE:List D->R D)(bf bE:List D->R D)(ao:Addr):Ev->O:=(oIf (gBn (aK fO (aR 3 aE (aa (rvz 2) (aa (g2 bT (rvz 3) (rvz 4)) (aa (ciz 40) nlz)))))) (aG (iP ao (aa (csz [97,32,116,97,98,108,101,32,100,111,101,115,32,110,111,116,32,103,111,32,105,110,116,111,32,116,104,105,115,32,114,111,111,109]) nlz)) oNx) oNx)
noncomputable def iq(aH aE:List D->R D)(bf bE:List D->R D)(ao:Addr):Ev->O:=(dv (aR 2 bE (aa (aX (cC (aK bQ (aa (rvz 3) nlz)) [0,1] (λ_=>R.ok true) (aR 3 bf (aa (rvz 1) (aa (rvz 2) (aa (rvz 0) nlz)))))) (aa (g2 rC (rvz 2) (rvz 4)) nlz))))
noncomputable def kf(aH aE:List D->R D)(bf bE:List D->R D)(ao:Addr):Ev->O:=(aG (fc aH aE bf bE ao) (aG (fU aH aE bf bE ao) (aG (gh aH aE bf bE ao) (aG (fY aH aE bf bE ao) (aG (iq aH aE bf bE ao) oNx)))))
noncomputable def ma(az:List D->R D):Ev->O:=(dv (iH "str" lz (csz [32]) (aa (aX (dX 3 (qH [0,1,2]) (aK wu (aa (rvz 0) (aa (rvz 1) (aa (rvz 2) nlz)))) [] (λ_=>R.ok true) (aR 3 az (aa (rvz 2) (aa (rvz 1) (aa (g2 ixD (rvz 0) (ciz 1)) nlz)))))) nlz)))
noncomputable def jW(az:List D->R D):Ev->O:=(aG (ma az) oNx)
noncomputable def jB(bj cA:List D->R D):Ev->O:=(fZ 3 (aR 3 bj (aa (rvz 0) (aa (rvz 1) (aa (rvz 2) nlz)))))
noncomputable def pP(bj cA:List D->R D):Ev->O:=(vx 4 (cC (aK bg (rvz 0)) [] (λ_=>R.ok true) (g2 ixD (rvz 0) (ciz 0))))
noncomputable def oD(bj cA:List D->R D):Ev->O:=(fZ 5 (iH "str" lz (csz [32]) (aa (aX (cC (aK bg (rvz 3)) [] (λ_=>R.ok true) (g2 dz (csz [45]) (rvz 0)))) nlz)))
noncomputable def nQ(bj cA:List D->R D):Ev->O:=(dv (g2 bT (aX (gG (aa (aR 3 cA (aa (rvz 0) (aa (rvz 3) (aa (rvz 4) nlz)))) (aa (rvz 5) nlz)))) (aX (cC (aK bg (rvz 1)) [0,3] (λ_=>R.ok true) (aR 3 cA (aa (rvz 1) (aa (rvz 2) (aa (rvz 0) nlz))))))))
noncomputable def lS(bj cA:List D->R D):Ev->O:=(aG (jB bj cA) (aG (pP bj cA) (aG (oD bj cA) (pU 4 (aG (nQ bj cA) oNx)))))
noncomputable def cJ(aH aE:List D->R D)(aj:Addr):Ev->O:=(vA (aR 2 aH (aa (rvz 0) (aa (rvz 1) nlz))))
noncomputable def eE(aH aE:List D->R D)(aj:Addr):Ev->O:=(oIf (gBn (aK fO (aR 3 aE (aa (rvz 2) (aa (ciz 0) (aa (g2 rC (gOf df (aa (rvz 0) nlz)) (ciz 1)) nlz)))))) (aG (iP aj (aa (csz [116,104,101,114,101,32,105,115,32,110,111,32,115,117,99,104,32,99,111,108,117,109,110]) nlz)) oNx) oNx)
noncomputable def fB(aH aE:List D->R D)(aj:Addr):Ev->O:=(dv (wN (rvz 1) [2] (g2 ixD (rvz 0) (rvz 1))))
noncomputable def gA(aH aE:List D->R D)(aj:Addr):Ev->O:=(aG (cJ aH aE aj) (aG (eE aH aE aj) (aG (fB aH aE aj) oNx)))
noncomputable def icF:List D->R D:=λds=>aJ (gz gQ sdF (aM 1 ds))
noncomputable def acF:List D->R D:=λds=>aJ (fw icF (aM 1 ds))
noncomputable def GK:List D->R D:=λds=>aJ (eI gQ (aM 2 ds))
noncomputable def cR:List D->R D:=λds=>aJ (gW acF GK (aM 2 ds))
noncomputable def FM(C6:Addr):List D->R D:=λds=>aJ (fq cR C6 (aM 2 ds))
noncomputable def FK:List D->R D:=λds=>aJ (fg (aM 4 ds))
noncomputable def wdF(C6 C3:Addr):List D->R D:=λds=>aJ (kf (FM C6) mv FK shF C3 (aM 5 ds))
noncomputable def AO(C7 C3 C1:Addr):List D->R D:=λds=>aJ (jW (ftF C7 C3 C1) (aM 3 ds))
noncomputable def tbF(C6 C7 C3 C1:Addr):List D->R D:=λds=>aJ (lS (wdF C6 C3) (AO C7 C3 C1) (aM 6 ds))
noncomputable def sbF(C6:Addr):List D->R D:=λds=>aJ (gA (FM C6) mv C6 (aM 3 ds))
def rL(h:cD 1 d=true):gQ [d]=.ok (.bl (nz d)):=by
 cases d <;> first|(simp[cD]at h;done)|rfl|skip
 rename_i x;simp only[cD,d4]at h;exact if_pos (w9 h (by decide))
noncomputable def sdB(d:D):Bool:=[[60],[62],[94]].any (qt d)
def xX(h:cD 1 d=true):inTF d (.tup [.str [60],.str [62],.str [94]])=some (.bl (sdB d)):=by
 have e:∀l:List Nat,(eqD 40 (.str l) d).isSome=true:=by intro l;cases d <;> first|(simp[cD]at h;done)|rfl
 have:([[60],[62],[94]].all λl:List Nat=>(eqD 40 (.str l) d).isSome)=true:=by simp[e]
 exact if_pos this
def HG(h:cD 1 d=true):sdF [d]=.ok (.bl (sdB d)):=by
 have this:inTF d (.tup (List.map D.str [[60],[62],[94]]))=some (.bl (sdB d)):=xX h;show aJ (dZ [some (.val d)])=_;unfold dZ;clear h
 walk_at "run"
 all_goals rfl
def Ga(h:cD 1 d=true):va d (.tup [.str [60],.str [62],.str [94]])=some (.bl (!sdB d)):=by unfold va;rw[xX h]
noncomputable def uh:D->Bool
 |.tup [a,b]=>nz a && sdB b
 |_=>false
def HB(h:cD 2 d=true):icF [d]=.ok (.bl (uh d)):=by
 have tb:∀b:Bool,fO (.bl b)=.ok b:=λ_=>rfl;show aJ (aG (hY _ _) oNx [some (.val d)])=_;unfold hY;cases d <;> first|(simp[cD]at h;done)|rfl|skip
 rename_i xs
 match xs,h with
 | [],_=>rfl
 | [a],_=>rfl
 |a::b::c::xs,_=>
  have l2:df [.tup (a::b::c::xs)]=some (.int ((xs.length:Int)+1+1+1)):=by show some (D.int (((a::b::c::xs).length:Nat):Int))=_;simp
  have e2:eqF (.int ((xs.length:Int)+1+1+1)) (.int 2)=some (.bl false):=by
   show(eqD 40 (D.int ((xs.length:Int)+1+1+1)) (D.int 2)).map D.bl=_;show some (D.bl ((xs.length:Int)+1+1+1==2))=_;have:((xs.length:Int)+1+1+1==2)=false:=by rw[i4];omega
   rw[this]
  have t1:fu (·=="tuple") (.tup (a::b::c::xs))=.ok (.bl true):=rfl
  walk_at "run"
  all_goals rfl
 | [a,b],h=>
  simp only[cD,j4,ZO,d3,o7]at h;have pa:=rL h.1;have sb:=HG h.2;have t1:fu (·=="tuple") (.tup [a,b])=.ok (.bl true):=rfl;have x0:ixD (.tup [a,b]) (.int 0)=some a:=rfl;have x1:ixD (.tup [a,b]) (.int 1)=some b:=rfl;have l2:df [.tup [a,b]]=some (.int 2):=rfl;have e2:eqF (.int 2) (.int 2)=some (.bl true):=rfl;show _=R.ok (D.bl (nz a && sdB b));clear h;cases q:nz a with
  |false=>rw[q]at pa;clear q;walk_at "run";all_goals rfl
  |true=>rw[q]at pa;clear q;walk_at "run";all_goals rfl
noncomputable def wo:D->Bool
 |.tup xs=>decide (1<=xs.length) && decide (xs.length<=6) && xs.all uh
 |_=>false
def He(h:cD 3 d=true):acF [d]=.ok (.bl (wo d)):=by
 have tb:∀b:Bool,fO (.bl b)=.ok b:=λ_=>rfl;show aJ (aG (fR _) (aG (fQ _) oNx) [some (.val d)])=_;unfold fR fQ;cases d <;> first|(simp[cD]at h;done)|rfl|skip
 rename_i xs;have t1:fu (·=="tuple") (.tup xs)=.ok (.bl true):=rfl;have l1:df [.tup xs]=some (.int (xs.length:Int)):=rfl;have i1:bg (.tup xs)=.ok xs:=rfl;show _=R.ok (D.bl (decide (1<=xs.length) && decide (xs.length<=6) && xs.all uh));simp only[cD,v6]at h;have c1:cH (λ_=>R.ok true) (aR 1 icF (aa (rvz 0) λ_=>R.ok [])) xs [none]=.ok (xs.map λd=>.bl (uh d)):=br _ [] xs none λd m=>⟨rfl,by rw[sN];exact HB (h d m)⟩
 have in1:cP [] [some (.val (.tup xs))]=[none]:=rfl;have al:=jE uh false xs;by_cases h1:1<=xs.length
 ·have q1:decide ((1:Int)<=(xs.length:Int))=true:=by simp;omega
  by_cases h2:xs.length<=6
  ·have q2:decide ((xs.length:Int)<=6)=true:=by simp;omega
   have hz:(xs.map λd=>D.bl (uh d)).length<=sizeLine:=by rw[za];exact w9 h2 (by decide)
   have hz2:xs.length<=sizeLine:=w9 h2 (by decide);rw[sM h1,sM h2,mG,mG];clear h h1 h2
   walk_at "run"
   all_goals rfl
  ·have q2:decide ((xs.length:Int)<=6)=false:=by simp;omega
   rw[tH h2,mE,pX];clear h h1 h2 c1 in1 al
   walk_at "run"
   all_goals rfl
 ·have q1:decide ((1:Int)<=(xs.length:Int))=false:=by simp;omega
  rw[tH h1,pX,pX];clear h h1 c1 in1 al
  walk_at "run"
  all_goals rfl
noncomputable def rwB(m:Int):D->Bool
 |.tup xs=>((xs.length:Int)==m) && xs.all nz
 |_=>false
noncomputable def shr:D->Bool
 |.tup xs=>decide (xs.length<=1000)
 |_=>true
def FA{m:Int}(h:cD 2 d=true)(hs:shr d=true):GK [d,.int m]=.ok (.bl (rwB m d)):=by
 have tb:∀b:Bool,fO (.bl b)=.ok b:=λ_=>rfl;show aJ (aG (fx _) oNx [some (.val d),some (.val (.int m))])=_;unfold fx;cases d <;> first|(simp[cD]at h;done)|rfl|skip
 rename_i xs;have t1:fu (·=="tuple") (.tup xs)=.ok (.bl true):=rfl;have l1:df [.tup xs]=some (.int (xs.length:Int)):=rfl;have i1:bg (.tup xs)=.ok xs:=rfl;have e1:eqF (.int (xs.length:Int)) (.int m)=some (.bl ((xs.length:Int)==m)):=rfl;show _=R.ok (D.bl (((xs.length:Int)==m) && xs.all nz));simp only[cD,v6]at h;have c1:cH (λ_=>R.ok true) (aR 1 gQ (aa (rvz 0) λ_=>R.ok [])) xs [none]=.ok (xs.map λd=>.bl (nz d)):=br _ [] xs none λd m=>⟨rfl,by rw[sN];exact rL (h d m)⟩
 have in1:cP [] [some (.val (.tup xs)),some (.val (.int m))]=[none]:=rfl;have al:=jE nz false xs;have h2:xs.length<=1000:=iN hs;have hz:(xs.map λd=>D.bl (nz d)).length<=sizeLine:=by rw[za];exact w9 h2 (by decide)
 have hz2:xs.length<=sizeLine:=w9 h2 (by decide);clear h hs h2;cases q:((xs.length:Int)==m)with
 |true=>rw[q]at e1;clear q;walk_at "run";all_goals rfl
 |false=>rw[q]at e1;clear q;walk_at "run";all_goals rfl
noncomputable def qk:D->Int
 |.tup xs=>xs.length
 |_=>0
noncomputable def rsB(m:Int):D->Bool
 |.lst _ rows=>decide (rows.length<=9) && rows.all (rwB m)
 |_=>false
noncomputable def rgood:D->Bool
 |.exc _=>false
 |.dct _ _=>false
 |.lst _ rows=>rows.all λd=>cD 2 d && shr d
 |_=>true
def xW{c:D}(h:cD 3 c=true)(hr:rgood d=true):cR [c,d]=.ok (.bl (wo c && rsB (qk c) d)):=by
 have tb:∀b:Bool,fO (.bl b)=.ok b:=λ_=>rfl;have ac:=He h;show aJ (aG (iZ _ _) (aG (jh _ _) oNx) [some (.val c),some (.val d)])=_;unfold iZ jh;cases q:wo c with
 |false=>
  rw[q]at ac;rw[pX];clear q h hr
  walk_at "run"
  all_goals rfl
 |true=>
  rw[q]at ac;rw[mG];cases d <;> first|(cases hr;done)|skip
  case lst f rows=>
   have hc:∃xs,c=.tup xs:=by cases c <;> first|(cases q;done)|exact⟨_,rfl⟩
   obtain⟨xs,rfl⟩:=hc;have t1:fu (·=="list") (.lst f rows)=.ok (.bl true):=rfl;have l1:df [.lst f rows]=some (.int (rows.length:Int)):=rfl;have i1:bg (.lst f rows)=.ok rows:=rfl;have l2:df [.tup xs]=some (.int (xs.length:Int)):=rfl;simp only[rgood,v6,o7]at hr;have c1:cH (λ_=>R.ok true) (aR 2 GK (aa (rvz 0) (aa (gOf df (aa (rvz 1) λ_=>R.ok [])) λ_=>R.ok []))) rows [none,some (.val (.tup xs))]=.ok (rows.map λd=>.bl (rwB xs.length d)):=br _ [some (.val (.tup xs))] rows none λd m=>⟨rfl,by have:=FA (m:=xs.length) (hr d m).1 (hr d m).2;rw[vS];exact this⟩
   have in1:cP [0] [some (.val (.tup xs)),some (.val (.lst f rows))]=[none,some (.val (.tup xs))]:=rfl;have al:=jE (rwB xs.length) false rows;show _=R.ok (D.bl (decide (rows.length<=9) && rows.all (rwB xs.length)));by_cases h1:rows.length<=9
   ·have q1:decide ((rows.length:Int) > 9)=false:=by simp;omega
    have hz:(rows.map λd=>D.bl (rwB xs.length d)).length<=sizeLine:=by rw[za];exact w9 h1 (by decide)
    have hz2:rows.length<=sizeLine:=w9 h1 (by decide);rw[sM h1,mG];clear h hr h1 q
    walk_at "run"
    all_goals rfl
   ·have q1:decide ((rows.length:Int) > 9)=true:=by simp;omega
    rw[tH h1,pX];clear h hr h1 q c1 in1 al
    walk_at "run"
    all_goals rfl
  all_goals
   clear q h hr
   walk_at "run"
   all_goals rfl
def tM{C6:Addr}{c:D}(h:cR [c,d]=.ok (.bl true)):FM C6 [c,d]=.ok .non:=by
 have tb:∀b:Bool,fO (.bl b)=.ok b:=λ_=>rfl;show aJ (aG (cS _ _) oNx [some (.val c),some (.val d)])=_;unfold cS
 walk_at "run"
 all_goals rfl
def Bv{C6:Addr}{c:D}(h:cR [c,d]=.ok (.bl false)):FM C6 [c,d]=.ex C6:=by
 have tb:∀b:Bool,fO (.bl b)=.ok b:=λ_=>rfl;show aJ (aG (cS _ _) oNx [some (.val c),some (.val d)])=_;unfold cS
 walk_at "run"
 all_goals rfl
noncomputable abbrev Col:=List Nat×Nat
noncomputable def fA(c:Col):D:=.tup [.str c.1,.str [c.2]]
noncomputable def aP(cs:List Col):D:=.tup (cs.map fA)
noncomputable def bO(r:List (List Nat)):D:=.tup (r.map .str)
noncomputable def aY(rs:List (List (List Nat))):D:=.lst false (rs.map bO)
structure GT(cs:List Col)(rs:List (List (List Nat))):Prop where
 one:1<=cs.length
 six:cs.length<=6
 col:∀c∈cs,plain c.1=true/\c.1.length<=50/\(c.2=60\/c.2=62\/c.2=94)
 nine:rs.length<=9
 row:∀r∈rs,r.length=cs.length/\∀x∈r,plain x=true/\x.length<=50
section
variable{cs:List Col}{rs:List (List (List Nat))}
def El(h:c=60\/c=62\/c=94):sdB (.str [c])=true:=by rcases h with rfl|rfl|rfl <;> rfl
def GT.cols(g:GT cs rs):wo (aP cs)=true/\cD 3 (aP cs)=true:=by
 refine⟨?_,?_⟩;·show(decide (1<=(cs.map fA).length) && decide ((cs.map fA).length<=6) && (cs.map fA).all uh)=true;rw[za,sM g.one,sM g.six,p7];refine v6.2 λc hc=>?_;obtain⟨h1,_,h3⟩:=g.col c hc;show(plain c.1 && sdB (.str [c.2]))=true;rw[h1,El h3];rfl
 ·show(cs.map fA).all (cD 2)=true;rw[p7];refine v6.2 λc hc=>?_;obtain⟨_,h2,_⟩:=g.col c hc;show([D.str c.1,.str [c.2]].all (cD 1))=true;simp only[j4,ZO,cD];simp;omega
def GT.rgood(g:GT cs rs):rgood (aY rs)=true:=by
 show(rs.map bO).all (λd=>cD 2 d && shr d)=true;rw[p7];refine v6.2 λr hr=>?_;obtain⟨h1,h2⟩:=g.row r hr;show((r.map D.str).all (cD 1) && decide ((r.map D.str).length<=1000))=true;rw[p7,o7];refine⟨v6.2 λx hx=>?_,?_⟩;·have:=(h2 x hx).2;show decide (x.length<=1000)=true;simp;omega
 ·have:=g.six;rw[za];simp;omega
def GT.rows(g:GT cs rs):rsB (qk (aP cs)) (aY rs)=true:=by show(decide ((rs.map bO).length<=9) && (rs.map bO).all (rwB ((cs.map fA).length:Nat)))=true;rw[za,za,sM g.nine,p7,mG];refine v6.2 λr hr=>?_;obtain⟨h1,h2⟩:=g.row r hr;show((((r.map D.str).length:Nat):Int)==((cs.length:Nat):Int) && (r.map D.str).all nz)=true;rw[za,h1,p7,o7];exact⟨by simp,v6.2 λx hx=>(h2 x hx).1⟩
def GT.tab(g:GT cs rs):cR [aP cs,aY rs]=.ok (.bl true):=by have:=xW (c:=aP cs) (d:=aY rs) g.cols.2 g.rgood;rw[g.cols.1,g.rows]at this;exact this
noncomputable def mx(ns:List Nat):Nat:=ns.foldl max 1
theorem jP:∀(ns:List Nat)(a b:Nat),ns.foldl max (max a b)=max (ns.foldl max a) b
 | [],_,_=>rfl
 |n::ns,a,b=>by rw[l5,l5,show max (max a b) n=max (max a n) b by omega];exact jP ns (max a n) b
theorem tw(a:Nat)(ns:List Nat):mx (a::ns)=max (mx ns) a:=by unfold mx;rw[l5];exact jP ns 1 a
def BG(a:Nat)(ns:List Nat):mx (ns++[a])=max (mx ns) a:=by unfold mx;rw[List.foldl_append];rfl
theorem A9:∀ns:List Nat,1<=mx ns
 | []=>yo _
 |a::ns=>by rw[tw];have:=A9 ns;omega
theorem Gq{b:Nat}(hb:1<=b):∀{ns:List Nat},(∀n∈ns,n<=b)->mx ns<=b
 | [],_=>hb
 |a::ns,h=>by rw[tw];have h1:=h a (sS ..);have h2:=Gq hb (ns:=ns) λn hn=>h n (rO _ hn);omega
theorem qM:∀(ns:List Nat)(a:Nat),(ns.map λ(n:Nat)=>(n:Int)).foldl max (a:Int)=((ns.foldl max a:Nat):Int)
 | [],_=>rfl
 |n::ns,a=>by
  rw[tv,l5,l5,<- qM ns (max a n)]
  congr 1
  omega
def wq(f:Bool)(ns:List Nat):BB [.lst f (.int 1::ns.map iD)]=some (iD (mx ns)):=by
 have e:kz (D.int 1::ns.map iD)=some (1::ns.map λ(n:Nat)=>(n:Int)):=by have:=ox (1::ns);exact this
 show(match kz (D.int 1::ns.map iD)with
  |some (n::ns)=>some (D.int (ns.foldl max n))
  |_=>none)=_;rw[e];show some (D.int ((ns.map λ(n:Nat)=>(n:Int)).foldl max ((1:Nat):Int)))=_;rw[qM];rfl
noncomputable def tx(rs:List (List (List Nat)))(k:Nat):List (List Nat):=rs.map λr=>r.getD k []
noncomputable def sj(cs:List Col)(k:Nat):List Nat:=(cs.getD k ([],0)).1
noncomputable def jm(cs:List Col)(rs:List (List (List Nat)))(k:Nat):Nat:=mx ((sj cs k::tx rs k).map List.length)
def nG{r:List (List Nat)}(h:k<r.length):ixD (bO r) (.int (k:Int))=some (.str (r.getD k [])):=by refine DH ?_;rw[v8,xw h,xZ,xw h];rfl
def xp(h:k<cs.length):ixD (aP cs) (.int (k:Int))=some (fA (cs.getD k ([],0))):=by refine DH ?_;rw[v8,xw h,xZ,xw h];rfl
def EU(g:GT cs rs)(hk:k<cs.length):FK [aP cs,aY rs,.int (k:Int)]=.ok (.int (jm cs rs k:Nat)):=by
 have x1:=xp hk;have x2:ixD (fA (cs.getD k ([],0))) (.int 0)=some (.str (sj cs k)):=rfl;have i1:bg (aY rs)=.ok (rs.map bO):=rfl;have n9:=g.nine;have c1:cH (λ_=>R.ok true) (g2 ixD (rvz 0) λρ=>rdV ρ 1) (rs.map bO) [none,some (.val (.int (k:Int)))]=.ok ((tx rs k).map .str):=by
  have:=br (gt:=λ_=>R.ok true) (ge:=g2 ixD (rvz 0) λρ=>rdV ρ 1) (λd=>(ixD d (.int (k:Int))).getD .non) [some (.val (.int (k:Int)))] (rs.map bO) none λd m=>by obtain⟨r,hr,rfl⟩:=v7.1 m;refine⟨rfl,?_⟩;show(ofO (ixD (bO r) (.int (k:Int))))=_;rw[nG (by rw[(g.row r hr).1];exact hk)];rfl
  rw[this]
  congr 1
  rw[v9];unfold tx;rw[v9];refine mH λr hr=>?_;show(ixD (bO r) (.int (k:Int))).getD .non=_;rw[nG (by rw[(g.row r hr).1];exact hk)];rfl
 have in1:cP [2] [some (.val (aP cs)),some (.val (aY rs)),some (.val (.int (k:Int))),none]=[none,some (.val (.int (k:Int)))]:=rfl;have tl:(tx rs k).length=rs.length:=by unfold tx;simp
 have z1:((tx rs k).map D.str).length<=sizeLine:=by rw[za,tl];exact w9 n9 (by decide)
 have z2:bT (.lst false [.str (sj cs k)]) (.lst false ((tx rs k).map .str))=some (.lst false ((sj cs k::tx rs k).map .str)):=by show(if [D.str (sj cs k)].length+((tx rs k).map D.str).length<=sizeLine then some (D.lst false ([D.str (sj cs k)]++(tx rs k).map .str))else none)=_;rw[if_pos (by rw[za,tl];exact w9 (m:=10) (by show 1+rs.length<=10;omega) (by decide))];rfl
 generalize hL:sj cs k::tx rs k=L at z2;have Ll:L.length<=10:=by rw[<- hL,r6,tl];omega
 have c2:cH (λ_=>R.ok true) (gOf df (aa (rvz 0) λ_=>R.ok [])) (L.map .str) [none]=.ok ((L.map List.length).map iD):=by
  have:=br (gt:=λ_=>R.ok true) (ge:=gOf df (aa (rvz 0) λ_=>R.ok [])) (λd=>(df [d]).getD .non) [] (L.map .str) none λd m=>by obtain⟨x,hx,rfl⟩:=v7.1 m;exact⟨rfl,rfl⟩
  rw[this,v9,v9];rfl
 have i2:bg (.lst false (L.map .str))=.ok (L.map .str):=rfl;have in2:∀a b c d:Option Sl,cP [] [a,b,c,d]=[none]:=λ_ _ _ _=>rfl;have z3:((L.map List.length).map iD).length<=sizeLine:=by rw[za,za];exact w9 Ll (by decide)
 have z4:bT (.lst false [.int 1]) (.lst false ((L.map List.length).map iD))=some (.lst false (.int 1::(L.map List.length).map iD)):=by show(if [D.int 1].length+((L.map List.length).map iD).length<=sizeLine then some (D.lst false ([D.int 1]++(L.map List.length).map iD))else none)=_;rw[if_pos (by rw[za,za];exact w9 (m:=11) (by show 1+L.length<=11;omega) (by decide))];rfl
 have mm:=wq false (L.map List.length);have ew:jm cs rs k=mx (L.map List.length):=by unfold jm;rw[hL]
 rw[ew];show aJ (aG fL (aG fM oNx) [some (.val (aP cs)),some (.val (aY rs)),some (.val (.int (k:Int))),none])=_;unfold fL fM;have l1:1<=sizeLine:=by decide
 clear g hk hL ew n9 Ll
 walk_at "run"
 all_goals rfl
end
section
variable{cs:List Col}{rs:List (List (List Nat))}{C6 C3 C7 C1:Addr}
def Ed{f:Bool}{room:Nat}(h1:room<=999)(h2:ws.length<=1000):shF [.lst f (ws.map iD),.int (room:Int)]=.ok (.lst false ((shL ws room).map iD)):=by
 show(match pK (ws.map iD)with
   |some ws=>if 0<=(room:Int)/\(room:Int)<=999/\ws.length<=1000 then R.ok (D.lst false ((shL ws (room:Int).toNat).map iD))else .no
   |none=>.no)=_;rw[qB];show(if 0<=(room:Int)/\(room:Int)<=999/\ws.length<=1000 then R.ok (D.lst false ((shL ws (room:Int).toNat).map iD))else .no)=_;rw[if_pos ⟨by omega,by omega,h2⟩,tI]
noncomputable def wsL(cs:List Col)(rs:List (List (List Nat))):List Nat:=(List.range cs.length).map (jm cs rs)
noncomputable def szL(cs:List Col)(rs:List (List (List Nat)))(room:Nat):List Nat:=shL (wsL cs rs) (room - (cs.length - 1))
def ll:(wsL cs rs).length=cs.length:=by unfold wsL;simp
def DE:∀w∈wsL cs rs,1<=w:=by intro w hw;obtain⟨k,_,rfl⟩:=v7.1 hw;exact A9 _
def yc(g:GT cs rs):cH (λ_=>R.ok true) (aR 3 FK (aa (rvz 1) (aa (rvz 2) (aa (rvz 0) λ_=>R.ok [])))) ((List.range cs.length).map λ(i:Nat)=>D.int (i:Int)) [none,some (.val (aP cs)),some (.val (aY rs))]=.ok ((wsL cs rs).map iD):=by
 have:=br (gt:=λ_=>R.ok true) (ge:=aR 3 FK (aa (rvz 1) (aa (rvz 2) (aa (rvz 0) λ_=>R.ok [])))) (λd=>match d with|.int i=>iD (jm cs rs i.toNat)|_=>.non) [some (.val (aP cs)),some (.val (aY rs))] ((List.range cs.length).map λ(i:Nat)=>D.int (i:Int)) none λd m=>by obtain⟨k,hk,rfl⟩:=v7.1 m;refine⟨rfl,?_⟩;rw[pb];exact EU g (oB.1 hk)
 rw[this];unfold wsL;rw[v9,v9];rfl
def rH{a lo hi:Int}:mv [.int a,.int lo,.int hi]=.ok (.bl (decide (lo<=a) && decide (a<=hi))):=rfl
def D1(g:GT cs rs){room:Nat}(h1:2 * cs.length - 1<=room)(h2:room<=40):wdF C6 C3 [aP cs,aY rs,.int (room:Int)]=.ok (.lst false ((szL cs rs room).map iD)):=by
 have tb:∀b:Bool,fO (.bl b)=.ok b:=λ_=>rfl;have ct:=tM (C6:=C6) g.tab;have l1:df [aP cs]=some (.int (cs.length:Int)):=by show some (D.int ((cs.map fA).length:Nat))=_;rw[za]
 have o1:=g.one;have s1:=g.six;have ib:mv [.int (room:Int),.int ((cs.length:Int)+((cs.length:Int) - 1)),.int 40]=.ok (.bl true):=by rw[rH,sM (by omega),sM (by omega)];rfl
 have ra:=fC (n:=cs.length) (by omega);have wc:=yc g;have z1:((wsL cs rs).map iD).length<=sizeLine:=by rw[za,ll];exact w9 s1 (by decide)
 have sh:=Ed (f:=false) (ws:=wsL cs rs) (room:=room - (cs.length - 1)) (by omega) (by rw[ll];omega);have er:((room - (cs.length - 1):Nat):Int)=(room:Int) - ((cs.length:Int) - 1):=by omega
 rw[er]at sh;have in1:cP [0,1] [some (.val (aP cs)),some (.val (aY rs)),some (.val (.int (room:Int))),some (.val (.int (cs.length:Int))),some (.val (.int ((cs.length:Int) - 1)))]=[none,some (.val (aP cs)),some (.val (aY rs))]:=rfl;show aJ (aG (fc _ _ _ _ _) (aG (fU _ _ _ _ _) (aG (gh _ _ _ _ _) (aG (fY _ _ _ _ _) (aG (iq _ _ _ _ _) oNx)))) [some (.val (aP cs)),some (.val (aY rs)),some (.val (.int (room:Int))),none,none])=_;unfold fc fU gh fY iq;clear g h1 h2 o1 s1 er
 walk_at "run"
 all_goals rfl
def AY{c e:D}(h:cR [c,d]=.ok (.bl false)):wdF C6 C3 [c,d,e]=.ex C6:=by
 have ct:=Bv (C6:=C6) h;show aJ (aG (fc _ _ _ _ _) (aG (fU _ _ _ _ _) (aG (gh _ _ _ _ _) (aG (fY _ _ _ _ _) (aG (iq _ _ _ _ _) oNx)))) [some (.val c),some (.val d),some (.val e),none,none])=_;unfold fc;clear h
 walk_at "run"
 all_goals rfl
def yy(g:GT cs rs){e:D}(h:mv [e,.int (2 * (cs.length:Int) - 1),.int 40]=.ok (.bl false)):wdF C6 C3 [aP cs,aY rs,e]=.ex C3:=by
 have tb:∀b:Bool,fO (.bl b)=.ok b:=λ_=>rfl;have ct:=tM (C6:=C6) g.tab;have l1:df [aP cs]=some (.int (cs.length:Int)):=by show some (D.int ((cs.map fA).length:Nat))=_;rw[za]
 rw[show 2 * (cs.length:Int) - 1=(cs.length:Int)+((cs.length:Int) - 1) by omega]at h;show aJ (aG (fc _ _ _ _ _) (aG (fU _ _ _ _ _) (aG (gh _ _ _ _ _) (aG (fY _ _ _ _ _) (aG (iq _ _ _ _ _) oNx)))) [some (.val (aP cs)),some (.val (aY rs)),some (.val e),none,none])=_;unfold fc fU gh fY;clear g
 walk_at "run"
 all_goals rfl
def Eb{c e:D}(h:wdF C6 C3 [c,d,e]=.ex C):tbF C6 C7 C3 C1 [c,d,e]=.ex C:=by
 show aJ (aG (jB _ _) _ [some (.val c),some (.val d),some (.val e),none,none,none])=_;unfold jB
 walk_at "run"
 all_goals rfl
def E0{c e:D}(h:cR [c,d]=.ok (.bl false)):sbF C6 [c,d,e]=.ex C6:=by
 have ct:=Bv (C6:=C6) h;show aJ (aG (cJ _ _ _) _ [some (.val c),some (.val d),some (.val e)])=_;unfold cJ;clear h
 walk_at "run"
 all_goals rfl
def yS(g:GT cs rs){e:D}(h:mv [e,.int 0,.int ((cs.length:Int) - 1)]=.ok (.bl false)):sbF C6 [aP cs,aY rs,e]=.ex C6:=by
 have tb:∀b:Bool,fO (.bl b)=.ok b:=λ_=>rfl;have ct:=tM (C6:=C6) g.tab;have l1:df [aP cs]=some (.int (cs.length:Int)):=by show some (D.int ((cs.map fA).length:Nat))=_;rw[za]
 show aJ (aG (cJ _ _ _) (aG (eE _ _ _) (aG (fB _ _ _) oNx)) [some (.val (aP cs)),some (.val (aY rs)),some (.val e)])=_;unfold cJ eE;clear g
 walk_at "run"
 all_goals rfl
end
theorem hW{asg:D->Ev->R Ev}{gt:Ev->R Bool}{ge:Ev->R D}(f:D->D)(P:Ev->Prop):∀(ds:List D)(ρ:Ev),P ρ->(∀d∈ds,∀ρ,P ρ->∃ρ',asg d ρ=.ok ρ'/\P ρ'/\gt ρ'=.ok true/\ge ρ'=.ok (f d))->cM asg gt ge ds ρ=.ok (ds.map f)
 | [],_,_,_=>rfl
 |d::ds,ρ,hP,H=>by obtain⟨ρ',e1,p1,e2,e3⟩:=H d (sS ..) ρ hP;have ih:=hW f P ds ρ' p1 λd' m=>H d' (rO _ m);unfold cM;simp only[e1,e2,e3,ih,pT,R.ok_bind,t9,tv]
theorem rq:∀l:List (List Nat),pF (l.map .str)=some l
 | []=>rfl
 |x::l=>by show(pF (l.map .str)).map (x::·)=_;rw[rq l];rfl
def A1{l:List (List Nat)}(h:(l.map List.length).sum+l.length<=10000)(f:Bool):lz (.str [32]) [.lst f (l.map .str)]=some (.str (bK [32] l)):=by
 show(match pF (l.map .str)with
  |some xs=>if (xs.map List.length).sum+xs.length * ([32]:List Nat).length<=sizeLine then some (D.str (bK [32] xs))else none
  |none=>none)=_;rw[rq];exact if_pos (by have:=fJ;simp;omega)
theorem oC(c:Nat):∀(ps:List (List Nat)),ps≠[]->(bK [c] ps).length+1=(ps.map List.length).sum+ps.length
 | [],h=>absurd rfl h
 | [q],_=>by simp[bK]
 |q::r::ps,_=>by have ih:=oC c (r::ps) (by simp);show(q++[c]++bK [c] (r::ps)).length+1=_;rw[tv,j8,r6];simp only[rR,r6,Ze]at ih⊢;omega
noncomputable def lO(s w:Nat)(x:List Nat):List Nat:=if s=60 then lj w (rD w x)else if s=62 then rj w (rD w x)else lj w (List.replicate ((w - (rD w x).length) / 2) 32++rD w x)
def Bc{x:List Nat}(h:x.length<=n):(lj n x).length=n:=by unfold lj;simp;omega
def Fe{x:List Nat}(h:x.length<=n):(rj n x).length=n:=by unfold rj;simp;omega
def yF{s w:Nat}{x:List Nat}(h:1<=w):(lO s w x).length=w:=by
 have:=ux h x;unfold lO;split;·exact Bc this
 ·split;·exact Fe this
  ·refine Bc ?_;rw[rR,o5];omega
section
variable{cs:List Col}{rs:List (List (List Nat))}{C6 C3 C7 C1:Addr}
def BL{s w:Nat}{x:List Nat}(hs:s=60\/s=62\/s=94)(hp:plain x=true)(hl:x.length<=50)(h1:1<=w)(h2:w<=40):ftF C7 C3 C1 [.str x,.int (w:Int),.str [s]]=.ok (.str (lO s w x)):=by
 have hl':x.length<=10000:=by omega
 rcases hs with rfl|rfl|rfl;·exact Cs hp hl' h1 h2
 ·exact yU hp hl' h1 h2
 ·exact Ft hp hl' h1 h2
noncomputable def gm(cs:List Col)(ws:List Nat)(ts:List (List Nat)):List (List Nat):=(List.range cs.length).map λk=>lO (cs.getD k ([],0)).2 (ws.getD k 0) (ts.getD k [])
structure Sz(cs:List Col)(ws:List Nat):Prop where
 len:ws.length=cs.length
 pos:∀w∈ws,1<=w
 sum:ws.sum<=40
def Sz.at(z:Sz cs ws)(hk:k<cs.length):1<=ws.getD k 0/\ws.getD k 0<=40:=by
 have hk':k<ws.length:=by rw[z.len];exact hk
 have:ws.getD k 0∈ws:=by rw[xZ,xw hk'];exact oG hk'
 exact⟨z.pos _ this,w9 (jZ this) z.sum⟩
def vP{ts:List (List Nat)}(z:Sz cs ws):(gm cs ws ts).map List.length=ws:=by
 unfold gm;rw[v9];refine Yg (by simp[z.len]) λk h1 h2=>?_;have hk:k<cs.length:=by simpa using h1
 simp only[Y4,List.getElem_range,Function.comp];rw[yF (z.at hk).1,xZ,xw h2];rfl
def kA{ts:List (List Nat)}:(gm cs ws ts).length=cs.length:=by unfold gm;simp
noncomputable def iu(ws:List Nat):Nat:=ws.sum+ws.length - 1
def iA{ts:List (List Nat)}(z:Sz cs ws)(h1:1<=cs.length)(h6:cs.length<=6)(f:Bool):lz (.str [32]) [.lst f ((gm cs ws ts).map .str)]=some (.str (bK [32] (gm cs ws ts)))/\(bK [32] (gm cs ws ts)).length=iu ws:=by have e:=vP (ts:=ts) z;have l:=kA (cs:=cs) (ws:=ws) (ts:=ts);have s:=z.sum;have zl:=z.len;refine⟨A1 (by rw[e,l];omega) f,?_⟩;have:=oC 32 (gm cs ws ts) (by intro h;rw[h]at l;simp at l;omega);rw[e,l]at this;unfold iu;omega
def wI(g:GT cs rs){ts:List (List Nat)}(z:Sz cs ws)(hd:rg d=some (ts.map .str))(hl:ts.length=cs.length)(ht:∀x∈ts,plain x=true/\x.length<=50):AO C7 C3 C1 [aP cs,.lst false (ws.map iD),d]=.ok (.str (bK [32] (gm cs ws ts))):=by
 have jn:=(iA (ts:=ts) z g.one g.six false).1;have zz:wu [aP cs,.lst false (ws.map iD),d]=.ok ((List.range cs.length).map λi=>.tup [fA (cs.getD i ([],0)),iD (ws.getD i 0),.str (ts.getD i [])]):=by
  show(match rg (aP cs),rg (.lst false (ws.map iD)),rg d with
   |some ds,some es,some fs=>if es.length=ds.length/\fs.length=ds.length then R.ok ((List.range ds.length).map λi=>D.tup [ds.getD i .non,es.getD i .non,fs.getD i .non])else .no
   |_,_,_=>.no)=_;rw[hd];show(if (ws.map iD).length=(cs.map fA).length/\(ts.map D.str).length=(cs.map fA).length then R.ok ((List.range (cs.map fA).length).map λi=>D.tup [(cs.map fA).getD i .non,(ws.map iD).getD i .non,(ts.map D.str).getD i .non])else .no)=_;rw[za,za,za,if_pos ⟨z.len,hl⟩]
  congr 1
  refine mH λi hi=>?_;have hi:=oB.1 hi;have h2:i<ws.length:=by rw[z.len];exact hi
  have h3:i<ts.length:=by rw[hl];exact hi
  simp[xZ,v8,xw hi,xw h2,xw h3]
 have cg:cM (qH [0,1,2]) (λ_=>R.ok true) (aR 3 (ftF C7 C3 C1) (aa (rvz 2) (aa (rvz 1) (aa (g2 ixD (rvz 0) λ_=>R.ok (D.int 1)) λ_=>R.ok [])))) ((List.range cs.length).map λi=>.tup [fA (cs.getD i ([],0)),iD (ws.getD i 0),.str (ts.getD i [])]) [none,none,none]=.ok ((gm cs ws ts).map .str):=by
  have:=hW (asg:=qH [0,1,2]) (gt:=λ_=>R.ok true) (ge:=aR 3 (ftF C7 C3 C1) (aa (rvz 2) (aa (rvz 1) (aa (g2 ixD (rvz 0) λ_=>R.ok (D.int 1)) λ_=>R.ok [])))) (λd=>match d with|.tup [.tup [_,.str [s]],.int w,.str x]=>.str (lO s w.toNat x)|_=>.non) (λρ=>∃a b c,ρ=[a,b,c]) ((List.range cs.length).map λi=>.tup [fA (cs.getD i ([],0)),iD (ws.getD i 0),.str (ts.getD i [])]) [none,none,none] ⟨_,_,_,rfl⟩ λd m ρ hP=>by
   obtain⟨i,hi,rfl⟩:=v7.1 m;have hi:=oB.1 hi;obtain⟨a,b,c,rfl⟩:=hP;refine⟨[some (.val (fA (cs.getD i ([],0)))),some (.val (iD (ws.getD i 0))),some (.val (.str (ts.getD i [])))],rfl,⟨_,_,_,rfl⟩,rfl,?_⟩;have hc:cs.getD i ([],0)∈cs:=by rw[xZ,xw hi];exact oG hi
   have h3:i<ts.length:=by rw[hl];exact hi
   have hx:ts.getD i []∈ts:=by rw[xZ,xw h3];exact oG h3
   rw[pb];exact BL (g.col _ hc).2.2 (ht _ hx).1 (ht _ hx).2 (z.at hi).1 (z.at hi).2
  rw[this];unfold gm;rw[v9,v9];rfl
 have z1:((gm cs ws ts).map D.str).length<=sizeLine:=by rw[za,kA];exact w9 g.six (by decide)
 have in1:∀a b c:Option Sl,ce 3 [] [a,b,c]=[none,none,none]:=λ_ _ _=>rfl;have kd:gP "str" (.str [32])=true:=rfl;show aJ (aG (ma _) oNx [some (.val (aP cs)),some (.val (.lst false (ws.map iD))),some (.val d)])=_;unfold ma;clear g z hd hl ht
 walk_at "run"
 all_goals rfl
end
def wP{w:Nat}(h:w<=100):dz (.str [c]) (.int (w:Int))=some (.str (List.replicate w c)):=by
 simp only[dz];rw[if_pos ⟨by omega,by omega,by rw[tI,lQ,Nat.one_mul];exact w9 h (by decide)⟩,tI]
 congr 2
 clear h;induction w with
 |zero=>rfl
 |succ n ih=>rw[o8,j0,ih];rfl
section
variable{cs:List Col}{rs:List (List (List Nat))}{C6 C3 C7 C1:Addr}
def Dl(g:GT cs rs){room:Nat}(h1:2 * cs.length - 1<=room)(h2:room<=40):Sz cs (szL cs rs room):=by
 have o:=g.one;have hl:=ll (cs:=cs) (rs:=rs);have hr:room - (cs.length - 1)<=999:=by omega
 refine⟨?_,?_,?_⟩;·unfold szL;rw[GD _ hr,hl]
 ·unfold szL;exact Fk hr DE (by rw[hl];omega)
 ·unfold szL;exact Nat.le_trans (AR _ hr) (by omega)
def BV(g:GT cs rs){room:Nat}(h1:2 * cs.length - 1<=room)(h2:room<=40):iu (szL cs rs room)<=room:=by have o:=g.one;have hl:=(Dl g h1 h2).len;have hs:(szL cs rs room).sum<=room - (cs.length - 1):=AR _ (by omega);unfold iu;omega
noncomputable def nms(cs:List Col):List (List Nat):=cs.map λc=>c.1
noncomputable def dsh(ws:List Nat):List (List Nat):=ws.map λw=>List.replicate w 45
noncomputable def nC(cs:List Col)(rs:List (List (List Nat)))(ws:List Nat):List (List Nat):=[bK [32] (gm cs ws (nms cs)),bK [32] (dsh ws)]++rs.map λr=>bK [32] (gm cs ws r)
def oQ(z:Sz cs ws)(h1:1<=cs.length)(h6:cs.length<=6)(f:Bool):lz (.str [32]) [.lst f ((dsh ws).map .str)]=some (.str (bK [32] (dsh ws)))/\(bK [32] (dsh ws)).length=iu ws:=by
 have e:(dsh ws).map List.length=ws:=by unfold dsh;rw[List.map_map];refine Eq.trans (mH λw _=>?_) (List.map_id _);simp
 have l:(dsh ws).length=cs.length:=by unfold dsh;rw[List.length_map];exact z.len
 have s:=z.sum;have zl:=z.len;refine⟨A1 (by rw[e,l];omega) f,?_⟩;have:=oC 32 (dsh ws) (by intro h;rw[h]at l;simp at l;omega);rw[e,l]at this;unfold iu;omega
def tV(z:Sz cs ws):cH (λ_=>R.ok true) (g2 dz (csz [45]) λρ=>rdV ρ 0) (ws.map iD) [none]=.ok ((dsh ws).map .str):=by
 have:=br (gt:=λ_=>R.ok true) (ge:=g2 dz (csz [45]) λρ=>rdV ρ 0) (λd=>match d with|.int w=>.str (List.replicate w.toNat 45)|_=>.non) [] (ws.map iD) none λd m=>by obtain⟨w,hw,rfl⟩:=v7.1 m;refine⟨rfl,?_⟩;have h40:w<=40:=w9 (jZ hw) z.sum;show(R.ok (D.str [45])>>=λx=>R.ok (iD w)>>=λy=>ofO (dz x y))=_;rw[R.ok_bind,R.ok_bind];unfold iD;rw[wP (by omega)];rfl
 rw[this];unfold dsh;rw[v9,v9];rfl
def FG(g:GT cs rs):(nms cs).length=cs.length/\∀x∈nms cs,plain x=true/\x.length<=50:=by refine⟨by unfold nms;simp,λx hx=>?_⟩;obtain⟨c,hc,rfl⟩:=v7.1 hx;exact⟨(g.col c hc).1,(g.col c hc).2.1⟩
def Hn(g:GT cs rs){room:Nat}(h1:2 * cs.length - 1<=room)(h2:room<=40):tbF C6 C7 C3 C1 [aP cs,aY rs,.int (room:Int)]=.ok (.lst false ((nC cs rs (szL cs rs room)).map .str)):=by
 have wd:=D1 (C6:=C6) (C3:=C3) g h1 h2;have z:=Dl g h1 h2;generalize szL cs rs room=ws at wd z;have n6:=g.six;have n9:=g.nine;obtain⟨nl,nx⟩:=FG g;have f1:=wI (C7:=C7) (C3:=C3) (C1:=C1) (ts:=nms cs) (d:=.lst false ((nms cs).map .str)) g z rfl nl nx;have c1:cH (λ_=>R.ok true) (g2 ixD (rvz 0) λ_=>R.ok (D.int 0)) (cs.map fA) [none]=.ok ((nms cs).map .str):=by
  have:=br (gt:=λ_=>R.ok true) (ge:=g2 ixD (rvz 0) λ_=>R.ok (D.int 0)) (λd=>match d with|.tup (x::_)=>x|_=>.non) [] (cs.map fA) none λd m=>by obtain⟨c,hc,rfl⟩:=v7.1 m;exact⟨rfl,rfl⟩
  rw[this];unfold nms;rw[v9,v9];rfl
 have c2:=tV z;have jn:=(oQ z g.one g.six false).1;have c3:cH (λ_=>R.ok true) (aR 3 (AO C7 C3 C1) (aa (rvz 1) (aa (rvz 2) (aa (rvz 0) λ_=>R.ok [])))) (rs.map bO) [none,some (.val (aP cs)),some (.val (.lst false (ws.map iD)))]=.ok ((rs.map λr=>bK [32] (gm cs ws r)).map .str):=by
  have:=br (gt:=λ_=>R.ok true) (ge:=aR 3 (AO C7 C3 C1) (aa (rvz 1) (aa (rvz 2) (aa (rvz 0) λ_=>R.ok [])))) (λd=>match AO C7 C3 C1 [aP cs,.lst false (ws.map iD),d]with|.ok x=>x|_=>.non) [some (.val (aP cs)),some (.val (.lst false (ws.map iD)))] (rs.map bO) none λd m=>by obtain⟨r,hr,rfl⟩:=v7.1 m;refine⟨rfl,?_⟩;have:=wI (C7:=C7) (C3:=C3) (C1:=C1) (ts:=r) (d:=bO r) g z rfl (g.row r hr).1 (g.row r hr).2;rw[pb];show AO C7 C3 C1 [aP cs,.lst false (ws.map iD),bO r]=_;rw[this]
  rw[this]
  congr 1
  rw[v9,v9];refine mH λr hr=>?_;have:=wI (C7:=C7) (C3:=C3) (C1:=C1) (ts:=r) (d:=bO r) g z rfl (g.row r hr).1 (g.row r hr).2;show(match AO C7 C3 C1 [aP cs,.lst false (ws.map iD),bO r]with|.ok x=>x|_=>.non)=_;rw[this];rfl
 have z1:((nms cs).map D.str).length<=sizeLine:=by rw[za,nl];exact w9 n6 (by decide)
 have z2:((dsh ws).map D.str).length<=sizeLine:=by rw[za];unfold dsh;rw[List.length_map,z.len];exact Nat.le_trans n6 (by decide)
 have z3:((rs.map λr=>bK [32] (gm cs ws r)).map D.str).length<=sizeLine:=by rw[za,za];exact w9 n9 (by decide)
 have i1:bg (aP cs)=.ok (cs.map fA):=rfl;have i2:bg (.lst false (ws.map iD))=.ok (ws.map iD):=rfl;have i3:bg (aY rs)=.ok (rs.map bO):=rfl;have in1:∀a b c d e f:Option Sl,cP [] [a,b,c,d,e,f]=[none]:=λ_ _ _ _ _ _=>rfl;have in2:∀(a b:D)(c d e f:Option Sl),cP [0,3] [some (.val a),c,d,some (.val b),e,f]=[none,some (.val a),some (.val b)]:=λ_ _ _ _ _ _=>rfl;have kd:gP "str" (.str [32])=true:=rfl;have l2:1+1<=sizeLine:=by decide
 have l2':2<=sizeLine:=by decide
 have ad:bT (.lst false [.str (bK [32] (gm cs ws (nms cs))),.str (bK [32] (dsh ws))]) (.lst false ((rs.map λr=>bK [32] (gm cs ws r)).map .str))=some (.lst false ((nC cs rs ws).map .str)):=by show(if 2+((rs.map λr=>bK [32] (gm cs ws r)).map D.str).length<=sizeLine then some (D.lst false ([D.str (bK [32] (gm cs ws (nms cs))),.str (bK [32] (dsh ws))]++(rs.map λr=>bK [32] (gm cs ws r)).map .str))else none)=_;rw[if_pos (by rw[za,za];exact w9 (m:=11) (by omega) (by decide))];rfl
 have fz4:∀(a b c d e:Option Sl)(l:List D),frz 4 [a,b,c,d,some (.own l),e]=[a,b,c,d,some (.val (.lst false l)),e]:=λ_ _ _ _ _ _=>rfl;generalize bK [32] (gm cs ws (nms cs))=u1 at *;generalize bK [32] (dsh ws)=u2 at *;show aJ (aG (jB _ _) (aG (pP _ _) (aG (oD _ _) (pU 4 (aG (nQ _ _) oNx)))) [some (.val (aP cs)),some (.val (aY rs)),some (.val (.int (room:Int))),none,none,none])=_;unfold jB pP oD nQ;clear g h1 h2 z n6 n9 nl nx
 walk_at "run"
 all_goals rfl
end
section
variable{cs:List Col}{rs:List (List (List Nat))}{C6 C3 C7 C1:Addr}
def jJ:(tx rs k).length=rs.length:=by unfold tx;simp
theorem xL{key:D->R D}{k:Nat}:∀rs:List (List (List Nat)),(∀r∈rs,key (bO r)=.ok (.str (r.getD k [])))->jD key (rs.map bO)=some (tx rs k)
 | [],_=>rfl
 |r::rs,h=>by have ih:=xL rs λr' hr'=>h r' (rO _ hr');have e:=h r (sS ..);rw[tv];unfold jD;rw[e,ih];rfl
noncomputable def tN(rs:List (List (List Nat)))(k:Nat):List D:=(List.range rs.length).map λi=>bO (rs.getD (nJ (tx rs k) i) [])
def zJ:rF (tx rs k) (rs.map bO)=tN rs k:=by unfold rF tN;rw[za];refine mH λi hi=>?_;have hi:=oB.1 hi;have h:=(hX (tx rs k)).1 i (by rw[jJ];exact hi);rw[jJ]at h;simp[xZ,v8,xw h]
def GU(g:GT cs rs)(hk:k<cs.length):sbF C6 [aP cs,aY rs,.int (k:Int)]=.ok (.lst false (tN rs k)):=by
 have tb:∀b:Bool,fO (.bl b)=.ok b:=λ_=>rfl;have ct:=tM (C6:=C6) g.tab;have l1:df [aP cs]=some (.int (cs.length:Int)):=by show some (D.int ((cs.map fA).length:Nat))=_;rw[za]
 have ib:mv [.int (k:Int),.int 0,.int ((cs.length:Int) - 1)]=.ok (.bl true):=by rw[rH,sM (by omega),sM (by omega)];rfl
 have sk:wN (rvz 1) [2] (g2 ixD (rvz 0) (rvz 1)) [some (.val (aP cs)),some (.val (aY rs)),some (.val (.int (k:Int)))]=.ok (.lst false (tN rs k)):=by
  show tD (λd=>g2 ixD (rvz 0) (rvz 1) (some (.val d)::ce 0 [2] [some (.val (aP cs)),some (.val (aY rs)),some (.val (.int (k:Int)))])) (rs.map bO)=_;unfold tD;rw[xL (k:=k) rs λr hr=>?_];·show(if (rs.map bO).length<64 then R.ok (D.lst false (rF (tx rs k) (rs.map bO)))else .no)=_;have:=g.nine;rw[if_pos (by rw[za];omega),zJ]
  ·show ofO (ixD (bO r) (.int (k:Int)))=_;rw[nG (by rw[(g.row r hr).1];exact hk)];rfl
 show aJ (aG (cJ _ _ _) (aG (eE _ _ _) (aG (fB _ _ _) oNx)) [some (.val (aP cs)),some (.val (aY rs)),some (.val (.int (k:Int)))])=_;unfold cJ eE fB;clear g hk
 walk_at "run"
 all_goals rfl
noncomputable def prK(rs:List (List (List Nat)))(k:Nat):List (List Nat×Int):=(List.range rs.length).map λi=>((tx rs k).getD i [],(i:Int))
noncomputable def prD(rs:List (List (List Nat)))(k:Nat):List D:=(List.range rs.length).map λi=>.tup [.str ((tx rs k).getD i []),.int (i:Int)]
def A5(h:i<rs.length):(prK rs k).getD i ([],0)=((tx rs k).getD i [],(i:Int)):=by unfold prK;simp[xZ,v8,l7 h]
theorem nM{α:Type}(f:α->List Nat)(q:α->Int):∀l:List α,iQ (l.map λa=>.tup [.str (f a),.int (q a)])=some (l.map λa=>(f a,q a))
 | []=>rfl
 |a::l=>by rw[tv,tv];unfold iQ;rw[nM f q l];rfl
def stab_pr:Stab (tx rs k) (piP (prK rs k)):=by
 have S:=ut (prK rs k);have hl:(prK rs k).length=rs.length:=by unfold prK;simp
 obtain⟨S1,S2⟩:=S;rw[hl]at S1 S2;refine⟨by rw[jJ];exact S1,λi j hij hj=>?_⟩;rw[jJ]at hj;obtain⟨a,b⟩:=S2 i j hij hj;rw[A5 (S1 i (by omega)),A5 (S1 j hj)]at a b;have a:=bltP_false.1 a;refine⟨λz=>a (.inl z),?_⟩;rcases b with b|b;·exact .inl b
 ·rcases bltP_iff.1 b with b|b;·exact .inr b
  ·have:=b.2;exact .inl (by simp only at this;omega)
def IK(h:i<rs.length):piP (prK rs k) i=nJ (tx rs k) i:=stab_pr.uniq (hX _) i (by rw[jJ];exact h)
def yX(h:rs.length<=9):qA [.lst false (prD rs k)]=some (.lst false ((List.range rs.length).map λi=>.tup [.str ((tx rs k).getD (nJ (tx rs k) i) []),.int ((nJ (tx rs k) i:Nat):Int)])):=by
 have e:iQ (prD rs k)=some (prK rs k):=nM (λi=>(tx rs k).getD i []) (λi=>(i:Int)) (List.range rs.length);have hl:(prD rs k).length=rs.length:=by unfold prD;simp
 show(match iQ (prD rs k)with
  |some kl=>if (prD rs k).length<64 then some (D.lst false (sK kl (prD rs k)))else none
  |none=>none)=_;rw[e];show(if (prD rs k).length<64 then some (D.lst false (sK (prK rs k) (prD rs k)))else none)=_;rw[hl,if_pos (by omega)];unfold sK;rw[hl]
 congr 2
 refine mH λi hi=>?_;have hi:=oB.1 hi;rw[IK hi];have h2:=(hX (tx rs k)).1 i (by rw[jJ];exact hi);rw[jJ]at h2;unfold prD;simp[xZ,v8,l7 h2]
def vU:cM (qH [0,1]) (λ_=>R.ok true) (g2 ixD (rvz 2) λρ=>rdV ρ 1) ((List.range rs.length).map λi=>.tup [.str ((tx rs k).getD (nJ (tx rs k) i) []),.int ((nJ (tx rs k) i:Nat):Int)]) [none,none,some (.val (aY rs))]=.ok (tN rs k):=by
 have:=hW (asg:=qH [0,1]) (gt:=λ_=>R.ok true) (ge:=g2 ixD (rvz 2) λρ=>rdV ρ 1) (λd=>match d with|.tup [_,.int j]=>bO (rs.getD j.toNat [])|_=>.non) (λρ=>∃a b,ρ=[a,b,some (.val (aY rs))]) ((List.range rs.length).map λi=>.tup [.str ((tx rs k).getD (nJ (tx rs k) i) []),.int ((nJ (tx rs k) i:Nat):Int)]) [none,none,some (.val (aY rs))] ⟨_,_,rfl⟩ λd m ρ hP=>by
  obtain⟨i,hi,rfl⟩:=v7.1 m;have hi:=oB.1 hi;obtain⟨a,b,rfl⟩:=hP;refine⟨[some (.val (.str ((tx rs k).getD (nJ (tx rs k) i) []))),some (.val (.int ((nJ (tx rs k) i:Nat):Int))),some (.val (aY rs))],rfl,⟨_,_,rfl⟩,rfl,?_⟩;have h2:=(hX (tx rs k)).1 i (by rw[jJ];exact hi);rw[jJ]at h2;show ofO (ixD (aY rs) (.int ((nJ (tx rs k) i:Nat):Int)))=R.ok (bO (rs.getD (nJ (tx rs k) i) []));have:ixD (aY rs) (.int ((nJ (tx rs k) i:Nat):Int))=some (bO (rs.getD (nJ (tx rs k) i) [])):=by refine Ci ?_;rw[v8,xw h2,xZ,xw h2];rfl
  rw[this];rfl
 rw[this];unfold tN;rw[v9];rfl
end
noncomputable def bX(bj dj:List D->R D)(bt bu:List D->R D)(rs:List Addr):Ev->O:=(fZ 4 (λ_=>R.ok D.non))
noncomputable def bW(bj dj:List D->R D)(bt bu:List D->R D)(rs:List Addr):Ev->O:=(fZ 5 (λ_=>R.ok D.non))
noncomputable def cf(bj dj:List D->R D)(bt bu:List D->R D)(rs:List Addr):Ev->O:=(DF (aG (fZ 5 (Cr [aR 3 bj (aa (rvz 1) (aa (rvz 2) (aa (rvz 3) nlz))),aR 3 dj (aa (rvz 1) (aa (rvz 2) (aa (rvz 3) nlz))),aR 3 bt (aa (rvz 1) (aa (rvz 2) (aa (rvz 3) nlz)))] (rvz 0))) oNx) (aG (fZ 4 (rvz 6)) oNx) (uw rs) 6)
noncomputable def ci(bj dj:List D->R D)(bt bu:List D->R D)(rs:List Addr):Ev->O:=(oIf (gB2 isF (rvz 4) (λ_=>R.ok D.non)) (aG (dv (rvz 5)) oNx) oNx)
noncomputable def bZ(bj dj:List D->R D)(bt bu:List D->R D)(rs:List Addr):Ev->O:=(dv (aR 1 bu (aa (rvz 4) nlz)))
noncomputable def iy(bj dj:List D->R D)(bt bu:List D->R D)(rs:List Addr):Ev->O:=(aG (bX bj dj bt bu rs) (aG (bW bj dj bt bu rs) (aG (cf bj dj bt bu rs) (aG (ci bj dj bt bu rs) (aG (bZ bj dj bt bu rs) oNx)))))
noncomputable def fK(af:List D->R D):Ev->O:=(dv (g2 dz (gSl (gSl (csz [98,97,99,100,101,32,102]) (λ_=>R.ok none) (jy (aR 3 af (aa (rvz 0) (aa (rvz 1) (aa (ciz 8) nlz)))))) (jy (aR 3 af (aa (rvz 0) (aa (g2 bT (rvz 1) (ciz 1)) (aa (ciz 3) nlz))))) (λ_=>R.ok none)) (g2 bT (ciz 1) (aR 3 af (aa (rvz 0) (aa (g2 bT (rvz 1) (ciz 2)) (aa (ciz 2) nlz)))))))
noncomputable def fh(af:List D->R D):Ev->O:=(aG (fK af) oNx)
noncomputable def fy(bb:List D->R D):Ev->O:=(oIf (vy (gBn (aK fO (aK (fu (·=="tuple")) (rvz 0)))) (gBn (gB3 leD leD (ciz 1) (gOf df (aa (rvz 0) nlz)) (ciz 6)))) (aG (dv (λ_=>R.ok (D.bl false))) oNx) oNx)
noncomputable def dJ(bb:List D->R D):Ev->O:=(aG (oIf (vy (gBn (aK fO (aK (fu (·=="tuple")) (rvz 2)))) (vy (gB2 neF (gOf df (aa (rvz 2) nlz)) (ciz 2)) (gBn (aK fO (aR 1 bb (aa (g2 ixD (rvz 2) (ciz 0)) nlz)))))) (aG (dv (λ_=>R.ok (D.bl false))) oNx) oNx) (aG (oIf (gB2 va (g2 ixD (rvz 2) (ciz 1)) (aK mkT (aa (csz [60]) (aa (csz [62]) (aa (csz [94]) nlz))))) (aG (dv (λ_=>R.ok (D.bl false))) oNx) oNx) oNx))
noncomputable def fj(bb:List D->R D):Ev->O:=(yH (iT 2) (aK bg (rvz 0)) (dJ bb))
noncomputable def eZ(bb:List D->R D):Ev->O:=(dv (g2 eqF (aX (cC (aK bg (rvz 1)) [0] (gB2 neF (gOf df (aa (rvz 0) nlz)) (gOf df (aa (rvz 1) nlz))) (rvz 0))) (aX (gG nlz))))
noncomputable def eJ(bb:List D->R D):Ev->O:=(aG (fy bb) (aG (fj bb) (aG (eZ bb) oNx)))
noncomputable def dP(ay ak:List D->R D)(aD ax af:List D->R D):Ev->O:=(fZ 3 (gOf df (aa (rvz 1) nlz)))
noncomputable def dB(ay ak:List D->R D)(aD ax af:List D->R D):Ev->O:=(fZ 4 (aR 3 ay (aa (rvz 0) (aa (ciz 300) (aa (rvz 1) nlz)))))
noncomputable def dH(ay ak:List D->R D)(aD ax af:List D->R D):Ev->O:=(fZ 5 (aR 2 ak (aa (rvz 4) (aa (rvz 2) nlz))))
noncomputable def dS(ay ak:List D->R D)(aD ax af:List D->R D):Ev->O:=(oIf (vy (gB2 neF (rvz 5) (aR 2 aD (aa (rvz 4) (aa (rvz 2) nlz)))) (gBn (aK fO (aK (fu (·=="bool")) (rvz 5))))) (aG (dv (λ_=>R.ok (D.bl false))) oNx) oNx)
noncomputable def dN(ay ak:List D->R D)(aD ax af:List D->R D):Ev->O:=(oIf (wx (gBn (aK fO (rvz 5))) (gB2 neF (aX (cC (aK bQ (aa (ciz 3) nlz)) [2,4] (λ_=>R.ok true) (aR 4 ax (aa (rvz 0) (aa (rvz 2) (aa (rvz 1) (aa (λ_=>R.ok D.non) nlz))))))) (g2 dz (aX (gG (aa (csz [110,111,32,116,97,98,108,101]) nlz))) (ciz 3)))) (aG (dv (λ_=>R.ok (D.bl false))) oNx) oNx)
noncomputable def dU(ay ak:List D->R D)(aD ax af:List D->R D):Ev->O:=(vx 6 (gG (aa (λ_=>R.ok D.non) (aa (gOf fX (aa (rvz 2) nlz)) (aa (g2 bT (rvz 2) (aX (gG (aa (g2 dz (aK mkT (aa (csz [97]) nlz)) (g2 bT (rvz 3) (ciz 1))) nlz)))) (aa (g2 bT (rvz 2) (aX (gG (aa (λ_=>R.ok D.non) nlz)))) (aa (aX (gG (aa (g2 dz (aK mkT (aa (csz [97,10]) nlz)) (rvz 3)) nlz))) (aa (aX (gG (aa (gOf ua (aa (g2 dz (csz [97]) (rvz 3)) nlz)) nlz))) nlz))))))))
noncomputable def dI(ay ak:List D->R D)(aD ax af:List D->R D):Ev->O:=(DL 6 (aX (gG (aa (g2 bT (rvz 2) (aX (gG (aa (g2 bT (g2 dz (aK mkT (aa (csz [97]) nlz)) (g2 rC (rvz 3) (ciz 1))) (aK mkT (aa (ciz 5) nlz))) nlz)))) (aa (g2 bT (rvz 2) (aX (gG (aa (g2 bT (aK mkT (aa (csz [97,10]) nlz)) (g2 dz (aK mkT (aa (csz [97]) nlz)) (g2 rC (rvz 3) (ciz 1)))) nlz)))) nlz)))))
noncomputable def dR(ay ak:List D->R D)(aD ax af:List D->R D):Ev->O:=(oIf (gB2 neF (aX (cC (aK bQ (aa (ciz 3) nlz)) [0,1,6] (λ_=>R.ok true) (aR 4 ax (aa (rvz 0) (aa (rvz 2) (aa (g2 ixD (rvz 3) (aR 3 af (aa (rvz 1) (aa (ciz 4) (aa (ciz 8) nlz))))) (aa (ciz 0) nlz))))))) (g2 dz (aX (gG (aa (csz [110,111,32,116,97,98,108,101]) nlz))) (ciz 3))) (aG (dv (λ_=>R.ok (D.bl false))) oNx) oNx)
noncomputable def dL(ay ak:List D->R D)(aD ax af:List D->R D):Ev->O:=(oIf (gB2 neF (aX (cC (aK bg (aK mkT (aa (rvz 3) (aa (aK BN (ciz 1)) (aa (λ_=>R.ok D.non) nlz))))) [1,2] (λ_=>R.ok true) (aR 4 ax (aa (ciz 2) (aa (rvz 1) (aa (rvz 2) (aa (rvz 0) nlz))))))) (g2 dz (aX (gG (aa (csz [110,111,32,116,97,98,108,101]) nlz))) (ciz 3))) (aG (dv (λ_=>R.ok (D.bl false))) oNx) oNx)
noncomputable def cW(ay ak:List D->R D)(aD ax af:List D->R D):Ev->O:=(fZ 5 (aX (gG (aa (aR 4 ax (aa (ciz 0) (aa (rvz 1) (aa (rvz 2) (aa (g2 rC (g2 dz (ciz 2) (rvz 3)) (ciz 2)) nlz))))) (aa (aR 4 ax (aa (ciz 1) (aa (rvz 1) (aa (rvz 2) (aa (ciz 41) nlz))))) nlz)))))
noncomputable def dh(ay ak:List D->R D)(aD ax af:List D->R D):Ev->O:=(dv (g2 eqF (g2 bT (rvz 5) (aX (cC (aK bQ (aa (ciz 2) nlz)) [1,2] (λ_=>R.ok true) (aR 4 ax (aa (rvz 0) (aa (rvz 1) (aa (rvz 2) (aa (λ_=>R.ok D.non) nlz)))))))) (g2 dz (aX (gG (aa (csz [110,111,32,114,111,111,109]) nlz))) (ciz 4))))
noncomputable def bL(ay ak:List D->R D)(aD ax af:List D->R D):Ev->O:=(aG (dP ay ak aD ax af) (aG (dB ay ak aD ax af) (aG (dH ay ak aD ax af) (aG (dS ay ak aD ax af) (aG (dN ay ak aD ax af) (aG (dU ay ak aD ax af) (aG (dI ay ak aD ax af) (pU 6 (aG (dR ay ak aD ax af) (aG (dL ay ak aD ax af) (aG (cW ay ak aD ax af) (aG (dh ay ak aD ax af) oNx))))))))))))
noncomputable def wL(af aq:List D->R D)(aB ax:List D->R D)(ak az ah:List D->R D):Ev->O:=(fZ 1 (g2 bT (ciz 1) (aR 3 af (aa (rvz 0) (aa (ciz 0) (aa (ciz 4) nlz))))))
noncomputable def xE(af aq:List D->R D)(aB ax:List D->R D)(ak az ah:List D->R D):Ev->O:=(fZ 2 (gOf fX (aa (aX (cC (aK bQ (aa (rvz 1) nlz)) [0] (λ_=>R.ok true) (aK mkT (aa (aR 2 aq (aa (rvz 1) (aa (g2 bT (ciz 10) (g2 dz (ciz 5) (rvz 0))) nlz))) (aa (g2 ixD (csz [60,62,94]) (aR 3 af (aa (rvz 1) (aa (g2 bT (ciz 40) (rvz 0)) (aa (ciz 3) nlz))))) nlz))))) nlz)))
noncomputable def xl(af aq:List D->R D)(aB ax:List D->R D)(ak az ah:List D->R D):Ev->O:=(vx 3 (gG nlz))
noncomputable def uy(af aq:List D->R D)(aB ax:List D->R D)(ak az ah:List D->R D):Ev->O:=(aG (Fp 3 (gOf fX (aa (aX (cC (aK bQ (aa (rvz 1) nlz)) [0,4] (λ_=>R.ok true) (aR 2 aq (aa (rvz 1) (aa (g2 bT (g2 bT (ciz 100) (g2 dz (ciz 40) (rvz 2))) (g2 dz (ciz 5) (rvz 0))) nlz))))) nlz))) oNx)
noncomputable def vV(af aq:List D->R D)(aB ax:List D->R D)(ak az ah:List D->R D):Ev->O:=(yH (iT 4) (aK bQ (aa (aR 3 af (aa (rvz 0) (aa (ciz 1) (aa (ciz 5) nlz)))) nlz)) (uy af aq aB ax ak az ah))
noncomputable def xj(af aq:List D->R D)(aB ax:List D->R D)(ak az ah:List D->R D):Ev->O:=(fZ 5 (g2 bT (g2 rC (g2 dz (ciz 2) (rvz 1)) (ciz 1)) (aR 3 af (aa (rvz 0) (aa (ciz 2) (aa (g2 bT (g2 rC (ciz 40) (g2 dz (ciz 2) (rvz 1))) (ciz 2)) nlz))))))
noncomputable def ul(af aq:List D->R D)(aB ax:List D->R D)(ak az ah:List D->R D):Ev->O:=(vx 6 (cC (aK bQ (aa (rvz 1) nlz)) [2,3] (λ_=>R.ok true) (gOf BB (aa (g2 bT (aX (gG (aa (ciz 1) nlz))) (aX (cC (aK bg (g2 bT (rvz 2) (aX (gG (aa (gOf fX (aa (aX (dX 2 (qH [0,1]) (aK bg (rvz 1)) [] (λ_=>R.ok true) (rvz 0))) nlz)) nlz))))) [0] (λ_=>R.ok true) (gOf df (aa (g2 ixD (rvz 0) (rvz 1)) nlz))))) nlz))))
noncomputable def um(af aq:List D->R D)(aB ax:List D->R D)(ak az ah:List D->R D):Ev->O:=(fZ 7 (aR 2 aB (aa (rvz 6) (aa (g2 bT (g2 rC (rvz 5) (rvz 1)) (ciz 1)) nlz))))
noncomputable def uE(af aq:List D->R D)(aB ax:List D->R D)(ak az ah:List D->R D):Ev->O:=(oIf (vy (gB2 neF (aR 4 ax (aa (ciz 0) (aa (rvz 2) (aa (rvz 3) (aa (rvz 5) nlz))))) (rvz 7)) (gB2 uL (aR 2 ak (aa (rvz 2) (aa (rvz 3) nlz))) (λ_=>R.ok (D.bl true)))) (aG (dv (λ_=>R.ok (D.bl false))) oNx) oNx)
noncomputable def pD(af aq:List D->R D)(aB ax:List D->R D)(ak az ah:List D->R D):Ev->O:=(vx 8 (gG (aa (iH "str" lz (csz [32]) (aa (aX (cC (aK bQ (aa (rvz 1) nlz)) [2,7] (λ_=>R.ok true) (aR 3 az (aa (g2 ixD (g2 ixD (rvz 1) (rvz 0)) (ciz 0)) (aa (g2 ixD (rvz 2) (rvz 0)) (aa (g2 ixD (g2 ixD (rvz 1) (rvz 0)) (ciz 1)) nlz)))))) nlz)) nlz)))
noncomputable def nX(af aq:List D->R D)(aB ax:List D->R D)(ak az ah:List D->R D):Ev->O:=(Fp 8 (iH "str" lz (csz [32]) (aa (aX (cC (aK bg (rvz 7)) [] (λ_=>R.ok true) (g2 dz (csz [45]) (rvz 0)))) nlz)))
noncomputable def pv(af aq:List D->R D)(aB ax:List D->R D)(ak az ah:List D->R D):Ev->O:=(aG (Fp 8 (iH "str" lz (csz [32]) (aa (aX (cC (aK bQ (aa (rvz 1) nlz)) [2,7,9] (λ_=>R.ok true) (aR 3 az (aa (g2 ixD (rvz 3) (rvz 0)) (aa (g2 ixD (rvz 2) (rvz 0)) (aa (g2 ixD (g2 ixD (rvz 1) (rvz 0)) (ciz 1)) nlz)))))) nlz))) oNx)
noncomputable def oJ(af aq:List D->R D)(aB ax:List D->R D)(ak az ah:List D->R D):Ev->O:=(yH (iT 9) (aK bg (rvz 3)) (pv af aq aB ax ak az ah))
noncomputable def kW(af aq:List D->R D)(aB ax:List D->R D)(ak az ah:List D->R D):Ev->O:=(oIf (vy (gB2 neF (aR 4 ax (aa (ciz 1) (aa (rvz 2) (aa (rvz 3) (aa (rvz 5) nlz))))) (rvz 8)) (vy (gB2 neF (gOf nY (aa (aX (cC (aK bg (rvz 8)) [] (λ_=>R.ok true) (gOf df (aa (rvz 0) nlz)))) nlz)) (ciz 1)) (gB2 gtD (gOf df (aa (g2 ixD (rvz 8) (ciz 0)) nlz)) (rvz 5)))) (aG (dv (λ_=>R.ok (D.bl false))) oNx) oNx)
noncomputable def lF(af aq:List D->R D)(aB ax:List D->R D)(ak az ah:List D->R D):Ev->O:=(fZ 10 (aR 3 af (aa (rvz 0) (aa (ciz 3) (aa (rvz 1) nlz)))))
noncomputable def lL(af aq:List D->R D)(aB ax:List D->R D)(ak az ah:List D->R D):Ev->O:=(fZ 11 (gOf qA (aa (aX (dX 2 (qH [0,1]) (aK rT (rvz 3)) [10] (λ_=>R.ok true) (aK mkT (aa (g2 ixD (rvz 1) (rvz 2)) (aa (rvz 0) nlz))))) nlz)))
noncomputable def lD(af aq:List D->R D)(aB ax:List D->R D)(ak az ah:List D->R D):Ev->O:=(oIf (gB2 neF (aR 4 ax (aa (ciz 2) (aa (rvz 2) (aa (rvz 3) (aa (rvz 10) nlz))))) (aX (dX 2 (qH [0,1]) (aK bg (rvz 11)) [3] (λ_=>R.ok true) (g2 ixD (rvz 2) (rvz 1))))) (aG (dv (λ_=>R.ok (D.bl false))) oNx) oNx)
noncomputable def ly(af aq:List D->R D)(aB ax:List D->R D)(ak az ah:List D->R D):Ev->O:=(dv (aR 3 ah (aa (rvz 0) (aa (rvz 2) (aa (rvz 3) nlz)))))
noncomputable def lG(af aq:List D->R D)(aB ax:List D->R D)(ak az ah:List D->R D):Ev->O:=(aG (wL af aq aB ax ak az ah) (aG (xE af aq aB ax ak az ah) (aG (xl af aq aB ax ak az ah) (aG (vV af aq aB ax ak az ah) (aG (xj af aq aB ax ak az ah) (pU 3 (aG (ul af aq aB ax ak az ah) (pU 6 (aG (um af aq aB ax ak az ah) (aG (uE af aq aB ax ak az ah) (aG (pD af aq aB ax ak az ah) (aG (nX af aq aB ax ak az ah) (aG (oJ af aq aB ax ak az ah) (pU 8 (aG (kW af aq aB ax ak az ah) (aG (lF af aq aB ax ak az ah) (aG (lL af aq aB ax ak az ah) (aG (lD af aq aB ax ak az ah) (aG (ly af aq aB ax ak az ah) oNx)))))))))))))))))))
noncomputable def doF(F1 F2 F3 FW:List D->R D)(rs:List Addr):List D->R D:=λds=>aJ (iy F1 F2 F3 FW rs (aM 7 ds))
section
variable{F1 F2 F3 FW:List D->R D}{c e v:D}
def JJ(h:F1 [c,d,e]=.ok v):doF F1 F2 F3 FW rs [.int 0,c,d,e]=.ok v:=by
 show aJ (aG (bX _ _ _ _ _) (aG (bW _ _ _ _ _) (aG (cf _ _ _ _ _) (aG (ci _ _ _ _ _) (aG (bZ _ _ _ _ _) oNx)))) [some (.val (.int 0)),some (.val c),some (.val d),some (.val e),none,none,none])=_;unfold bX bW cf ci bZ;have i1:isF .non .non=some (.bl true):=rfl
 walk_at "run"
 all_goals rfl
def JC(h:F2 [c,d,e]=.ok v):doF F1 F2 F3 FW rs [.int 1,c,d,e]=.ok v:=by
 show aJ (aG (bX _ _ _ _ _) (aG (bW _ _ _ _ _) (aG (cf _ _ _ _ _) (aG (ci _ _ _ _ _) (aG (bZ _ _ _ _ _) oNx)))) [some (.val (.int 1)),some (.val c),some (.val d),some (.val e),none,none,none])=_;unfold bX bW cf ci bZ;have i1:isF .non .non=some (.bl true):=rfl
 walk_at "run"
 all_goals rfl
def Kr(h:F3 [c,d,e]=.ok v):doF F1 F2 F3 FW rs [.int 2,c,d,e]=.ok v:=by
 show aJ (aG (bX _ _ _ _ _) (aG (bW _ _ _ _ _) (aG (cf _ _ _ _ _) (aG (ci _ _ _ _ _) (aG (bZ _ _ _ _ _) oNx)))) [some (.val (.int 2)),some (.val c),some (.val d),some (.val e),none,none,none])=_;unfold bX bW cf ci bZ;have i1:isF .non .non=some (.bl true):=rfl
 walk_at "run"
 all_goals rfl
def DB(hC:C∈rs):uw rs C=some true:=by simp only[uw,hC,t9]
def Ek(h:F1 [c,d,e]=.ex C)(hC:C∈rs)(hw:FW [.exc C]=.ok v):doF F1 F2 F3 FW rs [.int 0,c,d,e]=.ok v:=by
 have ve:=DB hC;have tk:=λ(gs:Ev->O) (i:Nat) (ρ:Ev)=>oW (gs:=gs) (i:=i) (ρ:=ρ) ve;show aJ (aG (bX _ _ _ _ _) (aG (bW _ _ _ _ _) (aG (cf _ _ _ _ _) (aG (ci _ _ _ _ _) (aG (bZ _ _ _ _ _) oNx)))) [some (.val (.int 0)),some (.val c),some (.val d),some (.val e),none,none,none])=_;unfold bX bW cf ci bZ;have i1:isF (.exc C) .non=some (.bl false):=rfl;clear hC ve
 walk_at "run"
 all_goals rfl
def Eh(h:F2 [c,d,e]=.ex C)(hC:C∈rs)(hw:FW [.exc C]=.ok v):doF F1 F2 F3 FW rs [.int 1,c,d,e]=.ok v:=by
 have ve:=DB hC;have tk:=λ(gs:Ev->O) (i:Nat) (ρ:Ev)=>oW (gs:=gs) (i:=i) (ρ:=ρ) ve;show aJ (aG (bX _ _ _ _ _) (aG (bW _ _ _ _ _) (aG (cf _ _ _ _ _) (aG (ci _ _ _ _ _) (aG (bZ _ _ _ _ _) oNx)))) [some (.val (.int 1)),some (.val c),some (.val d),some (.val e),none,none,none])=_;unfold bX bW cf ci bZ;have i1:isF (.exc C) .non=some (.bl false):=rfl;clear hC ve
 walk_at "run"
 all_goals rfl
def D3(h:F3 [c,d,e]=.ex C)(hC:C∈rs)(hw:FW [.exc C]=.ok v):doF F1 F2 F3 FW rs [.int 2,c,d,e]=.ok v:=by
 have ve:=DB hC;have tk:=λ(gs:Ev->O) (i:Nat) (ρ:Ev)=>oW (gs:=gs) (i:=i) (ρ:=ρ) ve;show aJ (aG (bX _ _ _ _ _) (aG (bW _ _ _ _ _) (aG (cf _ _ _ _ _) (aG (ci _ _ _ _ _) (aG (bZ _ _ _ _ _) oNx)))) [some (.val (.int 2)),some (.val c),some (.val d),some (.val e),none,none,none])=_;unfold bX bW cf ci bZ;have i1:isF (.exc C) .non=some (.bl false):=rfl;clear hC ve
 walk_at "run"
 all_goals rfl
end
noncomputable def rB:List D->R D:=λds=>aJ (eJ gQ (aM 3 ds))
section
variable{cs:List Col}{rs:List (List (List Nat))}
def zg(h:cD 2 d=true)(a b:D)(x:Option Sl):dJ gQ [some (.val a),some (.val b),some (.val d)]=if uh d=true then .nx [some (.val a),some (.val b),some (.val d)]else .rt (.bl false):=by
 have tb:∀b:Bool,fO (.bl b)=.ok b:=λ_=>rfl;unfold dJ;cases d <;> first|(simp[cD]at h;done)|rfl|skip
 rename_i xs
 match xs,h with
 | [],_=>rfl
 | [a],_=>rfl
 |a1::b1::c1::xs,_=>
  have l2:df [.tup (a1::b1::c1::xs)]=some (.int ((xs.length:Int)+1+1+1)):=by show some (D.int (((a1::b1::c1::xs).length:Nat):Int))=_;simp
  have e2:neF (.int ((xs.length:Int)+1+1+1)) (.int 2)=some (.bl true):=by
   show(eqD 40 (D.int ((xs.length:Int)+1+1+1)) (D.int 2)).map (λb=>D.bl (!b))=_;show some (D.bl (!((xs.length:Int)+1+1+1==2)))=_;have:((xs.length:Int)+1+1+1==2)=false:=by rw[i4];omega
   rw[this];rfl
  have t1:fu (·=="tuple") (.tup (a1::b1::c1::xs))=.ok (.bl true):=rfl;have cb:uh (.tup (a1::b1::c1::xs))=false:=rfl
  walk_at "run"
  all_goals rfl
 | [a1,b1],h=>
  simp only[cD,j4,ZO,d3,o7]at h;have pa:=rL h.1;have sb:=Ga h.2;have t1:fu (·=="tuple") (.tup [a1,b1])=.ok (.bl true):=rfl;have x0:ixD (.tup [a1,b1]) (.int 0)=some a1:=rfl;have x1:ixD (.tup [a1,b1]) (.int 1)=some b1:=rfl;have l2:df [.tup [a1,b1]]=some (.int 2):=rfl;have e2:neF (.int 2) (.int 2)=some (.bl false):=rfl;have mk:mkT [.str [60],.str [62],.str [94]]=.ok (.tup [.str [60],.str [62],.str [94]]):=rfl;have cb:uh (.tup [a1,b1])=(nz a1 && sdB b1):=rfl;rw[cb];clear h cb;cases q:nz a1 with
  |false=>rw[q]at pa;clear q;walk_at "run";all_goals rfl
  |true=>
   rw[q]at pa;clear q;cases q2:sdB b1 with
   |false=>rw[q2]at sb;clear q2;walk_at "run";all_goals rfl
   |true=>rw[q2]at sb;clear q2;walk_at "run";all_goals rfl
end
section
variable{cs:List Col}{rs:List (List (List Nat))}
theorem ug(a b:D):∀(xs:List D)(x:Option Sl),xs.all (cD 2)=true->∃y,eR (iT 2) (dJ gQ) xs [some (.val a),some (.val b),x]=if xs.all uh=true then .nx [some (.val a),some (.val b),y]else .rt (.bl false)
 | [],x,_=>⟨x,rfl⟩
 |d::xs,x,h=>by
  simp only[j4,o7]at h;have hb:=zg h.1 a b x;obtain⟨y,ih⟩:=ug a b xs (some (.val d)) h.2;refine⟨y,?_⟩;rw[j4];cases q:uh d with
  |true=>rw[q,if_pos rfl]at hb;rw[je (ρ1:=[some (.val a),some (.val b),some (.val d)]) rfl hb,ih,mG]
  |false=>rw[q,if_neg (by simp)]at hb;rw[pX,if_neg (by simp)];exact Da (ρ1:=[some (.val a),some (.val b),some (.val d)]) rfl hb
noncomputable def qe(m:Int)(rs:List (List (List Nat))):Bool:=rs.all λr=>((r.length:Int)==m)
def EV{c:D}(h:cD 3 c=true)(h9:rs.length<=9):rB [c,aY rs]=.ok (.bl (wo c && qe (qk c) rs)):=by
 have tb:∀b:Bool,fO (.bl b)=.ok b:=λ_=>rfl;show aJ (aG (fy _) (aG (fj _) (aG (eZ _) oNx)) [some (.val c),some (.val (aY rs)),none])=_;unfold fy fj eZ;cases c <;> first|(simp[cD]at h;done)|rfl|skip
 rename_i xs;have t1:fu (·=="tuple") (.tup xs)=.ok (.bl true):=rfl;have l1:df [.tup xs]=some (.int (xs.length:Int)):=rfl;have i1:bg (.tup xs)=.ok xs:=rfl;have i2:bg (aY rs)=.ok (rs.map bO):=rfl;show _=R.ok (D.bl ((decide (1<=xs.length) && decide (xs.length<=6) && xs.all uh) && qe xs.length rs));have hg:xs.all (cD 2)=true:=h;have in1:∀y,cP [0] [some (.val (.tup xs)),some (.val (aY rs)),y]=[none,some (.val (.tup xs))]:=λ_=>rfl;have fl:cH (gB2 neF (gOf df (aa (rvz 0) λ_=>R.ok [])) (gOf df (aa (rvz 1) λ_=>R.ok []))) (rvz 0) (rs.map bO) [none,some (.val (.tup xs))]=.ok (((rs.map bO).filter λd=>!(qk d==(xs.length:Int))).map id):=by refine jA _ id [some (.val (.tup xs))] (rs.map bO) none λd m=>?_;obtain⟨r,hr,rfl⟩:=v7.1 m;refine⟨?_,λ_=>rfl⟩;show(ofO (neF (.int ((r.map D.str).length:Nat)) (.int (xs.length:Int)))>>=asB)=_;rfl
 by_cases h1:1<=xs.length
 ·have q1:decide ((1:Int)<=(xs.length:Int))=true:=by simp;omega
  by_cases h2:xs.length<=6
  ·have q2:decide ((xs.length:Int)<=6)=true:=by simp;omega
   rw[sM h1,sM h2,mG,mG];obtain⟨y,lp⟩:=ug (.tup xs) (aY rs) xs none hg;cases q:xs.all uh with
   |false=>
    rw[q,if_neg (by simp)]at lp;rw[pX];clear h h9 hg fl in1 h1 h2 q
    walk_at "run"
    all_goals rfl
   |true=>
    rw[q,if_pos rfl]at lp;rw[mG,List.map_id]at *;generalize hL:(rs.map bO).filter (λd=>!(qk d==(xs.length:Int)))=L at fl;have hz:L.length<=sizeLine:=by rw[<- hL];refine w9 (List.length_filter_le _ _) ?_;rw[za];exact w9 h9 (by decide)
    have z0:0<=sizeLine:=by decide
    have eb:eqF (.lst false L) (.lst false [])=some (.bl (qe xs.length rs)):=by
     cases L with
     |nil=>
      have:qe xs.length rs=true:=by unfold qe;rw[List.filter_eq_nil_iff]at hL;refine v6.2 λr hr=>?_;have:=hL (bO r) (v7.2 ⟨r,hr,rfl⟩);simp only[bO,qk,za]at this;simpa using this
      rw[this];rfl
     |cons d L=>
      have:qe xs.length rs=false:=by
       have hd:d∈(rs.map bO).filter (λd=>!(qk d==(xs.length:Int))):=by rw[hL];exact sS ..
       obtain⟨h3,h4⟩:=List.mem_filter.1 hd;obtain⟨r,hr,rfl⟩:=v7.1 h3;unfold qe;refine ZP.2 ⟨r,hr,?_⟩;simp only[bO,qk,za]at h4;simpa using h4
      rw[this];rfl
    clear h h9 hg h1 h2 q hL
    walk_at "run"
    all_goals rfl
  ·have q2:decide ((xs.length:Int)<=6)=false:=by simp;omega
   rw[tH h2,mE,pX,pX];clear h h9 hg fl in1 h1 h2
   walk_at "run"
   all_goals rfl
 ·have q1:decide ((1:Int)<=(xs.length:Int))=false:=by simp;omega
  rw[tH h1,pX,pX,pX];clear h h9 hg fl in1 h1
  walk_at "run"
  all_goals rfl
def Go{c:D}(g:GT cs rs)(h:cD 3 c=true):∃b,cR [c,aY rs]=.ok (.bl b)/\rB [c,aY rs]=.ok (.bl b):=by
 refine⟨_,xW h g.rgood,?_⟩;rw[EV h g.nine]
 congr 3
 show _=(decide ((rs.map bO).length<=9) && (rs.map bO).all (rwB (qk c)));rw[za,sM g.nine,mG,p7];unfold qe;rw[Bool.eq_iff_iff,v6,v6];have e:∀r∈rs,(rwB (qk c) ∘ bO) r=((r.length:Int)==qk c):=λr hr=>by
  show((((r.map D.str).length:Nat):Int)==qk c && (r.map D.str).all nz)=_;have:(r.map D.str).all nz=true:=by rw[p7];exact v6.2 λx hx=>((g.row r hr).2 x hx).1
  rw[this,d3,za]
 exact⟨λH r hr=>by rw[e r hr];exact H r hr,λH r hr=>by rw[<- e r hr];exact H r hr⟩
end
def uR(ns:List Int)(fz:Bool)(k:Nat)(T:D)(hp:pt 4 T=true)(ho:okd 4 T=true):∃d,bM [.lst fz (ns.map .int),.int (k:Int),T]=.ok d/\cD 4 d=true:=by
 obtain⟨⟨x,hx,m,hm⟩,hput⟩:=oN 4 T _ hp (oh ns k T);obtain⟨r,hr⟩:=hput (mY ns k x);refine⟨r,?_,tP 4 _ _ _ r hr (rJ 4 4 _ hp) (xP ns k x hm)⟩;have e:bM [.lst fz (ns.map .int),.int (k:Int),T]=ofO (rE (eO ns k T) T (mY ns k ((yb (eO ns k T) T).getD .non))):=by simp only[bM,li,tI];rw[if_pos ⟨by omega,hp,ho⟩]
 rw[e,hx,Option.getD_some,hr];rfl
section
variable{cs:List Col}{rs:List (List (List Nat))}
def Ce(g:GT cs rs):pt 4 (aP cs)=true:=by have h6:=g.six;show((cs.map fA).all (pt 3) && decide ((cs.map fA).length<=900))=true;rw[za,sM (by omega),d3,p7];refine v6.2 λc hc=>?_;have:=(g.col c hc).2.1;show([D.str c.1,.str [c.2]].all (pt 2) && decide (2<=900))=true;simp only[j4,ZO,pt];simp;omega
theorem yr{α:Type}{b:Nat}(f:Nat->List α):∀(ks:List Nat),(∀k∈ks,(f k).length<=b)->(ks.flatMap f).length<=b * ks.length
 | [],_=>by simp
 |k::ks,h=>by have h1:=h k (sS ..);have h2:=yr f ks λj hj=>h j (rO _ hj);rw[Yi,rR,r6,Nat.mul_add];omega
def AI(g:GT cs rs):okd 4 (aP cs)=true:=by
 have h6:=g.six;have c3:∀c:Col,okd 3 (fA c)=true/\(dA 3 (fA c)).length=3:=λc=>⟨rfl,rfl⟩
 have hp:(dA 4 (aP cs)).length<=19:=by
  show([]::(List.range (cs.map fA).length).flatMap λk=>(dA 3 ((cs.map fA).getD k .non)).map (k::·)).length<=19;rw[r6,za];have:=yr (b:=3) (λk=>(dA 3 ((cs.map fA).getD k .non)).map (k::·)) (List.range cs.length) λk hk=>by have hk:=oB.1 hk;rw[za,xZ,v8,xw hk];show(dA 3 (fA cs[k])).length<=3;rw[(c3 _).2];exact yo _
  rw[Za]at this;omega
 show((cs.map fA).all (okd 3) && decide ((dA 4 (aP cs)).length<=1000) && decide ((cs.map fA).length<=1000))=true;rw[za,sM (by omega),sM (by omega),d3,d3,p7];exact v6.2 λc _=>(c3 c).1
def sP{x:D}(h:n<=100):dz (.tup [x]) (.int (n:Int))=some (.tup (List.replicate n x)):=by
 simp only[dz];rw[if_pos ⟨by omega,by omega,by rw[tI,lQ,Nat.one_mul];exact w9 h (by decide)⟩,tI]
 congr 2
 clear h;induction n with
 |zero=>rfl
 |succ n ih=>rw[o8,j0,ih];rfl
noncomputable def sR(cs:List Col)(rs:List (List (List Nat))):List D:=[.non,.tup (rs.map bO),.lst false (rs.map bO++[.tup (List.replicate (cs.length+1) (.str [97]))]),.lst false (rs.map bO++[.non]),.lst false [.tup (List.replicate cs.length (.str [97,10]))],.lst false [.lst false ((List.replicate cs.length 97).map λc=>.str [c])],.lst false (rs.map bO++[.tup (List.replicate (cs.length - 1) (.str [97])++[D.int 5])]),.lst false (rs.map bO++[.tup ([.str [97,10]]++List.replicate (cs.length - 1) (.str [97]))])]
def jM{x:D}(g:GT cs rs)(hg:cD 2 x=true)(hs:shr x=true)(hx:rwB (cs.length:Int) x=false):cR [aP cs,.lst false (rs.map bO++[x])]=.ok (.bl false):=by
 have r1:(rs.map bO).all (λd=>cD 2 d && shr d)=true:=g.rgood;have hr:rgood (.lst false (rs.map bO++[x]))=true:=by show(rs.map bO++[x]).all (λd=>cD 2 d && shr d)=true;rw[ZQ,r1];simp[hg,hs]
 have:=xW (c:=aP cs) g.cols.2 hr;rw[this];have t:qk (aP cs)=(cs.length:Int):=by show(((cs.map fA).length:Nat):Int)=_;rw[za]
 have e:rsB (qk (aP cs)) (.lst false (rs.map bO++[x]))=false:=by show(decide ((rs.map bO++[x]).length<=9) && (rs.map bO++[x]).all (rwB (qk (aP cs))))=false;rw[t,ZQ];simp[hx]
 rw[e,mE]
def kD{x:D}{m:Nat}(h:cD m x=true):(List.replicate n x).all (cD m)=true:=by refine v6.2 λy hy=>?_;rw[(List.mem_replicate.1 hy).2];exact h
def DA(g:GT cs rs):∀o∈sR cs rs,cR [aP cs,o]=.ok (.bl false):=by
 have o1:=g.one;have o6:=g.six;intro o ho;have one:∀{x:D},cD 2 x=true->shr x=true->rwB (cs.length:Int) x=false->cR [aP cs,.lst false [x]]=.ok (.bl false):=λ{x} a b c=>by
  have g0:GT cs []:=⟨g.one,g.six,g.col,by simp,λr hr=>by simp at hr⟩
  have e:[x]=([]:List (List (List Nat))).map bO++[x]:=rfl;rw[e];exact jM g0 a b c
 simp only[sR,v0,sy,sH]at ho;rcases ho with rfl|rfl|rfl|rfl|rfl|rfl|rfl|rfl
 ·have:=xW (c:=aP cs) (d:=.non) g.cols.2 rfl;rw[this,show rsB (qk (aP cs)) .non=false from rfl,mE]
 ·have:=xW (c:=aP cs) (d:=.tup (rs.map bO)) g.cols.2 rfl;rw[this,show rsB (qk (aP cs)) (.tup (rs.map bO))=false from rfl,mE]
 ·refine jM g (kD (m:=1) rfl) ?_ ?_;·show decide ((List.replicate (cs.length+1) (D.str [97])).length<=1000)=true;rw[o5];simp;omega
  ·show((((List.replicate (cs.length+1) (D.str [97])).length:Nat):Int)==(cs.length:Int) && _)=false;rw[o5];have:(((cs.length+1:Nat):Int)==(cs.length:Int))=false:=by rw[i4];omega
   rw[this,pX]
 ·exact jM g rfl rfl rfl
 ·refine one (kD (m:=1) rfl) ?_ ?_;·show decide ((List.replicate cs.length (D.str [97,10])).length<=1000)=true;rw[o5];simp;omega
  ·show(_ && (List.replicate cs.length (D.str [97,10])).all nz)=false;have:(List.replicate cs.length (D.str [97,10])).all nz=false:=by refine ZP.2 ⟨D.str [97,10],List.mem_replicate.2 ⟨by omega,rfl⟩,?_⟩;decide
   rw[this,mE]
 ·refine one ?_ rfl rfl;show(((List.replicate cs.length 97).map λc=>D.str [c]).all (cD 1))=true;rw[p7];exact v6.2 λ_ _=>rfl
 ·refine jM g ?_ ?_ ?_;·show((List.replicate (cs.length - 1) (D.str [97])++[D.int 5]).all (cD 1))=true;rw[ZQ,kD rfl];rfl
  ·show decide ((List.replicate (cs.length - 1) (D.str [97])++[D.int 5]).length<=1000)=true;rw[rR,o5];simp;omega
  ·show(_ && (List.replicate (cs.length - 1) (D.str [97])++[D.int 5]).all nz)=false;have:(List.replicate (cs.length - 1) (D.str [97])++[D.int 5]).all nz=false:=by refine ZP.2 ⟨.int 5,by simp,?_⟩;decide
   rw[this,mE]
 ·refine jM g ?_ ?_ ?_;·show(([D.str [97,10]]++List.replicate (cs.length - 1) (D.str [97])).all (cD 1))=true;rw[ZQ,kD rfl];rfl
  ·show decide (([D.str [97,10]]++List.replicate (cs.length - 1) (D.str [97])).length<=1000)=true;rw[rR,o5];simp;omega
  ·show(_ && ([D.str [97,10]]++List.replicate (cs.length - 1) (D.str [97])).all nz)=false;have:([D.str [97,10]]++List.replicate (cs.length - 1) (D.str [97])).all nz=false:=by refine ZP.2 ⟨D.str [97,10],by simp,?_⟩;decide
   rw[this,mE]
end
noncomputable abbrev nTb:List Nat:=[110,111,32,116,97,98,108,101]
noncomputable abbrev nRm:List Nat:=[110,111,32,114,111,111,109]
structure DD(dd:List D->R D)(cs:List Col)(rs:List (List (List Nat))):Prop where
 bad:∀w:Nat,w<3->∀c d e,cR [c,d]=.ok (.bl false)->dd [.int (w:Int),c,d,e]=.ok (.str nTb)
 room:∀w:Nat,w<2->∀e,mv [e,.int (2 * (cs.length:Int) - 1),.int 40]=.ok (.bl false)->dd [.int (w:Int),aP cs,aY rs,e]=.ok (.str nRm)
 place:∀e,mv [e,.int 0,.int ((cs.length:Int) - 1)]=.ok (.bl false)->dd [.int 2,aP cs,aY rs,e]=.ok (.str nTb)
noncomputable def arF(dd:List D->R D):List D->R D:=λds=>aJ (bL bM cR rB dd bc (aM 7 ds))
def yD{ge:Ev->R D}{tl:Ev}{v:D}(h:∀d∈ds,ge (some (.val d)::tl)=.ok v):cH (λ_=>R.ok true) ge ds (none::tl)=.ok (ds.map λ_=>v):=br (λ_=>v) tl ds none λd m=>⟨rfl,h d m⟩
def Dx{f:Bool}{xs ys:List D}(h:xs.length+ys.length<=10000):bT (.lst false xs) (.lst false ys)=some (.lst false (xs++ys)):=by have:=fJ;exact if_pos (by omega)
def EE{xs ys:List D}(h:xs.length+ys.length<=10000):bT (.tup xs) (.tup ys)=some (.tup (xs++ys)):=by have:=fJ;exact if_pos (by omega)
section
variable{cs:List Col}{rs:List (List (List Nat))}{dd:List D->R D}
def HH(H:DD dd cs rs){S bad:D}{b:Bool}{x3:Option Sl}(hb:cR [bad,aY rs]=.ok (.bl b)):dN bM cR rB dd bc [some (.val S),some (.val (aP cs)),some (.val (aY rs)),x3,some (.val bad),some (.val (.bl b)),x6]=.nx [some (.val S),some (.val (aP cs)),some (.val (aY rs)),x3,some (.val bad),some (.val (.bl b)),x6]:=by
 have tb:∀b:Bool,fO (.bl b)=.ok b:=λ_=>rfl;unfold dN;cases b with
 |true=>clear hb;walk_at "run"
 |false=>
  have ra:bQ [.int 3]=.ok [.int 0,.int 1,.int 2]:=rfl;have in1:cP [2,4] [some (.val S),some (.val (aP cs)),some (.val (aY rs)),x3,some (.val bad),some (.val (.bl false)),x6]=[none,some (.val (aY rs)),some (.val bad)]:=rfl;have c1:cH (λ_=>R.ok true) (aR 4 dd (aa (rvz 0) (aa (rvz 2) (aa (rvz 1) (aa (λ_=>R.ok D.non) nlz))))) [.int 0,.int 1,.int 2] [none,some (.val (aY rs)),some (.val bad)]=.ok [.str nTb,.str nTb,.str nTb]:=by
   refine yD (v:=.str nTb) λd m=>?_;rw[nU];simp only[v0,sy,sH]at m;rcases m with rfl|rfl|rfl;·exact H.bad 0 (by decide) _ _ _ hb
   ·exact H.bad 1 (by decide) _ _ _ hb
   ·exact H.bad 2 (by decide) _ _ _ hb
  have m1:dz (.lst false [.str nTb]) (.int 3)=some (.lst false [.str nTb,.str nTb,.str nTb]):=rfl;have n1:neF (.lst false [.str nTb,.str nTb,.str nTb]) (.lst false [.str nTb,.str nTb,.str nTb])=some (.bl false):=rfl;have l3:3<=sizeLine:=by decide
  have l1:1<=sizeLine:=by decide
  have l0:0<=sizeLine:=by decide
  clear H hb
  walk_at "run"
def Fy(g:GT cs rs){S:D}(k:Ev->O):aG (dU bM cR rB dd bc) (aG (dI bM cR rB dd bc) (pU 6 k)) [some (.val S),some (.val (aP cs)),some (.val (aY rs)),some (.val (.int (cs.length:Int))),x4,x5,x6]=k [some (.val S),some (.val (aP cs)),some (.val (aY rs)),some (.val (.int (cs.length:Int))),x4,x5,some (.val (.lst false (sR cs rs)))]:=by
 have n6:=g.six;have n9:=g.nine;have n1:=g.one;have t1:fX [aY rs]=some (.tup (rs.map bO)):=rfl;have a1:∀x:D,bT (aY rs) (.lst false [x])=some (.lst false (rs.map bO++[x])):=λx=>Dx (f:=false) (by rw[za,lQ];omega);have m1:dz (.tup [.str [97]]) (.int ((cs.length:Int)+1))=some (.tup (List.replicate (cs.length+1) (.str [97]))):=sP (n:=cs.length+1) (by omega);have m2:dz (.tup [.str [97,10]]) (.int (cs.length:Int))=some (.tup (List.replicate cs.length (.str [97,10]))):=sP (by omega);have m3:dz (.str [97]) (.int (cs.length:Int))=some (.str (List.replicate cs.length 97)):=wP (by omega);have ls:ua [.str (List.replicate cs.length 97)]=some (.lst false ((List.replicate cs.length 97).map λc=>.str [c])):=if_pos (by rw[o5];omega);have m4:dz (.tup [.str [97]]) (.int ((cs.length:Int) - 1))=some (.tup (List.replicate (cs.length - 1) (.str [97]))):=by rw[show(cs.length:Int) - 1=((cs.length - 1:Nat):Int) by omega];exact sP (by omega)
 have a2:bT (.tup (List.replicate (cs.length - 1) (.str [97]))) (.tup [.int 5])=some (.tup (List.replicate (cs.length - 1) (.str [97])++[D.int 5])):=EE (by rw[o5,lQ];omega);have a3:bT (.tup [.str [97,10]]) (.tup (List.replicate (cs.length - 1) (.str [97])))=some (.tup ([.str [97,10]]++List.replicate (cs.length - 1) (.str [97]))):=EE (by rw[o5,lQ];omega);have k1:∀x:D,mkT [x]=.ok (.tup [x]):=λ_=>rfl;have l1:1<=sizeLine:=by decide
 have l6:6<=sizeLine:=by decide
 have l2:2<=sizeLine:=by decide
 have l8:6+2<=sizeLine:=by decide
 have fz:∀(a b c d e f:Option Sl)(l:List D),frz 6 [a,b,c,d,e,f,some (.own l)]=[a,b,c,d,e,f,some (.val (.lst false l))]:=λ_ _ _ _ _ _ _=>rfl;unfold sR dU dI;clear g n6 n9 n1;generalize List.replicate (cs.length+1) (D.str [97])=r1 at *;generalize List.replicate (cs.length - 1) (D.str [97])=r2 at *;generalize List.replicate cs.length (D.str [97,10])=r3 at *;generalize (List.replicate cs.length 97)=r4 at *
 walk_at "run"
 all_goals rfl
def rf:dz (.lst false [.str nTb]) (.int 3)=some (.lst false [.str nTb,.str nTb,.str nTb])/\neF (.lst false [.str nTb,.str nTb,.str nTb]) (.lst false [.str nTb,.str nTb,.str nTb])=some (.bl false):=⟨rfl,rfl⟩
def Hx(H:DD dd cs rs)(g:GT cs rs){ns:List Int}{x2 x3:Option Sl}:dR bM cR rB dd bc [some (.val (.lst fz (ns.map .int))),some (.val (aP cs)),x2,x3,x4,x5,some (.val (.lst false (sR cs rs)))]=.nx [some (.val (.lst fz (ns.map .int))),some (.val (aP cs)),x2,x3,x4,x5,some (.val (.lst false (sR cs rs)))]:=by
 have ra:bQ [.int 3]=.ok [.int 0,.int 1,.int 2]:=rfl;have in1:cP [0,1,6] [some (.val (.lst fz (ns.map .int))),some (.val (aP cs)),x2,x3,x4,x5,some (.val (.lst false (sR cs rs)))]=[none,some (.val (.lst fz (ns.map .int))),some (.val (aP cs)),some (.val (.lst false (sR cs rs)))]:=rfl;have pk:bc [.lst fz (ns.map .int),.int 4,.int 8]=.ok (.int (dW ns 4 8)):=gj (n:=4) (by decide);obtain⟨p0,p8⟩:=dY ns 4 (m:=8) (by decide);obtain⟨p,hp⟩:∃p:Nat,dW ns 4 8=(p:Int):=⟨(dW ns 4 8).toNat,by omega⟩
 rw[hp]at pk p8;have hl:p<(sR cs rs).length:=by show p<8;omega
 have hx:ixD (.lst false (sR cs rs)) (.int (p:Int))=some (sR cs rs)[p]:=Ci (xw hl);have hb:=DA g _ (oG hl);generalize (sR cs rs)[p]=o at hx hb;generalize sR cs rs=od at *;have c1:cH (λ_=>R.ok true) (aR 4 dd (aa (rvz 0) (aa (rvz 2) (aa (g2 ixD (rvz 3) (aR 3 bc (aa (rvz 1) (aa (ciz 4) (aa (ciz 8) nlz))))) (aa (ciz 0) nlz))))) [.int 0,.int 1,.int 2] [none,some (.val (.lst fz (ns.map .int))),some (.val (aP cs)),some (.val (.lst false od))]=.ok [.str nTb,.str nTb,.str nTb]:=by
  refine yD (v:=.str nTb) λd m=>?_;have e:dd [d,aP cs,o,.int 0]=.ok (.str nTb):=by
   simp only[v0,sy,sH]at m;rcases m with rfl|rfl|rfl;·exact H.bad 0 (by decide) _ _ _ hb
   ·exact H.bad 1 (by decide) _ _ _ hb
   ·exact H.bad 2 (by decide) _ _ _ hb
  clear H g hb in1 m ra p0 p8 hp
  walk_at "run"
 obtain⟨m1,n1⟩:=rf;have l3:3<=sizeLine:=by decide
 have l1:1<=sizeLine:=by decide
 unfold dR;clear H g hb hx pk p0 p8 hp
 walk_at "run"
def Hh(H:DD dd cs rs):dL bM cR rB dd bc [x0,some (.val (aP cs)),some (.val (aY rs)),some (.val (.int (cs.length:Int))),x4,x5,x6]=.nx [x0,some (.val (aP cs)),some (.val (aY rs)),some (.val (.int (cs.length:Int))),x4,x5,x6]:=by
 have in1:cP [1,2] [x0,some (.val (aP cs)),some (.val (aY rs)),some (.val (.int (cs.length:Int))),x4,x5,x6]=[none,some (.val (aP cs)),some (.val (aY rs))]:=rfl;have c1:cH (λ_=>R.ok true) (aR 4 dd (aa (ciz 2) (aa (rvz 1) (aa (rvz 2) (aa (rvz 0) nlz))))) [.int (cs.length:Int),.int (-1),.non] [none,some (.val (aP cs)),some (.val (aY rs))]=.ok [.str nTb,.str nTb,.str nTb]:=by
  refine yD (v:=.str nTb) λd m=>?_;rw[nU];simp only[v0,sy,sH]at m;refine H.place _ ?_;rcases m with rfl|rfl|rfl;·rw[rH,tH (p:=(cs.length:Int)<=(cs.length:Int) - 1) (by omega),mE]
  ·rw[rH,tH (p:=(0:Int)<=-1) (by omega),pX]
  ·rfl
 obtain⟨m1,n1⟩:=rf;have l3:3<=sizeLine:=by decide
 have l1:1<=sizeLine:=by decide
 have ng:BN (.int 1)=.ok (.int (-1)):=rfl;have k3:∀x y z:D,mkT [x,y,z]=.ok (.tup [x,y,z]):=λ_ _ _=>rfl;have i3:∀x y z:D,bg (.tup [x,y,z])=.ok [x,y,z]:=λ_ _ _=>rfl;unfold dL;clear H
 walk_at "run"
def En(H:DD dd cs rs)(g:GT cs rs):aG (cW bM cR rB dd bc) (aG (dh bM cR rB dd bc) oNx) [x0,some (.val (aP cs)),some (.val (aY rs)),some (.val (.int (cs.length:Int))),x4,x5,x6]=.rt (.bl true):=by
 have n6:=g.six;have in1:∀x5,cP [1,2] [x0,some (.val (aP cs)),some (.val (aY rs)),some (.val (.int (cs.length:Int))),x4,x5,x6]=[none,some (.val (aP cs)),some (.val (aY rs))]:=λ_=>rfl;have d0:dd [.int 0,aP cs,aY rs,.int (2 * (cs.length:Int) - 2)]=.ok (.str nRm):=H.room 0 (by decide) _ (by
  rw[rH,tH (p:=2 * (cs.length:Int) - 1<=2 * (cs.length:Int) - 2) (by omega),pX]);have d1:dd [.int 1,aP cs,aY rs,.int 41]=.ok (.str nRm):=H.room 1 (by decide) _ (by
  rw[rH,tH (p:=(41:Int)<=40) (by omega),mE]);have c1:cH (λ_=>R.ok true) (aR 4 dd (aa (rvz 0) (aa (rvz 1) (aa (rvz 2) (aa (λ_=>R.ok D.non) nlz))))) [.int 0,.int 1] [none,some (.val (aP cs)),some (.val (aY rs))]=.ok [.str nRm,.str nRm]:=by
  refine yD (v:=.str nRm) λd m=>?_;rw[nU];simp only[v0,sy,sH]at m;rcases m with rfl|rfl;·exact H.room 0 (by decide) _ rfl
  ·exact H.room 1 (by decide) _ rfl
 have ra:bQ [.int 2]=.ok [.int 0,.int 1]:=rfl;have l4:4<=sizeLine:=by decide
 have l2:2<=sizeLine:=by decide
 have l1:1<=sizeLine:=by decide
 have m0:dz (.int 2) (.int (cs.length:Int))=some (.int (2 * (cs.length:Int))):=by simp only[dz];exact if_pos (.inl (by decide))
 have m1:dz (.lst false [.str nRm]) (.int 4)=some (.lst false [.str nRm,.str nRm,.str nRm,.str nRm]):=rfl;have a1:bT (.lst false [.str nRm,.str nRm]) (.lst false [.str nRm,.str nRm])=some (.lst false [.str nRm,.str nRm,.str nRm,.str nRm]):=rfl;have e1:eqF (.lst false [.str nRm,.str nRm,.str nRm,.str nRm]) (.lst false [.str nRm,.str nRm,.str nRm,.str nRm])=some (.bl true):=rfl;unfold cW dh;clear H g n6
 walk_at "run"
def Hb(H:DD dd cs rs)(g:GT cs rs){ns:List Int}:arF dd [.lst fz (ns.map .int),aP cs,aY rs]=.ok (.bl true):=by
 obtain⟨bad,hbad,hgood⟩:=uR ns fz 300 (aP cs) (Ce g) (AI g);obtain⟨b,hb,hlit⟩:=Go g (jN 3 _ hgood);have s5:=HH (dd:=dd) H (S:=.lst fz (ns.map .int)) (x3:=some (.val (.int (cs.length:Int)))) (x6:=none) hb;have s67:=Fy (dd:=dd) g (S:=.lst fz (ns.map .int)) (x4:=some (.val bad)) (x5:=some (.val (.bl b))) (x6:=none);have s8:=Hx H g (fz:=fz) (ns:=ns) (x2:=some (.val (aY rs))) (x3:=some (.val (.int (cs.length:Int)))) (x4:=some (.val bad)) (x5:=some (.val (.bl b)));have s9:=Hh H (x0:=some (.val (.lst fz (ns.map .int)))) (x4:=some (.val bad)) (x5:=some (.val (.bl b))) (x6:=some (.val (.lst false (sR cs rs))));have s10:=En H g (x0:=some (.val (.lst fz (ns.map .int)))) (x4:=some (.val bad)) (x5:=some (.val (.bl b))) (x6:=some (.val (.lst false (sR cs rs))));have l1:df [aP cs]=some (.int (cs.length:Int)):=by show some (D.int ((cs.map fA).length:Nat))=_;rw[za]
 have n1:neF (.bl b) (.bl b)=some (.bl false):=by cases b <;> rfl
 have ty:fu (·=="bool") (.bl b)=.ok (.bl true):=rfl;have tb:∀b:Bool,fO (.bl b)=.ok b:=λ_=>rfl;have sp:bM [.lst fz (ns.map .int),.int 300,aP cs]=.ok bad:=hbad;have r1:∀k,aG (dP bM cR rB dd bc) (aG (dB bM cR rB dd bc) (aG (dH bM cR rB dd bc) (aG (dS bM cR rB dd bc) k))) [some (.val (.lst fz (ns.map .int))),some (.val (aP cs)),some (.val (aY rs)),none,none,none,none]=k [some (.val (.lst fz (ns.map .int))),some (.val (aP cs)),some (.val (aY rs)),some (.val (.int (cs.length:Int))),some (.val bad),some (.val (.bl b)),none]:=by
  intro k;unfold dP dB dH dS;clear s5 s67 s8 s9 s10 H g hbad hgood
  walk_at "run"
 show aJ (bL bM cR rB dd bc [some (.val (.lst fz (ns.map .int))),some (.val (aP cs)),some (.val (aY rs)),none,none,none,none])=_;unfold bL;rw[r1,lJ,s5,ya,s67,lJ,s8,ya,lJ,s9,ya,s10];rfl
end
noncomputable def Gy:List Nat:=[98,97,99,100,101,32,102]
noncomputable def wdT(p q r:Nat):List Nat:=(List.replicate (1+r) (iJ (iJ Gy none (some (p:Int))) (some (q:Int)) none)).flatten
def Br:∀p,p<8->∀q,q<3->∀r,r<2->plain (wdT p q r)=true/\(wdT p q r).length<=50/\(iJ (iJ Gy none (some (p:Int))) (some (q:Int)) none).length<=10:=by decide
noncomputable def pk(ns:List Int)(a m:Nat):Nat:=(dW ns a m).toNat
def ky(ns:List Int)(fz:Bool)(a:Nat){m:Nat}(h:0<m):pk ns a m<m/\bc [.lst fz (ns.map .int),.int (a:Int),.int (m:Int)]=.ok (.int (pk ns a m:Nat)):=by obtain⟨h0,h1⟩:=dY ns a (m:=m) (by omega);unfold pk;refine⟨by omega,?_⟩;rw[gj (by omega),j5 h0]
noncomputable def mC(ns:List Int)(a:Nat):List Nat:=wdT (pk ns a 8) (pk ns (a+1) 3) (pk ns (a+2) 2)
def tj(ns:List Int)(a:Nat):plain (mC ns a)=true/\(mC ns a).length<=50:=by have h:=Br _ (ky ns true a (m:=8) (by decide)).1 _ (ky ns true (a+1) (m:=3) (by decide)).1 _ (ky ns true (a+2) (m:=2) (by decide)).1;exact⟨h.1,h.2.1⟩
noncomputable def waF:List D->R D:=λds=>aJ (fh bc (aM 2 ds))
def B1{x:List Nat}(hx:x.length<=10)(h:n<=100):dz (.str x) (.int (n:Int))=some (.str (List.replicate n x).flatten):=by
 have hz:x.length * (n:Int).toNat<=sizeLine:=by rw[tI];exact w9 (Nat.mul_le_mul hx h) (by decide)
 simp only[dz];rw[if_pos ⟨by omega,by omega,hz⟩,tI]
def ET(ns:List Int)(fz:Bool)(a:Nat):waF [.lst fz (ns.map .int),.int (a:Int)]=.ok (.str (mC ns a)):=by
 obtain⟨h0,p0⟩:=ky ns fz a (m:=8) (by decide);obtain⟨h1,p1⟩:=ky ns fz (a+1) (m:=3) (by decide);obtain⟨h2,p2⟩:=ky ns fz (a+2) (m:=2) (by decide);have p1:bc [.lst fz (ns.map .int),.int ((a:Int)+1),.int 3]=.ok (.int (pk ns (a+1) 3:Nat)):=p1;have p2:bc [.lst fz (ns.map .int),.int ((a:Int)+2),.int 2]=.ok (.int (pk ns (a+2) 2:Nat)):=p2;have p0:bc [.lst fz (ns.map .int),.int (a:Int),.int 8]=.ok (.int (pk ns a 8:Nat)):=p0;unfold mC;generalize pk ns a 8=p at *;generalize pk ns (a+1) 3=q at *;generalize pk ns (a+2) 2=r at *;have m1:dz (.str (iJ (iJ [98,97,99,100,101,32,102] none (some (p:Int))) (some (q:Int)) none)) (.int (1+(r:Int)))=some (.str (wdT p q r)):=by rw[show(1+(r:Int))=((1+r:Nat):Int) by omega];exact B1 (Br p h0 q h1 r h2).2.2 (by omega)
 show aJ (aG (fK bc) oNx [some (.val (.lst fz (ns.map .int))),some (.val (.int (a:Int)))])=_;unfold fK;clear h0 h1 h2
 walk_at "run"
 all_goals rfl
noncomputable def tB(p:Nat):Nat:=([60,62,94]:List Nat).getD p 0
noncomputable def drC(ns:List Int)(n:Nat):List Col:=(List.range n).map λk=>(mC ns (10+5 * k),tB (pk ns (40+k) 3))
noncomputable def drR(ns:List Int)(n k:Nat):List (List Nat):=(List.range n).map λj=>mC ns (100+40 * k+5 * j)
noncomputable def zO(ns:List Int)(n r:Nat):List (List (List Nat)):=(List.range r).map (drR ns n)
def wQ{p:Nat}(h:p<3):ixD (.str [60,62,94]) (.int (p:Int))=some (.str [tB p])/\(tB p=60\/tB p=62\/tB p=94):=by
 match p,h with
 | 0,_=>exact⟨rfl,.inl rfl⟩
 | 1,_=>exact⟨rfl,.inr (.inl rfl)⟩
 | 2,_=>exact⟨rfl,.inr (.inr rfl)⟩
def HI(ns:List Int){r:Nat}(h1:1<=n)(h6:n<=6)(h9:r<=9):GT (drC ns n) (zO ns n r):=by
 refine⟨by unfold drC;simp;omega,by unfold drC;simp;omega,λc hc=>?_,by unfold zO;simp;omega,λr hr=>?_⟩;·obtain⟨k,_,rfl⟩:=v7.1 hc;exact⟨(tj ns _).1,(tj ns _).2,(wQ (ky ns true (40+k) (m:=3) (by decide)).1).2⟩
 ·obtain⟨k,_,rfl⟩:=v7.1 hr;refine⟨by unfold drC drR;simp,λx hx=>?_⟩;obtain⟨j,_,rfl⟩:=v7.1 hx;exact tj ns _
def xH{ns:List Int}:(drC ns n).length=n:=by unfold drC;simp
def zM{a b:Int}(h : -(2 ^ 64)<a/\a<2 ^ 64):dz (.int a) (.int b)=some (.int (a * b)):=by simp only[dz];exact if_pos (.inl h)
section
variable{so dd ar:List D->R D}{ns:List Int}
def Cm(hn:n<=6):cH (λ_=>R.ok true) (aK mkT (aa (aR 2 waF (aa (rvz 1) (aa (g2 bT (ciz 10) (g2 dz (ciz 5) (rvz 0))) nlz))) (aa (g2 ixD (csz [60,62,94]) (aR 3 bc (aa (rvz 1) (aa (g2 bT (ciz 40) (rvz 0)) (aa (ciz 3) nlz))))) nlz))) ((List.range n).map λ(i:Nat)=>D.int (i:Int)) [none,some (.val (.lst fz (ns.map .int)))]=.ok ((drC ns n).map fA):=by
 refine(br (λd=>match d with|.int i=>fA (mC ns (10+5 * i.toNat),tB (pk ns (40+i.toNat) 3))|_=>.non) [some (.val (.lst fz (ns.map .int)))] _ none λd m=>?_).trans ?_
 ·obtain⟨k,_,rfl⟩:=v7.1 m;refine⟨rfl,?_⟩;have w:=ET ns fz (10+5 * k);obtain⟨h3,p3⟩:=ky ns fz (40+k) (m:=3) (by decide);have sx:=(wQ h3).1;have m5:dz (.int 5) (.int (k:Int))=some (.int (5 * (k:Int))):=zM (by decide);rw[show((10+5 * k:Nat):Int)=10+5 * (k:Int) by omega]at w;rw[show((40+k:Nat):Int)=40+(k:Int) by omega]at p3;have p3:bc [.lst fz (ns.map .int),.int (40+(k:Int)),.int 3]=.ok (.int (pk ns (40+k) 3:Nat)):=p3;have k2:∀x y:D,mkT [x,y]=.ok (.tup [x,y]):=λ_ _=>rfl;show _=R.ok (D.tup [.str (mC ns (10+5 * k)),.str [tB (pk ns (40+k) 3)]]);clear h3 m
  walk_at "run"
 ·unfold drC;rw[v9,v9];rfl
def GC(k:Nat):cH (λ_=>R.ok true) (aR 2 waF (aa (rvz 1) (aa (g2 bT (g2 bT (ciz 100) (g2 dz (ciz 40) (rvz 2))) (g2 dz (ciz 5) (rvz 0))) nlz))) ((List.range n).map λ(i:Nat)=>D.int (i:Int)) [none,some (.val (.lst fz (ns.map .int))),some (.val (.int (k:Int)))]=.ok ((drR ns n k).map .str):=by
 refine(br (λd=>match d with|.int i=>.str (mC ns (100+40 * k+5 * i.toNat))|_=>.non) [some (.val (.lst fz (ns.map .int))),some (.val (.int (k:Int)))] _ none λd m=>?_).trans ?_
 ·obtain⟨j,_,rfl⟩:=v7.1 m;refine⟨rfl,?_⟩;have w:=ET ns fz (100+40 * k+5 * j);have m5:dz (.int 5) (.int (j:Int))=some (.int (5 * (j:Int))):=zM (by decide);have m4:dz (.int 40) (.int (k:Int))=some (.int (40 * (k:Int))):=zM (by decide);rw[show((100+40 * k+5 * j:Nat):Int)=100+40 * (k:Int)+5 * (j:Int) by omega]at w;show _=R.ok (D.str (mC ns (100+40 * k+5 * j)));clear m
  walk_at "run"
 ·unfold drR;rw[v9,v9];rfl
def BR{c:D}{acc:List D}{x7 x8 x9:Option Sl}(hn:n<=6)(ha:acc.length<=100):uy bc waF so dd cR ft ar [some (.val (.lst fz (ns.map .int))),some (.val (.int (n:Int))),some (.val c),some (.own acc),some (.val (.int (k:Int))),x5,x6,x7,x8,x9,x10,x11]=.nx [some (.val (.lst fz (ns.map .int))),some (.val (.int (n:Int))),some (.val c),some (.own (acc++[bO (drR ns n k)])),some (.val (.int (k:Int))),x5,x6,x7,x8,x9,x10,x11]:=by
 have ra:=fC (n:=n) (by omega);have rw1:=GC (ns:=ns) (fz:=fz) (n:=n) k;have in1:cP [0,4] [some (.val (.lst fz (ns.map .int))),some (.val (.int (n:Int))),some (.val c),some (.own acc),some (.val (.int (k:Int))),x5,x6,x7,x8,x9,x10,x11]=[none,some (.val (.lst fz (ns.map .int))),some (.val (.int (k:Int)))]:=rfl;have tl:((drR ns n k).map D.str).length<=sizeLine:=by unfold drR;simp;exact Nat.le_trans hn (by decide)
 have tu:fX [.lst false ((drR ns n k).map .str)]=some (bO (drR ns n k)):=rfl;have hz:acc.length<sizeLine:=Nat.lt_of_le_of_lt ha (by decide);have ow:∀a b c d (l:List D) e,ownAt [a,b,c,some (.own l),d,e,x6,x7,x8,x9,x10,x11] 3=.ok l:=λ_ _ _ _ _ _=>rfl;unfold uy;clear hn ha
 walk_at "run"
theorem wA{c:D}{x5 x6 x7 x8 x9 x10 x11:Option Sl}(hn:n<=6):∀(ks:List Nat)(acc:List D)(x4:Option Sl),acc.length+ks.length<=100->∃y,eR (iT 4) (uy bc waF so dd cR ft ar) (ks.map λ(i:Nat)=>D.int (i:Int)) [some (.val (.lst fz (ns.map .int))),some (.val (.int (n:Int))),some (.val c),some (.own acc),x4,x5,x6,x7,x8,x9,x10,x11]=.nx [some (.val (.lst fz (ns.map .int))),some (.val (.int (n:Int))),some (.val c),some (.own (acc++ks.map λk=>bO (drR ns n k))),y,x5,x6,x7,x8,x9,x10,x11]
 | [],acc,x4,_=>⟨x4,by rw[j3,j3,mP];rfl⟩
 |k::ks,acc,x4,h=>by rw[r6]at h;have hb:=BR (so:=so) (dd:=dd) (ft:=ft) (ar:=ar) (ns:=ns) (fz:=fz) (c:=c) (acc:=acc) (k:=k) (x5:=x5) (x6:=x6) (x7:=x7) (x8:=x8) (x9:=x9) (x10:=x10) (x11:=x11) hn (by omega);obtain⟨y,ih⟩:=wA (c:=c) (x5:=x5) (x6:=x6) (x7:=x7) (x8:=x8) (x9:=x9) (x10:=x10) (x11:=x11) hn ks (acc++[bO (drR ns n k)]) (some (.val (.int (k:Int)))) (by rw[rR,lQ];omega);refine⟨y,?_⟩;rw[tv,tv,je rfl hb,ih,io];rfl
def CG(k:Ev->O):∃(n r room:Nat)(y:Option Sl),1<=n/\n<=6/\r<=9/\2 * n - 1<=room/\room<=40/\aG (wL bc waF so dd cR ft ar) (aG (xE bc waF so dd cR ft ar) (aG (xl bc waF so dd cR ft ar) (aG (vV bc waF so dd cR ft ar) (aG (xj bc waF so dd cR ft ar) (pU 3 k))))) [some (.val (.lst fz (ns.map .int))),none,none,none,none,none,none,none,none,none,none,none]=k [some (.val (.lst fz (ns.map .int))),some (.val (.int (n:Int))),some (.val (aP (drC ns n))),some (.val (aY (zO ns n r))),y,some (.val (.int (room:Int))),none,none,none,none,none,none]:=by
 obtain⟨h0,p0⟩:=ky ns fz 0 (m:=4) (by decide);obtain⟨h1,p1⟩:=ky ns fz 1 (m:=5) (by decide);have p0:bc [.lst fz (ns.map .int),.int 0,.int 4]=.ok (.int (pk ns 0 4:Nat)):=p0;have p1:bc [.lst fz (ns.map .int),.int 1,.int 5]=.ok (.int (pk ns 1 5:Nat)):=p1;generalize hn:1+pk ns 0 4=n;obtain⟨h2,p2⟩:=ky ns fz 2 (m:=42 - 2 * n) (by omega);rw[show((42 - 2 * n:Nat):Int)=40 - 2 * (n:Int)+2 by omega]at p2;have p2:bc [.lst fz (ns.map .int),.int 2,.int (40 - 2 * (n:Int)+2)]=.ok (.int (pk ns 2 (42 - 2 * n):Nat)):=p2;generalize pk ns 2 (42 - 2 * n)=q at *;generalize pk ns 1 5=r at *;have en:(1+(pk ns 0 4:Int))=(n:Int):=by omega
 generalize pk ns 0 4=p at *;obtain⟨y,lp⟩:=wA (so:=so) (dd:=dd) (ft:=ft) (ar:=ar) (ns:=ns) (fz:=fz) (n:=n) (c:=aP (drC ns n)) (x5:=none) (x6:=none) (x7:=none) (x8:=none) (x9:=none) (x10:=none) (x11:=none) (by omega) (List.range r) [] none (by simp;omega);have er:(List.range r).map (λk=>bO (drR ns n k))=(zO ns n r).map bO:=by unfold zO;rw[List.map_map];rfl
 rw[j6,er]at lp;refine⟨n,r,2 * n - 1+q,y,by omega,by omega,by omega,by omega,by omega,?_⟩;have ra:=fC (n:=n) (by omega);have rr:=fC (n:=r) (by omega);have lc:=Cm (ns:=ns) (fz:=fz) (n:=n) (by omega);have in1:cP [0] [some (.val (.lst fz (ns.map .int))),some (.val (.int (n:Int))),none,none,none,none,none,none,none,none,none,none]=[none,some (.val (.lst fz (ns.map .int)))]:=rfl;have tl:((drC ns n).map fA).length<=sizeLine:=by rw[za,xH];exact w9 (m:=6) (by omega) (by decide)
 have tu:fX [.lst false ((drC ns n).map fA)]=some (aP (drC ns n)):=rfl;have m2:dz (.int 2) (.int (n:Int))=some (.int (2 * (n:Int))):=zM (by decide);have e2:2 * (n:Int) - 1+(q:Int)=((2 * n - 1+q:Nat):Int):=by omega
 have z0:0<=sizeLine:=by decide
 have f3:∀(a b c d e:Option Sl)(l:List D),frz 3 [a,b,c,some (.own l),d,e,none,none,none,none,none,none]=[a,b,c,some (.val (.lst false l)),d,e,none,none,none,none,none,none]:=λ_ _ _ _ _ _=>rfl;have rv:aY (zO ns n r)=.lst false ((zO ns n r).map bO):=rfl;rw[rv];clear rv er;generalize (zO ns n r).map bO=L at *;unfold wL xE xl vV xj;clear h0 h1 h2 hn
 walk_at "run"
end
section
variable{cs:List Col}{rs:List (List (List Nat))}
def AX(hk:k<cs.length):(nms cs).getD k []=sj cs k:=by unfold nms sj;simp[xZ,v8,xw hk]
def Iw(g:GT cs rs)(hk:k<cs.length):gOf BB (aa (g2 bT (aX (gG (aa (ciz 1) nlz))) (aX (cC (aK bg (g2 bT (rvz 2) (aX (gG (aa (gOf fX (aa (aX (dX 2 (qH [0,1]) (aK bg (rvz 1)) [] (λ_=>R.ok true) (rvz 0))) nlz)) nlz))))) [0] (λ_=>R.ok true) (gOf df (aa (g2 ixD (rvz 0) (rvz 1)) nlz))))) nlz) [some (.val (.int (k:Int))),some (.val (aP cs)),some (.val (aY rs))]=.ok (iD (jm cs rs k)):=by
 have n6:=g.six;have n9:=g.nine;have cg:cM (qH [0,1]) (λ_=>R.ok true) (rvz 0) (cs.map fA) [none,none]=.ok ((nms cs).map .str):=by
  refine(hW (λd=>match d with|.tup [x,_]=>x|_=>.non) (λρ=>∃a b,ρ=[a,b]) (cs.map fA) [none,none] ⟨_,_,rfl⟩ λd m ρ hP=>?_).trans ?_;·obtain⟨c,_,rfl⟩:=v7.1 m;obtain⟨a,b,rfl⟩:=hP;exact⟨[some (.val (.str c.1)),some (.val (.str [c.2]))],rfl,⟨_,_,rfl⟩,rfl,rfl⟩
  ·unfold nms;rw[v9,v9];rfl
 have inT:ce 2 [] [some (.val (.int (k:Int))),some (.val (aP cs)),some (.val (aY rs))]=[none,none]:=rfl;have in0:cP [0] [some (.val (.int (k:Int))),some (.val (aP cs)),some (.val (aY rs))]=[none,some (.val (.int (k:Int)))]:=rfl;have ic:bg (aP cs)=.ok (cs.map fA):=rfl;have nl:(nms cs).length=cs.length:=by unfold nms;simp
 have z1:((nms cs).map D.str).length<=sizeLine:=by rw[za,nl];exact w9 n6 (by decide)
 have tu:fX [.lst false ((nms cs).map .str)]=some (bO (nms cs)):=rfl;have ad:bT (aY rs) (.lst false [bO (nms cs)])=some (.lst false ((rs++[nms cs]).map bO)):=by rw[Z1];exact Dx (f:=false) (by rw[za,lQ];omega)
 have ir:bg (.lst false ((rs++[nms cs]).map bO))=.ok ((rs++[nms cs]).map bO):=rfl;have c2:cH (λ_=>R.ok true) (gOf df (aa (g2 ixD (rvz 0) (rvz 1)) nlz)) ((rs++[nms cs]).map bO) [none,some (.val (.int (k:Int)))]=.ok (((tx (rs++[nms cs]) k).map List.length).map iD):=by
  have hr:∀r∈rs++[nms cs],k<r.length:=λr hr=>by
   rcases d6.1 hr with h|h;·rw[(g.row r h).1];exact hk
   ·rw[l9.1 h,nl];exact hk
  have e:∀r∈rs++[nms cs],(gOf df (aa (g2 ixD (rvz 0) (rvz 1)) nlz)) [some (.val (bO r)),some (.val (.int (k:Int)))]=.ok (iD (r.getD k []).length):=λr h=>by
   have x:=nG (hr r h);have l:df [.str (r.getD k [])]=some (iD (r.getD k []).length):=rfl;clear hr h
   walk_at "run"
  refine(br (λd=>match (gOf df (aa (g2 ixD (rvz 0) (rvz 1)) nlz)) [some (.val d),some (.val (.int (k:Int)))]with|.ok x=>x|_=>.non) [some (.val (.int (k:Int)))] _ none λd m=>?_).trans ?_;·obtain⟨r,h,rfl⟩:=v7.1 m;exact⟨rfl,by rw[e r h]⟩
  ·unfold tx;rw[v9,v9,v9]
   congr 1
   refine mH λr h=>?_;show(match (gOf df (aa (g2 ixD (rvz 0) (rvz 1)) nlz)) [some (.val (bO r)),some (.val (.int (k:Int)))]with|.ok x=>x|_=>.non)=_;rw[e r h];rfl
 have ew:jm cs rs k=mx ((tx (rs++[nms cs]) k).map List.length):=by
  have:tx (rs++[nms cs]) k=tx rs k++[sj cs k]:=by unfold tx;rw[Z1,List.map_singleton,AX hk]
  unfold jm;rw[this,Z1,List.map_singleton,BG,tv,tw]
 rw[ew];have tl:((tx (rs++[nms cs]) k).map List.length).length<=10:=by unfold tx;simp;omega
 generalize (tx (rs++[nms cs]) k).map List.length=L at *;have z2:(L.map iD).length<=sizeLine:=by rw[za];exact w9 tl (by decide)
 have a2:bT (.lst false [.int 1]) (.lst false (L.map iD))=some (.lst false (.int 1::L.map iD)):=Dx (f:=false) (by rw[za,lQ];omega);have mm:=wq false L;have l1:1<=sizeLine:=by decide
 clear g hk ew tl n6 n9 nl
 walk_at "run"
def B2(g:GT cs rs){so dd ar:List D->R D}{S:D}{x7 x8 x9:Option Sl}(k:Ev->O):aG (ul bc waF so dd cR ft ar) (pU 6 k) [some (.val S),some (.val (.int (cs.length:Int))),some (.val (aP cs)),some (.val (aY rs)),x4,x5,x6,x7,x8,x9,x10,x11]=k [some (.val S),some (.val (.int (cs.length:Int))),some (.val (aP cs)),some (.val (aY rs)),x4,x5,some (.val (.lst false ((wsL cs rs).map iD))),x7,x8,x9,x10,x11]:=by
 have n6:=g.six;have ra:=fC (n:=cs.length) (by omega);have in1:cP [2,3] [some (.val S),some (.val (.int (cs.length:Int))),some (.val (aP cs)),some (.val (aY rs)),x4,x5,x6,x7,x8,x9,x10,x11]=[none,some (.val (aP cs)),some (.val (aY rs))]:=rfl;have f6:∀(a b c d e f:Option Sl)(l:List D),frz 6 [a,b,c,d,e,f,some (.own l),x7,x8,x9,x10,x11]=[a,b,c,d,e,f,some (.val (.lst false l)),x7,x8,x9,x10,x11]:=λ_ _ _ _ _ _ _=>rfl;have cc:=br (gt:=λ_=>R.ok true) (ge:=gOf BB (aa (g2 bT (aX (gG (aa (ciz 1) nlz))) (aX (cC (aK bg (g2 bT (rvz 2) (aX (gG (aa (gOf fX (aa (aX (dX 2 (qH [0,1]) (aK bg (rvz 1)) [] (λ_=>R.ok true) (rvz 0))) nlz)) nlz))))) [0] (λ_=>R.ok true) (gOf df (aa (g2 ixD (rvz 0) (rvz 1)) nlz))))) nlz)) (λd=>match d with|.int i=>iD (jm cs rs i.toNat)|_=>.non) [some (.val (aP cs)),some (.val (aY rs))] ((List.range cs.length).map λ(i:Nat)=>D.int (i:Int)) none λd m=>by obtain⟨k,hk,rfl⟩:=v7.1 m;refine⟨rfl,(Iw g (oB.1 hk)).trans ?_⟩;show _=R.ok (iD (jm cs rs (Int.toNat (k:Int))));rw[tI]
 have el:((List.range cs.length).map λ(i:Nat)=>D.int (i:Int)).map (λd=>match d with|.int i=>iD (jm cs rs i.toNat)|_=>.non)=(wsL cs rs).map iD:=by unfold wsL;rw[v9,v9];rfl
 rw[el]at cc;have z1:((wsL cs rs).map iD).length<=sizeLine:=by rw[za,ll];exact w9 n6 (by decide)
 unfold ul;clear g n6 el
 walk_at "run"
end
section
variable{cs:List Col}{rs:List (List (List Nat))}{C1 C3 C7:Addr}
def CW(g:GT cs rs)(hk:k<cs.length):jm cs rs k<=50:=by
 unfold jm;refine Gq (by omega) λm hm=>?_;obtain⟨x,hx,rfl⟩:=v7.1 hm;rcases v0.1 hx with rfl|hx
 ·unfold sj;have:cs.getD k ([],0)∈cs:=by rw[xZ,xw hk];exact oG hk
  exact(g.col _ this).2.1
 ·obtain⟨r,hr,rfl⟩:=v7.1 hx;have hl:k<r.length:=by rw[(g.row r hr).1];exact hk
  have:r.getD k []∈r:=by rw[xZ,xw hl];exact oG hl
  exact((g.row r hr).2 _ this).2
def HK(g:GT cs rs){r:Nat}(h:r<=999):soF C1 C3 [.lst false ((wsL cs rs).map iD),.int (r:Int)]=.ok (.lst false ((shL (wsL cs rs) r).map iD)):=by
 have n6:=g.six;have wl:=ll (cs:=cs) (rs:=rs);have a:awF [.lst false ((wsL cs rs).map iD)]=.ok (.bl true):=by
  have e:AN (.lst false ((wsL cs rs).map iD))=true:=by show((wsL cs rs).map iD).all (λw=>inB w 0 99)=true;rw[p7];refine v6.2 λw hw=>?_;obtain⟨k,hk,rfl⟩:=v7.1 hw;have:=CW g (oB.1 hk);show(decide ((0:Int)<=(jm cs rs k:Nat)) && decide (((jm cs rs k:Nat):Int)<=99))=true;rw[sM (by omega),sM (by omega)];rfl
  show(if ((wsL cs rs).map iD).all qv=true/\((wsL cs rs).map iD).length<=1000 then R.ok (D.bl (AN (.lst false ((wsL cs rs).map iD))))else .no)=_;have ne:((wsL cs rs).map iD).all qv=true:=by rw[p7];exact v6.2 λ_ _=>rfl
  rw[e,if_pos ⟨ne,by rw[za,wl];omega⟩]
 have b:mv [.int (r:Int),.int 0,.int 999]=.ok (.bl true):=by rw[rH,sM (by omega),sM (by omega)];rfl
 simp only[soF,a,b];exact Ed h (by rw[wl];omega)
def Fr(h:k<ws.length):ixD (.lst false (ws.map iD)) (.int (k:Int))=some (iD (ws.getD k 0)):=by refine Ci ?_;rw[v8,xw h,xZ,xw h];rfl
def xT(g:GT cs rs)(z:Sz cs ws):cH (λ_=>R.ok true) (aR 3 (ftF C7 C3 C1) (aa (g2 ixD (g2 ixD (rvz 1) (rvz 0)) (ciz 0)) (aa (g2 ixD (rvz 2) (rvz 0)) (aa (g2 ixD (g2 ixD (rvz 1) (rvz 0)) (ciz 1)) nlz)))) ((List.range cs.length).map λ(i:Nat)=>D.int (i:Int)) [none,some (.val (aP cs)),some (.val (.lst false (ws.map iD)))]=.ok ((gm cs ws (nms cs)).map .str):=by
 refine(br (λd=>match d with|.int i=>.str (lO (cs.getD i.toNat ([],0)).2 (ws.getD i.toNat 0) ((nms cs).getD i.toNat []))|_=>.non) [some (.val (aP cs)),some (.val (.lst false (ws.map iD)))] _ none λd m=>?_).trans ?_
 ·obtain⟨k,hk,rfl⟩:=v7.1 m;have hk:=oB.1 hk;refine⟨rfl,?_⟩;have hc:cs.getD k ([],0)∈cs:=by rw[xZ,xw hk];exact oG hk
  have x1:=xp hk;have x2:ixD (fA (cs.getD k ([],0))) (.int 0)=some (.str (sj cs k)):=rfl;have x3:ixD (fA (cs.getD k ([],0))) (.int 1)=some (.str [(cs.getD k ([],0)).2]):=rfl;have x4:=Fr (ws:=ws) (k:=k) (by rw[z.len];exact hk);have f:=BL (C7:=C7) (C3:=C3) (C1:=C1) (x:=sj cs k) (g.col _ hc).2.2 (g.col _ hc).1 (g.col _ hc).2.1 (z.at hk).1 (z.at hk).2;show _=R.ok (D.str (lO (cs.getD k ([],0)).2 (ws.getD k 0) ((nms cs).getD k [])));rw[AX hk];have f:ftF C7 C3 C1 [.str (sj cs k),iD (ws.getD k 0),.str [(cs.getD k ([],0)).2]]=.ok (.str (lO (cs.getD k ([],0)).2 (ws.getD k 0) (sj cs k))):=f;clear g z hc hk m
  walk_at "run"
 ·unfold gm;rw[v9,v9];rfl
def wZ(g:GT cs rs)(z:Sz cs ws){r:List (List Nat)}(hr:r∈rs):cH (λ_=>R.ok true) (aR 3 (ftF C7 C3 C1) (aa (g2 ixD (rvz 3) (rvz 0)) (aa (g2 ixD (rvz 2) (rvz 0)) (aa (g2 ixD (g2 ixD (rvz 1) (rvz 0)) (ciz 1)) nlz)))) ((List.range cs.length).map λ(i:Nat)=>D.int (i:Int)) [none,some (.val (aP cs)),some (.val (.lst false (ws.map iD))),some (.val (bO r))]=.ok ((gm cs ws r).map .str):=by
 refine(br (λd=>match d with|.int i=>.str (lO (cs.getD i.toNat ([],0)).2 (ws.getD i.toNat 0) (r.getD i.toNat []))|_=>.non) [some (.val (aP cs)),some (.val (.lst false (ws.map iD))),some (.val (bO r))] _ none λd m=>?_).trans ?_
 ·obtain⟨k,hk,rfl⟩:=v7.1 m;have hk:=oB.1 hk;refine⟨rfl,?_⟩;have hc:cs.getD k ([],0)∈cs:=by rw[xZ,xw hk];exact oG hk
  have hl:k<r.length:=by rw[(g.row r hr).1];exact hk
  have hx:r.getD k []∈r:=by rw[xZ,xw hl];exact oG hl
  have x1:=xp hk;have x2:=nG hl;have x3:ixD (fA (cs.getD k ([],0))) (.int 1)=some (.str [(cs.getD k ([],0)).2]):=rfl;have x4:=Fr (ws:=ws) (k:=k) (by rw[z.len];exact hk);have f:=BL (C7:=C7) (C3:=C3) (C1:=C1) (x:=r.getD k []) (g.col _ hc).2.2 ((g.row r hr).2 _ hx).1 ((g.row r hr).2 _ hx).2 (z.at hk).1 (z.at hk).2;have f:ftF C7 C3 C1 [.str (r.getD k []),iD (ws.getD k 0),.str [(cs.getD k ([],0)).2]]=.ok (.str (lO (cs.getD k ([],0)).2 (ws.getD k 0) (r.getD k []))):=f;show _=R.ok (D.str (lO (cs.getD k ([],0)).2 (ws.getD k 0) (r.getD k [])));clear g z hc hk m hl hx hr
  walk_at "run"
 ·unfold gm;rw[v9,v9];rfl
theorem Bs(w:Int):∀n:Nat,(List.replicate n w).foldl (λacc x=>if acc.any (·==x)then acc else acc++[x]) [w]=[w]
 | 0=>rfl
 |n+1=>by
  rw[o8,l5];have:([w].any (·==w))=true:=by simp
  rw[if_pos this];exact Bs w n
theorem nD(w:Nat):∀n:Nat,hJ (List.replicate n (iD w))=some (List.replicate n (w:Int))
 | 0=>rfl
 |n+1=>by rw[o8,o8];unfold iD hJ;have:=nD w n;unfold iD at this;rw[this];rfl
def uW(w n:Nat)(h:n<=100):nY [.lst false (List.replicate (n+1) (iD w))]=some (.int 1):=by
 show(match hJ (List.replicate (n+1) (iD w))with
  |some ns=>if ns.length<=1000 then some (D.int ((pJ ns).length:Nat))else none
  |none=>none)=_;rw[nD];show(if (List.replicate (n+1) (w:Int)).length<=1000 then some (D.int ((pJ (List.replicate (n+1) (w:Int))).length:Nat))else none)=_;rw[if_pos (by rw[o5];omega)];have:pJ (List.replicate (n+1) (w:Int))=[(w:Int)]:=Bs w n;rw[this];rfl
def AA(g:GT cs rs)(z:Sz cs ws):(nC cs rs ws).map List.length=List.replicate (rs.length+1+1) (iu ws):=by
 have e:∀x∈nC cs rs ws,x.length=iu ws:=λx hx=>by
  unfold nC at hx;rcases d6.1 hx with h|h
  ·rcases v0.1 h with rfl|h;·exact(iA z g.one g.six false).2
   ·rw[l9.1 h];exact(oQ z g.one g.six false).2
  ·obtain⟨r,_,rfl⟩:=v7.1 h;exact(iA z g.one g.six false).2
 rw[List.eq_replicate_iff];refine⟨by unfold nC;simp,λb hb=>?_⟩;obtain⟨x,hx,rfl⟩:=v7.1 hb;exact e x hx
def zh(L:List (List Nat)):cH (λ_=>R.ok true) (gOf df (aa (rvz 0) nlz)) (L.map .str) [none]=.ok ((L.map List.length).map iD):=by
 refine(br (λd=>(df [d]).getD .non) [] (L.map .str) none λd m=>?_).trans ?_;·obtain⟨x,hx,rfl⟩:=v7.1 m;exact⟨rfl,rfl⟩
 ·rw[v9,v9];rfl
def vX(g:GT cs rs){p:Nat}(hp:p<cs.length):cM (qH [0,1]) (λ_=>R.ok true) (aK mkT (aa (g2 ixD (rvz 1) (rvz 2)) (aa (rvz 0) nlz))) (bN 0 (rs.map bO)) [none,none,some (.val (.int (p:Int)))]=.ok (prD rs p):=by
 have en:bN 0 (rs.map bO)=(List.range rs.length).map λi=>.tup [.int (i:Int),bO (rs.getD i [])]:=by unfold bN;rw[za];refine mH λi hi=>?_;have hi:=oB.1 hi;rw[e8];simp[xZ,v8,xw hi]
 have key:∀i,i<rs.length->ixD (bO (rs.getD i [])) (.int (p:Int))=some (.str ((tx rs p).getD i [])):=λi hi=>by
  have hm:rs.getD i []∈rs:=by rw[xZ,xw hi];exact oG hi
  have hl:p<(rs.getD i []).length:=by rw[(g.row _ hm).1];exact hp
  rw[nG hl];unfold tx;simp[xZ,v8,xw hi]
 rw[en];refine(hW (λd=>match d with|.tup [.int i,_]=>.tup [.str ((tx rs p).getD i.toNat []),.int i]|_=>.non) (λρ=>∃a b,ρ=[a,b,some (.val (.int (p:Int)))]) _ _ ⟨_,_,rfl⟩ λd m ρ hP=>?_).trans ?_
 ·obtain⟨i,hi,rfl⟩:=v7.1 m;have k:=key i (oB.1 hi);obtain⟨a,b,rfl⟩:=hP;refine⟨[some (.val (.int (i:Int))),some (.val (bO (rs.getD i []))),some (.val (.int (p:Int)))],rfl,⟨_,_,rfl⟩,rfl,?_⟩;have k2:∀x y:D,mkT [x,y]=.ok (.tup [x,y]):=λ_ _=>rfl;show _=R.ok (D.tup [.str ((tx rs p).getD i []),.int (i:Int)]);clear key en m hi g hp
  walk_at "run"
 ·unfold prD;rw[v9];rfl
end
section
variable{cs:List Col}{rs:List (List (List Nat))}{C1 C3 C7:Addr}{so dd ar:List D->R D}
def G6(g:GT cs rs){room:Nat}(h1:2 * cs.length - 1<=room)(h2:room<=40)(hs:so [.lst false ((wsL cs rs).map iD),.int ((room - (cs.length - 1):Nat):Int)]=.ok (.lst false ((szL cs rs room).map iD)))(h0:dd [.int 0,aP cs,aY rs,.int (room:Int)]=.ok (.lst false ((szL cs rs room).map iD))){x7 x8 x9:Option Sl}(k:Ev->O):aG (um bc waF so dd cR ft ar) (aG (uE bc waF so dd cR ft ar) k) [x0,some (.val (.int (cs.length:Int))),some (.val (aP cs)),some (.val (aY rs)),x4,some (.val (.int (room:Int))),some (.val (.lst false ((wsL cs rs).map iD))),x7,x8,x9,x10,x11]=k [x0,some (.val (.int (cs.length:Int))),some (.val (aP cs)),some (.val (aY rs)),x4,some (.val (.int (room:Int))),some (.val (.lst false ((wsL cs rs).map iD))),some (.val (.lst false ((szL cs rs room).map iD))),x8,x9,x10,x11]:=by
 have o1:=g.one;rw[show((room - (cs.length - 1):Nat):Int)=(room:Int) - (cs.length:Int)+1 by omega]at hs;have it:=g.tab;have inn:uL (.bl true) (.bl true)=some (.bl false):=rfl;have ne:neF (.lst false ((szL cs rs room).map iD)) (.lst false ((szL cs rs room).map iD))=some (.bl false):=sZ (by show((szL cs rs room).map iD).all (cl 9)=true;rw[p7];exact v6.2 λ_ _=>rfl);unfold um uE;clear g h1 h2 o1;generalize (szL cs rs room).map iD=L at *
 walk_at "run"
def Ei(g:GT cs rs)(z:Sz cs ws){x8 x9:Option Sl}(k:Ev->O):aG (pD bc waF so dd cR (ftF C7 C3 C1) ar) (aG (nX bc waF so dd cR (ftF C7 C3 C1) ar) k) [x0,some (.val (.int (cs.length:Int))),some (.val (aP cs)),some (.val (aY rs)),x4,x5,x6,some (.val (.lst false (ws.map iD))),x8,x9,x10,x11]=k [x0,some (.val (.int (cs.length:Int))),some (.val (aP cs)),some (.val (aY rs)),x4,x5,x6,some (.val (.lst false (ws.map iD))),some (.own [.str (bK [32] (gm cs ws (nms cs))),.str (bK [32] (dsh ws))]),x9,x10,x11]:=by
 have n6:=g.six;have ra:=fC (n:=cs.length) (by omega);have in1:∀x8,cP [2,7] [x0,some (.val (.int (cs.length:Int))),some (.val (aP cs)),some (.val (aY rs)),x4,x5,x6,some (.val (.lst false (ws.map iD))),x8,x9,x10,x11]=[none,some (.val (aP cs)),some (.val (.lst false (ws.map iD)))]:=λ_=>rfl;have in2:∀x8,cP [] [x0,some (.val (.int (cs.length:Int))),some (.val (aP cs)),some (.val (aY rs)),x4,x5,x6,some (.val (.lst false (ws.map iD))),x8,x9,x10,x11]=[none]:=λ_=>rfl;have c1:=xT (C1:=C1) (C3:=C3) (C7:=C7) g z;have j1:=(iA (ts:=nms cs) z g.one g.six false).1;have c2:=tV z;have j2:=(oQ z g.one g.six false).1;have i2:bg (.lst false (ws.map iD))=.ok (ws.map iD):=rfl;have kd:gP "str" (.str [32])=true:=rfl;have z1:((gm cs ws (nms cs)).map D.str).length<=sizeLine:=by rw[za,kA];exact w9 n6 (by decide)
 have z2:((dsh ws).map D.str).length<=sizeLine:=by rw[za];unfold dsh;rw[List.length_map,z.len];exact Nat.le_trans n6 (by decide)
 have l1:1<sizeLine:=by decide
 have l1':1<=sizeLine:=by decide
 have ow:∀(l:List D) a b c d e f g h,ownAt [a,b,c,d,e,f,g,h,some (.own l),x9,x10,x11] 8=.ok l:=λ_ _ _ _ _ _ _ _ _=>rfl;unfold pD nX;clear g z n6
 walk_at "run"
def Cd(g:GT cs rs)(z:Sz cs ws){r:List (List Nat)}(hr:r∈rs){acc:List D}(ha:acc.length<=100){x3:Option Sl}:pv bc waF so dd cR (ftF C7 C3 C1) ar [x0,some (.val (.int (cs.length:Int))),some (.val (aP cs)),x3,x4,x5,x6,some (.val (.lst false (ws.map iD))),some (.own acc),some (.val (bO r)),x10,x11]=.nx [x0,some (.val (.int (cs.length:Int))),some (.val (aP cs)),x3,x4,x5,x6,some (.val (.lst false (ws.map iD))),some (.own (acc++[.str (bK [32] (gm cs ws r))])),some (.val (bO r)),x10,x11]:=by
 have n6:=g.six;have ra:=fC (n:=cs.length) (by omega);have in1:cP [2,7,9] [x0,some (.val (.int (cs.length:Int))),some (.val (aP cs)),x3,x4,x5,x6,some (.val (.lst false (ws.map iD))),some (.own acc),some (.val (bO r)),x10,x11]=[none,some (.val (aP cs)),some (.val (.lst false (ws.map iD))),some (.val (bO r))]:=rfl;have c1:=wZ (C1:=C1) (C3:=C3) (C7:=C7) g z hr;have j1:=(iA (ts:=r) z g.one g.six false).1;have kd:gP "str" (.str [32])=true:=rfl;have z1:((gm cs ws r).map D.str).length<=sizeLine:=by rw[za,kA];exact w9 n6 (by decide)
 have hz:acc.length<sizeLine:=Nat.lt_of_le_of_lt ha (by decide);have ow:∀(l:List D) a b c d e f g h i,ownAt [a,b,c,d,e,f,g,h,some (.own l),i,x10,x11] 8=.ok l:=λ_ _ _ _ _ _ _ _ _ _=>rfl;unfold pv;clear g z hr ha n6
 walk_at "run"
theorem uv(g:GT cs rs){ws:List Nat}(z:Sz cs ws){x0 x3 x4 x5 x6 x10 x11:Option Sl}:∀(l:List (List (List Nat)))(acc:List D)(x9:Option Sl),(∀r∈l,r∈rs)->acc.length+l.length<=100->∃y,eR (iT 9) (pv bc waF so dd cR (ftF C7 C3 C1) ar) (l.map bO) [x0,some (.val (.int (cs.length:Int))),some (.val (aP cs)),x3,x4,x5,x6,some (.val (.lst false (ws.map iD))),some (.own acc),x9,x10,x11]=.nx [x0,some (.val (.int (cs.length:Int))),some (.val (aP cs)),x3,x4,x5,x6,some (.val (.lst false (ws.map iD))),some (.own (acc++(l.map λr=>bK [32] (gm cs ws r)).map .str)),y,x10,x11]
 | [],acc,x9,_,_=>⟨x9,by rw[j3,j3,j3,mP];rfl⟩
 |r::l,acc,x9,hl,h=>by rw[r6]at h;have hb:=Cd (C1:=C1) (C3:=C3) (C7:=C7) (so:=so) (dd:=dd) (ar:=ar) g z (hl r (sS ..)) (acc:=acc) (by omega) (x0:=x0) (x3:=x3) (x4:=x4) (x5:=x5) (x6:=x6) (x10:=x10) (x11:=x11);obtain⟨y,ih⟩:=uv g z (x0:=x0) (x3:=x3) (x4:=x4) (x5:=x5) (x6:=x6) (x10:=x10) (x11:=x11) l (acc++[.str (bK [32] (gm cs ws r))]) (some (.val (bO r))) (λq hq=>hl q (rO _ hq)) (by rw[rR,lQ];omega);refine⟨y,?_⟩;rw[tv,tv,tv,je rfl hb,ih,io];rfl
def Ep(g:GT cs rs)(z:Sz cs ws){x9:Option Sl}(k:Ev->O):∃y,aG (oJ bc waF so dd cR (ftF C7 C3 C1) ar) (pU 8 k) [x0,some (.val (.int (cs.length:Int))),some (.val (aP cs)),some (.val (aY rs)),x4,x5,x6,some (.val (.lst false (ws.map iD))),some (.own [.str (bK [32] (gm cs ws (nms cs))),.str (bK [32] (dsh ws))]),x9,x10,x11]=k [x0,some (.val (.int (cs.length:Int))),some (.val (aP cs)),some (.val (aY rs)),x4,x5,x6,some (.val (.lst false (ws.map iD))),some (.val (.lst false ((nC cs rs ws).map .str))),y,x10,x11]:=by
 have n9:=g.nine;obtain⟨y,lp⟩:=uv (C1:=C1) (C3:=C3) (C7:=C7) (so:=so) (dd:=dd) (ar:=ar) g z (x0:=x0) (x3:=some (.val (aY rs))) (x4:=x4) (x5:=x5) (x6:=x6) (x10:=x10) (x11:=x11) rs [.str (bK [32] (gm cs ws (nms cs))),.str (bK [32] (dsh ws))] x9 (λ_ h=>h) (by show 2+rs.length<=100;omega);refine⟨y,?_⟩;have e:[D.str (bK [32] (gm cs ws (nms cs))),.str (bK [32] (dsh ws))]++(rs.map λr=>bK [32] (gm cs ws r)).map .str=(nC cs rs ws).map .str:=rfl;rw[e]at lp;have ir:bg (aY rs)=.ok (rs.map bO):=rfl;have f8:∀(a b c d e f g h i:Option Sl)(l:List D),frz 8 [a,b,c,d,e,f,g,h,some (.own l),i,x10,x11]=[a,b,c,d,e,f,g,h,some (.val (.lst false l)),i,x10,x11]:=λ_ _ _ _ _ _ _ _ _ _=>rfl;unfold oJ;clear g z n9 e
 walk_at "run"
def ER(g:GT cs rs)(z:Sz cs ws){room:Nat}(hw:iu ws<=room)(h1:dd [.int 1,aP cs,aY rs,.int (room:Int)]=.ok (.lst false ((nC cs rs ws).map .str))){x1 x7 x9:Option Sl}:kW bc waF so dd cR ft ar [x0,x1,some (.val (aP cs)),some (.val (aY rs)),x4,some (.val (.int (room:Int))),x6,x7,some (.val (.lst false ((nC cs rs ws).map .str))),x9,x10,x11]=.nx [x0,x1,some (.val (aP cs)),some (.val (aY rs)),x4,some (.val (.int (room:Int))),x6,x7,some (.val (.lst false ((nC cs rs ws).map .str))),x9,x10,x11]:=by
 have n9:=g.nine;have lc:=zh (nC cs rs ws);rw[AA g z]at lc;have er:(List.replicate (rs.length+1+1) (iu ws)).map iD=List.replicate (rs.length+1+1) (iD (iu ws)):=List.map_replicate ..;rw[er]at lc;have ls:=uW (iu ws) (rs.length+1) (by omega);have z1:(List.replicate (rs.length+1+1) (iD (iu ws))).length<=sizeLine:=by rw[o5];exact w9 (m:=11) (by omega) (by decide)
 have x0':ixD (.lst false ((nC cs rs ws).map .str)) (.int ((0:Nat):Int))=some (.str (bK [32] (gm cs ws (nms cs)))):=Ci rfl;have x0':ixD (.lst false ((nC cs rs ws).map .str)) (.int 0)=some (.str (bK [32] (gm cs ws (nms cs)))):=x0';have ln:df [.str (bK [32] (gm cs ws (nms cs)))]=some (.int (iu ws:Nat)):=by show some (D.int ((bK [32] (gm cs ws (nms cs))).length:Nat))=_;rw[(iA z g.one g.six false).2]
 have gt:gtD (.int (iu ws:Nat)) (.int (room:Int))=some (.bl false):=by show some (D.bl (decide ((room:Int)<(iu ws:Nat))))=_;rw[tH (by omega)]
 have ne:neF (.lst false ((nC cs rs ws).map .str)) (.lst false ((nC cs rs ws).map .str))=some (.bl false):=sZ (by show((nC cs rs ws).map D.str).all (cl 9)=true;rw[p7];exact v6.2 λ_ _=>rfl);have il:bg (.lst false ((nC cs rs ws).map .str))=.ok ((nC cs rs ws).map .str):=rfl;have in1:∀a b c d e f g h i j k l:Option Sl,cP [] [a,b,c,d,e,f,g,h,i,j,k,l]=[none]:=λ_ _ _ _ _ _ _ _ _ _ _ _=>rfl;have n1:neF (.int 1) (.int 1)=some (.bl false):=rfl;generalize (nC cs rs ws).map D.str=T at *;generalize List.replicate (rs.length+1+1) (iD (iu ws))=M at *;generalize bK [32] (gm cs ws (nms cs))=J at *;unfold kW;clear g z n9 hw er
 walk_at "run"
def Ex(g:GT cs rs){ns:List Int}(h2:∀p:Nat,p<cs.length->dd [.int 2,aP cs,aY rs,.int (p:Int)]=.ok (.lst false (tN rs p)))(ha:ar [.lst fz (ns.map .int),aP cs,aY rs]=.ok (.bl true)){x7 x8 x9:Option Sl}:aG (lF bc waF so dd cR ft ar) (aG (lL bc waF so dd cR ft ar) (aG (lD bc waF so dd cR ft ar) (aG (ly bc waF so dd cR ft ar) oNx))) [some (.val (.lst fz (ns.map .int))),some (.val (.int (cs.length:Int))),some (.val (aP cs)),some (.val (aY rs)),x4,x5,x6,x7,x8,x9,x10,x11]=.rt (.bl true):=by
 have n9:=g.nine;obtain⟨hp,pp⟩:=ky ns fz 3 (m:=cs.length) g.one;have pp:bc [.lst fz (ns.map .int),.int 3,.int (cs.length:Int)]=.ok (.int (pk ns 3 cs.length:Nat)):=pp;generalize pk ns 3 cs.length=p at *;have h2:=h2 p hp;have pc:=vX g hp;have st:=yX (rs:=rs) (k:=p) n9;have rk:=vU (rs:=rs) (k:=p);have en:rT (aY rs)=.ok (bN 0 (rs.map bO)):=rfl;have in1:∀a b c d e f g h i j k:Option Sl,ce 2 [10] [a,b,c,d,e,f,g,h,i,j,some (.val (.int (p:Int))),k]=[none,none,some (.val (.int (p:Int)))]:=λ_ _ _ _ _ _ _ _ _ _ _=>rfl;have in2:∀a b c e f g h i j k l:Option Sl,ce 2 [3] [a,b,c,some (.val (aY rs)),e,f,g,h,i,j,k,l]=[none,none,some (.val (aY rs))]:=λ_ _ _ _ _ _ _ _ _ _ _=>rfl;have z1:(prD rs p).length<=sizeLine:=by unfold prD;simp;exact Nat.le_trans n9 (by decide)
 have z2:(tN rs p).length<=sizeLine:=by unfold tN;simp;exact Nat.le_trans n9 (by decide)
 have ne:neF (.lst false (tN rs p)) (.lst false (tN rs p))=some (.bl false):=sZ (by show(tN rs p).all (cl 9)=true;unfold tN;rw[p7];refine v6.2 λi _=>?_;show((rs.getD (nJ (tx rs p) i) []).map D.str).all (cl 8)=true;rw[p7];exact v6.2 λ_ _=>rfl);generalize hM:(List.range rs.length).map (λi=>D.tup [.str ((tx rs p).getD (nJ (tx rs p) i) []),.int ((nJ (tx rs p) i:Nat):Int)])=M at *;have im:bg (.lst false M)=.ok M:=rfl;generalize tN rs p=Z at *;generalize prD rs p=P at *;generalize bN 0 (rs.map bO)=N at *;unfold lF lL lD ly;clear g n9 hp hM
 walk_at "run"
end
section
def wU{F1 F2 F3 FW:List D->R D}(nd:[aI,aS,ao,aw,aj,aZ,aF].Nodup):∀ds:List D,ds.length=4->doF F1 F2 F3 FW rs ds=.no\/aJ (iy F1 F2 F3 FW rs (aM 7 ds))=doF F1 F2 F3 FW rs ds:=λ_ _=>.inr rfl
def IG{C1 C3 C6 C7:Addr}{FW:List D->R D}{es:List Addr}{cs:List Col}{rs:List (List (List Nat))}(g:GT cs rs)(m3:C3∈es)(m6:C6∈es)(w3:FW [.exc C3]=.ok (.str nRm))(w6:FW [.exc C6]=.ok (.str nTb)):DD (doF (wdF C6 C3) (tbF C6 C7 C3 C1) (sbF C6) FW es) cs rs:=by
 refine⟨λw hw c d e h=>?_,λw hw e h=>?_,λe h=>D3 (yS g h) m6 w6⟩
 ·match w,hw with
  | 0,_=>exact Ek (AY h) m6 w6
  | 1,_=>exact Eh (Eb (AY h)) m6 w6
  | 2,_=>exact D3 (E0 h) m6 w6
 ·match w,hw with
  | 0,_=>exact Ek (yy g h) m3 w3
  | 1,_=>exact Eh (Eb (yy g h)) m3 w3
def HS(nd:[aI,aS,ao,aw,aj,aZ,aF].Nodup)(ns:List Int)(fz:Bool):aJ (lG bc waF (soF aw ao) (doF (wdF aj ao) (tbF aj aF ao aw) (sbF aj) (td ao aS aw aj aI aF aZ [aw,ao,aj,aF]) [aw,ao,aj,aF]) cR (ftF aF ao aw) (arF (doF (wdF aj ao) (tbF aj aF ao aw) (sbF aj) (td ao aS aw aj aI aF aZ [aw,ao,aj,aF]) [aw,ao,aj,aF])) (aM 12 [.lst fz (ns.map .int)]))=.ok (.bl true):=by
 have w3:=sF (rs:=[aw,ao,aj,aF]) nd (by simp);have w6:=qF (rs:=[aw,ao,aj,aF]) nd (by simp);generalize td ao aS aw aj aI aF aZ [aw,ao,aj,aF]=FW at *;have m3:ao∈[aw,ao,aj,aF]:=by simp
 have m6:aj∈[aw,ao,aj,aF]:=by simp
 clear nd;generalize [aw,ao,aj,aF]=es at *;generalize aw=C1 at *;generalize ao=C3 at *;generalize aj=C6 at *;generalize aF=C7 at *;have gd:∀cs rs,GT cs rs->DD (doF (wdF C6 C3) (tbF C6 C7 C3 C1) (sbF C6) FW es) cs rs:=λ_ _ g=>IG g m3 m6 w3 w6;have d0:∀{c d e v:D},wdF C6 C3 [c,d,e]=.ok v->doF (wdF C6 C3) (tbF C6 C7 C3 C1) (sbF C6) FW es [.int 0,c,d,e]=.ok v:=JJ;have d1:∀{c d e v:D},tbF C6 C7 C3 C1 [c,d,e]=.ok v->doF (wdF C6 C3) (tbF C6 C7 C3 C1) (sbF C6) FW es [.int 1,c,d,e]=.ok v:=JC;have d2:∀{c d e v:D},sbF C6 [c,d,e]=.ok v->doF (wdF C6 C3) (tbF C6 C7 C3 C1) (sbF C6) FW es [.int 2,c,d,e]=.ok v:=Kr;generalize doF (wdF C6 C3) (tbF C6 C7 C3 C1) (sbF C6) FW es=dd at *;show aJ (lG bc waF (soF C1 C3) dd cR (ftF C7 C3 C1) (arF dd) [some (.val (.lst fz (ns.map .int))),none,none,none,none,none,none,none,none,none,none,none])=_;unfold lG;obtain⟨n,r,room,y,n1,n6,r9,r1,r40,hd⟩:=CG (so:=soF C1 C3) (dd:=dd) (ft:=ftF C7 C3 C1) (ar:=arF dd) (ns:=ns) (fz:=fz) (aG (ul bc waF (soF C1 C3) dd cR (ftF C7 C3 C1) (arF dd)) (pU 6 (aG (um bc waF (soF C1 C3) dd cR (ftF C7 C3 C1) (arF dd)) (aG (uE bc waF (soF C1 C3) dd cR (ftF C7 C3 C1) (arF dd)) (aG (pD bc waF (soF C1 C3) dd cR (ftF C7 C3 C1) (arF dd)) (aG (nX bc waF (soF C1 C3) dd cR (ftF C7 C3 C1) (arF dd)) (aG (oJ bc waF (soF C1 C3) dd cR (ftF C7 C3 C1) (arF dd)) (pU 8 (aG (kW bc waF (soF C1 C3) dd cR (ftF C7 C3 C1) (arF dd)) (aG (lF bc waF (soF C1 C3) dd cR (ftF C7 C3 C1) (arF dd)) (aG (lL bc waF (soF C1 C3) dd cR (ftF C7 C3 C1) (arF dd)) (aG (lD bc waF (soF C1 C3) dd cR (ftF C7 C3 C1) (arF dd)) (aG (ly bc waF (soF C1 C3) dd cR (ftF C7 C3 C1) (arF dd)) oNx)))))))))))));rw[hd];clear hd;have g:=HI ns n1 n6 r9;have hl:=xH (ns:=ns) (n:=n);rw[<- hl]at r1⊢;rw[hl];generalize hcs:drC ns n=cs at *;generalize zO ns n r=rs at *;rw[<- hl];clear hl hcs n1 n6 r9;rw[B2 g];have z:=Dl g r1 r40;have so:=HK (C1:=C1) (C3:=C3) g (r:=room - (cs.length - 1)) (by omega);have dw:=d0 (D1 (C6:=C6) (C3:=C3) g r1 r40);rw[G6 g r1 r40 so dw];rw[Ei g z];obtain⟨y9,e13⟩:=Ep (C1:=C1) (C3:=C3) (C7:=C7) (so:=soF C1 C3) (dd:=dd) (ar:=arF dd) g z (x0:=some (.val (.lst fz (ns.map .int)))) (x4:=y) (x5:=some (.val (.int (room:Int)))) (x6:=some (.val (.lst false ((wsL cs rs).map iD)))) (x9:=none) (x10:=none) (x11:=none) (aG (kW bc waF (soF C1 C3) dd cR (ftF C7 C3 C1) (arF dd)) (aG (lF bc waF (soF C1 C3) dd cR (ftF C7 C3 C1) (arF dd)) (aG (lL bc waF (soF C1 C3) dd cR (ftF C7 C3 C1) (arF dd)) (aG (lD bc waF (soF C1 C3) dd cR (ftF C7 C3 C1) (arF dd)) (aG (ly bc waF (soF C1 C3) dd cR (ftF C7 C3 C1) (arF dd)) oNx)))));rw[e13,lJ,ER g z (BV g r1 r40) (d1 (Hn (C6:=C6) (C7:=C7) (C3:=C3) (C1:=C1) g r1 r40)),ya];rw[Ex g (λp hp=>d2 (GU (C6:=C6) g hp)) (Hb (gd _ _ g) g)];rfl
end
end Q50
namespace Q
open PySem PySem.Spec PyProof.Rows L2
def vI(h:us.length=1):∃a,us=[a]:=by
 match us,h with
 | [a],_=>exact⟨a,rfl⟩
def yG(h:us.length=2):∃a b,us=[a,b]:=by
 match us,h with
 | [a,b],_=>exact⟨a,b,rfl⟩
def vH(h:us.length=3):∃a b c,us=[a,b,c]:=by
 match us,h with
 | [a,b,c],_=>exact⟨a,b,c,rfl⟩
def Kc(h:us.length=4):∃a b c d,us=[a,b,c,d]:=by
 match us,h with
 | [a,b,c,d],_=>exact⟨a,b,c,d,rfl⟩
def Fv{K:PySem.W.Frag}{hp:Heap}{mg:Str->Option Value}{bm:List Value}{nid:String}(kin:K.In hp)(gl:hp.Ns mainGlobals mg)(e1:PySem.W.nsIn K mainGlobals x=some (some (.ref C)))(e2:PySem.W.excIn K C bm nid=true):OwnCls x C bm nid mg hp:=by
 constructor;·exact nR kin gl e1
 ·unfold PySem.W.excIn at e2;split at e2
  ·rename_i dct kl sls look;split at e2
   ·rename_i C0 more s0 s1 s2 s3 nw s5 hmro hsls;simp only[o7,Z7,Bool.not_eq_true']at e2;obtain⟨⟨⟨⟨⟨eC,en⟩,edel⟩,etail⟩,ens⟩,einit⟩:=e2;obtain⟨f1,f2,f3,f4,f5,f6,f7,f8,f9,f10,f11⟩:=kl;dsimp only at hmro edel ens einit;have es:sls = #[s0,s1,s2,s3,some (.builtin nw),s5]:=by obtain⟨ls⟩:=sls;simp only at hsls;rw[hsls]
    subst hmro edel es eC en;exact⟨more,f4,f1,f5,f2,f6,f7,f8,f9,f10,dct,s0,s1,s2,s3,s5,_,kin _ _ look,.of_isNs (PySem.W.isNs_of_in kin ens),PySem.W.nsMap_none_of_in kin ens einit,PySem.W.tail_of_in kin etail⟩
   ·cases e2
  ·cases e2
def uu{K:PySem.W.Frag}{hp:Heap}{mg:Str->Option Value}(kin:K.In hp)(gl:hp.Ns mainGlobals mg)(e1:PySem.W.nsIn K mainGlobals x=some (some (.ref C)))(e2:PySem.W.excIn K C [.type "ValueError",.type "Exception",.type "BaseException",.type "object"] "ValueError.__new__"=true):Ref x C mg hp:=
 ⟨_,_,_,_,Fv kin gl e1 e2,PySem.F.excBase_ValueError⟩
theorem rz{K:PySem.W.Frag}{G:Hp}:∀ns:List Int,Reps K G (ns.map V.int) (ns.map D.int)
 | []=>.nil
 |i::ns=>.cons (.int i) (rz ns)
noncomputable def yA:List D->R D
 | [.lst _ ds]=>match lf ds with
  |some _=>.ok (.bl true)
  |none=>.no
 |_=>.no
def EW{g:List D->R D}(h:∀(ns:List Int)(fz:Bool),g [.lst fz (ns.map .int)]=.ok (.bl true)):∀ds:List D,ds.length=1->yA ds=.no\/g ds=yA ds:=by
 intro ds hl
 match ds,hl with
 | [d],_=>
  cases d <;> first|exact Or.inl rfl|skip
  rename_i fz ds hl;cases hi:lf ds with
  |none=>exact Or.inl (by simp only[yA,hi])
  |some ns=>have e:=oK hi;subst e;refine Or.inr ?_;rw[h ns fz];simp only[yA,hi]
def bH{K:PySem.W.Frag}{mg:Str->Option Value}{kV doc pm ct:Value}(X:K.In h)(G:h.Ns mainGlobals mg)(a:PySem.W.nsIn K mainGlobals x=some (some (.ref f)):=by k_is)(l:K.lookup f=some ⟨oc,od,.func (PySem.W.fnOf x x (iY st) (gB st) (aO st) .none kV doc pm an cdv ct),osl⟩:=by k_is)(c:PySem.W.codeIn K cdv x=true:=by k_is)(k:PySem.W.keepIn K (.ref f)=true:=by k_is):∃f fd,Fun K x x st f fd/\mg x=some (.ref f):=
 ⟨f,_,Be l c k,nR X G a⟩
def FV{K:PySem.W.Frag}{mg:Str->Option Value}{its:Array Value}{ls:List (List Nat)}(X:K.In h)(G:h.Ns mainGlobals mg)(e:PySem.W.nsIn K mainGlobals x=some (some (.ref a)))(l:K.lookup a=some ⟨.type "tuple",od,.seq its n,osl⟩)(hz:its.size<=sizeLine)(v:Vals vs its.toList)(r:∀G,Reps K G vs (ls.map .str)):∃a,mg x=some (.ref a)/\KTup K a ls:=
 ⟨a,nR X G e,⟨_,its,n,vs,l,rfl,rfl,hz,v,r⟩⟩
section
variable{K:PySem.W.Frag}{T:Addr}
def zY:PySem.W.kitOne K (.ref C) (.ref C)=some (C==C):=by unfold PySem.W.kitOne;rw[if_pos (by simp)];simp
def qS{t:Value}{b:Bool}{cd:ClassData}(h1:PySem.W.clsIn K T=some cd)(h2:PySem.W.typeIn K (.ref T)=some (.type "type"))(h3:PySem.W.subIn K t (.ref T)=some b):PySem.W.kitCls K t (.ref T)=some b:=by unfold PySem.W.kitCls;dsimp only;rw[if_pos (by rw[h1,h2];simp),h3]
def Gk{cd:ClassData}(h1:PySem.W.clsIn K T=some cd)(h2:PySem.W.typeIn K (.ref T)=some (.type "type"))(h3:PySem.W.subIn K (.ref C) (.ref T)=some false)(hne:C≠T):PySem.W.kitOne K (.ref C) (.ref T)=some (C==T):=by unfold PySem.W.kitOne;rw[if_neg (by simp[hne]),qS h1 h2 h3];simp[hne]
def D9(h3:PySem.W.subIn K (.ref C) (.type "ValueError")=some true):PySem.W.kitOne K (.ref C) (.type "ValueError")=some true:=by unfold PySem.W.kitOne PySem.W.kitCls;rw[if_neg (by simp)];dsimp only;rw[if_pos (by decide +kernel),h3]
def Gs{cd:ClassData}(h0:PySem.W.subIn K (.ref T) (.type "BaseException")=some true)(h1:PySem.W.clsIn K T=some cd)(h2:PySem.W.typeIn K (.ref T)=some (.type "type"))(h3:PySem.W.subIn K (.ref C) (.ref T)=some true):PySem.W.exmOne K (.ref C) (.ref T)=some true:=by unfold PySem.W.exmOne;rw[if_pos (by rw[h0];rfl),qS h1 h2 h3]
end
def tJ{K:PySem.W.Frag}{cd:ClassData}(g1:PySem.W.findIn K (.ref C) "__getattribute__"=some (some (.builtin "BaseException.__getattribute__")))(g2:PySem.W.findIn K (.ref C) "__getattr__"=some none)(g3:PySem.W.findIn K (.ref C) "__class__"=some (some (.builtin "object.__class__")))(g4:PySem.W.specialIn K (.builtin "object.__class__") "__get__"=some (some (.builtin "getset_descriptor.__get__")))(g5:PySem.W.takesIn K (.builtin "object.__class__")=some true)(g6:PySem.W.mroIn K C (.type "object")=some true)(g7:PySem.W.subIn K (.ref C) (.type "BaseException")=some true)(g8:PySem.W.clsIn K C=some cd):ExcCls K C:=⟨g1,g2,g3,g4,g5,g6,g7,by rw[g8];rfl⟩
noncomputable def TsOk(K:PySem.W.Frag):List (Str×Addr)->Prop
 | []=>True
 |t::ts=>PySem.W.nsIn K mainGlobals t.1=some (some (.ref t.2))/\(∃q,PySem.W.clsIn K t.2=some q)/\PySem.W.typeIn K (.ref t.2)=some (.type "type")/\TsOk K ts
noncomputable def SubOk(K:PySem.W.Frag)(r:Addr):List (Str×Addr)->Prop
 | []=>True
 |t::ts=>(r=t.2\/PySem.W.subIn K (.ref r) (.ref t.2)=some false)/\SubOk K r ts
noncomputable def RsOk(K:PySem.W.Frag)(L:Addr)(ts:List (Str×Addr)):List Addr->Prop
 | []=>True
 |r::rs=>ExcCls K r/\SubOk K r ts/\PySem.W.subIn K (.ref r) (.type "ValueError")=some true/\PySem.W.subIn K (.ref r) (.ref L)=some true/\RsOk K L ts rs
section
variable{K:PySem.W.Frag}{L:Addr}
theorem TsOk.at:∀{ts:List (Str×Addr)},TsOk K ts->∀t∈ts,PySem.W.nsIn K mainGlobals t.1=some (some (.ref t.2))/\(∃q,PySem.W.clsIn K t.2=some q)/\PySem.W.typeIn K (.ref t.2)=some (.type "type")
 |_::_,⟨a,b,c,d⟩,t,h=>by
  rcases v0.1 h with rfl|h;·exact⟨a,b,c⟩
  ·exact TsOk.at d t h
theorem SubOk.at{r:Addr}:∀{ts:List (Str×Addr)},SubOk K r ts->∀t∈ts,r=t.2\/PySem.W.subIn K (.ref r) (.ref t.2)=some false
 |_::_,⟨a,d⟩,t,h=>by
  rcases v0.1 h with rfl|h;·exact a
  ·exact SubOk.at d t h
theorem RsOk.at:∀{rs:List Addr},RsOk K L ts rs->∀r∈rs,ExcCls K r/\SubOk K r ts/\PySem.W.subIn K (.ref r) (.type "ValueError")=some true/\PySem.W.subIn K (.ref r) (.ref L)=some true
 |_::_,⟨a,b,c,e,d⟩,t,h=>by
  rcases v0.1 h with rfl|h;·exact⟨a,b,c,e⟩
  ·exact RsOk.at d t h
def Dt{mg:Str->Option Value}{cd:ClassData}(X:K.In h)(G:h.Ns mainGlobals mg)(nL:PySem.W.nsIn K mainGlobals "LineError"=some (some (.ref L)))(h1:TsOk K ts)(h2:RsOk K L ts rs)(tL:PySem.W.clsIn K L=some cd)(yL:PySem.W.typeIn K (.ref L)=some (.type "type"))(lb:PySem.W.subIn K (.ref L) (.type "BaseException")=some true):Errs K mg rs ts:=by
 refine⟨λt ht=>nR X G (h1.at t ht).1,λr hr=>(h2.at r hr).1,λr hr t ht=>?_,λr hr=>D9 (h2.at r hr).2.2.1,⟨L,nR X G nL,λr hr=>Gs lb tL yL (h2.at r hr).2.2.2⟩⟩;obtain⟨_,⟨q,c⟩,y⟩:=h1.at t ht;by_cases e:r=t.2;·rw[<- e];exact zY
 ·rcases (h2.at r hr).2.1.at t ht with z|z;·exact absurd z e
  ·exact Gk c y z e
end
def vW{w:World}{K:PySem.W.Frag}{mg mb:Str->Option Value}{fa:Addr}{sp:Sp}{s₁:Shared}{vs:List Value}{ns:List Int}{ts:List Addr}{nm:Addr->Str}(KX:K.In s₁.heap)(hns:s₁.heap.Ns mainGlobals mg)(hb:s₁.heap.Ns builtinsNs mb)(hbb:∀x:Str,x≠"__name__"->mb x=bootBuiltins x)(hlim:s₁.heap.NoLimit)(hg:s₁.gens = #[])(ha:s₁.heap.get? a=some { cls:=.type "list",data:=.seq vs.toArray })(hi:IntsAre vs ns)(hl:ns.length<=sizeLine)(hr:Room k callerA)(hts:∀p∈ts,s₁.heap.get? p=some (PySem.W.tabObj #[])/\isCodeTable s₁.heap p/\K.lookup p=none)(hbm:∃bm ob,mg "__builtins__"=some (Value.ref bm)/\bm≠builtinsNs/\s₁.heap.get? bm=some ob/\ob.cls=Value.type "module"/\ob.dict=some builtinsNs/\ob.data=Data.plain)(F:∀base:Heap,K.In base->base.Ns mainGlobals mg->(∀p∈ts,base.BuiltinsAt mg p/\vG base p (nm p))->FnOk P w K mg base CX k fa fd [x] sp)(hbind:∀(s:Shared)(u:Value),BindsTo s fd ⟨[u],[]⟩ [(x,u)])(hsp:∀H:Hp,SqL K H a (ns.map V.int)->sp [.ref a] H (λv _=>v=.bl true) λ_ _ _=>False)(hCX:∀H e s',CX [] H s₁ (λ_ _ _=>False) e s'->False):
  codeAny (model P w) callerA (.call (.ref fa) ⟨[.ref a],[]⟩) (λr s'=>r=.ok (.ret (.bool true))/\OldK s₁.heap s'.heap/\s'.os=s₁.os/\AllBare s'.gens) s₁:=by
 let tf:Addr->Array Value:=λp=>#[.str (nm p) 0];have rv:=pZ hi;have lenV:=hi.length;have nat:∀p∈ts,p≠a:=λp hp z=>by have:=(hts p hp).1;rw[z,ha]at this;have:=n0 Obj.data (uV this);cases this
 have core:∀H:Hp,(∀b,b∉ts->H b=none\/∃o xs,H b=some (.frz o (.lst xs)))->(∀p∈ts,H p=some (.tbl (tf p)))->SqL K H a (ns.map V.int)->HOk P w H s₁.heap->(∀b,H b≠none->b=a\/b∈ts)->(H a≠none->K.lookup a=none)->
   codeAny (model P w) callerA (.call (.ref fa) ⟨[.ref a],[]⟩) (λr s'=>r=.ok (.ret (.bool true))/\OldK s₁.heap s'.heap/\s'.os=s₁.os/\AllBare s'.gens) s₁:=by
  intro H hO hO2 hS hok hA hK;have base_of:∀{b:Addr}{o:Obj},s₁.heap.get? b=some o->H b=none->(uG s₁.heap H).get? b=some o:=λe n=>Ai e n;have noA:∀{b:Addr}{o:Obj}{es:Array DictEntry}{ep:Nat},s₁.heap.get? b=some o->o.data=.dict es ep->H b=none:=λ{b o es ep} e d=>by
   cases q:H b with
   |none=>rfl
   |some u=>
    rcases hA b (by rw[q];simp)with e'|e';·subst e';rw[ha]at e;cases e;have d':Data.seq vs.toArray _=Data.dict es ep:=d;cases d'
    ·rw[(hts b e').1]at e;cases e;have d':Data.fields #[]=Data.dict es ep:=d;cases d'
  have nsK:∀{b:Addr}{m:Str->Option Value},s₁.heap.Ns b m->(uG s₁.heap H).Ns b m:=λ{b m} ⟨o,es,ep,e,d,r⟩=>⟨o,es,ep,base_of e (noA e d),d,r⟩
  have hKb:K.In (uG s₁.heap H):=λb o e=>base_of (KX b o e) (by
   cases q:H b with
   |none=>rfl
   |some u=>
    rcases hA b (by rw[q];simp)with e'|e';·subst e';rw[hK (by rw[q];simp)]at e;cases e
    ·rw[(hts b e').2.2]at e;cases e);have hM:Mod K mg (uG s₁.heap H):=⟨hKb,nsK hns,⟨mb,nsK hb,hbb⟩,let⟨mc,h1,h2⟩:=hlim;⟨mc,nsK h1,h2⟩⟩
  have e0:Env0 P w K mg (uG s₁.heap H) callerA [] s₁ H:=⟨rfl,hM,λb o e=>Cb e,Nat.le_of_eq (wg _ _),trivial,λb hb=>absurd (show b∈([]:List Addr) from hb) (by simp),hok,.of_eq hg,xY _ _⟩
  have hBM0:∀p∈ts,(uG s₁.heap H).BuiltinsAt mg p:=λp hp=>by
   obtain⟨bm,ob,m1,m2,m3,m4,m5,m6⟩:=hbm;have hn:H bm=none:=by
    cases q:H bm with
    |none=>rfl
    |some u=>
     rcases hA bm (by rw[q];simp)with e'|e';·subst e';rw[ha]at m3;cases m3;have d':Data.seq vs.toArray _=Data.plain:=m6;cases d'
     ·rw[(hts bm e').1]at m3;cases m3;have d':Data.fields #[]=Data.plain:=m6;cases d'
   refine⟨bm,ob,m1,m2,λz=>?_,λz=>?_,base_of m3 hn,m4,m5,m6⟩;·obtain⟨o,es,ep,e,d,_⟩:=hns;rw[<- z,m3]at e;cases e;rw[m6]at d;cases d
   ·have e:=(hts p hp).1;rw[<- z,m3]at e;cases e;have d':Data.fields #[]=Data.plain:=m6;cases d'
  have hBM:∀p∈ts,(uG s₁.heap H).BuiltinsAt mg p/\vG (uG s₁.heap H) p (nm p):=λp hp=>⟨hBM0 p hp,yQ (get_objs.1 (hts p hp).1).1 (hO2 p hp)⟩
  refine c0 ((F _ hKb (nsK hns) hBM).run callerA [] s₁ H ⟨[.ref a],[]⟩ [.ref a] [.ref a] _ _ hr e0 (hbind s₁ (.ref a)) (.cons rfl .nil) (hsp H hS)) λr s' h=>?_;cases r with
  |error e=>exact(hCX H e s' h).elim
  |ok fl=>
   cases fl with
   |next=>exact False.elim h
   |brk=>exact False.elim h
   |cont=>exact False.elim h
   |ret u=>
    obtain⟨v,H',os,bare,un,hok',r',q⟩:=h;have q':v=.bl true:=q;subst q';obtain rfl:u=Value.bool true:=r';have tab:∀p∈ts,∃qs,s'.heap.get? p=some { cls:=.none,data:=.fields qs }:=λp hp=>by obtain⟨more,z⟩:=un.tbls p _ (hO2 p hp);obtain⟨qs,e,_⟩:=hok' p _ z;exact⟨qs,e⟩
    have keep:∀b o,b∉ts->s₁.heap.get? b=some o->s'.heap.get? b=some o:=λb o hb e=>by
     cases q:H b with
     |none=>exact un.keep b o e q (by intro z;exact absurd (show b∈([]:List Addr) from z) (by simp)) (by simp)
     |some u=>
      rcases hO b hb with z|⟨ob,xs,z⟩;·rw[q]at z;cases z
      ·have z2:=un.frzs b ob _ z;obtain⟨e1,_⟩:=hok b _ z;obtain⟨e2,_⟩:=hok' b _ z2;rw[e]at e1;cases e1;exact e2
    refine⟨rfl,⟨λb o e=>?_,λb o e=>?_⟩,os,bare⟩
    ·by_cases hb:b∈ts;·obtain⟨t1,t2,_⟩:=hts b hb;rw[t1]at e;cases e;obtain⟨qs,z⟩:=tab b hb;exact .inr (.inl ⟨t2,rfl,#[],qs,rfl,by rw[z];simp⟩)
     ·exact .inl (keep b o hb e)
    ·by_cases hb:b∈ts;·obtain⟨qs,z⟩:=tab b hb;exact⟨_,z⟩
     ·exact⟨o,keep b o hb e⟩
 have tabOk:∀(H:Hp)(p:Addr),p∈ts->ObjOk P w H s₁.heap p (.tbl (tf p)):=λH p hp=>⟨#[],(hts p hp).1,trivial,λpos cv q=>by simp[codeAmong]at q⟩
 cases hk:K.lookup a with
 |some o=>
  have e:=KX a o hk;rw[ha]at e;cases e;refine core (λb=>if b∈ts then some (.tbl (tf b))else none) (λb hb=>.inl (if_neg hb)) (λp hp=>if_pos hp) (.inr ⟨_,vs.toArray,_,hk,rfl,rfl,rfl,by rw[v4,lenV];exact hl,by simpa using rv⟩) (λb u z=>?_) (λb z=>?_) λz=>absurd (if_neg λhb=>nat a hb rfl) z
  ·by_cases hb:b∈ts;·have z':=(if_pos hb).symm.trans z;cases z';exact tabOk _ b hb
   ·have z':=(if_neg hb).symm.trans z;cases z'
  ·by_cases hb:b∈ts;·exact .inr hb
   ·exact absurd (if_neg hb) z
 |none=>
  have na:a∉ts:=λz=>nat a z rfl;refine core (λb=>if b=a then some (.frz { cls:=.type "list",data:=.seq vs.toArray } (.lst (ns.map V.int)))else if b∈ts then some (.tbl (tf b))else none) (λb hb=>?_) (λp hp=>?_) (.inl (.inr ⟨{ cls:=.type "list",data:=.seq vs.toArray },if_pos rfl⟩)) (λb u z=>?_) (λb z=>?_) λ_=>hk
  ·by_cases hb':b=a;·exact .inr ⟨_,_,if_pos hb'⟩
   ·exact .inl ((if_neg hb').trans (if_neg hb))
  ·exact(if_neg (nat p hp)).trans (if_pos hp)
  ·by_cases hb:b=a;·have z':=(if_pos hb).symm.trans z;cases z';subst hb;exact⟨ha,by rw[za];exact hl,vs,_,rv,ha⟩
   ·have z':=(if_neg hb).symm.trans z;by_cases hb2:b∈ts;·rw[if_pos hb2]at z';cases z';exact tabOk _ b hb2
    ·rw[if_neg hb2]at z';cases z'
  ·by_cases hb:b=a;·exact .inl hb
   ·by_cases hb2:b∈ts;·exact .inr hb2
    ·exact absurd ((if_neg hb).trans (if_neg hb2)) z
def Ch{c p:Addr}(q:PySem.W.CodeHd h c p):isCodeTable h p:=by obtain⟨o,vs,_,_,_,_,_,_,_,e,e1,e2,e3,_⟩:=q;exact⟨c,o,vs,e,e1,e2,e3⟩
theorem nN{α β:Type}[BEq α][LawfulBEq α]{a:α}:∀{l:List (α×β)},a∉l.map (·.1)->l.lookup a=none
 | [],_=>rfl
 | (k,v)::r,h=>by
  simp only[tv,v0,not_or]at h;have:(a==k)=false:=by simp;exact h.1
  simp only[oH,this];exact nN h.2
def GO{l:PySem.W.OpenLaw}{q:Program}{XP:(Str->Option Value)->Heap->Prop}{d:DefRec}{K:Params->PySem.W.Frag}{as:List Addr}{e:∀P:Params,as=(K P).map (·.1)}{L:Nat}{ts:List Addr}(hL:Room L callerA)(hn:l.most=some 63)(hdf:d.params.defaults=[])(hts:∀p∈ts,p∉as)(F:∀(w:World)(mg:Str->Option Value)(fa:Addr)(h:Heap),(K w.params).In h->h.Ns mainGlobals mg->mg d.name=some (.ref fa)->
 (∀p∈ts,isCodeTable h p)/\∃nm:Addr->Str,
 ∃fd:FuncData,(∀(s:Shared)(u:Value),BindsTo s fd ⟨[u],[]⟩ [("_law_script",u)])/\∀base:Heap,(K w.params).In base->base.Ns mainGlobals mg->(∀p∈ts,base.BuiltinsAt mg p/\vG base p (nm p))->FnF l.prog w (K w.params) mg base L fa fd ["_law_script"] yA):
  PySem.W.WalkO q loose XP (PySem.W.kmHook K as e ts).says l.row.toRowW d [] (λf vs=>PySem.call f vs):=by
 refine Att.attach_call hn hdf λw s₀ s₁ mg mb fa o pm cd doc a vs ns G Y ho hd hcd hmg hobj hints hlen hg=>?_;have KX:=PySem.W.km_in_of Y;obtain⟨ht,nm,fd,hb,hF⟩:=F w mg fa _ KX G.T.g hmg;refine vW KX G.T.g G.T.b G.T.builtins G.T.nolimit hg hobj hints (w9 hlen (by decide)) hL (λp hp=>⟨PySem.W.km_tabs_of Y p hp,ht p hp,nN (by rw[<- e w.params];exact hts p hp)⟩) G.T.bmain hF hb (λH hS=>⟨rfl,H,[.lst true (ns.map .int)],.refl _,.cons (.fls hS (rz ns)) .nil,?_⟩) λH e s' z=>by obtain⟨a,C,H',_,_,z⟩:=z;exact z
 have e:yA [.lst true (ns.map .int)]=.ok (.bl true):=by simp only[yA,li]
 rw[e];exact λv G' H' u r=>r.bl_inv
def Dm{K:PySem.W.Frag}{mg:Str->Option Value}{c:Addr}{od2:Option Addr}{sl2:Array (Option Value)}{kV doc pm ct:Value}{vs:Array Value}{file:Str}{tf tg tt:Tok}{flags text:Int}{inF:Bool}(X:K.In h)(G:h.Ns mainGlobals mg)(a:PySem.W.nsIn K mainGlobals x=some (some (.ref f)))(l:K.lookup f=some ⟨oc,od,.func (PySem.W.fnOf x x (iY st) (gB st) (aO st) .none kV doc pm an (.ref c) ct),osl⟩)(cI:PySem.W.codeIn K (.ref c) x=true)(k:PySem.W.keepIn K (.ref f)=true)(lc:K.lookup c=some ⟨.type "code",od2,.fields vs,sl2⟩)(e11:vs[11]?=some (.ref Pt))(e11':vs.getD 11 .none=.ref Pt)(e18:vs.getD 18 .none=.str file tf)(e7:vs.getD 7 .none=.int flags tg)(e9:vs.getD 9 .none=.bool inF)(e10:vs.getD 10 .none=.int text tt)(nc:c≠Pt)(n4:mainGlobals≠Pt):
  ∃f fd,(Fun K x x st f fd/\mg x=some (.ref f))/\LamDef K mg fd Pt:=by
 have hc:∀h,K.In h->PySem.W.CodeHd h c Pt:=λh X=>⟨_,vs,file,tf,flags,tg,inF,text,tt,X _ _ lc,rfl,rfl,e11,e11',e18,e7,e9,e10,nc⟩
 exact⟨f,_,⟨Be l cI k,nR X G a⟩,⟨⟨c,rfl,hc⟩,n4⟩⟩
def LamDef.tab{K:PySem.W.Frag}{mg:Str->Option Value}(L:LamDef K mg fd Pt)(X:K.In h):isCodeTable h Pt:=by obtain⟨c,_,q⟩:=L.ex;exact Ch (q h X)
def EB{K:PySem.W.Frag}{mg:Str->Option Value}{q:Str}{L:List (Addr×Str)}{S:Addr->FuncData->Prop}(LD:∃f fd,S f fd/\LamDef K mg fd Pt)(X:K.In h)(r:∀pq∈L,isCodeTable h pq.1):∀pq∈(Pt,q)::L,isCodeTable h pq.1:=λpq hp=>by
 obtain⟨f,fd,_,ld⟩:=LD;rcases v0.1 hp with z|z;·rw[z];exact LamDef.tab ld X
 ·exact r pq z
def EG:∀pq∈([]:List (Addr×Str)),isCodeTable h pq.1:=λpq hp=>by simp at hp
def JH{w:World}{K:PySem.W.Frag}{mg:Str->Option Value}{fa:Addr}{L:Nat}{ts:List Addr}{tq:List (Addr×Str)}(h1:∀p∈ts,p∈tq.map (·.1))(h2:∀pq∈tq,pq.1∈ts/\tq.lookup pq.1=some pq.2)(hc:∀pq∈tq,isCodeTable h pq.1)(a:∃fd:FuncData,(∀(s:Shared)(u:Value),BindsTo s fd ⟨[u],[]⟩ [("_law_script",u)])/\∀base:Heap,K.In base->base.Ns mainGlobals mg->(∀pq∈tq,base.BuiltinsAt mg pq.1/\vG base pq.1 pq.2)->FnF P w K mg base L fa fd ["_law_script"] yA):
  (∀p∈ts,isCodeTable h p)/\∃nm:Addr->Str,∃fd:FuncData,(∀(s:Shared)(u:Value),BindsTo s fd ⟨[u],[]⟩ [("_law_script",u)])/\∀base:Heap,K.In base->base.Ns mainGlobals mg->(∀p∈ts,base.BuiltinsAt mg p/\vG base p (nm p))->
   FnF P w K mg base L fa fd ["_law_script"] yA:=by
 obtain⟨fd',hb,hF⟩:=a;refine⟨λp hp=>?_,λp=>(tq.lookup p).getD Str.empty,fd',hb,λbase kb nb hB=>hF base kb nb λpq hpq=>?_⟩;·obtain⟨pq,hpq,rfl⟩:=v7.1 (h1 p hp);exact hc pq hpq
 ·obtain⟨z1,z2⟩:=h2 pq hpq;have:=hB pq.1 z1;dsimp only at this;rw[z2]at this;exact this
end Q
namespace G50
open PySem PySem.Spec PyProof.Rows L2 Q Q50
local macro_rules | `(tactic| walk_at "s") => `(tactic| exact⟨rfl,rfl,rfl,by decide +kernel,rfl,by decide +kernel,by decide +kernel⟩)
local macro_rules | `(tactic| walk_at "1") => `(tactic| (intro _ _ _ _ _ _ us hl;obtain⟨a,z⟩:=vI hl;subst z;rfl))
local macro_rules | `(tactic| walk_at "2") => `(tactic| (intro _ _ _ _ _ _ us hl;obtain⟨a,b,z⟩:=yG hl;subst z;rfl))
local macro_rules | `(tactic| walk_at "3") => `(tactic| (intro _ _ _ _ _ _ us hl;obtain⟨a,b,c,z⟩:=vH hl;subst z;rfl))
local macro_rules | `(tactic| walk_at "4") => `(tactic| (intro _ _ _ _ _ _ us hl;obtain⟨a,b,c,d,z⟩:=Kc hl;subst z;rfl))
noncomputable abbrev top(i:Nat):Stmt:=PySem.Challenge.pw_screenlines_k50_whole_tables.main.body.getD i (.Pass ⟨0,0,0,0⟩)
noncomputable abbrev FUz(K:PySem.W.Frag)(n:Str)(i:Nat):=Fun K n n (top i)
section
variable{w:World}{K:PySem.W.Frag}{mg:Str->Option Value}{base:Heap}
def rY:FnScope ["_law_script","_law_k"] ["_law_script","_law_k"] (aO (top 41)):=by walk_at "s"
def sf:FnScope ["_law_script","_law_k","_law_many","_law_drawn"] ["_law_script","_law_k","_law_many"] (aO (top 42)):=by walk_at "s"
def mF:FnScope ["_law_script","_law_at"] ["_law_script","_law_at"] (aO (top 58)):=by walk_at "s"
def rS:FnScope ["thing"] ["thing"] (aO (top 10)):=by walk_at "s"
def qE:FnScope ["thing","low","high"] ["thing","low","high"] (aO (top 11)):=by walk_at "s"
def oP:FnScope ["thing"] ["thing"] (aO (top 21)):=by walk_at "s"
def xO:FnScope ["wishes","room","given","left","number","wish"] ["wishes","room"] (aO (top 22)):=by walk_at "s"
def oV:FnScope ["wishes","room"] ["wishes","room"] (aO (top 23)):=by walk_at "s"
def rG:FnScope ["thing"] ["thing"] (aO (top 12)):=by walk_at "s"
def uP:FnScope ["thing"] ["thing"] (aO (top 20)):=by walk_at "s"
def rA:FnScope ["thing"] ["thing"] (aO (top 30)):=by walk_at "s"
def my:FnScope ["thing"] ["thing"] (aO (top 31)):=by walk_at "s"
def lY:FnScope ["thing","many"] ["thing","many"] (aO (top 32)):=by walk_at "s"
def sQ:FnScope ["columns","rows"] ["columns","rows"] (aO (top 33)):=by walk_at "s"
def mR:FnScope ["columns","rows"] ["columns","rows"] (aO (top 34)):=by walk_at "s"
def mT:FnScope ["columns","rows","number","texts"] ["columns","rows","number"] (aO (top 35)):=by walk_at "s"
def vT:FnScope ["columns","rows","room","many","gaps"] ["columns","rows","room"] (aO (top 36)):=by walk_at "s"
def mJ:FnScope ["thing"] ["thing"] (aO (top 13)):=by walk_at "s"
def mI:FnScope ["width"] ["width"] (aO (top 24)):=by walk_at "s"
def Ef:FnScope ["text","width"] ["text","width"] (aO (top 25)):=by walk_at "s"
def qD:FnScope ["text","width","side","short","ahead"] ["text","width","side"] (aO (top 26)):=by walk_at "s"
def yn:FnScope ["columns","sizes","texts"] ["columns","sizes","texts"] (aO (top 37)):=by walk_at "s"
def yM:FnScope ["columns","rows","room","sizes","names","line"] ["columns","rows","room"] (aO (top 38)):=by walk_at "s"
def qg:FnScope ["columns","rows","place"] ["columns","rows","place"] (aO (top 39)):=by walk_at "s"
def qQ(bx:mg "len"=none)(fI:mg "sorted"=none)(fT:Ref "NoTable" aj mg base)(gH:Callee P w K mg base "check_table" 5 2 aH)(cw:Callee P w K mg base "is_within" 5 3 aE)(LB:LamB K mg base "sorted_by" fd Pt)(Fn:FUz K "sorted_by" 39 f fd):FnF P w K mg base 6 f fd ["columns","rows","place"] (λds=>aJ (gA aH aE aj (aM 3 ds))):=by refine Fn.okFT LB qg (k:=5) (g:=gA aH aE aj) λcdv A outer s H E hr la=>?_;have hu:=hr.units;have hh:=hr.hd;exact(av (tT (aV gH hr (ae (ai at0) (ae (ai at1) ag)))) (av (iR (dt (du (aV cw hr (ae (ai at2) (ae aA (ae (gO (eS rfl bx (ae (ai at0) ag)) aA) ag)))))) (av (gY fT hh (bh (l:=[116,104,101,114,101,32,105,115,32,110,111,32,115,117,99,104,32,99,111,108,117,109,110]) rfl (by decide))) aU) aU) (av (bC (CI rfl rfl fI hr la (ai at1) (x:="row") (N':=["place"]) (ix:=[2]) Fu (λcl f cd A outer s H E hr=>by have hu:=hr.units;exact(cB (A6 at0) (A6 at1))))) aU)))
def sv:FnScope ["_law_kept","_law_kinds"] ["_law_kept"] (aO (top 56)):=by walk_at "s"
def sV(eG:mg "ValueError"=none)(am:mg "isinstance"=none)(Er:Errs K mg rs [("NoScreen",aI),("NoOrder",aS),("NoRoom",ao),("NoNumber",aw),("NoTable",aj),("NoTask",aZ),("NoText",aF)])(Fn:FUz K "_law_word" 56 f fd):FnF P w K mg base 1 f fd ["_law_kept"] (λds=>aJ (fD ao aS aw aj aI aF aZ rs (aM 2 ds))):=by
 have hN:(["_law_kept","_law_kinds"]:List Str).Nodup:=by decide
 refine Fn.okF sv (k:=0) (g:=fD ao aS aw aj aI aF aZ rs) λ_ _ _ _ _ _ hr=>?_;have hu:=hr.units;exact(av (xA 1 hN (dm (ae (iX (T:=aw) Er (.tail _ (.tail _ (.tail _ (.head _)))) am (ai at0)) (ae (iX (T:=aS) Er (.tail _ (.head _)) am (ai at0)) (ae (iX (T:=ao) Er (.tail _ (.tail _ (.head _))) am (ai at0)) ag))))) (av (kJ 1 (cj (dm (ae (iX (T:=aI) Er (.head _) am (ai at0)) (ae (iX (T:=aj) Er (.tail _ (.tail _ (.tail _ (.tail _ (.head _))))) am (ai at0)) ag))))) (av (kJ 1 (cj (dm (ae (iX (T:=aZ) Er (.tail _ (.tail _ (.tail _ (.tail _ (.tail _ (.head _)))))) am (ai at0)) (ae (iX (T:=aF) Er (.tail _ (.tail _ (.tail _ (.tail _ (.tail _ (.tail _ (.head _))))))) am (ai at0)) ag))))) (pW 1 (av (iR (lg (hU (kx hu (Dg (ai at1) (ae iI ag)) aA) (hZ (dt (du (GA Er am eG (ai at0))))))) (av (bC (bh (l:=[119,114,111,110,103]) rfl (by decide))) aU) aU) (av (bC (cB (cj (dm (ae (bh (l:=[110,111,32,110,117,109,98,101,114]) rfl (by decide)) (ae (bh (l:=[110,111,32,111,114,100,101,114]) rfl (by decide)) (ae (bh (l:=[110,111,32,114,111,111,109]) rfl (by decide)) (ae (bh (l:=[110,111,32,115,99,114,101,101,110]) rfl (by decide)) (ae (bh (l:=[110,111,32,116,97,98,108,101]) rfl (by decide)) (ae (bh (l:=[110,111,32,116,97,115,107]) rfl (by decide)) (ae (bh (l:=[110,111,32,116,101,120,116]) rfl (by decide)) ag))))))))) (CH (ai at1) (ae iI ag)))) aU))))))
def we:FnScope ["_law_what","_law_columns","_law_rows","_law_third","_law_kept","_law_answer","e"] ["_law_what","_law_columns","_law_rows","_law_third"] (aO (top 57)):=by walk_at "s"
def jS:FnScope ["_law_thing","_law_made","_law_k"] ["_law_thing"] (aO (top 49)):=by walk_at "s"
def oZ(am:mg "isinstance"=none)(bx:mg "len"=none)(bF:mg "range"=none)(bn:mg "tuple"=none)(gw:Callee P w K mg base "_law_places" k 1 aC)(Fn:FUz K "_law_places" 49 f fd):FnF P w K mg base (k+1) f fd ["_law_thing"] (λds=>aJ (em aC (aM 3 ds))):=by
 have hN:(["_law_thing","_law_made","_law_k"]:List Str).Nodup:=by decide
 exact Fn.okF jS (k:=k) (g:=em aC) λ_ _ _ _ _ _ hr=>(av (xA 1 hN (dm (ae (gF ag) ag))) (av (iR (du (fv am (ai at0) bn)) (av (vg d5 rfl (dG rfl bF (ae (eS rfl bx (ae (ai at0) ag)) ag)) (eP 2 hN) (av (kJ 1 (bU (bw (N':=["_law_place","_law_k"]) (ix:=[2]) bD rfl (cG (aV gw hr (ae (cB (ai at0) (ai at2)) ag))) (λC s₂ H₂ fp=>(bo (gF (ae (aW at1) ag)) (aW at0))) (λC s₂ H₂ fp=>bz)))) aU)) aU) aU) (pW 1 (av (bC (ai at1)) aU))))
theorem iU{f:Addr}{fd:FuncData}(am:mg "isinstance"=none)(bx:mg "len"=none)(bF:mg "range"=none)(bn:mg "tuple"=none)(F:FUz K "_law_places" 49 f fd)(m:mg "_law_places"=some (.ref f)):∀n:Nat,Callee P w K mg base "_law_places" (n+1) 1 (bS n)
 | 0=>F.callee m ((F.noF jS).to λds hl=>.inl (wV ds hl)) (by walk_at "1")
 |n+1=>F.callee m ((oZ am bx bF bn (iU am bx bF bn F m n) F).to (pA n)) (by walk_at "1")
def nt:FnScope ["_law_thing","_law_place","_law_new","_law_k"] ["_law_thing","_law_place","_law_new"] (aO (top 50)):=by walk_at "s"
def vz(eX:Callee P w K mg base "_law_put" k 3 aN)(Fn:FUz K "_law_put" 50 f fd):FnF P w K mg base (k+1) f fd ["_law_thing","_law_place","_law_new"] (λds=>aJ (gE aN (aM 4 ds))):=by
 have hN:(["_law_thing","_law_place","_law_new","_law_k"]:List Str).Nodup:=by decide
 refine Fn.okF nt (k:=k) (g:=gE aN) λ_ _ _ _ _ _ hr=>?_;have hu:=hr.units;exact(av (iR (zo hu (ai at1) (gF ag)) (av (bC (ai at2)) aU) aU) (av (di at3 hN (cB (ai at1) aA)) (av (bC (bo (bo (cU (ai at0) cT (gN (ai at3))) (gF (ae (aV eX hr (ae (cB (ai at0) (ai at3)) (ae (cU (ai at1) (gN aA) cT) (ae (ai at2) ag)))) ag))) (cU (ai at0) (gN (bo (ai at3) aA)) cT))) aU)))
theorem lW{f:Addr}{fd:FuncData}(F:FUz K "_law_put" 50 f fd)(m:mg "_law_put"=some (.ref f)):∀n:Nat,Callee P w K mg base "_law_put" (n+1) 3 (lI n)
 | 0=>F.callee m ((F.noF nt).to λds hl=>.inl (E3 ds hl)) (by walk_at "3")
 |n+1=>F.callee m ((vz (lW F m n) F).to (uO n)) (by walk_at "3")
def iV:FnScope ["_law_script","_law_at","_law_thing","_law_places_here","_law_place","_law_here","_law_k","_law_some","_law_way","_law_spot","_law_sign"] ["_law_script","_law_at","_law_thing"] (aO (top 51)):=by walk_at "s"
def jg(mL:mg "int"=none)(am:mg "isinstance"=none)(bx:mg "len"=none)(mf:mg "str"=none)(bn:mg "tuple"=none)(gw:Callee P w K mg base "_law_places" 5 1 aC)(bq:Callee P w K mg base "_law_pick" 5 3 af)(eX:Callee P w K mg base "_law_put" 5 3 aN)(Fn:FUz K "_law_spoilt_thing" 51 f fd):FnF P w K mg base 6 f fd ["_law_script","_law_at","_law_thing"] (λds=>aJ (bV aC af aN (aM 11 ds))):=by
 have hN:(["_law_script","_law_at","_law_thing","_law_places_here","_law_place","_law_here","_law_k","_law_some","_law_way","_law_spot","_law_sign"]:List Str).Nodup:=by decide
 refine Fn.okF iV (k:=5) (g:=bV aC af aN) λ_ _ _ _ _ _ hr=>?_;have hu:=hr.units;exact(av (di at3 hN (aV gw hr (ae (ai at2) ag))) (av (di at4 hN (cB (ai at3) (aV bq hr (ae (ai at0) (ae (ai at1) (ae (eS rfl bx (ae (ai at3) ag)) ag)))))) (av (di at5 hN (ai at2)) (av (vg d5 rfl (cG (ai at4)) (eP 6 hN) (av (di at5 hN (cB (ai at5) (ai at6))) aU)) (av (di at7 hN (cj (dm (ae aA (ae aA (ae aA (ae aA (ae aA (ae aA (ae aA (ae (DW aA) (ae iI (ae jt (ae (bh (l:=[97]) rfl (by decide)) (ae (bh (l:=[]) rfl (by decide)) (ae (gF (ae (bh (l:=[103,111]) rfl (by decide)) (ae aA (ae aA ag)))) (ae (gF (ae aA (ae aA ag))) (ae (cj (dm (ae aA ag))) (ae (gF (ae (ai at5) ag)) (ae (gF (ae (ai at5) (ae (ai at5) ag))) ag)))))))))))))))))))) (av (di at8 hN (aV bq hr (ae (ai at0) (ae (bo (ai at1) aA) (ae aA ag))))) (av (iR (zH (ai at8) aA) (av (bC (aV eX hr (ae (ai at2) (ae (ai at4) (ae (cB (ai at7) (ai at8)) ag))))) aU) aU) (av (iR (lg (sG (du (fv am (ai at5) bn)) (oO (kx hu (ai at5) (gF ag))))) (av (di at6 hN (aV bq hr (ae (ai at0) (ae (bo (ai at1) aA) (ae (eS rfl bx (ae (ai at5) ag)) ag))))) (av (bC (aV eX hr (ae (ai at2) (ae (ai at4) (ae (De (zH (ai at8) aA) (bo (cU (ai at5) cT (gN (ai at6))) (cU (ai at5) (gN (bo (ai at6) aA)) cT)) (bo (cU (ai at5) cT (gN (bo (ai at6) aA))) (cU (ai at5) (gN (ai at6)) cT))) ag))))) aU)) aU) (av (iR (du (su am (ai at5) mf)) (av (di at9 hN (aV bq hr (ae (ai at0) (ae (bo (ai at1) aA) (ae (bo (eS rfl bx (ae (ai at5) ag)) aA) ag))))) (av (di GN hN (cB (cj (dm (ae (bh (l:=[10]) rfl (by decide)) (ae (bh (l:=[]) rfl (by decide)) (ae (bh (l:=[97]) rfl (by decide)) (ae (bh (l:=[9]) rfl (by decide)) ag)))))) (De (wM (ai at8) aA) (gO (ai at8) aA) aA))) (av (bC (aV eX hr (ae (ai at2) (ae (ai at4) (ae (bo (bo (cU (ai at5) cT (gN (ai at9))) (ai GN)) (cU (ai at5) (gN (bo (ai at9) aA)) cT)) ag))))) aU))) aU) (av (bC (aV eX hr (ae (ai at2) (ae (ai at4) (ae (De (du (wr am (ai at5) mL)) (bo (ai at5) aA) aA) ag))))) aU))))))))))
def kX:FnScope ["_law_thing"] ["_law_thing"] (aO (top 53)):=by walk_at "s"
def lh:FnScope ["_law_columns","_law_rows","_law_one"] ["_law_columns","_law_rows"] (aO (top 59)):=by walk_at "s"
def jw:FnScope ["_law_script","_law_columns","_law_rows","_law_many","_law_bad","_law_told","_law_odd"] ["_law_script","_law_columns","_law_rows"] (aO (top 60)):=by walk_at "s"
def jO{ay aD:List D->R D}(km:mg "bool"=none)(am:mg "isinstance"=none)(bx:mg "len"=none)(gX:mg "list"=none)(bF:mg "range"=none)(bn:mg "tuple"=none)(jo:Callee P w K mg base "_law_spoilt_thing" 8 3 ay)(gr:Callee P w K mg base "is_table" 8 2 ak)(lx:Callee P w K mg base "_law_is_table" 8 2 aD)(cQ:Callee P w K mg base "_law_do" 8 4 ax)(bq:Callee P w K mg base "_law_pick" 8 3 af)(Fn:FUz K "_law_are_refused" 60 f fd):FnF P w K mg base 9 f fd ["_law_script","_law_columns","_law_rows"] (λds=>aJ (bL ay ak aD ax af (aM 7 ds))):=by
 have hN:(["_law_script","_law_columns","_law_rows","_law_many","_law_bad","_law_told","_law_odd"]:List Str).Nodup:=by decide
 refine Fn.okF jw (k:=8) (g:=bL ay ak aD ax af) λ_ _ _ _ _ _ hr=>?_;have hu:=hr.units;exact(av (di at3 hN (eS rfl bx (ae (ai at1) ag))) (av (di at4 hN (aV jo hr (ae (ai at0) (ae aA (ae (ai at1) ag))))) (av (di at5 hN (aV gr hr (ae (ai at4) (ae (ai at2) ag)))) (av (iR (lg (hU (kx hu (ai at5) (aV lx hr (ae (ai at4) (ae (ai at2) ag)))) (hZ (dt (du (ue am (ai at5) km)))))) (av (bC iI) aU) aU) (av (iR (lg (sG (dt (B9 (ai at5))) (oO (kx hu (bU (bw (N':=["_law_what","_law_rows","_law_bad"]) (ix:=[2,4]) bD rfl (dG rfl bF (ae aA ag)) (λC s₂ H₂ fp=>(aV cQ hr (ae (aW at0) (ae (aW at2) (ae (aW at1) (ae jt ag)))))) (λC s₂ H₂ fp=>bz))) (cF (cj (dm (ae (bh (l:=[110,111,32,116,97,98,108,101]) rfl (by decide)) ag))) aA))))) (av (bC iI) aU) aU) (av (xA 6 hN (dm (ae jt (ae (jR rfl bn (ae (ai at2) ag)) (ae (bo (ai at2) (cj (dm (ae (cF (gF (ae (bh (l:=[97]) rfl (by decide)) ag)) (bo (ai at3) aA)) ag)))) (ae (bo (ai at2) (cj (dm (ae jt ag)))) (ae (cj (dm (ae (cF (gF (ae (bh (l:=[97,10]) rfl (by decide)) ag)) (ai at3)) ag))) (ae (cj (dm (ae (Cq rfl gX (ae (cF (bh (l:=[97]) rfl (by decide)) (ai at3)) ag)) ag))) ag)))))))) (av (kJ 6 (cj (dm (ae (bo (ai at2) (cj (dm (ae (bo (cF (gF (ae (bh (l:=[97]) rfl (by decide)) ag)) (gO (ai at3) aA)) (gF (ae aA ag))) ag)))) (ae (bo (ai at2) (cj (dm (ae (bo (gF (ae (bh (l:=[97,10]) rfl (by decide)) ag)) (cF (gF (ae (bh (l:=[97]) rfl (by decide)) ag)) (gO (ai at3) aA))) ag)))) ag))))) (pW 6 (av (iR (kx hu (bU (bw (N':=["_law_what","_law_script","_law_columns","_law_odd"]) (ix:=[0,1,6]) bD rfl (dG rfl bF (ae aA ag)) (λC s₂ H₂ fp=>(aV cQ hr (ae (aW at0) (ae (aW at2) (ae (cB (aW at3) (aV bq hr (ae (aW at1) (ae aA (ae aA ag))))) (ae aA ag)))))) (λC s₂ H₂ fp=>bz))) (cF (cj (dm (ae (bh (l:=[110,111,32,116,97,98,108,101]) rfl (by decide)) ag))) aA)) (av (bC iI) aU) aU) (av (iR (kx hu (bU (bw (N':=["_law_odd","_law_columns","_law_rows"]) (ix:=[1,2]) bD rfl (cG (gF (ae (ai at3) (ae (DW aA) (ae jt ag))))) (λC s₂ H₂ fp=>(aV cQ hr (ae aA (ae (aW at1) (ae (aW at2) (ae (aW at0) ag)))))) (λC s₂ H₂ fp=>bz))) (cF (cj (dm (ae (bh (l:=[110,111,32,116,97,98,108,101]) rfl (by decide)) ag))) aA)) (av (bC iI) aU) aU) (av (di at5 hN (cj (dm (ae (aV cQ hr (ae aA (ae (ai at1) (ae (ai at2) (ae (gO (cF aA (ai at3)) aA) ag))))) (ae (aV cQ hr (ae aA (ae (ai at1) (ae (ai at2) (ae aA ag))))) ag))))) (av (bC (xx hu (bo (ai at5) (bU (bw (N':=["_law_what","_law_columns","_law_rows"]) (ix:=[1,2]) bD rfl (dG rfl bF (ae aA ag)) (λC s₂ H₂ fp=>(aV cQ hr (ae (aW at0) (ae (aW at1) (ae (aW at2) (ae jt ag)))))) (λC s₂ H₂ fp=>bz)))) (cF (cj (dm (ae (bh (l:=[110,111,32,114,111,111,109]) rfl (by decide)) ag))) aA))) aU))))))))))))
def Fc:FnScope ["_law_script","_law_many","_law_columns","_law_rows","_law_k","_law_room","_law_wishes","_law_some","_law_due","_law_row_here","_law_place","_law_ranked"] ["_law_script"] (aO (top 61)):=by walk_at "s"
def EC{aq aB ah:List D->R D}(cK:mg "enumerate"=none)(bx:mg "len"=none)(qW:mg "max"=none)(bF:mg "range"=none)(vR:mg "set"=none)(fI:mg "sorted"=none)(bn:mg "tuple"=none)(bq:Callee P w K mg base "_law_pick" 9 3 af)(iM:Callee P w K mg base "_law_word_at" 9 2 aq)(rl:Callee P w K mg base "shared_out" 9 2 aB)(cQ:Callee P w K mg base "_law_do" 9 4 ax)(gr:Callee P w K mg base "is_table" 9 2 ak)(gC:Callee P w K mg base "filled_to" 9 3 az)(jQ:Callee P w K mg base "_law_are_refused" 9 3 ah)(Fn:FUz K "law" 61 f fd):FnF P w K mg base 10 f fd ["_law_script"] (λds=>aJ (lG af aq aB ax ak az ah (aM 12 ds))):=by
 have hN:(["_law_script","_law_many","_law_columns","_law_rows","_law_k","_law_room","_law_wishes","_law_some","_law_due","_law_row_here","_law_place","_law_ranked"]:List Str).Nodup:=by decide
 refine Fn.okF Fc (k:=9) (g:=lG af aq aB ax ak az ah) λ_ _ _ _ _ _ hr=>?_;have hu:=hr.units;exact(av (di at1 hN (bo aA (aV bq hr (ae (ai at0) (ae aA (ae aA ag)))))) (av (di at2 hN (jR rfl bn (ae (bU (bw (N':=["_law_k","_law_script"]) (ix:=[0]) bD rfl (dG rfl bF (ae (ai at1) ag)) (λC s₂ H₂ fp=>(gF (ae (aV iM hr (ae (aW at1) (ae (bo aA (cF aA (aW at0))) ag))) (ae (cB (bh (l:=[60,62,94]) rfl (by decide)) (aV bq hr (ae (aW at1) (ae (bo aA (aW at0)) (ae aA ag))))) ag)))) (λC s₂ H₂ fp=>bz))) ag))) (av (xA 3 hN (dm ag)) (av (vg d5 rfl (dG rfl bF (ae (aV bq hr (ae (ai at0) (ae aA (ae aA ag)))) ag)) (eP 4 hN) (av (nP 3 (jR rfl bn (ae (bU (bw (N':=["_law_j","_law_script","_law_k"]) (ix:=[0,4]) bD rfl (dG rfl bF (ae (ai at1) ag)) (λC s₂ H₂ fp=>(aV iM hr (ae (aW at1) (ae (bo (bo aA (cF aA (aW at2))) (cF aA (aW at0))) ag)))) (λC s₂ H₂ fp=>bz))) ag))) aU)) (av (di at5 hN (bo (gO (cF aA (ai at1)) aA) (aV bq hr (ae (ai at0) (ae aA (ae (bo (gO aA (cF aA (ai at1))) aA) ag)))))) (pW 3 (av (zF 6 hN (x:="_law_k") (N':=["_law_k","_law_columns","_law_rows"]) (ix:=[2,3]) zT rfl (dG rfl bF (ae (ai at1) ag)) (λC s₂ H₂ fp=>(A8 rfl rfl qW (ae (bo (cj (dm (ae aA ag))) (bU (bw (N':=["_law_row_here","_law_k"]) (ix:=[0]) bD rfl (cG (bo (Bp at2) (cj (dm (ae (jR rfl bn (ae (bU (jI (n:=2) (N':=["_law_name","_law_side"]) (ix:=[]) kC rfl (λC s₂ H₂ fp=>lK rfl (cL 0 (by show(["_law_name","_law_side"]:List Str).Nodup;decide) (cL 1 (by show(["_law_name","_law_side"]:List Str).Nodup;decide) ju))) kK (cG (Bp at1)) (λC s₂ H₂ fp=>(aW at0)) (λC s₂ H₂ fp=>bz))) ag)) ag))))) (λC s₂ H₂ fp=>(eS rfl bx (ae (cB (aW at0) (aW at1)) ag))) (λC s₂ H₂ fp=>bz)))) ag))) (λC s₂ H₂ fp=>bz)) (pW 6 (av (di at7 hN (aV rl hr (ae (ai at6) (ae (bo (gO (ai at5) (ai at1)) aA) ag)))) (av (iR (lg (hU (kx hu (aV cQ hr (ae aA (ae (ai at2) (ae (ai at3) (ae (ai at5) ag))))) (ai at7)) (hZ (Aq (aV gr hr (ae (ai at2) (ae (ai at3) ag))) iI)))) (av (bC iI) aU) aU) (av (xA 8 hN (dm (ae (rn (bh (l:=[32]) rfl (by decide)) (ae (bU (bw (N':=["_law_k","_law_columns","_law_some"]) (ix:=[2,7]) bD rfl (dG rfl bF (ae (ai at1) ag)) (λC s₂ H₂ fp=>(aV gC hr (ae (cB (cB (aW at1) (aW at0)) aA) (ae (cB (aW at2) (aW at0)) (ae (cB (cB (aW at1) (aW at0)) aA) ag))))) (λC s₂ H₂ fp=>bz))) ag)) ag))) (av (nP 8 (rn (bh (l:=[32]) rfl (by decide)) (ae (bU (bw (N':=["_law_wide"]) (ix:=[]) bD rfl (cG (ai at7)) (λC s₂ H₂ fp=>(cF (bh (l:=[45]) rfl (by decide)) (aW at0))) (λC s₂ H₂ fp=>bz))) ag))) (av (vg d5 rfl (cG (ai at3)) (eP 9 hN) (av (nP 8 (rn (bh (l:=[32]) rfl (by decide)) (ae (bU (bw (N':=["_law_k","_law_columns","_law_some","_law_row_here"]) (ix:=[2,7,9]) bD rfl (dG rfl bF (ae (ai at1) ag)) (λC s₂ H₂ fp=>(aV gC hr (ae (cB (aW at3) (aW at0)) (ae (cB (aW at2) (aW at0)) (ae (cB (cB (aW at1) (aW at0)) aA) ag))))) (λC s₂ H₂ fp=>bz))) ag))) aU)) (pW 8 (av (iR (lg (hU (kx hu (aV cQ hr (ae aA (ae (ai at2) (ae (ai at3) (ae (ai at5) ag))))) (ai at8)) (hU (kx hu (yE rfl bx vR (ae (bU (bw (N':=["_law_line"]) (ix:=[]) bD rfl (cG (ai at8)) (λC s₂ H₂ fp=>(eS rfl bx (ae (aW at0) ag))) (λC s₂ H₂ fp=>bz))) ag)) aA) (hZ (wM (eS rfl bx (ae (cB (ai at8) aA) ag)) (ai at5)))))) (av (bC iI) aU) aU) (av (di GN hN (aV bq hr (ae (ai at0) (ae aA (ae (ai at1) ag))))) (av (di Jh hN (CP rfl fI (ae (bU (jI (n:=2) (N':=["_law_k","_law_row_here","_law_place"]) (ix:=[10]) kC rfl (λC s₂ H₂ fp=>lK rfl (cL 0 (by show(["_law_k","_law_row_here","_law_place"]:List Str).Nodup;decide) (cL 1 (by show(["_law_k","_law_row_here","_law_place"]:List Str).Nodup;decide) ju))) kK (yh rfl cK (ai at3)) (λC s₂ H₂ fp=>(gF (ae (cB (aW at1) (aW at2)) (ae (aW at0) ag)))) (λC s₂ H₂ fp=>bz))) ag))) (av (iR (kx hu (aV cQ hr (ae aA (ae (ai at2) (ae (ai at3) (ae (ai GN) ag))))) (bU (jI (n:=2) (N':=["_law_text","_law_k","_law_rows"]) (ix:=[3]) kC rfl (λC s₂ H₂ fp=>lK rfl (cL 0 (by show(["_law_text","_law_k","_law_rows"]:List Str).Nodup;decide) (cL 1 (by show(["_law_text","_law_k","_law_rows"]:List Str).Nodup;decide) ju))) kK (cG (ai Jh)) (λC s₂ H₂ fp=>(cB (aW at2) (aW at1))) (λC s₂ H₂ fp=>bz)))) (av (bC iI) aU) aU) (av (bC (aV jQ hr (ae (ai at0) (ae (ai at2) (ae (ai at3) ag))))) aU)))))))))))))))))))
end
def DT{w:World}{K:PySem.W.Frag}{mg:Str->Option Value}{fa:Addr}(hfa:mg "law"=some (.ref fa))(eG:mg "ValueError"=none)(ie:mg "all"=none)(km:mg "bool"=none)(cK:mg "enumerate"=none)(mL:mg "int"=none)(am:mg "isinstance"=none)(bx:mg "len"=none)(gX:mg "list"=none)(qW:mg "max"=none)(vN:mg "min"=none)(xN:mg "ord"=none)(bF:mg "range"=none)(vR:mg "set"=none)(fI:mg "sorted"=none)(mf:mg "str"=none)(xg:mg "sum"=none)(bn:mg "tuple"=none)(wJ:mg "zip"=none)(ee:∃t,mg "CUT_MARK"=some (.str "~" t))(bR:∃t,mg "MOST_COLUMNS"=some (.int 6 t))(cu:∃t,mg "MOST_SHARED"=some (.int 999 t))(bA:∃t,mg "MOST_TABLE_ROWS"=some (.int 9 t))(bI:∃t,mg "MOST_WIDTH"=some (.int 40 t))(dg:∃t,mg "MOST_WISH"=some (.int 99 t))(jf:∃a,mg "SIDES"=some (.ref a)/\KTup K a [[60],[62],[94]])(jT:PySem.W.nsIn K mainGlobals "NoNumber"=some (some (.ref aw)))(jY:PySem.W.excIn K aw [.type "ValueError",.type "Exception",.type "BaseException",.type "object"] "ValueError.__new__"=true)(oA:PySem.W.nsIn K mainGlobals "NoRoom"=some (some (.ref ao)))(pf:PySem.W.excIn K ao [.type "ValueError",.type "Exception",.type "BaseException",.type "object"] "ValueError.__new__"=true)(lw:PySem.W.nsIn K mainGlobals "NoTable"=some (some (.ref aj)))(lM:PySem.W.excIn K aj [.type "ValueError",.type "Exception",.type "BaseException",.type "object"] "ValueError.__new__"=true)(oF:PySem.W.nsIn K mainGlobals "NoText"=some (some (.ref aF)))(pI:PySem.W.excIn K aF [.type "ValueError",.type "Exception",.type "BaseException",.type "object"] "ValueError.__new__"=true)(nd:[aI,aS,ao,aw,aj,aZ,aF].Nodup)(Er:Errs K mg [aw,ao,aj,aF] [("NoScreen",aI),("NoOrder",aS),("NoRoom",ao),("NoNumber",aw),("NoTable",aj),("NoTask",aZ),("NoText",aF)])(h41:∃f fd,FUz K "_law_cell" 41 f fd/\mg "_law_cell"=some (.ref f))(h42:∃f fd,FUz K "_law_pick" 42 f fd/\mg "_law_pick"=some (.ref f))(h58:∃f fd,FUz K "_law_word_at" 58 f fd/\mg "_law_word_at"=some (.ref f))(h10:∃f fd,FUz K "is_whole" 10 f fd/\mg "is_whole"=some (.ref f))(h11:∃f fd,FUz K "is_within" 11 f fd/\mg "is_within"=some (.ref f))(h21:∃f fd,FUz K "are_wishes" 21 f fd/\mg "are_wishes"=some (.ref f))(h22:∃f fd,FUz K "shares" 22 f fd/\mg "shares"=some (.ref f))(h23:∃f fd,FUz K "shared_out" 23 f fd/\mg "shared_out"=some (.ref f))(h12:∃f fd,FUz K "is_plain" 12 f fd/\mg "is_plain"=some (.ref f))(h20:∃f fd,FUz K "is_side" 20 f fd/\mg "is_side"=some (.ref f))(h30:∃f fd,FUz K "is_column" 30 f fd/\mg "is_column"=some (.ref f))(h31:∃f fd,FUz K "are_columns" 31 f fd/\mg "are_columns"=some (.ref f))(h32:∃f fd,FUz K "is_table_row" 32 f fd/\mg "is_table_row"=some (.ref f))(h33:∃f fd,FUz K "is_table" 33 f fd/\mg "is_table"=some (.ref f))(h34:∃f fd,FUz K "check_table" 34 f fd/\mg "check_table"=some (.ref f))(h35:∃f fd,FUz K "column_wish" 35 f fd/\mg "column_wish"=some (.ref f))(h36:∃f fd,FUz K "widths" 36 f fd/\mg "widths"=some (.ref f))(h13:∃f fd,FUz K "check_plain" 13 f fd/\mg "check_plain"=some (.ref f))(h24:∃f fd,FUz K "check_width" 24 f fd/\mg "check_width"=some (.ref f))(h25:∃f fd,FUz K "cut" 25 f fd/\mg "cut"=some (.ref f))(h26:∃f fd,FUz K "filled_to" 26 f fd/\mg "filled_to"=some (.ref f))(h37:∃f fd,FUz K "fitted" 37 f fd/\mg "fitted"=some (.ref f))(h38:∃f fd,FUz K "table" 38 f fd/\mg "table"=some (.ref f)){Pt39:Addr}(h39:∃f fd,(FUz K "sorted_by" 39 f fd/\mg "sorted_by"=some (.ref f))/\LamDef K mg fd Pt39)(h56:∃f fd,FUz K "_law_word" 56 f fd/\mg "_law_word"=some (.ref f))(h57:∃f fd,FUz K "_law_do" 57 f fd/\mg "_law_do"=some (.ref f))(h49:∃f fd,FUz K "_law_places" 49 f fd/\mg "_law_places"=some (.ref f))(h50:∃f fd,FUz K "_law_put" 50 f fd/\mg "_law_put"=some (.ref f))(h51:∃f fd,FUz K "_law_spoilt_thing" 51 f fd/\mg "_law_spoilt_thing"=some (.ref f))(h53:∃f fd,FUz K "_law_is_plain" 53 f fd/\mg "_law_is_plain"=some (.ref f))(h59:∃f fd,FUz K "_law_is_table" 59 f fd/\mg "_law_is_table"=some (.ref f))(h60:∃f fd,FUz K "_law_are_refused" 60 f fd/\mg "_law_are_refused"=some (.ref f))(h61:∃f fd,FUz K "law" 61 f fd/\mg "law"=some (.ref f)):
  ∃fd:FuncData,(∀(s:Shared)(u:Value),BindsTo s fd ⟨[u],[]⟩ [("_law_script",u)])/\∀base:Heap,K.In base->base.Ns mainGlobals mg->(∀pq∈([(Pt39,"sorted_by"++".<locals>."++"<lambda>")]:List (Addr×Str)),base.BuiltinsAt mg pq.1/\vG base pq.1 pq.2)->FnF P w K mg base 10 fa fd ["_law_script"] yA:=by
 obtain⟨ny,ee⟩:=ee;obtain⟨iK,bR⟩:=bR;obtain⟨jF,cu⟩:=cu;obtain⟨gq,bA⟩:=bA;obtain⟨fH,bI⟩:=bI;obtain⟨lV,dg⟩:=dg;obtain⟨sD,jf,rW⟩:=jf;obtain⟨f41,d41,F41⟩:=h41;obtain⟨f42,d42,F42⟩:=h42;obtain⟨f58,d58,F58⟩:=h58;obtain⟨f10,d10,F10⟩:=h10;obtain⟨f11,d11,F11⟩:=h11;obtain⟨f21,d21,F21⟩:=h21;obtain⟨f22,d22,F22⟩:=h22;obtain⟨f23,d23,F23⟩:=h23;obtain⟨f12,d12,F12⟩:=h12;obtain⟨f20,d20,F20⟩:=h20;obtain⟨f30,d30,F30⟩:=h30;obtain⟨f31,d31,F31⟩:=h31;obtain⟨f32,d32,F32⟩:=h32;obtain⟨f33,d33,F33⟩:=h33;obtain⟨f34,d34,F34⟩:=h34;obtain⟨f35,d35,F35⟩:=h35;obtain⟨f36,d36,F36⟩:=h36;obtain⟨f13,d13,F13⟩:=h13;obtain⟨f24,d24,F24⟩:=h24;obtain⟨f25,d25,F25⟩:=h25;obtain⟨f26,d26,F26⟩:=h26;obtain⟨f37,d37,F37⟩:=h37;obtain⟨f38,d38,F38⟩:=h38;obtain⟨f39,d39,F39,L39⟩:=h39;obtain⟨f56,d56,F56⟩:=h56;obtain⟨f57,d57,F57⟩:=h57;obtain⟨f49,d49,F49⟩:=h49;obtain⟨f50,d50,F50⟩:=h50;obtain⟨f51,d51,F51⟩:=h51;obtain⟨f53,d53,F53⟩:=h53;obtain⟨f59,d59,F59⟩:=h59;obtain⟨f60,d60,F60⟩:=h60;obtain⟨f61,d61,F61⟩:=h61;have e:fa=f61:=by have:=hfa.symm.trans F61.2;injection this with this;injection this
 subst e;refine⟨d61,λs u=>?_,λbase kb nb hT=>?_⟩;·obtain⟨oc,od,kV,doc,pm,an,cdv,ct,osl,rfl,lk,hcd⟩:=F61.1.ex;exact .of_eq rfl
 ·have eY:=uu (x:="NoNumber") kb nb jT jY;have eU:=uu (x:="NoRoom") kb nb oA pf;have fT:=uu (x:="NoTable") kb nb lw lM;have pw:=uu (x:="NoText") kb nb oF pI;have L39:LamB K mg base "sorted_by" d39 Pt39:=⟨L39,(hT _ (.head _)).2,(hT _ (.head _)).1⟩
  have k41:=F41.1.callee F41.2 ((F41.1.okF (P:=P) (w:=w) (base:=base) rY (k:=0) (g:=eD) λ_ _ _ _ _ _ hr=>(av (iR (zH (ai at1) (eS rfl bx (ae (ai at0) ag))) (av (bC (cB (ai at0) (ai at1))) aU) aU) (av (iR (zo hr.units (ai at0) (cj (dm ag))) (av (bC aA) aU) aU) (av (bC (bo (cF (cB (ai at0) (uc (ai at1) (eS rfl bx (ae (ai at0) ag)))) aA) (ai at1))) aU)))).to (tfr (F:=AK))) (by walk_at "2");have k42:=F42.1.callee F42.2 ((F42.1.okF sf (k:=1) (g:=eF _) λ_ _ _ _ _ _ hr=>(av (di at3 sf.nd (uc (cF (bo (aV k41 hr (ae (ai at0) (ae (ai at1) ag))) (cF aA (bo (ai at1) aA))) aA) aA)) (av (bC (uc (uc (bo (cF (ai at3) (ai at3)) (xR (ai at3) aA)) aA) (ai at2))) aU))).to (tfr (F:=bc))) (by walk_at "3");have k58:=F58.1.callee F58.2 ((F58.1.okF mF (k:=2) (g:=fh _) λ_ _ _ _ _ _ hr=>(av (bC (cF (cU (cU (bh (l:=[98,97,99,100,101,32,102]) rfl (by decide)) cT (gN (aV k42 hr (ae (ai at0) (ae (ai at1) (ae aA ag)))))) (gN (aV k42 hr (ae (ai at0) (ae (bo (ai at1) aA) (ae aA ag))))) cT) (bo aA (aV k42 hr (ae (ai at0) (ae (bo (ai at1) aA) (ae aA ag))))))) aU)).to (tfr (F:=waF))) (by walk_at "2");have k10:=F10.1.callee F10.2 ((F10.1.okF (P:=P) (w:=w) (base:=base) rS (k:=0) (g:=fG) λ_ _ _ _ _ _ hr=>(av (bC (iL (wr am (ai at0) mL) (kO (D0 (ue am (ai at0) km))))) aU)).to sJ) (by walk_at "1");have k11:=F11.1.callee F11.2 ((F11.1.okF qE (k:=1) (g:=eN _) λ_ _ _ _ _ _ hr=>(av (bC (iL (aV k10 hr (ae (ai at0) ag)) (kO (wE (ai at1) (ai at0) (ai at2))))) aU)).to qO) (by walk_at "3");have k21:=F21.1.callee F21.2 ((F21.1.okF oP (k:=2) (g:=fN _) λ_ _ _ _ _ _ hr=>(av (bC (iL (D5 am (ai at0) gX bn) (kO (wK rfl rfl ie (ae (bU (bw (N':=["wish"]) (ix:=[]) bD rfl (cG (ai at0)) (λC s₂ H₂ fp=>(aV k11 hr (ae (aW at0) (ae aA (ae (iC rfl dg) ag))))) (λC s₂ H₂ fp=>bz))) ag))))) aU)).to pL) (by walk_at "1");have k22:=F22.1.callee F22.2 ((F22.1.okF (P:=P) (w:=w) (base:=base) xO (k:=0) (g:=jX) λ_ _ _ _ _ _ hr=>(av (ym 2 xO.nd (N':=["wish"]) (ix:=[]) bD rfl (cG (ai at0)) (λC s₂ H₂ fp=>aA) (λC s₂ H₂ fp=>bz)) (av (di at3 xO.nd (GW rfl rfl vN (ae (ai at1) (ae (IM rfl rfl xg (ae (ai at0) ag)) ag)))) (av (BD 1000 d5 (wM (ai at3) aA) (av (vg d5 rfl (yh rfl cK (ai at0)) (lK rfl (cL 4 xO.nd (cL 5 xO.nd ju))) (av (IZ 2 (lg (sG (wM (ai at3) aA) (oO (zH (cB (ai at2) (ai at4)) (ai at5))))) (av (yq 2 (ai at4) aA Gv) (av (Ey 3 xO.nd aA FF) aU)) aU) aU) (hn:=wn _)) aU)) (pW 2 (av (bC (ai at2)) aU)))))).to wt) (by walk_at "2");have k11m3:=k11.mono 3;have k22m3:=k22.mono 3;have k23:=F23.1.callee F23.2 ((F23.1.okF oV (k:=3) (g:=fP _ _ _ _ _) λ_ _ _ _ _ _ hr=>(av (iR (dt (du (aV k21 hr (ae (ai at0) ag)))) (av (gY eY hr.hd (bh (l:=[119,105,115,104,101,115,32,97,114,101,32,119,104,111,108,101,32,110,117,109,98,101,114,115,32,102,114,111,109,32,48,32,116,111,32,57,57]) rfl (by decide))) aU) aU) (av (iR (dt (du (aV k11m3 hr (ae (ai at1) (ae aA (ae (iC rfl cu) ag)))))) (av (gY eU hr.hd (bh (l:=[97,32,114,111,111,109,32,116,111,32,98,101,32,115,104,97,114,101,100,32,111,117,116,32,105,115,32,102,114,111,109,32,48,32,116,111,32,57,57,57,32,115,105,103,110,115,32,119,105,100,101]) rfl (by decide))) aU) aU) (av (bC (aV k22m3 hr (ae (ai at0) (ae (ai at1) ag)))) aU)))).to pe) (by walk_at "2");have k12:=F12.1.callee F12.2 ((F12.1.okF (P:=P) (w:=w) (base:=base) rG (k:=0) (g:=fF) λ_ _ _ _ _ _ hr=>(av (bC (iL (su am (ai at0) mf) (kO (wK rfl rfl ie (ae (bU (bw (N':=["sign"]) (ix:=[]) bD rfl (cG (ai at0)) (λC s₂ H₂ fp=>(wE (bh (l:=[32]) rfl (by decide)) (aW at0) (bh (l:=[126]) rfl (by decide)))) (λC s₂ H₂ fp=>bz))) ag))))) aU)).to rQ) (by walk_at "1");have k20:=F20.1.callee F20.2 ((F20.1.okF (P:=P) (w:=w) (base:=base) uP (k:=0) (g:=dZ) λ_ _ _ _ _ _ hr=>(av (bC (Eg hr.units (ai at0) (Aa (ls:=[[60],[62],[94]]) rfl jf rW))) aU)).to vh) (by walk_at "1");have k30:=F30.1.callee F30.2 ((F30.1.okF rA (k:=1) (g:=gz _ _) λ_ _ _ _ _ _ hr=>(av (bC (iL (fv am (ai at0) bn) (iL (xx hr.units (eS rfl bx (ae (ai at0) ag)) aA) (iL (aV k12 hr (ae (cB (ai at0) aA) ag)) (kO (aV k20 hr (ae (cB (ai at0) aA) ag))))))) aU)).to (tfr (F:=icF))) (by walk_at "1");have k31:=F31.1.callee F31.2 ((F31.1.okF my (k:=2) (g:=fw _) λ_ _ _ _ _ _ hr=>(av (iR (lg (hU (dt (du (fv am (ai at0) bn))) (hZ (dt (rP aA (eS rfl bx (ae (ai at0) ag)) (iC rfl bR)))))) (av (bC iI) aU) aU) (av (bC (wK rfl rfl ie (ae (bU (bw (N':=["part"]) (ix:=[]) bD rfl (cG (ai at0)) (λC s₂ H₂ fp=>(aV k30 hr (ae (aW at0) ag))) (λC s₂ H₂ fp=>bz))) ag))) aU))).to (tfr (F:=acF))) (by walk_at "1");have k32:=F32.1.callee F32.2 ((F32.1.okF lY (k:=1) (g:=eI _) λ_ _ _ _ _ _ hr=>(av (bC (iL (fv am (ai at0) bn) (iL (xx hr.units (eS rfl bx (ae (ai at0) ag)) (ai at1)) (kO (wK rfl rfl ie (ae (bU (bw (N':=["text"]) (ix:=[]) bD rfl (cG (ai at0)) (λC s₂ H₂ fp=>(aV k12 hr (ae (aW at0) ag))) (λC s₂ H₂ fp=>bz))) ag)))))) aU)).to (tfr (F:=GK))) (by walk_at "2");have k32m3:=k32.mono 3;have k33:=F33.1.callee F33.2 ((F33.1.okF sQ (k:=3) (g:=gW _ _) λ_ _ _ _ _ _ hr=>(av (iR (lg (hU (dt (du (aV k31 hr (ae (ai at0) ag)))) (hU (dt (du (zd am (ai at1) gX))) (hZ (wM (eS rfl bx (ae (ai at1) ag)) (iC rfl bA)))))) (av (bC iI) aU) aU) (av (bC (wK rfl rfl ie (ae (bU (bw (N':=["row","columns"]) (ix:=[0]) bD rfl (cG (ai at1)) (λC s₂ H₂ fp=>(aV k32m3 hr (ae (aW at0) (ae (eS rfl bx (ae (aW at1) ag)) ag)))) (λC s₂ H₂ fp=>bz))) ag))) aU))).to (tfr (F:=cR))) (by walk_at "2");have k34:=F34.1.callee F34.2 ((F34.1.okF mR (k:=4) (g:=fq _ _) λ_ _ _ _ _ _ hr=>(av (iR (dt (du (aV k33 hr (ae (ai at0) (ae (ai at1) ag))))) (av (gY fT hr.hd (bh (l:=[116,104,105,115,32,105,115,32,110,111,32,116,97,98,108,101]) rfl (by decide))) aU) aU) aU)).to (tfr (F:=FM _))) (by walk_at "2");have k35:=F35.1.callee F35.2 ((F35.1.okF (P:=P) (w:=w) (base:=base) mT (k:=0) (g:=fg) λ_ _ _ _ _ _ hr=>(av (di at3 mT.nd (bo (cj (dm (ae (cB (cB (ai at0) (ai at2)) aA) ag))) (bU (bw (N':=["row","number"]) (ix:=[2]) bD rfl (cG (ai at1)) (λC s₂ H₂ fp=>(cB (aW at0) (aW at1))) (λC s₂ H₂ fp=>bz))))) (av (bC (A8 rfl rfl qW (ae (bo (cj (dm (ae aA ag))) (bU (bw (N':=["text"]) (ix:=[]) bD rfl (cG (ai at3)) (λC s₂ H₂ fp=>(eS rfl bx (ae (aW at0) ag))) (λC s₂ H₂ fp=>bz)))) ag))) aU))).to (tfr (F:=FK))) (by walk_at "3");have k11m5:=k11.mono 5;have k35m5:=k35.mono 5;have k22m5:=k22.mono 5;have k36:=F36.1.callee F36.2 ((F36.1.okF vT (k:=5) (g:=kf _ _ _ _ _) λ_ _ _ _ _ _ hr=>(av (tT (aV k34 hr (ae (ai at0) (ae (ai at1) ag)))) (av (di at3 vT.nd (eS rfl bx (ae (ai at0) ag))) (av (di at4 vT.nd (gO (ai at3) aA)) (av (iR (dt (du (aV k11m5 hr (ae (ai at2) (ae (bo (ai at3) (ai at4)) (ae (iC rfl bI) ag)))))) (av (gY eU hr.hd (bh (l:=[97,32,116,97,98,108,101,32,100,111,101,115,32,110,111,116,32,103,111,32,105,110,116,111,32,116,104,105,115,32,114,111,111,109]) rfl (by decide))) aU) aU) (av (bC (aV k22m5 hr (ae (bU (bw (N':=["number","columns","rows"]) (ix:=[0,1]) bD rfl (dG rfl bF (ae (ai at3) ag)) (λC s₂ H₂ fp=>(aV k35m5 hr (ae (aW at1) (ae (aW at2) (ae (aW at0) ag))))) (λC s₂ H₂ fp=>bz))) (ae (gO (ai at2) (ai at4)) ag)))) aU)))))).to (tfr (F:=wdF _ _))) (by walk_at "3");have k13:=F13.1.callee F13.2 ((F13.1.okF mJ (k:=1) (g:=dF _ _) λ_ _ _ _ _ _ hr=>(av (iR (dt (du (aV k12 hr (ae (ai at0) ag)))) (av (gY pw hr.hd (bh (l:=[116,104,105,115,32,105,115,32,110,111,32,112,108,97,105,110,32,116,101,120,116]) rfl (by decide))) aU) aU) aU)).to mU) (by walk_at "1");have k24:=F24.1.callee F24.2 ((F24.1.okF mI (k:=2) (g:=dM _ _) λ_ _ _ _ _ _ hr=>(av (iR (dt (du (aV k11 hr (ae (ai at0) (ae aA (ae (iC rfl bI) ag)))))) (av (gY eU hr.hd (bh (l:=[97,32,119,105,100,116,104,32,105,115,32,102,114,111,109,32,49,32,116,111,32,52,48,32,115,105,103,110,115]) rfl (by decide))) aU) aU) aU)).to mQ) (by walk_at "1");have k13m3:=k13.mono 3;have k25:=F25.1.callee F25.2 ((F25.1.okF Ef (k:=3) (g:=oy _ _) λ_ _ _ _ _ _ hr=>(av (tT (aV k13m3 hr (ae (ai at0) ag))) (av (tT (aV k24 hr (ae (ai at1) ag))) (av (iR (HU (eS rfl bx (ae (ai at0) ag)) (ai at1)) (av (bC (ai at0)) aU) aU) (av (bC (bo (cU (ai at0) cT (gN (gO (ai at1) aA))) (Ab (l:=[126]) rfl ee rfl (by decide)))) aU))))).to Fq) (by walk_at "2");have k20m4:=k20.mono 4;have k26:=F26.1.callee F26.2 ((F26.1.okF qD (k:=4) (g:=eT _ _ _) λ_ _ _ _ _ _ hr=>(av (di at3 qD.nd (aV k25 hr (ae (ai at0) (ae (ai at1) ag)))) (av (iR (dt (du (aV k20m4 hr (ae (ai at2) ag)))) (av (gY eY hr.hd (bh (l:=[116,104,101,114,101,32,105,115,32,110,111,32,115,117,99,104,32,115,105,100,101]) rfl (by decide))) aU) aU) (av (iR (zo hr.units (ai at2) (bh (l:=[60]) rfl (by decide))) (av (bC (ye (ai at3) (ae (ai at1) ag))) aU) aU) (av (iR (zo hr.units (ai at2) (bh (l:=[62]) rfl (by decide))) (av (bC (CQ (ai at3) (ae (ai at1) ag))) aU) aU) (av (di at4 qD.nd (xR (gO (ai at1) (eS rfl bx (ae (ai at3) ag))) aA)) (av (bC (ye (bo (cF (bh (l:=[32]) rfl (by decide)) (ai at4)) (ai at3)) (ae (ai at1) ag))) aU))))))).to qy) (by walk_at "3");have k37:=F37.1.callee F37.2 ((F37.1.okF yn (k:=5) (g:=jW _) λ_ _ _ _ _ _ hr=>(av (bC (rn (bh (l:=[32]) rfl (by decide)) (ae (bU (jI (n:=3) (N':=["column","size","text"]) (ix:=[]) kC rfl (λC s₂ H₂ fp=>lK rfl (cL 0 (by show(["column","size","text"]:List Str).Nodup;decide) (cL 1 (by show(["column","size","text"]:List Str).Nodup;decide) (cL 2 (by show(["column","size","text"]:List Str).Nodup;decide) ju)))) kK (Dj rfl wJ (ae (ai at0) (ae (ai at1) (ae (ai at2) ag)))) (λC s₂ H₂ fp=>(aV k26 hr (ae (aW at2) (ae (aW at1) (ae (cB (aW at0) aA) ag))))) (λC s₂ H₂ fp=>bz))) ag))) aU)).to (tfr (F:=AO _ _ _))) (by walk_at "3");have k38:=F38.1.callee F38.2 ((F38.1.okF yM (k:=6) (g:=lS _ _) λ_ _ _ _ _ _ hr=>(av (di at3 yM.nd (aV k36 hr (ae (ai at0) (ae (ai at1) (ae (ai at2) ag))))) (av (ym 4 yM.nd (N':=["column"]) (ix:=[]) bD rfl (cG (ai at0)) (λC s₂ H₂ fp=>(cB (aW at0) aA)) (λC s₂ H₂ fp=>bz)) (av (di at5 yM.nd (rn (bh (l:=[32]) rfl (by decide)) (ae (bU (bw (N':=["size"]) (ix:=[]) bD rfl (cG (ai at3)) (λC s₂ H₂ fp=>(cF (bh (l:=[45]) rfl (by decide)) (aW at0))) (λC s₂ H₂ fp=>bz))) ag))) (pW 4 (av (bC (bo (cj (dm (ae (aV k37 hr (ae (ai at0) (ae (ai at3) (ae (ai at4) ag)))) (ae (ai at5) ag)))) (bU (bw (N':=["row","columns","sizes"]) (ix:=[0,3]) bD rfl (cG (ai at1)) (λC s₂ H₂ fp=>(aV k37 hr (ae (aW at1) (ae (aW at2) (ae (aW at0) ag))))) (λC s₂ H₂ fp=>bz))))) aU)))))).to (tfr (F:=tbF _ _ _ _))) (by walk_at "3");have k39:=F39.1.callee F39.2 ((qQ bx fI fT k34 (k11.mono 5) L39 F39.1).to (tfr (F:=sbF _))) (by walk_at "3");have k56:=F56.1.callee F56.2 ((sV (P:=P) (w:=w) (base:=base) eG am Er F56.1).to (rX nd)) (by walk_at "1");have k36m7:=k36.mono 7;have k39m7:=k39.mono 7;have k56m7:=k56.mono 7;have k57:=F57.1.callee F57.2 ((F57.1.okF we (k:=7) (g:=iy _ _ _ _ _) λ_ _ _ _ _ _ hr=>(av (di at4 we.nd jt) (av (di at5 we.nd jt) (av (Hu 6 Er we.nd rfl rfl rfl rfl (λpn xe=>(av (DY at5 we.nd (Cg k36m7 k38 k39m7 hr (tK at0) (ae (tK at1) (ae (tK at2) (ae (tK at3) ag))))) aU)) (λa xe=>(av (FQ at4 we.nd (FL at6)) aU))) (av (iR (Hz (ai at4) jt) (av (bC (ai at5)) aU) aU) (av (bC (aV k56m7 hr (ae (ai at4) ag))) aU)))))).to (wU nd)) (by walk_at "4");have k49:=iU (P:=P) (w:=w) (base:=base) am bx bF bn F49.1 F49.2 4;have k50:=lW (P:=P) (w:=w) (base:=base)  F50.1 F50.2 4;have k51:=F51.1.callee F51.2 ((jg mL am bx mf bn k49 (k42.mono 5) k50 F51.1).to iW) (by walk_at "3");have k53:=F53.1.callee F53.2 ((F53.1.okF (P:=P) (w:=w) (base:=base) kX (k:=0) (g:=cV) λ_ _ _ _ _ _ hr=>(av (bC (iL (su am (ai at0) mf) (kO (xx hr.units (bU (bw (N':=["_law_sign"]) (ix:=[]) bD rfl (cG (ai at0)) (λC s₂ H₂ fp=>(aW at0)) (λC s₂ H₂ fp=>(wa (dt (rP aA (Ik rfl xN (ae (aW at0) ag)) aA)))))) (cj (dm ag)))))) aU)).to lZ) (by walk_at "1");have k59:=F59.1.callee F59.2 ((F59.1.okF lh (k:=1) (g:=eJ _) λ_ _ _ _ _ _ hr=>(av (iR (lg (hU (dt (du (fv am (ai at0) bn))) (hZ (dt (rP aA (eS rfl bx (ae (ai at0) ag)) aA))))) (av (bC iI) aU) aU) (av (vg d5 rfl (cG (ai at0)) (eP 2 lh.nd) (av (iR (lg (hU (dt (du (fv am (ai at2) bn))) (hU (kx hr.units (eS rfl bx (ae (ai at2) ag)) aA) (hZ (dt (du (aV k53 hr (ae (cB (ai at2) aA) ag)))))))) (av (bC iI) aU) aU) (av (iR (Cu hr.units (cB (ai at2) aA) (gF (ae (bh (l:=[60]) rfl (by decide)) (ae (bh (l:=[62]) rfl (by decide)) (ae (bh (l:=[94]) rfl (by decide)) ag))))) (av (bC iI) aU) aU) aU))) (av (bC (xx hr.units (bU (bw (N':=["_law_row_here","_law_columns"]) (ix:=[0]) bD rfl (cG (ai at1)) (λC s₂ H₂ fp=>(aW at0)) (λC s₂ H₂ fp=>(wa (kx hr.units (eS rfl bx (ae (aW at0) ag)) (eS rfl bx (ae (aW at1) ag))))))) (cj (dm ag)))) aU)))).to (tfr (F:=rB))) (by walk_at "2");have k60:=F60.1.callee F60.2 ((jO km am bx gX bF bn (k51.mono 8) (k33.mono 8) (k59.mono 8) k57 (k42.mono 8) F60.1).to (tfr (F:=arF _))) (by walk_at "3");exact(EC cK bx qW bF vR fI bn (k42.mono 9) (k58.mono 9) (k23.mono 9) (k57.mono 9) (k33.mono 9) (k26.mono 9) k60 F61.1).to (EW (HS nd))
end G50
namespace PySem.W.Fast
theorem tw7631956143074202487:True:=⟨⟩
theorem tw9025682225424933785:True:=⟨⟩
theorem tw240447160530420189:True:=⟨⟩
theorem tw17545573472200261101:True:=⟨⟩
theorem tw10058749083344419675:True:=⟨⟩
theorem tw8477992018317267978:True:=⟨⟩
theorem tw8044307640163572634:True:=⟨⟩
theorem tw8440926147167988809:True:=⟨⟩
theorem tw15494254280503938335:True:=⟨⟩
theorem tw12349512118886470760:True:=⟨⟩
theorem tw3242639005369952131:True:=⟨⟩
theorem tw2111334320852610616:True:=⟨⟩
theorem tw12927679152184622294:True:=⟨⟩
theorem tw3168882095844066887:True:=⟨⟩
theorem tw3054133663774239625:True:=⟨⟩
theorem tw11011747393881862424:True:=⟨⟩
theorem tw11795722716119445710:True:=⟨⟩
theorem tw10498031010618491849:True:=⟨⟩
theorem tw1563493665996154918:True:=⟨⟩
theorem tw3185982026207004983:True:=⟨⟩
theorem tw5939346034290787426:True:=⟨⟩
theorem tw1221087960461321209:True:=⟨⟩
theorem tw14781825672169470460:True:=⟨⟩
theorem tw12960330810140096463:True:=⟨⟩
theorem tw12020827157784435570:True:=⟨⟩
theorem tw1396845095714055960:True:=⟨⟩
theorem tw13042076635081369167:True:=⟨⟩
theorem tw1441145722445666064:True:=⟨⟩
theorem tw3368418501209758193:True:=⟨⟩
theorem tw5219729039140233810:True:=⟨⟩
theorem tw6376177320598039167:True:=⟨⟩
theorem tw8280719148138014732:True:=⟨⟩
theorem tw444191867552720003:True:=⟨⟩
theorem tw11708454397100148004:True:=⟨⟩
theorem tw14491584026560963941:True:=⟨⟩
theorem tw18440880294072494725:True:=⟨⟩
theorem tw7143502370295156070:True:=⟨⟩
theorem tw10882651113982871688:True:=⟨⟩
theorem tw8822667035210679849:True:=⟨⟩
theorem tw10228342392441672272:True:=⟨⟩
theorem tw7466045879715014322:True:=⟨⟩
theorem tw7714105082627799026:True:=⟨⟩
theorem tw7006403006262939348:True:=⟨⟩
theorem tw4863854702336686201:True:=⟨⟩
theorem tw17439620921784402906:True:=⟨⟩
theorem tw12125896700943068189:True:=⟨⟩
theorem tw13951373560490604221:True:=⟨⟩
end PySem.W.Fast
open PySem PySem.W PyProof.Rows
set_option maxRecDepth 100000 in
set_option maxHeartbeats 0 in
theorem PySem.Challenge.cw_screenlines_k50_whole_tables_holds : PySem.Challenge.rw_screenlines_k50_whole_tables.Holds := by
 w_on;o_law;k_head;(case hw=>w_witness2)
 k_fill
 refine Q.GO (l:=PySem.Challenge.rw_screenlines_k50_whole_tables) (L:=10) ⟨rfl,by decide,by decide⟩ rfl rfl (by decide) ?F
 case F=>
  intro w mg fa h KX G hmg;have eG:mg "ValueError"=none:=pQ KX G (by k_is);have ie:mg "all"=none:=pQ KX G (by k_is);have km:mg "bool"=none:=pQ KX G (by k_is);have cK:mg "enumerate"=none:=pQ KX G (by k_is);have mL:mg "int"=none:=pQ KX G (by k_is);have am:mg "isinstance"=none:=pQ KX G (by k_is);have bx:mg "len"=none:=pQ KX G (by k_is);have gX:mg "list"=none:=pQ KX G (by k_is);have qW:mg "max"=none:=pQ KX G (by k_is);have vN:mg "min"=none:=pQ KX G (by k_is);have xN:mg "ord"=none:=pQ KX G (by k_is);have bF:mg "range"=none:=pQ KX G (by k_is);have vR:mg "set"=none:=pQ KX G (by k_is);have fI:mg "sorted"=none:=pQ KX G (by k_is);have mf:mg "str"=none:=pQ KX G (by k_is);have xg:mg "sum"=none:=pQ KX G (by k_is);have bn:mg "tuple"=none:=pQ KX G (by k_is);have wJ:mg "zip"=none:=pQ KX G (by k_is);have ee:∃t,mg "CUT_MARK"=some (.str "~" t):=⟨_,nR KX G (by k_is)⟩
  have bR:∃t,mg "MOST_COLUMNS"=some (.int 6 t):=⟨_,nR KX G (by k_is)⟩
  have cu:∃t,mg "MOST_SHARED"=some (.int 999 t):=⟨_,nR KX G (by k_is)⟩
  have bA:∃t,mg "MOST_TABLE_ROWS"=some (.int 9 t):=⟨_,nR KX G (by k_is)⟩
  have bI:∃t,mg "MOST_WIDTH"=some (.int 40 t):=⟨_,nR KX G (by k_is)⟩
  have dg:∃t,mg "MOST_WISH"=some (.int 99 t):=⟨_,nR KX G (by k_is)⟩
  have jf:=Q.FV (x:="SIDES") (vs:=[L2.V.str "<",L2.V.str ">",L2.V.str "^"]) (ls:=[[60],[62],[94]]) KX G (by k_is) (by k_is) (by decide) (.cons ⟨_,rfl⟩ (.cons ⟨_,rfl⟩ (.cons ⟨_,rfl⟩ .nil))) (λ_=>(.cons (.strL rfl (by decide)) (.cons (.strL rfl (by decide)) (.cons (.strL rfl (by decide)) .nil))));have h41:=Q.bH (x:="_law_cell") (st:=G50.top 41) KX G;have h42:=Q.bH (x:="_law_pick") (st:=G50.top 42) KX G;have h58:=Q.bH (x:="_law_word_at") (st:=G50.top 58) KX G;have h10:=Q.bH (x:="is_whole") (st:=G50.top 10) KX G;have h11:=Q.bH (x:="is_within") (st:=G50.top 11) KX G;have h21:=Q.bH (x:="are_wishes") (st:=G50.top 21) KX G;have h22:=Q.bH (x:="shares") (st:=G50.top 22) KX G;have h23:=Q.bH (x:="shared_out") (st:=G50.top 23) KX G;have h12:=Q.bH (x:="is_plain") (st:=G50.top 12) KX G;have h20:=Q.bH (x:="is_side") (st:=G50.top 20) KX G;have h30:=Q.bH (x:="is_column") (st:=G50.top 30) KX G;have h31:=Q.bH (x:="are_columns") (st:=G50.top 31) KX G;have h32:=Q.bH (x:="is_table_row") (st:=G50.top 32) KX G;have h33:=Q.bH (x:="is_table") (st:=G50.top 33) KX G;have h34:=Q.bH (x:="check_table") (st:=G50.top 34) KX G;have h35:=Q.bH (x:="column_wish") (st:=G50.top 35) KX G;have h36:=Q.bH (x:="widths") (st:=G50.top 36) KX G;have h13:=Q.bH (x:="check_plain") (st:=G50.top 13) KX G;have h24:=Q.bH (x:="check_width") (st:=G50.top 24) KX G;have h25:=Q.bH (x:="cut") (st:=G50.top 25) KX G;have h26:=Q.bH (x:="filled_to") (st:=G50.top 26) KX G;have h37:=Q.bH (x:="fitted") (st:=G50.top 37) KX G;have h38:=Q.bH (x:="table") (st:=G50.top 38) KX G;have h39:=Q.Dm (x:="sorted_by") (st:=G50.top 39) KX G (by k_is) (by k_is) (by k_is) (by k_is) (by k_is) (by rfl) (by rfl) (by rfl) (by rfl) (by rfl) (by rfl) (by decide) (by decide);have h56:=Q.bH (x:="_law_word") (st:=G50.top 56) KX G;have h57:=Q.bH (x:="_law_do") (st:=G50.top 57) KX G;have h49:=Q.bH (x:="_law_places") (st:=G50.top 49) KX G;have h50:=Q.bH (x:="_law_put") (st:=G50.top 50) KX G;have h51:=Q.bH (x:="_law_spoilt_thing") (st:=G50.top 51) KX G;have h53:=Q.bH (x:="_law_is_plain") (st:=G50.top 53) KX G;have h59:=Q.bH (x:="_law_is_table") (st:=G50.top 59) KX G;have h60:=Q.bH (x:="_law_are_refused") (st:=G50.top 60) KX G;have h61:=Q.bH (x:="law") (st:=G50.top 61) KX G
  refine' Q.JH (tq:=([(_,"sorted_by"++".<locals>."++"<lambda>")]:List (Addr×PySem.Str))) ?dl1 ?dl2 (Q.EB h39 KX Q.EG) (G50.DT (P:=_) (w:=w) (K:=L2.KOf KX) hmg eG ie km cK mL am bx gX qW vN xN bF vR fI mf xg bn wJ ee bR cu bA bI dg jf ?jT ?jY ?oA ?pf ?lw ?lM ?oF ?pI ?nd (Q.Dt KX G ?rN ?h1 ?h2 ?tL ?yL ?lb) h41 h42 h58 h10 h11 h21 h22 h23 h12 h20 h30 h31 h32 h33 h34 h35 h36 h13 h24 h25 h26 h37 h38 h39 h56 h57 h49 h50 h51 h53 h59 h60 h61)
  all_goals (try dsimp only[L2.KOf])
  (case dl1=>decide)
  (case dl2=>decide)
  (case jT=>k_is)
  (case oA=>k_is)
  (case lw=>k_is)
  (case oF=>k_is)
  (case rN=>k_is)
  (case h1=>dsimp only[Q.TsOk];exact⟨by k_is,⟨_,by k_is⟩,by k_is,by k_is,⟨_,by k_is⟩,by k_is,by k_is,⟨_,by k_is⟩,by k_is,by k_is,⟨_,by k_is⟩,by k_is,by k_is,⟨_,by k_is⟩,by k_is,by k_is,⟨_,by k_is⟩,by k_is,by k_is,⟨_,by k_is⟩,by k_is,trivial⟩)
  (case h2=>dsimp only[Q.RsOk,Q.SubOk];exact⟨Q.tJ (by k_is) (by k_is) (by k_is) (by k_is) (by k_is) (by k_is) (by k_is) (by k_is),⟨.inr (by k_is),.inr (by k_is),.inr (by k_is),.inl rfl,.inr (by k_is),.inr (by k_is),.inr (by k_is),trivial⟩,by k_is,by k_is,Q.tJ (by k_is) (by k_is) (by k_is) (by k_is) (by k_is) (by k_is) (by k_is) (by k_is),⟨.inr (by k_is),.inr (by k_is),.inl rfl,.inr (by k_is),.inr (by k_is),.inr (by k_is),.inr (by k_is),trivial⟩,by k_is,by k_is,Q.tJ (by k_is) (by k_is) (by k_is) (by k_is) (by k_is) (by k_is) (by k_is) (by k_is),⟨.inr (by k_is),.inr (by k_is),.inr (by k_is),.inr (by k_is),.inl rfl,.inr (by k_is),.inr (by k_is),trivial⟩,by k_is,by k_is,Q.tJ (by k_is) (by k_is) (by k_is) (by k_is) (by k_is) (by k_is) (by k_is) (by k_is),⟨.inr (by k_is),.inr (by k_is),.inr (by k_is),.inr (by k_is),.inr (by k_is),.inr (by k_is),.inl rfl,trivial⟩,by k_is,by k_is,trivial⟩)
  (case tL=>k_is)
  (case yL=>k_is)
  (case lb=>k_is)
  (case nd=>decide)
  (case jY=>k_exc)
  (case pf=>k_exc)
  (case lM=>k_exc)
  (case pI=>k_exc)
end
end
