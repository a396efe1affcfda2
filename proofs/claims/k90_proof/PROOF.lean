import PyProof.Rows.All
import Wide.All
import OpenK.AllK
import Wide.FinOn
import Lean
import PyProof.EqAt
import PyProof.EqKinds
import PyProof.TupleCall
import PyProof.NeKinds
import KE.KDictOf
import PyProof.Rows.TupDisplay
import PyProof.DictItems
import KE.KPairComp
import PyProof.Draws
import KE.KTupSum
import KE.KIntText
import PyProof.Rows.Range3
import PyProof.Rows.FStr
import PyProof.StrCalls2
import PyProof.StrLawsTight
import PyProof.StrLawsIn
import PyProof.StrCalls
import KE.KLam
import KE.KMinKey
import PyProof.Rows.RuleN_abs
import PyProof.Rows.StrCut
import PySem.Challenge.RW_screenlines_k90_whole_bounds
section
open PySem PySem.Spec PyProof.Rows
def z9:=@wpAny_bind
def zh:=@wpAny_pure
def zy:=@Heap.lt_size
def zE:=@Nat.le_refl
def zT:=@Heap.get?_push_of_some
def y9:=@List.mem_cons
def yT:=@wpAny_mono
def x9:=@Ne.symm
def xm:=@List.size_toArray
def xz:=@Option.some.inj
def xD:=@Nat.ne_of_lt
def xG:=@Heap.get?_push_size
def xS:=@Nat.le_trans
def w8:=@List.mem_nil_iff
def w9:=@or_false
def wo:=@PySem.W.mg_of
def wO:=@if_true
def wR:=@List.lookup_cons
def wT:=@Bool.false_ne_true
def wV:=@List.length_cons
def v4:=@wpAny_field
def v8:=@Nat.lt_of_lt_of_le
def v9:=@List.mem_cons_of_mem
def vg:=@Heap.size_push
def vF:=@decide_eq_false
def u6:=@List.getElem?_eq_some_iff
def uc:=@List.length_map
def ue:=@List.getElem?_map
def uF:=@List.getD_eq_getElem?_getD
def uS:=@List.mem_cons_self
def uV:=@List.getElem?_set_self
def uY:=@decide_eq_true
def t5:=@List.getElem?_eq_getElem
def t6:=@congrArg
def t7:=@PySem.W.mg_none_of
def t8:=@List.getElem?_set_ne
def t9:=@wpAny_newObj_type
def tI:=@List.map_cons
def sg:=@List.length_append
def sR:=@Int.toNat_natCast
def sT:=@if_false
def sZ:=@call_meets
def r0:=@wpAny_holding
def rR:=@List.append_nil
def q9:=@List.mem_append_right
def qb:=@beq_iff_eq
def qd:=@Nat.zero_le
def qj:=@Option.map_some
def qo:=@List.nodup_cons
def qp:=@Nat.not_lt
def qr:=@wpAny_seqItems
def qt:=@Nat.lt_irrefl
def qE:=@wpAny_truthy_bool
def qK:=@IsTup.new
def qM:=@Nat.ne_of_gt
def qP:=@List.length_replicate
def qQ:=@wpAny_callSpecial?_slot
def p0:=@wpAny_call_entry
def p6:=@Bool.and_eq_true
def p7:=@List.replicate_succ
def p8:=@List.all_eq_true
def p9:=@lookup_relabel_local
def pz:=@Int.toNat_of_nonneg
def pG:=@PassesOwn.leaving
def pP:=@Nat.lt_succ_self
def o6:=@List.getElem?_append_left
def o8:=@codeAny_mono
def o9:=@List.mem_map
def oR:=@PySem.F.plainAttrs_str
def n0:=@F.slot_tuple_iterator_next
def n6:=@wpAny_rule
def n8:=@wpAny_passesOwn
def n9:=@List.getElem?_append_right
def nr:=@List.flatten_cons
def nE:=@wpAny_call
def mh:=@PySem.W.of_hideAll
def mP:=@List.mem_append_left
def l5:=@wpAny_standAt
def l6:=@List.length_take
def l7:=@PySem.mem_of_lookup
def l8:=@List.getElem?_replicate
def l9:=@eq_of_beq
def lp:=@wpAny_attempt
def lE:=@wpAny_onRaise
def lJ:=@Obj.data_mapFields
def lT:=@decide_eq_true_eq
def lU:=@beq_eq_false_iff_ne
def lV:=@Array.length_toList
def k6:=@List.mem_filterMap
def k7:=@sizeLine_eq
def k8:=@wpAny_Call_Name_kw
def k9:=@List.length_drop
def j0:=@tupleItemsOf_
def j1:=@typeIs_str
def j2:=@Heap.get?_update_self
def j3:=@typeIs_int
def j4:=@List.append_assoc
def j5:=@List.foldl_cons
def j6:=@List.nil_append
def j7:=@List.drop_zero
def j8:=@Bool.false_eq_true
def j9:=@Nat.le_succ
def i4:=@Nat.lt_succ_of_lt
def i5:=@List.drop_eq_getElem_cons
def i6:=@wpAny_setField
def i7:=@Heap.SameBut.update
def i8:=@wpAny_setField_rec
def i9:=@List.length_nil
def io:=@wpAny_execs_nil
def iF:=@wpAny_bindName
def iN:=@List.of_mem_zip
def iO:=@List.mem_of_getElem?
def fB:=@wpAny_typeOf
def eQ:=@F.slot_int_rmul
def d0:=@Nat.mul_comm
def d3:=@wpAny_getItem_str_slice
def d4:=@post_val_or_str
def d5:=@Txt.slice_le
def d6:=@wpAny_pyIter_list
def d7:=@wpAny_pyIter_tuple
def d8:=@List.getElem?_set
def d9:=@List.drop_length
def dO:=@eval_ListComp
def c7:=@wpAny_comprehension_free
def c8:=@PySem.F.plainAttrs_list
def b7:=@PySem.W.callWith_K
def b8:=@PySem.W.hideAll_get
def b9:=@of_decide_eq_true
def bY:=@wpAny_of_eq
def aT:=@beq_self_eq_true
def Z0:=@List.mem_singleton
def Z1:=@List.sum_cons
def Z2:=@List.map_map
def Z4:=@F.entry_tuple_iterator_next
def Z5:=@F.args_tuple_iterator_next_1
def Z6:=@wpAny_pyIter_enum
def Z7:=@wpAny_pyIter_zip
def Z8:=@Int.eq_ofNat_of_zero_le
def Z9:=@F.slot_zip_next
def Za:=@StrLaws.subAt_one
def Zb:=@List.filterMap_cons
def Zc:=@assignInOrder_cons
def Zd:=@noFill_tuple_add
def Ze:=@Heap.get?_update_other
def Zf:=@List.length_set
def Zg:=@List.getElem_toArray
def Zh:=@List.map_append
def Zi:=@List.map_congr_left
def Zj:=@List.toList_toArray
def Zk:=@List.getElem?_range
def Zl:=@List.getElem?_eq_none
def Zm:=@List.forIn_cons
def Zn:=@wpAny_newFunctionEnv
def Zo:=@codeAny_compStart_list
def Zp:=@PySem.W.funFrames_hide
def Zq:=@wpAny_noteFrame_againW
def Zr:=@wpAny_ite_false
def Zs:=@F.slot_tuple_mul
def Zt:=@F.entry_tuple_mul
def Zu:=@F.args_tuple_mul_2
def Zv:=@List.getElem?_cons_succ
def Zw:=@wpAny_loadPart'
def Zx:=@Obj.isFreed_of_fields
def Zy:=@wpAny_nextOf_list_end
def Zz:=@Nat.le_antisymm
def ZA:=@Nat.le_of_lt_succ
def ZB:=@PyProof.Rows.callWith_type1
def ZC:=@List.cons_append
def ZD:=@F.slot_str_split
def ZE:=@F.entry_str_split
def ZF:=@F.args_str_split_2
def ZG:=@decide_eq_false_iff_not
def ZH:=@Calls.Name_function_global
def ZI:=@PyProof.Rows.slot_tuple_getitem
def ZJ:=@List.eq_nil_of_length_eq_zero
def ZL:=@List.dropWhile_cons_of_pos
end
set_option Elab.async false
set_option linter.all false
set_option maxRecDepth 100000
noncomputable section
variable{us its:List Value}{a it C f l L C7 C3 C1 aH ao ah af aA aU am C2 aL:Addr}{P q:Program}{h h':Heap}{t' i j c k n:Nat}{ch fp rs:List Addr}{E:Value->Shared->Prop}{s' s:Shared}{pins:List (Addr×Obj)}{y qual y0 y1:Str}{es ifs:List Expr}{tg iter tgt:Expr}{py p:Pos}{body:List Stmt}{mA:Str->Option Value}{m fz:Bool}{fd:FuncData}{ps loose N':List Str}{scope:Scope}{cdv oc:Value}{an od:Option Addr}{osl:Array (Option Value)}{ws ix is:List Nat}{st:Stmt}{ts:List (Str×Addr)}
namespace L2
open PySem PySem.Spec PyProof.Rows
abbrev Key:=Sum Int Str
def DG:Key->Value->Bool
 |.inl k,v=>Value.isInt k v
 |.inr x,v=>Value.isStrOf x v
def Pz(w:World):Key->Int
 |.inl k=>hashInt k
 |.inr x=>hashStr w x
def de:∀{k:Key}{v:Value},DG k v=true->(∃i t,k=Sum.inl i/\v=Value.int i t)\/(∃x t,k=Sum.inr x/\v=Value.str x t)
 |.inl i,v,h=>by obtain⟨t,e⟩:=Value.isInt_shape (k:=i) (v:=v) h;exact .inl ⟨i,t,rfl,e⟩
 |.inr x,v,h=>by obtain⟨t,e⟩:=Value.isStrOf_shape (x:=x) (v:=v) h;exact .inr ⟨x,t,rfl,e⟩
def BO(i:Int)(t:Tok):DG (.inl i) (.int i t)=true:=by simp[DG,Value.isInt]
def Me(a b:Int):decide ((Sum.inl a:Key)=Sum.inl b)=(a==b):=by
 by_cases e:a=b;·subst e;simp
 ·have h : ¬ (Sum.inl a:Key)=Sum.inl b:=λq=>e (Sum.inl.inj q);rw[vF h];exact(lU.mpr e).symm
def Jr(a b:Str):decide ((Sum.inr a:Key)=Sum.inr b)=decide (a=b):=by
 by_cases e:a=b;·subst e;simp
 ·have h : ¬ (Sum.inr a:Key)=Sum.inr b:=λq=>e (Sum.inr.inj q);rw[vF h,vF e]
def Ms(a:Int)(b:Str):decide ((Sum.inl a:Key)=Sum.inr b)=false:=vF (λq=>nomatch q)
def KB(a:Str)(b:Int):decide ((Sum.inr a:Key)=Sum.inl b)=false:=vF (λq=>nomatch q)
noncomputable def sG(prog:Program)(w:World):PySem.KeyKind prog w Key where
 is:=DG
 hash:=Pz w
 inj:=λv a b ha hb=>by
  rcases de ha with⟨i,t,rfl,rfl⟩|⟨x,t,rfl,rfl⟩
  ·rcases de hb with⟨j,u,rfl,e⟩|⟨y,u,rfl,e⟩;·injection e with e1 _;rw[e1]
   ·exact nomatch e
  ·rcases de hb with⟨j,u,rfl,e⟩|⟨y,u,rfl,e⟩;·exact nomatch e
   ·injection e with e1 _;rw[e1]
 byValue:=λk v h=>by rcases de h with⟨i,t,rfl,rfl⟩|⟨x,t,rfl,rfl⟩ <;> rfl
 pyHash:=λhv h=>by
  rcases de hv with⟨i,t,rfl,rfl⟩|⟨x,t,rfl,rfl⟩;·exact wpAny_pyHash_int h
  ·exact wpAny_pyHash_str h
 eqBool:=λhu hv h=>by
  rcases de hu with⟨i,t,rfl,rfl⟩|⟨x,t,rfl,rfl⟩
  ·rcases de hv with⟨j,u,rfl,rfl⟩|⟨y,u,rfl,rfl⟩;·rw[Me]at h;exact wpAny_eqBool_int h
   ·rw[Ms]at h;exact SeqAt.EqAt.int_str i t y u _ _ _ _ h
  ·rcases de hv with⟨j,u,rfl,rfl⟩|⟨y,u,rfl,rfl⟩;·rw[KB]at h;exact SeqAt.EqAt.str_int x t j u _ _ _ _ h
   ·rw[Jr]at h;exact wpAny_eqBool_str h
 «strs»:=λk x t v h=>by
  rcases de h with⟨i,u,rfl,e⟩|⟨y,u,rfl,e⟩;·exact nomatch e
  ·injection e with e1 _;subst e1;cases v <;> rfl
def xi(prog:Program)(w:World)(i:Int)(t:Tok):(sG prog w).is (.inl i) (.int i t)=true:=BO i t
inductive V where
 |non|bl (b:Bool)|int (i:Int)|str (x:Str)|byt (b:Array UInt8)|flt (b:UInt64)|ref (a:Addr)|ty (n:String)
 deriving DecidableEq
noncomputable def RelV:V->Value->Prop
 |.non,u=>u=Value.none
 |.bl b,u=>u=Value.bool b
 |.int i,u=>∃t,u=Value.int i t
 |.str x,u=>∃t,u=Value.str x t
 |.byt b,u=>∃t,u=Value.bytes b t
 |.flt b,u=>∃t,u=Value.float b t
 |.ref a,u=>u=Value.ref a
 |.ty n,u=>u=Value.type n
abbrev Vals:List V->List Value->Prop:=Paired RelV
def Vals.length{xs:List V}(r:Vals xs us):xs.length=us.length:=Paired.length r
theorem Vals.get:∀{xs:List V}{us:List Value}{i:Nat}{x:V},Vals xs us->xs[i]?=some x->∃u,us[i]?=some u/\RelV x u
 |_,_,_,_,.nil,e=>by simp at e
 |_,_,0,_,.cons r _,e=>by simp at e;subst e;exact⟨_,rfl,r⟩
 |_,_,i+1,x,.cons _ t,e=>by obtain⟨u,h1,h2⟩:=Vals.get (i:=i) (x:=x) t (by simpa using e);exact⟨u,by simpa using h1,h2⟩
theorem Vals.set{x:V}{u:Value}(r:RelV x u):∀{xs:List V}{us:List Value}(i:Nat),Vals xs us->Vals (xs.set i x) (us.set i u)
 |_,_,_,.nil=>.nil
 |_,_,0,.cons _ t=>.cons r t
 |_,_,i+1,.cons q t=>.cons q (Vals.set r i t)
theorem Vals.append:∀{xs ys:List V}{us ws:List Value},Vals xs us->Vals ys ws->Vals (xs++ys) (us++ws)
 |_,_,_,_,.nil,s=>s
 |_,_,_,_,.cons r t,s=>.cons r (Vals.append t s)
theorem Vals.take:∀{xs:List V}{us:List Value}(n:Nat),Vals xs us->Vals (xs.take n) (us.take n)
 |_,_,0,_=>.nil
 |_,_,_+1,.nil=>.nil
 |_,_,n+1,.cons r t=>.cons r (Vals.take n t)
theorem Vals.drop:∀{xs:List V}{us:List Value}(n:Nat),Vals xs us->Vals (xs.drop n) (us.drop n)
 |_,_,0,r=>r
 |_,_,_+1,.nil=>.nil
 |_,_,n+1,.cons _ t=>Vals.drop n t
def RelO:Option V->Option Value->Prop
 |some v,some u=>RelV v u
 |none,none=>True
 |_,_=>False
def KV{κ:Type}:List (κ×V)->List (κ×Value)->Prop:=Paired λ(p:κ×V) (q:κ×Value)=>p.1=q.1/\RelV p.2 q.2
def kV:Key->V
 |.inl i=>.int i
 |.inr x=>.str x
inductive HO where
  |lst (xs : List V)
  |tup (xs : List V)
  |dK (kvs : List (Key × V))|dT (kvs : List (List Key × V))
  |set (S : Int -> Bool) (n : Nat)
  |ins (C dx : Addr) (fs : List (Str × V))
  |own (x : Addr)
  |xd (fs : List (Str × V))
  |met (f x : Addr)
  |rng (lo hi : Int)
  |frz (o : Obj) (u : HO)
  |tbl (ps : Array Value)
  |ext (φ : Heap -> Prop)

abbrev Hp:=Addr->Option HO
def upd(H:Hp)(a:Addr)(o:HO):Hp:=λb=>if b=a then some o else H b
def aV{H:Hp}{o:HO}:upd H a o a=some o:=by unfold upd;rw[if_pos rfl]
def aF{H:Hp}{b:Addr}{o:HO}(h:b≠a):upd H a o b=H b:=by unfold upd;rw[if_neg h]
def aJ{H:Hp}{b:Addr}{o:HO}(h:H a=some o)(h':H b=none):a≠b:=by intro e;subst e;rw[h]at h';cases h'
def KR(ps:Array Value):Str:=match ps.toList with
 |.str q _::_=>q
 |_=>Str.empty
section
variable(P:Program)(w:World)
noncomputable def ObjOk(H:Hp)(h:Heap)(a:Addr):HO->Prop
 |.lst xs=>xs.length<=sizeLine/\∃(its:List Value)(n:Nat),Vals xs its/\h.get? a=some { cls:=.type "list",data:=.seq its.toArray n }
 |.tup xs=>xs.length<=sizeLine/\∃its:List Value,Vals xs its/\IsTup h a its.toArray
 |.dK kvs=>kvs.length<=sizeLine/\(a==sysModules)=false/\∃vs,KV kvs vs/\h.DictOf (sG P w) a vs
 |.dT kvs=>kvs.length<=sizeLine/\(a==sysModules)=false/\∃xs:List (List Key×Addr×Value),
   Paired (λ(p:List Key×V) (q:List Key×Addr×Value)=>p.1=q.1/\H q.2.1=some (.tup (p.1.map kV))/\RelV p.2 q.2.2) kvs xs/\
   ∃o es ep,h.get? a=some o/\o.ExactDict/\o.data=.dict es ep/\es.toList=xs.map (entryOfKey (tupleKind (sG P w)))/\(xs.map (·.1)).Nodup
 |.set S n=>h.SetOf (intKind P w) a S n
 |.ins C dx fs=>H dx=some (.own a)/\fs.length<=1000/\dx≠a/\h.get? a=some (W.instObj C dx)/\
   ∃mA,h.Ns1 dx mA/\(∀f,RelO (fs.lookup f) (mA f))/\PySem.Within mA (fs.map (·.1))
 |.own _=>∃o,h.get? a=some o
 |.xd fs=>∃mA,h.Ns1 a mA/\∀f,RelO (fs.lookup f) (mA f)
 |.rng lo hi=>∃t u v,h.get? a=some { cls:=.type "range",data:=.fields #[.int lo t,.int hi u,.int 1 v] }
 |.frz o u=>h.get? a=some o/\ObjOk H h a u
 |.tbl ps=>∃qs:Array Value,h.get? a=some { cls:=.none,data:=.fields qs }/\TriplesOk qs.toList/\∀(pos:Pos)(cv:Value),codeAmong pos qs.toList=some cv->∃c o vs t,cv=.ref c/\H c=some (.frz o (.own a))/\o.data=.fields vs/\vs[1]?=some (.str (KR ps) t)
 |.met f x=>h.get? a=some (W.methodObj (.ref f) (.ref x))
 |.ext φ=>φ h/\(∃o,h.get? a=some o)/\∀h1 h2:Heap,φ h1->(∀o,h1.get? a=some o->h2.get? a=some o)->φ h2
def HOk(H:Hp)(h:Heap):Prop:=∀a o,H a=some o->ObjOk P w H h a o
end
section
variable{w:World}{H H':Hp}{o:HO}
def ObjOk.lt(x:ObjOk P w H h a o):a<h.objs.size:=by
 cases o with
 |lst xs=>obtain⟨_,_,_,_,e⟩:=x;exact zy e
 |tup xs=>obtain⟨_,_,_,p⟩:=x;exact p.lt
 |dK kvs=>obtain⟨_,_,_,_,o,_,_,e,_⟩:=x;exact zy e
 |dT kvs=>obtain⟨_,_,_,_,o,_,_,e,_⟩:=x;exact zy e
 |set S n=>obtain⟨o,_,_,_,e,_⟩:=x;exact zy e
 |ins C dx fs=>obtain⟨_,_,_,e,_⟩:=x;exact zy e
 |own y=>obtain⟨_,e⟩:=x;exact zy e
 |xd fs=>obtain⟨_,⟨_,_,_,e,_⟩,_⟩:=x;exact zy e
 |rng lo hi=>obtain⟨_,_,_,e⟩:=x;exact zy e
 |frz ob u=>obtain⟨e,_⟩:=x;exact zy e
 |tbl ps=>obtain⟨_,e,_⟩:=x;exact zy e
 |met f y=>exact zy (show h.get? a=some _ from x)
 |ext φ=>obtain⟨_,⟨_,e⟩,_⟩:=x;exact zy e
theorem Paired.mapP{α β:Type}{F G:α->β->Prop}:∀{l₁:List α}{l₂:List β},Paired F l₁ l₂->(∀a b,F a b->G a b)->Paired G l₁ l₂
 |_,_,.nil,_=>.nil
 |_,_,.cons r t,f=>.cons (f _ _ r) (Paired.mapP t f)
def ObjOk.stay(x:ObjOk P w H h a o)(k:∀b u,(b=a\/H b=some (.own a))->h.get? b=some u->h'.get? b=some u)(ho:∀b,H b=some (.own a)->H' b=some (.own a))(ht:∀b xs,H b=some (.tup xs)->H' b=some (.tup xs))(hz:∀b o u,H b=some (.frz o u)->H' b=some (.frz o u):=by exact λ_ _ _ q=>q):ObjOk P w H' h' a o:=by
 induction o with
 |lst xs=>obtain⟨z,its,n,r,e⟩:=x;exact⟨z,its,n,r,k _ _ (.inl rfl) e⟩
 |tup xs=>obtain⟨z,its,r,ob,e,c⟩:=x;exact⟨z,its,r,ob,k _ _ (.inl rfl) e,c⟩
 |dK kvs=>obtain⟨z,y,vs,r,ob,es,ep,e,c⟩:=x;exact⟨z,y,vs,r,ob,es,ep,k _ _ (.inl rfl) e,c⟩
 |dT kvs=>obtain⟨z,y,xs,r,ob,es,ep,e,c⟩:=x;exact⟨z,y,xs,Paired.mapP r λp q z=>⟨z.1,ht _ _ z.2.1,z.2.2⟩,ob,es,ep,k _ _ (.inl rfl) e,c⟩
 |set S n=>obtain⟨ob,es,ep,t,e,c⟩:=x;exact⟨ob,es,ep,t,k _ _ (.inl rfl) e,c⟩
 |ins C dx fs=>obtain⟨d,z,ne,e,mA,⟨od,es,ep,e2,c⟩,r⟩:=x;exact⟨ho _ d,z,ne,k _ _ (.inl rfl) e,mA,⟨od,es,ep,k _ _ (.inr d) e2,c⟩,r⟩
 |own y=>obtain⟨ob,e⟩:=x;exact⟨ob,k _ _ (.inl rfl) e⟩
 |xd fs=>obtain⟨mA,⟨od,es,ep,e,c⟩,r⟩:=x;exact⟨mA,⟨od,es,ep,k _ _ (.inl rfl) e,c⟩,r⟩
 |rng lo hi=>obtain⟨t,u,v,e⟩:=x;exact⟨t,u,v,k _ _ (.inl rfl) e⟩
 |frz ob u ih=>obtain⟨e,q⟩:=x;exact⟨k _ _ (.inl rfl) e,ih q⟩
 |tbl ps=>obtain⟨qs,e,tr,c⟩:=x;refine⟨qs,k _ _ (.inl rfl) e,tr,λpos cv q=>?_⟩;obtain⟨c',o',vs,tk,e1,e2,e3⟩:=c pos cv q;exact⟨c',o',vs,tk,e1,hz _ _ _ e2,e3⟩
 |met f y=>have e:h.get? a=some (W.methodObj (.ref f) (.ref y)):=x;show h'.get? a=some (W.methodObj (.ref f) (.ref y));exact k a _ (.inl rfl) e
 |ext φ=>obtain⟨p,⟨o,e⟩,st⟩:=x;exact⟨st _ _ p λo q=>k _ _ (.inl rfl) q,⟨o,k _ _ (.inl rfl) e⟩,st⟩
def HOk.lt(x:HOk P w H h)(e:H a=some o):a<h.objs.size:=(x a o e).lt
def HOk.fresh(x:HOk P w H h)(e:h.objs.size<=a):H a=none:=by
 cases q:H a with
 |none=>rfl
 |some u=>exact absurd (v8 (x.lt q) e) (qt _)
def HOk.kept(x:HOk P w H h)(k:∀b u,h.get? b=some u->h'.get? b=some u):HOk P w H h':=λa o e=>(x a o e).stay (λb u _ q=>k b u q) (λ_ q=>q) λ_ _ q=>q
def HOk.laid(x:HOk P w H h)(k:∀b u,h.get? b=some u->h'.get? b=some u)(hp:h.objs.size<=a)(new:ObjOk P w (upd H a o) h' a o):HOk P w (upd H a o) h':=λb u e=>by
 have hn:=x.fresh hp;by_cases hb:b=a;·subst hb;rw[aV]at e;cases e;exact new
 ·rw[aF hb]at e;exact(x b u e).stay (λc v _ q=>k c v q) (λc q=>by rw[aF (aJ q hn)];exact q) (λc xs q=>by rw[aF (aJ q hn)];exact q) λc ob u q=>by rw[aF (aJ q hn)];exact q
end
def Rd(H:Hp)(a:Addr)(u:HO):Prop:=H a=some u\/∃o,H a=some (.frz o u)
def Rd.ok{w:World}{H:Hp}{u:HO}(r:Rd H a u)(x:HOk P w H h):ObjOk P w H h a u:=by
 rcases r with r|⟨o,r⟩;·exact x a u r
 ·obtain⟨_,q⟩:=x a _ r;exact q
noncomputable def Mut:Option HO->Prop
 |some (.lst _)=>True
 |some (.dK _)=>True
 |some (.dT _)=>True
 |some (.set _ _)=>True
 |some (.ins _ _ _)=>True
 |some (.ext _)=>True
 |_=>False
section
variable{w:World}{H:Hp}{x e:Addr}{o':HO}
def HOk.write(ok:HOk P w H h)(mu:Mut (H x))(he:e=x\/H e=some (.own x))(k:∀b u,b≠e->h.get? b=some u->h'.get? b=some u)(heo:∃u,h'.get? e=some u)(new:ObjOk P w (upd H x o') h' x o'):HOk P w (upd H x o') h':=λb u q=>by
 have nown:∀c y,H c=some (.own y)->c≠x:=λc y r z=>by subst z;rw[r]at mu;exact mu
 have ntup:∀c xs,H c=some (.tup xs)->c≠x:=λc xs r z=>by subst z;rw[r]at mu;exact mu
 have nfrz:∀c ob u,H c=some (.frz ob u)->c≠x:=λc ob u r z=>by subst z;rw[r]at mu;exact mu
 by_cases hb:b=x;·subst hb;rw[aV]at q;cases q;exact new
 ·rw[aF hb]at q;by_cases hbe:b=e
  ·have q':H b=some (.own x):=by
    rcases he with z|z;·exact absurd (hbe.trans z) hb
    ·rw[hbe];exact z
   rw[q]at q';cases q';obtain⟨v,hv⟩:=heo;exact⟨v,by rw[hbe];exact hv⟩
  ·refine(ok b u q).stay (λc v hc r=>k c v ?_ r) (λc r=>by rw[aF (nown c b r)];exact r) (λc xs r=>by rw[aF (ntup c xs r)];exact r) λc ob u r=>by rw[aF (nfrz c ob u r)];exact r
   rcases hc with rfl|hc;·exact hbe
   ·rintro rfl;rcases he with z|z;·exact nown c b hc z
    ·rw[hc]at z;cases z;exact hb rfl
end
structure Un(fs ex:List Addr)(H H':Hp)(h h':Heap):Prop where
 keep:∀b o,h.get? b=some o->H b=none->b∉fs->b∉ex->h'.get? b=some o
 slot:∀b o,h.get? b=some o->H b=none->b∈fs->b∉ex->∃sl,h'.get? b=some { o with slots:=sl }
 free:∀b o,h.get? b=some o->H b=none->b∉ex->H' b=none
 there:∀b o,h.get? b=some o->b∉ex->∃o',h'.get? b=some o'
 tups:∀b xs,H b=some (.tup xs)->H' b=some (.tup xs)
 frzs:∀b o u,H b=some (.frz o u)->H' b=some (.frz o u)
 tbls:∀b ps,H b=some (.tbl ps)->∃more,H' b=some (.tbl (ps++more))
section
variable{fs fs' ex ex':List Addr}{H H1 H2:Hp}{h1 h2:Heap}{x e:Addr}{o:HO}
def Un.any(u:Un fs ex H H1 h h1){b:Addr}{ob:Obj}(q:h.get? b=some ob)(n:H b=none)(hx:b∉ex):∃sl,h1.get? b=some { ob with slots:=sl }:=by
 by_cases hb:b∈fs;·exact u.slot b ob q n hb hx
 ·exact⟨ob.slots,u.keep b ob q n hb hx⟩
def Un.kept(k:∀b u,h.get? b=some u->h'.get? b=some u):Un fs ex H H h h':=
 ⟨λb ob q _ _ _=>k b ob q,λb ob q _ _ _=>⟨ob.slots,k b ob q⟩,λ_ _ _ n _=>n,λb ob q _=>⟨ob,k b ob q⟩,λ_ _ q=>q,λ_ _ _ q=>q,λ_ ps q=>⟨#[],by rw[q];simp⟩⟩
def Un.refl:Un fs ex H H h h:=Un.kept λ_ _ q=>q
def Un.laid(k:∀b u,h.get? b=some u->h'.get? b=some u)(hp:h.objs.size<=a)(hn:H a=none):Un fs ex H (upd H a o) h h' where
 keep:=λb u q _ _ _=>k b u q
 slot:=λb u q _ _ _=>⟨u.slots,k b u q⟩
 free:=λb u q n _=>by rw[aF (xD (v8 (zy q) hp))];exact n
 there:=λb u q _=>⟨u,k b u q⟩
 tups:=λb xs q=>by rw[aF (aJ q hn)];exact q
 frzs:=λb u xs q=>by rw[aF (aJ q hn)];exact q
 tbls:=λb ps q=>⟨#[],by rw[aF (aJ q hn),q];simp⟩
def Un.write(mu:Mut (H x))(he:e=x\/H e=some (.own x))(k:∀b u,b≠e->h.get? b=some u->h'.get? b=some u)(heo:∃u,h'.get? e=some u):Un fs ex H (upd H x o) h h':=by
 have hx:∀b,H b=none->b≠x:=λb n z=>by subst z;rw[n]at mu;exact mu
 have hb:∀b,H b=none->b≠e:=λb n z=>by
  subst z;rcases he with r|r;·exact hx b n r
  ·rw[n]at r;cases r
 have hm:∀b u,H b=some u->¬ Mut (some u)->b≠x:=λb u q nm z=>by subst z;rw[q]at mu;exact nm mu
 refine⟨λb u q n _ _=>k b u (hb b n) q,λb u q n _ _=>⟨u.slots,k b u (hb b n) q⟩,λb u q n _=>by rw[aF (hx b n)];exact n,λb u q _=>?_,
  λb xs q=>by rw[aF (hm b _ q λz=>z)];exact q,λb u xs q=>by rw[aF (hm b _ q λz=>z)];exact q,λb ps q=>⟨#[],by rw[aF (hm b _ q λz=>z),q];simp⟩⟩;by_cases hbe:b=e;·subst hbe;exact heo
 ·exact⟨u,k b u hbe q⟩
end
def FJ:HO->Value
 |.tbl ps=>if ps.size=1 then ps.getD 0 .none else .none
 |_=>.none
noncomputable def Jh(H:Hp)(b:Addr)(o:Obj):Obj:=match H b with
 |none=>(match o.data with|.freed=>⟨.none,none,.freed,#[]⟩|_=>o)
 |some u=>⟨FJ u,none,.freed,#[]⟩
def CL(h:Heap)(H:Hp):Heap:=⟨h.objs.mapIdx λb o=>Jh H b o,h.life⟩
def Cq(h:Heap)(H:Hp):(CL h H).objs.size=h.objs.size:=Array.size_mapIdx
def get_objs{b:Addr}{o:Obj}:h.get? b=some o ↔ h.objs[b]?=some o/\o.data≠.freed:=by
 unfold Heap.get?;constructor
 ·intro e;split at e;·cases e
  ·rename_i z;refine⟨e,λq=>?_⟩;obtain⟨a,b,c,d⟩:=o;cases q;exact z _ _ _ e
 ·rintro ⟨e,n⟩;rw[e];obtain⟨a,b,c,d⟩:=o;split;·rename_i q;cases q;exact absurd rfl n
  ·rfl
def pj(h:Heap)(H:Hp)(b:Addr):(CL h H).objs[b]?=(h.objs[b]?).map (Jh H b):=Array.getElem?_mapIdx
def ER{H:Hp}{b:Addr}{o:Obj}(e:h.get? b=some o)(n:H b=none):(CL h H).get? b=some o:=by
 obtain⟨e1,e2⟩:=get_objs.1 e;have z:Jh H b o=o:=by unfold Jh;rw[n];cases q:o.data <;> first|rfl|exact absurd q e2
 exact get_objs.2 ⟨by rw[pj,e1,qj,z],e2⟩
def Il{H:Hp}{b:Addr}{o:Obj}(e:(CL h H).get? b=some o):h.get? b=some o/\H b=none:=by
 obtain⟨e1,e2⟩:=get_objs.1 e;rw[pj]at e1;cases q:h.objs[b]? with
 |none=>rw[q]at e1;cases e1
 |some o'=>
  rw[q,qj]at e1;have e1:=xz e1;unfold Jh at e1;cases hq:H b with
  |none=>
   rw[hq]at e1;dsimp only at e1;split at e1;·rw[<- e1]at e2;exact absurd rfl e2
   ·exact⟨get_objs.2 ⟨by rw[q,e1],e2⟩,rfl⟩
  |some u=>rw[hq]at e1;dsimp only at e1;rw[<- e1]at e2;exact absurd rfl e2
def Mw(base:Heap)(p:Addr)(q:Str):Prop:=base.objs[p]?=some ⟨.str q 0,none,.freed,#[]⟩
def TabsIn(base:Heap)(H:Hp):Prop:=∀p q,Mw base p q->∃more,H p=some (.tbl (#[.str q 0]++more))
def Ab(h : Heap)(H : Hp): TabsIn (CL h H) H := λp q e => by
  unfold Mw at e;rw[pj]at e;cases z : h.objs[p]? with
  |none => rw[z]at e; cases e
  |some o =>
    rw[z, qj]at e;have e := xz e;unfold Jh at e;cases hq : H p with
    |none =>
      rw[hq]at e;dsimp only at e;split at e;· cases e
      · rename_i n; rw[e]at n; exact absurd rfl n
    |some u =>
      rw[hq]at e;have e := t6 Obj.cls e;cases u with
      |tbl ps =>
        dsimp only[FJ]at e;split at e
        · rename_i n;refine⟨#[], ?_⟩;obtain⟨l⟩ := ps
          match l, n with
          | [v], _ => have : v = .str q 0 := e
                      rw[this]; rfl
        · cases e
      |_ => cases e
def TabsIn.un{base:Heap}{fs ex:List Addr}{H H':Hp}(t:TabsIn base H)(u:Un fs ex H H' h h'):TabsIn base H':=λp q e=>by obtain⟨m1,z⟩:=t p q e;obtain⟨m2,z⟩:=u.tbls p _ z;exact⟨m1++m2,by rw[z,Array.append_assoc]⟩
noncomputable def IT(g h:Heap)(L:Addr):List (Addr×Obj):=(List.range h.objs.size).filterMap λa=>if a=L\/(g.get? a).isSome=true then none else (h.get? a).map λo=>(a,o)
def fW(g h:Heap)(L d:Addr):List (Addr×Obj):=(IT g h L).filter λp=>decide (p.1≠d)
end L2
variable{xs vs:List L2.V}{H H' G G₀:L2.Hp}{v:L2.V}{sq:L2.Hp->List L2.V->Prop}
namespace L2
open PySem PySem.Spec PyProof.Rows
structure Mod(K:W.Frag)(mg:Str->Option Value)(base:Heap):Prop where
 kin:K.In base
 glob:base.Ns mainGlobals mg
 blt:∃mb,base.Ns builtinsNs mb/\∀x:Str,x≠"__name__"->mb x=bootBuiltins x
 nolimit:base.NoLimit
structure Cx where
 prog:Program
 w:World
 K:W.Frag
 mg:Str->Option Value
 base:Heap
 A:Around
 N:List Str
 s₀:Shared
 H₀:Hp
 env:Env
 outer:List Env
 stack:List Env
 ex:List Addr
 fn:Str->Bool
 calm:Bool
 pn:List (Addr×Obj)
 xe:Value->Shared->Prop
def frs(l:List Env):List Addr:=l.filterMap (·.frame)
abbrev Cx.fs(X:Cx):List Addr:=frs X.outer
noncomputable def Vis(sc:Scope)(x:Str):Prop:=sc.names.lookup x=some .local\/sc.names.lookup x=some .cell\/sc.names.lookup x=some .free
def Loc(sc:Scope)(x:Str):Prop:=sc.names.lookup x=some .local\/sc.names.lookup x=some .cell
noncomputable def O3(env:Env)(h:Heap)(m:Str->Option Value)(x:Str)(u:Value):Prop:=
 (env.kindOf x=some .local/\m x=some u)\/((env.kindOf x=some .cell\/env.kindOf x=some .free)/\∃c,env.cells.lookup x=some c/\h.IsCell c (some u))
structure Cx.Ok(X:Cx):Prop where
 mod:Mod X.K X.mg X.base
 kind:X.env.scope.kind=.function
 glob:X.env.globals=mainGlobals
 blt:X.env.builtins=builtinsNs
 above:X.s₀.heap.objs.size<=X.env.locals
 inj:∀x y c,X.env.cells.lookup x=some c->X.env.cells.lookup y=some c->x=y
 has:∀x,(X.env.kindOf x=some .cell\/X.env.kindOf x=some .free)->∃c,X.env.cells.lookup x=some c
 cab:∀x c,X.fn x=true->X.env.cells.lookup x=some c->X.s₀.heap.objs.size<=c
 hd:X.calm=true->X.A.handled=none
 frames:X.A.frames=some X.stack
 stk:X.stack=X.outer\/(X.stack=X.env::X.outer/\X.env.frame=some X.env.locals)
 exf:∀b∈X.ex,b≠X.env.locals/\∀x c,X.env.cells.lookup x=some c->c≠b
 bs:∀b o,X.base.get? b=some o->X.s₀.heap.get? b=some o/\X.H₀ b=none
 bsz:X.base.objs.size<=X.s₀.heap.objs.size
 noex:∀b o,X.base.get? b=some o->b∉X.ex
 exfs:∀b∈X.ex,b∉X.fs
 funs:X.s₀.heap.FunFrames X.base X.outer
 frf:∀b∈X.fs,X.H₀ b=none
 tabs:TabsIn X.base X.H₀
structure Inv(X:Cx)(pins:List (Addr×Obj))(σ:List (Option V))(H:Hp)(s:Shared):Prop where
 ok:X.Ok
 os:s.os=X.s₀.os
 bare:AllBare s.gens
 base:Un X.fs X.ex X.H₀ H X.s₀.heap s.heap
 loc:∃m,s.heap.Ns X.env.locals m/\∀(i:Nat)(x:Str)(v:V),X.N[i]?=some x->σ[i]?=some (some v)->Vis X.env.scope x->∃u,RelV v u/\O3 X.env s.heap m x u
 cell:∀x c,X.env.cells.lookup x=some c->∃v,s.heap.IsCell c v
 free:H X.env.locals=none
 freeC:∀x c,X.env.cells.lookup x=some c->H c=none
 pin:∀p∈X.pn++pins,s.heap.get? p.1=some p.2/\H p.1=none/\p.1≠X.env.locals/\p.1∉X.fs/\∀v,p.2.data≠.cell v
 hok:HOk X.prog X.w H s.heap
 len:σ.length=X.N.length
section
variable{X:Cx}{σ:List (Option V)}
def Cx.Ok.nofr(ok:X.Ok){b:Addr}{o:Obj}(e:X.base.get? b=some o):b∉X.fs:=λhb=>by have:=(ok.funs.mem hb).1;rw[e]at this;cases this
def Inv.bs(I:Inv X pins σ H s):∀b o,X.base.get? b=some o->s.heap.get? b=some o/\H b=none:=λb o e=>⟨I.base.keep b o (I.ok.bs b o e).1 (I.ok.bs b o e).2 (I.ok.nofr e) (I.ok.noex b o e),I.base.free b o (I.ok.bs b o e).1 (I.ok.bs b o e).2 (I.ok.noex b o e)⟩
def Inv.bk(I:Inv X pins σ H s):∀b o,X.base.get? b=some o->s.heap.get? b=some o:=λb o e=>(I.bs b o e).1
def Inv.mod(I:Inv X pins σ H s):Mod X.K X.mg X.base:=I.ok.mod
def Inv.kIn(I:Inv X pins σ H s):X.K.In s.heap:=I.ok.mod.kin.keeps I.bk
def Inv.lt(I:Inv X pins σ H s):X.env.locals<s.heap.objs.size:=let⟨_,hn,_⟩:=I.loc;hn.lt
def Inv.sz(I:Inv X pins σ H s):X.s₀.heap.objs.size<=s.heap.objs.size:=xS I.ok.above (Nat.le_of_lt I.lt)
def Inv.nofs(I:Inv X pins σ H s)(h:s.heap.objs.size<=a):a∉X.fs:=λhb=>by obtain⟨_,o,ho,_⟩:=I.ok.funs.mem hb;exact absurd (v8 (zy ho) (xS I.sz h)) (qt _)
def Inv.cne(I:Inv X pins σ H s):∀x c,X.env.cells.lookup x=some c->c≠X.env.locals:=λx c e z=>by obtain⟨v,o,ho,hd⟩:=I.cell x c e;obtain⟨m,⟨o',es,ep,ho',hd',_⟩,_⟩:=I.loc;rw[z,ho']at ho;cases ho;rw[hd']at hd;cases hd
def Inv.funs(I:Inv X pins σ H s):s.heap.FunFrames X.base X.outer:=by
 have all:∀(l:List Env),(∀b∈frs l,b∈X.fs)->X.s₀.heap.FunFrames X.base l->s.heap.FunFrames X.base l:=by
  intro l;induction l with
  |nil=>intro _ _;trivial
  |cons env r ih=>intro hs hl;obtain⟨hk,⟨L,o,hf,hn,ho,hd⟩,hr⟩:=hl;have hL:L∈X.fs:=hs L (by unfold frs;rw[List.filterMap_cons,hf];exact List.mem_cons_self);obtain⟨sl,e⟩:=I.base.slot L o ho (I.ok.frf L hL) hL λz=>I.ok.exfs L z hL;exact⟨hk,⟨L,_,hf,hn,e,hd⟩,ih (λb hb=>hs b (by unfold frs;rw[List.filterMap_cons,hf];exact List.mem_cons_of_mem _ hb)) hr⟩
 exact all X.outer (λ_ hb=>hb) I.ok.funs
def Inv.stack(I:Inv X pins σ H s):s.heap.FunFrames X.base X.stack:=by
 rcases I.ok.stk with e|⟨e,hf⟩;·rw[e];exact I.funs
 ·rw[e];obtain⟨m,hn,_⟩:=I.loc;refine .cons (by rw[I.ok.kind];decide) hf hn ?_ I.funs;exact Heap.get?_none_of_le (xS I.ok.bsz I.ok.above)
def Inv.stkSub(I:Inv X pins σ H s):∀b∈frs X.stack,b∈X.env.locals::X.fs:=λb hb=>by
 rcases I.ok.stk with e|⟨e,hf⟩;·rw[e]at hb;exact v9 _ hb
 ·rw[e]at hb;unfold frs at hb;rw[Zb,hf]at hb;exact hb
def Inv.stkFree(I:Inv X pins σ H s):∀b∈frs X.stack,H b=none:=λb hb=>by
 rcases y9.mp (I.stkSub b hb)with e|hb;·rw[e];exact I.free
 ·obtain⟨_,o,ho,_⟩:=I.ok.funs.mem hb;exact I.base.free b o ho (I.ok.frf b hb) λz=>I.ok.exfs b z hb
def Inv.step{g':Array GenState}{t':Nat}{d':Drawn}(I:Inv X pins σ H s)(hch:∀b∈ch,(b∈X.ex\/X.s₀.heap.objs.size<=b)/\b≠X.env.locals/\(∀x c,X.env.cells.lookup x=some c->c≠b)/\∀p∈X.pn++pins,p.1≠b)(keep:∀b o,b≠X.env.locals->b∉X.fs->b∉ch->s.heap.get? b=some o->H b=none->h'.get? b=some o)(slot:∀b o,b≠X.env.locals->b∈X.fs->b∉ch->s.heap.get? b=some o->H b=none->∃sl,h'.get? b=some { o with slots:=sl })(free:∀b o,b∉ch->s.heap.get? b=some o->H b=none->H' b=none)(there:∀b o,b∉ch->s.heap.get? b=some o->∃o',h'.get? b=some o')(tups:∀b xs,H b=some (.tup xs)->H' b=some (.tup xs))(frzs:∀b o u,H b=some (.frz o u)->H' b=some (.frz o u))(tbls:∀b ps,H b=some (.tbl ps)->∃more,H' b=some (.tbl (ps++more)))(ns:∀m,s.heap.Ns X.env.locals m->h'.Ns X.env.locals m)(hok:HOk X.prog X.w H' h')(hg:AllBare g'):
  Inv X pins σ H' { s with heap:=h',gens:=g',drawn:=d',toks:=t' }:=by
 have neL:∀b o,X.s₀.heap.get? b=some o->b≠X.env.locals:=λb o e=>xD (v8 (zy e) I.ok.above);have neC:∀b o,X.s₀.heap.get? b=some o->b∉X.ex->b∉ch:=λb o e hx hb=>by
  rcases (hch b hb).1 with z|z;·exact hx z
  ·exact absurd (v8 (zy e) z) (qt _)
 have cellK:∀x c,X.env.cells.lookup x=some c->∀v,s.heap.IsCell c v->h'.IsCell c v:=λx c e v ⟨o,ho,hd⟩=>by
  have nch:c∉ch:=λz=>(hch c z).2.2.1 x c e rfl;by_cases hc:c∈X.fs;·obtain⟨sl,q⟩:=slot c o (I.cne x c e) hc nch ho (I.freeC x c e);exact⟨_,q,hd⟩
  ·exact⟨o,keep c o (I.cne x c e) hc nch ho (I.freeC x c e),hd⟩
 refine⟨I.ok,I.os,hg,⟨λb o e n hb hx=>?_,λb o e n hb hx=>?_,λb o e n hx=>?_,λb o e hx=>?_,λb xs e=>tups b xs (I.base.tups b xs e),λb o xs e=>frzs b o xs (I.base.frzs b o xs e),λb ps e=>?_⟩,?_,λx c e=>?_,?_,λx c e=>?_,λp hp=>?_,hok,I.len⟩;·exact keep b o (neL b o e) hb (neC b o e hx) (I.base.keep b o e n hb hx) (I.base.free b o e n hx)
 ·obtain⟨sl,e1⟩:=I.base.slot b o e n hb hx;obtain⟨sl',e2⟩:=slot b _ (neL b o e) hb (neC b o e hx) e1 (I.base.free b o e n hx);exact⟨sl',e2⟩
 ·obtain⟨o',e1⟩:=I.base.there b o e hx;exact free b o' (neC b o e hx) e1 (I.base.free b o e n hx)
 ·obtain⟨o',e1⟩:=I.base.there b o e hx;exact there b o' (neC b o e hx) e1
 ·obtain⟨m1,e1⟩:=I.base.tbls b ps e;obtain⟨m2,e2⟩:=tbls b _ e1;exact⟨m1++m2,by rw[e2,Array.append_assoc]⟩
 ·obtain⟨m,hn,hl⟩:=I.loc;refine⟨m,ns m hn,λi x v e1 e2 e3=>?_⟩;obtain⟨u,r,l⟩:=hl i x v e1 e2 e3;refine⟨u,r,?_⟩;rcases l with l|⟨k,c,e,z⟩;·exact .inl l
  ·exact .inr ⟨k,c,e,cellK x c e _ z⟩
 ·obtain⟨v,z⟩:=I.cell x c e;exact⟨v,cellK x c e v z⟩
 ·obtain⟨m,⟨o,_,_,ho,_⟩,_⟩:=I.loc;exact free _ o (λz=>(hch _ z).2.1 rfl) ho I.free
 ·obtain⟨v,o,ho,hd⟩:=I.cell x c e;exact free c o (λz=>(hch c z).2.2.1 x c e rfl) ho (I.freeC x c e)
 ·obtain⟨e,n,ne,nf,d⟩:=I.pin p hp;have nch:p.1∉ch:=λz=>(hch p.1 z).2.2.2 p hp rfl;exact⟨keep p.1 p.2 ne nf nch e n,free p.1 p.2 nch e n,ne,nf,d⟩
def Inv.un{t':Nat}(I:Inv X pins σ H s)(u:Un X.fs [] H H' s.heap h')(hok:HOk X.prog X.w H' h'):Inv X pins σ H' { s with heap:=h',toks:=t' }:=by obtain⟨m,⟨o,es,ep,ho,r⟩,_⟩:=id I.loc;obtain⟨sl,hL⟩:=u.any ho I.free (by simp);exact I.step (g':=s.gens) (d':=s.drawn) (ch:=[]) (λ_ z=>nomatch z) (λb o _ hb _ e n=>u.keep b o e n hb (by simp)) (λb o _ hb _ e n=>u.slot b o e n hb (by simp)) (λb o _ e n=>u.free b o e n (by simp)) (λb o _ e=>u.there b o e (by simp)) u.tups u.frzs u.tbls (λm' hm=>by obtain⟨o',es',ep',ho',r'⟩:=hm;rw[ho]at ho';cases ho';exact⟨_,es',ep',hL,r'⟩) hok I.bare
def Inv.call{g':Array GenState}{t':Nat}{d':Drawn}(I:Inv X pins σ H s)(u:Un (frs X.stack) ch H H' s.heap h')(hok:HOk X.prog X.w H' h')(hg:AllBare g')(hch:∀b∈ch,(b∈X.ex\/X.s₀.heap.objs.size<=b)/\b≠X.env.locals/\(∀x c,X.env.cells.lookup x=some c->c≠b)/\∀p∈X.pn++pins,p.1≠b):
  Inv X pins σ H' { s with heap:=h',gens:=g',drawn:=d',toks:=t' }:=by
 obtain⟨m,⟨o,es,ep,ho,r⟩,_⟩:=id I.loc;obtain⟨sl,hL⟩:=u.any ho I.free λz=>(hch _ z).2.1 rfl;exact I.step (ch:=ch) hch (λb o hL hb hc e n=>u.keep b o e n (λz=>(y9.mp (I.stkSub b z)).elim hL hb) hc) (λb o _ _ hc e n=>u.any e n hc) (λb o hc e n=>u.free b o e n hc) (λb o hc e=>u.there b o e hc) u.tups u.frzs u.tbls (λm' hm=>by obtain⟨o',es',ep',ho',r'⟩:=hm;rw[ho]at ho';cases ho';exact⟨_,es',ep',hL,r'⟩) hok hg
def Inv.turned{t':Nat}(I:Inv X pins σ H s)(k:∀b o,b≠it->s.heap.get? b=some o->h'.get? b=some o)(hn:H it=none)(hL:it≠X.env.locals)(h1:it∈X.ex\/X.s₀.heap.objs.size<=it)(h2:∀x c,X.env.cells.lookup x=some c->c≠it)(h3:∀p∈X.pn++pins,p.1≠it):Inv X pins σ H { s with heap:=h',toks:=t' }:=by
 have nit:∀b u,H b=some u->b≠it:=λb u e z=>by rw[z,hn]at e;cases e
 refine I.step (g':=s.gens) (d':=s.drawn) (ch:=[it]) (λb hb=>?_) (λb o _ _ hc e _=>k b o (λz=>hc (by simp[z])) e) (λb o _ _ hc e _=>⟨o.slots,k b o (λz=>hc (by simp[z])) e⟩) (λ_ _ _ _ n=>n)
  (λb o hc e=>⟨o,k b o (λz=>hc (by simp[z])) e⟩) (λ_ _ e=>e) (λ_ _ _ e=>e) (λb ps e=>⟨#[],by rw[e];simp⟩) (λm hm=>?_) (λb u e=>?_) I.bare
 ·have e:b=it:=by simpa using hb
  subst e;exact⟨h1,hL,h2,h3⟩
 ·obtain⟨o,es,ep,ho,r⟩:=hm;exact⟨o,es,ep,k _ o (x9 hL) ho,r⟩
 ·refine(I.hok b u e).stay (λc v hc q=>k c v ?_ q) (λ_ q=>q) λ_ _ q=>q;rcases hc with z|z;·rw[z];exact nit b u e
  ·exact nit c _ z
def Inv.tok(I:Inv X pins σ H s)(t:Nat):Inv X pins σ H { s with toks:=t }:=I.un (h':=s.heap) (t':=t) Un.refl I.hok
def Inv.kept{t':Nat}(I:Inv X pins σ H s)(k:∀b u,s.heap.get? b=some u->h'.get? b=some u):Inv X pins σ H { s with heap:=h',toks:=t' }:=I.un (Un.kept k) (I.hok.kept k)
def Inv.laid{o:HO}{t':Nat}(I:Inv X pins σ H s)(k:∀b u,s.heap.get? b=some u->h'.get? b=some u)(hp:s.heap.objs.size<=a)(new:ObjOk X.prog X.w (upd H a o) h' a o):
  Inv X pins σ (upd H a o) { s with heap:=h',toks:=t' }:=I.un (Un.laid k hp (I.hok.fresh hp)) (I.hok.laid k hp new)
def Inv.write{x e:Addr}{o:HO}{t':Nat}(I:Inv X pins σ H s)(mu:Mut (H x))(he:e=x\/H e=some (.own x))(k:∀b u,b≠e->s.heap.get? b=some u->h'.get? b=some u)(heo:∃u,h'.get? e=some u)(new:ObjOk X.prog X.w (upd H x o) h' x o):Inv X pins σ (upd H x o) { s with heap:=h',toks:=t' }:=I.un (Un.write mu he k heo) (I.hok.write mu he k heo new)
def Inv.pins_of{pins':List (Addr×Obj)}(I:Inv X pins σ H s)(h:∀p∈pins',s.heap.get? p.1=some p.2/\H p.1=none/\p.1≠X.env.locals/\p.1∉X.fs/\∀v,p.2.data≠.cell v):Inv X pins' σ H s:=
 ⟨I.ok,I.os,I.bare,I.base,I.loc,I.cell,I.free,I.freeC,λp hp=>(List.mem_append.mp hp).elim (λz=>I.pin p (mP _ z)) (h p),I.hok,I.len⟩
def tX{N:List Str}(hN:N.Nodup){x:Str}(a:N[i]?=some x)(b:N[j]?=some x):i=j:=by obtain⟨h1,e1⟩:=u6.mp a;obtain⟨h2,e2⟩:=u6.mp b;exact(List.getElem_inj hN).mp (e1.trans e2.symm)
def kY{M:Model}{A:Around}{x:Str}{u:Value}{Q:Unit->Shared->Prop}(I:Inv X pins σ H s)(hN:X.N.Nodup)(hi:X.N[i]?=some x)(hx:Loc X.env.scope x)(r:RelV v u)(h:∀s',Inv X pins (σ.set i (some v)) H s'->(∃a,Heap.SameBut a s.heap s'.heap/\(a=X.env.locals\/X.env.cells.lookup x=some a))->Q () s')(hf:X.fn x=true\/X.env.scope.names.lookup x=some .local:=by first|exact .inl rfl|exact .inr rfl|assumption):wpAny M A (storeName X.env x u) Q E s:=by
 obtain⟨m,hn,hl⟩:=id I.loc;have hcls:(X.env.scope.kind==.class || (X.env.scope.kind==.module && X.env.locals != X.env.globals))=false:=by rw[I.ok.kind];rfl
 have hiσ:i<σ.length:=by rw[I.len];exact(u6.mp hi).1
 have cne:=I.cne;have tracked:∀{a:Addr}{h':Heap},(∃o,s.heap.get? a=some o/\H a=none)->Heap.SameBut a s.heap h'->HOk X.prog X.w H h':=λ{a h'} ha hs b ob e=>by
  obtain⟨_,_,hfree⟩:=ha;refine(I.hok b ob e).stay (λc w' hc q=>(hs.2 c ?_).trans q) (λ_ q=>q) λ_ _ q=>q;rintro rfl;rcases hc with rfl|hc;·rw[hfree]at e;cases e
  ·rw[hfree]at hc;cases hc
 rcases hx with hk|hk
 ·refine wpAny_storeName_local hk hn (λh' hn' hs=>?_) hcls;obtain⟨oL,_,_,hoL,_⟩:=id hn;refine h _ ⟨I.ok,I.os,I.bare,⟨λb o e n hb hx=>?_,λb o e n hb hx=>?_,I.base.free,λb o e hx=>?_,I.base.tups,I.base.frzs,I.base.tbls⟩,⟨_,hn',λj y v' e1 e2 e3=>?_⟩,λy c e=>?_,I.free,I.freeC,λp hp=>?_,tracked ⟨oL,hoL,I.free⟩ hs,by simpa using I.len⟩ ⟨_,hs,.inl rfl⟩;·exact(hs.2 b (xD (v8 (zy e) I.ok.above))).trans (I.base.keep b o e n hb hx)
  ·obtain⟨sl,e1⟩:=I.base.slot b o e n hb hx;exact⟨sl,(hs.2 b (xD (v8 (zy e) I.ok.above))).trans e1⟩
  ·obtain⟨o',e1⟩:=I.base.there b o e hx;exact⟨o',(hs.2 b (xD (v8 (zy e) I.ok.above))).trans e1⟩
  ·by_cases hj:j=i;·subst hj;rw[hi]at e1;cases e1;rw[uV hiσ]at e2;cases e2;exact⟨u,r,.inl ⟨hk,by simp⟩⟩
   ·rw[t8 (x9 hj)]at e2;obtain⟨u',r',q⟩:=hl j y v' e1 e2 e3;refine⟨u',r',?_⟩;rcases q with⟨k,e⟩|⟨k,c,e,z⟩
    ·refine .inl ⟨k,?_⟩;have:y≠x:=λe=>hj (tX hN e1 (e▸hi));simp[this,e]
    ·exact .inr ⟨k,c,e,z.sameBut hs (cne y c e)⟩
  ·obtain⟨w',z⟩:=I.cell y c e;exact⟨w',z.sameBut hs (cne y c e)⟩
  ·obtain⟨e,n,ne,nf,d⟩:=I.pin p hp;exact⟨(hs.2 p.1 ne).trans e,n,ne,nf,d⟩
 ·have hfn:X.fn x=true:=by
   rcases hf with z|z;·exact z
   ·rw[z]at hk;cases hk
  obtain⟨c,hc⟩:=I.ok.has x (.inl hk);obtain⟨w',z⟩:=I.cell x c hc;refine wpAny_storeName_cell I.ok.kind hk hc z (λh' hc' hs=>?_);obtain⟨oc,hoc,hocd⟩:=id z;refine h { s with heap:=h' } ⟨I.ok,I.os,I.bare,⟨λb o e n hb hx=>?_,λb o e n hb hx=>?_,I.base.free,λb o e hx=>?_,I.base.tups,I.base.frzs,I.base.tbls⟩,⟨m,hn.sameBut hs (x9 (cne x c hc)),λj y v' e1 e2 e3=>?_⟩,λy c' e=>?_,I.free,I.freeC,λp hp=>?_,tracked ⟨oc,hoc,I.freeC x c hc⟩ hs,by simpa using I.len⟩ ⟨c,hs,.inr hc⟩;·exact(hs.2 b (xD (v8 (zy e) (I.ok.cab x c hfn hc)))).trans (I.base.keep b o e n hb hx)
  ·obtain⟨sl,e1⟩:=I.base.slot b o e n hb hx;exact⟨sl,(hs.2 b (xD (v8 (zy e) (I.ok.cab x c hfn hc)))).trans e1⟩
  ·obtain⟨o',e1⟩:=I.base.there b o e hx;exact⟨o',(hs.2 b (xD (v8 (zy e) (I.ok.cab x c hfn hc)))).trans e1⟩
  ·by_cases hj:j=i;·subst hj;rw[hi]at e1;cases e1;rw[uV hiσ]at e2;cases e2;exact⟨u,r,.inr ⟨.inl hk,c,hc,hc'⟩⟩
   ·rw[t8 (x9 hj)]at e2;obtain⟨u',r',q⟩:=hl j y v' e1 e2 e3;refine⟨u',r',?_⟩;rcases q with q|⟨k,c',e,z'⟩;·exact .inl q
    ·refine .inr ⟨k,c',e,z'.sameBut hs ?_⟩;rintro rfl;exact hj (tX hN e1 (I.ok.inj _ _ _ e hc▸hi))
  ·by_cases hcc:c'=c;·subst hcc;exact⟨_,hc'⟩
   ·obtain⟨w2,z2⟩:=I.cell y c' e;exact⟨w2,z2.sameBut hs hcc⟩
  ·obtain⟨e,n,ne,nf,d⟩:=I.pin p hp;refine⟨(hs.2 p.1 ?_).trans e,n,ne,nf,d⟩;intro q;rw[q,hoc]at e;have q':oc=p.2:=xz e;exact d w' (by rw[<- q'];exact hocd)
def kN{M:Model}{A:Around}{x:Str}{u:Value}{Q:Unit->Shared->Prop}(I:Inv X pins σ H s)(hN:X.N.Nodup)(hi:X.N[i]?=some x)(hx:Loc X.env.scope x)(r:RelV v u)(h:∀s',Inv X pins (σ.set i (some v)) H s'->Q () s')(hf:X.fn x=true\/X.env.scope.names.lookup x=some .local:=by first|exact .inl rfl|exact .inr rfl|assumption):wpAny M A (storeName X.env x u) Q E s:=
 kY I hN hi hx r (λs' I' _=>h s' I') hf
def Inv.call'(I:Inv X pins σ H s)(ho:s'.os=s.os)(u:Un (frs X.stack) ch H H' s.heap s'.heap)(hok:HOk X.prog X.w H' s'.heap)(hg:AllBare s'.gens)(hch:∀b∈ch,(b∈X.ex\/X.s₀.heap.objs.size<=b)/\b≠X.env.locals/\(∀x c,X.env.cells.lookup x=some c->c≠b)/\∀p∈X.pn++pins,p.1≠b):Inv X pins σ H' s':=by
 obtain⟨h',g',d',t',o'⟩:=s';have e:o'=s.os:=ho;subst e;exact I.call (g':=g') (t':=t') (d':=d') u hok hg hch
end
abbrev XK:=Value->Option Addr->Hp->Prop
abbrev St:=List (Option V)
abbrev VK:=V->Hp->Prop
abbrev TE:=St->Hp->VK->Prop
abbrev TT:=St->Hp->(Bool->Hp->Prop)->Prop
abbrev TA:=St->Hp->(List V->Hp->Prop)->Prop
structure Ends where
 nx:St->Hp->Prop
 rt:VK
 bk:St->Hp->Prop:=λ_ _=>False
 ct:St->Hp->Prop:=λ_ _=>False
abbrev TS:=Ends->St->Hp->Prop
noncomputable def EP(X:Cx)(pins:List (Addr×Obj))(σ:St)(Q:VK)(u:Value)(s':Shared):Prop:=∃v H',Inv X pins σ H' s'/\RelV v u/\Q v H'
noncomputable def TP(X:Cx)(pins:List (Addr×Obj))(σ:St)(Q:Bool->Hp->Prop)(b:Bool)(s':Shared):Prop:=∃H',Inv X pins σ H' s'/\Q b H'
noncomputable def AP(X:Cx)(pins:List (Addr×Obj))(σ:St)(Q:List V->Hp->Prop)(us:List Value)(s':Shared):Prop:=∃vs H',Inv X pins σ H' s'/\Vals vs us/\Q vs H'
noncomputable def SP(X:Cx)(pins:List (Addr×Obj))(D:Ends)(f:Flow)(s':Shared):Prop:=
 match f with
 |.next=>∃σ' H',Inv X pins σ' H' s'/\D.nx σ' H'
 |.brk=>∃σ' H',Inv X pins σ' H' s'/\D.bk σ' H'
 |.cont=>∃σ' H',Inv X pins σ' H' s'/\D.ct σ' H'
 |.ret u=>∃v σ' H',Inv X pins σ' H' s'/\RelV v u/\D.rt v H'
noncomputable def PE(X:Cx)(e:Expr)(t:TE):Prop:=
 ∀(pins:List (Addr×Obj))(s:Shared)(σ:St)(H:Hp)(Q:VK),Inv X pins σ H s->t σ H Q->wpAny (model X.prog X.w) X.A (eval e X.env) (EP X pins σ Q) X.xe s
noncomputable def PT(X:Cx)(e:Expr)(t:TT):Prop:=
 ∀(pins:List (Addr×Obj))(s:Shared)(σ:St)(H:Hp)(Q:Bool->Hp->Prop),Inv X pins σ H s->t σ H Q->wpAny (model X.prog X.w) X.A (isTrue e X.env (eval e X.env)) (TP X pins σ Q) X.xe s
noncomputable def PW(X:Cx)(e:Expr)(t:TT):Prop:=
 ∀(whole:Sem Value)(pins:List (Addr×Obj))(s:Shared)(σ:St)(H:Hp)(Q:Bool->Hp->Prop),Inv X pins σ H s->t σ H Q->wpAny (model X.prog X.w) X.A (isTrue e X.env whole) (TP X pins σ Q) X.xe s
noncomputable def PA(X:Cx)(es:List Expr)(t:TA):Prop:=
 ∀(pos:Pos)(pins:List (Addr×Obj))(s:Shared)(σ:St)(H:Hp)(Q:List V->Hp->Prop),Inv X pins σ H s->t σ H Q->wpAny (model X.prog X.w) X.A (spliced (backTo pos (starEach es X.env))) (AP X pins σ Q) X.xe s
noncomputable def PS(X:Cx)(st:Stmt)(t:TS):Prop:=
 ∀(pins:List (Addr×Obj))(s:Shared)(σ:St)(H:Hp)(D:Ends),Inv X pins σ H s->t D σ H->wpAny (model X.prog X.w) X.A (exec st X.env) (SP X pins D) X.xe s
noncomputable def PSs(X:Cx)(st:List Stmt)(t:TS):Prop:=
 ∀(pins:List (Addr×Obj))(s:Shared)(σ:St)(H:Hp)(D:Ends),Inv X pins σ H s->t D σ H->wpAny (model X.prog X.w) X.A (execs st X.env) (SP X pins D) X.xe s
def thn{α:Type}{t:Sem α}{Q Q':α->Shared->Prop}{M:Model}{A:Around}(h:wpAny M A t Q E s)(hQ:∀a s,Q a s->Q' a s):wpAny M A t Q' E s:=yT h hQ λ_ _ x=>x
end L2
variable{σ:L2.St}{X:L2.Cx}
namespace L2
open PySem PySem.Spec PyProof.Rows
section
def OK(i:Nat):TE:=λσ H Q=>∃v,σ[i]?=some (some v)/\Q v H
def tC(v:V):TE:=λ_ H Q=>Q v H
def iS{x:Str}{pos:Pos}(hN:X.N[i]?=some x)(hv:Vis X.env.scope x)(hd:(x==("__debug__":Str))=false:=by decide)(hcd:(x==("__classdict__":Str))=false:=by decide):PE X (.Name x pos) (OK i):=by
 intro pins s σ H Q I h;obtain⟨v,e,h⟩:=h;obtain⟨m,hn,hl⟩:=I.loc;obtain⟨u,r,l⟩:=hl i x v hN e hv;have fin:EP X pins σ Q u s:=⟨v,H,I,r,h⟩
 rcases l with⟨hk,hm⟩|⟨hk,c,hc,hcell⟩;·exact wpAny_Name (wpAny_loadName_local I.ok.kind hk hn hm fin) hd
 ·rcases hk with hk|hk;·exact wpAny_Name (wpAny_loadName_cell I.ok.kind hk hc hcell fin) hd
  ·exact wpAny_Name (wpAny_loadName_free I.ok.kind hk hc hcell fin hcd) hd
def LR {i j pos}:PE X (.Constant (.int i) j pos) (tC (.int i)):=λ_ _ _ H _ I h=>wpAny_Constant_int ⟨.int i,H,I.tok _,⟨_,rfl⟩,h⟩
def MO {b j pos}:PE X (.Constant (.bool b) j pos) (tC (.bl b)):=λ_ _ _ H _ I h=>Constant_bool ⟨.bl b,H,I,rfl,h⟩
def K1 {j pos}:PE X (.Constant .none j pos) (tC .non):=λ_ _ _ H _ I h=>Constant_none ⟨.non,H,I,rfl,h⟩
def JX {x j pos}:PE X (.Constant (.str x) j pos) (tC (.str x)):=λ_ _ _ H _ I h=>Calls.Constant_str ⟨.str x,H,I.tok _,⟨_,rfl⟩,h⟩
def Gl(X:Cx)(x:Str):Prop:=X.env.kindOf x=some .globalImplicit
def mj{x:Str}{u:Value}{pos:Pos}{Q:Value->Shared->Prop}(I:Inv X pins σ H s)(hg:Gl X x)(hm:X.mg x=some u)(h:Q u s)(hd:(x==("__debug__":Str))=false:=by decide):wpAny (model X.prog X.w) X.A (eval (.Name x pos) X.env) Q E s:=
 ZH I.ok.kind hg (Calls.loadGlobal_global (by rw[I.ok.glob];exact I.mod.glob.keeps I.bk) hm h) hd
def mX{x:Str}{u:Value}{pos:Pos}{Q:Value->Shared->Prop}(I:Inv X pins σ H s)(hg:Gl X x)(hm:X.mg x=none)(hv:bootBuiltins x=some u)(h:Q u s)(hn:x≠"__name__":=by decide)(hd:(x==("__debug__":Str))=false:=by decide):wpAny (model X.prog X.w) X.A (eval (.Name x pos) X.env) Q E s:=by
 obtain⟨mb,h1,h2⟩:=I.mod.blt;exact ZH I.ok.kind hg (Calls.loadGlobal_builtin (by rw[I.ok.glob];exact I.mod.glob.keeps I.bk) hm (by rw[I.ok.blt];exact h1.keeps I.bk) ((h2 x hn).trans hv) h) hd
def jy{x:Str}{u:Value}{pos:Pos}(hg:Gl X x)(hm:X.mg x=some u)(r:RelV v u)(hd:(x==("__debug__":Str))=false:=by decide):PE X (.Name x pos) (tC v):=
 λ_ _ _ H _ I h=>mj I hg hm ⟨v,H,I,r,h⟩ hd
def tP{x:Str}{u:Value}{pos:Pos}(hg:Gl X x)(hm:X.mg x=none)(hv:bootBuiltins x=some u)(r:RelV v u)(hn:x≠"__name__":=by decide)(hd:(x==("__debug__":Str))=false:=by decide):PE X (.Name x pos) (tC v):=
 λ_ _ _ H _ I h=>mX I hg hm hv ⟨v,H,I,r,h⟩ hn hd
variable{a b:Expr}{ta tb:TE}{pos:Pos}
variable{tA tB':TT}{fW:List Expr}
def Qe(t u:TT):TT:=λσ H Q=>t σ H λc H1=>if c=true then u σ H1 Q else Q false H1
def tOr(t u:TT):TT:=λσ H Q=>t σ H λc H1=>if c=true then Q true H1 else u σ H1 Q
def PD(t:TT):TT:=λσ H Q=>t σ H λc H1=>Q (!c) H1
def HQ(ha:PT X a tA):PW X (.BoolOp .And [a] pos) tA:=by
 intro wh pins s σ H Q I h;refine isTrue_and (thn (ha pins s σ H Q I h) λc s1 e=>?_);cases c with
 |true=>exact isTrue_and_nil e
 |false=>exact e
def L9(ha:PT X a tA):PW X (.BoolOp .Or [a] pos) tA:=by
 intro wh pins s σ H Q I h;refine isTrue_or (thn (ha pins s σ H Q I h) λc s1 e=>?_);cases c with
 |false=>exact isTrue_or_nil e
 |true=>exact e
def LH(ha:PT X a tA)(hb:PW X (.BoolOp .And (b::fW) pos) tB'):PW X (.BoolOp .And (a::b::fW) pos) (Qe tA tB'):=by
 intro wh pins s σ H Q I h;refine isTrue_and (thn (ha pins s σ H _ I h) λc s1 ⟨H1,I1,q1⟩=>?_);cases c with
 |true=>exact hb wh pins s1 σ H1 Q I1 q1
 |false=>exact⟨H1,I1,q1⟩
def Os(ha:PT X a tA)(hb:PW X (.BoolOp .Or (b::fW) pos) tB'):PW X (.BoolOp .Or (a::b::fW) pos) (tOr tA tB'):=by
 intro wh pins s σ H Q I h;refine isTrue_or (thn (ha pins s σ H _ I h) λc s1 ⟨H1,I1,q1⟩=>?_);cases c with
 |true=>exact⟨H1,I1,q1⟩
 |false=>exact hb wh pins s1 σ H1 Q I1 q1
def KY(ha:PT X a tA):PT X (.UnaryOp .Not a pos) (PD tA):=by intro pins s σ H Q I h;exact isTrue_not (ha pins s σ H (λc H1=>Q (!c) H1) I h)
noncomputable def NG(ta tb:TE):TE:=λσ H Q=>ta σ H λx H1=>∃c,x=.bl c/\if c=true then tb σ H1 Q else Q (.bl false) H1
noncomputable def PH(ta tb:TE):TE:=λσ H Q=>ta σ H λx H1=>∃c,x=.bl c/\if c=true then Q (.bl true) H1 else tb σ H1 Q
def Ou(ta:TE):TE:=λσ H Q=>ta σ H λx H1=>∃c,x=.bl c/\Q (.bl (!c)) H1
def LF {op} {t:TE} (h:PE X a t):PE X (.BoolOp op [a] pos) t:=λpins s σ H Q I hw=>BoolOp_one (h pins s σ H Q I hw)
def Jw(ha:PE X a ta)(hb:PE X (.BoolOp .And (b::fW) pos) tb):PE X (.BoolOp .And (a::b::fW) pos) (NG ta tb):=by
 intro pins s σ H Q I h;refine BoolOp_and (thn (ha pins s σ H _ I h) λv s1 ⟨x,H1,I1,r1,q1⟩=>?_);obtain⟨c,rfl,q1⟩:=q1;cases r1;refine qE ?_;cases c with
 |true=>exact hb pins s1 σ H1 Q I1 q1
 |false=>exact⟨.bl false,H1,I1,rfl,q1⟩
def Nu(ha:PE X a ta)(hb:PE X (.BoolOp .Or (b::fW) pos) tb):PE X (.BoolOp .Or (a::b::fW) pos) (PH ta tb):=by
 intro pins s σ H Q I h;refine BoolOp_or (thn (ha pins s σ H _ I h) λv s1 ⟨x,H1,I1,r1,q1⟩=>?_);obtain⟨c,rfl,q1⟩:=q1;cases r1;refine qE ?_;cases c with
 |false=>exact hb pins s1 σ H1 Q I1 q1
 |true=>exact⟨.bl true,H1,I1,rfl,q1⟩
def KL(ha:PE X a ta):PE X (.UnaryOp .Not a pos) (Ou ta):=by intro pins s σ H Q I h;refine UnaryOp_ (thn (ha pins s σ H _ I h) λv s1 ⟨x,H1,I1,r1,q1⟩=>?_);obtain⟨c,rfl,q1⟩:=q1;cases r1;exact not_of (qE ⟨.bl (!c),H1,I1,rfl,q1⟩)
def tIf(t:TT)(ta tb:TE):TE:=λσ H Q=>t σ H λc H1=>if c=true then ta σ H1 Q else tb σ H1 Q
def Ef{c:Expr}(hc:PT X c tA)(ha:PE X a ta)(hb:PE X b tb):PE X (.IfExp c a b pos) (tIf tA ta tb):=by
 intro pins s σ H Q I h;refine wpAny_IfExp (thn (hc pins s σ H _ I h) λd s1 ⟨H1,I1,q1⟩=>?_);cases d with
 |true=>exact ha pins s1 σ H1 Q I1 q1
 |false=>exact hb pins s1 σ H1 Q I1 q1
end
noncomputable def SqL(K:W.Frag)(H:Hp)(a:Addr)(xs:List V):Prop:=
 Rd H a (.lst xs)\/
  ∃(o:Obj)(its:Array Value)(n:Nat),K.lookup a=some o/\o.cls=.type "list"/\o.dict=none/\o.data=.seq its n/\its.size<=sizeLine/\Vals xs its.toList
noncomputable def SqT(K:W.Frag)(H:Hp)(a:Addr)(xs:List V):Prop:=
 Rd H a (.tup xs)\/
  ∃(o:Obj)(its:Array Value)(n:Nat),K.lookup a=some o/\o.cls=.type "tuple"/\o.data=.seq its n/\its.size<=sizeLine/\Vals xs its.toList
noncomputable def Qi:Value->Option V
 |.none=>some .non
 |.bool b=>some (.bl b)
 |.int i _=>some (.int i)
 |.str x _=>some (.str x)
 |.bytes b _=>some (.byt b)
 |.float b _=>some (.flt b)
 |.ref a=>some (.ref a)
 |.type n=>some (.ty n)
 |_=>none
def RelV.abs{x:V}{u:Value}(r:RelV x u):Qi u=some x:=by
 cases x with
 |non=>cases r;rfl
 |bl _=>cases r;rfl
 |int _=>obtain⟨t,rfl⟩:=r;rfl
 |str _=>obtain⟨t,rfl⟩:=r;rfl
 |byt _=>obtain⟨t,rfl⟩:=r;rfl
 |flt _=>obtain⟨t,rfl⟩:=r;rfl
 |ref _=>cases r;rfl
 |ty _=>cases r;rfl
def RelV.inj{x y:V}{u:Value}(r:RelV x u)(q:RelV y u):x=y:=xz (r.abs.symm.trans q.abs)
theorem Vals.inj:∀{xs ys:List V}{us:List Value},Vals xs us->Vals ys us->xs=ys
 |_,_,_,.nil,.nil=>rfl
 |_,_,_,.cons r t,.cons r' t'=>by rw[r.inj r',Vals.inj t t']
section
variable{ys:List V}
def SqL.of{K:W.Frag}(h:H a=some (.lst xs)):SqL K H a xs:=.inl (.inl h)
def SqT.of{K:W.Frag}(h:H a=some (.tup xs)):SqT K H a xs:=.inl (.inl h)
def Inv.list(I:Inv X pins σ H s)(h:SqL X.K H a xs):∃its:List Value,Vals xs its/\PlainL s.heap a its.toArray/\xs.length<=sizeLine:=by
 rcases h with h|⟨o,its,n,hk,hc,hd,hs,hz,r⟩;·obtain⟨z,its,n,r,e⟩:=h.ok I.hok;exact⟨its,r,⟨_,n,e,rfl,rfl,rfl⟩,z⟩
 ·refine⟨its.toList,r,⟨o,n,I.kIn a o hk,hc,hd,by simpa using hs⟩,?_⟩;have e:=r.length;simp only[lV]at e;omega
def Inv.tuple(I:Inv X pins σ H s)(h:SqT X.K H a xs):∃its:List Value,Vals xs its/\IsTup s.heap a its.toArray/\xs.length<=sizeLine:=by
 rcases h with h|⟨o,its,n,hk,hc,hs,hz,r⟩;·obtain⟨z,its,r,p⟩:=h.ok I.hok;exact⟨its,r,p,z⟩
 ·refine⟨its.toList,r,⟨o,I.kIn a o hk,hc,n,by simpa using hs⟩,?_⟩;have e:=r.length;simp only[lV]at e;omega
def Inv.list_inj(I:Inv X pins σ H s)(h:SqL X.K H a xs)(h':SqL X.K H a ys):xs=ys:=by
 obtain⟨its,r,⟨o,n,e,_,_,d⟩,_⟩:=I.list h;obtain⟨its',r',⟨o',n',e',_,_,d'⟩,_⟩:=I.list h';rw[e]at e';cases e';rw[d]at d';injection d' with d1 _;have:its=its':=by simpa using t6 Array.toList d1
 subst this;exact r.inj r'
def Inv.tuple_inj(I:Inv X pins σ H s)(h:SqT X.K H a xs)(h':SqT X.K H a ys):xs=ys:=by
 obtain⟨its,r,⟨o,e,_,n,d⟩,_⟩:=I.tuple h;obtain⟨its',r',⟨o',e',_,n',d'⟩,_⟩:=I.tuple h';rw[e]at e';cases e';rw[d]at d';injection d' with d1 _;have:its=its':=by simpa using t6 Array.toList d1
 subst this;exact r.inj r'
end
abbrev Cx.wish(X:Cx)(E:Value->Shared->Prop):Cx:={ X with xe:=E }
section
variable{fW:List Stmt}{t u:TS}{e:Expr}{te:TE}{pos:Pos}
def Oj:TS:=λD σ H=>D.nx σ H
def P2(t u:TS):TS:=λD σ H=>t { D with nx:=u D } σ H
def IL:PSs X [] Oj:=λ_ _ σ H _ I h=>io ⟨σ,H,I,h⟩
def ud(h1:PS X st t)(h2:PSs X fW u):PSs X (st::fW) (P2 t u):=by
 intro pins s σ H D I h;refine wpAny_execs_cons (thn (h1 pins s σ H { D with nx:=u D } I h) λf s1 q=>?_);cases f with
 |next=>obtain⟨σ',H',I',q⟩:=q;exact h2 pins s1 σ' H' D I' q
 |ret v=>exact q
 |brk=>exact q
 |cont=>exact q
def Inv.quiet(I:Inv X pins σ H s):interactive X.env=false:=by simp[interactive,I.ok.kind]
def MZ(te:TE):TS:=λD σ H=>te σ H λ_ H1=>D.nx σ H1
def xN(he:PE X e te)(hs:swapsWith e none pos.line X.env=pure false:=by rfl):PS X (.Expr e pos) (MZ te):=by intro pins s σ H D I h;exact wpAny_Expr_any (thn (he pins s σ H _ I h) λv s1 ⟨x,H1,I1,r1,q1⟩=>⟨σ,H1,I1,q1⟩) I.quiet hs
def Pj(te:TE):TS:=λD σ H=>te σ H D.rt
def AF(he:PE X e te):PS X (.Return (some e) pos) (Pj te):=by intro pins s σ H D I h;exact wpAny_Return_some (thn (he pins s σ H _ I h) λv s1 ⟨x,H1,I1,r1,q1⟩=>⟨x,σ,H1,I1,r1,q1⟩)
def PL(c:TT)(t u:TS):TS:=λD σ H=>c σ H λb H1=>if b=true then t D σ H1 else u D σ H1
def Mf{c:Expr}{a b:List Stmt}{tc:TT}(hc:PT X c tc)(ha:PSs X a t)(hb:PSs X b u):PS X (.If c a b pos) (PL tc t u):=by
 intro pins s σ H D I h;refine wpAny_If (thn (hc pins s σ H _ I h) λd s1 ⟨H1,I1,q1⟩=>?_);cases d with
 |true=>exact ha pins s1 σ H1 D I1 q1
 |false=>exact hb pins s1 σ H1 D I1 q1
end
abbrev TG:=V->St->Hp->(St->Hp->Prop)->Prop
abbrev TGs:=List V->St->Hp->(St->Hp->Prop)->Prop
noncomputable def PG(X:Cx)(target:Expr)(t:TG):Prop:=
 ∀(pins:List (Addr×Obj))(s:Shared)(σ:St)(H:Hp)(v:V)(u:Value)(Q:St->Hp->Prop),Inv X pins σ H s->RelV v u->t v σ H Q->
  wpAny (model X.prog X.w) X.A (assign target X.env u) (λ_ s'=>∃σ' H',Inv X pins σ' H' s'/\Q σ' H') X.xe s
noncomputable def PGs(X:Cx)(ts:List Expr)(t:TGs):Prop:=
 ∀(pins:List (Addr×Obj))(s:Shared)(σ:St)(H:Hp)(vs:List V)(us:List Value)(Q:St->Hp->Prop),Inv X pins σ H s->Vals vs us->t vs σ H Q->
  wpAny (model X.prog X.w) X.A (assignInOrder ((assignEach ts X.env).map (·.2)) us) (λ_ s'=>∃σ' H',Inv X pins σ' H' s'/\Q σ' H') X.xe s
abbrev Ji:=V->V->V->Hp->(Hp->Prop)->Prop
noncomputable def MA(X:Cx)(t:Ji):Prop:=
 ∀(pins:List (Addr×Obj))(s:Shared)(σ:St)(H:Hp)(o i v:V)(ov iv u:Value)(Q:Hp->Prop),Inv X pins σ H s->RelV o ov->RelV i iv->RelV v u->t o i v H Q->
  wpAny (model X.prog X.w) X.A (setItem ov iv u) (λ_ s'=>∃H',Inv X pins σ H' s'/\Q H') X.xe s
abbrev TIp:=V->V->Hp->VK->Prop
noncomputable def PIp(X:Cx)(op:Operator)(t:TIp):Prop:=
 ∀(pins:List (Addr×Obj))(s:Shared)(σ:St)(H:Hp)(x y:V)(v u:Value)(Q:VK),Inv X pins σ H s->RelV x v->RelV y u->t x y H Q->
  wpAny (model X.prog X.w) X.A (inplaceOp op v u) (EP X pins σ Q) X.xe s
section
variable{pos:Pos}
def MN(i:Nat):TG:=λv σ H Q=>Q (σ.set i (some v)) H
def mf{x:Str}(hN:X.N.Nodup)(hi:X.N[i]?=some x)(hx:Loc X.env.scope x)(hf:X.fn x=true\/X.env.scope.names.lookup x=some .local:=by first|exact .inl rfl|exact .inr rfl|assumption):PG X (.Name x pos) (MN i):=by intro pins s σ H v u Q I r h;exact wpAny_assign_Name (kN I hN hi hx r (λs' I'=>⟨_,H,I',h⟩) hf)
def PY:TGs:=λvs σ H Q=>vs=[]/\Q σ H
def MV(t:TG)(u:TGs):TGs:=λvs σ H Q=>∃v r,vs=v::r/\t v σ H λσ' H'=>u r σ' H' Q
def GE:PGs X [] PY:=by intro pins s σ H vs us Q I r h;obtain⟨e,h⟩:=h;subst e;cases r;exact assignInOrder_nil ⟨σ,H,I,h⟩
def DR{e:Expr}{t:TG}{u:TGs}(h1:PG X e t)(h2:PGs X es u)(hs:(assignEach (e::es) X.env).map (·.2)=assign e X.env::(assignEach es X.env).map (·.2):=by rfl):PGs X (e::es) (MV t u):=by
 intro pins s σ H vs us Q I r h;obtain⟨v,vr,e1,h⟩:=h;subst e1;cases r with
 |cons r rr=>rw[hs];refine Zc (thn (h1 pins s σ H _ _ _ I r h) λ_ s1 ⟨σ1,H1,I1,q1⟩=>?_);exact h2 pins s1 σ1 H1 _ _ Q I1 rr q1
def Px(K:W.Frag)(n:Nat)(t:TGs):TG:=λv σ H Q=>∃a xs,v=.ref a/\SqT K H a xs/\xs.length=n/\t xs σ H Q
def Lk{t:TGs}(hc:X.calm=true)(h:PGs X es t)(hn:(assignEach es X.env).length=n:=by rfl)(hst:(assignEach es X.env).findIdx? (·.1)=none:=by rfl):PG X (.Tuple es k pos) (Px X.K n t):=by
 intro pins s σ H v u Q I r hw;obtain⟨a,xs,e1,hq,hl,hw⟩:=hw;subst e1;cases r;obtain⟨its,rv,ht,hz⟩:=I.tuple hq;refine assign_Tuple_tuple (I.ok.hd hc) ht (by simp[hn,<- hl,rv.length]) hst λh' hx=>?_;have I1:Inv X pins σ H { s with heap:=h' }:=I.kept (t':=s.toks) λb o e=>hx b o (xD (zy e)) e;exact h pins _ σ H xs _ Q I1 (by simpa using rv) hw
def O1(to ti:TE)(t:Ji):TG:=λv σ H Q=>to σ H λo H1=>ti σ H1 λi H2=>t o i v H2 λH3=>Q σ H3
def FY{o i:Expr}{to ti:TE}{t:Ji}(ho:PE X o to)(hi:PE X i ti)(hs:MA X t)(ha:∀v,assign (.Subscript o i pos) X.env v=(do
 let ov <- holding [v] (eval o X.env);let iv <- holding [v,ov] (eval i X.env)
 standAt pos
 holding [v,ov,iv] (setItem ov iv v)
 release [v,ov,iv] []):=by intro _;rfl):PG X (.Subscript o i pos) (O1 to ti t):=by
 intro pins s σ H v u Q I r h;rw[ha];refine z9 (r0 (thn (ho pins s σ H _ I h) λov s1 ⟨x,H1,I1,r1,q1⟩=>?_));refine z9 (r0 (thn (hi pins s1 σ H1 _ I1 q1) λiv s2 ⟨y,H2,I2,r2,q2⟩=>?_));refine z9 (l5 (z9 (r0 (thn (hs pins s2 σ H2 x y v ov iv u _ I2 r1 r2 r q2) λ_ s3 ⟨H3,I3,q3⟩=>?_))));exact wpAny_release ⟨σ,H3,I3,q3⟩
def Pn(te:TE)(g:TG):TS:=λD σ H=>te σ H λx H1=>g x σ H1 D.nx
def qX{e:Expr}{te:TE}{g:TG}(he:PE X e te)(hg:PG X tg g)(hs:swapsWithSole [tg] e pos.line X.env=pure false:=by rfl)(hw:swappedStores [tg] e X.env=pure none:=by rfl)(h1:(assignEach [tg] X.env).map (·.2)=[assign tg X.env]:=by rfl):PS X (.Assign [tg] e pos) (Pn te g):=by
 intro pins s σ H D I h;refine wpAny_Assign_stores (thn (he pins s σ H _ I h) λv s1 ⟨x,H1,I1,r1,q1⟩=>?_) hs hw;rw[h1];exact thn (hg pins s1 σ H1 x v _ I1 r1 q1) λ_ s2 q=>q
noncomputable def Qk(i j:Nat)(ta:TA):TS:=λD σ H=>ta σ H λvs H1=>∃v w,vs=[v,w]/\D.nx ((σ.set i (some v)).set j (some w)) H1
def LZ{x:Str}{a b:Expr}{ta:TA}{px pt:Pos} {kt k2 pt2} (hc:X.calm=true) (hN:X.N.Nodup) (hi:X.N[i]?=some x) (hj:X.N[j]?=some y) (hij:i≠j)
 (hx:X.env.scope.names.lookup x=some .local) (hy:X.env.scope.names.lookup y=some .local) (ha:PA X [a,b] ta)
 (hw:swappedStores [.Tuple [.Name x px,.Name y py] kt pt] (.Tuple [a,b] k2 pt2) X.env=pure (some [x,y]))
 (hs:swapsWithSole [.Tuple [.Name x px,.Name y py] kt pt] (.Tuple [a,b] k2 pt2) pos.line X.env=pure false:=by rfl) :
  PS X (.Assign [.Tuple [.Name x px,.Name y py] kt pt] (.Tuple [a,b] k2 pt2) pos) (Qk i j ta):=by
 intro pins s σ H D I h;rw[exec_Assign_arm];refine z9 (l5 ?_);rw[hs];refine z9 (zh ?_);rw[if_neg (by decide)];refine z9 (Tuple_ (thn (ha _ pins s σ H _ I h) λus s1 ⟨vs,H1,I1,r1,q1⟩=>?_));obtain⟨v,w,e1,q1⟩:=q1;subst e1;obtain⟨u1,u2,rfl,rv,rw'⟩:∃u1 u2,us=[u1,u2]/\RelV v u1/\RelV w u2:=by
  cases r1 with
  |cons p q=>
   cases q with
   |cons p' q'=>cases q';exact⟨_,_,rfl,p,p'⟩
 refine t9 ?_ (by show 2<=sizeLine;decide);have I2:Inv X pins σ H1 { s1 with heap:=s1.heap.push { cls:=.type "tuple",data:=.seq [u1,u2].toArray } }:=I1.kept (t':=s1.toks) λb o e=>zT _ e;rw[hw];refine z9 (zh ?_);show wpAny (model X.prog X.w) X.A (do rule "assign.swapped-stores";let items <- unpackItems (.ref s1.heap.objs.size) 2 none;assignInOrder [λv=>bindName X.env y v,λv=>bindName X.env x v] items.reverse;pure Flow.next) _ _ _;refine z9 (n6 (z9 (unpackItems_tuple (items:=#[u1,u2]) (I.ok.hd hc) (qK s1.heap _) λh' hx'=>?_)));have I3:=I2.kept (h':=h') (t':=s1.toks) λb o e=>hx' b o (xD (zy e)) e;show wpAny _ _ (assignInOrder [λv=>bindName X.env y v,λv=>bindName X.env x v] [u2,u1]>>=λ_=>pure Flow.next) _ _ _;refine z9 (Zc (iF (kN I3 hN hj (.inl hy) rw' (λs2 I4=>?_) (.inr hy))));refine Zc (iF (kN I4 hN hi (.inl hx) rv (λs3 I5=>assignInOrder_nil (zh ?_)) (.inr hx)));rw[List.set_comm _ _ (x9 hij)]at I5;exact⟨_,H1,I5,q1⟩
noncomputable def PQ(i:Nat)(te:TE)(ti:TIp):TS:=λD σ H=>∃x,σ[i]?=some (some x)/\te σ H λy H1=>ti x y H1 λz H2=>D.nx (σ.set i (some z)) H2
def Lh{x:Str}{e:Expr}{te:TE}{op:Operator}{ti:TIp}{pos':Pos}(hN:X.N.Nodup)(hi:X.N[i]?=some x)(hx:Loc X.env.scope x)(he:PE X e te)(ho:PIp X op ti)(hf:X.fn x=true\/X.env.scope.names.lookup x=some .local:=by first|exact .inl rfl|exact .inr rfl|assumption):
  PS X (.AugAssign (.Name x pos') op e pos) (PQ i te ti):=by
 intro pins s σ H D I h;obtain⟨v,e1,h⟩:=h;obtain⟨m,hn,hl⟩:=I.loc;have vis:Vis X.env.scope x:=by rcases hx with k|k;exact .inl k;exact .inr (.inl k)
 obtain⟨u,r,l⟩:=hl i x v hi e1 vis;refine wpAny_AugAssign_Name ?_;have go:wpAny (model X.prog X.w) X.A (eval e X.env) (λw s₂=>wpAny (model X.prog X.w) X.A (inplaceOp op u w) (λr s₃=>wpAny (model X.prog X.w) X.A (storeName X.env x r) (λ_=>SP X pins D .next) X.xe s₃) X.xe s₂) X.xe s:=by refine thn (he pins s σ H _ I h) λw s1 ⟨y,H1,I1,r1,q1⟩=>?_;refine thn (ho pins s1 σ H1 v y u w _ I1 r r1 q1) λz s2 ⟨zv,H2,I2,r2,q2⟩=>?_;exact kN I2 hN hi hx r2 (λs3 I3=>⟨_,H2,I3,q2⟩) hf
 rcases l with⟨hk,hm⟩|⟨hk,c,hc,hcell⟩;·exact wpAny_loadName_local I.ok.kind hk hn hm go
 ·rcases hk with hk|hk;·exact wpAny_loadName_cell I.ok.kind hk hc hcell go
  ·rcases hx with k|k;·have:X.env.scope.names.lookup x=some .free:=hk;rw[k]at this;cases this
   ·have:X.env.scope.names.lookup x=some .free:=hk;rw[k]at this;cases this
noncomputable def NH(to ti te:TE)(tget:V->V->Hp->VK->Prop)(tip:TIp)(tset:Ji):TS:=λD σ H=>to σ H λo H1=>ti σ H1 λi H2=>tget o i H2 λx H3=>te σ H3 λy H4=>tip x y H4 λz H5=>tset o i z H5 λH6=>D.nx σ H6
noncomputable def OF(X:Cx)(t:V->V->Hp->VK->Prop):Prop:=
 ∀(pins:List (Addr×Obj))(s:Shared)(σ:St)(H:Hp)(o i:V)(ov iv:Value)(Q:VK),Inv X pins σ H s->RelV o ov->RelV i iv->t o i H Q->
  wpAny (model X.prog X.w) X.A (getItem ov iv) (EP X pins σ Q) X.xe s
def GR{o i e:Expr}{to ti te:TE}{tget:V->V->Hp->VK->Prop}{tip:TIp}{tset:Ji}{op:Operator}{tpos:Pos}(ho:PE X o to)(hi:PE X i ti)(hg:OF X tget)(he:PE X e te)(hp:PIp X op tip)(hs:MA X tset)(ha:∀ov iv new,augStore i ov iv new=(do holding [new,ov,iv] (setItem ov iv new);release [new,ov,iv] [];pure .next):=by intros;rfl):PS X (.AugAssign (.Subscript o i tpos) op e pos) (NH to ti te tget tip tset):=by
 intro pins s σ H D I h;refine wpAny_AugAssign_SubscriptAny (thn (ho pins s σ H _ I h) λov s1 ⟨x1,H1,I1,r1,q1⟩=>?_) ha;refine thn (hi pins s1 σ H1 _ I1 q1) λiv s2 ⟨x2,H2,I2,r2,q2⟩=>?_;refine thn (hg pins s2 σ H2 x1 x2 ov iv _ I2 r1 r2 q2) λold s3 ⟨x3,H3,I3,r3,q3⟩=>?_;refine thn (he pins s3 σ H3 _ I3 q3) λv s4 ⟨x4,H4,I4,r4,q4⟩=>?_;refine thn (hp pins s4 σ H4 x3 x4 old v _ I4 r3 r4 q4) λnew s5 ⟨x5,H5,I5,r5,q5⟩=>?_;exact thn (hs pins s5 σ H5 x1 x2 x5 ov iv new _ I5 r1 r2 r5 q5) λ_ s6 ⟨H6,I6,q6⟩=>⟨σ,H6,I6,q6⟩
def ipI(f:Int->Int->Int):TIp:=λx y H Q=>∃i j,x=.int i/\y=.int j/\Q (.int (f i j)) H
def K6:PIp X .Add (ipI λi j=>i+j):=by intro pins s σ H x y v u Q I r1 r2 h;obtain⟨i,j,e1,e2,q⟩:=h;subst e1;subst e2;obtain⟨t,rfl⟩:=r1;obtain⟨t',rfl⟩:=r2;exact iadd_int ⟨.int _,H,I.tok _,⟨_,rfl⟩,q⟩
def KI:PIp X .Sub (ipI λi j=>i - j):=by intro pins s σ H x y v u Q I r1 r2 h;obtain⟨i,j,e1,e2,q⟩:=h;subst e1;subst e2;obtain⟨t,rfl⟩:=r1;obtain⟨t',rfl⟩:=r2;exact isub_int ⟨.int _,H,I.tok _,⟨_,rfl⟩,q⟩
end
section
variable{pos:Pos}
noncomputable def JH(c:TT)(tb:TS):TS:=λD σ H=>∃W:Nat->St->Hp->Prop,(∃m,W m σ H)/\∀m σ H,W m σ H->
 c σ H λb H1=>if b=true then ∃N:St->Hp->Prop,(∀σ' H',N σ' H'->∃m',m'<m/\W m' σ' H')/\tb { D with nx:=N,ct:=N,bk:=D.nx } σ H1 else D.nx σ H1
def CY{c:Expr}{tc:TT}{tb:TS}(hp:PassesOwn (model X.prog X.w) X.A X.env X.xe)(hc:PT X c tc)(hb:PSs X body tb):PS X (.While c body [] pos) (JH tc tb):=by
 intro pins s σ H D I h;obtain⟨W,⟨m0,w0⟩,CO⟩:=h;refine wpAny_While (codeAny_whileLoop (λn s'=>∃σ' H',Inv X pins σ' H' s'/\W n σ' H') ?_ m0 ⟨σ,H,I,w0⟩);rintro n s1 ⟨σ1,H1,I1,w1⟩;refine n8 hp (thn (hc pins s1 σ1 H1 _ I1 (CO n σ1 H1 w1)) λb s2 ⟨H2,I2,q2⟩=>?_);cases b with
 |true=>
  obtain⟨N,hN,q2⟩:=q2;rw[if_pos rfl];refine n8 hp (thn (hb pins s2 σ1 H2 _ I2 q2) λf s3 q3=>?_);cases f with
  |next=>obtain⟨σ3,H3,I3,n3⟩:=q3;obtain⟨m',hm,w3⟩:=hN σ3 H3 n3;exact⟨m',hm,σ3,H3,I3,w3⟩
  |cont=>obtain⟨σ3,H3,I3,n3⟩:=q3;obtain⟨m',hm,w3⟩:=hN σ3 H3 n3;exact⟨m',hm,σ3,H3,I3,w3⟩
  |brk=>exact q3
  |ret v=>exact q3
 |false=>rw[if_neg wT];exact io ⟨σ1,H2,I2,q2⟩
end
structure It where
 go:Nat->Hp->Prop
 yld:Nat->Hp->V->Hp->Prop
 stop:Nat->Hp->Prop
noncomputable def qJ(X:Cx)(pins:List (Addr×Obj))(H:Hp)(b:Addr):Prop:=
 H b=none/\b≠X.env.locals/\b∉X.fs/\(b∈X.ex\/X.s₀.heap.objs.size<=b)/\(∀x c,X.env.cells.lookup x=some c->c≠b)/\∀p∈X.pn++pins,p.1≠b
def Inv.fpOk{b:Addr}(I:Inv X pins σ H s)(hb:s.heap.objs.size<=b)(hn:H' b=none):qJ X pins H' b:=by
 refine⟨hn,qM (v8 I.lt hb),I.nofs hb,.inr (xS I.sz hb),λx c e z=>?_,λp hp z=>?_⟩;·obtain⟨v,q⟩:=I.cell x c e;exact absurd (v8 q.lt (by rw[z];exact hb)) (qt _)
 ·exact absurd (v8 (zy (I.pin p hp).1) (by rw[z];exact hb)) (qt _)
structure Turn(P:Program)(w:World)(K:W.Frag)(tg:Expr)(J:It)(fp:List Addr)(it:Addr)(tn:Nat->Heap->Prop):Prop where
 mem:it∈fp
 obj:∀i h,tn i h->∀b∈fp,∃o,h.get? b=some o/\∀v,o.data≠.cell v
 keep:∀i h h',tn i h->(∀b∈fp,∀o,h.get? b=some o->h'.get? b=some o)->tn i h'
 item:∀(X:Cx),X.prog=P->X.w=w->X.K=K->X.calm=true->∀(i:Nat)(pins:List (Addr×Obj))(s:Shared)(σ:St)(H:Hp)(E:Value->Shared->Prop),Inv X pins σ H s->(∀b∈fp,qJ X pins H b)->tn i s.heap->J.go i H->
  wpAny (model P w) X.A (pyNext (.ref it)) (λr s1=>∃u,r=some u/\
   wpAny (model P w) X.A (letOwnedTupleGo tg (.ref it) u) (λ_ s2=>∃x H',Inv X pins σ H' s2/\RelV x u/\J.yld i H x H'/\tn (i+1) s2.heap/\∀b∈fp,H' b=none) E s1) E s
 done:∀(X:Cx),X.prog=P->X.w=w->X.K=K->X.calm=true->∀(i:Nat)(pins:List (Addr×Obj))(s:Shared)(σ:St)(H:Hp)(E:Value->Shared->Prop),Inv X pins σ H s->(∀b∈fp,qJ X pins H b)->tn i s.heap->J.stop i H->
  wpAny (model P w) X.A (pyNext (.ref it)) (λr s1=>r=none/\Inv X pins σ H s1) E s
 self:∀(A:Around)(i:Nat)(s:Shared)(Q:Value->Shared->Prop)(E:Value->Shared->Prop),tn i s.heap->Q (.ref it) s->wpAny (model P w) A (pyIter (.ref it)) Q E s
abbrev TI:=St->Hp->(It->Hp->Prop)->Prop
noncomputable def PIE(X:Cx)(pins:List (Addr×Obj))(σ:St)(tg:Expr)(R:It->Hp->Prop)(itv:Value)(s2:Shared):Prop:=
 ∃(it:Addr)(fp:List Addr)(tn:Nat->Heap->Prop)(J:It)(H':Hp),itv=.ref it/\Inv X pins σ H' s2/\Turn X.prog X.w X.K tg J fp it tn/\tn 0 s2.heap/\(∀b∈fp,qJ X pins H' b)/\R J H'
noncomputable def PI(X:Cx)(tg iter:Expr)(wi:TI):Prop:=
 ∀(pins:List (Addr×Obj))(s:Shared)(σ:St)(H:Hp)(R:It->Hp->Prop),Inv X pins σ H s->wi σ H R->
  wpAny (model X.prog X.w) X.A (eval iter X.env) (λv s1=>wpAny (model X.prog X.w) X.A (pyIter v) (PIE X pins σ tg R) X.xe s1) X.xe s
def AG{M : Model}{A : Around}{u : Value}{o : Obj}{n : String}{vs : Array Value}{Q : Unit -> Shared -> Prop}(ho : s.heap.get? it = some o)(hc : o.cls = .type n)(hd : o.data = .fields vs)(hn : ["enumerate", "zip", "dict_itemiterator", "dict_reverseitemiterator", "odict_iterator", "itertools.zip_longest", "itertools.pairwise"].contains n = false)(hQ : Q () s): wpAny M A (letOwnedTupleGo tg (.ref it) u) Q E s := by
  unfold letOwnedTupleGo;cases tg <;> first
    |exact zh hQ
    | (cases u <;> first
        |exact zh hQ
        | (refine z9 (wpAny_load ho ?_)
           rw[hc, hd];show wpAny M A (if (["enumerate", "zip", "dict_itemiterator", "dict_reverseitemiterator", "odict_iterator", "itertools.zip_longest", "itertools.pairwise"].contains n && vs[0]? == some (rawInt _)) = true then _ else _) Q E s;rw[if_neg (by intro h; rw[hn, Bool.false_and]at h; cases h)];exact zh hQ))

noncomputable def Itl(K:W.Frag)(a:Addr):It:=
 ⟨λi H=>∃xs x,SqL K H a xs/\xs[i]?=some x,λi H x H'=>H'=H/\∀xs,SqL K H a xs->xs[i]?=some x,λi H=>∃xs,SqL K H a xs/\xs.length<=i⟩
noncomputable def Itt(K:W.Frag)(a:Addr):It:=
 ⟨λi H=>∃xs x,SqT K H a xs/\xs[i]?=some x,λi H x H'=>H'=H/\∀xs,SqT K H a xs->xs[i]?=some x,λi H=>∃xs,SqT K H a xs/\xs.length<=i⟩
def Itr(lo:Int)(n:Nat):It:=⟨λi _=>i<n,λi H x H'=>H'=H/\x=.int (lo+i),λi _=>n<=i⟩
def BF{w:World}{K:W.Frag}(a it:Addr):Turn P w K tg (Itl K a) [it] it (λi h=>h.IsListIter it a i) where
 mem:=by simp
 obj:=λi h st b hb=>by
  have e:b=it:=by simpa using hb
  subst e;obtain⟨o,e,c,d⟩:=st;exact⟨o,e,λv z=>by rw[d]at z;cases z⟩
 keep:=λi h h' st k=>st.at λo e=>k it (by simp) o e
 item:=by intro X hP hw hK hc i pins s σ H E I hf st hg;subst hP hw hK;obtain⟨xs,x,hq,hx⟩:=hg;obtain⟨its,rv,p,hz⟩:=I.list hq;obtain⟨u,hu,ru⟩:=rv.get hx;obtain⟨f0,f1,f2,f3,f4,f5⟩:=hf it (by simp);refine wpAny_pyNext_list_item st p.isList (x:=u) (by simpa using hu) λh' st' sb=>?_;have I1:Inv X pins σ H { s with heap:=h' }:=I.turned (t':=s.toks) (λb o hb e=>(sb.2 b hb).trans e) f0 f1 f3 f4 f5;obtain⟨o,e,c,d⟩:=id st';exact⟨u,rfl,AG (s:={ s with heap:=h' }) e c d (by decide) ⟨x,H,I1,ru,⟨rfl,λys hy=>by rw[I.list_inj hy hq];exact hx⟩,st',λb hb=>(hf b hb).1⟩⟩
 done:=by intro X hP hw hK hc i pins s σ H E I hf st hg;subst hP hw hK;obtain⟨xs,hq,hx⟩:=hg;obtain⟨its,rv,p,hz⟩:=I.list hq;obtain⟨f0,f1,f2,f3,f4,f5⟩:=hf it (by simp);have hl:=rv.length;exact wpAny_pyNext_list_end (I.ok.hd hc) st p.isList (by simp;omega) λh' eb=>⟨rfl,I.turned (t':=s.toks) (λb o hb e=>eb b o hb e) f0 f1 f3 f4 f5⟩
 self:=λ_ _ _ _ _ st h=>wpAny_pyIter_listiter st h
def ze{w:World}{K:W.Frag}(a it:Addr):Turn P w K tg (Itt K a) [it] it (λi h=>h.IsTupleIter it a i) where
 mem:=by simp
 obj:=λi h st b hb=>by
  have e:b=it:=by simpa using hb
  subst e;obtain⟨o,e,c,d⟩:=st;exact⟨o,e,λv z=>by rw[d]at z;cases z⟩
 keep:=λi h h' st k=>st.at λo e=>k it (by simp) o e
 item:=by intro X hP hw hK hc i pins s σ H E I hf st hg;subst hP hw hK;obtain⟨xs,x,hq,hx⟩:=hg;obtain⟨its,rv,p,hz⟩:=I.tuple hq;obtain⟨u,hu,ru⟩:=rv.get hx;obtain⟨f0,f1,f2,f3,f4,f5⟩:=hf it (by simp);refine wpAny_pyNext_tuple_item st (show s.heap.IsTuple a its.toArray from p) (x:=u) (by simpa using hu) λh' st' sb=>?_;have I1:Inv X pins σ H { s with heap:=h' }:=I.turned (t':=s.toks) (λb o hb e=>(sb.2 b hb).trans e) f0 f1 f3 f4 f5;obtain⟨o,e,c,d⟩:=id st';exact⟨u,rfl,AG (s:={ s with heap:=h' }) e c d (by decide) ⟨x,H,I1,ru,⟨rfl,λys hy=>by rw[I.tuple_inj hy hq];exact hx⟩,st',λb hb=>(hf b hb).1⟩⟩
 done:=by intro X hP hw hK hc i pins s σ H E I hf st hg;subst hP hw hK;obtain⟨xs,hq,hx⟩:=hg;obtain⟨its,rv,p,hz⟩:=I.tuple hq;obtain⟨f0,f1,f2,f3,f4,f5⟩:=hf it (by simp);have hl:=rv.length;exact wpAny_pyNext_tuple_end (I.ok.hd hc) st (show s.heap.IsTuple a its.toArray from p) (by simp;omega) λh' eb=>⟨rfl,I.turned (t':=s.toks) (λb o hb e=>eb b o hb e) f0 f1 f3 f4 f5⟩
 self:=λ_ _ _ _ _ st h=>wpAny_pyIter_tupleiter st h
def yX{w:World}{K:W.Frag}(it:Addr)(lo:Int)(n:Nat):Turn P w K tg (Itr lo n) [it] it (λi h=>IsRangeIter h it (lo+(i:Nat) * 1) ((n:Int) - (i:Nat)) 1) where
 mem:=by simp
 obj:=λi h st b hb=>by
  have e:b=it:=by simpa using hb
  subst e;exact⟨_,st,λv z=>by have z':Data.fields _=Data.cell v:=z;cases z'⟩
 keep:=λi h h' st k=>k it (by simp) _ st
 item:=by intro X hP hw hK hc i pins s σ H E I hf st hg;subst hP hw hK;obtain⟨f0,f1,f2,f3,f4,f5⟩:=hf it (by simp);have W:=Walks.range (prog:=X.prog) (w:=X.w) (I.ok.hd hc) it lo 1 n;refine W.item i s _ _ hg st λv h' tk hv st' kk=>?_;obtain⟨t,rfl⟩:=hv;have I1:Inv X pins σ H { s with heap:=h',toks:=tk }:=I.turned (λb o hb e=>kk b o (by simpa using hb) e) f0 f1 f3 f4 f5;refine⟨_,rfl,AG (s:={ s with heap:=h',toks:=tk }) (n:="range_iterator") st' rfl rfl (by decide) ⟨.int (lo+i),H,I1,⟨t,?_⟩,⟨rfl,rfl⟩,st',λb hb=>(hf b hb).1⟩⟩;rw[Int.mul_one]
 done:=by intro X hP hw hK hc i pins s σ H E I hf st hg;subst hP hw hK;obtain⟨f0,f1,f2,f3,f4,f5⟩:=hf it (by simp);exact wpAny_pyNext_range_end (I.ok.hd hc) st (by have:n<=i:=hg;omega) λh' eb=>⟨rfl,I.turned (t':=s.toks) (λb o hb e=>eb b o hb e) f0 f1 f3 f4 f5⟩
 self:=λ_ _ _ _ _ st h=>wpAny_pyIter_rangeiter st h
section
def xZ{R:It->Hp->Prop}{lo hi:Int}{t u v:Tok}{tk:Nat}(I:Inv X pins σ H s)(h1 : -(2 ^ 62)<=lo)(h2:lo<2 ^ 62)(h3 : -(2 ^ 62)<=hi)(h4:hi<2 ^ 62)(q:R (Itr lo (hi - lo).toNat) H):wpAny (model X.prog X.w) X.A (pyIter (.ref s.heap.objs.size)) (PIE X pins σ tg R) E { s with heap:=s.heap.push { cls:=.type "range",data:=.fields #[.int lo t,.int hi u,.int 1 v] },toks:=tk }:=by
 refine wpAny_pyIter_range (IsRange.new ..) (small_one h1 h2 h3 h4) ?_;have I1:Inv X pins σ H { s with heap:=s.heap.push { cls:=.type "range",data:=.fields #[.int lo t,.int hi u,.int 1 v] },toks:=tk }:=I.kept λb o e=>zT _ e;refine⟨(s.heap.push { cls:=.type "range",data:=.fields #[.int lo t,.int hi u,.int 1 v] }).objs.size,[(s.heap.push { cls:=.type "range",data:=.fields #[.int lo t,.int hi u,.int 1 v] }).objs.size],_,_,H,rfl,
  I1.kept (t':=tk) λb o e=>zT _ e,yX _ lo (hi - lo).toNat,?_,λb hb=>?_,q⟩
 ·have e1:lo+((0:Nat):Int) * 1=lo:=by simp
  have e2:(((hi - lo).toNat:Nat):Int) - ((0:Nat):Int)=Builtin.Range.rangeSize lo hi 1:=by rw[rangeSize_one];split <;> omega
  show IsRangeIter _ _ (lo+((0:Nat):Int) * 1) ((((hi - lo).toNat:Nat):Int) - ((0:Nat):Int)) 1;rw[e1,e2];exact xG _ rfl
 ·have e:b=(s.heap.push { cls:=.type "range",data:=.fields #[.int lo t,.int hi u,.int 1 v] }).objs.size:=by simpa using hb
  subst e;exact I1.fpOk (zE _) (I1.hok.fresh (zE _))
noncomputable def M4(ta:TA):TI:=λσ H R=>ta σ H λvs H1=>∃j:Int,vs=[.int j]/\-(2 ^ 62)<=j/\j<2 ^ 62/\R (Itr 0 j.toNat) H1
noncomputable def NK(ta:TA):TI:=λσ H R=>ta σ H λvs H1=>∃i j:Int,vs=[.int i,.int j]/\(-(2 ^ 62)<=i/\i<2 ^ 62/\-(2 ^ 62)<=j/\j<2 ^ 62)/\R (Itr i (j - i).toNat) H1
def CC{a:Expr}{ta:TA}{pos:Pos}(hg:Gl X "range")(hm:X.mg "range"=none)(ha:PA X [a] ta)(hs:starEach [a] X.env=[(false,eval a X.env)]:=by rfl):PI X tg (.Call (.Name "range" p) [a] [] pos) (M4 ta):=by
 intro pins s σ H R I h;refine Call_ (mX I hg hm boot_range (callWith_type1 (thn (ha pos pins s σ H _ I h) λus s1 ⟨vs,H1,I1,r1,q1⟩=>?_) hs rfl));obtain⟨j,e,q1,q2,q⟩:=q1;subst e;cases r1 with
 |cons r rr=>cases rr;obtain⟨t,rfl⟩:=r;exact call_range_1 (xZ I1 (by omega) (by omega) q1 q2 (by simpa using q))
def Be{a b:Expr}{ta:TA}{pos:Pos}(hg:Gl X "range")(hm:X.mg "range"=none)(ha:PA X [a,b] ta)(hs:starEach [a,b] X.env=[(false,eval a X.env),(false,eval b X.env)]:=by rfl)(hs2:starEach [b] X.env=[(false,eval b X.env)]:=by rfl):
  PI X tg (.Call (.Name "range" p) [a,b] [] pos) (NK ta):=by
 intro pins s σ H R I h;refine Call_ (mX I hg hm boot_range (callWith_type1 (thn (ha pos pins s σ H _ I h) λus s1 ⟨vs,H1,I1,r1,q1⟩=>?_) (by rw[hs,hs2]) (by rw[hs2];rfl)));obtain⟨i,j,e,⟨q1,q2,q3,q4⟩,q⟩:=q1;subst e;cases r1 with
 |cons r rr=>
  cases rr with
  |cons r' rr=>cases rr;obtain⟨t,rfl⟩:=r;obtain⟨t',rfl⟩:=r';exact call_range_2 (xZ I1 q1 q2 q3 q4 q)
noncomputable def O8(wi:TI)(g:TG)(tb:TS):TS:=λD σ H=>wi σ H λJ H1=>∃W:Nat->Nat->St->Hp->Prop,(∃m,W 0 m σ H1)/\∀i m σ H,W i m σ H->
 (J.stop i H/\D.nx σ H)\/(J.go i H/\∃N:St->Hp->Prop,(∀σ' H',N σ' H'->∃m',m'<m/\W (i+1) m' σ' H')/\∀x H',J.yld i H x H'->g x σ H' λσ2 H2=>tb { D with nx:=N,ct:=N,bk:=D.nx } σ2 H2)
def gH(fp:List Addr)(h:Heap):List (Addr×Obj):=fp.filterMap λb=>(h.get? b).map λo=>(b,o)
def fy{b:Addr}{o:Obj}(hb:b∈fp)(e:h.get? b=some o):(b,o)∈gH fp h:=k6.mpr ⟨b,hb,by rw[e];rfl⟩
def Ax{p:Addr×Obj}(hp:p∈gH fp h):p.1∈fp/\h.get? p.1=some p.2:=by
 obtain⟨b,hb,e⟩:=k6.mp hp;cases q:h.get? b with
 |none=>rw[q]at e;cases e
 |some o=>rw[q]at e;have e':(b,o)=p:=xz e;subst e';exact⟨hb,q⟩
def Inv.pinned(I:Inv X pins σ H s)(hf:∀b∈fp,qJ X pins H b)(ho:∀b∈fp,∃o,s.heap.get? b=some o/\∀v,o.data≠.cell v):Inv X (pins++gH fp s.heap) σ H s:=
 I.pins_of λp hp=>(List.mem_append.mp hp).elim (λz=>I.pin p (q9 _ z)) λz=>by obtain⟨hb,e⟩:=Ax z;obtain⟨f0,f1,f2,_⟩:=hf p.1 hb;obtain⟨o,e',d⟩:=ho p.1 hb;rw[e]at e';cases e';exact⟨e,f0,f1,f2,d⟩
def Inv.unpinned{pl:List (Addr×Obj)}(I:Inv X (pins++pl) σ H s):Inv X pins σ H s:=I.pins_of λp hp=>I.pin p (q9 _ (mP _ hp))
def FT{wi:TI}{g:TG}{tb:TS}{pos:Pos}(hp:PassesOwn (model X.prog X.w) X.A X.env X.xe)(hc:X.calm=true)(hi:PI X tg iter wi)(hg:PG X tg g)(hb:PSs X body tb)(hs:∀x,foldedSetIterable iter X.env x=pure x:=by intro _;rfl):PS X (.For tg iter body [] pos) (O8 wi g tb):=by
 intro pins s σ H D I h;refine wpAny_For (thn (hi pins s σ H _ I h) λv s1 h1=>thn h1 λitv s2 h2=>?_) hs;obtain⟨it,fp,tn,J,H2,e,I2,T,st2,f2,W,⟨m0,w0⟩,CO⟩:=h2;subst e;have stat:∀{H':Hp},(∀b∈fp,H' b=none)->∀b∈fp,qJ X pins H' b:=λhn b hb=>⟨hn b hb,(f2 b hb).2⟩
 refine codeAny_forLoop_any (λn s'=>∃i σ' H',Inv X pins σ' H' s'/\tn i s'.heap/\(∀b∈fp,H' b=none)/\W i n σ' H') ?_ m0 ⟨0,σ,H2,I2,st2,λb hb=>(f2 b hb).1,w0⟩;rintro n s3 ⟨i,σ3,H3,I3,st3,fr3,w3⟩;rcases CO i n σ3 H3 w3 with⟨stop,qn⟩|⟨go,N,hN,step⟩
 ·refine n8 hp (thn (T.done X rfl rfl rfl hc i pins s3 σ3 H3 X.xe I3 (stat fr3) st3 stop) λr s4 ⟨hr,I4⟩=>?_);subst hr;exact io ⟨σ3,H3,I4,qn⟩
 ·refine n8 hp (thn (T.item X rfl rfl rfl hc i pins s3 σ3 H3 X.xe I3 (stat fr3) st3 go) λr s4 ⟨u,hr,h4⟩=>?_);subst hr;refine n8 hp (thn h4 λ_ s5 ⟨x,H5,I5,r5,y5,st5,fr5⟩=>?_);have I5':=I5.pinned (stat fr5) (T.obj _ _ st5);refine n8 hp (thn (hg _ s5 σ3 H5 x u _ I5' r5 (step x H5 y5)) λ_ s6 ⟨σ6,H6,I6,q6⟩=>?_);refine n8 hp (thn (hb _ s6 σ6 H6 _ I6 q6) λf s7 q7=>?_);have again:∀{σ7:St}{H7:Hp},Inv X (pins++gH fp s5.heap) σ7 H7 s7->N σ7 H7->∃m,m<n/\∃i σ' H',Inv X pins σ' H' s7/\tn i s7.heap/\(∀b∈fp,H' b=none)/\W i m σ' H':=λ{σ7 H7} I7 n7=>by obtain⟨m',hm,w7⟩:=hN σ7 H7 n7;refine⟨m',hm,i+1,σ7,H7,I7.unpinned,T.keep _ _ _ st5 λb hb o e=>(I7.pin (b,o) (q9 _ (q9 _ (fy hb e)))).1,λb hb=>?_,w7⟩;obtain⟨o,e,d⟩:=T.obj _ _ st5 b hb;exact(I7.pin (b,o) (q9 _ (q9 _ (fy hb e)))).2.1
  cases f with
  |next=>obtain⟨σ7,H7,I7,n7⟩:=q7;exact again I7 n7
  |cont=>obtain⟨σ7,H7,I7,n7⟩:=q7;exact again I7 n7
  |brk=>obtain⟨σ7,H7,I7,q7⟩:=q7;exact⟨σ7,H7,I7.unpinned,q7⟩
  |ret v=>obtain⟨x7,σ7,H7,I7,r7,q7⟩:=q7;exact⟨x7,σ7,H7,I7.unpinned,r7,q7⟩
end
abbrev R2:=V->V->Hp->VK->Prop
noncomputable def OpR(X:Cx)(f:Value->Value->Sem Value)(r:R2):Prop:=
 ∀(pins:List (Addr×Obj))(s:Shared)(σ:St)(H:Hp)(x y:V)(v u:Value)(Q:VK),Inv X pins σ H s->RelV x v->RelV y u->r x y H Q->
  wpAny (model X.prog X.w) X.A (f v u) (EP X pins σ Q) X.xe s
noncomputable def UnR(X:Cx)(f:Value->Sem Value)(r:V->Hp->VK->Prop):Prop:=
 ∀(pins:List (Addr×Obj))(s:Shared)(σ:St)(H:Hp)(x:V)(v:Value)(Q:VK),Inv X pins σ H s->RelV x v->r x H Q->
  wpAny (model X.prog X.w) X.A (f v) (EP X pins σ Q) X.xe s
noncomputable def ky(X:Cx)(f:Value)(r:List V->Hp->VK->Prop):Prop:=
 ∀(pins:List (Addr×Obj))(s:Shared)(σ:St)(H:Hp)(xs:List V)(us:List Value)(Q:VK),Inv X pins σ H s->Vals xs us->r xs H Q->
  wpAny (model X.prog X.w) X.A (call f us) (EP X pins σ Q) X.xe s
noncomputable def P3(X:Cx)(r:V->Hp->(Bool->Hp->Prop)->Prop):Prop:=
 ∀(pins:List (Addr×Obj))(s:Shared)(σ:St)(H:Hp)(x:V)(v:Value)(Q:Bool->Hp->Prop),Inv X pins σ H s->RelV x v->r x H Q->
  wpAny (model X.prog X.w) X.A (truthy v) (TP X pins σ Q) X.xe s
def tOp(r:R2)(ta tb:TE):TE:=λσ H Q=>ta σ H λx H1=>tb σ H1 λy H2=>r x y H2 Q
def tUn(r:V->Hp->VK->Prop)(ta:TE):TE:=λσ H Q=>ta σ H λx H1=>r x H1 Q
def rI(C:Int->Int->Prop)(g:Int->Int->V):R2:=λx y H Q=>∃i j,x=.int i/\y=.int j/\C i j/\Q (g i j) H
def rI0(g:Int->Int->V):R2:=λx y H Q=>∃i j,x=.int i/\y=.int j/\Q (g i j) H
def rU(g:Int->V):V->Hp->VK->Prop:=λx H Q=>∃i,x=.int i/\Q (g i) H
section
variable{a b c:Expr}{ta tb tc:TE}{pos:Pos}
def NQ(ha:PE X a ta)(hb:PE X b tb){R:V->V->Hp->Prop}(I:Inv X pins σ H s)(h:ta σ H λx H1=>tb σ H1 λy H2=>R x y H2){Q:Value->Shared->Prop}{f:Value->Value->Sem Value}(hf:∀v u s2 x y H2,Inv X pins σ H2 s2->RelV x v->RelV y u->R x y H2->wpAny (model X.prog X.w) X.A (f v u) Q X.xe s2):
  wpAny (model X.prog X.w) X.A (eval a X.env) (λv s₁=>wpAny (model X.prog X.w) X.A (eval b X.env) (λu s₂=>wpAny (model X.prog X.w) X.A (f v u) Q X.xe s₂) X.xe s₁) X.xe s:=by
 refine thn (ha pins s σ H _ I h) λv s1 ⟨x,H1,I1,r1,q1⟩=>?_;refine thn (hb pins s1 σ H1 _ I1 q1) λu s2 ⟨y,H2,I2,r2,q2⟩=>?_;exact hf v u s2 x y H2 I2 r1 r2 q2
def N3{op:Operator}{r:R2}(ho:OpR X (binaryOp op) r)(ha:PE X a ta)(hb:PE X b tb):PE X (.BinOp a op b pos) (tOp r ta tb):=by intro pins s σ H Q I h;exact wpAny_BinOp (NQ ha hb I h λv u s2 x y H2 I2 rx ry q=>ho pins s2 σ H2 x y v u Q I2 rx ry q)
def MU{op:UnaryOp}{r:V->Hp->VK->Prop}(ho:UnR X (unaryOp op) r)(ha:PE X a ta):PE X (.UnaryOp op a pos) (tUn r ta):=by intro pins s σ H Q I h;exact UnaryOp_ (thn (ha pins s σ H _ I h) λv s1 ⟨x,H1,I1,r1,q1⟩=>ho pins s1 σ H1 x v Q I1 r1 q1)
def opI{f:Value->Value->Sem Value}{C:Int->Int->Prop}{g:Int->Int->Int}(rule:∀(i j:Int)(t u:Tok)(s:Shared)(Q:Value->Shared->Prop)(E:Value->Shared->Prop),C i j->Q (.int (g i j) s.toks) { s with toks:=s.toks+1 }->wpAny (model X.prog X.w) X.A (f (.int i t) (.int j u)) Q E s):
  OpR X f (rI C λi j=>.int (g i j)):=by
 intro pins s σ H x y v u Q I rx ry h;obtain⟨i,j,rfl,rfl,hc,q⟩:=h;obtain⟨t,rfl⟩:=rx;obtain⟨t',rfl⟩:=ry;exact rule i j t t' s _ _ hc ⟨.int (g i j),H,I.tok _,⟨_,rfl⟩,q⟩
def OE{f:Value->Value->Sem Value}{g:Int->Int->Int}(rule:∀(i j:Int)(t u:Tok)(s:Shared)(Q:Value->Shared->Prop)(E:Value->Shared->Prop),Q (.int (g i j) s.toks) { s with toks:=s.toks+1 }->wpAny (model X.prog X.w) X.A (f (.int i t) (.int j u)) Q E s):
  OpR X f (rI0 λi j=>.int (g i j)):=by
 intro pins s σ H x y v u Q I rx ry h;obtain⟨i,j,rfl,rfl,q⟩:=h;obtain⟨t,rfl⟩:=rx;obtain⟨t',rfl⟩:=ry;exact rule i j t t' s _ _ ⟨.int (g i j),H,I.tok _,⟨_,rfl⟩,q⟩
def Mu{f:Value->Value->Sem Value}{g:Int->Int->Bool}(rule:∀(i j:Int)(t u:Tok)(s:Shared)(Q:Value->Shared->Prop)(E:Value->Shared->Prop),Q (.bool (g i j)) s->wpAny (model X.prog X.w) X.A (f (.int i t) (.int j u)) Q E s):
  OpR X f (rI0 λi j=>.bl (g i j)):=by
 intro pins s σ H x y v u Q I rx ry h;obtain⟨i,j,rfl,rfl,q⟩:=h;obtain⟨t,rfl⟩:=rx;obtain⟨t',rfl⟩:=ry;exact rule i j t t' s _ _ ⟨.bl (g i j),H,I,rfl,q⟩
def Qm(i j:Int):Prop:=0<j/\j<1073741824
def CMul(i j:Int):Prop:=(-(2 ^ 64)<i/\i<2 ^ 64)\/(-(2 ^ 64)<j/\j<2 ^ 64)
def CMul.ok{i j:Int}(h:CMul i j):IntMulOk i j:=by
 rcases h with⟨h1,h2⟩|⟨h1,h2⟩;·exact .of_left (intBits_le_64 h1 h2)
 ·exact .of_right (intBits_le_64 h1 h2)
def op_add:OpR X (binaryOp .Add) (rI0 λi j=>.int (i+j)):=OE λ_ _ _ _ _ _ _ q=>add_int q
def Jy:OpR X (binaryOp .Sub) (rI0 λi j=>.int (i - j)):=OE λ_ _ _ _ _ _ _ q=>sub_int q
def op_mul:OpR X (binaryOp .Mult) (rI CMul λi j=>.int (i * j)):=opI λ_ _ _ _ _ _ _ hc q=>mul_int q hc.ok
def Hx:OpR X (binaryOp .FloorDiv) (rI Qm λi j=>.int (i / j)):=opI λi j _ _ _ _ _ hc q=>by have h1:(0:Int)<j:=hc.1;have h2:j<1073741824:=hc.2;exact floordiv_int (by omega) (by rw[Int.fdiv_eq_ediv_of_nonneg i (by omega)];exact q) (.inl (PyProof.noPylong_small (by omega)))
def Ju:OpR X (binaryOp .Mod) (rI (λ_ j=>0<j) λi j=>.int (i % j)):=opI λi j _ _ _ _ _ hc q=>by have h1:(0:Int)<j:=hc;exact mod_int' (by omega) (by rw[Int.fmod_eq_emod_of_nonneg i (by omega)];exact q)
def unI{f:Value->Sem Value}{g:Int->Int}(rule:∀(i:Int)(t:Tok)(s:Shared)(Q:Value->Shared->Prop)(E:Value->Shared->Prop),Q (.int (g i) s.toks) { s with toks:=s.toks+1 }->wpAny (model X.prog X.w) X.A (f (.int i t)) Q E s):
  UnR X f (rU λi=>.int (g i)):=by
 intro pins s σ H x v Q I rx h;obtain⟨i,rfl,q⟩:=h;obtain⟨t,rfl⟩:=rx;exact rule i t s _ _ ⟨.int (g i),H,I.tok _,⟨_,rfl⟩,q⟩
def KA:UnR X (unaryOp .USub) (rU λi=>.int (-i)):=unI λ_ _ _ _ _ q=>neg_int q
end
section
variable{a b c:Expr}{ta tb tc:TE}{pos:Pos}
def yF{Q:VK}{k k':Bool}(I:Inv X pins σ H s)(q:Q (.bl k) H)(e:k=k'):EP X pins σ Q (.bool k') s:=by subst e;exact⟨.bl k,H,I,rfl,q⟩
def op_lt:OpR X (compareOp .Lt) (rI0 λi j=>.bl (decide (i<j))):=Mu λ_ _ _ _ _ _ _ q=>lt_int q
def op_le:OpR X (compareOp .LtE) (rI0 λi j=>.bl (decide (i<=j))):=Mu λ_ _ _ _ _ _ _ q=>le_int q
def NJ:OpR X (compareOp .Gt) (rI0 λi j=>.bl (decide (j<i))):=Mu λ_ _ _ _ _ _ _ q=>gt_int q
def Nx:OpR X (compareOp .GtE) (rI0 λi j=>.bl (decide (j<=i))):=Mu λ_ _ _ _ _ _ _ q=>ge_int q
def Ad:OpR X (compareOp .Lt) (λx y H Q=>∃i j,x=.str i/\y=.str j/\Q (.bl (decide (i.cps.toList<j.cps.toList))) H):=by intro pins s σ H x y v u Q I rx ry h;obtain⟨i,j,rfl,rfl,q⟩:=h;obtain⟨t,rfl⟩:=rx;obtain⟨t',rfl⟩:=ry;exact lt_str (yF I q rfl)
def A4:OpR X (compareOp .In) (λx y H Q=>∃i j,x=.str i/\y=.str j/\Q (.bl (!(Builtin.Str.occurrences j i 0 j.length 1).isEmpty)) H):=by intro pins s σ H x y v u Q I rx ry h;obtain⟨i,j,rfl,rfl,q⟩:=h;obtain⟨t,rfl⟩:=rx;obtain⟨t',rfl⟩:=ry;exact in_str (yF I q rfl)
def op_isN:OpR X (compareOp .Is) (λx y H Q=>y=.non/\Q (.bl (decide (x=.non))) H):=by
 intro pins s σ H x y v u Q I rx ry h;obtain⟨rfl,q⟩:=h;cases ry;refine is_none_gen (yF I q ?_);cases x <;> first
  | (cases rx;rfl)
  | (obtain⟨t,rfl⟩:=rx;rfl)
def OpR.or{f:Value->Value->Sem Value}{r r':R2}(h:OpR X f r)(h':OpR X f r'):OpR X f (λx y H Q=>r x y H Q\/r' x y H Q):=by
 intro pins s σ H x y v u Q I rx ry q;rcases q with q|q;·exact h pins s σ H x y v u Q I rx ry q
 ·exact h' pins s σ H x y v u Q I rx ry q
def iL(b:Expr){op:CmpOp}(h:op≠.In:=by decide)(h2:op≠.NotIn:=by decide):behindInMarks op b=false:=by
 have e1:(op==CmpOp.In)=false:=by cases op <;> first|rfl|exact absurd rfl h
 have e2:(op==CmpOp.NotIn)=false:=by cases op <;> first|rfl|exact absurd rfl h2
 cases b <;> simp[behindInMarks,e1,e2]
def B8{op:CmpOp}{r:R2}(ho:OpR X (compareOp op) r)(ha:PE X a ta)(hb:PE X b tb)(hm:behindInMarks op b=false):PE X (.Compare a [op] [b] pos) (tOp r ta tb):=by intro pins s σ H Q I h;exact wpAny_Compare1 (NQ ha hb I h λv u s2 x y H2 I2 rx ry q=>ho pins s2 σ H2 x y v u Q I2 rx ry q) hm
def KO(t:TE):TT:=λσ H Q=>t σ H λx H'=>∃k,x=.bl k/\Q k H'
def IS{op:CmpOp}{r:R2}(ho:OpR X (compareOp op) r)(ha:PE X a ta)(hb:PE X b tb)(hm:behindInMarks op b=false):PT X (.Compare a [op] [b] pos) (KO (tOp r ta tb)):=by intro pins s σ H Q I h;refine wpAny_isTrue_Compare1 (thn (ha pins s σ H _ I h) λv s1 ⟨x,H1,I1,r1,q1⟩=>thn (hb pins s1 σ H1 _ I1 q1) λu s2 ⟨y,H2,I2,r2,q2⟩=>thn (ho pins s2 σ H2 x y v u _ I2 r1 r2 q2) λc s3 ⟨z,H3,I3,r3,k,e,q3⟩=>?_) hm;subst e;cases r3;exact qE ⟨H3,I3,q3⟩
noncomputable def Gh(r r':R2)(ta tb tc:TE):TE:=λσ H Q=>ta σ H λx H1=>tb σ H1 λy H2=>r x y H2 λz H3=>∃k,z=.bl k/\
 (if k=true then tc σ H3 λw' H4=>r' y w' H4 Q else Q (.bl false) H3)
def D3{op op':CmpOp}{r r':R2}(ho:OpR X (compareOp op) r)(ho':OpR X (compareOp op') r')(ha:PE X a ta)(hb:PE X b tb)(hc:PE X c tc)(hm:lastMarks [op,op'] [b,c]=false:=by with_unfolding_all rfl):PE X (.Compare a [op,op'] [b,c] pos) (Gh r r' ta tb tc):=by
 intro pins s σ H Q I h;refine Compare_chain (thn (ha pins s σ H _ I h) λv s1 ⟨x,H1,I1,r1,q1⟩=>chain_link (thn (hb pins s1 σ H1 _ I1 q1) λu s2 ⟨y,H2,I2,r2,q2⟩=>thn (ho pins s2 σ H2 x y v u _ I2 r1 r2 q2) λd s3 ⟨z,H3,I3,r3,k,e,q3⟩=>?_)) hm;subst e;cases r3;refine qE ?_;cases k with
 |false=>exact ite_ff ⟨.bl false,H3,I3,rfl,q3⟩
 |true=>exact ite_tt (chain_last (thn (hc pins s3 σ H3 _ I3 q3) λw' s4 ⟨z',H4,I4,r4,q4⟩=>ho' pins s4 σ H4 y z' u w' Q I4 r2 r4 q4))
def D4{op op':CmpOp}{r r':R2}(ho:OpR X (compareOp op) r)(ho':OpR X (compareOp op') r')(ha:PE X a ta)(hb:PE X b tb)(hc:PE X c tc)(hm:lastMarks [op,op'] [b,c]=false:=by with_unfolding_all rfl):PT X (.Compare a [op,op'] [b,c] pos) (KO (Gh r r' ta tb tc)):=by
 intro pins s σ H Q I h;refine isTrue_chain (thn (ha pins s σ H _ I h) λv s1 ⟨x,H1,I1,r1,q1⟩=>test_link (thn (hb pins s1 σ H1 _ I1 q1) λu s2 ⟨y,H2,I2,r2,q2⟩=>thn (ho pins s2 σ H2 x y v u _ I2 r1 r2 q2) λd s3 ⟨z,H3,I3,r3,k,e,q3⟩=>?_)) hm;subst e;cases r3;refine qE ?_;cases k with
 |false=>obtain⟨k',e',q'⟩:=q3;cases e';exact ite_ff ⟨H3,I3,q'⟩
 |true=>refine ite_tt (test_last (thn (hc pins s3 σ H3 _ I3 q3) λw' s4 ⟨z',H4,I4,r4,q4⟩=>thn (ho' pins s4 σ H4 y z' u w' _ I4 r2 r4 q4) λd' s5 ⟨z2,H5,I5,r5,k2,e2,q5⟩=>?_));subst e2;cases r5;exact qE ⟨H5,I5,q5⟩
noncomputable def O5(K:W.Frag)(x:V)(H:Hp)(k:Bool):Prop:=
 match x with
 |.non=>k=false
 |.bl b=>k=b
 |.int i=>k=(i != 0)
 |.str y=>y.length<=sizeLine/\k=((y.length:Int) != 0)
 |.byt y=>y.size<=sizeLine/\k=((y.size:Int) != 0)
 |.ref p=>(∃xs,SqL K H p xs/\k = !xs.isEmpty)\/(∃xs,SqT K H p xs/\k = !xs.isEmpty)\/∃kvs,H p=some (.dK kvs)/\k = !kvs.isEmpty
 |_=>False
def zV{κ:Type}{kvs:List (κ×V)}{vs:List (κ×Value)}(r:KV kvs vs):(!vs.isEmpty) = !kvs.isEmpty:=by cases r <;> rfl
def rB(r:Vals xs its):(!its.toArray.isEmpty) = !xs.isEmpty:=by cases r <;> simp
def mF:(sizeLine:Nat)<2 ^ 63:=by rw[k7];decide
def LC:P3 X (λx H Q=>∃k,O5 X.K x H k/\Q k H):=by
 intro pins s σ H x v Q I rx h;obtain⟨k,e,q⟩:=h;have hl:=mF;have hs:sizeLine=16777216:=k7;cases x with
 |non=>cases rx;have e':k=false:=e;subst e';exact truthy_none ⟨H,I,q⟩
 |bl b=>cases rx;have e':k=b:=e;subst e';exact qE ⟨H,I,q⟩
 |int i=>obtain⟨t,rfl⟩:=rx;have e':k=(i != 0):=e;subst e';exact PySem.P.truthy_int ⟨H,I,q⟩
 |str y=>obtain⟨t,rfl⟩:=rx;obtain⟨hy,e'⟩:y.length<=sizeLine/\k=((y.length:Int) != 0):=e;subst e';exact PySem.P.truthy_str (by omega) ⟨H,I.tok _,q⟩
 |byt y=>obtain⟨t,rfl⟩:=rx;obtain⟨hy,e'⟩:y.size<=sizeLine/\k=((y.size:Int) != 0):=e;subst e';exact W.truthy_bytes (by omega) ⟨H,I.tok _,q⟩
 |ref p=>
  cases rx;have e':(∃xs,SqL X.K H p xs/\k = !xs.isEmpty)\/(∃xs,SqT X.K H p xs/\k = !xs.isEmpty)\/∃kvs,H p=some (.dK kvs)/\k = !kvs.isEmpty:=e;rcases e' with⟨xs,hx,e'⟩|⟨xs,hx,e'⟩|⟨kvs,hx,e'⟩
  ·subst e';obtain⟨its,r,pl,hz⟩:=I.list hx;have hlen:=r.length;exact wpAny_truthy_list pl.isList (by simp only[xm];omega) ⟨H,I.tok _,by rw[rB r];exact q⟩
  ·subst e';obtain⟨its,r,pl,hz⟩:=I.tuple hx;have hlen:=r.length;exact truthy_tuple pl (by simp only[xm];omega) ⟨H,I.tok _,by rw[rB r];exact q⟩
  ·subst e';obtain⟨hz,hS,vs,r,m⟩:kvs.length<=sizeLine/\(p==sysModules)=false/\∃vs,KV kvs vs/\s.heap.DictOf (sG X.prog X.w) p vs:=I.hok p _ hx;have hlen:kvs.length=vs.length:=Paired.length r;exact wpAny_truthy_dict hS m (by omega) ⟨H,I.tok _,by rw[zV r];exact q⟩
 |_=>exact(show False from e).elim
def Di(ha:PE X a ta)(he:∀whole,isTrue a X.env whole=(do let v <- whole;standAt a.pos;holding [v] (truthy v))):
  PT X a (λσ H Q=>ta σ H λx H'=>∃k,O5 X.K x H' k/\Q k H'):=by
 intro pins s σ H Q I h;exact isTrue_plain (thn (ha pins s σ H _ I h) λv s1 ⟨x,H1,I1,r1,q1⟩=>LC pins s1 σ H1 x v Q I1 r1 q1) (he _)
def op_add_str:OpR X (binaryOp .Add) (λx y H Q=>∃i j,x=.str i/\y=.str j/\i.length+j.length<=sizeLine/\Q (.str (i++j)) H):=by intro pins s σ H x y v u Q I rx ry h;obtain⟨i,j,rfl,rfl,hz,q⟩:=h;obtain⟨t,rfl⟩:=rx;obtain⟨t',rfl⟩:=ry;exact add_str (λt' tk=>⟨.str (i++j),H,I.tok _,⟨_,rfl⟩,q⟩) hz
def Km{x:V}(r:Vals [x] us):∃u,us=[u]/\RelV x u:=by
 cases r with
 |cons r1 r2=>cases r2;exact⟨_,rfl,r1⟩
def Nl{x y:V}(r:Vals [x,y] us):∃u w',us=[u,w']/\RelV x u/\RelV y w':=by
 cases r with
 |cons r1 r2=>
  cases r2 with
  |cons r3 r4=>cases r4;exact⟨_,_,rfl,r1,r3⟩
def AM(hc:X.calm=true):ky X (.builtin "min") (λxs H Q=>∃i j,xs=[.int i,.int j]/\Q (.int (if j<i then j else i)) H):=by
 intro pins s σ H xs us Q I r h;obtain⟨i,j,rfl,q⟩:=h;obtain⟨u,w',rfl,⟨t,rfl⟩,⟨t',rfl⟩⟩:=Nl r;refine min_two_ints (I.ok.hd hc) λh' tk k=>⟨_,H,I.kept k,?_,q⟩
 by_cases hj:j<i;·rw[if_pos hj,if_pos hj];exact⟨_,rfl⟩
 ·rw[if_neg hj,if_neg hj];exact⟨_,rfl⟩
noncomputable def Pk(K:W.Frag)(x:V)(H:Hp)(n:Nat):Prop:=
 match x with
 |.str y=>y.length<=sizeLine/\n=y.length
 |.byt y=>y.size<=sizeLine/\n=y.size
 |.ref p=>(∃xs,SqL K H p xs/\n=xs.length)\/∃xs,SqT K H p xs/\n=xs.length
 |_=>False
def Fo:ky X (.builtin "len") (λxs H Q=>∃x n,xs=[x]/\Pk X.K x H n/\Q (.int n) H):=by
 intro pins s σ H xs us Q I r h;obtain⟨x,n,rfl,e,q⟩:=h;obtain⟨u,rfl,rx⟩:=Km r;have hl:=mF;have hs:sizeLine=16777216:=k7;cases x with
 |str y=>obtain⟨t,rfl⟩:=rx;obtain⟨hy,e'⟩:y.length<=sizeLine/\n=y.length:=e;subst e';exact len_str (by omega) ⟨.int _,H,I.tok _,⟨_,rfl⟩,q⟩
 |byt y=>obtain⟨t,rfl⟩:=rx;obtain⟨hy,e'⟩:y.size<=sizeLine/\n=y.size:=e;subst e';exact W.len_bytes (by omega) ⟨.int _,H,I.tok _,⟨_,rfl⟩,q⟩
 |ref p=>
  cases rx;have e':(∃xs,SqL X.K H p xs/\n=xs.length)\/∃xs,SqT X.K H p xs/\n=xs.length:=e;rcases e' with⟨xs,hx,e'⟩|⟨xs,hx,e'⟩
  ·subst e';obtain⟨its,r',pl,hz⟩:=I.list hx;have hlen:=r'.length;exact Calls.call_len_list pl.isList (by simp only[xm];omega) ⟨.int xs.length,H,I.tok _,⟨_,by simp only[xm];rw[hlen]⟩,q⟩
  ·subst e';obtain⟨its,r',pl,hz⟩:=I.tuple hx;have hlen:=r'.length;exact len_tuple pl (by simp only[xm];omega) ⟨.int xs.length,H,I.tok _,⟨_,by simp only[xm];rw[hlen]⟩,q⟩
 |_=>exact(show False from e).elim
end
structure ObjM(h:Heap)(x dx C:Addr)(mA:Str->Option Value):Prop where
 obj:h.get? x=some (W.instObj C dx)
 ns:h.Ns1 dx mA
 ne:dx≠x
def Cm{dx:Addr}(n:h.Ns1 dx mA):∃od,h.get? dx=some od/\∀name,W.lookIn name od=some (mA name):=by
 obtain⟨o,es,ep,ho,hd,hk,_,hm⟩:=n;refine⟨o,ho,λname=>?_⟩;have e:=hm name;unfold nsFind findBy at e;rw[<- Array.find?_toList]at e;unfold W.lookIn;rw[hd];dsimp only;split;·rename_i y q;rw[q]at e;exact t6 some e
 ·rename_i q;rw[q]at e;have a:es.toList.any (·.refKey)=false:=by rw[List.any_eq_false];intro y hy;obtain⟨z,t,hkey⟩:=hk y (Array.mem_toList_iff.mp hy);simp[DictEntry.refKey,hkey]
  have a' : ¬ es.toList.any (·.refKey)=true:=by rw[a];exact wT
  rw[if_neg a'];exact t6 some e
def ObjM.look{x dx:Addr}(I:ObjM h x dx C mA):∃od,W.InstAt h x (W.instObj C dx) C (some od)/\∀name,W.lookIn name od=some (mA name):=
 let⟨od,ho,hl⟩:=Cm I.ns
 ⟨od,⟨I.obj,rfl,rfl,ho⟩,hl⟩
section
variable{prog:Program}{w:World}{A:Around}{K:W.Frag}{x dx:Addr}{name:Str}{v:Value}
def H9{expr:Bool}{Q:Value->Shared->Prop}(X:K.In s.heap)(I:ObjM s.heap x dx C mA)(hg:W.plainGet K C name=true)(hh:W.hasDictIn K C=true)(ha:W.findIn K (.ref C) name=some none)(hv:mA name=some v)(hv':W.handedIn v=true)(h:Q v { s with toks:=s.toks+1 }):
  wpAny (model prog w) A (getAttr (.ref x) name expr) Q E s:=by
 obtain⟨od,J,hl⟩:=I.look;exact W.get_value X J (W.plainGet_of hg).1 (W.findObj_own hh ha rfl (by rw[hl,hv])) hv' h
def E3{pl:Sem Bool}{Q:Value×List Value->Shared->Prop}(X:K.In s.heap)(I:ObjM s.heap x dx C mA)(hg:W.plainGet K C name=true)(hf:W.findIn K (.ref C) name=some (some (.ref f)))(ht:W.isFn K (.ref f)=true)(hv:mA name=none)(h:Q (.ref f,[.ref x]) s):
  wpAny (model prog w) A (getMethod (.ref x) name pl) Q E s:=by
 obtain⟨od,J,hl⟩:=I.look;exact W.method_fn X J (W.plainGet_of hg).1 (W.plainGet_of hg).2 hf (qb.mp ht) (by show(W.lookIn name od).map (·.isSome)=some false;rw[hl,hv];rfl) h
def IH{ns:List Str}{Q:Unit->Shared->Prop}(X:K.In s.heap)(I:ObjM s.heap x dx C mA)(hs:W.findIn K (.ref C) "__setattr__"=some (some (.builtin "object.__setattr__")))(hp:W.plainOver K C=true)(ht:W.takerIn K C name=some none)(hh:W.hasDictIn K C=true)(hw:PySem.Within mA ns)(hsz:ns.length<=sizeLine)(h:∀h',ObjM h' x dx C (λy=>if y=name then some v else mA y)->Heap.SameBut dx s.heap h'->Q () { s with heap:=h',toks:=s.toks+2 }):
  wpAny (model prog w) A (setAttr (.ref x) name v) Q E s:=by
 obtain⟨od,J,hl⟩:=I.look;refine W.set_plain X J hs (W.osa_open (s:={ s with toks:=s.toks+1 }) (r:=none) X J hp ht λb=>?_);obtain⟨cd,hc,hd'⟩:=W.any_some hh;have hx:s.heap.get? x=some ⟨.ref C,some dx,.plain,#[]⟩:=I.obj;refine z9 (zh (z9 (z9 (wpAny_loadPart hx (z9 (W.Looks.here (s:={ s with toks:=s.toks+1 }) (W.looks_clsIn X hc) ?_))))));rw[hd'];refine zh (a:=some dx) (z9 (zh (z9 ?_)));refine wpAny_nsSet1 (s:={ s with toks:=s.toks+1 }) I.ns λh' hn2 hs2=>?_;obtain⟨oD,esD,epD,hoD,hdD,hcD⟩:=hn2.count (PySem.Within.cons name v hw);refine z9 (wpAny_lookBehind hoD (by rw[hdD];exact pastItsLine_dict (xS hcD (by rw[wV];omega))) ?_);exact zh (h _ ⟨(hs2.2 _ (x9 I.ne)).trans I.obj,hn2,I.ne⟩ hs2)
def Dh{R:Result->Shared->Prop}{vs:List Value}{kw:List (Str×Value)}(X:K.In s.heap)(hm:W.makesIn K C=true)(hi:W.findIn K (.ref C) "__init__"=some (some (.ref f)))(hf:W.typeIn K (.ref f)=some (.type "function"))(h:codeAny (model prog w) (A.under (.builtin "type.__call__" ⟨.ref C::vs,kw⟩)) (.call (.ref f) ⟨.ref (s.heap.objs.size+1)::vs,kw⟩) (W.InitBack (s.heap.objs.size+1) R)
 { s with heap:=(s.heap.push W.emptyDict).push (W.instObj C s.heap.objs.size) }):
  codeAny (model prog w) A (.call (.ref C) ⟨vs,kw⟩) R s:=by
 obtain⟨hh,g,d,t,os⟩:=s;exact W.make_core (W.makes_of X hm) (W.looks_findIn X hi) (λself=>W.bind_fn X self hf) (.inl rfl) h
end
noncomputable def pq(f:Str)(v:V):List (Str×V)->List (Str×V)
 | []=>[(f,v)]
 | (g,x)::r=>if g=f then (g,v)::r else (g,x)::pq f v r
theorem oE(f g:Str)(v:V):∀fs:List (Str×V),(pq f v fs).lookup g=if g=f then some v else fs.lookup g
 | []=>by
  show List.lookup g [(f,v)]=_;by_cases h:g=f;·have hb:(g==f)=true:=qb.mpr h;simp only[List.lookup,hb,if_pos h]
  ·have hb:(g==f)=false:=lU.mpr h;simp only[List.lookup,hb,if_neg h]
 | (k,x)::r=>by
  have ih:=oE f g v r;rw[show pq f v ((k,x)::r)=(if k=f then (k,v)::r else (k,x)::pq f v r) from rfl];by_cases hk:k=f
  ·rw[if_pos hk];by_cases h:g=k;·have hb:(g==k)=true:=qb.mpr h;simp only[List.lookup,hb,if_pos (h.trans hk)]
   ·have hb:(g==k)=false:=lU.mpr h;simp only[List.lookup,hb,if_neg (λe:g=f=>h (e.trans hk.symm))]
  ·rw[if_neg hk];by_cases h:g=k;·have hb:(g==k)=true:=qb.mpr h;simp only[List.lookup,hb,if_neg (λe:g=f=>hk (h.symm.trans e))]
   ·have hb:(g==k)=false:=lU.mpr h;simp only[List.lookup,hb];exact ih
theorem ox(f:Str)(v:V):∀fs:List (Str×V),f∈(pq f v fs).map (·.1)/\∀g,g∈fs.map (·.1)->g∈(pq f v fs).map (·.1)
 | []=>⟨by simp[pq],λg h=>by simp at h⟩
 | (k,x)::r=>by
  obtain⟨i1,i2⟩:=ox f v r;rw[show pq f v ((k,x)::r)=(if k=f then (k,v)::r else (k,x)::pq f v r) from rfl];by_cases hk:k=f;·rw[if_pos hk];subst hk;exact⟨by simp,λg h=>by simpa using h⟩
  ·rw[if_neg hk];refine⟨?_,λg h=>?_⟩;·rw[tI];exact v9 _ i1
   ·rw[tI]at h⊢;rcases y9.mp h with e|e;·exact y9.mpr (.inl e)
    ·exact v9 _ (i2 g e)
theorem oK(f:Str)(v:V):∀fs:List (Str×V),(pq f v fs).length<=fs.length+1
 | []=>by simp[pq]
 | (k,x)::r=>by
  have ih:=oK f v r;rw[show pq f v ((k,x)::r)=(if k=f then (k,v)::r else (k,x)::pq f v r) from rfl];by_cases hk:k=f;·rw[if_pos hk,wV,wV];omega
  ·rw[if_neg hk,wV,wV];omega
def RelO.some_of{o:Option Value}(r:RelO (some v) o):∃u,o=some u/\RelV v u:=by
 cases o with
 |none=>exact(show False from r).elim
 |some u=>exact⟨u,rfl,r⟩
def RelO.none_of{o:Option Value}(r:RelO none o):o=none:=by
 cases o with
 |none=>rfl
 |some u=>exact(show False from r).elim
def Cs{u:Value}(r:RelV v u):W.handedIn u=true:=by
 cases v with
 |non=>cases (show u=Value.none from r);rfl
 |bl b=>cases (show u=Value.bool b from r);rfl
 |int i=>obtain⟨t,e⟩:=(show ∃t,u=Value.int i t from r);cases e;rfl
 |str x=>obtain⟨t,e⟩:=(show ∃t,u=Value.str x t from r);cases e;rfl
 |byt b=>obtain⟨t,e⟩:=(show ∃t,u=Value.bytes b t from r);cases e;rfl
 |flt b=>obtain⟨t,e⟩:=(show ∃t,u=Value.float b t from r);cases e;rfl
 |ref a=>cases (show u=Value.ref a from r);rfl
 |ty n=>cases (show u=Value.type n from r);rfl
section
variable{w:World}{dx:Addr}{fs fs':List (Str×V)}
def wY(hok:HOk P w H h)(e:H a=some (.ins C dx fs)):∃mA,ObjM h a dx C mA/\(∀f,RelO (fs.lookup f) (mA f))/\PySem.Within mA (fs.map (·.1))/\fs.length<=1000/\H dx=some (.own a):=by
 obtain⟨d,z,ne,ob,mA,n,r,q⟩:=(show ObjOk P w H h a (.ins C dx fs) from hok a _ e)
 exact⟨mA,⟨ob,n,ne⟩,r,q,z,d⟩
end
structure Cls(K:W.Frag)(C:Addr):Prop where
 pg:W.plainGet K C Str.empty=true
 hd:W.hasDictIn K C=true
 po:W.plainOver K C=true
 sa:W.findIn K (.ref C) "__setattr__"=some (some (.builtin "object.__setattr__"))
def Cls.get{K:W.Frag}(c:Cls K C)(f:Str):W.plainGet K C f=true:=c.pg
def NoAttr(K:W.Frag)(C:Addr)(f:Str):Prop:=W.findIn K (.ref C) f=some none
def NoAttr.taker{K:W.Frag}{f:Str}(n:NoAttr K C f):W.takerIn K C f=some none:=by unfold W.takerIn;rw[show W.findIn K (.ref C) f=some none from n];rfl
structure Con(K:W.Frag)(C:Addr)(f:Str)(v:V)(u:Value):Prop where
 at_:W.findIn K (.ref C) f=some (some u)
 rel:RelV v u
 get:W.specialIn K u "__get__"=some none
 cp:W.copiedNames.contains f=false
structure Meth(K:W.Frag)(C:Addr)(m:Str)(f:Addr):Prop where
 at_:W.findIn K (.ref C) m=some (some (.ref f))
 fn:W.isFn K (.ref f)=true
 kp:W.keepIn K (.ref f)=true
section
variable{dx:Addr}{fs:List (Str×V)}{f:Str}{A:Around}
def rh{b:Bool}{Q:Value->Shared->Prop}(I:Inv X pins σ H s)(e:H a=some (.ins C dx fs))(c:Cls X.K C)(n:NoAttr X.K C f)(l:fs.lookup f=some v)(h:∀u s',Inv X pins σ H s'->RelV v u->Q u s'):wpAny (model X.prog X.w) A (getAttr (.ref a) f b) Q E s:=by
 obtain⟨mA,O,r,_,_,_⟩:=wY I.hok e;obtain⟨u,hu,ru⟩:=RelO.some_of (v:=v) (o:=mA f) (by rw[<- l];exact r f);exact H9 I.kIn O (c.get f) c.hd n hu (Cs ru) (h u _ (I.tok _) ru)
def zd{m:Str}{g:Addr}{pl:Sem Bool}{Q:Value×List Value->Shared->Prop}(I:Inv X pins σ H s)(e:H a=some (.ins C dx fs))(c:Cls X.K C)(k:Meth X.K C m g)(l:fs.lookup m=none)(h:Q (.ref g,[.ref a]) s):wpAny (model X.prog X.w) A (getMethod (.ref a) m pl) Q E s:=by
 obtain⟨mA,O,r,_,_,_⟩:=wY I.hok e;have hn:mA m=none:=RelO.none_of (by rw[<- l];exact r m);exact E3 I.kIn O (c.get m) k.at_ k.fn hn h
def rG{y:V}{u:Value}{Q:Unit->Shared->Prop}(I:Inv X pins σ H s)(e:H a=some (.ins C dx fs))(c:Cls X.K C)(n:NoAttr X.K C f)(hl:fs.length<1000)(ry:RelV y u)(h:∀s',Inv X pins σ (upd H a (.ins C dx (pq f y fs))) s'->Q () s'):wpAny (model X.prog X.w) A (setAttr (.ref a) f u) Q E s:=by
 obtain⟨mA,O,r,wi,_,ho⟩:=wY I.hok e;have hz:(fs.map (·.1)).length<=sizeLine:=by rw[uc,k7];omega
 refine IH I.kIn O c.sa c.po n.taker c.hd wi hz λh' O' sb=>h _ ?_;have hd:∃o,h'.get? dx=some o:=let⟨o,_,_,e',_⟩:=O'.ns;⟨o,e'⟩;refine I.write (x:=a) (e:=dx) (by rw[e];exact True.intro) (.inr ho) (λb q hb z=>(sb.2 b hb).trans z) hd ?_;refine⟨by rw[aF O.ne];exact ho,?_,O.ne,O'.obj,_,O'.ns,λg=>?_,λg hg=>?_⟩;·have:=oK f y fs;omega
 ·show RelO ((pq f y fs).lookup g) (if g=f then some u else mA g);rw[oE];by_cases q:g=f;·rw[if_pos q,if_pos q];exact ry
  ·rw[if_neg q,if_neg q];exact r g
 ·by_cases q:g=f;·rw[q];exact(ox f y fs).1
  ·refine(ox f y fs).2 g (wi g λz=>hg ?_);show(if g=f then some u else mA g)=none;rw[if_neg q];exact z
def Inv.made(I:Inv X pins σ H s):Inv X pins σ (upd (upd H s.heap.objs.size (.own (s.heap.objs.size+1))) (s.heap.objs.size+1) (.ins C s.heap.objs.size []))
  { s with heap:=(s.heap.push W.emptyDict).push (W.instObj C s.heap.objs.size) }:=by
 have e1:(s.heap.push W.emptyDict).get? s.heap.objs.size=some W.emptyDict:=xG s.heap rfl;have e2:((s.heap.push W.emptyDict).push (W.instObj C s.heap.objs.size)).get? (s.heap.objs.size+1)=some (W.instObj C s.heap.objs.size):=by
  have:=xG (s.heap.push W.emptyDict) (o:=W.instObj C s.heap.objs.size) rfl
  rwa [vg]at this
 have e3:(s.heap.push W.emptyDict).Ns s.heap.objs.size (λ_=>none):=⟨W.emptyDict,#[],_,e1,rfl,(λe he=>absurd he (by simp)),λ_=>rfl⟩
 have I1:=I.laid (a:=s.heap.objs.size) (o:=.own (s.heap.objs.size+1)) (h':=s.heap.push W.emptyDict) (t':=s.toks) (λb u q=>zT _ q) (zE _) ⟨_,e1⟩;refine I1.laid (a:=s.heap.objs.size+1) (o:=.ins C s.heap.objs.size []) (t':=s.toks) (λb u q=>zT _ q) (Nat.le_of_eq (vg _ _)) ?_;have ne:s.heap.objs.size≠s.heap.objs.size+1:=xD (pP _);refine⟨by rw[aF ne,aV],qd _,ne,e2,λ_=>none,(Heap.Ns1.of_empty e3).at λo q=>zT _ q,λ_=>True.intro,λy hy=>absurd rfl hy⟩
def IK{prog:Program}{w:World}{env:Env}{e:Expr}{f:Str}{pos:Pos}{Q:Value->Shared->Prop}(hb:attributeBase e f env (eval e env)=eval e env)(h:wpAny (model prog w) A (eval e env) (λo s₁=>wpAny (model prog w) A (getAttr o f true) Q E s₁) E s):wpAny (model prog w) A (eval (.Attribute e f pos) env) Q E s:=
 Attribute_any_ h (by rw[arm_eval_Attribute,hb])
end
noncomputable def P9(K:W.Frag)(ta:TE)(f:Str):TE:=λσ H Q=>ta σ H λx H1=>∃a C dx fs v,x=.ref a/\H1 a=some (.ins C dx fs)/\Cls K C/\NoAttr K C f/\fs.lookup f=some v/\Q v H1
noncomputable def Qn(K:W.Frag)(ta tv:TE)(f:Str):TS:=λD σ H=>tv σ H λy H1=>ta σ H1 λx H2=>∃a C dx fs,x=.ref a/\H2 a=some (.ins C dx fs)/\Cls K C/\NoAttr K C f/\fs.length<1000/\
 D.nx σ (upd H2 a (.ins C dx (pq f y fs)))
noncomputable def OX(X:Cx)(op:Operator)(rd:V->V->Hp->VK->Prop):Prop:=
 ∀(pins:List (Addr×Obj))(s:Shared)(σ:St)(H:Hp)(x y:V)(u v:Value)(Q:VK),Inv X pins σ H s->RelV x u->RelV y v->rd x y H Q->wpAny (model X.prog X.w) X.A (inplaceOp op u v) (EP X pins σ Q) X.xe s
noncomputable def Hg(K:W.Frag)(ta tv:TE)(rd:V->V->Hp->VK->Prop)(f:Str):TS:=λD σ H=>ta σ H λx H1=>∃a C dx fs v,x=.ref a/\H1 a=some (.ins C dx fs)/\Cls K C/\NoAttr K C f/\fs.lookup f=some v/\
 tv σ H1 λy H2=>rd v y H2 λz H3=>∃dx' fs',H3 a=some (.ins C dx' fs')/\fs'.length<1000/\D.nx σ (upd H3 a (.ins C dx' (pq f z fs')))
section
variable{o e value:Expr}{f:Str}{pos pos' tpos:Pos}{ta tv:TE}
def AQ(he:PE X e ta)(hb:attributeBase e f X.env (eval e X.env)=eval e X.env):PE X (.Attribute e f pos) (P9 X.K ta f):=by intro pins s σ H Q I h;refine IK hb (thn (he pins s σ H _ I h) λu s1 ⟨x,H1,I1,rx,a,C,dx,fs,v,ex,ea,c,n,l,q⟩=>?_);subst ex;obtain rfl:u=Value.ref a:=rx;exact rh I1 ea c n l λu' s2 I2 ru=>⟨v,H1,I2,ru,q⟩
def BD(ha:PE X o ta)(hv:PE X value tv)(hs:swapsWith value (some (.Attribute o f pos')) pos.line X.env=pure false):PS X (.Assign [.Attribute o f pos'] value pos) (Qn X.K ta tv f):=by intro pins s σ H D I h;refine plainObj_wpAny_Assign_Attribute (thn (hv pins s σ H _ I h) λu s1 ⟨y,H1,I1,ry,q⟩=>thn (ha pins s1 σ H1 _ I1 q) λov s2 ⟨x,H2,I2,rx,a,C,dx,fs,ex,ea,c,n,l,q2⟩=>?_) hs;subst ex;obtain rfl:ov=Value.ref a:=rx;exact rG I2 ea c n l ry λs3 I3=>⟨σ,_,I3,q2⟩
def Cf{op:Operator}{rd:V->V->Hp->VK->Prop}(ha:PE X o ta)(hv:PE X value tv)(hop:OX X op rd):PS X (.AugAssign (.Attribute o f tpos) op value pos) (Hg X.K ta tv rd f):=by intro pins s σ H D I h;refine wpAny_AugAssign_AttributeAny (thn (ha pins s σ H _ I h) λov s1 ⟨x,H1,I1,rx,a,C,dx,fs,v,ex,ea,c,n,l,q⟩=>?_);subst ex;obtain rfl:ov=Value.ref a:=rx;refine rh I1 ea c n l λu s2 I2 ru=>thn (hv pins s2 σ H1 _ I2 q) λw3 s3 ⟨y,H2,I3,ry,q3⟩=>thn (hop pins s3 σ H2 v y u w3 _ I3 ru ry q3) λw4 s4 ⟨z,H3,I4,rz,dx',fs',ea',l',q4⟩=>?_;exact rG I4 ea' c n l' rz λs5 I5=>⟨σ,_,I5,q4⟩
def PC:V->V->Hp->VK->Prop:=λx y H Q=>∃i j,x=.int i/\y=.int j/\Q (.int (i+j)) H
def Ml:OX X .Add PC:=by
 rintro pins s σ H x y u v Q I rx ry ⟨i,j,rfl,rfl,q⟩;obtain⟨t,rfl⟩:=(show ∃t,u=Value.int i t from rx)
 obtain⟨t',rfl⟩:=(show ∃t',v=Value.int j t' from ry)
 exact iadd_int ⟨.int (i+j),H,I.tok _,⟨_,rfl⟩,q⟩
end
section
variable{A:Around}{Q:Value->Shared->Prop}{c:Value}{b:Bool}
inductive TyOf(K:W.Frag)(H:Hp):V->Value->Prop where
 |non:TyOf K H .non (.type "NoneType")
 |bl (x:Bool):TyOf K H (.bl x) (.type "bool")
 |int (i:Int):TyOf K H (.int i) (.type "int")
 |str (x:Str):TyOf K H (.str x) (.type "str")
 |flt (x:UInt64):TyOf K H (.flt x) (.type "float")
 |lst {a:Addr} {xs:List V} (e:H a=some (.lst xs)):TyOf K H (.ref a) (.type "list")
 |frz {a:Addr} {o:Obj} {xs:List V} (e:H a=some (.frz o (.lst xs))):TyOf K H (.ref a) (.type "list")
 |tup {a:Addr} {xs:List V} (e:H a=some (.tup xs)):TyOf K H (.ref a) (.type "tuple")
 |dK {a:Addr} {kvs:List (Key×V)} (e:H a=some (.dK kvs)):TyOf K H (.ref a) (.type "dict")
 |dT {a:Addr} {kvs:List (List Key×V)} (e:H a=some (.dT kvs)):TyOf K H (.ref a) (.type "dict")
 |ins {a C dx:Addr} {fs:List (Str×V)} (e:H a=some (.ins C dx fs)) (cl:Cls K C) (ha:W.findIn K (.ref C) "__class__"=some (some (.builtin "object.__class__")))
   (hn:W.specialIn K (.builtin "object.__class__") "__get__"=some (some (.builtin "getset_descriptor.__get__"))) (htk:W.takesIn K (.builtin "object.__class__")=some true)
   (hm:W.mroIn K C (.type "object")=some true):TyOf K H (.ref a) (.ref C)
end
structure Room(k:Nat)(A:Around):Prop where
 hd:A.handled=none
 dp:A.depth+3 * k+5<recursionLimit
 un:A.units+16 * k+200<cLine
def Room.mono{A:Around}(r:Room k A)(h:j<=k):Room j A:=⟨r.hd,by have:=r.dp;omega,by have:=r.un;omega⟩
def Room.deeper{A:Around}(r:Room (k+1) A)(env:Env):Room k (A.deeper env):=
 ⟨r.hd,by have:=r.dp;show A.depth+1+3 * k+5<_;omega,by have:=r.un;show A.units+3+16 * k+200<_;omega⟩
def zN{A:Around}{kw:List (Str×Value)}:(A.under (.builtin "type.__call__" ⟨.ref C::us,kw⟩)).depth=A.depth+1:=by first|rfl|simp[Around.under,Code.weight,Code.isCreation,Code.isGuard,Code.isCaller,Code.frames,Code.isFrame,guardIds]
def zU{A:Around}{kw:List (Str×Value)}:(A.under (.builtin "type.__call__" ⟨.ref C::us,kw⟩)).units=A.units+1:=by first|rfl|simp[Around.under,Code.cUnits,Code.frames,Code.isFrame]
def Room.make{A:Around}(r:Room (k+1) A)(C:Addr)(us:List Value)(kw:List (Str×Value)):Room k (A.under (.builtin "type.__call__" ⟨.ref C::us,kw⟩)):=
 ⟨r.hd,by have:=r.dp;rw[zN];omega,by have:=r.un;rw[zU];omega⟩
def Room.depth{A:Around}(r:Room k A):A.depth<recursionLimit:=by have:=r.dp;omega
def Room.units{A:Around}(r:Room k A):A.units+64<cLine:=by have:=r.un;omega
def Mz:TA:=λ_ H Q=>Q [] H
def zw(ta:TE)(tr:TA):TA:=λσ H Q=>ta σ H λx H1=>tr σ H1 λxs H2=>Q (x::xs) H2
section
variable{e:Expr}{te:TE}{t:TA}{pos:Pos}
def jI:PA X [] Mz:=λ_ _ _ _ H Q I h=>Calls.spliced_nil ⟨[],H,I,.nil,h⟩
def dM(ha:PE X e te)(hr:PA X es t)(hs:starEach (e::es) X.env=(false,eval e X.env)::starEach es X.env:=by rfl):PA X (e::es) (zw te t):=by intro pos pins s σ H Q I h;rw[hs];show wpAny _ _ (spliced ((false,eval e X.env)::backTo pos (starEach es X.env))) _ _ s;refine Calls.spliced_cons (thn (ha pins s σ H _ I h) λu s1 ⟨x,H1,I1,r1,q1⟩=>?_);exact thn (hr pos pins s1 σ H1 _ I1 q1) λus s2 ⟨xs,H2,I2,r2,q2⟩=>⟨x::xs,H2,I2,.cons r1 r2,q2⟩
noncomputable def Po(t:TA):TE:=λσ H Q=>t σ H λxs H1=>xs.length<=sizeLine/\∀p,H1 p=none->Q (.ref p) (upd H1 p (.tup xs))
noncomputable def NZ(t:TA):TE:=λσ H Q=>t σ H λxs H1=>xs.length<=sizeLine/\∀p,H1 p=none->Q (.ref p) (upd H1 p (.lst xs))
def FQ {x1} (h:PA X es t):PE X (.Tuple es x1 pos) (Po t):=by intro pins s σ H Q I hq;refine wpAny_Tuple_spliced (thn (h pos pins s σ H _ I hq) λus s1 ⟨xs,H1,I1,r,z,q⟩=>⟨by rw[<- r.length];exact z,?_⟩);have hf:H1 s1.heap.objs.size=none:=I1.hok.fresh (zE _);refine⟨.ref s1.heap.objs.size,upd H1 s1.heap.objs.size (.tup xs),I1.laid (t':=s1.toks) (λb u e=>zT _ e) (zE _) ?_,rfl,q _ hf⟩;exact⟨z,us,r,⟨_,xG _ rfl,rfl,_,rfl⟩⟩
def CK(h:PA X es t):PE X (.List es pos) (NZ t):=by intro pins s σ H Q I hq;refine wpAny_List_spliced (thn (h pos pins s σ H _ I hq) λus s1 ⟨xs,H1,I1,r,z,q⟩=>⟨by rw[<- r.length];exact z,?_⟩);have hf:H1 s1.heap.objs.size=none:=I1.hok.fresh (zE _);refine⟨.ref s1.heap.objs.size,upd H1 s1.heap.objs.size (.lst xs),I1.laid (t':=s1.toks) (λb u e=>zT _ e) (zE _) ?_,rfl,q _ hf⟩;exact⟨z,us,0,r,xG _ rfl⟩
end
abbrev Sp:=List V->Hp->VK->XK->Prop
abbrev CXT:=List Env->Hp->Shared->XK->Value->Shared->Prop
structure Env0(P:Program)(w:World)(K:W.Frag)(mg:Str->Option Value)(base:Heap)(A:Around)(outer:List Env)(s:Shared)(H:Hp):Prop where
 frames:A.frames=some outer
 mod:Mod K mg base
 bs:∀b o,base.get? b=some o->s.heap.get? b=some o/\H b=none
 bsz:base.objs.size<=s.heap.objs.size
 funs:s.heap.FunFrames base outer
 frf:∀b∈frs outer,H b=none
 hok:HOk P w H s.heap
 bare:AllBare s.gens
 tabs:TabsIn base H
noncomputable def CE(outer:List Env)(P:Program)(w:World)(H:Hp)(s:Shared)(Q:VK)(u:Value)(s':Shared):Prop:=
 ∃v H',s'.os=s.os/\AllBare s'.gens/\Un (frs outer) [] H H' s.heap s'.heap/\HOk P w H' s'.heap/\RelV v u/\Q v H'
noncomputable def CR(CX:CXT)(outer:List Env)(P:Program)(w:World)(H:Hp)(s:Shared)(Q:VK)(E:XK)(r:Result)(s':Shared):Prop:=
 match r with
 |.ok (.ret u)=>CE outer P w H s Q u s'
 |.ok _=>False
 |.error e=>CX outer H s E e s'
structure FnOk(P:Program)(w:World)(K:W.Frag)(mg:Str->Option Value)(base:Heap)(CX:CXT)(k:Nat)(f:Addr)(fd:FuncData)(ps:List Str)(sp:Sp):Prop where
 len:∀vs H Q E,sp vs H Q E->vs.length=ps.length
 run:∀(A:Around)(outer:List Env)(s:Shared)(H:Hp)(args:Args)(us:List Value)(vs:List V)(Q:VK)(E:XK),Room k A->Env0 P w K mg base A outer s H->BindsTo s fd args (ps.zip us)->Vals vs us->sp vs H Q E->
  codeAny (model P w) A (.call (.ref f) args) (CR CX outer P w H s Q E) s
def FnOk.imp{w:World}{K:W.Frag}{mg:Str->Option Value}{base:Heap}{CX:CXT}{sp sp':Sp}(F:FnOk P w K mg base CX k f fd ps sp)(h:∀vs H Q E,sp' vs H Q E->sp vs H Q E):FnOk P w K mg base CX k f fd ps sp':=
 ⟨λvs H Q E q=>F.len vs H Q E (h _ _ _ _ q),λA outer s H args us vs Q E hr he hb hv hs=>F.run A outer s H args us vs Q E hr he hb hv (h _ _ _ _ hs)⟩
def Env0.make{w:World}{K:W.Frag}{mg:Str->Option Value}{base:Heap}{A:Around}{outer:List Env}(e:Env0 P w K mg base A outer s H)(C:Addr)(us:List Value)(kw:List (Str×Value)):
  Env0 P w K mg base (A.under (.builtin "type.__call__" ⟨.ref C::us,kw⟩)) outer s H:=⟨by first|exact e.frames|(simpa[Around.under,Code.envs,Code.isFrame,pushEnvs]using e.frames),e.mod,e.bs,e.bsz,e.funs,e.frf,e.hok,e.bare,e.tabs⟩
section
def Inv.env0(I:Inv X pins σ H s):Env0 X.prog X.w X.K X.mg X.base X.A X.stack s H:=
 ⟨I.ok.frames,I.ok.mod,I.bs,xS I.ok.bsz I.sz,I.stack,I.stkFree,I.hok,I.bare,I.ok.tabs.un I.base⟩
def Inv.after{Q:VK}{u:Value}(I:Inv X pins σ H s)(h:CE X.stack X.prog X.w H s Q u s'):EP X pins σ Q u s':=by obtain⟨v,H',os,bare,un,hok,r,q⟩:=h;obtain⟨hh,g,d,t,os'⟩:=s';obtain rfl:os'=s.os:=os;exact⟨v,H',I.call (h':=hh) (g':=g) (d':=d) (t':=t) (ch:=[]) un hok bare (λb z=>absurd z (by simp)),r,q⟩
end
noncomputable def Binds(K:W.Frag)(fd:FuncData)(ps:List Str)(ds:List Value):Prop:=
 ∀(s:Shared)(us:List Value),K.In s.heap->(us++ds).length=ps.length->BindsTo s fd ⟨us,[]⟩ (ps.zip (us++ds))
def Binds.all{K:W.Frag}(h:∀us:List Value,us.length=ps.length->bindArgs fd ⟨us,[]⟩=pure (ps.zip us)):Binds K fd ps []:=λs us _ hl=>by rw[rR]at hl⊢;exact .of_eq (h us hl)
section
variable{CX:CXT}{sp:Sp}{dvs:List V}{ds:List Value}{E:XK}{x m:Str}{pos apos:Pos}{e o:Expr}{ta:TE}{t:TA}
structure Mk(K:W.Frag)(C f:Addr):Prop where
 makes:W.makesIn K C=true
 init:W.findIn K (.ref C) "__init__"=some (some (.ref f))
 fn:W.isFn K (.ref f)=true
 kp:W.keepIn K (.ref C)=true
end
section
variable{CX:CXT}{ks:List Str}{sp:Sp}{E:XK}{x m:Str}{pos apos kpos:Pos}{e o:Expr}{kws:List Keyword}{te ta:TE}{t tk:TA}{nm:Option Str}
structure KBinds(K:W.Frag)(fd:FuncData)(ps ks:List Str)(g:List Value->List Value->List Value)(gV:List V->List V->List V):Prop where
 to:∀(s:Shared)(us ws:List Value),K.In s.heap->(g us ws).length=ps.length->BindsTo s fd ⟨us,ks.zip ws⟩ (ps.zip (g us ws))
 rel:∀{vs:List V}{us:List Value}{zs:List V}{ws:List Value},Vals vs us->Vals zs ws->Vals (gV vs zs) (g us ws)
variable{g:List Value->List Value->List Value}{gV:List V->List V->List V}
end
structure FnScope(N P:List Str)(sc:Scope):Prop where
 kind:sc.kind=.function
 co:sc.isCoroutine=false
 gen:sc.isGenerator=false
 nd:N.Nodup
 pre:N.take P.length=P
 par:∀x∈P,sc.names.lookup x=some .local\/sc.names.lookup x=some .cell
 nofree:∀y∈sc.names,y.2≠.free
theorem vf{kindOf:Str->Option NameKind}{x:Str}:∀{binds:List (Str×Value)}{m:Str->Option Value},(∀v,(x,v)∉binds)->bindL kindOf binds m x=m x
 | [],_,_=>rfl
 | (n,v)::r,m,h=>by
  unfold bindL;rw[vf λw hw=>h w (v9 _ hw)];split
  ·have:x≠n:=by rintro rfl;exact h v uS
   simp[this]
  ·rfl
theorem uk{kindOf:Str->Option NameKind}{x:Str}:∀{binds:List (Str×Value)}{m:Str->Option Value},(∀v,(x,v)∉binds)->bindC kindOf binds m x=m x
 | [],_,_=>rfl
 | (n,v)::r,m,h=>by
  unfold bindC;rw[uk λw hw=>h w (v9 _ hw)];split;·rfl
  ·have:x≠n:=by rintro rfl;exact h v uS
   simp[this]
theorem uM{kindOf:Str->Option NameKind}{x:Str}{v:Value}:∀{P:List Str}{vs:List Value}{i:Nat}{m:Str->Option Value},P.Nodup->P[i]?=some x->vs[i]?=some v->kindOf x=some .local->
  bindL kindOf (P.zip vs) m x=some v
 | [],_,_,_,_,h,_,_=>by simp at h
 |_::_,[],_,_,_,_,h,_=>by simp at h
 |p::P,w::vs,0,m,nd,h1,h2,hk=>by simp at h1 h2;subst h1;subst h2;show bindL kindOf ((p,w)::P.zip vs) m p=_;unfold bindL;rw[vf λv hv=>(qo.mp nd).1 (iN hv).1,if_pos hk];simp
 |p::P,w::vs,i+1,m,nd,h1,h2,hk=>by show bindL kindOf ((p,w)::P.zip vs) m x=_;unfold bindL;exact uM (i:=i) (qo.mp nd).2 (by simpa using h1) (by simpa using h2) hk
theorem vj{kindOf:Str->Option NameKind}{x:Str}{v:Value}:∀{P:List Str}{vs:List Value}{i:Nat}{m:Str->Option Value},P.Nodup->P[i]?=some x->vs[i]?=some v->kindOf x≠some .local->
  bindC kindOf (P.zip vs) m x=some v
 | [],_,_,_,_,h,_,_=>by simp at h
 |_::_,[],_,_,_,_,h,_=>by simp at h
 |p::P,w::vs,0,m,nd,h1,h2,hk=>by simp at h1 h2;subst h1;subst h2;show bindC kindOf ((p,w)::P.zip vs) m p=_;unfold bindC;rw[uk λv hv=>(qo.mp nd).1 (iN hv).1,if_neg hk];simp
 |p::P,w::vs,i+1,m,nd,h1,h2,hk=>by show bindC kindOf ((p,w)::P.zip vs) m x=_;unfold bindC;exact vj (i:=i) (qo.mp nd).2 (by simpa using h1) (by simpa using h2) hk
def kG(N:List Str)(vs:List V):St:=vs.map some++List.replicate (N.length - vs.length) none
noncomputable def fV(CX:CXT)(P:Program)(w:World)(K:W.Frag)(mg:Str->Option Value)(base:Heap)(N:List Str)(qual:Str)(scope:Scope)(f:Addr)(cd:Value)(A:Around)(outer:List Env)(s:Shared)(H:Hp)(E:XK):Cx where
 prog:=P
 w:=w
 K:=K
 mg:=mg
 base:=base
 A:=A.deeper (envOfC qual scope s.heap.objs.size f cd)
 N:=N
 s₀:=s
 H₀:=H
 env:=envOfC qual scope s.heap.objs.size f cd
 outer:=outer
 stack:=envOfC qual scope s.heap.objs.size f cd::outer
 ex:=[]
 calm:=true
 fn:=λ_=>true
 pn:=[]
 xe:=λe s'=>wpAny (model P w) (A.deeper (envOfC qual scope s.heap.objs.size f cd)) (leaving (envOfC qual scope s.heap.objs.size f cd) e) (λ_ s''=>CX outer H s E e s'') (λe' s''=>CX outer H s E e' s'') s'
def yh{sc:Scope}{x:Str}(h:sc.names.lookup x=some .cell):∃c,(cellsFrom n sc.names []).lookup x=some c:=by have q:=W.cellsFrom_some sc.names n [] (.inl h);exact Option.isSome_iff_exists.mp q
def CG{CX:CXT}{w:World}{K:W.Frag}{mg:Str->Option Value}{base:Heap}{N:List Str}{cd:Value}{A:Around}{outer:List Env}{s1:Shared}{E:XK}(S:FnScope N ps scope)(hd:A.handled=none)(e0:Env0 P w K mg base A outer s H)(hl:vs.length=ps.length)(r:Vals vs us)(x:InCallC s s.heap.objs.size (bindL (envOfC qual scope s.heap.objs.size f cd).kindOf (ps.zip us) λ_=>none) (cellsFrom (s.heap.objs.size+1) scope.names []) (bindC (envOfC qual scope s.heap.objs.size f cd).kindOf (ps.zip us) λ_=>none) s1):
  Inv (fV CX P w K mg base N qual scope f cd A outer s H E) [] (kG N vs) H s1:=by
 have hpl:ps.length<=N.length:=by have:=t6 List.length S.pre;rw[l6]at this;omega
 obtain⟨h1,tk,rfl,hk⟩:=x.done;have noA:∀b:Addr,b∉(fV CX P w K mg base N qual scope f cd A outer s H E).ex:=λb z=>absurd (show b∈([]:List Addr) from z) (by simp);refine⟨⟨e0.mod,S.kind,rfl,rfl,zE _,λy z c h1 h2=>?_,λy hy=>?_,λy c _ h=>?_,λ_=>hd,Around.frames_deeper e0.frames,.inr ⟨rfl,rfl⟩,λb z=>absurd z (noA b),e0.bs,e0.bsz,λb _ _=>noA b,λb z=>absurd z (noA b),e0.funs,e0.frf,e0.tabs⟩,
  rfl,e0.bare,Un.kept hk,⟨_,x.toInCall.ns,λi y v h1 h2 h3=>?_⟩,λy c h=>⟨_,x.cell y c h⟩,e0.hok.fresh (zE _),λy c h=>?_,λp hp=>absurd (show p∈([]:List (Addr×Obj)) from hp) (by simp),e0.hok.kept hk,?_⟩;·exact name_of_addr x.apart (l7 h1) (l7 h2)
 ·have hy:scope.names.lookup y=some .cell\/scope.names.lookup y=some .free:=hy;rcases hy with hy|hy;·exact yh hy
  ·exact absurd rfl (S.nofree _ (l7 hy))
 ·exact Nat.le_of_lt (x.above y c (l7 h))
 ·have hi:i<vs.length:=by
   unfold kG at h2;by_cases hi:i<vs.length;·exact hi
   ·rw[n9 (by simpa using hi)]at h2;rw[l8]at h2;split at h2 <;> cases h2
  have ha:vs[i]?=some v:=by
   unfold kG at h2;rw[o6 (by simpa using hi),ue]at h2;cases e:vs[i]? with
   |none=>rw[e]at h2;cases h2
   |some a=>rw[e]at h2;cases h2;rfl
  obtain⟨u,hu,rv⟩:=r.get ha;have hp:ps[i]?=some y:=by rw[<- S.pre,List.getElem?_take_of_lt (by omega)];exact h1
  have ndP:ps.Nodup:=by rw[<- S.pre];exact S.nd.sublist (List.take_sublist _ _)
  refine⟨u,rv,?_⟩;rcases S.par y (iO hp)with k|k;·exact .inl ⟨k,uM ndP hp hu k⟩
  ·obtain⟨c,e⟩:=yh (n:=s.heap.objs.size+1) k;refine .inr ⟨.inl k,c,e,?_⟩;have q:=x.cell y c e;rw[vj ndP hp hu (by show scope.names.lookup y≠_;rw[k];decide)]at q;exact q
 ·exact e0.hok.fresh (Nat.le_of_lt (x.above y c (l7 h)))
 ·unfold kG;show _=N.length;rw[sg,uc,qP];omega
def IC{CX:CXT}{w:World}{K:W.Frag}{mg:Str->Option Value}{base:Heap}{name:Str}{params:Arguments}{dV kV doc pm ct:Value}{N:List Str}{sp:Sp}(lk:K.lookup f=some ⟨oc,od,.func (W.fnOf name qual params body scope dV kV doc pm an cdv ct),osl⟩)(hcd:W.codeIn K cdv qual=true)(S:FnScope N ps scope)(len:∀vs H Q E,sp vs H Q E->vs.length=ps.length)(hbody:∀(A:Around)(outer:List Env)(s:Shared)(H:Hp)(vs:List V)(Q:VK)(E:XK),Room k (A.deeper (envOfC qual scope s.heap.objs.size f cdv))->sp vs H Q E->
 ∃t,PSs (fV CX P w K mg base N qual scope f cdv A outer s H E) body t/\t { nx:=λ_ H'=>Q .non H',rt:=Q } (kG N vs) H):
  FnOk P w K mg base CX (k+1) f (W.fnOf name qual params body scope dV kV doc pm an cdv ct) ps sp:=by
 refine⟨len,λA outer s H args us vs Q E hr e0 hb r hsp=>?_⟩;have hl:=len _ _ _ _ hsp;have KX:K.In s.heap:=e0.mod.kin.keeps λb o e=>(e0.bs b o e).1;have lim:s.heap.NoLimit:=e0.mod.nolimit.keeps λb o e=>(e0.bs b o e).1;have hkind:∀y∈ps.zip us,scope.names.lookup y.1=some .local\/(scope.names.lookup y.1=some .cell/\((cellsFrom (s.heap.objs.size+1) scope.names []).lookup y.1).isSome=true):=λ⟨n,v⟩ hy=>by
  rcases S.par n (iN hy).1 with q|q;·exact .inl q
  ·exact .inr ⟨q,W.cellsFrom_some _ _ _ (.inl q)⟩
 refine codeAny_call_function hr.depth (KX _ _ lk) rfl S.co S.gen rfl (W.codeRec_of KX hcd) (hb _ _ _ _ ?_);refine wpAny_newFunctionEnv_cells S.kind hkind λenv he s1 x=>?_;subst he;refine⟨lim.keeps x.toInCall.keep,codeAny_func ?_⟩;obtain⟨t,ht,hq⟩:=hbody A outer s H vs Q E (hr.deeper _) hsp;have I:Inv (fV CX P w K mg base N qual scope f cdv A outer s H E) [] (kG N vs) H s1:=CG S hr.hd e0 hl r x;refine yT (ht [] s1 (kG N vs) H _ I hq) (λfl s' hs=>?_) λe s' hs=>hs;have fin:∀{σ':St}{H':Hp}{v:V}{u:Value},Inv (fV CX P w K mg base N qual scope f cdv A outer s H E) [] σ' H' s'->RelV v u->Q v H'->CE outer P w H s Q u s':=
  λ{σ' H' v u} J rv q=>⟨v,H',J.os,J.bare,J.base,J.hok,rv,q⟩
 cases fl with
 |ret u=>obtain⟨v,σ',H',J,rv,q⟩:=hs;exact fin J rv q
 |next=>obtain⟨σ',H',J,q⟩:=hs;exact fin (v:=V.non) (u:=Value.none) J rfl q
 |brk=>obtain⟨_,_,_,q⟩:=hs;exact False.elim q
 |cont=>obtain⟨_,_,_,q⟩:=hs;exact False.elim q
end L2
variable{CX:L2.CXT}
namespace L2
open PySem PySem.Spec PyProof.Rows
section
variable{x:Str}{pos:Pos}{e:Expr}{t:TA}{id T:String}{r:List V->Hp->VK->Prop}
def tCB(r:List V->Hp->VK->Prop)(t:TA):TE:=λσ H Q=>t σ H λvs H1=>r vs H1 Q
def lM(hc:ky X (.builtin id) r)(hg:Gl X x)(hm:X.mg x=none)(hv:bootBuiltins x=some (.builtin id))(ha:PA X (e::es) t)(hn:x≠"__name__":=by decide)(hdb:(x==("__debug__":Str))=false:=by decide)(he:starEach (e::es) X.env=(false,eval e X.env)::starEach es X.env:=by rfl)(hpl:(backTo pos (starEach es X.env)).any (·.1)=false:=by rfl):PE X (.Call (.Name x p) (e::es) [] pos) (tCB r t):=by
 intro pins s σ H Q I h;refine k8 (mX I hg hm hv ?_ hn hdb);exact callWith_builtin1 (thn (ha pos pins s σ H _ I h) λus s1 ⟨vs,H1,I1,r1,q1⟩=>hc pins s1 σ H1 vs us Q I1 r1 q1) he hpl
def Bs(hc:ky X (.type T) r)(hg:Gl X x)(hm:X.mg x=none)(hv:bootBuiltins x=some (.type T))(ha:PA X (e::es) t)(hn:x≠"__name__":=by decide)(hdb:(x==("__debug__":Str))=false:=by decide)(he:starEach (e::es) X.env=(false,eval e X.env)::starEach es X.env:=by rfl)(hpl:(backTo pos (starEach es X.env)).any (·.1)=false:=by rfl):PE X (.Call (.Name x p) (e::es) [] pos) (tCB r t):=by
 intro pins s σ H Q I h;refine k8 (mX I hg hm hv ?_ hn hdb);exact callWith_type1 (thn (ha pos pins s σ H _ I h) λus s1 ⟨vs,H1,I1,r1,q1⟩=>hc pins s1 σ H1 vs us Q I1 r1 q1) he hpl
end
end L2
namespace HT
open PySem PyProof.Rows
section
open PySem.SeqAt
open PySem.AutoSeq1 (wpAny_loadPart')
open PySem.MeetsSeq PySem.MeetsSeq2 PySem.MeetsSeq3
end
section
variable{prog:Program}{w:World}{A:Around}
theorem cat_tup{t b:Addr}{vs ws:List Value}{Q:Value->Shared->Prop}(ht:IsTup s.heap t vs.toArray)(hb:IsTup s.heap b ws.toArray)(hv:vs≠[])(h1:ws=[]->Q (.ref t) s)(h2:ws≠[]->Q (.ref s.heap.objs.size) { s with heap:=s.heap.push { cls:=.type "tuple",data:=.seq (vs++ws).toArray } })(hsz:vs.length+ws.length<=sizeLine):wpAny (model prog w) A (binaryOp .Add (.ref t) (.ref b)) Q E s:=by
 obtain⟨⟨cls,dd,data,sl⟩,ho,hc,n,hd⟩:=id ht;obtain⟨⟨cls2,dd2,data2,sl2⟩,ho2,hc2,n2,hd2⟩:=id hb;simp only at hc hd hc2 hd2;subst hc hd hc2 hd2;have e:vs.toArray++ws.toArray=(vs++ws).toArray:=by simp
 by_cases hw:ws=[]
 ·exact concat_meets ⟨_,ho,rfl⟩ ⟨_,ho2,rfl⟩ Zd seq_tuple_add F.slot_tuple_add F.entry_tuple_add (F.args_tuple_add_2 _ _)
   (tuple_addW1 t b vs.toArray ws.toArray n n2 dd dd2 sl sl2 (by simpa using hv) (by simp[hw])) ⟨ho,ho2,h1 hw⟩
 ·refine concat_meets ⟨_,ho,rfl⟩ ⟨_,ho2,rfl⟩ Zd seq_tuple_add F.slot_tuple_add F.entry_tuple_add (F.args_tuple_add_2 _ _)
   (tuple_addW2 t b vs.toArray ws.toArray n n2 dd dd2 sl sl2 (by simpa using hv) (by simpa using hw) (by rw[xm,xm];exact hsz)) ⟨ho,ho2,?_⟩;rw[e];exact h2 hw
def sIx(n d:Nat):Option Int->Nat
 |none=>d
 |some v=>if v<0 then (v+(n:Int)).toNat else min v.toNat n
def sIx_none(n d:Nat):sIx n d none=d:=rfl
def sIx_nat(n d k:Nat):sIx n d (some (k:Int))=min k n:=by show(if (k:Int)<0 then ((k:Int)+(n:Int)).toNat else min (k:Int).toNat n)=min k n;rw[if_neg (by omega),sR]
def sIx_le(n d:Nat)(hd:d<=n)(o:Option Int):sIx n d o<=n:=by
 cases o with
 |none=>exact hd
 |some v=>
  show(if v<0 then (v+(n:Int)).toNat else min v.toNat n)<=n;by_cases hv:v<0;·rw[if_pos hv];omega
  ·rw[if_neg hv];exact Nat.min_le_right _ _
def B2(v:Int)(n d:Nat):(if v<0 then max (v+(n:Int)) 0 else min v (n:Int))=((sIx n d (some v):Nat):Int):=by
 show(if v<0 then max (v+(n:Int)) 0 else min v (n:Int))=(((if v<0 then (v+(n:Int)).toNat else min v.toNat n):Nat):Int);by_cases hv:v<0;·simp only[if_pos hv];omega
 ·simp only[if_neg hv];omega
def zj(lo hi:Option Int)(n:Nat):Builtin.Slice.sliceAdjust lo hi 1 (n:Int)=(((sIx n 0 lo:Nat):Int),((sIx n n hi:Nat):Int)):=by
 have h1 : ¬ ((1:Int)<0):=by omega
 unfold Builtin.Slice.sliceAdjust;simp only[h1,sT];refine Prod.ext ?_ ?_
 ·cases lo with
  |none=>rfl
  |some v=>exact B2 v n 0
 ·cases hi with
  |none=>rfl
  |some v=>exact B2 v n n
def zS(i j:Nat):Builtin.Slice.slicePlaces (i:Int) (j:Int) 1=j - i:=by
 unfold Builtin.Slice.slicePlaces;have h1:(1:Int) > 0:=by omega
 simp only[h1,wO,Int.ediv_one];split <;> omega
def rF{v:Value}{o:Option Int}{Q:Option Int->Shared->Prop}(p:IsPart v o)(h:Q o s):wpAny (model prog w) A (Builtin.Slice.slicePartIndex v) Q E s:=by
 cases p with
 |none=>exact slicePart_none h
 |int i t=>exact slicePart_int h
def sliceApplied_gen{sl:Addr}{vl vu:Value}{lo hi:Option Int}{Q:Int×Int×Nat->Shared->Prop}(hs:s.heap.IsSliceOf sl vl vu .none)(pl:IsPart vl lo)(pu:IsPart vu hi)(h:Q (((sIx n 0 lo:Nat):Int),1,sIx n n hi - sIx n 0 lo) s):wpAny (model prog w) A (Builtin.Slice.sliceApplied (.ref sl) (pure (n:Int))) Q E s:=by
 obtain⟨os,hos,hcs,hds⟩:=id hs;unfold Builtin.Slice.sliceApplied Builtin.Slice.sliceFields;refine z9 (z9 (v4 hos hds (x:=vl) rfl (z9 (v4 hos hds (x:=vu) rfl (z9 (v4 hos hds (x:=.none) rfl (zh ?_)))))));refine z9 (slicePart_none ?_);show wpAny _ _ (if ((1:Int)==0)=true then _ else _) _ _ s;rw[if_neg (by decide)];refine z9 (rF pl (z9 (rF pu (z9 (zh ?_)))));show wpAny _ _ (match Builtin.Slice.sliceAdjust lo hi 1 (n:Int)with|(lo,hi)=>pure (lo,(1:Int),Builtin.Slice.slicePlaces lo hi 1)) _ _ s;rw[zj lo hi n];show wpAny _ _ (pure (((sIx n 0 lo:Nat):Int),(1:Int),Builtin.Slice.slicePlaces ((sIx n 0 lo:Nat):Int) ((sIx n n hi:Nat):Int) 1)) _ _ s;rw[zS];exact zh h
def E0(xs:Array Value)(i k:Nat):((List.range k).filterMap λ(m:Nat)=>xs[((i:Int)+(m:Int) * 1).toNat]?).toArray=((xs.toList.drop i).take k).toArray:=by
 have e:(λ(m:Nat)=>xs[((i:Int)+(m:Int) * 1).toNat]?)=λm=>xs[i+m]?:=by
  funext m
  have:((i:Int)+(m:Int) * 1).toNat=i+m:=by omega
  rw[this]
 rw[e];have:=pick_run xs i k;rw[List.filterMap_map]at this;have e2:((λx=>xs[x]?) ∘ λx=>i+x)=λm=>xs[i+m]?:=rfl;rw[e2]at this;rw[this]
def getItem_tuple_cut{t sl:Addr}{items:Array Value}{vl vu:Value}{lo hi:Option Int}{Q:Value->Shared->Prop}(ht:IsTup s.heap t items)(hs:s.heap.IsSliceOf sl vl vu .none)(pl:IsPart vl lo)(pu:IsPart vu hi)(hw : ¬ (sIx items.size 0 lo=0/\sIx items.size items.size hi=items.size))(h:Q (.ref s.heap.objs.size) { s with heap:=s.heap.push { cls:=.type "tuple",data:=.seq ((items.toList.drop (sIx items.size 0 lo)).take (sIx items.size items.size hi - sIx items.size 0 lo)).toArray } })(hsz:items.size<=sizeLine):wpAny (model prog w) A (getItem (.ref t) (.ref sl)) Q E s:=by
 have htake:sizeOk (.seq ((items.toList.drop (sIx items.size 0 lo)).take (sIx items.size items.size hi - sIx items.size 0 lo)).toArray):=by show((items.toList.drop (sIx items.size 0 lo)).take (sIx items.size items.size hi - sIx items.size 0 lo)).toArray.size<=sizeLine;rw[xm,l6,k9,lV];omega
 have hj:sIx items.size items.size hi<=items.size:=sIx_le _ _ (zE _) hi;obtain⟨os,hos,hcs,hds⟩:=id hs;have hTs:s.TypeIs (.ref sl) "slice":=⟨os,hos,hcs⟩
 unfold getItem
 try with_reducible refine r0 ?_
 first|refine z9 (zh ?_)|skip
 refine z9 (wpAny_sequenceKey ht.typeIs (by decide) ?_);refine z9 (qQ (name:=Str.ofString "__getitem__") ht.typeIs slot_tuple_getitem
  (p0 slot_tuple_getitem ht.typeIs entry_tuple_getitem ?_ (args_tuple_getitem _ _)));show wpAny _ _ (Builtin.Tuple.tupleItemsOf (.ref t)>>=_) _ _ s;refine z9 (j0 ht ?_);refine z9 (fB hTs ?_);rw[if_pos (by decide)];refine z9 (sliceApplied_gen hs pl pu ?_);have hno : ¬ ((((sIx items.size 0 lo:Nat):Int)==0 && (1:Int)==1 && (sIx items.size items.size hi - sIx items.size 0 lo)==items.size)=true):=by
  intro q;rw[p6,p6]at q;have q1:((sIx items.size 0 lo:Nat):Int)=0:=l9 q.1.1;have q2:sIx items.size items.size hi - sIx items.size 0 lo=items.size:=l9 q.2;exact hw ⟨by omega,by omega⟩
 show wpAny _ _ (if (((sIx items.size 0 lo:Nat):Int)==0 && (1:Int)==1 && (sIx items.size items.size hi - sIx items.size 0 lo)==items.size)=true then _ else _) _ _ s;rw[if_neg hno,E0]
 first
  |exact z9 (m:=Builtin.Tuple.tupleExact _) (t9 (zh ⟨_,rfl,zh h⟩) htake)
  |exact z9 (m:=Builtin.Tuple.tupleExact _) (t9 (z9 (zh (zh ⟨_,rfl,zh h⟩))) htake)
  |exact z9 (z9 (m:=Builtin.Tuple.tupleExact _) (t9 (zh (zh ⟨_,rfl,zh h⟩)) htake))
  |exact z9 (z9 (m:=Builtin.Tuple.tupleExact _) (t9 (zh ⟨_,rfl,zh h⟩) htake))
end
end HT
namespace L2
open PySem PySem.Spec PyProof.Rows
abbrev TO:=St->Hp->(Option Int->Hp->Prop)->Prop
noncomputable def PO(X:Cx)(e:Option Expr)(t:TO):Prop:=
 ∀(pins:List (Addr×Obj))(s:Shared)(σ:St)(H:Hp)(Q:Option Int->Hp->Prop),Inv X pins σ H s->t σ H Q->
  wpAny (model X.prog X.w) X.A (evalPart e X.env) (λu s'=>∃o H',Inv X pins σ H' s'/\IsPart u o/\Q o H') X.xe s
def HZ:TO:=λ_ H Q=>Q none H
def Og(t:TE):TO:=λσ H Q=>t σ H λx H1=>∃i,x=.int i/\Q (some i) H1
section
variable{e:Expr}{te:TE}{lo hi:Option Expr}{tl th:TO}{pos p2:Pos}
def Ix:PO X none HZ:=by intro pins s σ H Q I h;rw[evalPart_none];exact zh ⟨none,H,I,.none,h⟩
def GB(h:PE X e te):PO X (some e) (Og te):=by intro pins s σ H Q I hw;rw[evalPart_some];refine thn (h pins s σ H _ I hw) λu s1 ⟨x,H1,I1,r1,q1⟩=>?_;obtain⟨i,rfl,q⟩:=q1;obtain⟨t,rfl⟩:=r1;exact⟨some i,H1,I1,.int i t,q⟩
noncomputable def SlR(X:Cx)(r:V->Option Int->Option Int->Hp->VK->Prop):Prop:=
 ∀(pins:List (Addr×Obj))(s:Shared)(σ:St)(H:Hp)(x:V)(v vl vu:Value)(lo hi:Option Int)(sl:Addr)(Q:VK),Inv X pins σ H s->RelV x v->s.heap.IsSliceOf sl vl vu .none->IsPart vl lo->IsPart vu hi->r x lo hi H Q->
  ∃T id,typeLookup (.type T) "__getitem__"=pure (some (.builtin id))/\s.TypeIs v T/\wpAny (model X.prog X.w) X.A (getItem v (.ref sl)) (EP X pins σ Q) X.xe s
def SlR.or{r r':V->Option Int->Option Int->Hp->VK->Prop}(h:SlR X r)(h':SlR X r'):SlR X (λx lo hi H Q=>r x lo hi H Q\/r' x lo hi H Q):=by
 intro pins s σ H x v vl vu lo hi sl Q I rx hs pl pu q;rcases q with q|q;·exact h pins s σ H x v vl vu lo hi sl Q I rx hs pl pu q
 ·exact h' pins s σ H x v vl vu lo hi sl Q I rx hs pl pu q
noncomputable def tSl(r:V->Option Int->Option Int->Hp->VK->Prop)(te:TE)(tl th:TO):TE:=λσ H Q=>te σ H λx H1=>tl σ H1 λl H2=>th σ H2 λu H3=>r x l u H3 Q
def D2{r:V->Option Int->Option Int->Hp->VK->Prop}(hr:SlR X r)(he:PE X e te)(hl:PO X lo tl)(hu:PO X hi th):PE X (.Subscript e (.Slice lo hi none p2) pos) (tSl r te tl th):=by intro pins s σ H Q I h;refine Subscript_ (thn (he pins s σ H _ I h) λv s1 ⟨x,H1,I1,r1,q1⟩=>?_);refine wpAny_Slice (thn (hl pins s1 σ H1 _ I1 q1) λvl s2 ⟨l,H2,I2,pl,q2⟩=>thn (hu pins s2 σ H2 _ I2 q2) λvu s3 ⟨u,H3,I3,pu,q3⟩=>?_);rw[evalPart_none];refine zh ?_;have I4:Inv X pins σ H3 { s3 with heap:=s3.heap.push { cls:=.type "slice",data:=.fields #[vl,vu,.none] } }:=I3.kept (t':=s3.toks) λb ob q=>zT _ q;obtain⟨T,id,hT,ht,hg⟩:=hr pins { s3 with heap:=s3.heap.push { cls:=.type "slice",data:=.fields #[vl,vu,.none] } } σ H3 x v vl vu l u s3.heap.objs.size Q I4 r1 (Heap.IsSliceOf.new ..) pl pu q3;show wpAny (model X.prog X.w) X.A (subscriptTail e (.Slice lo hi none p2) v (.ref s3.heap.objs.size)) (EP X pins σ Q) X.xe { s3 with heap:=s3.heap.push { cls:=.type "slice",data:=.fields #[vl,vu,.none] } };exact tail_any (ops:=[.ref s3.heap.objs.size,v]) ht hT hg (by with_unfolding_all rfl)
noncomputable def Gi(xs:List V)(lo hi:Option Int):List V:=(xs.drop (HT.sIx xs.length 0 lo)).take (HT.sIx xs.length xs.length hi - HT.sIx xs.length 0 lo)
def nY(xs:List V)(lo hi:Option Int):(Gi xs lo hi).length<=xs.length:=by unfold Gi;rw[l6,k9];omega
noncomputable def OO(K:W.Frag):V->Option Int->Option Int->Hp->VK->Prop:=λx lo hi H Q=>∃a xs,x=.ref a/\SqT K H a xs/\
 ¬ (HT.sIx xs.length 0 lo=0/\HT.sIx xs.length xs.length hi=xs.length)/\∀p,H p=none->Q (.ref p) (upd H p (.tup (Gi xs lo hi)))
def sl_tup:SlR X (OO X.K):=by
 intro pins s σ H x v vl vu lo hi sl Q I rx hs pl pu h;obtain⟨a,xs,rfl,hx,hw,q⟩:=h;cases rx;obtain⟨its,r,ht,hz⟩:=I.tuple hx;have hlen:its.toArray.size=xs.length:=by rw[xm];exact r.length.symm
 refine⟨"tuple",_,slot_tuple_getitem.lookup,ht.typeIs,?_⟩;refine HT.getItem_tuple_cut ht hs pl pu (by rw[hlen];exact hw) ?_ (by rw[hlen];exact hz);rw[hlen];refine⟨.ref s.heap.objs.size,_,I.laid (t':=s.toks) (o:=.tup (Gi xs lo hi)) (λb ob q=>zT _ q) (zE _) ?_,rfl,q _ (I.hok.fresh (zE _))⟩;exact⟨xS (nY xs lo hi) hz,_,(r.drop (HT.sIx xs.length 0 lo)).take (HT.sIx xs.length xs.length hi - HT.sIx xs.length 0 lo),qK _ _⟩
noncomputable def N1(K:W.Frag):R2:=λx y H Q=>∃a b xs ys,x=.ref a/\y=.ref b/\SqT K H a xs/\SqT K H b ys/\xs≠[]/\xs.length+ys.length<=sizeLine/\
 (ys=[]->Q (.ref a) H)/\(ys≠[]->∀p,H p=none->Q (.ref p) (upd H p (.tup (xs++ys))))
def Vals.nil_iff(r:Vals xs us):us=[] ↔ xs=[]:=by
 cases r with
 |nil=>simp
 |cons _ _=>simp
def HC:OpR X (binaryOp .Add) (N1 X.K):=by intro pins s σ H x y v u Q I rx ry h;obtain⟨a,b,xs,ys,rfl,rfl,ha,hb,hx,hz,q1,q2⟩:=h;cases rx;cases ry;obtain⟨its,r1,p1,_⟩:=I.tuple ha;obtain⟨its2,r2,p2,_⟩:=I.tuple hb;refine HT.cat_tup p1 p2 (λz=>hx (r1.nil_iff.mp z)) (λz=>⟨.ref a,H,I,rfl,q1 (r2.nil_iff.mp z)⟩) (λz=>?_) (by rw[<- r1.length,<- r2.length];exact hz);refine⟨.ref s.heap.objs.size,_,I.laid (t':=s.toks) (o:=.tup (xs++ys)) (λb ob q=>zT _ q) (zE _) ?_,rfl,q2 (λw=>z (r2.nil_iff.mpr w)) _ (I.hok.fresh (zE _))⟩;exact⟨by rw[sg];exact hz,_,r1.append r2,qK _ _⟩
end
noncomputable def ixN(n:Nat)(i:Int):Option Nat:=if 0<=i then (if i<n then some i.toNat else none)else if -(n:Int)<=i then some (i+n).toNat else none
def atI{α:Type}(xs:List α)(i:Int):Option α:=(ixN xs.length i).bind λj=>xs[j]?
def Bq{i:Int}(h:ixN n i=some j):seqIndex? i n=some j/\j<n/\-(n:Int)<=i/\i<n:=by
 unfold ixN at h;by_cases h0:0<=i
 ·rw[if_pos h0]at h;by_cases h1:i<n;·rw[if_pos h1]at h;have e:i.toNat=j:=xz h;exact⟨by rw[seqIndex_of h0 h1,e],by omega,by omega,h1⟩
  ·rw[if_neg h1]at h;cases h
 ·rw[if_neg h0]at h;by_cases h1 : -(n:Int)<=i;·rw[if_pos h1]at h;have e:(i+n).toNat=j:=xz h;exact⟨by rw[seqIndex_neg (by omega) h1,e],by omega,h1,by omega⟩
  ·rw[if_neg h1]at h;cases h
def xj{α:Type}{xs:List α}{i:Int}{v:α}(h:atI xs i=some v):∃j,seqIndex? i xs.length=some j/\xs[j]?=some v/\j<xs.length/\-(xs.length:Int)<=i/\i<xs.length:=by
 unfold atI at h;cases e:ixN xs.length i with
 |none=>rw[e]at h;cases h
 |some j=>rw[e]at h;obtain⟨h1,h2,h3,h4⟩:=Bq e;exact⟨j,h1,h,h2,h3,h4⟩
def BZ{α:Type}{xs:List α}{v:α}(h:xs[j]?=some v):atI xs (j:Int)=some v:=by
 have hj:j<xs.length:=(u6.mp h).1;have e:ixN xs.length (j:Int)=some j:=by unfold ixN;rw[if_pos (by omega),if_pos (by omega)];simp
 unfold atI;rw[e];exact h
def tT(b:Expr):Prop:=∀o i,subscripted b false o i=operate [o,i] (getItem o i)
noncomputable def IxR(X:Cx)(r:R2):Prop:=
 ∀(value slice:Expr)(pins:List (Addr×Obj))(s:Shared)(σ:St)(H:Hp)(x y:V)(v u:Value)(Q:VK),Inv X pins σ H s->RelV x v->RelV y u->r x y H Q->
  subscripted slice false v u=operate [v,u] (getItem v u)->wpAny (model X.prog X.w) X.A (subscriptTail value slice v u) (EP X pins σ Q) X.xe s
noncomputable def MtR(X:Cx)(id:String)(r:V->List V->Hp->VK->Prop):Prop:=
 ∀(pins:List (Addr×Obj))(s:Shared)(σ:St)(H:Hp)(x:V)(xs:List V)(v:Value)(us:List Value)(Q:VK),Inv X pins σ H s->RelV x v->Vals xs us->r x xs H Q->
  wpAny (model X.prog X.w) X.A (call (.builtin id) (v::us)) (EP X pins σ Q) X.xe s
section
variable{a b:Expr}{ta tb:TE}{pos:Pos}
def IxR.or{r r':R2}(h:IxR X r)(h':IxR X r'):IxR X (λx y H Q=>r x y H Q\/r' x y H Q):=by
 intro value slice pins s σ H x y v u Q I rx ry q hs;rcases q with q|q;·exact h value slice pins s σ H x y v u Q I rx ry q hs
 ·exact h' value slice pins s σ H x y v u Q I rx ry q hs
def GV{r:R2}(hr:IxR X r)(ha:PE X a ta)(hb:PE X b tb)(hs:tT b):PE X (.Subscript a b pos) (tOp r ta tb):=by intro pins s σ H Q I h;exact Subscript_ (NQ ha hb I h λv u s2 x y H2 I2 rx ry q=>hr a b pins s2 σ H2 x y v u Q I2 rx ry q (hs _ _))
def MB(K:W.Frag):R2:=λx y H Q=>∃p xs i v,x=.ref p/\y=.int i/\SqL K H p xs/\atI xs i=some v/\Q v H
def OW(K:W.Frag):R2:=λx y H Q=>∃p xs i v,x=.ref p/\y=.int i/\SqT K H p xs/\atI xs i=some v/\Q v H
noncomputable def Oz:R2:=λx y H Q=>∃z i c,x=.str z/\y=.int i/\z.length<=sizeLine/\atI z.cps.toList i=some c/\Q (.str ⟨#[c]⟩) H
def ix_list:IxR X (MB X.K):=by
 intro value slice pins s σ H x y v u Q I rx ry h hs;obtain⟨p,xs,i,z,rfl,rfl,hq,he,q⟩:=h;cases rx;obtain⟨t,rfl⟩:=ry;obtain⟨its,r,pl,hz⟩:=I.list hq;obtain⟨j,h1,h2,h3,h4,h5⟩:=xj he;obtain⟨w,ew,rw'⟩:=r.get h2;have hl:=r.length;have hn:=mF;have fin:EP X pins σ Q w s:=⟨z,H,I,rw',q⟩
 by_cases h0:0<=i
 ·have hj:i.toNat=j:=by rw[seqIndex_of h0 h5]at h1;exact xz h1
  exact item_listR pl.isList h0 (by omega) (by rw[hj];simpa using ew) fin hs
 ·have hj:(i+(its.toArray.size:Int)).toNat=j:=by rw[seqIndex_neg (by omega) h4]at h1;rw[xm,<- hl];exact xz h1
  exact subscriptTail_builtinR (x:=w) pl.isList.typeIs slot_list_getitem.lookup
   (wpAny_getItem_list_neg (Q:=λr s'=>r=w/\EP X pins σ Q r s') pl.isList (by omega) (by rw[xm] <;> omega) (by omega) (by rw[hj];simpa using ew) ⟨rfl,fin⟩) hs
def ix_tup:IxR X (OW X.K):=by
 intro value slice pins s σ H x y v u Q I rx ry h hs;obtain⟨p,xs,i,z,rfl,rfl,hq,he,q⟩:=h;cases rx;obtain⟨t,rfl⟩:=ry;obtain⟨its,r,pl,hz⟩:=I.tuple hq;obtain⟨j,h1,h2,h3,h4,h5⟩:=xj he;obtain⟨w,ew,rw'⟩:=r.get h2;have hl:=r.length;have hn:=mF;have fin:EP X pins σ Q w s:=⟨z,H,I,rw',q⟩
 exact subscriptTail_builtinR (x:=w) pl.typeIs slot_tuple_getitem.lookup
  (getItem_tuple (j:=j) (Q:=λr s'=>r=w/\EP X pins σ Q r s') pl (by omega) (by omega) (by rw[xm,<- hl];exact h1) (by simpa using ew) ⟨rfl,fin⟩) hs
def Lo:IxR X Oz:=by
 intro value slice pins s σ H x y v u Q I rx ry h hs;obtain⟨z,i,c,rfl,rfl,hz,he,q⟩:=h;obtain⟨t,rfl⟩:=rx;obtain⟨t',rfl⟩:=ry;obtain⟨j,h1,h2,h3,h4,h5⟩:=xj he;have hl:z.cps.toList.length=z.length:=by simp[Str.length]
 rw[hl]at h1 h4 h5;have hn:=mF;exact tail_any (j1 s z t) slot_str_getitem.lookup (getItem_str (c:=c) (by have e1:decide (i < -(2 ^ 63:Int))=false:=vF (by omega);have e2:decide (i ≥ 2 ^ 63)=false:=vF (by omega);rw[e1,e2,Bool.or_false]) (by rw[h1];simpa using h2) ⟨.str ⟨#[c]⟩,H,I.tok _,⟨_,rfl⟩,q⟩) hs
def rIx(K:W.Frag):R2:=λx y H Q=>MB K x y H Q\/OW K x y H Q\/Oz x y H Q
def Jv:IxR X (rIx X.K):=ix_list.or (ix_tup.or Lo)
def yS(its:List Value)(n j:Nat)(u:Value):Obj.mapSeq (·.setIfInBounds j u) { cls:=.type "list",data:=.seq its.toArray n }={ cls:=.type "list",data:=.seq (its.set j u).toArray n }:=by simp[Obj.mapSeq]
def Inv.lst{p:Addr}(I:Inv X pins σ H s)(h:H p=some (.lst xs)):
  ∃(its:List Value)(n:Nat),Vals xs its/\s.heap.get? p=some { cls:=.type "list",data:=.seq its.toArray n }/\xs.length<=sizeLine:=by
 obtain⟨z,its,n,r,e⟩:=I.hok p _ h;exact⟨its,n,r,e,z⟩
def Inv.lstUpd{p:Addr}{ys:List V}{its':List Value}{n':Nat}{f:Obj->Obj}(I:Inv X pins σ H s)(h:H p=some (.lst xs))(ho:s.heap.get? p=some { cls:=.type "list",data:=.seq its.toArray n })(hf:f { cls:=.type "list",data:=.seq its.toArray n }={ cls:=.type "list",data:=.seq its'.toArray n' })(r:Vals ys its')(hz:ys.length<=sizeLine)(t:Nat):
  Inv X pins σ (upd H p (.lst ys)) { s with heap:=s.heap.update p f,toks:=t }:=by
 have e:(s.heap.update p f).get? p=some { cls:=.type "list",data:=.seq its'.toArray n' }:=by rw[j2 f ho (by rw[hf] <;> rfl),hf]
 refine I.write (x:=p) (e:=p) (by rw[h];trivial) (.inl rfl) (λb u hb q=>(Ze _ _ (x9 hb)).trans q) ⟨_,e⟩ ?_;exact⟨hz,its',n',r,e⟩
noncomputable def ND:V->V->V->Hp->(Hp->Prop)->Prop:=λo i v H Q=>∃p xs k j,o=.ref p/\i=.int k/\H p=some (.lst xs)/\ixN xs.length k=some j/\Q (upd H p (.lst (xs.set j v)))
def yD:MA X ND:=by
 intro pins s σ H o i v ov iv u Q I ro ri rv h;obtain⟨p,xs,k,j,rfl,rfl,hp,hj,q⟩:=h;cases ro;obtain⟨t,rfl⟩:=ri;obtain⟨its,n,r,ho,hz⟩:=I.lst hp;obtain⟨h1,h2,h3,h4⟩:=Bq hj;have hl:=r.length;have hn:=mF;have I':Inv X pins σ (upd H p (.lst (xs.set j v))) { s with heap:=s.heap.update p (Obj.mapSeq (·.setIfInBounds j u)) }:=
  I.lstUpd hp ho (yS its n j u) (r.set rv j) (by rw[Zf];exact hz) s.toks;by_cases h0:0<=k
 ·have hk:k.toNat=j:=by rw[seqIndex_of h0 h4]at h1;exact xz h1
  exact W.ki_setAt ho h0 (by omega) (by rw[xm,<- hl];exact h4) (by rw[hk];exact⟨_,I',q⟩)
 ·have hk:(k+(its.toArray.size:Int)).toNat=j:=by rw[seqIndex_neg (by omega) h3]at h1;rw[xm,<- hl];exact xz h1
  exact W.ki_setBack ho (by omega) (by rw[xm,<- hl];exact h3) (by omega) (by rw[hk];exact⟨_,I',q⟩)
def uy(lo hi:Option Int)(n:Nat):(sliceBounds lo hi none n).1=((HT.sIx n 0 lo:Nat):Int)/\(sliceBounds lo hi none n).2.1=((HT.sIx n n hi:Nat):Int)/\(sliceBounds lo hi none n).2.2=1:=by
 refine⟨?_,?_,rfl⟩
 ·cases lo with
  |none=>simp[sliceBounds,HT.sIx]
  |some i=>
   simp only[sliceBounds,HT.sIx,Option.getD_none,show(1:Int) > 0 by decide,wO];by_cases h:i<0;·simp only[h,wO] <;> omega
   ·simp only[h,sT] <;> omega
 ·cases hi with
  |none=>simp[sliceBounds,HT.sIx]
  |some i=>
   simp only[sliceBounds,HT.sIx,Option.getD_none,show(1:Int) > 0 by decide,wO];by_cases h:i<0;·simp only[h,wO] <;> omega
   ·simp only[h,sT] <;> omega
def tE(its:List Value)(lo hi:Option Int):slicePick its.toArray lo hi none=((its.drop (HT.sIx its.length 0 lo)).take (HT.sIx its.length its.length hi - HT.sIx its.length 0 lo)).toArray:=by obtain⟨h1,h2,h3⟩:=uy lo hi its.toArray.size;unfold slicePick;rw[h1,h2,h3];simp only[sliceRange_one,pick_run,xm] <;> rfl
noncomputable def OS(K:W.Frag):V->Option Int->Option Int->Hp->VK->Prop:=λx lo hi H Q=>∃a xs,x=.ref a/\SqL K H a xs/\∀p,H p=none->Q (.ref p) (upd H p (.lst (Gi xs lo hi)))
def IP:SlR X (OS X.K):=by intro pins s σ H x v vl vu lo hi sl Q I rx hs pl pu h;obtain⟨a,xs,rfl,hx,q⟩:=h;cases rx;obtain⟨its,r,ht,hz⟩:=I.list hx;have hlen:=r.length;refine⟨"list",_,slot_list_getitem.lookup,ht.isList.typeIs,?_⟩;refine wpAny_getItem_list_slice ht.isList hs pl pu .none (by simp) ?_ (by rw[xm] <;> omega);rw[tE,<- hlen];refine⟨.ref s.heap.objs.size,_,I.laid (t':=s.toks) (o:=.lst (Gi xs lo hi)) (λb ob q=>zT _ q) (zE _) ?_,rfl,q _ (I.hok.fresh (zE _))⟩;exact⟨xS (nY xs lo hi) hz,_,0,(r.drop (HT.sIx xs.length 0 lo)).take (HT.sIx xs.length xs.length hi - HT.sIx xs.length 0 lo),xG _ rfl⟩
noncomputable def tyV(K:W.Frag)(T:String)(x:V)(H:Hp):Prop:=match x with
 |.str _=>T="str"
 |.int _=>T="int"
 |.ref p=>(T="list"/\∃xs,SqL K H p xs)\/(T="tuple"/\∃o,K.lookup p=some o/\o.cls=.type "tuple"/\o.dict=none)\/
   (T="dict"/\((∃kvs,H p=some (.dK kvs))\/∃kvs,H p=some (.dT kvs)))\/(T="set"/\∃S n,H p=some (.set S n))
 |_=>False
def Lc{T:String}{x:V}{v:Value}(I:Inv X pins σ H s)(r:RelV x v)(ty:tyV X.K T x H):
  s.TypeIs v T/\∀a,v=.ref a->∃ob,s.heap.get? a=some ob/\ob.dict=none:=by
 cases x with
 |str z=>obtain⟨t,rfl⟩:=r;cases (show T="str" from ty);exact⟨j1 s z t,λ_ e=>nomatch e⟩
 |int i=>obtain⟨t,rfl⟩:=r;cases (show T="int" from ty);exact⟨j3 s i t,λ_ e=>nomatch e⟩
 |ref p=>
  cases r;rcases ty with⟨rfl,xs,hq⟩|⟨rfl,o,hk,hc,hd⟩|⟨rfl,hk⟩|⟨rfl,S,n,hk⟩
  ·obtain⟨its,_,pl,_⟩:=I.list hq;refine⟨pl.isList.typeIs,λa e=>?_⟩;cases e;obtain⟨o,n,e,c,hd,_⟩:=pl;exact⟨o,e,hd⟩
  ·refine⟨⟨o,I.kIn p o hk,hc⟩,λa e=>?_⟩;cases e;exact⟨o,I.kIn _ o hk,hd⟩
  ·have z:∃o,s.heap.get? p=some o/\o.ExactDict:=by
    rcases hk with⟨kvs,hk⟩|⟨kvs,hk⟩;·obtain⟨_,_,_,_,o,_,_,e,ex,_⟩:=I.hok p _ hk;exact⟨o,e,ex⟩
    ·obtain⟨_,_,_,_,o,_,_,e,ex,_⟩:=I.hok p _ hk;exact⟨o,e,ex⟩
   obtain⟨o,e,ex⟩:=z;refine⟨⟨o,e,ex.1⟩,λa e2=>?_⟩;cases e2;exact⟨o,e,ex.2.1⟩
  ·obtain⟨o,_,_,_,e,ex,_⟩:=I.hok p _ hk;refine⟨⟨o,e,ex.1⟩,λa e2=>?_⟩;cases e2;exact⟨o,e,ex.2.1⟩
 |_=>exact False.elim ty
noncomputable def tBM(K:W.Frag)(T:String)(r:V->List V->Hp->VK->Prop)(to:TE)(t:TA):TE:=λσ H Q=>to σ H λx H1=>tyV K T x H1/\t σ H1 λxs H2=>r x xs H2 Q
variable{o e:Expr}{to:TE}{t:TA}{name:Str}{apos cpos:Pos}{T id:String}{r:V->List V->Hp->VK->Prop}
def Hl(pa:PlainAttrs T)(slot:Slot T name id)(hty:typeOf (.builtin id)=pure (.type "method_descriptor"))(hm:MtR X id r)(ho:PE X o to)(ha:PA X (e::es) t)(hbase:attributeBase o name X.env (eval o X.env)=eval o X.env:=by rfl)(hfew:((backTo cpos (starEach (e::es) X.env)).all (λx=>!x.1) && (backToKw cpos (keywordEach [] X.env)).all (λx=>x.1.isSome)
 && decide ((e::es).length+([]:List Keyword).length+(if ([]:List Keyword).isEmpty then 0 else 1)<30))=true:=by rfl)(hline:(apos.endLine==cpos.line)=true:=by rfl)(hs:starEach (e::es) X.env=(false,eval e X.env)::starEach es X.env:=by rfl)(hplain:(backTo cpos (starEach es X.env)).any (·.1)=false:=by rfl):
  PE X (.Call (.Attribute o name apos) (e::es) [] cpos) (tBM X.K T r to t):=by
 intro pins s σ H Q I h;refine wpAny_Call_method_late hbase hfew hline rfl (thn (ho pins s σ H _ I h) λv s1 ⟨x,H1,I1,r1,ty,q1⟩=>?_);obtain⟨h1,h2⟩:=Lc I1 r1 ty;refine⟨T,id,pa,slot,hty,h1,h2,?_⟩;have hA:=ha cpos pins s1 σ H1 _ I1 q1;rw[hs]at hA⊢;refine Calls.callWith_builtin (by show(false || (backTo cpos (starEach es X.env)).any (·.1))=false;rw[hplain] <;> rfl) (Calls.evalArgs_plain ?_);exact thn hA λus s2 ⟨vs,H2,I2,r2,q2⟩=>hm pins s2 σ H2 x vs v us Q I2 r1 r2 q2
/- xs.append(e),list.index on a module's tuple .. are MtR facts of 06m -/
end
noncomputable def MtM(X:Cx)(id:String)(r:V->List V->Hp->VK->Prop):Prop:=
 ∀(pins:List (Addr×Obj))(s:Shared)(σ:St)(H:Hp)(x:V)(xs:List V)(v:Value)(us:List Value)(Q:VK),Inv X pins σ H s->RelV x v->Vals xs us->r x xs H Q->
  wpAny (model X.prog X.w) X.A (call (.builtin id) (v::us)) (EP X pins σ Q) X.xe s
def Vals.one:∀{x:V}{us:List Value},Vals [x] us->∃u,us=[u]/\RelV x u
 |_,_,.cons r .nil=>⟨_,rfl,r⟩
def Vals.two:∀{x y:V}{us:List Value},Vals [x,y] us->∃u v,us=[u,v]/\RelV x u/\RelV y v
 |_,_,_,.cons r (.cons q .nil)=>⟨_,_,rfl,r,q⟩
theorem Vals.rep(h:Vals xs us):∀k:Nat,Vals (List.replicate k xs).flatten (List.replicate k us).flatten
 | 0=>.nil
 |k+1=>by rw[p7,p7,nr,nr];exact Vals.append h (Vals.rep h k)
theorem kT(its:List Value):∀(k:Nat)(acc:List Value),
  List.foldl (λx1 x2=>x1++x2) acc.toArray (List.replicate k its.toArray)=(acc++(List.replicate k its).flatten).toArray
 | 0,acc=>by simp
 |k+1,acc=>by
  have e:acc.toArray++its.toArray=(acc++its).toArray:=by simp
  have e2:(acc++its)++(List.replicate k its).flatten=acc++(List.replicate (k+1) its).flatten:=by rw[p7,nr,j4]
  rw[<- e2,<- kT its k (acc++its),<- e,p7,j5]
section
variable{b:Addr}{ys zs:List V}
def Inv.lset{its':List Value}{f:Array Value->Array Value}{t':Nat}(I:Inv X pins σ H s)(hH:H l=some (.lst xs))(e:s.heap.get? l=some { cls:=.type "list",data:=.seq its.toArray n })(hf:f its.toArray=its'.toArray)(hv:Vals ys its')(hz:ys.length<=sizeLine):
  Inv X pins σ (upd H l (.lst ys)) { s with heap:=s.heap.update l (Obj.mapSeq f),toks:=t' }:=by
 have q:=PySem.IsL.update e f;rw[hf]at q;refine I.write (x:=l) (e:=l) (by rw[hH];exact trivial) (.inl rfl) (λb' u hb hu=>(Ze s.heap (Obj.mapSeq f) (x9 hb)).trans hu) ⟨_,q⟩ ?_;exact⟨hz,its',_,hv,q⟩
def Inv.lnew{t':Nat}(I:Inv X pins σ H s)(hv:Vals ys its)(hz:ys.length<=sizeLine):
  Inv X pins σ (upd H s.heap.objs.size (.lst ys)) { s with heap:=s.heap.push { cls:=.type "list",data:=.seq its.toArray },toks:=t' }:=
 I.laid (λ_ _ q=>zT _ q) (zE _) ⟨hz,its,0,hv,xG _ rfl⟩
def Inv.fresh(I:Inv X pins σ H s):H s.heap.objs.size=none:=I.hok.fresh (zE _)
def Inv.lstM(I:Inv X pins σ H s)(hH:H l=some (.lst xs)):xs.length<=sizeLine/\∃(its:List Value)(n:Nat),Vals xs its/\xs.length=its.length/\s.heap.get? l=some { cls:=.type "list",data:=.seq its.toArray n }:=by obtain⟨z,its,n,r,e⟩:=I.hok l _ hH;exact⟨z,its,n,r,r.length,e⟩
def yE(h:n<=sizeLine):Builtin.List.listTooLong n=false:=by unfold Builtin.List.listTooLong;exact vF (by omega)
end
section
noncomputable def Ir:V->List V->Hp->VK->Prop:=λx vs H Q=>∃l xs y,x=.ref l/\vs=[y]/\H l=some (.lst xs)/\xs.length<sizeLine/\Q .non (upd H l (.lst (xs++[y])))
theorem kQ:MtM X "list.append" Ir:=by intro pins s σ H x vs v us Q I rx rv h;obtain⟨l,xs,y,rfl,rfl,hH,hz,q⟩:=h;cases rx;obtain⟨u,rfl,ru⟩:=rv.one;obtain⟨z,its,n,r,hl,e⟩:=I.lstM hH;refine sZ F.slot_list_append ⟨_,e,rfl⟩ F.entry_list_append (F.args_list_append_2 _ _) (PySem.list_append l its.toArray n u (by rw[xm];omega)) ⟨e,?_⟩;refine⟨.non,_,I.lset (its':=its++[u]) hH e (by simp) (r.append (.cons ru .nil)) ?_,rfl,q⟩;rw[sg,List.length_singleton];omega
noncomputable def Gs:V->List V->Hp->VK->Prop:=λx vs H Q=>∃l b xs zs,x=.ref l/\vs=[.ref b]/\H l=some (.lst xs)/\H b=some (.lst zs)/\xs.length+zs.length<=sizeLine/\Q .non (upd H l (.lst (xs++zs)))
theorem Cr:MtM X "list.extend" Gs:=by
 intro pins s σ H x vs v us Q I rx rv h;obtain⟨l,b,xs,zs,rfl,rfl,hH,hB,hz,q⟩:=h;cases rx;obtain⟨u,rfl,ru⟩:=rv.one;cases ru;obtain⟨z,its,n,r,hl,e⟩:=I.lstM hH;obtain⟨z2,its2,n2,r2,hl2,e2⟩:=I.lstM hB;have hsz:its.toArray.size+its2.toArray.size<=sizeLine:=by rw[xm,xm];omega
 have hlong : ¬ (!its.toArray.isEmpty && Builtin.List.listTooLong (its.toArray.size+its2.toArray.size))=true:=by rw[yE hsz,Bool.and_false];exact wT
 refine sZ F.slot_list_extend ⟨_,e,rfl⟩ F.entry_list_extend (F.args_list_extend_2 _ _)
  (AutoSeq1.list_extend_list_list_0 l its.toArray n b its2.toArray n2 hlong (by rw[xm];omega) (by omega)) ⟨e,e2,?_⟩;refine⟨.non,_,I.lset (its':=its++its2) hH e (by simp) (r.append r2) ?_,rfl,q⟩;rw[sg];omega
noncomputable def ON:R2:=λx y H Q=>∃l b xs zs,x=.ref l/\y=.ref b/\H l=some (.lst xs)/\H b=some (.lst zs)/\xs.length+zs.length<=sizeLine/\∀p,H p=none->Q (.ref p) (upd H p (.lst (xs++zs)))
def op_cat:OpR X (binaryOp .Add) ON:=by
 intro pins s σ H x y v u Q I rx ry h;obtain⟨l,b,xs,zs,rfl,rfl,hH,hB,hz,q⟩:=h;cases rx;cases ry;obtain⟨z,its,n,r,hl,e⟩:=I.lstM hH;obtain⟨z2,its2,n2,r2,hl2,e2⟩:=I.lstM hB;refine PySem.P.add_list e e2 ?_ (by rw[xm,xm];omega);have ea:its.toArray++its2.toArray=(its++its2).toArray:=by simp
 rw[ea];exact⟨.ref _,_,I.lnew (t':=s.toks) (r.append r2) (by rw[sg];omega),rfl,q _ I.fresh⟩
noncomputable def Oy:R2:=λx y H Q=>∃l k xs,x=.ref l/\y=.int k/\H l=some (.lst xs)/\-(2 ^ 63)<=k/\k<2 ^ 63/\xs.length * k.toNat<=sizeLine/\
 ∀p,H p=none->Q (.ref p) (upd H p (.lst (List.replicate k.toNat xs).flatten))
def ua{α:Type}(xs:List α)(k:Nat):(List.replicate k xs).flatten.length=k * xs.length:=by
 induction k with
 |zero=>simp
 |succ k ih=>rw[p7,nr,sg,ih,Nat.succ_mul,Nat.add_comm]
theorem KD:OpR X (binaryOp .Mult) Oy:=by
 intro pins s σ H x y v u Q I rx ry h;obtain⟨l,k,xs,rfl,rfl,hH,h1,h2,hz,q⟩:=h;cases rx;obtain⟨t,rfl⟩:=ry;obtain⟨z,its,n,r,hl,e⟩:=I.lstM hH;have hlen:its.toArray.size * k.toNat<=sizeLine:=by rw[xm,<- hl];exact hz
 have hcap : ¬ its.toArray.size * k.toNat > (2 ^ 63 - 1) / 8:=by
  have:(sizeLine:Nat)<=(2 ^ 63 - 1) / 8:=by decide
  omega
 have hfit : ¬ (!Builtin.List.listFitsIndex k)=true:=by rw[fitsIndex_both h1 h2];exact wT
 have hlong : ¬ Builtin.List.listTooLong (its.toArray.size * k.toNat)=true:=by rw[yE hlen];exact wT
 have hnew:List.foldl (λx1 x2=>x1++x2) #[] (List.replicate (if its.toArray.isEmpty=true then 0 else k.toNat) its.toArray)=(List.replicate k.toNat its).flatten.toArray:=by
  have f0:∀m:Nat,List.foldl (λx1 x2=>x1++x2) #[] (List.replicate m its.toArray)=(List.replicate m its).flatten.toArray:=λm=>by have:=kT its m [];rw[j6]at this;exact this
  rw[f0];cases its with
  |nil=>simp
  |cons a r'=>rw[if_neg (by simp)]
 refine wpAny_binaryOp_repeat_ref (T:="list") (U:="int") (by decide) ⟨_,e,rfl⟩ (λs'=>j3 s' k t) noFill_list_mul F.fills_int_mul eQ repeat_list F.slot_int_index.lookup
  (sZ eQ (j3 s k t) F.entry_int_rmul (F.args_int_rmul_2 _ _) (int___rmul___int_list k t l its.toArray n)
   ⟨e,rfl,⟨_,e,rfl⟩,sZ F.slot_list_mul ⟨_,e,rfl⟩ F.entry_list_mul (F.args_list_mul_2 _ _) (AutoListH.list___mul___list_int_3 l its.toArray n k t hfit hcap hlong) ⟨e,?_⟩⟩);rw[hnew];exact⟨.ref _,_,I.lnew (t':=s.toks) (r.rep k.toNat) (by rw[ua,d0];exact hz),rfl,q _ I.fresh⟩
end
end L2
namespace Att
open PySem PySem.W PySem.Calls PyProof.Rows
def nZ{P:Params}:∀(ns:List Int)(vs:List Value),WellAll P h vs (ns.map WData.int)->IntsAre vs ns:=by
 intro ns;induction ns with
 |nil=>intro vs w;rw[List.map_nil]at w;cases w;exact .nil
 |cons n ns ih=>
  intro vs w;rw[tI]at w;cases w with
  |cons a b=>cases a;exact .cons _ _ (ih _ b)
def Bx{l:OpenLaw}(hn:l.most=some n){P:Params}{args:List WData}{vals:List Value}(hpre:l.row.toRowW.claim.pre args=true)(hwl:WellAll P h vals args):
  ∃a vs ns,vals=[Value.ref a]/\args=[WData.list (ns.map WData.int)]/\h.get? a=some { cls:=.type "list",data:=.seq vs.toArray }/\IntsAre vs ns/\ns.length<=n:=by
 have hsh:WShape.hasAll [] args [.list .int]=true:=(pre_splitW hpre).1;have hc:l.pre.holds [] { args:=args }=true:=(pre_splitW hpre).2;obtain⟨d,r,rfl,h1,h2⟩:=hasAllW_cons hsh;obtain rfl:=hasAllW_nil h2;obtain⟨xs,rfl,h3⟩:=hasW_list h1;obtain⟨ns,rfl⟩:=items_int h3;have hlen:ns.length<=n:=by
  unfold OpenLaw.pre at hc;have h4:(WTm.not (.lt (.lit (.int (n:Int))) (.len (.arg 0)))).holds [] { args:=[.list (ns.map .int)] }=true:=by have h4:=(holds_andW hc).1;rw[hn]at h4;exact h4
  have h5:=condW_of h4 (w_not (w_lt w_lit (w_len_list (w_arg rfl))));rw[uc]at h5;refine Nat.le_of_not_lt λq=>?_;have q':(n:Int)<((ns.length:Nat):Int):=by omega
  first
   | (rw[uY q']at h5;exact absurd h5 (by decide))
   | (simp at h5;omega)
 cases hwl with
 |cons w1 w2=>
  cases w2;cases w1 with
  |list ho hall=>exact⟨_,_,ns,rfl,rfl,ho,nZ ns _ hall,hlen⟩
def Ak(l:OpenLaw)(args:List WData):l.row.toRowW.claim.post args (.bool true) args=true:=
 postW_of (r:=l.row.toRowW) (X:=(true==true))
  (show WShape.has [] (.bool true) .bool=true by first|rfl|decide|simp[WShape.has,WShape.arms,WShape.armsAll])
  (show(WTm.eq .res (.lit (.bool true))).value [] { args:=args,res:=some (.bool true),after:=args }=some (.bool (true==true)) from w_eq_bool (w_res rfl) w_lit) rfl
def attach_call{l:OpenLaw}{XP:(Str->Option Value)->Heap->Prop}{YP:World->Heap->Prop}{d:DefRec}(hn:l.most=some n)(hdf:d.params.defaults=[])(call:∀(w:World)(s₀ s₁:Shared)(mg mb:Str->Option Value)(fa:Addr)(o:Obj)(pm cd doc:Value)(a:Addr)(vs:List Value)(ns:List Int),
 Ground q loose [] XP w s₀ mg mb s₁.heap->YP w s₁.heap->
 s₁.heap.get? fa=some o->o.data=.func (docDef d.name d.params d.body d.scope pm cd doc)->s₁.heap.CodeRec cd d.name->mg d.name=some (.ref fa)->
 s₁.heap.get? a=some { cls:=.type "list",data:=.seq vs.toArray }->IntsAre vs ns->ns.length<=n->s₁.gens = #[]->
 codeAny (model l.prog w) callerA (.call (.ref fa) ⟨[.ref a],[]⟩) (λr s'=>r=.ok (.ret (.bool true))/\OldK s₁.heap s'.heap/\s'.os=s₁.os/\AllBare s'.gens) s₁):
  WalkO q loose XP YP l.row.toRowW d [] (λf vs=>PySem.call f vs):=by
 intro w s₀ s₁ mg mb G Y fa o pm cd doc dV kV ho hd hcd hD hmg hg args vals as hpre hlay hrd hwl hlo;obtain rfl:dV=.none:=Dflts.none hD hdf;obtain rfl:kV=.none:=Dflts.noKw hD;obtain⟨a,vs,ns,rfl,rfl,hobj,hints,hlen⟩:=Bx hn hpre hwl;refine enter_call (o8 (call w s₀ s₁ mg mb fa o pm cd doc a vs ns G Y ho (fd_plain hd) hcd hmg hobj hints hlen hg) λr s' hq=>?_);obtain⟨rfl,h2,h3,h4⟩:=hq;exact⟨.inl ⟨.bool true,.bool true,[],rfl,λ_=>rfl,.bool true,Ak l _,λ_=>⟨List.Pairwise.nil,λ_ hm=>(nomatch hm)⟩⟩,h2,h3,h4⟩
section
variable{prog:Program}{w:World}{A:Around}{K:Frag}
noncomputable def OG(h:Heap)(L d:Addr):List (Addr×Obj):=(List.range h.objs.size).filterMap λa=>if a=L\/a=d then none else (h.get? a).map λo=>(a,o)
end
end Att
namespace L2
open PySem PySem.Spec PyProof.Rows
theorem uq:∀{vs:List Value}{ns:List Int},IntsAre vs ns->Vals (ns.map V.int) vs
 |_,_,.nil=>.nil
 |_,_,.cons n t h=>.cons ⟨t,rfl⟩ (uq h)
def NX(H:Hp):Prop:=∀b,H b=none\/∃o xs,H b=some (.frz o (.lst xs))
def ET{w:World}{K:W.Frag}{mg mb:Str->Option Value}{fa:Addr}{x:Str}{sp:Sp}{s₁:Shared}{vs:List Value}{ns:List Int}(KX:K.In s₁.heap)(hns:s₁.heap.Ns mainGlobals mg)(hb:s₁.heap.Ns builtinsNs mb)(hbb:∀x:Str,x≠"__name__"->mb x=bootBuiltins x)(hlim:s₁.heap.NoLimit)(hg:s₁.gens = #[])(ha:s₁.heap.get? a=some { cls:=.type "list",data:=.seq vs.toArray })(hi:IntsAre vs ns)(hl:ns.length<=sizeLine)(hr:Room k callerA)(F:∀base:Heap,K.In base->base.Ns mainGlobals mg->FnOk P w K mg base CX k fa fd [x] sp)(hbind:∀(s:Shared)(u:Value),BindsTo s fd ⟨[u],[]⟩ [(x,u)])(hsp:∀H:Hp,NX H->SqL K H a (ns.map V.int)->sp [.ref a] H (λv _=>v=.bl true) λ_ _ _=>False)(hCX:∀H e s',CX [] H s₁ (λ_ _ _=>False) e s'->False):
  codeAny (model P w) callerA (.call (.ref fa) ⟨[.ref a],[]⟩) (λr s'=>r=.ok (.ret (.bool true))/\OldK s₁.heap s'.heap/\s'.os=s₁.os/\AllBare s'.gens) s₁:=by
 have rv:=uq hi;have lenV:=hi.length;have core:∀H:Hp,NX H->SqL K H a (ns.map V.int)->HOk P w H s₁.heap->(∀b,H b≠none->b=a)->(H a≠none->K.lookup a=none)->
   codeAny (model P w) callerA (.call (.ref fa) ⟨[.ref a],[]⟩) (λr s'=>r=.ok (.ret (.bool true))/\OldK s₁.heap s'.heap/\s'.os=s₁.os/\AllBare s'.gens) s₁:=by
  intro H hO hS hok hA hK;have base_of:∀{b:Addr}{o:Obj},s₁.heap.get? b=some o->H b=none->(CL s₁.heap H).get? b=some o:=λe n=>ER e n;have noA:∀{b:Addr}{o:Obj}{es:Array DictEntry}{ep:Nat},s₁.heap.get? b=some o->o.data=.dict es ep->H b=none:=λ{b o es ep} e d=>by
   cases q:H b with
   |none=>rfl
   |some u=>have e':b=a:=hA b (by rw[q];simp);subst e';rw[ha]at e;cases e;have d':Data.seq vs.toArray _=Data.dict es ep:=d;cases d'
  have nsK:∀{b:Addr}{m:Str->Option Value},s₁.heap.Ns b m->(CL s₁.heap H).Ns b m:=λ{b m} ⟨o,es,ep,e,d,r⟩=>⟨o,es,ep,base_of e (noA e d),d,r⟩
  have hKb:K.In (CL s₁.heap H):=λb o e=>base_of (KX b o e) (by
   cases q:H b with
   |none=>rfl
   |some u=>have e':b=a:=hA b (by rw[q];simp);subst e';rw[hK (by rw[q];simp)]at e;cases e);have hM:Mod K mg (CL s₁.heap H):=⟨hKb,nsK hns,⟨mb,nsK hb,hbb⟩,let⟨mc,h1,h2⟩:=hlim;⟨mc,nsK h1,h2⟩⟩
  have e0:Env0 P w K mg (CL s₁.heap H) callerA [] s₁ H:=⟨rfl,hM,λb o e=>Il e,Nat.le_of_eq (Cq _ _),trivial,λb hb=>absurd (show b∈([]:List Addr) from hb) (by simp),hok,.of_eq hg,Ab _ _⟩
  refine o8 ((F _ hKb (nsK hns)).run callerA [] s₁ H ⟨[.ref a],[]⟩ [.ref a] [.ref a] _ _ hr e0 (hbind s₁ (.ref a)) (.cons rfl .nil) (hsp H hO hS)) λr s' h=>?_;cases r with
  |error e=>exact(hCX H e s' h).elim
  |ok fl=>
   cases fl with
   |next=>exact False.elim h
   |brk=>exact False.elim h
   |cont=>exact False.elim h
   |ret u=>
    obtain⟨v,H',os,bare,un,hok',r',q⟩:=h;have q':v=.bl true:=q;subst q';obtain rfl:u=Value.bool true:=r';refine⟨rfl,OldK.of_keep λb o e=>?_,os,bare⟩;cases q:H b with
    |none=>exact un.keep b o e q (by intro z;exact absurd (show b∈([]:List Addr) from z) (by simp)) (by simp)
    |some u=>
     rcases hO b with z|⟨ob,xs,z⟩;·rw[q]at z;cases z
     ·have z2:=un.frzs b ob _ z;obtain⟨e1,_⟩:=hok b _ z;obtain⟨e2,_⟩:=hok' b _ z2;rw[e]at e1;cases e1;exact e2
 cases hk:K.lookup a with
 |some o=>have e:=KX a o hk;rw[ha]at e;cases e;refine core (λ_=>none) (λ_=>.inl rfl) (.inr ⟨_,vs.toArray,_,hk,rfl,rfl,rfl,by rw[xm,lenV];exact hl,by simpa using rv⟩) (λb u z=>by have z':(none:Option HO)=some u:=z;cases z') (λb z=>absurd rfl z) λz=>absurd rfl z
 |none=>
  refine core (λb=>if b=a then some (.frz { cls:=.type "list",data:=.seq vs.toArray } (.lst (ns.map V.int)))else none) (λb=>?_) (.inl (.inr ⟨{ cls:=.type "list",data:=.seq vs.toArray },if_pos rfl⟩)) (λb u z=>?_) (λb z=>?_) λ_=>hk
  ·by_cases hb:b=a;·exact .inr ⟨_,_,if_pos hb⟩
   ·exact .inl (if_neg hb)
  ·by_cases hb:b=a;·have z':=(if_pos hb).symm.trans z;cases z';subst hb;exact⟨ha,by rw[uc];exact hl,vs,_,rv,ha⟩
   ·have z':=(if_neg hb).symm.trans z;cases z'
  ·by_cases hb:b=a;·exact hb
   ·exact absurd (if_neg hb) z
abbrev KOf{K:W.Frag}{h:Heap}(_:K.In h):W.Frag:=K
def Cp{l:W.OpenLaw}{XP:(Str->Option Value)->Heap->Prop}{YP:World->Heap->Prop}{d:DefRec}{K:Params->W.Frag}{CX:World->CXT}{sp:World->Sp}{x:Str}(hn:l.most=some n)(hn2:n<=sizeLine)(hdf:d.params.defaults=[])(hr:Room k callerA)(hY:∀(w:World)(h:Heap),YP w h->(K w.params).In h)(F:∀(w:World)(mg:Str->Option Value)(fa:Addr)(h:Heap),(K w.params).In h->h.Ns mainGlobals mg->mg d.name=some (.ref fa)->
 ∃fd:FuncData,(∀(s:Shared)(u:Value),BindsTo s fd ⟨[u],[]⟩ [(x,u)])/\
 ∀base:Heap,(K w.params).In base->base.Ns mainGlobals mg->FnOk l.prog w (K w.params) mg base (CX w) k fa fd [x] (sp w))(hsp:∀(w:World)(H:Hp)(a:Addr)(ns:List Int),ns.length<=n->NX H->SqL (K w.params) H a (ns.map V.int)->sp w [.ref a] H (λv _=>v=.bl true) λ_ _ _=>False)(hCX:∀(w:World)(H:Hp)(s:Shared)(e:Value)(s':Shared),CX w [] H s (λ_ _ _=>False) e s'->False):
  W.WalkO q loose XP YP l.row.toRowW d [] (λf vs=>PySem.call f vs):=by
 refine Att.attach_call hn hdf λw s₀ s₁ mg mb fa o pm cd doc a vs ns G Y ho hd hcd hmg hobj hints hlen hg=>?_;have KX:=hY w _ Y;obtain⟨fd,hb,hF⟩:=F w mg fa _ KX G.T.g hmg;exact ET KX G.T.g G.T.b G.T.builtins G.T.nolimit hg hobj hints (xS hlen hn2) hr hF hb (λH hO hS=>hsp w H a ns hlen hO hS) λH e s'=>hCX w H s₁ e s'
end L2
/- THE LAST THEOREM (shape;LID,My.* are yours):
  My.Adr: a structure of the addresses that your layer names (classes,functions);My.Txt K t: a structure (Prop) of the equations over K;
  My.txt_mk:{K} {implicit addresses ..} (e1:nsIn K mainGlobals "law"=some (some (.ref f))) (e2:K.lookup f=some ⟨oc,od,.func (fnOf "law" "law" params body scope dV kV doc pm an cdv ct),sl⟩) (e3:codeIn K cdv "law"=true) .. : ∃ t,My.Txt K t
set_option maxRecDepth 100000 in
set_option maxHeartbeats 0 in
def PySem.Challenge.cw_LID_holds : PySem.Challenge.rw_LID.Holds := by
 w_on;o_law;k_head;(case hw=>w_witness2)
 k_fill
 refine L2.Cp (l:=PySem.Challenge.rw_LID) (n:=63) (k:=40) (x:="script") (CX:=λw=>..) (sp:=λ_=>My.sp_law) rfl (by decide) rfl ⟨rfl,by decide,by decide⟩ (λw h Y=>PySem.W.kIn_of Y) ?F ?S ?C
 case F=>
  intro w mg fa h KX G hmg;have T:∃t,My.Txt (L2.KOf KX) t:=by
   dsimp only[L2.KOf]
   refine' My.txt_mk ?e1 ?e2 ?e3 ..
   (case e1=>PySem.W.k_is)
   (case e2=>PySem.W.k_is)
   ..
  obtain⟨t,T⟩:=T;have e0:=hmg.symm.trans (wo KX G T.law);cases e0;exact⟨_,λs u=>.of_eq rfl,λbase kb nb=>My.law_fn T kb nb⟩
 case S=>exact λw H a ns hl hO hS=>..
 case C=>exact ..
(the tactic k_is has no namespace: write k_is) -/
namespace L2
open PySem PySem.Spec PyProof.Rows
noncomputable def jT(s:Stmt)(j:Nat):Stmt:=match s with
 |.ClassDef _ _ _ body _ _ _ _ _ _ _=>body.getD j (.Pass ⟨0,0,0,0⟩)
 |_=>.Pass ⟨0,0,0,0⟩
noncomputable def ip(s:Stmt):Arguments:=match s with
 |.FunctionDef _ a _ _ _ _ _ _ _ _=>a
 |_=>{ posonlyargs:=[],args:=[],vararg:=none,kwonlyargs:=[],kw_defaults:=[],kwarg:=none,defaults:=[] }
def cg(s:Stmt):List Stmt:=match s with
 |.FunctionDef _ _ b _ _ _ _ _ _ _=>b
 |_=>[]
noncomputable def ar(s:Stmt):Scope:=match s with
 |.FunctionDef _ _ _ _ _ _ sc _ _ _=>sc
 |_=>{ kind:=.function,names:=[],isGenerator:=false,isCoroutine:=false }
structure Fun(K:PySem.W.Frag)(x qual:Str)(st:Stmt)(f:Addr)(fd:FuncData):Prop where
 ex:∃(oc:Value)(od:Option Addr)(kV doc pm:Value)(an:Option Addr)(cdv ct:Value)(osl:Array (Option Value)),
  fd=PySem.W.fnOf x qual (ip st) (cg st) (ar st) .none kV doc pm an cdv ct/\K.lookup f=some ⟨oc,od,.func fd,osl⟩/\PySem.W.codeIn K cdv qual=true
 kp:PySem.W.keepIn K (.ref f)=true
section
variable{w:World}{K:PySem.W.Frag}{mg:Str->Option Value}{base:Heap}
def Fun.binds{x:Str}(F:Fun K x qual st f fd)(h:∀(kV doc pm:Value)(an:Option Addr)(cdv ct:Value)(us:List Value),us.length=ps.length->bindArgs (PySem.W.fnOf x qual (ip st) (cg st) (ar st) .none kV doc pm an cdv ct) ⟨us,[]⟩=pure (ps.zip us)):Binds K fd ps []:=by
 obtain⟨oc,od,kV,doc,pm,an,cdv,ct,osl,rfl,lk,hcd⟩:=F.ex;exact .all (h kV doc pm an cdv ct)
def AK{x:Str}{kV doc pm ct:Value}(l:K.lookup f=some ⟨oc,od,.func (PySem.W.fnOf x qual (ip st) (cg st) (ar st) .none kV doc pm an cdv ct),osl⟩)(c:PySem.W.codeIn K cdv qual=true)(k:PySem.W.keepIn K (.ref f)=true):Fun K x qual st f (PySem.W.fnOf x qual (ip st) (cg st) (ar st) .none kV doc pm an cdv ct):=⟨⟨oc,od,kV,doc,pm,an,cdv,ct,osl,rfl,l,c⟩,k⟩
end
def Same(H H':Hp):Prop:=∀b o,H b=some o->H' b=some o
def Same.refl(H:Hp):Same H H:=λ_ _ h=>h
def Same.trans{H1 H2:Hp}(a:Same H H1)(b:Same H1 H2):Same H H2:=λc o h=>b c o (a c o h)
def Same.free(e:Same H H')(h:H' l=Option.none):H l=Option.none:=by
 cases q:H l with
 |none=>rfl
 |some o=>rw[e l o q]at h;cases h
def Same.seq{K:PySem.W.Frag}(e:Same H H')(h:SqL K H a xs):SqL K H' a xs:=by
 rcases h with (h|⟨o,h⟩)|h;·exact .inl (.inl (e _ _ h))
 ·exact .inl (.inr ⟨o,e _ _ h⟩)
 ·exact .inr h
end L2
namespace L2
open PySem PySem.Spec PyProof.Rows
open PySem.MeetsSeq PySem.MeetsSeq2 PySem.MeetsSeq3
abbrev DX:=List (List Bool×Addr×V)
abbrev DU:=List (List Bool×Addr×Value)
def L8(bs:List Bool):Int:=reduceHash (Builtin.Tuple.tupleHashOf (bs.map λk=>if k then 1 else 0))
abbrev P5:DX->DU->Prop:=Paired λp q=>p.1=q.1/\p.2.1=q.2.1/\RelV p.2.2 q.2.2
noncomputable def Nr(a:Addr)(o:Obj)(xs:DX):Heap->Prop:=λh=>h.get? a=some o/\xs.length<=sizeLine/\(a==sysModules)=false/\o.ExactDict/\∃us:DU,P5 xs us/\
 ∃es ep,o.data=.dict es ep/\es.toList=us.map (λx=>⟨L8 x.1,.ref x.2.1,x.2.2⟩)/\(us.map (·.1)).Nodup
def O2(a:Addr)(o:Obj)(xs:DX):HO:=.ext (Nr a o xs)
end L2
set_option maxRecDepth 100000
set_option maxHeartbeats 4000000
namespace L2
open PySem PySem.Spec PyProof.Rows
inductive D where
  |non|bl (b : Bool)|int (i : Int)|str (x : List Nat)|tup (xs : List D)|lst (fz : Bool) (xs : List D)|exc (C : Addr)
  |dct (ks : List Nat) (xs : List D)
def code(a b:Bool):Nat:=(if a then 1 else 0)+(if b then 2 else 0)
inductive KeysAt(K:PySem.W.Frag)(G:Hp):DX->List Nat->Prop
 |nil:KeysAt K G [] []
 |cons {q:Addr} {v:V} {a b:Bool} {xs:DX} {ks:List Nat} (h:SqT K G q [.bl a,.bl b]) (t:KeysAt K G xs ks):KeysAt K G (([a,b],q,v)::xs) (code a b::ks)
def kh(a C:Addr):Heap->Prop:=λh=>∃ob,h.get? a=some ob/\ob.cls=.ref C
mutual
inductive Rep(K:PySem.W.Frag)(G:Hp):V->D->Prop
 |non:Rep K G .non .non
 |bl (b:Bool):Rep K G (.bl b) (.bl b)
 |int (i:Int):Rep K G (.int i) (.int i)
 |str (x:Str) (h:x.length<=sizeLine):Rep K G (.str x) (.str x.cps.toList)
 |tup {a:Addr} {vs:List V} {ds:List D} (h:SqT K G a vs) (r:Reps K G vs ds):Rep K G (.ref a) (.tup ds)
 |lst {a:Addr} {vs:List V} {ds:List D} (h:G a=some (.lst vs)) (r:Reps K G vs ds):Rep K G (.ref a) (.lst false ds)
 |fls {a:Addr} {vs:List V} {ds:List D} (h:SqL K G a vs) (r:Reps K G vs ds):Rep K G (.ref a) (.lst true ds)
 |exc {a C:Addr} (h:G a=some (.ext (kh a C))):Rep K G (.ref a) (.exc C)
 |dct {a:Addr} {o:Obj} {xs:DX} {ks:List Nat} {ds:List D} (h:G a=some (O2 a o xs)) (k:KeysAt K G xs ks) (r:Reps K G (xs.map (·.2.2)) ds):Rep K G (.ref a) (.dct ks ds)
inductive Reps(K:PySem.W.Frag)(G:Hp):List V->List D->Prop
 |nil:Reps K G [] []
 |cons {v:V} {d:D} {vs:List V} {ds:List D} (r:Rep K G v d) (t:Reps K G vs ds):Reps K G (v::vs) (d::ds)
end
section
variable{K:PySem.W.Frag}{G' G1 H1 G2 H2:Hp}
def SqT.mono(e:Same G G')(h:SqT K G a xs):SqT K G' a xs:=by
 rcases h with (h|⟨o,h⟩)|h;·exact .inl (.inl (e _ _ h))
 ·exact .inl (.inr ⟨o,e _ _ h⟩)
 ·exact .inr h
def KeysAt.mono(e:Same G G'):∀{xs:DX}{ks:List Nat},KeysAt K G xs ks->KeysAt K G' xs ks
 |_,_,.nil=>.nil
 |_,_,.cons h t=>.cons (h.mono e) (t.mono e)
def SqL.mono(e:Same G G')(h:SqL K G a xs):SqL K G' a xs:=e.seq h
mutual
theorem Rep.mono(e:Same G G'):∀{v:V}{d:D},Rep K G v d->Rep K G' v d
 |_,_,.non=>.non
 |_,_,.bl b=>.bl b
 |_,_,.int i=>.int i
 |_,_,.str x h=>.str x h
 |_,_,.tup h r=>.tup (h.mono e) (Reps.mono e r)
 |_,_,.lst h r=>.lst (e _ _ h) (Reps.mono e r)
 |_,_,.fls h r=>.fls (h.mono e) (Reps.mono e r)
 |_,_,.exc h=>.exc (e _ _ h)
 |_,_,.dct h k r=>.dct (e _ _ h) (k.mono e) (Reps.mono e r)
theorem Reps.mono(e:Same G G'):∀{vs:List V}{ds:List D},Reps K G vs ds->Reps K G' vs ds
 |_,_,.nil=>.nil
 |_,_,.cons r t=>.cons (Rep.mono e r) (Reps.mono e t)
end
section inv
def Rep.int_inv{i:Int}(r:Rep K G v (.int i)):v=.int i:=by cases r;rfl
def Rep.bl_inv{b:Bool}(r:Rep K G v (.bl b)):v=.bl b:=by cases r;rfl
def Rep.non_inv(r:Rep K G v .non):v=.non:=by cases r;rfl
def Rep.str_inv{x:List Nat}(r:Rep K G v (.str x)):∃y:Str,v=.str y/\y.cps.toList=x/\y.length<=sizeLine:=by
 generalize e:D.str x=d at r;cases r with
 |str y h=>cases e;exact⟨y,rfl,rfl,h⟩
 |_=>cases e
def Rep.tup_inv{ds:List D}(r:Rep K G v (.tup ds)):∃a vs,v=.ref a/\SqT K G a vs/\Reps K G vs ds:=by
 cases r with
 |tup h t=>exact⟨_,_,rfl,h,t⟩
def Rep.lst_inv{ds:List D}(r:Rep K G v (.lst false ds)):∃a vs,v=.ref a/\G a=some (.lst vs)/\Reps K G vs ds:=by
 cases r with
 |lst h t=>exact⟨_,_,rfl,h,t⟩
def Rep.seq_inv{f:Bool}{ds:List D}(r:Rep K G v (.lst f ds)):∃a vs,v=.ref a/\SqL K G a vs/\Reps K G vs ds:=by
 cases r with
 |lst h t=>exact⟨_,_,rfl,.of h,t⟩
 |fls h t=>exact⟨_,_,rfl,h,t⟩
def Rep.exc_inv(r:Rep K G v (.exc C)):∃a,v=.ref a/\G a=some (.ext (kh a C)):=by
 cases r with
 |exc h=>exact⟨_,rfl,h⟩
def Rep.strL{x:List Nat}(e:y.cps.toList=x)(h:x.length<=sizeLine):Rep K G (.str y) (.str x):=by subst e;exact .str y (by simpa[Str.length]using h)
end inv
theorem Reps.length:∀{vs:List V}{ds:List D},Reps K G vs ds->vs.length=ds.length
 |_,_,.nil=>rfl
 |_,_,.cons _ t=>by simp[Reps.length t]
theorem Reps.get:∀{vs:List V}{ds:List D}{i:Nat}{d:D},Reps K G vs ds->ds[i]?=some d->∃v,vs[i]?=some v/\Rep K G v d
 |_,_,_,_,.nil,e=>by simp at e
 |_,_,0,_,.cons r _,e=>by simp at e;subst e;exact⟨_,rfl,r⟩
 |_,_,i+1,d,.cons _ t,e=>by obtain⟨v,h1,h2⟩:=Reps.get (i:=i) (d:=d) t (by simpa using e);exact⟨v,by simpa using h1,h2⟩
theorem Reps.append:∀{vs ws:List V}{ds es:List D},Reps K G vs ds->Reps K G ws es->Reps K G (vs++ws) (ds++es)
 |_,_,_,_,.nil,s=>s
 |_,_,_,_,.cons r t,s=>.cons r (Reps.append t s)
theorem Reps.take:∀{vs:List V}{ds:List D}(n:Nat),Reps K G vs ds->Reps K G (vs.take n) (ds.take n)
 |_,_,0,_=>by simpa using Reps.nil
 |_,_,_+1,.nil=>.nil
 |_,_,n+1,.cons r t=>.cons r (Reps.take n t)
theorem Reps.drop:∀{vs:List V}{ds:List D}(n:Nat),Reps K G vs ds->Reps K G (vs.drop n) (ds.drop n)
 |_,_,0,r=>r
 |_,_,_+1,.nil=>.nil
 |_,_,n+1,.cons _ t=>Reps.drop n t
theorem Reps.set{d:D}(r:Rep K G v d):∀{vs:List V}{ds:List D}(i:Nat),Reps K G vs ds->Reps K G (vs.set i v) (ds.set i d)
 |_,_,_,.nil=>.nil
 |_,_,0,.cons _ t=>.cons r t
 |_,_,i+1,.cons q t=>.cons q (Reps.set r i t)
theorem Reps.rep{ds:List D}(r:Reps K G vs ds):∀n:Nat,Reps K G (List.replicate n vs).flatten (List.replicate n ds).flatten
 | 0=>.nil
 |n+1=>by simp only[p7,nr];exact Reps.append r (Reps.rep r n)
structure Up(G H G' H':Hp):Prop where
 sub:Same G' H'
 gg:Same G G'
 hh:Same H H'
 fr:∀a o,G' a=some o->G a=some o\/H a=none
def Up.refl(s:Same G H):Up G H G H:=⟨s,.refl _,.refl _,λ_ _ h=>.inl h⟩
def Up.trans(a:Up G H G1 H1)(b:Up G1 H1 G2 H2):Up G H G2 H2:=⟨b.sub,a.gg.trans b.gg,a.hh.trans b.hh,λc o h=>by
 rcases b.fr c o h with h|h;·exact a.fr c o h
 ·exact .inr (a.hh.free h)⟩
def Same.both{p:Addr}{o:HO}(s:Same G H):Same (upd G p o) (upd H p o):=λa u h=>by
 unfold L2.upd at h⊢;split;·rename_i e;rw[if_pos e]at h;exact h
 ·rename_i e;rw[if_neg e]at h;exact s a u h
def Same.into{p:Addr}{o:HO}(h:H p=none):Same H (upd H p o):=λa u e=>by rw[aF (aJ e h)];exact e
def Up.new{p:Addr}{o:HO}(s:Same G H)(hp:H p=none):Up G H (upd G p o) (upd H p o):=
 ⟨s.both,.into (s.free hp),.into hp,λa u h=>by
  by_cases e:a=p;·subst e;exact .inr hp
  ·rw[aF e]at h;exact .inl h⟩
end
inductive R(α:Type) where
 |ok (a:α)|ex (C:Addr)|no
def R.bind{α β:Type}:R α->(α->R β)->R β
 |.ok a,f=>f a
 |.ex C,_=>.ex C
 |.no,_=>.no
instance:Monad R where
 pure:=.ok
 bind:=R.bind
section
variable{α β:Type}
@[simp] theorem R.ok_bind(a:α)(f:α->R β):(R.ok a>>=f)=f a:=rfl
@[simp] theorem R.ex_bind(C:Addr)(f:α->R β):((R.ex C:R α)>>=f)=.ex C:=rfl
def R.post(m:R α)(P:α->Prop)(E:Addr->Prop):Prop:=match m with
 |.ok a=>P a
 |.ex C=>E C
 |.no=>False
def R.post.mono{m:R α}{P P':α->Prop}{E E':Addr->Prop}(h:m.post P E)(hp:∀a,P a->P' a)(he:∀C,E C->E' C):m.post P' E':=by
 cases m with
 |ok a=>exact hp a h
 |ex C=>exact he C h
 |no=>exact h
def ofO:Option α->R α
 |some a=>.ok a
 |none=>.no
@[simp] theorem jX(a:α):ofO (some a)=R.ok a:=rfl
theorem ofO.ok{o:Option α}{P:α->Prop}{E:Addr->Prop}(h:(ofO o).post P E):∃a,o=some a/\P a:=by
 cases o with
 |none=>exact h.elim
 |some a=>exact⟨a,rfl,h⟩
end
inductive Fd where
  |val (d : D)|own (ds : List D)
  |dic (kds : List (Int × D))
inductive Sl where
  |val (d : D)
  |own (ds : List D)
  |obj (m : Bool) (C p : Addr) (fs : List (Nat × Fd))
abbrev Ev:=List (Option Sl)
def rdV(ρ:Ev)(i:Nat):R D:=match ρ[i]? with
 |some (some (.val d))=>.ok d
 |_=>.no
abbrev rvz(i:Nat):Ev->R D:=λρ=>rdV ρ i
abbrev ciz(n:Int):Ev->R D:=λ_=>R.ok (D.int n)
abbrev nlz:Ev->R (List D):=λ_=>R.ok []
abbrev csz(x:List Nat):Ev->R D:=λ_=>R.ok (D.str x)
def fnames:List Str:=["states","taken_back","width","screen","last_notes","tasks","numbers_given"]
def eD(k:Nat):Str:=fnames.getD k ""
abbrev kK:=Addr->Option (Nat×Nat)
noncomputable def FdAt(K:PySem.W.Frag)(H₀ G H:Hp)(ow:kK)(i:Nat)(m:Bool)(k:Nat):Fd->V->Prop
 |.val d,v=>Rep K G v d
 |.own ds,v=>∃l ws,v=.ref l/\H l=some (.lst ws)/\G l=none/\(m=true->H₀ l=none)/\Reps K G ws ds/\ow l=some (i,k+1)
 |.dic kds,v=>∃l ws,v=.ref l/\H l=some (.dK ((kds.map λx=>(Sum.inl x.1:Key)).zip ws))/\G l=none/\(m=true->H₀ l=none)/\Reps K G ws (kds.map (·.2))/\ow l=some (i,k+1)
inductive FdsAt(K:PySem.W.Frag)(H₀ G H:Hp)(ow:kK)(i:Nat)(m:Bool):List (Nat×Fd)->List (Str×V)->Prop
 |nil:FdsAt K H₀ G H ow i m [] []
 |cons {k:Nat} {fd:Fd} {v:V} {fs:List (Nat×Fd)} {vs:List (Str×V)} (h:k<fnames.length) (nk:fs.lookup k=none) (r:FdAt K H₀ G H ow i m k fd v) (t:FdsAt K H₀ G H ow i m fs vs):FdsAt K H₀ G H ow i m ((k,fd)::fs) ((eD k,v)::vs)
noncomputable def InsAt(K:PySem.W.Frag)(H₀ G H:Hp)(ow:kK)(i:Nat)(m:Bool)(C p:Addr)(fs:List (Nat×Fd)):Prop:=
 ∃dx vs,H p=some (.ins C dx vs)/\H dx=some (.own p)/\G p=none/\G dx=none/\(m=true->H₀ p=none/\H₀ dx=none)/\ow p=some (i,0)/\ow dx=some (i,0)/\FdsAt K H₀ G H ow i m fs vs
noncomputable def DcoAt(K:PySem.W.Frag)(H₀ G H:Hp)(ow:kK)(i:Nat)(m:Bool)(p:Addr)(fs:List (Nat×Fd)):Prop:=
 ∃o xs ks ds,H p=some (O2 p o xs)/\G p=none/\(m=true->H₀ p=none)/\ow p=some (i,0)/\KeysAt K G xs ks/\Reps K G (xs.map (·.2.2)) ds/\fs=ks.zip (ds.map Fd.val)
abbrev DC:Addr:=0
noncomputable def ObjAt(K:PySem.W.Frag)(H₀ G H:Hp)(ow:kK)(i:Nat)(m:Bool)(C p:Addr)(fs:List (Nat×Fd)):Prop:=(C≠DC/\InsAt K H₀ G H ow i m C p fs)\/(C=DC/\DcoAt K H₀ G H ow i m p fs)
section
variable{K:PySem.W.Frag}{H₀:Hp}{ow:kK}{p:Addr}{fs:List (Nat×Fd)}
def ObjAt.ins(h:ObjAt K H₀ G H ow i m C p fs)(ne:C≠DC):InsAt K H₀ G H ow i m C p fs:=(h.resolve_right λz=>ne z.1).2
def ObjAt.insH{C' dx:Addr}{vs:List (Str×V)}(h:ObjAt K H₀ G H ow i m C p fs)(e:H p=some (.ins C' dx vs)):C≠DC/\InsAt K H₀ G H ow i m C p fs:=h.resolve_right λ⟨_,o,xs,ks,ds,z,_⟩=>by rw[z]at e;cases e
end
section
variable{K:PySem.W.Frag}{H₀ H₀' G':Hp}{ow ow':kK}
structure ObKeep(H₀ H₀' G H G' H':Hp)(ow ow':kK)(i:Nat):Prop where
 hh:∀a t o,ow a=some (i,t)->H a=some o->H' a=some o
 gg:Same G G'
 gn:∀a t o,ow a=some (i,t)->H a=some o->G a=none->G' a=none
 oo:∀a t o,ow a=some (i,t)->H a=some o->ow' a=some (i,t)
 h0:∀a o,H a=some o->G a=none->H₀ a=none->H₀' a=none
def FdAt.keep(k:ObKeep H₀ H₀' G H G' H' ow ow' i):∀{fd:Fd}{v:V},FdAt K H₀ G H ow i m n fd v->FdAt K H₀' G' H' ow' i m n fd v
 |.val d,v,r=>Rep.mono k.gg (show Rep K G v d from r)
 |.own ds,v,⟨l,ws,e,h1,h2,h3,h4,h5⟩=>⟨l,ws,e,k.hh l _ _ h5 h1,k.gn l _ _ h5 h1 h2,λz=>k.h0 l _ h1 h2 (h3 z),h4.mono k.gg,k.oo l _ _ h5 h1⟩
 |.dic _,v,⟨l,ws,e,h1,h2,h3,h4,h5⟩=>⟨l,ws,e,k.hh l _ _ h5 h1,k.gn l _ _ h5 h1 h2,λz=>k.h0 l _ h1 h2 (h3 z),h4.mono k.gg,k.oo l _ _ h5 h1⟩
theorem FdsAt.keep(k:ObKeep H₀ H₀' G H G' H' ow ow' i):∀{fs:List (Nat×Fd)}{vs:List (Str×V)},FdsAt K H₀ G H ow i m fs vs->FdsAt K H₀' G' H' ow' i m fs vs
 |_,_,.nil=>.nil
 |_,_,.cons h nk r t=>.cons h nk (FdAt.keep k r) (FdsAt.keep k t)
def InsAt.keep(k:ObKeep H₀ H₀' G H G' H' ow ow' i){p:Addr}{fs:List (Nat×Fd)}(h:InsAt K H₀ G H ow i m C p fs):InsAt K H₀' G' H' ow' i m C p fs:=by obtain⟨dx,vs,h1,h2,h3,h4,h5,h6,h7,h8⟩:=h;exact⟨dx,vs,k.hh p _ _ h6 h1,k.hh dx _ _ h7 h2,k.gn p _ _ h6 h1 h3,k.gn dx _ _ h7 h2 h4,λz=>⟨k.h0 p _ h1 h3 (h5 z).1,k.h0 dx _ h2 h4 (h5 z).2⟩,k.oo p _ _ h6 h1,k.oo dx _ _ h7 h2,h8.keep k⟩
def DcoAt.keep(k:ObKeep H₀ H₀' G H G' H' ow ow' i){p:Addr}{fs:List (Nat×Fd)}(h:DcoAt K H₀ G H ow i m p fs):DcoAt K H₀' G' H' ow' i m p fs:=
 let⟨o,xs,ks,ds,h1,h2,h3,h4,h5,h6,h7⟩:=h
 ⟨o,xs,ks,ds,k.hh p _ _ h4 h1,k.gn p _ _ h4 h1 h2,λz=>k.h0 p _ h1 h2 (h3 z),k.oo p _ _ h4 h1,h5.mono k.gg,h6.mono k.gg,h7⟩
def ObjAt.keep(k:ObKeep H₀ H₀' G H G' H' ow ow' i){p:Addr}{fs:List (Nat×Fd)}(h:ObjAt K H₀ G H ow i m C p fs):ObjAt K H₀' G' H' ow' i m C p fs:=h.imp (λz=>⟨z.1,z.2.keep k⟩) λz=>⟨z.1,z.2.keep k⟩
def ObKeep.up(u:Up G H G' H'):ObKeep H₀ H₀ G H G' H' ow ow i:=by
 have gn:∀a o,H a=some o->G a=none->G' a=none:=λa o e n=>by
  cases q:G' a with
  |none=>rfl
  |some o'=>
   rcases u.fr a o' q with z|z;·rw[n]at z;cases z
   ·rw[e]at z;cases z
 exact⟨λa t o _ e=>u.hh a o e,u.gg,λa t o _ e n=>gn a o e n,λa t o e _=>e,λa o _ _ n=>n⟩
end
def ObjAt.rd{K:PySem.W.Frag}{H₀:Hp}{ow:kK}{p:Addr}{fs:List (Nat×Fd)}(h:ObjAt K H₀ G H ow i m C p fs):ObjAt K (λ_=>none) G H ow i m C p fs:=
 h.keep ⟨λ_ _ _ _ e=>e,.refl _,λ_ _ _ _ _ n=>n,λ_ _ _ e _=>e,λ_ _ _ _ _=>rfl⟩
structure StE(K:PySem.W.Frag)(G H:Hp)(σ:St)(ρ:Ev):Prop where
 sub:Same G H
 len:σ.length=ρ.length
 val:∀(i:Nat) d,ρ[i]?=some (some (.val d))->∃v,σ[i]?=some (some v)/\Rep K G v d
 obs:∀(i:Nat) m C p fs,ρ[i]?=some (some (.obj m C p fs))->σ[i]?=some (some (.ref p))/\∃ow,ObjAt K (λ_=>none) G H ow i m C p fs
def StE.up{K:PySem.W.Frag}{G':Hp}{ρ:Ev}(s:StE K G H σ ρ)(u:Up G H G' H'):StE K G' H' σ ρ:=
 ⟨u.sub,s.len,λi d e=>let⟨v,h1,h2⟩:=s.val i d e;⟨v,h1,h2.mono u.gg⟩,λi m C p fs e=>let⟨h1,ow,h2⟩:=s.obs i m C p fs e;⟨h1,ow,h2.keep (.up u)⟩⟩
noncomputable def E2(P:Program)(w:World)(outer:List Env)(H:Hp)(s:Shared)(a C:Addr)(H':Hp)(s':Shared):Prop:=
 s'.os=s.os/\AllBare s'.gens/\Un (frs outer) [] H H' s.heap s'.heap/\HOk P w H' s'.heap/\H' a=none/\
 ∃(B:Heap)(a0:Value),Heap.FlyingW B outer a (.ref C) a0 s'.heap/\∀b o,b∉frs outer->((∃o0,s.heap.get? b=some o0)\/∃u,H' b=some u)->s'.heap.get? b=some o->B.get? b=some o
noncomputable def CXo(P:Program)(w:World):CXT:=λouter H s E e s'=>∃a C H',e=.ref a/\E2 P w outer H s a C H' s'/\E (.ref C) none H'
noncomputable def LA(X:Cx)(pins:List (Addr×Obj))(b:Addr):Prop:=
 (b∈X.ex\/X.s₀.heap.objs.size<=b)/\b≠X.env.locals/\(∀x c,X.env.cells.lookup x=some c->c≠b)/\∀p∈X.pn++pins,p.1≠b
noncomputable def BM(X:Cx)(pins:List (Addr×Obj))(L:Addr)(H:Hp)(s:Shared)(a C:Addr)(H':Hp)(s':Shared):Prop:=
 s'.os=s.os/\AllBare s'.gens/\(∃ch,(∀b∈ch,LA X pins b)/\Un (frs X.stack) ch H H' s.heap s'.heap)/\HOk X.prog X.w H' s'.heap/\H' a=none/\s.heap.get? a=none/\
 ∃(B:Heap)(a0:Value),Heap.HeldW B X.stack a (.ref C) a0 L s'.heap/\∀b o,b∉frs X.stack->((∃o0,s.heap.get? b=some o0)\/∃u,H' b=some u)->s'.heap.get? b=some o->B.get? b=some o
noncomputable def OJ(X:Cx)(σ:St)(G₁ H₁:Hp)(C:Addr)(e:Value)(s':Shared):Prop:=
 ∃pins s₁ a,e=.ref a/\Inv X pins σ H₁ s₁/\
  ((∃h' vs,Heap.MadeExcOf s₁.heap h' a (.ref C) vs/\s'={ s₁ with heap:=h' })\/(∃G' H',E2 X.prog X.w X.stack H₁ s₁ a C H' s'/\Up G₁ H₁ G' H')\/∃G' H' L,X.env.frame=some L/\BM X pins L H₁ s₁ a C H' s'/\Up G₁ H₁ G' H')
noncomputable def Fly(X:Cx)(σ:St)(G H:Hp)(C:Addr)(e:Value)(s':Shared):Prop:=∃G₁ H₁,Up G H G₁ H₁/\OJ X σ G₁ H₁ C e s'
def Fly.up{G1 H1:Hp}{e:Value}(u:Up G H G1 H1)(f:Fly X σ G1 H1 C e s'):Fly X σ G H C e s':=
 let⟨G2,H2,v,q⟩:=f;⟨G2,H2,u.trans v,q⟩
section
variable{α β:Type}
noncomputable def Fin(G H:Hp)(rep:Hp->β->α->Prop)(Q:β->Hp->Prop):α->Prop:=λd=>∀v G' H',Up G H G' H'->rep G' v d->Q v H'
def Exx(X:Cx)(σ:St)(G H:Hp):Addr->Prop:=λC=>∀e s',Fly X σ G H C e s'->X.xe e s'
def Fin.up{G1 H1:Hp}{rep:Hp->β->α->Prop}{Q:β->Hp->Prop}{d:α}(u:Up G H G1 H1)(h:Fin G H rep Q d):Fin G1 H1 rep Q d:=λv G' H' u' r=>h v G' H' (u.trans u') r
def Exx.up{G1 H1:Hp}(u:Up G H G1 H1)(h:Exx X σ G H C):Exx X σ G1 H1 C:=λe s' f=>h e s' (f.up u)
def mD{G1 H1:Hp}{rep:Hp->β->α->Prop}{Q:β->Hp->Prop}{m:R α}(u:Up G H G1 H1)(h:m.post (Fin G H rep Q) (Exx X σ G H)):m.post (Fin G1 H1 rep Q) (Exx X σ G1 H1):=
 h.mono (λ_=>Fin.up u) λ_=>Exx.up u
noncomputable def tG(X:Cx)(rep:Hp->β->α->Prop)(g:Ev->R α):St->Hp->(β->Hp->Prop)->Prop:=λσ H Q=>∃G ρ,StE X.K G H σ ρ/\(g ρ).post (Fin G H rep Q) (Exx X σ G H)
def tG.intro{γ δ:Type}{ρ:Ev}{rep:Hp->β->α->Prop}{rep':Hp->δ->γ->Prop}{g:Ev->R α}{k:α->R γ}{Q:β->Hp->Prop}{Q':δ->Hp->Prop}(st:StE X.K G H σ ρ)(h:(g ρ>>=k).post (Fin G H rep' Q') (Exx X σ G H))(hk:∀a,∀v G1 H1,Up G H G1 H1->StE X.K G1 H1 σ ρ->rep G1 v a->(k a).post (Fin G1 H1 rep' Q') (Exx X σ G1 H1)->Q v H1):tG X rep g σ H Q:=by
 refine⟨G,ρ,st,?_⟩;cases e:g ρ with
 |ok a=>rw[e]at h;exact λv G' H' u r=>hk a v G' H' u (st.up u) r (mD u h)
 |ex C=>rw[e]at h;exact h
 |no=>rw[e]at h;exact h
def tG.last{ρ:Ev}{rep:Hp->β->α->Prop}{g:Ev->R α}{Q:β->Hp->Prop}(st:StE X.K G H σ ρ)(h:(g ρ).post (Fin G H rep Q) (Exx X σ G H)):tG X rep g σ H Q:=⟨G,ρ,st,h⟩
end
abbrev tF(X:Cx)(g:Ev->R D):TE:=tG X (Rep X.K) g
abbrev tTF(X:Cx)(g:Ev->R Bool):TT:=tG X (λ_ b c=>b=c) g
abbrev tAF(X:Cx)(g:Ev->R (List D)):TA:=tG X (Reps X.K) g
def PF(X:Cx)(e:Expr)(g:Ev->R D):Prop:=PE X e (tF X g)
def PB(X:Cx)(e:Expr)(g:Ev->R Bool):Prop:=PT X e (tTF X g)
def PBW(X:Cx)(e:Expr)(g:Ev->R Bool):Prop:=PW X e (tTF X g)
def PFA(X:Cx)(es:List Expr)(g:Ev->R (List D)):Prop:=PA X es (tAF X g)
end L2
variable{ds items:List L2.D}{d:L2.D}{ow:L2.kK}{ρ:L2.Ev}{gb ge gk:L2.Ev->L2.R L2.D}{gl gi:L2.Ev->L2.R (List L2.D)}{asg:L2.D->L2.Ev->L2.R L2.Ev}{gs:List (L2.Ev->L2.R L2.D)}{F ad ak aI bq ay ba aQ nK dz bB ck aK dF bG aM bO cj bM aR av bg:List L2.D->L2.R L2.D}{kds:List (Int×L2.D)}
namespace L2
open PySem PySem.Spec PyProof.Rows
def rdV.ok{P:D->Prop}{E:Addr->Prop}(h:(rdV ρ i).post P E):∃d,ρ[i]?=some (some (.val d))/\P d:=by
 unfold rdV at h;split at h;·rename_i d e;exact⟨d,e,h⟩
 ·exact h.elim
section
variable{e a b c:Expr}{ga gc:Ev->R D}{pos:Pos}
def wm(i:Nat){x:Str}(hN:X.N[i]?=some x:=by rfl)(hv:Vis X.env.scope x:=by first|exact Or.inl rfl|exact Or.inr (Or.inl rfl)|exact Or.inr (Or.inr rfl))(hd:(x==("__debug__":Str))=false:=by decide)(hcd:(x==("__classdict__":Str))=false:=by decide):PF X (.Name x pos) (λρ=>rdV ρ i):=by
 intro pins s σ H Q I h;obtain⟨G,ρ,st,h⟩:=h;refine iS hN hv hd hcd pins s σ H Q I ?_;obtain⟨d,e,q⟩:=rdV.ok h;obtain⟨v,e',r⟩:=st.val i d e;exact⟨v,e',q v G H (.refl st.sub) r⟩
def jY(h:PE X e (tC v))(hr:∀K G,Rep K G v d):PF X e (λ_=>.ok d):=by intro pins s σ H Q I q;obtain⟨G,ρ,st,q⟩:=q;exact h pins s σ H Q I (q v G H (.refl st.sub) (hr _ _))
def aj{i:Int}:PF X (.Constant (.int i) j pos) (λ_=>.ok (.int i)):=jY LR λ_ _=>.int i
def fg{k:Bool}:PF X (.Constant (.bool k) j pos) (λ_=>.ok (.bl k)):=jY MO λ_ _=>.bl k
def bS:PF X (.Constant .none j pos) (λ_=>.ok .non):=jY K1 λ_ _=>.non
def az{x:Str}{l:List Nat}(hl:x.cps.toList=l:=by rfl)(hz:l.length<=1000:=by decide):PF X (.Constant (.str x) j pos) (λ_=>.ok (.str l)):=
 jY JX λ_ _=>.strL hl (xS hz (by decide))
def aY{x:Str}{i:Int}{t:Tok}(hg:Gl X x)(hm:X.mg x=some (.int i t))(hd:(x==("__debug__":Str))=false:=by decide):PF X (.Name x pos) (λ_=>.ok (.int i)):=
 jY (jy (v:=.int i) hg hm ⟨t,rfl⟩ hd) λ_ _=>.int i
noncomputable def ROk(K:PySem.W.Frag)(r:R2)(f:D->D->Option D):Prop:=∀(G H:Hp)(x y:V)(dx dy d:D)(Q:VK),Same G H->Rep K G x dx->Rep K G y dy->f dx dy=some d->Fin G H (Rep K) Q d->r x y H Q
def g2(f:D->D->Option D)(ga gb:Ev->R D):Ev->R D:=λρ=>ga ρ>>=λx=>gb ρ>>=λy=>ofO (f x y)
def Dk{r:R2}{f:D->D->Option D}(hf:ROk X.K r f){Q:VK}(h:tF X (g2 f ga gb) σ H Q):tOp r (tF X ga) (tF X gb) σ H Q:=by obtain⟨G,ρ,st,h⟩:=h;refine tG.intro st h λx v G1 H1 u1 st1 r1 h1=>?_;refine tG.intro st1 h1 λy w G2 H2 u2 st2 r2 h2=>?_;obtain⟨d,e,q⟩:=ofO.ok h2;exact hf G2 H2 v w x y d Q st2.sub (r1.mono u2.gg) r2 e q
def rO{op:Operator}{r:R2}{f:D->D->Option D}(ho:OpR X (binaryOp op) r)(hf:ROk X.K r f)(ha:PF X a ga)(hb:PF X b gb):PF X (.BinOp a op b pos) (g2 f ga gb):=
 λpins s σ H Q I h=>N3 ho ha hb pins s σ H Q I (Dk hf h)
def pF{op:CmpOp}{r:R2}{f:D->D->Option D}(ho:OpR X (compareOp op) r)(hf:ROk X.K r f)(ha:PF X a ga)(hb:PF X b gb)(hm:behindInMarks op b=false):PF X (.Compare a [op] [b] pos) (g2 f ga gb):=
 λpins s σ H Q I h=>B8 ho ha hb hm pins s σ H Q I (Dk hf h)
noncomputable def g3(f f':D->D->Option D)(ga gb gc:Ev->R D):Ev->R D:=λρ=>ga ρ>>=λx=>gb ρ>>=λy=>ofO (f x y)>>=λz=>match z with
 |.bl true=>gc ρ>>=λw=>ofO (f' y w)
 |.bl false=>.ok (.bl false)
 |_=>.no
def Df{op op':CmpOp}{r r':R2}{f f':D->D->Option D}(ho:OpR X (compareOp op) r)(ho':OpR X (compareOp op') r')(hf:ROk X.K r f)(hf':ROk X.K r' f')(ha:PF X a ga)(hb:PF X b gb)(hc:PF X c gc)(hm:lastMarks [op,op'] [b,c]=false:=by with_unfolding_all rfl):PF X (.Compare a [op,op'] [b,c] pos) (g3 f f' ga gb gc):=by
 intro pins s σ H Q I h;refine D3 ho ho' ha hb hc hm pins s σ H Q I ?_;obtain⟨G,ρ,st,h⟩:=h;refine tG.intro st h λx v G1 H1 u1 st1 r1 h1=>?_;refine tG.intro st1 h1 λy w G2 H2 u2 st2 r2 h2=>?_;cases e:f x y with
 |none=>rw[e]at h2;exact h2.elim
 |some d=>
  rw[e]at h2;refine hf G2 H2 v w x y d _ st2.sub (r1.mono u2.gg) r2 e λz G3 H3 u3 r3=>?_;have h3:=mD u3 h2;have st3:=st2.up u3;cases r3 with
  |bl k=>
   refine⟨k,rfl,?_⟩;cases k with
   |false=>rw[if_neg wT];exact h3 _ G3 H3 (.refl st3.sub) (.bl false)
   |true=>rw[if_pos rfl];refine tG.intro st3 (show(gc ρ>>=λw=>ofO (f' y w)).post _ _ from h3) λq vq G4 H4 u4 st4 r4 h4=>?_;obtain⟨d,e',q'⟩:=ofO.ok h4;exact hf' G4 H4 w vq y q d Q st4.sub ((r2.mono u3.gg).mono u4.gg) r4 e' q'
  |_=>exact h3.elim
end
section
noncomputable def fq:D->D->Option D
 |.int i,.int j=>some (.int (i+j))
 |.str x,.str y=>if x.length+y.length<=sizeLine then some (.str (x++y))else none
 |.lst false xs,.lst false ys=>if xs.length+ys.length<=sizeLine then some (.lst false (xs++ys))else none
 |.tup xs,.tup ys=>if xs.length+ys.length<=sizeLine then some (.tup (xs++ys))else none
 |_,_=>none
noncomputable def FN(K:PySem.W.Frag):R2:=λx y H Q=>∃a b xs ys,x=.ref a/\y=.ref b/\SqT K H a xs/\SqT K H b ys/\xs.length+ys.length<=sizeLine/\
 (xs=[]->Q (.ref b) H)/\(xs≠[]->ys=[]->Q (.ref a) H)/\(xs≠[]->ys≠[]->∀p,H p=none->Q (.ref p) (upd H p (.tup (xs++ys))))
def Es:OpR X (binaryOp .Add) (FN X.K):=by
 intro pins s σ H x y v u Q I rx ry h;obtain⟨a,b,xs,ys,rfl,rfl,ha,hb,hz,q0,q1,q2⟩:=h;by_cases hx:xs=[]
 ·cases rx;cases ry;obtain⟨its,r1,p1,_⟩:=I.tuple ha;obtain⟨its2,r2,p2,_⟩:=I.tuple hb;have hi:its=[]:=r1.nil_iff.mpr hx;obtain⟨⟨cls,dd,data,sl⟩,ho,hc,n,hd⟩:=id p1;obtain⟨⟨cls2,dd2,data2,sl2⟩,ho2,hc2,n2,hd2⟩:=id p2;simp only at hc hd hc2 hd2;subst hc hd hc2 hd2;exact concat_meets ⟨_,ho,rfl⟩ ⟨_,ho2,rfl⟩ Zd seq_tuple_add PySem.F.slot_tuple_add PySem.F.entry_tuple_add (PySem.F.args_tuple_add_2 _ _)
   (tuple_addW0 a b its.toArray its2.toArray n n2 dd dd2 sl sl2 (by simp[hi])) ⟨ho,ho2,.ref b,H,I,rfl,q0 hx⟩
 ·exact HC pins s σ H _ _ v u Q I rx ry ⟨a,b,xs,ys,rfl,rfl,ha,hb,hx,hz,q1 hx,q2 hx⟩
noncomputable def K7(K:PySem.W.Frag):R2:=λx y H Q=>(rI0 λi j=>.int (i+j)) x y H Q\/(∃i j,x=.str i/\y=.str j/\i.length+j.length<=sizeLine/\Q (.str (i++j)) H)\/ON x y H Q\/FN K x y H Q
def He:OpR X (binaryOp .Add) (K7 X.K):=op_add.or (op_add_str.or (op_cat.or Es))
def Str.app_list(x y:Str):(x++y).cps.toList=x.cps.toList++y.cps.toList:=by show(x.cps++y.cps).toList=_;simp
def Str.len_list(x:Str):x.cps.toList.length=x.length:=by simp[Str.length]
def Kg(K:PySem.W.Frag):ROk K (K7 K) fq:=by
 intro G H x y dx dy d Q s rx ry e q;unfold fq at e;split at e;·cases e;exact .inl ⟨_,_,rx.int_inv,ry.int_inv,q _ G H (.refl s) (.int _)⟩
 ·split at e;·rename_i hz;cases e;obtain⟨i,rfl,ei,hi⟩:=rx.str_inv;obtain⟨j,rfl,ej,hj⟩:=ry.str_inv;subst ei ej;rw[Str.len_list,Str.len_list]at hz;exact .inr (.inl ⟨i,j,rfl,rfl,hz,q _ G H (.refl s) (.strL (Str.app_list i j) (by rw[sg,Str.len_list,Str.len_list];exact hz))⟩)
  ·cases e
 ·split at e;·rename_i hz;cases e;obtain⟨a,vs,rfl,ha,ra⟩:=rx.lst_inv;obtain⟨b,ws,rfl,hb,rb⟩:=ry.lst_inv;refine .inr (.inr (.inl ⟨a,b,vs,ws,rfl,rfl,s _ _ ha,s _ _ hb,by rw[ra.length,rb.length];exact hz,λp hp=>q _ _ _ (.new s hp) (.lst aV ?_)⟩));exact(ra.append rb).mono (.into (s.free hp))
  ·cases e
 ·split at e
  ·rename_i hz;cases e;obtain⟨a,vs,rfl,ha,ra⟩:=rx.tup_inv;obtain⟨b,ws,rfl,hb,rb⟩:=ry.tup_inv;refine .inr (.inr (.inr ⟨a,b,vs,ws,rfl,rfl,ha.mono s,hb.mono s,by rw[ra.length,rb.length];exact hz,λz=>?_,λ_ z=>?_,λ_ _ p hp=>?_⟩));·subst z;cases ra;exact q _ G H (.refl s) (.tup hb rb)
   ·subst z;cases rb;rw[rR]at q;exact q _ G H (.refl s) (.tup ha ra)
   ·exact q _ _ _ (.new s hp) (.tup (.of aV) ((ra.append rb).mono (.into (s.free hp))))
  ·cases e
 ·cases e
def bE{a b:Expr}{ga:Ev->R D}{pos:Pos}(ha:PF X a ga)(hb:PF X b gb):PF X (.BinOp a .Add b pos) (g2 fq ga gb):=rO He (Kg _) ha hb
def lY:D->D->Option D
 |.int i,.int j=>some (.int (i - j))
 |_,_=>none
def ee{a b:Expr}{ga:Ev->R D}{pos:Pos}(ha:PF X a ga)(hb:PF X b gb):PF X (.BinOp a .Sub b pos) (g2 lY ga gb):=rO Jy (by
 intro G H x y dx dy d Q s rx ry e q;unfold lY at e;split at e;·cases e;exact⟨_,_,rx.int_inv,ry.int_inv,q _ G H (.refl s) (.int _)⟩
 ·cases e) ha hb
def mx:D->D->Option D
 |.int i,.int j=>if 0<j/\j<1073741824 then some (.int (i / j))else none
 |_,_=>none
def jR{a b:Expr}{ga:Ev->R D}{pos:Pos}(ha:PF X a ga)(hb:PF X b gb):PF X (.BinOp a .FloorDiv b pos) (g2 mx ga gb):=rO Hx (by
 intro G H x y dx dy d Q s rx ry e q;unfold mx at e;split at e
 ·split at e;·rename_i hc;cases e;exact⟨_,_,rx.int_inv,ry.int_inv,hc,q _ G H (.refl s) (.int _)⟩
  ·cases e
 ·cases e) ha hb
def zK:D->D->Option D
 |.int i,.int j=>if 0<j then some (.int (i % j))else none
 |_,_=>none
def rP{a b:Expr}{ga:Ev->R D}{pos:Pos}(ha:PF X a ga)(hb:PF X b gb):PF X (.BinOp a .Mod b pos) (g2 zK ga gb):=rO Ju (by
 intro G H x y dx dy d Q s rx ry e q;unfold zK at e;split at e
 ·split at e;·rename_i hc;cases e;exact⟨_,_,rx.int_inv,ry.int_inv,hc,q _ G H (.refl s) (.int _)⟩
  ·cases e
 ·cases e) ha hb
end
section
variable{a b c e:Expr}{ga gc:Ev->R D}{pos:Pos}
noncomputable def leD:D->D->Option D
 |.int i,.int j=>some (.bl (decide (i<=j)))
 |.str x,.str y=>some (.bl (!decide (y<x)))
 |_,_=>none
noncomputable def ltD:D->D->Option D
 |.int i,.int j=>some (.bl (decide (i<j)))
 |.str x,.str y=>some (.bl (decide (x<y)))
 |_,_=>none
def gtD:D->D->Option D
 |.int i,.int j=>some (.bl (decide (j<i)))
 |_,_=>none
def geD:D->D->Option D
 |.int i,.int j=>some (.bl (decide (j<=i)))
 |_,_=>none
def A3:OpR X (compareOp .LtE) (λx y H Q=>∃i j:Str,x=.str i/\y=.str j/\Q (.bl (!decide (j.cps.toList<i.cps.toList))) H):=by intro pins s σ H x y v u Q I rx ry h;obtain⟨i,j,rfl,rfl,q⟩:=h;obtain⟨t,rfl⟩:=rx;obtain⟨t',rfl⟩:=ry;exact PySem.P.le_str (yF I q rfl)
def zY(K:PySem.W.Frag):ROk K (λx y H Q=>(rI0 λi j=>.bl (decide (i<=j))) x y H Q\/∃i j:Str,x=.str i/\y=.str j/\Q (.bl (!decide (j.cps.toList<i.cps.toList))) H) leD:=by
 intro G H x y dx dy d Q s rx ry e q;unfold leD at e;split at e;·cases e;exact .inl ⟨_,_,rx.int_inv,ry.int_inv,q _ G H (.refl s) (.bl _)⟩
 ·cases e;obtain⟨i,rfl,ei,hi⟩:=rx.str_inv;obtain⟨j,rfl,ej,hj⟩:=ry.str_inv;subst ei ej;exact .inr ⟨i,j,rfl,rfl,q _ G H (.refl s) (.bl _)⟩
 ·cases e
def JR(K:PySem.W.Frag):ROk K (λx y H Q=>(rI0 λi j=>.bl (decide (i<j))) x y H Q\/∃i j:Str,x=.str i/\y=.str j/\Q (.bl (decide (i.cps.toList<j.cps.toList))) H) ltD:=by
 intro G H x y dx dy d Q s rx ry e q;unfold ltD at e;split at e;·cases e;exact .inl ⟨_,_,rx.int_inv,ry.int_inv,q _ G H (.refl s) (.bl _)⟩
 ·cases e;obtain⟨i,rfl,ei,hi⟩:=rx.str_inv;obtain⟨j,rfl,ej,hj⟩:=ry.str_inv;subst ei ej;exact .inr ⟨i,j,rfl,rfl,q _ G H (.refl s) (.bl _)⟩
 ·cases e
def Oe(K:PySem.W.Frag):ROk K (rI0 λi j=>.bl (decide (j<i))) gtD:=by
 intro G H x y dx dy d Q s rx ry e q;unfold gtD at e;split at e;·cases e;exact⟨_,_,rx.int_inv,ry.int_inv,q _ G H (.refl s) (.bl _)⟩
 ·cases e
def Nv(K:PySem.W.Frag):ROk K (rI0 λi j=>.bl (decide (j<=i))) geD:=by
 intro G H x y dx dy d Q s rx ry e q;unfold geD at e;split at e;·cases e;exact⟨_,_,rx.int_inv,ry.int_inv,q _ G H (.refl s) (.bl _)⟩
 ·cases e
def rA:OpR X (compareOp .LtE) (λx y H Q=>(rI0 λi j=>.bl (decide (i<=j))) x y H Q\/∃i j:Str,x=.str i/\y=.str j/\Q (.bl (!decide (j.cps.toList<i.cps.toList))) H):=op_le.or A3
def FR:OpR X (compareOp .Lt) (λx y H Q=>(rI0 λi j=>.bl (decide (i<j))) x y H Q\/∃i j:Str,x=.str i/\y=.str j/\Q (.bl (decide (i.cps.toList<j.cps.toList))) H):=op_lt.or Ad
def KQ(ha:PF X a ga)(hb:PF X b gb):PF X (.Compare a [.LtE] [b] pos) (g2 leD ga gb):=pF rA (zY _) ha hb (iL _)
def Op(ha:PF X a ga)(hb:PF X b gb):PF X (.Compare a [.Lt] [b] pos) (g2 ltD ga gb):=pF FR (JR _) ha hb (iL _)
def xa(ha:PF X a ga)(hb:PF X b gb)(hc:PF X c gc)(hm:lastMarks [.LtE,.LtE] [b,c]=false:=by with_unfolding_all rfl):PF X (.Compare a [.LtE,.LtE] [b,c] pos) (g3 leD leD ga gb gc):=Df rA rA (zY _) (zY _) ha hb hc hm
end
noncomputable def eqZ(f:D->D->Option Bool):List D->List D->Option (List Bool)
 |x::xs,y::ys=>(f x y).bind λb=>(eqZ f xs ys).map (b::·)
 |_,_=>some []
noncomputable def eqD:Nat->D->D->Option Bool
 | 0,_,_=>none
 |n+1,a,b=>match a,b with
  |.non,.non=>some true
  |.bl x,.bl y=>some (x==y)
  |.int i,.int j=>some (i==j)
  |.str x,.str y=>some (x==y)
  |.bl x,.int j=>some ((if x then 1 else 0)==j)
  |.int i,.bl y=>some (i==(if y then 1 else 0))
  |.lst _ xs,.lst _ ys=>if xs.length=ys.length then (eqZ (eqD n) xs ys).map λbs=>bs.all id else some false
  |.tup xs,.tup ys=>(eqZ (eqD n) xs ys).map λbs=>bs.all id && xs.length==ys.length
  |.exc _,_=>none
  |.dct _ _,_=>none
  |_,.exc _=>none
  |_,.dct _ _=>none
  |_,_=>some false
theorem eqZ.get{f:D->D->Option Bool}:∀{xs ys:List D}{bs:List Bool},eqZ f xs ys=some bs->bs.length=min xs.length ys.length/\∀(j:Nat)(x y:D),xs[j]?=some x->ys[j]?=some y->∃b,bs[j]?=some b/\f x y=some b
 | [],_,_,e=>by simp[eqZ]at e;subst e;exact⟨by simp,λj x y h=>by simp at h⟩
 |_::_,[],_,e=>by simp[eqZ]at e;subst e;exact⟨by simp,λj x y _ h=>by simp at h⟩
 |x::xs,y::ys,bs,e=>by
  unfold eqZ at e;cases e1:f x y with
  |none=>rw[e1]at e;cases e
  |some b=>
   rw[e1]at e;cases e2:eqZ f xs ys with
   |none=>rw[e2]at e;cases e
   |some cs=>
    rw[e2]at e;cases e;obtain⟨h1,h2⟩:=eqZ.get e2;refine⟨by simp[h1],λj=>?_⟩;cases j with
    |zero=>intro x' y' hx hy;simp at hx hy;subst hx hy;exact⟨b,rfl,e1⟩
    |succ j=>intro x' y' hx hy;exact h2 j x' y' (by simpa using hx) (by simpa using hy)
def nW{bs:List Bool}(h:bs.length=n):(List.range n).all (λj=>bs.getD j true)=bs.all id:=by
 subst h;rw[Bool.eq_iff_iff,p8,p8];constructor;·intro h b hb;obtain⟨i,hi,rfl⟩:=List.mem_iff_getElem.mp hb;have:=h i (by simpa using hi);simpa[uF,hi]using this
 ·intro h j hj;have hj':j<bs.length:=by simpa using hj
  have:=h bs[j] (List.getElem_mem hj');simpa[uF,hj']using this
def fY:(Value.type "list":Value)≠.type "tuple":=by intro h;injection h with h;exact absurd h (by decide)
section
open SeqAt
def jf(I:Inv X pins σ H s)(sub:Same G H):∀(n:Nat)(a b:D)(k:Bool)(x:V),eqD n a b=some k->Rep X.K G x a->Rep X.K G x b->k=true:=by
 intro n;induction n with
 |zero=>intro a b k x e;cases e
 |succ n ih=>
  have sq:∀(vs:List V)(xs ys:List D),Reps X.K G vs xs->Reps X.K G vs ys->∀bs,eqZ (eqD n) xs ys=some bs->bs.all id=true:=by
   intro vs;induction vs with
   |nil=>intro xs ys h1 h2 bs e;cases h1;cases h2;simp[eqZ]at e;subst e;rfl
   |cons v vs ihv=>
    intro xs ys h1 h2 bs e;cases h1 with
    |cons r1 t1=>
     cases h2 with
     |cons r2 t2=>
      unfold eqZ at e;rename_i d1 ds1 d2 ds2;cases e1:eqD n d1 d2 with
      |none=>rw[e1]at e;cases e
      |some b=>
       rw[e1]at e;cases e2:eqZ (eqD n) ds1 ds2 with
       |none=>rw[e2]at e;cases e
       |some cs=>rw[e2]at e;cases e;rw[List.all_cons,ih _ _ _ _ e1 r1 r2,ihv _ _ t1 t2 _ e2];rfl
  intro a b k x e ra rb;cases ra with
  |non=>cases rb;simp[eqD]at e;exact e
  |bl y=>cases rb;simp[eqD]at e;exact e
  |int i=>cases rb;simp[eqD]at e;exact e
  |str y h=>
   cases rb with
   |str z h'=>simp[eqD]at e;exact e
  |tup h r=>
   cases rb with
   |tup h' r'=>
    have q:=I.tuple_inj (h.mono sub) (h'.mono sub);subst q;simp only[eqD]at e;rename_i ds es;cases e2:eqZ (eqD n) ds es with
    |none=>rw[e2]at e;cases e
    |some cs=>rw[e2]at e;have this:(cs.all id && ds.length==es.length)=k:=xz e;rw[sq _ _ _ r r' _ e2,Bool.true_and]at this;rw[<- this,<- r.length,<- r'.length];simp
   |lst h' r'=>obtain⟨its,_,⟨o,e1,c1,_⟩,_⟩:=I.tuple (h.mono sub);obtain⟨_,its',n',_,e2⟩:=I.hok _ _ (sub _ _ h');rw[e1]at e2;cases e2;exact absurd c1 fY
   |fls h' r'=>obtain⟨its,_,⟨o,e1,c1,_⟩,_⟩:=I.tuple (h.mono sub);obtain⟨its',_,⟨o',n',e2,c2,_⟩,_⟩:=I.list (h'.mono sub);rw[e1]at e2;cases e2;rw[c1]at c2;exact absurd c2.symm fY
   |exc h'=>simp[eqD]at e
   |dct _ _ _=>simp[eqD]at e
  |lst h r=>
   have hl:SqL X.K G _ _:=SqL.of h;cases rb with
   |tup h' r'=>obtain⟨its,_,⟨o,e1,c1,_⟩,_⟩:=I.tuple (h'.mono sub);obtain⟨_,its',n',_,e2⟩:=I.hok _ _ (sub _ _ h);rw[e1]at e2;cases e2;exact absurd c1 fY
   |lst h' r'=>
    rw[h]at h';cases h';simp only[eqD]at e;rw[if_pos (by rw[<- r.length,<- r'.length])]at e;rename_i ds es;cases e2:eqZ (eqD n) ds es with
    |none=>rw[e2]at e;cases e
    |some cs=>rw[e2]at e;have:=xz e;rw[<- this];exact sq _ _ _ r r' _ e2
   |fls h' r'=>
    have q:=I.list_inj (hl.mono sub) (h'.mono sub);subst q;simp only[eqD]at e;rw[if_pos (by rw[<- r.length,<- r'.length])]at e;rename_i ds es;cases e2:eqZ (eqD n) ds es with
    |none=>rw[e2]at e;cases e
    |some cs=>rw[e2]at e;have:=xz e;rw[<- this];exact sq _ _ _ r r' _ e2
   |exc h'=>simp[eqD]at e
   |dct _ _ _=>simp[eqD]at e
  |fls h r=>
   cases rb with
   |tup h' r'=>obtain⟨its,_,⟨o,e1,c1,_⟩,_⟩:=I.tuple (h'.mono sub);obtain⟨its',_,⟨o',n',e2,c2,_⟩,_⟩:=I.list (h.mono sub);rw[e1]at e2;cases e2;rw[c1]at c2;exact absurd c2.symm fY
   |lst h' r'=>
    have q:=I.list_inj (h.mono sub) ((SqL.of h':SqL X.K G _ _).mono sub);subst q;simp only[eqD]at e;rw[if_pos (by rw[<- r.length,<- r'.length])]at e;rename_i ds es;cases e2:eqZ (eqD n) ds es with
    |none=>rw[e2]at e;cases e
    |some cs=>rw[e2]at e;have:=xz e;rw[<- this];exact sq _ _ _ r r' _ e2
   |fls h' r'=>
    have q:=I.list_inj (h.mono sub) (h'.mono sub);subst q;simp only[eqD]at e;rw[if_pos (by rw[<- r.length,<- r'.length])]at e;rename_i ds es;cases e2:eqZ (eqD n) ds es with
    |none=>rw[e2]at e;cases e
    |some cs=>rw[e2]at e;have:=xz e;rw[<- this];exact sq _ _ _ r r' _ e2
   |exc h'=>simp[eqD]at e
   |dct _ _ _=>simp[eqD]at e
  |exc h=>simp[eqD]at e
  |dct _ _ _=>simp[eqD]at e
structure Eqs(A:Around)(s:Shared)(v u:Value)(k:Bool):Prop where
 eq:EqAt A s v u k
 rc:RcAt A s v u k
 ne:RcNeAt A s v u (!k)
def kx{f:Bool}{x:V}{u:Value}(I:Inv X pins σ H s)(sub:Same G H)(r:Rep X.K G x (.lst f ds))(ru:RelV x u):∃a its vs,u=.ref a/\s.heap.IsList a (List.toArray its)/\Vals vs its/\Reps X.K G vs ds:=by obtain⟨a,vs,rfl,h,t⟩:=r.seq_inv;cases ru;obtain⟨its,rv,⟨o,n,e1,c1,_,d1⟩,_⟩:=I.list (h.mono sub);exact⟨a,its,vs,rfl,⟨o,e1,c1,n,d1⟩,rv,t⟩
def mL{x:V}{u:Value}(I:Inv X pins σ H s)(sub:Same G H)(r:Rep X.K G x (.tup ds))(ru:RelV x u):∃a its vs,u=.ref a/\s.heap.IsTuple a (List.toArray its)/\Vals vs its/\Reps X.K G vs ds:=by obtain⟨a,vs,rfl,h,t⟩:=r.tup_inv;cases ru;obtain⟨its,rv,p,_⟩:=I.tuple (h.mono sub);exact⟨a,its,vs,rfl,p,rv,t⟩
def xR(I:Inv X pins σ H s)(sub:Same G H):∀(n:Nat)(A:Around)(a b:D)(k:Bool)(x y:V)(v u:Value),A.units+n<cLine->eqD n a b=some k->Rep X.K G x a->Rep X.K G y b->RelV x v->RelV y u->Eqs A s v u k:=by
 intro n;induction n with
 |zero=>intro A a b k x y v u _ e;cases e
 |succ n ih=>
  have sq:∀(A:Around)(vs ws:List V)(xs ys:List D)(is js:List Value)(bs:List Bool),A.units+(n+1)<cLine->Reps X.K G vs xs->Reps X.K G ws ys->Vals vs is->Vals ws js->eqZ (eqD n) xs ys=some bs->
    bs.length=min is.length js.length/\∀j (h1:j<is.toArray.size) (h2:j<js.toArray.size),EqAt A.in1 s is.toArray[j] js.toArray[j] (bs.getD j true):=by
   intro A vs ws xs ys is js bs hA r1 r2 v1 v2 e;obtain⟨h1,h2⟩:=eqZ.get e;refine⟨by rw[h1,<- r1.length,<- r2.length,v1.length,v2.length],λj q1 q2=>?_⟩;rw[xm]at q1 q2;have p1:j<xs.length:=by rw[<- r1.length,v1.length];exact q1
   have p2:j<ys.length:=by rw[<- r2.length,v2.length];exact q2
   obtain⟨b,e1,e2⟩:=h2 j xs[j] ys[j] (by simp[p1]) (by simp[p2]);obtain⟨x',ex,rx⟩:=r1.get (i:=j) (d:=xs[j]) (by simp[p1]);obtain⟨y',ey,ry⟩:=r2.get (i:=j) (d:=ys[j]) (by simp[p2]);obtain⟨u1,eu1,ru1⟩:=v1.get ex;obtain⟨u2,eu2,ru2⟩:=v2.get ey;have g1:is.toArray[j]=u1:=by simpa[q1]using eu1
   have g2:js.toArray[j]=u2:=by simpa[q2]using eu2
   rw[uF,e1];simp only[Zg]at g1 g2⊢;rw[g1,g2];exact(ih A.in1 _ _ b x' y' u1 u2 (by show A.units+1+n<cLine;omega) e2 rx ry ru1 ru2).eq
  intro A a b k x y v u hA e ra rb rv ru;have hu:A.units<cLine:=by omega
  have same:∀c d:Addr,v=.ref c->u=.ref d->c=d->k=true:=λc d h1 h2 h3=>by
   subst h1 h2 h3;cases ra with
   |tup h r=>cases rv;cases rb with
    |tup h' r'=>cases ru;exact jf I sub (n+1) _ _ k _ e (.tup h r) (.tup h' r')
    |lst h' r'=>cases ru;exact jf I sub (n+1) _ _ k _ e (.tup h r) (.lst h' r')
    |fls h' r'=>cases ru;exact jf I sub (n+1) _ _ k _ e (.tup h r) (.fls h' r')
    |exc h'=>simp[eqD]at e
    |dct _ _ _=>simp[eqD]at e
    |str _ _=>obtain⟨t,z⟩:=ru;cases z
    |int _=>obtain⟨t,z⟩:=ru;cases z
    |non=>cases ru
    |bl _=>cases ru
   |lst h r=>cases rv;cases rb with
    |tup h' r'=>cases ru;exact jf I sub (n+1) _ _ k _ e (.lst h r) (.tup h' r')
    |lst h' r'=>cases ru;exact jf I sub (n+1) _ _ k _ e (.lst h r) (.lst h' r')
    |fls h' r'=>cases ru;exact jf I sub (n+1) _ _ k _ e (.lst h r) (.fls h' r')
    |exc h'=>simp[eqD]at e
    |dct _ _ _=>simp[eqD]at e
    |str _ _=>obtain⟨t,z⟩:=ru;cases z
    |int _=>obtain⟨t,z⟩:=ru;cases z
    |non=>cases ru
    |bl _=>cases ru
   |fls h r=>cases rv;cases rb with
    |tup h' r'=>cases ru;exact jf I sub (n+1) _ _ k _ e (.fls h r) (.tup h' r')
    |lst h' r'=>cases ru;exact jf I sub (n+1) _ _ k _ e (.fls h r) (.lst h' r')
    |fls h' r'=>cases ru;exact jf I sub (n+1) _ _ k _ e (.fls h r) (.fls h' r')
    |exc h'=>simp[eqD]at e
    |dct _ _ _=>simp[eqD]at e
    |str _ _=>obtain⟨t,z⟩:=ru;cases z
    |int _=>obtain⟨t,z⟩:=ru;cases z
    |non=>cases ru
    |bl _=>cases ru
   |exc h=>simp[eqD]at e
   |dct _ _ _=>simp[eqD]at e
   |str _ _=>obtain⟨t,z⟩:=rv;cases z
   |int _=>obtain⟨t,z⟩:=rv;cases z
   |non=>cases rv
   |bl _=>cases rv
  have refs:∀c d:Addr,v=.ref c->u=.ref d->RcAt A s v u k->EqAt A s v u k:=λc d h1 h2 h=>by
   subst h1 h2;by_cases h3:c=d;·have:=same c d rfl rfl h3;subst h3 this;exact EqAt.same _
   ·exact EqAt.of_refs h3 h
  cases a with
  |exc C=>simp[eqD]at e
  |dct _ _=>simp[eqD]at e
  |non=>
   obtain rfl:=ra.non_inv;cases rv;cases b with
   |exc C=>simp[eqD]at e
   |dct _ _=>simp[eqD]at e
   |non=>obtain rfl:=rb.non_inv;cases ru;simp[eqD]at e;subst e;exact⟨EqAt.same _,RcAt.none_none,RcNeAt.none_none⟩
   |bl z=>obtain rfl:=rb.bl_inv;cases ru;simp[eqD]at e;subst e;exact⟨EqAt.none_bool _,RcAt.none_bool _,RcNeAt.none_bool _⟩
   |int z=>obtain rfl:=rb.int_inv;obtain⟨t,rfl⟩:=ru;simp[eqD]at e;subst e;exact⟨EqAt.none_int _ _,RcAt.none_int _ _,RcNeAt.none_int _ _⟩
   |str z=>obtain⟨z,rfl,-,-⟩:=rb.str_inv;obtain⟨t,rfl⟩:=ru;simp[eqD]at e;subst e;exact⟨EqAt.none_str _ _,RcAt.none_str _ _,RcNeAt.none_str _ _⟩
   |tup ds=>obtain⟨c,its,vs,rfl,p,_,_⟩:=mL I sub rb ru;simp[eqD]at e;subst e;exact⟨EqAt.none_tuple p hu,RcAt.none_tuple p hu,RcNeAt.none_tuple p hu⟩
   |lst f ds=>obtain⟨c,its,vs,rfl,p,_,_⟩:=kx I sub rb ru;simp[eqD]at e;subst e;exact⟨EqAt.none_list p hu,RcAt.none_list p hu,RcNeAt.none_list p hu⟩
  |bl w=>
   obtain rfl:=ra.bl_inv;cases rv;cases b with
   |exc C=>simp[eqD]at e
   |dct _ _=>simp[eqD]at e
   |non=>obtain rfl:=rb.non_inv;cases ru;simp[eqD]at e;subst e;exact⟨EqAt.bool_none _,RcAt.bool_none _,RcNeAt.bool_none _⟩
   |bl z=>obtain rfl:=rb.bl_inv;cases ru;simp only[eqD]at e;cases e;exact⟨EqAt.bool_bool _ _,RcAt.bool_bool _ _,RcNeAt.bool_bool _ _⟩
   |int z=>obtain rfl:=rb.int_inv;obtain⟨t,rfl⟩:=ru;simp only[eqD]at e;cases e;exact⟨EqAt.bool_int _ _ _,RcAt.bool_int _ _ _,RcNeAt.bool_int _ _ _⟩
   |str z=>obtain⟨z,rfl,-,-⟩:=rb.str_inv;obtain⟨t,rfl⟩:=ru;simp[eqD]at e;subst e;exact⟨EqAt.bool_str _ _ _,RcAt.bool_str _ _ _,RcNeAt.bool_str _ _ _⟩
   |tup ds=>obtain⟨c,its,vs,rfl,p,_,_⟩:=mL I sub rb ru;simp[eqD]at e;subst e;exact⟨EqAt.bool_tuple _ p hu,RcAt.bool_tuple _ p hu,RcNeAt.bool_tuple _ p hu⟩
   |lst f ds=>obtain⟨c,its,vs,rfl,p,_,_⟩:=kx I sub rb ru;simp[eqD]at e;subst e;exact⟨EqAt.bool_list _ p hu,RcAt.bool_list _ p hu,RcNeAt.bool_list _ p hu⟩
  |int w=>
   obtain rfl:=ra.int_inv;obtain⟨t0,rfl⟩:=rv;cases b with
   |exc C=>simp[eqD]at e
   |dct _ _=>simp[eqD]at e
   |non=>obtain rfl:=rb.non_inv;cases ru;simp[eqD]at e;subst e;exact⟨EqAt.int_none _ _,RcAt.int_none _ _,RcNeAt.int_none _ _⟩
   |bl z=>obtain rfl:=rb.bl_inv;cases ru;simp only[eqD]at e;cases e;exact⟨EqAt.int_bool _ _ _,RcAt.int_bool _ _ _,RcNeAt.int_bool _ _ _⟩
   |int z=>obtain rfl:=rb.int_inv;obtain⟨t,rfl⟩:=ru;simp only[eqD]at e;cases e;exact⟨EqAt.int_int _ _ _ _,RcAt.int_int _ _ _ _,RcNeAt.int_int _ _ _ _⟩
   |str z=>obtain⟨z,rfl,-,-⟩:=rb.str_inv;obtain⟨t,rfl⟩:=ru;simp[eqD]at e;subst e;exact⟨EqAt.int_str _ _ _ _,RcAt.int_str _ _ _ _,RcNeAt.int_str _ _ _ _⟩
   |tup ds=>obtain⟨c,its,vs,rfl,p,_,_⟩:=mL I sub rb ru;simp[eqD]at e;subst e;exact⟨EqAt.int_tuple _ _ p hu,RcAt.int_tuple _ _ p hu,RcNeAt.int_tuple _ _ p hu⟩
   |lst f ds=>obtain⟨c,its,vs,rfl,p,_,_⟩:=kx I sub rb ru;simp[eqD]at e;subst e;exact⟨EqAt.int_list _ _ p hu,RcAt.int_list _ _ p hu,RcNeAt.int_list _ _ p hu⟩
  |str w=>
   obtain⟨w,rfl,ew,-⟩:=ra.str_inv;obtain⟨t0,rfl⟩:=rv;cases b with
   |exc C=>simp[eqD]at e
   |dct _ _=>simp[eqD]at e
   |non=>obtain rfl:=rb.non_inv;cases ru;simp[eqD]at e;subst e;exact⟨EqAt.str_none _ _,RcAt.str_none _ _,RcNeAt.str_none _ _⟩
   |bl z=>obtain rfl:=rb.bl_inv;cases ru;simp[eqD]at e;subst e;exact⟨EqAt.str_bool _ _ _,RcAt.str_bool _ _ _,RcNeAt.str_bool _ _ _⟩
   |int z=>obtain rfl:=rb.int_inv;obtain⟨t,rfl⟩:=ru;simp[eqD]at e;subst e;exact⟨EqAt.str_int _ _ _ _,RcAt.str_int _ _ _ _,RcNeAt.str_int _ _ _ _⟩
   |str z=>obtain⟨z,rfl,ez,-⟩:=rb.str_inv;obtain⟨t,rfl⟩:=ru;simp only[eqD]at e;subst ew ez;rw[str_beq]at e;cases e;exact⟨EqAt.str_str _ _ _ _,RcAt.str_str _ _ _ _,RcNeAt.str_str _ _ _ _⟩
   |tup ds=>obtain⟨c,its,vs,rfl,p,_,_⟩:=mL I sub rb ru;simp[eqD]at e;subst e;exact⟨EqAt.str_tuple _ _ p hu,RcAt.str_tuple _ _ p hu,RcNeAt.str_tuple _ _ p hu⟩
   |lst f ds=>obtain⟨c,its,vs,rfl,p,_,_⟩:=kx I sub rb ru;simp[eqD]at e;subst e;exact⟨EqAt.str_list _ _ p hu,RcAt.str_list _ _ p hu,RcNeAt.str_list _ _ p hu⟩
  |tup ds1=>
   obtain⟨c1,its1,vs1,rfl,p1,w1,q1⟩:=mL I sub ra rv;cases b with
   |exc C=>simp[eqD]at e
   |dct _ _=>simp[eqD]at e
   |non=>obtain rfl:=rb.non_inv;cases ru;simp[eqD]at e;subst e;exact⟨EqAt.tuple_none p1 hu,RcAt.tuple_none p1 hu,RcNeAt.tuple_none p1 hu⟩
   |bl z=>obtain rfl:=rb.bl_inv;cases ru;simp[eqD]at e;subst e;exact⟨EqAt.tuple_bool _ p1 hu,RcAt.tuple_bool _ p1 hu,RcNeAt.tuple_bool _ p1 hu⟩
   |int z=>obtain rfl:=rb.int_inv;obtain⟨t,rfl⟩:=ru;simp[eqD]at e;subst e;exact⟨EqAt.tuple_int _ _ p1 hu,RcAt.tuple_int _ _ p1 hu,RcNeAt.tuple_int _ _ p1 hu⟩
   |str z=>obtain⟨z,rfl,-,-⟩:=rb.str_inv;obtain⟨t,rfl⟩:=ru;simp[eqD]at e;subst e;exact⟨EqAt.tuple_str _ _ p1 hu,RcAt.tuple_str _ _ p1 hu,RcNeAt.tuple_str _ _ p1 hu⟩
   |lst f ds=>obtain⟨c,its,vs,rfl,p,_,_⟩:=kx I sub rb ru;simp[eqD]at e;subst e;exact⟨EqAt.tuple_list p1 p hu,RcAt.tuple_list p1 p hu,RcNeAt.tuple_list p1 p hu⟩
   |tup ds2=>
    obtain⟨c2,its2,vs2,rfl,p2,w2,q2⟩:=mL I sub rb ru;simp only[eqD]at e;cases e2:eqZ (eqD n) ds1 ds2 with
    |none=>rw[e2]at e;cases e
    |some bs=>
     rw[e2]at e;have ek:=xz e;obtain⟨hl,he⟩:=sq A _ _ _ _ _ _ bs hA q1 q2 w1 w2 e2;have e3:((List.range (min its1.toArray.size its2.toArray.size)).all (λj=>bs.getD j true) && its1.toArray.size==its2.toArray.size)=k:=by rw[<- ek,xm,xm,nW hl,<- w1.length,<- w2.length,q1.length,q2.length]
     have hrc:RcAt A s (.ref c1) (.ref c2) k:=by rw[<- e3];exact RcAt.tuples p1 p2 hu he
     have hne:RcNeAt A s (.ref c1) (.ref c2) (!k):=by rw[<- e3];exact RcNeAt.tuples p1 p2 hu he
     exact⟨refs _ _ rfl rfl hrc,hrc,hne⟩
  |lst f1 ds1=>
   obtain⟨c1,its1,vs1,rfl,p1,w1,q1⟩:=kx I sub ra rv;cases b with
   |exc C=>simp[eqD]at e
   |dct _ _=>simp[eqD]at e
   |non=>obtain rfl:=rb.non_inv;cases ru;simp[eqD]at e;subst e;exact⟨EqAt.list_none p1 hu,RcAt.list_none p1 hu,RcNeAt.list_none p1 hu⟩
   |bl z=>obtain rfl:=rb.bl_inv;cases ru;simp[eqD]at e;subst e;exact⟨EqAt.list_bool _ p1 hu,RcAt.list_bool _ p1 hu,RcNeAt.list_bool _ p1 hu⟩
   |int z=>obtain rfl:=rb.int_inv;obtain⟨t,rfl⟩:=ru;simp[eqD]at e;subst e;exact⟨EqAt.list_int _ _ p1 hu,RcAt.list_int _ _ p1 hu,RcNeAt.list_int _ _ p1 hu⟩
   |str z=>obtain⟨z,rfl,-,-⟩:=rb.str_inv;obtain⟨t,rfl⟩:=ru;simp[eqD]at e;subst e;exact⟨EqAt.list_str _ _ p1 hu,RcAt.list_str _ _ p1 hu,RcNeAt.list_str _ _ p1 hu⟩
   |tup ds=>obtain⟨c,its,vs,rfl,p,_,_⟩:=mL I sub rb ru;simp[eqD]at e;subst e;exact⟨EqAt.list_tuple p1 p hu,RcAt.list_tuple p1 p hu,RcNeAt.list_tuple p1 p hu⟩
   |lst f2 ds2=>
    obtain⟨c2,its2,vs2,rfl,p2,w2,q2⟩:=kx I sub rb ru;simp only[eqD]at e;by_cases hlen:ds1.length=ds2.length
    ·rw[if_pos hlen]at e;cases e2:eqZ (eqD n) ds1 ds2 with
     |none=>rw[e2]at e;cases e
     |some bs=>
      rw[e2]at e;have ek:=xz e;obtain⟨hl,he⟩:=sq A _ _ _ _ _ _ bs hA q1 q2 w1 w2 e2;have hz:its1.toArray.size=its2.toArray.size:=by rw[xm,xm,<- w1.length,<- w2.length,q1.length,q2.length];exact hlen
      have e3:(List.range its1.toArray.size).all (λj=>bs.getD j true)=k:=by rw[<- ek,nW];rw[hl,xm];simp only[xm]at hz;omega
      have hrc:RcAt A s (.ref c1) (.ref c2) k:=by rw[<- e3];exact RcAt.lists p1 p2 hz hu he
      have hne:RcNeAt A s (.ref c1) (.ref c2) (!k):=by rw[<- e3];exact RcNeAt.lists p1 p2 hz hu he
      exact⟨refs _ _ rfl rfl hrc,hrc,hne⟩
    ·rw[if_neg hlen]at e;cases e;have hz:(its1.toArray.size != its2.toArray.size)=true:=by rw[xm,xm,<- w1.length,<- w2.length,q1.length,q2.length];simpa using hlen
     have hrc:RcAt A s (.ref c1) (.ref c2) false:=RcAt.lists_lengths p1 p2 hz hu;exact⟨refs _ _ rfl rfl hrc,hrc,RcNeAt.lists_lengths p1 p2 hz hu⟩
end
section
variable{a b:Expr}{ga:Ev->R D}{pos:Pos}
def eqF(x y:D):Option D:=(eqD 40 x y).map .bl
def neF(x y:D):Option D:=(eqD 40 x y).map λk=>.bl (!k)
noncomputable def M7(K:PySem.W.Frag)(neg:Bool):R2:=λx y H Q=>∃G dx dy k,Same G H/\Rep K G x dx/\Rep K G y dy/\eqD 40 dx dy=some k/\Q (.bl (if neg then !k else k)) H
def BG(hu:X.A.units+64<cLine):OpR X (compareOp .Eq) (M7 X.K false):=by intro pins s σ H x y v u Q I rx ry h;obtain⟨G,dx,dy,k,sub,r1,r2,e,q⟩:=h;exact(xR I sub 40 X.A dx dy k x y v u (by omega) e r1 r2 rx ry).rc _ _ _ _ ⟨.bl k,H,I,rfl,q⟩
def Ft(hu:X.A.units+64<cLine):OpR X (compareOp .NotEq) (M7 X.K true):=by intro pins s σ H x y v u Q I rx ry h;obtain⟨G,dx,dy,k,sub,r1,r2,e,q⟩:=h;exact(xR I sub 40 X.A dx dy k x y v u (by omega) e r1 r2 rx ry).ne _ _ _ _ ⟨.bl (!k),H,I,rfl,q⟩
def qI(hu:X.A.units+64<cLine)(ha:PF X a ga)(hb:PF X b gb):PF X (.Compare a [.Eq] [b] pos) (g2 eqF ga gb):=pF (BG hu) (by
 intro G H x y dx dy d Q s rx ry e q;unfold eqF at e;cases e1:eqD 40 dx dy with
 |none=>rw[e1]at e;cases e
 |some k=>rw[e1]at e;cases e;exact⟨G,dx,dy,k,s,rx,ry,e1,q _ G H (.refl s) (.bl k)⟩) ha hb (iL _)
def NY(hu:X.A.units+64<cLine)(ha:PF X a ga)(hb:PF X b gb):PF X (.Compare a [.NotEq] [b] pos) (g2 neF ga gb):=pF (Ft hu) (by
 intro G H x y dx dy d Q s rx ry e q;unfold neF at e;cases e1:eqD 40 dx dy with
 |none=>rw[e1]at e;cases e
 |some k=>rw[e1]at e;cases e;exact⟨G,dx,dy,k,s,rx,ry,e1,q _ G H (.refl s) (.bl (!k))⟩) ha hb (iL _)
end
end L2
namespace L2
open PySem PySem.Spec PyProof.Rows
section
variable{a b c e:Expr}{fW:List Expr}{ga gc:Ev->R D}{gt gu:Ev->R Bool}{pos:Pos}
noncomputable def isD:D->D->Option Bool
 |.non,.non=>some true
 |_,.non=>some false
 |.bl x,.bl y=>some (x==y)
 |_,_=>none
def isF(x y:D):Option D:=(isD x y).map .bl
noncomputable def rIs(neg:Bool):R2:=λx y H Q=>(y=.non/\Q (.bl (if neg then !decide (x=.non)else decide (x=.non))) H)\/∃i j,x=.bl i/\y=.bl j/\Q (.bl (if neg then !(i==j)else (i==j))) H
def Fy:OpR X (compareOp .Is) (rIs false):=op_isN.or (r':=λx y H Q=>∃i j,x=.bl i/\y=.bl j/\Q (.bl (i==j)) H) (by intro pins s σ H x y v u Q I rx ry h;obtain⟨i,j,rfl,rfl,q⟩:=h;cases rx;cases ry;exact is_bool ⟨.bl _,H,I,rfl,q⟩)
def Lr(K:PySem.W.Frag)(neg:Bool):ROk K (rIs neg) (λx y=>(isD x y).map λk=>.bl (if neg then !k else k)):=by
 intro G H x y dx dy d Q s rx ry e q;dsimp only at e;cases e1:isD dx dy with
 |none=>rw[e1]at e;cases e
 |some k=>
  rw[e1]at e;have ed:D.bl (if neg=true then !k else k)=d:=xz e;subst ed;unfold isD at e1;split at e1;·cases e1;exact .inl ⟨ry.non_inv,by rw[rx.non_inv];exact q _ G H (.refl s) (.bl _)⟩
  ·rename_i hx;cases e1;have hn:x≠.non:=λz=>by subst z;cases rx;exact hx rfl
   refine .inl ⟨ry.non_inv,?_⟩;rw[vF hn];exact q _ G H (.refl s) (.bl _)
  ·cases e1;exact .inr ⟨_,_,rx.bl_inv,ry.bl_inv,q _ G H (.refl s) (.bl _)⟩
  ·cases e1
def Nz(ha:PF X a ga)(hb:PF X b gb):PF X (.Compare a [.Is] [b] pos) (g2 isF ga gb):=pF Fy (Lr _ false) ha hb (iL _)
def asB:D->R Bool
 |.bl k=>.ok k
 |_=>.no
noncomputable def nS(ga gb:Ev->R D):Ev->R D:=λρ=>ga ρ>>=λx=>asB x>>=λk=>if k=true then gb ρ else .ok (.bl false)
noncomputable def gOr(ga gb:Ev->R D):Ev->R D:=λρ=>ga ρ>>=λx=>asB x>>=λk=>if k=true then .ok (.bl true)else gb ρ
def Nq(ga:Ev->R D):Ev->R D:=λρ=>ga ρ>>=λx=>asB x>>=λk=>.ok (.bl (!k))
def asB.ok{β:Type}{K:PySem.W.Frag}{k:Bool->R β}{P:β->Prop}{E:Addr->Prop}(r:Rep K G v d)(h:(asB d>>=k).post P E):∃c,v=.bl c/\d=.bl c/\(k c).post P E:=by
 cases r with
 |bl c=>exact⟨c,rfl,rfl,h⟩
 |_=>exact h.elim
def gC{op:BoolOp}(h:PF X a ga):PF X (.BoolOp op [a] pos) ga:=LF h
def eY(ha:PF X a ga)(hb:PF X (.BoolOp .And (b::fW) pos) gb):PF X (.BoolOp .And (a::b::fW) pos) (nS ga gb):=by
 intro pins s σ H Q I h;refine Jw ha hb pins s σ H Q I ?_;obtain⟨G,ρ,st,h⟩:=h;refine tG.intro st h λx v G1 H1 u1 st1 r1 h1=>?_;obtain⟨c,ec,ed,h2⟩:=asB.ok r1 h1;subst ec ed;refine⟨c,rfl,?_⟩;cases c with
 |true=>rw[if_pos rfl]at h2⊢;exact tG.last st1 h2
 |false=>rw[if_neg wT]at h2⊢;exact h2 _ G1 H1 (.refl st1.sub) (.bl false)
def Ld(ha:PF X a ga)(hb:PF X (.BoolOp .Or (b::fW) pos) gb):PF X (.BoolOp .Or (a::b::fW) pos) (gOr ga gb):=by
 intro pins s σ H Q I h;refine Nu ha hb pins s σ H Q I ?_;obtain⟨G,ρ,st,h⟩:=h;refine tG.intro st h λx v G1 H1 u1 st1 r1 h1=>?_;obtain⟨c,ec,ed,h2⟩:=asB.ok r1 h1;subst ec ed;refine⟨c,rfl,?_⟩;cases c with
 |true=>rw[if_pos rfl]at h2⊢;exact h2 _ G1 H1 (.refl st1.sub) (.bl true)
 |false=>rw[if_neg wT]at h2⊢;exact tG.last st1 h2
def JP(ha:PF X a ga):PF X (.UnaryOp .Not a pos) (Nq ga):=by intro pins s σ H Q I h;refine KL ha pins s σ H Q I ?_;obtain⟨G,ρ,st,h⟩:=h;refine tG.intro st h λx v G1 H1 u1 st1 r1 h1=>?_;obtain⟨c,ec,ed,h2⟩:=asB.ok r1 h1;subst ec ed;exact⟨c,rfl,h2 _ G1 H1 (.refl st1.sub) (.bl _)⟩
def DY:D->R D
 |.int i=>.ok (.int (-i))
 |_=>.no
def KP(ha:PF X a ga):PF X (.UnaryOp .USub a pos) (λρ=>ga ρ>>=DY):=by
 intro pins s σ H Q I h;refine MU KA ha pins s σ H Q I ?_;obtain⟨G,ρ,st,h⟩:=h;refine tG.intro st h λx v G1 H1 u1 st1 r1 h1=>?_;cases r1 with
 |int i=>exact⟨i,rfl,h1 _ G1 H1 (.refl st1.sub) (.int _)⟩
 |_=>exact h1.elim
noncomputable def gG:D->R Bool
 |.non=>.ok false
 |.bl k=>.ok k
 |.int i=>.ok (i != 0)
 |.str x=>.ok (!x.isEmpty)
 |.tup xs=>.ok (!xs.isEmpty)
 |.lst _ xs=>.ok (!xs.isEmpty)
 |.exc _=>.no
 |.dct _ _=>.no
def Reps.isEmpty{K:PySem.W.Frag}(r:Reps K G vs ds):vs.isEmpty=ds.isEmpty:=by cases r <;> rfl
def Js(h:PF X e ga)(he:∀whole,isTrue e X.env whole=(do let v <- whole;standAt e.pos;holding [v] (truthy v)):=by intro _;rfl):PB X e (λρ=>ga ρ>>=gG):=by
 intro pins s σ H Q I hq;refine Di h he pins s σ H Q I ?_;obtain⟨G,ρ,st,hq⟩:=hq;refine tG.intro st hq λx v G1 H1 u1 st1 r1 h1=>?_;have fin:∀k,gG x=.ok k->Q k H1:=λk ek=>by rw[ek]at h1;exact h1 k G1 H1 (.refl st1.sub) rfl
 cases r1 with
 |non=>exact⟨_,rfl,fin _ rfl⟩
 |bl k=>exact⟨_,rfl,fin _ rfl⟩
 |int i=>exact⟨_,rfl,fin _ rfl⟩
 |str y hy=>
  refine⟨_,⟨hy,rfl⟩,fin _ ?_⟩;show R.ok _=R.ok _
  congr 1
  have:y.cps.toList.length=y.length:=Str.len_list y;cases h:y.cps.toList with
  |nil=>rw[h]at this;rw[<- this];rfl
  |cons c cs=>rw[h]at this;rw[<- this];simp;omega
 |tup h r=>exact⟨_,.inr (.inl ⟨_,h.mono st1.sub,rfl⟩),fin _ (by show R.ok _=R.ok _;rw[r.isEmpty])⟩
 |lst h r=>exact⟨_,.inl ⟨_,.of (st1.sub _ _ h),rfl⟩,fin _ (by show R.ok _=R.ok _;rw[r.isEmpty])⟩
 |fls h r=>exact⟨_,.inl ⟨_,h.mono st1.sub,rfl⟩,fin _ (by show R.ok _=R.ok _;rw[r.isEmpty])⟩
 |_=>exact h1.elim
def pA{op:CmpOp}{r:R2}{f:D->D->Option D}(ho:OpR X (compareOp op) r)(hf:ROk X.K r f)(ha:PF X a ga)(hb:PF X b gb)(hm:behindInMarks op b=false):PB X (.Compare a [op] [b] pos) (λρ=>g2 f ga gb ρ>>=asB):=by
 intro pins s σ H Q I h;refine IS ho ha hb hm pins s σ H Q I ?_;obtain⟨G,ρ,st,h⟩:=h;refine Dk hf ?_;refine tG.intro st h λx v G1 H1 u1 st1 r1 h1=>?_;cases r1 with
 |bl k=>exact⟨k,rfl,h1 k G1 H1 (.refl st1.sub) rfl⟩
 |_=>exact h1.elim
def Oi(ha:PF X a ga)(hb:PF X b gb):PB X (.Compare a [.Lt] [b] pos) (λρ=>g2 ltD ga gb ρ>>=asB):=pA FR (JR _) ha hb (iL _)
def M5(ha:PF X a ga)(hb:PF X b gb):PB X (.Compare a [.LtE] [b] pos) (λρ=>g2 leD ga gb ρ>>=asB):=pA rA (zY _) ha hb (iL _)
def Om(ha:PF X a ga)(hb:PF X b gb):PB X (.Compare a [.Gt] [b] pos) (λρ=>g2 gtD ga gb ρ>>=asB):=pA NJ (Oe _) ha hb (iL _)
def N4(ha:PF X a ga)(hb:PF X b gb):PB X (.Compare a [.GtE] [b] pos) (λρ=>g2 geD ga gb ρ>>=asB):=pA Nx (Nv _) ha hb (iL _)
def FV(K:PySem.W.Frag)(neg:Bool):ROk K (M7 K neg) (λx y=>(eqD 40 x y).map λk=>.bl (if neg then !k else k)):=by
 intro G H x y dx dy d Q s rx ry e q;dsimp only at e;cases e1:eqD 40 dx dy with
 |none=>rw[e1]at e;cases e
 |some k=>rw[e1]at e;cases e;exact⟨G,dx,dy,k,s,rx,ry,e1,q _ G H (.refl s) (.bl _)⟩
def Of(hu:X.A.units+64<cLine)(ha:PF X a ga)(hb:PF X b gb):PB X (.Compare a [.Eq] [b] pos) (λρ=>g2 eqF ga gb ρ>>=asB):=pA (BG hu) (FV _ false) ha hb (iL _)
def N0(hu:X.A.units+64<cLine)(ha:PF X a ga)(hb:PF X b gb):PB X (.Compare a [.NotEq] [b] pos) (λρ=>g2 neF ga gb ρ>>=asB):=pA (Ft hu) (FV _ true) ha hb (iL _)
def N8(ha:PF X a ga)(hb:PF X b gb):PB X (.Compare a [.Is] [b] pos) (λρ=>g2 isF ga gb ρ>>=asB):=pA Fy (Lr _ false) ha hb (iL _)
def D9{op op':CmpOp}{r r':R2}{f f':D->D->Option D}(ho:OpR X (compareOp op) r)(ho':OpR X (compareOp op') r')(hf:ROk X.K r f)(hf':ROk X.K r' f')(ha:PF X a ga)(hb:PF X b gb)(hc:PF X c gc)(hm:lastMarks [op,op'] [b,c]=false:=by with_unfolding_all rfl):PB X (.Compare a [op,op'] [b,c] pos) (λρ=>g3 f f' ga gb gc ρ>>=asB):=by
 intro pins s σ H Q I h;refine D4 ho ho' ha hb hc hm pins s σ H Q I ?_;obtain⟨G,ρ,st,h⟩:=h;have h':(ga ρ>>=λx=>gb ρ>>=λy=>ofO (f x y)>>=λz=>(match z with|.bl true=>gc ρ>>=λw=>ofO (f' y w)|.bl false=>.ok (.bl false)|_=>.no)>>=asB).post (Fin G H (λ_ b c=>b=c) Q) (Exx X σ G H):=by
  have e:(g3 f f' ga gb gc ρ>>=asB)=(ga ρ>>=λx=>gb ρ>>=λy=>ofO (f x y)>>=λz=>(match z with|.bl true=>gc ρ>>=λw=>ofO (f' y w)|.bl false=>.ok (.bl false)|_=>.no)>>=asB):=by
   unfold g3;cases ga ρ with
   |ok x=>cases gb ρ with
    |ok y=>simp only[R.ok_bind];cases ofO (f x y) <;> rfl
    |_=>rfl
   |_=>rfl
  rw[<- e];exact h
 refine tG.intro st h' λx v G1 H1 u1 st1 r1 h1=>?_;refine tG.intro st1 h1 λy w G2 H2 u2 st2 r2 h2=>?_;cases e:f x y with
 |none=>rw[e]at h2;exact h2.elim
 |some d=>
  rw[e]at h2;refine hf G2 H2 v w x y d _ st2.sub (r1.mono u2.gg) r2 e λz G3 H3 u3 r3=>?_;have h3:=mD u3 h2;have st3:=st2.up u3;cases r3 with
  |bl k=>
   refine⟨k,rfl,?_⟩;cases k with
   |false=>rw[if_neg wT];exact⟨false,rfl,h3 _ G3 H3 (.refl st3.sub) rfl⟩
   |true=>
    rw[if_pos rfl];have h3':(gc ρ>>=λw=>ofO (f' y w)>>=asB).post (Fin G3 H3 (λ_ b c=>b=c) Q) (Exx X σ G3 H3):=by
     have e:((gc ρ>>=λw=>ofO (f' y w))>>=asB)=(gc ρ>>=λw=>ofO (f' y w)>>=asB):=by cases gc ρ <;> rfl
     rw[<- e];exact h3
    refine tG.intro st3 h3' λq vq G4 H4 u4 st4 r4 h4=>?_;cases e':f' y q with
    |none=>rw[e']at h4;exact h4.elim
    |some d'=>
     rw[e']at h4;refine hf' G4 H4 w vq y q d' _ st4.sub ((r2.mono u3.gg).mono u4.gg) r4 e' λz' G5 H5 u5 r5=>?_;have h5:=mD u5 h4;cases r5 with
     |bl k'=>exact⟨k',rfl,h5 k' G5 H5 (.refl u5.sub) rfl⟩
     |_=>exact h5.elim
  |_=>exact h3.elim
def HM(ha:PF X a ga)(hb:PF X b gb)(hc:PF X c gc)(hm:lastMarks [.LtE,.LtE] [b,c]=false:=by with_unfolding_all rfl):PB X (.Compare a [.LtE,.LtE] [b,c] pos) (λρ=>g3 leD leD ga gb gc ρ>>=asB):=D9 rA rA (zY _) (zY _) ha hb hc hm
def Fb(t u:Ev->R Bool):Ev->R Bool:=λρ=>t ρ>>=λk=>if k=true then u ρ else .ok false
def ny(t u:Ev->R Bool):Ev->R Bool:=λρ=>t ρ>>=λk=>if k=true then .ok true else u ρ
def ya(ha:PB X a gt):PBW X (.BoolOp .And [a] pos) gt:=HQ ha
def dh(ha:PB X a gt):PBW X (.BoolOp .Or [a] pos) gt:=L9 ha
def Bd(ha:PB X a gt)(hb:PBW X (.BoolOp .And (b::fW) pos) gu):PBW X (.BoolOp .And (a::b::fW) pos) (Fb gt gu):=by
 intro whole pins s σ H Q I h;refine LH ha hb whole pins s σ H Q I ?_;obtain⟨G,ρ,st,h⟩:=h;refine tG.intro st h λx v G1 H1 u1 st1 r1 h1=>?_;subst r1;cases v with
 |true=>rw[if_pos rfl]at h1⊢;exact tG.last st1 h1
 |false=>rw[if_neg wT]at h1⊢;exact h1 _ G1 H1 (.refl st1.sub) rfl
def dY(ha:PB X a gt)(hb:PBW X (.BoolOp .Or (b::fW) pos) gu):PBW X (.BoolOp .Or (a::b::fW) pos) (ny gt gu):=by
 intro whole pins s σ H Q I h;refine Os ha hb whole pins s σ H Q I ?_;obtain⟨G,ρ,st,h⟩:=h;refine tG.intro st h λx v G1 H1 u1 st1 r1 h1=>?_;subst r1;cases v with
 |true=>rw[if_pos rfl]at h1⊢;exact h1 _ G1 H1 (.refl st1.sub) rfl
 |false=>rw[if_neg wT]at h1⊢;exact tG.last st1 h1
def KN(ha:PB X a gt):PB X (.UnaryOp .Not a pos) (λρ=>gt ρ>>=λk=>.ok (!k)):=by intro pins s σ H Q I h;refine KY ha pins s σ H Q I ?_;obtain⟨G,ρ,st,h⟩:=h;refine tG.intro st h λx v G1 H1 u1 st1 r1 h1=>?_;subst r1;exact h1 _ G1 H1 (.refl st1.sub) rfl
def gIf(gt:Ev->R Bool)(ga gb:Ev->R D):Ev->R D:=λρ=>gt ρ>>=λk=>if k=true then ga ρ else gb ρ
def CZ(hc:PB X c gt)(ha:PF X a ga)(hb:PF X b gb):PF X (.IfExp c a b pos) (gIf gt ga gb):=by
 intro pins s σ H Q I h;refine Ef hc ha hb pins s σ H Q I ?_;obtain⟨G,ρ,st,h⟩:=h;refine tG.intro st h λx v G1 H1 u1 st1 r1 h1=>?_;subst r1;cases v with
 |true=>rw[if_pos rfl]at h1⊢;exact tG.last st1 h1
 |false=>rw[if_neg wT]at h1⊢;exact tG.last st1 h1
def ae:PFA X [] (λ_=>.ok []):=by intro pos pins s σ H Q I h;obtain⟨G,ρ,st,h⟩:=h;exact jI pos pins s σ H Q I (h [] G H (.refl st.sub) .nil)
def EY(ha:PF X e ga)(hr:PFA X es gl)(hs:starEach (e::es) X.env=(false,eval e X.env)::starEach es X.env:=by rfl):PFA X (e::es) (λρ=>ga ρ>>=λx=>gl ρ>>=λxs=>.ok (x::xs)):=by intro pos pins s σ H Q I h;refine dM ha hr hs pos pins s σ H Q I ?_;obtain⟨G,ρ,st,h⟩:=h;refine tG.intro st h λx v G1 H1 u1 st1 r1 h1=>?_;refine tG.intro st1 h1 λy w G2 H2 u2 st2 r2 h2=>?_;exact h2 _ G2 H2 (.refl st2.sub) (.cons (r1.mono u2.gg) r2)
def mkT(ds:List D):R D:=if ds.length<=sizeLine then .ok (.tup ds)else .no
def L7(h:PFA X es gl):PF X (.Tuple es k pos) (λρ=>gl ρ>>=mkT):=by
 intro pins s σ H Q I hq;refine FQ h pins s σ H Q I ?_;obtain⟨G,ρ,st,hq⟩:=hq;refine tG.intro st hq λds vs G1 H1 u1 st1 r1 h1=>?_;unfold mkT at h1;split at h1;·rename_i hz;exact⟨by rw[r1.length];exact hz,λp hp=>h1 _ _ _ (.new st1.sub hp) (.tup (.of aV) (r1.mono (.into (st1.sub.free hp))))⟩
 ·exact h1.elim
def FU{c:Nat}:[c].length<=sizeLine:=by show 1<=sizeLine;decide
noncomputable def ixD:D->D->Option D
 |.lst _ xs,.int i=>atI xs i
 |.tup xs,.int i=>atI xs i
 |.str x,.int i=>(atI x i).map λc=>.str [c]
 |_,_=>none
def Reps.atI{K:PySem.W.Frag}{G:Hp}{vs:List V}{ds:List D}{i:Int}{d:D}(r:Reps K G vs ds)(h:atI ds i=some d):∃v,atI vs i=some v/\Rep K G v d:=by
 unfold L2.atI at h⊢;rw[r.length];cases e:ixN ds.length i with
 |none=>rw[e]at h;cases h
 |some j=>rw[e]at h;exact r.get h
def Ol(K:PySem.W.Frag):ROk K (rIx K) ixD:=by
 intro G H x y dx dy d Q s rx ry e q;unfold ixD at e;split at e;·obtain⟨a,vs,rfl,h,r⟩:=rx.seq_inv;obtain⟨v,e1,r1⟩:=r.atI e;exact .inl ⟨a,vs,_,v,rfl,ry.int_inv,h.mono s,e1,q v G H (.refl s) r1⟩
 ·obtain⟨a,vs,rfl,h,r⟩:=rx.tup_inv;obtain⟨v,e1,r1⟩:=r.atI e;exact .inr (.inl ⟨a,vs,_,v,rfl,ry.int_inv,h.mono s,e1,q v G H (.refl s) r1⟩)
 ·rename_i z i;obtain⟨y',rfl,ey,hy⟩:=rx.str_inv;subst ey;cases e1:L2.atI y'.cps.toList i with
  |none=>rw[e1]at e;cases e
  |some c=>rw[e1]at e;cases e;exact .inr (.inr ⟨y',i,c,rfl,ry.int_inv,hy,e1,q _ G H (.refl s) (.strL (by simp) FU)⟩)
 ·cases e
def ce(ha:PF X a ga)(hb:PF X b gb)(hs:tT b:=by exact λ_ _=>rfl):PF X (.Subscript a b pos) (g2 ixD ga gb):=
 λpins s σ H Q I h=>GV Jv ha hb hs pins s σ H Q I (Dk (Ol _) h)
end
noncomputable def rC{α:Type}(xs:List α)(lo hi:Option Int):List α:=(xs.drop (HT.sIx xs.length 0 lo)).take (HT.sIx xs.length xs.length hi - HT.sIx xs.length 0 lo)
def G8{α:Type}(xs:List α)(lo hi:Option Int):(rC xs lo hi).length<=xs.length:=by unfold rC;rw[l6,k9];omega
def Reps.cut{K:PySem.W.Frag}(r:Reps K G vs ds)(lo hi:Option Int):Reps K G (Gi vs lo hi) (rC ds lo hi):=by unfold Gi rC;rw[r.length];exact(r.drop _).take _
section
variable{a b c e:Expr}{fW:List Expr}{lo hi:Option Expr}{ga gc:Ev->R D}{go gp:Ev->R (Option Int)}{pos p2:Pos}
noncomputable def LN(K:PySem.W.Frag):V->Option Int->Option Int->Hp->VK->Prop:=λx lo hi H Q=>∃a xs,x=.ref a/\SqT K H a xs/\
 (HT.sIx xs.length 0 lo=0/\HT.sIx xs.length xs.length hi=xs.length)/\Q (.ref a) H
def sl_tup_whole:SlR X (LN X.K):=by
 intro pins s σ H x v vl vu lo hi sl Q I rx hs pl pu h;obtain⟨a,xs,rfl,hx,⟨hw1,hw2⟩,q⟩:=h;cases rx;obtain⟨its,r,ht,hz⟩:=I.tuple hx;have hlen:its.toArray.size=xs.length:=by rw[xm];exact r.length.symm
 refine⟨"tuple",_,PyProof.Rows.slot_tuple_getitem.lookup,ht.typeIs,?_⟩;obtain⟨os,hos,hcs,hds⟩:=id hs;have hTs:s.TypeIs (.ref sl) "slice":=⟨os,hos,hcs⟩
 unfold getItem
 try with_reducible refine r0 ?_
 first|refine z9 (zh ?_)|skip
 refine z9 (wpAny_sequenceKey ht.typeIs (by decide) ?_);refine z9 (qQ (name:=Str.ofString "__getitem__") ht.typeIs ZI
  (p0 ZI ht.typeIs entry_tuple_getitem ?_ (args_tuple_getitem _ _)));show wpAny _ _ (Builtin.Tuple.tupleItemsOf (.ref a)>>=_) _ _ s;refine z9 (j0 ht ?_);refine z9 (fB hTs ?_);rw[if_pos (by decide)];refine z9 (HT.sliceApplied_gen hs pl pu ?_);rw[hlen,hw1,hw2];dsimp only;rw[if_pos (by simp)];have fin:EP X pins σ Q (.ref a) s:=⟨.ref a,H,I,rfl,q⟩
 obtain⟨o,ho,hc,n,hd⟩:=id ht;unfold Builtin.Tuple.tupleIsExact;refine z9 (z9 (fB ht.typeIs (zh ?_)));rw[if_pos (by decide)];exact z9 (n6 (zh ⟨_,rfl,zh fin⟩))
theorem Jz{α:Type}(xs:List α)(a:Nat):∀k:Nat,((List.range k).map (a + ·)).filterMap (λi:Nat=>xs[i]?)=(xs.drop a).take k
 | 0=>by simp
 |k+1=>by
  rw[List.range_succ,Zh,List.filterMap_append,Jz xs a k,List.take_add_one,List.getElem?_drop]
  congr 1
  try (simp only[tI,List.map_nil,Zb,List.filterMap_nil];cases xs[a+k]? <;> rfl)
def yw(n d:Nat)(v:Option Int):(match v with|none=>(d:Int)|some i=>max 0 (min (if i<0 then i+(n:Int)else i) (n:Int)))=((HT.sIx n d v:Nat):Int):=by
 cases v with
 |none=>rfl
 |some i=>show max 0 (min (if i<0 then i+(n:Int)else i) (n:Int))=(((if i<0 then (i+(n:Int)).toNat else min i.toNat n):Nat):Int);split <;> omega
def Gu(lo hi:Option Int)(n:Nat):Builtin.Str.strSliceIndices lo hi 1 n=(List.range (HT.sIx n n hi - HT.sIx n 0 lo)).map (HT.sIx n 0 lo + ·):=by
 have e:Builtin.Str.strSliceIndices lo hi 1 n=sliceRange ((HT.sIx n 0 lo:Nat):Int) ((HT.sIx n n hi:Nat):Int) 1:=by rw[<- yw n 0 lo,<- yw n n hi];rfl
 rw[e];generalize HT.sIx n 0 lo=a;generalize HT.sIx n n hi=b;unfold sliceRange;have hc:(if (1:Int) > 0 then (if (a:Int)<(b:Int)then ((b:Int) - (a:Int)+1 - 1) / 1 else 0)else (if (a:Int) > (b:Int)then ((a:Int) - (b:Int) - 1 - 1) / (-1)else 0)).toNat=b - a:=by
  rw[if_pos (by decide)];split;·rw[Int.ediv_one];omega
  ·omega
 simp only[hc];apply Zi;intro k _;omega
def BS(x:Str)(lo hi:Option Int):(Txt.slice x lo hi).cps.toList=rC x.cps.toList lo hi:=by
 have hn:x.cps.toList.length=x.length:=Str.len_list x;unfold Txt.slice rC;rw[hn,Gu];have hb:HT.sIx x.length x.length hi<=x.length:=HT.sIx_le _ _ (zE _) hi;by_cases hc:((1:Int)==1 && ((List.range (HT.sIx x.length x.length hi - HT.sIx x.length 0 lo)).map (HT.sIx x.length 0 lo + ·)).length==x.length)=true
 ·rw[if_pos hc];have h2:HT.sIx x.length x.length hi - HT.sIx x.length 0 lo=x.length:=by simpa using hc
  have h3:HT.sIx x.length 0 lo=0\/x.length=0:=by omega
  rw[h2];rcases h3 with h3|h3;·rw[h3,j7,<- hn,List.take_length]
  ·have:x.cps.toList=[]:=ZJ (by rw[hn];exact h3);rw[this];simp
 ·rw[if_neg hc];have e:(λi:Nat=>x.cps[i]?)=(λi:Nat=>x.cps.toList[i]?):=by funext i;simp
  show(List.filterMap (λi:Nat=>x.cps[i]?) _).toArray.toList=_;rw[Zj,e,Jz]
noncomputable def OH:V->Option Int->Option Int->Hp->VK->Prop:=λx lo hi H Q=>∃y:Str,x=.str y/\y.length<=sizeLine/\Q (.str (Txt.slice y lo hi)) H
theorem sl_str:SlR X OH:=by
 intro pins s σ H x v vl vu lo hi sl Q I rx hs pl pu h;obtain⟨y,rfl,hz,q⟩:=h;obtain⟨t,rfl⟩:=rx;refine⟨"str",_,F.slot_str_getitem.lookup,j1 _ _ _,?_⟩;cases pl with
 |none=>
  cases pu with
  |none=>exact d3 (l:=none) (u:=none) (st:=none) hs rfl (d4 ⟨xS (d5 y _ _) hz,λt' k=>⟨.str _,H,I.tok k,⟨t',rfl⟩,q⟩⟩)
  |int j uj=>exact d3 (l:=none) (u:=some (j,uj)) (st:=none) hs rfl (d4 ⟨xS (d5 y _ _) hz,λt' k=>⟨.str _,H,I.tok k,⟨t',rfl⟩,q⟩⟩)
 |int i ui=>
  cases pu with
  |none=>exact d3 (l:=some (i,ui)) (u:=none) (st:=none) hs rfl (d4 ⟨xS (d5 y _ _) hz,λt' k=>⟨.str _,H,I.tok k,⟨t',rfl⟩,q⟩⟩)
  |int j uj=>exact d3 (l:=some (i,ui)) (u:=some (j,uj)) (st:=none) hs rfl (d4 ⟨xS (d5 y _ _) hz,λt' k=>⟨.str _,H,I.tok k,⟨t',rfl⟩,q⟩⟩)
noncomputable def Jj(lo hi:Option Int):D->Option D
 |.str x=>some (.str (rC x lo hi))
 |.tup xs=>some (.tup (rC xs lo hi))
 |.lst _ xs=>some (.lst false (rC xs lo hi))
 |_=>none
noncomputable def rSl(K:PySem.W.Frag):V->Option Int->Option Int->Hp->VK->Prop:=λx lo hi H Q=>OH x lo hi H Q\/LN K x lo hi H Q\/OO K x lo hi H Q\/OS K x lo hi H Q
def Lz:SlR X (rSl X.K):=sl_str.or (sl_tup_whole.or (sl_tup.or IP))
def PFO(X:Cx)(o:Option Expr)(g:Ev->R (Option Int)):Prop:=PO X o (tG X (λ_ b c=>b=c) g)
def kg:PFO X none (λ_=>.ok none):=by intro pins s σ H Q I h;obtain⟨G,ρ,st,h⟩:=h;exact Ix pins s σ H Q I (h none G H (.refl st.sub) rfl)
def asI:D->R Int
 |.int i=>.ok i
 |_=>.no
def Dm(h:PF X e ga):PFO X (some e) (λρ=>ga ρ>>=λx=>asI x>>=λi=>.ok (some i)):=by
 intro pins s σ H Q I hq;refine GB h pins s σ H Q I ?_;obtain⟨G,ρ,st,hq⟩:=hq;refine tG.intro st hq λx v G1 H1 u1 st1 r1 h1=>?_;cases r1 with
 |int i=>exact⟨i,rfl,h1 (some i) G1 H1 (.refl st1.sub) rfl⟩
 |_=>exact h1.elim
noncomputable def gSl(ga:Ev->R D)(go gp:Ev->R (Option Int)):Ev->R D:=λρ=>ga ρ>>=λx=>go ρ>>=λl=>gp ρ>>=λu=>ofO (Jj l u x)
def kf(ha:PF X a ga)(hl:PFO X lo go)(hu:PFO X hi gp):PF X (.Subscript a (.Slice lo hi none p2) pos) (gSl ga go gp):=by
 intro pins s σ H Q I h;refine D2 Lz ha hl hu pins s σ H Q I ?_;obtain⟨G,ρ,st,h⟩:=h;refine tG.intro st h λx v G1 H1 u1 st1 r1 h1=>?_;refine tG.intro st1 h1 λl l' G2 H2 u2 st2 r2 h2=>?_;subst r2;refine tG.intro st2 h2 λu u' G3 H3 u3 st3 r3 h3=>?_;subst r3;obtain⟨d,e,q⟩:=ofO.ok h3;have r:=(r1.mono u2.gg).mono u3.gg;unfold Jj at e;split at e;·cases e;obtain⟨y,rfl,ey,hy⟩:=r.str_inv;subst ey;exact .inl ⟨y,rfl,hy,q _ G3 H3 (.refl st3.sub) (.strL (BS y _ _) (xS (G8 _ _ _) (by rw[Str.len_list];exact hy)))⟩
 ·rename_i xs0;cases e;obtain⟨a,vs,rfl,h,t⟩:=r.tup_inv;by_cases hw:HT.sIx vs.length 0 l'=0/\HT.sIx vs.length vs.length u'=vs.length
  ·refine .inr (.inl ⟨a,vs,rfl,h.mono st3.sub,hw,q _ G3 H3 (.refl st3.sub) ?_⟩);have e1:rC xs0 l' u'=xs0:=by unfold rC;rw[<- t.length,hw.1,hw.2,j7,Nat.sub_zero,t.length,List.take_length]
   rw[e1];exact .tup h t
  ·exact .inr (.inr (.inl ⟨a,vs,rfl,h.mono st3.sub,hw,λp hp=>q _ _ _ (.new st3.sub hp) (.tup (.of aV) ((t.cut _ _).mono (.into (st3.sub.free hp))))⟩))
 ·cases e;obtain⟨a,vs,rfl,h,t⟩:=r.seq_inv;exact .inr (.inr (.inr ⟨a,vs,rfl,h.mono st3.sub,λp hp=>q _ _ _ (.new st3.sub hp) (.lst aV ((t.cut _ _).mono (.into (st3.sub.free hp))))⟩))
 ·cases e
noncomputable def Hr(K:PySem.W.Frag)(r:List V->Hp->VK->Prop)(f:List D->Option D):Prop:=∀(G H:Hp)(xs:List V)(ds:List D)(d:D)(Q:VK),Same G H->Reps K G xs ds->f ds=some d->Fin G H (Rep K) Q d->r xs H Q
def ly{id:String}{x:Str}{r:List V->Hp->VK->Prop}{f:List D->Option D}(hc:ky X (.builtin id) r)(hf:Hr X.K r f)(hg:Gl X x)(hm:X.mg x=none)(hv:bootBuiltins x=some (.builtin id))(ha:PFA X (e::es) gl)(hn:x≠"__name__":=by decide)(hdb:(x==("__debug__":Str))=false:=by decide)(he:starEach (e::es) X.env=(false,eval e X.env)::starEach es X.env:=by rfl)(hpl:(backTo pos (starEach es X.env)).any (·.1)=false:=by rfl):PF X (.Call (.Name x p) (e::es) [] pos) (λρ=>gl ρ>>=λds=>ofO (f ds)):=by
 intro pins s σ H Q I h;refine lM hc hg hm hv ha hn hdb he hpl pins s σ H Q I ?_;obtain⟨G,ρ,st,h⟩:=h;refine tG.intro st h λds vs G1 H1 u1 st1 r1 h1=>?_;obtain⟨d,e,q⟩:=ofO.ok h1;exact hf G1 H1 vs ds d Q st1.sub r1 e q
def uJ{T:String}{x:Str}{r:List V->Hp->VK->Prop}{f:List D->Option D}(hc:ky X (.type T) r)(hf:Hr X.K r f)(hg:Gl X x)(hm:X.mg x=none)(hv:bootBuiltins x=some (.type T))(ha:PFA X (e::es) gl)(hn:x≠"__name__":=by decide)(hdb:(x==("__debug__":Str))=false:=by decide)(he:starEach (e::es) X.env=(false,eval e X.env)::starEach es X.env:=by rfl)(hpl:(backTo pos (starEach es X.env)).any (·.1)=false:=by rfl):PF X (.Call (.Name x p) (e::es) [] pos) (λρ=>gl ρ>>=λds=>ofO (f ds)):=by
 intro pins s σ H Q I h;refine Bs hc hg hm hv ha hn hdb he hpl pins s σ H Q I ?_;obtain⟨G,ρ,st,h⟩:=h;refine tG.intro st h λds vs G1 H1 u1 st1 r1 h1=>?_;obtain⟨d,e,q⟩:=ofO.ok h1;exact hf G1 H1 vs ds d Q st1.sub r1 e q
def Reps.one{K:PySem.W.Frag}(r:Reps K G vs [d]):∃v,vs=[v]/\Rep K G v d:=by
 cases r with
 |cons r t=>cases t;exact⟨_,rfl,r⟩
def Reps.two{K:PySem.W.Frag}{d':D}(r:Reps K G vs [d,d']):∃v w,vs=[v,w]/\Rep K G v d/\Rep K G w d':=by
 cases r with
 |cons r t=>obtain⟨w,rfl,r'⟩:=t.one;exact⟨_,w,rfl,r,r'⟩
noncomputable def iB:List D->Option D
 | [.str x]=>some (.int x.length)
 | [.tup xs]=>some (.int xs.length)
 | [.lst _ xs]=>some (.int xs.length)
 |_=>none
def Kl(hg:Gl X "len")(hm:X.mg "len"=none)(ha:PFA X [e] gl)(he:starEach [e] X.env=[(false,eval e X.env)]:=by rfl):PF X (.Call (.Name "len" p) [e] [] pos) (λρ=>gl ρ>>=λds=>ofO (iB ds)):=
 ly Fo (by
  intro G H xs ds d Q s r e q;unfold iB at e;split at e;·cases e;obtain⟨v,rfl,r1⟩:=r.one;obtain⟨y,rfl,ey,hy⟩:=r1.str_inv;subst ey;exact⟨_,y.length,rfl,⟨hy,rfl⟩,by rw[<- Str.len_list];exact q _ G H (.refl s) (.int _)⟩
  ·cases e;obtain⟨v,rfl,r1⟩:=r.one;obtain⟨a,vs,rfl,h,t⟩:=r1.tup_inv;exact⟨_,vs.length,rfl,.inr ⟨vs,h.mono s,rfl⟩,by rw[t.length];exact q _ G H (.refl s) (.int _)⟩
  ·cases e;obtain⟨v,rfl,r1⟩:=r.one;obtain⟨a,vs,rfl,h,t⟩:=r1.seq_inv;exact⟨_,vs.length,rfl,.inl ⟨vs,h.mono s,rfl⟩,by rw[t.length];exact q _ G H (.refl s) (.int _)⟩
  ·cases e) hg hm PySem.boot_len ha (he:=by rw[he];rfl)
def Jk:List D->Option D
 | [.int i,.int j]=>some (.int (if j<i then j else i))
 |_=>none
def LS(K:PySem.W.Frag):Hr K (λxs H Q=>∃i j,xs=[.int i,.int j]/\Q (.int (if j<i then j else i)) H) Jk:=by
 intro G H xs ds d Q s r e q;unfold Jk at e;split at e;·cases e;obtain⟨v,w,rfl,r1,r2⟩:=r.two;obtain rfl:=r1.int_inv;obtain rfl:=r2.int_inv;exact⟨_,_,rfl,q _ G H (.refl s) (.int _)⟩
 ·cases e
end
noncomputable def ItOk(K:PySem.W.Frag)(G₁:Hp)(J:It)(items:List D):Prop:=∀(i:Nat)(G H:Hp),Same G₁ G->Same G H->
 (∀d,items[i]?=some d->J.go i H/\∀x H',J.yld i H x H'->∃G',Up G H G' H'/\Rep K G' x d)/\(items.length<=i->J.stop i H)
noncomputable def PIF(X:Cx)(tg iter:Expr)(g:Ev->R (List D)):Prop:=PI X tg iter (tG X (λG J items=>ItOk X.K G J items) g)
noncomputable def Its(x:Str):It:=⟨λi _=>i<x.cps.size,λi H v H'=>H'=H/\∃c,x.cps[i]?=some c/\v=.str ⟨#[c]⟩,λi _=>x.cps.size<=i⟩
section
variable{a e:Expr}{ga:Ev->R D}{pos:Pos}
def Ac{Rr:It->Hp->Prop}(I:Inv X pins σ H s)(h:SqL X.K H l xs)(q:Rr (Itl X.K l) H):
  wpAny (model X.prog X.w) X.A (pyIter (.ref l)) (PIE X pins σ tg Rr) X.xe s:=by
 obtain⟨its,rv,p,hz⟩:=I.list h;refine d6 p.isList ?_;refine⟨s.heap.objs.size,[s.heap.objs.size],_,_,H,rfl,I.kept (t':=s.toks) λb o e=>zT _ e,BF l _,⟨_,xG _ rfl,rfl,rfl⟩,λb hb=>?_,q⟩;have e:b=s.heap.objs.size:=by simpa using hb
 subst e;exact I.fpOk (zE _) (I.hok.fresh (zE _))
def J9{Rr:It->Hp->Prop}(I:Inv X pins σ H s)(h:SqT X.K H l xs)(q:Rr (Itt X.K l) H):
  wpAny (model X.prog X.w) X.A (pyIter (.ref l)) (PIE X pins σ tg Rr) X.xe s:=by
 obtain⟨its,rv,p,hz⟩:=I.tuple h;refine d7 (show s.heap.IsTuple l its.toArray from p) ?_;refine⟨s.heap.objs.size,[s.heap.objs.size],_,_,H,rfl,I.kept (t':=s.toks) λb o e=>zT _ e,ze l _,⟨_,xG _ rfl,rfl,rfl⟩,λb hb=>?_,q⟩;have e:b=s.heap.objs.size:=by simpa using hb
 subst e;exact I.fpOk (zE _) (I.hok.fresh (zE _))
def yZ{w:World}{K:PySem.W.Frag}(it:Addr)(x:Str)(t:Tok):Turn P w K tg (Its x) [it] it (λi h=>h.IsStrIter it "str_ascii_iterator" x t i) where
 mem:=by simp
 obj:=λi h st b hb=>by
  have e:b=it:=by simpa using hb
  subst e;obtain⟨o,e,c,d⟩:=st;exact⟨o,e,λv z=>by rw[d]at z;cases z⟩
 keep:=λi h h' st k=>let⟨o,ho,r⟩:=st;⟨o,k it (by simp) o ho,r⟩
 item:=by intro X hP hw hK hc i pins s σ H E I hf st hg;subst hP hw hK;have hg':i<x.cps.size:=hg;obtain⟨f0,f1,f2,f3,f4,f5⟩:=hf it (by simp);refine wpAny_pyNext_ascii_item st (c:=x.cps[i]) (by simp[hg']) λh' st' sb=>?_;have I1:Inv X pins σ H { s with heap:=h',toks:=s.toks+1 }:=I.turned (t':=s.toks+1) (λb o hb e=>(sb.2 b hb).trans e) f0 f1 f3 f4 f5;obtain⟨o,e,c,d⟩:=id st';exact⟨_,rfl,AG (s:={ s with heap:=h',toks:=s.toks+1 }) e c d (by decide) ⟨.str ⟨#[x.cps[i]]⟩,H,I1,⟨_,rfl⟩,⟨rfl,_,by simp[hg'],rfl⟩,st',λb hb=>(hf b hb).1⟩⟩
 done:=by intro X hP hw hK hc i pins s σ H E I hf st hg;subst hP hw hK;obtain⟨f0,f1,f2,f3,f4,f5⟩:=hf it (by simp);have hg':x.cps.size<=i:=hg;exact wpAny_pyNext_ascii_end (I.ok.hd hc) st (by simp;omega) λh' eb=>⟨rfl,I.turned (t':=s.toks) (λb o hb e=>eb b o hb e) f0 f1 f3 f4 f5⟩
 self:=λ_ _ _ _ _ st h=>wpAny_pyIter_striter_ascii st h
def CA{w:World}{K:PySem.W.Frag}(it:Addr)(x:Str)(t:Tok):Turn P w K tg (Its x) [it] it (λi h=>h.IsStrIter it "str_iterator" x t i) where
 mem:=by simp
 obj:=λi h st b hb=>by
  have e:b=it:=by simpa using hb
  subst e;obtain⟨o,e,c,d⟩:=st;exact⟨o,e,λv z=>by rw[d]at z;cases z⟩
 keep:=λi h h' st k=>let⟨o,ho,r⟩:=st;⟨o,k it (by simp) o ho,r⟩
 item:=by intro X hP hw hK hc i pins s σ H E I hf st hg;subst hP hw hK;have hg':i<x.cps.size:=hg;obtain⟨f0,f1,f2,f3,f4,f5⟩:=hf it (by simp);refine wpAny_pyNext_wide_item st (c:=x.cps[i]) (by simp[hg']) λh' st' sb=>?_;have I1:Inv X pins σ H { s with heap:=h',toks:=s.toks+1 }:=I.turned (t':=s.toks+1) (λb o hb e=>(sb.2 b hb).trans e) f0 f1 f3 f4 f5;obtain⟨o,e,c,d⟩:=id st';exact⟨_,rfl,AG (s:={ s with heap:=h',toks:=s.toks+1 }) e c d (by decide) ⟨.str ⟨#[x.cps[i]]⟩,H,I1,⟨_,rfl⟩,⟨rfl,_,by simp[hg'],rfl⟩,st',λb hb=>(hf b hb).1⟩⟩
 done:=by intro X hP hw hK hc i pins s σ H E I hf st hg;subst hP hw hK;obtain⟨f0,f1,f2,f3,f4,f5⟩:=hf it (by simp);have hg':x.cps.size<=i:=hg;exact wpAny_pyNext_wide_end (I.ok.hd hc) st (by simp;omega) λh' eb=>⟨rfl,I.turned (t':=s.toks) (λb o hb e=>eb b o hb e) f0 f1 f3 f4 f5⟩
 self:=λ_ _ _ _ _ st h=>wpAny_pyIter_striter_wide st h
def LG{x:Str}{t:Tok}{Rr:It->Hp->Prop}(I:Inv X pins σ H s)(q:Rr (Its x) H):
  wpAny (model X.prog X.w) X.A (pyIter (.str x t)) (PIE X pins σ tg Rr) X.xe s:=by
 have fp:∀(o:Obj),∀b∈[s.heap.objs.size],qJ X pins H b:=λo b hb=>by
  have e:b=s.heap.objs.size:=by simpa using hb
  subst e;exact I.fpOk (zE _) (I.hok.fresh (zE _))
 cases ha:x.cps.all (· < 128);·refine wpAny_pyIter_wide ha ⟨s.heap.objs.size,[s.heap.objs.size],_,_,H,rfl,I.kept (t':=s.toks) λb o e=>zT _ e,CA _ x t,⟨_,xG _ rfl,rfl,rfl⟩,fp default,q⟩
 ·refine wpAny_pyIter_ascii ha ⟨s.heap.objs.size,[s.heap.objs.size],_,_,H,rfl,I.kept (t':=s.toks) λb o e=>zT _ e,yZ _ x t,⟨_,xG _ rfl,rfl,rfl⟩,fp default,q⟩
def bJ:D->R (List D)
 |.lst _ xs=>.ok xs
 |.tup xs=>.ok xs
 |.str x=>.ok (x.map λc=>.str [c])
 |_=>.no
def ItOk.list{K:PySem.W.Frag}(h:SqL K G l vs)(r:Reps K G vs ds):ItOk K G (Itl K l) ds:=by intro i G1 H1 s1 s2;refine⟨λd e=>?_,λhl=>⟨vs,(h.mono s1).mono s2,by rw[r.length];exact hl⟩⟩;obtain⟨v,ev,rv⟩:=r.get e;refine⟨⟨vs,v,(h.mono s1).mono s2,ev⟩,λx H' y=>?_⟩;obtain⟨rfl,y⟩:=y;have:=y vs ((h.mono s1).mono s2);rw[ev]at this;cases this;exact⟨G1,.refl s2,rv.mono s1⟩
def ItOk.tup{K:PySem.W.Frag}(h:SqT K G l vs)(r:Reps K G vs ds):ItOk K G (Itt K l) ds:=by intro i G1 H1 s1 s2;refine⟨λd e=>?_,λhl=>⟨vs,(h.mono s1).mono s2,by rw[r.length];exact hl⟩⟩;obtain⟨v,ev,rv⟩:=r.get e;refine⟨⟨vs,v,(h.mono s1).mono s2,ev⟩,λx H' y=>?_⟩;obtain⟨rfl,y⟩:=y;have:=y vs ((h.mono s1).mono s2);rw[ev]at this;cases this;exact⟨G1,.refl s2,rv.mono s1⟩
def ItOk.str{K:PySem.W.Frag}(x:Str):ItOk K G (Its x) (x.cps.toList.map λc=>.str [c]):=by
 intro i G1 H1 s1 s2;refine⟨λd e=>?_,λhl=>show x.cps.size<=i by simpa using hl⟩;rw[ue]at e;cases ec:x.cps.toList[i]? with
 |none=>rw[ec]at e;cases e
 |some c=>
  rw[ec]at e;cases e;have hi:i<x.cps.size:=by have:=(u6.mp ec).1;simpa using this
  refine⟨hi,λv H' y=>?_⟩;obtain⟨rfl,c',e',rfl⟩:=y;have:c'=c:=by
   have h2:x.cps.toList[i]?=x.cps[i]?:=by simp
   rw[h2,e']at ec;exact xz ec
  subst this;exact⟨G1,.refl s2,.strL rfl FU⟩
def ItOk.range{K:PySem.W.Frag}(lo:Int)(n:Nat):ItOk K G (Itr lo n) ((List.range n).map λi=>.int (lo+(i:Nat))):=by
 intro i G1 H1 s1 s2;refine⟨λd e=>?_,λhl=>show n<=i by simpa using hl⟩;rw[ue]at e;by_cases hi:i<n;·rw[Zk hi]at e;cases e;refine⟨hi,λv H' y=>?_⟩;obtain⟨rfl,rfl⟩:=y;exact⟨G1,.refl s2,.int _⟩
 ·rw[Zl (by simpa using hi)]at e;cases e
def IY(ha:PF X a ga):PIF X tg a (λρ=>ga ρ>>=bJ):=by
 intro pins s σ H Rr I h;obtain⟨G,ρ,st,h⟩:=h;have t:tF X ga σ H (λx H1=>∃G1 d,Same G1 H1/\Rep X.K G1 x d/\(bJ d).post (Fin G1 H1 (λG J items=>ItOk X.K G J items) Rr) (Exx X σ G1 H1)):=
  tG.intro st h λx v G1 H1 u1 st1 r1 h1=>⟨G1,x,st1.sub,r1,h1⟩
 refine thn (ha pins s σ H _ I t) λv s1 ⟨x,H1,I1,r1,G1,d,sub,rd,h1⟩=>?_;cases rd with
 |lst hh r=>cases r1;exact Ac I1 (.of (sub _ _ hh)) (h1 _ G1 H1 (.refl sub) (.list (.of hh) r))
 |fls hh r=>cases r1;exact Ac I1 (hh.mono sub) (h1 _ G1 H1 (.refl sub) (.list hh r))
 |tup hh r=>cases r1;exact J9 I1 (hh.mono sub) (h1 _ G1 H1 (.refl sub) (.tup hh r))
 |str y hy=>obtain⟨t,rfl⟩:=r1;exact LG I1 (h1 _ G1 H1 (.refl sub) (.str y))
 |_=>exact h1.elim
noncomputable def sd:List D->R (List D)
 | [.int j]=>if -(2 ^ 62)<=j/\j<2 ^ 62 then .ok ((List.range j.toNat).map λi=>.int (0+(i:Nat)))else .no
 |_=>.no
noncomputable def rS:List D->R (List D)
 | [.int i,.int j]=>if -(2 ^ 62)<=i/\i<2 ^ 62/\-(2 ^ 62)<=j/\j<2 ^ 62 then .ok ((List.range (j - i).toNat).map λk=>.int (i+(k:Nat)))else .no
 |_=>.no
def za(hg:Gl X "range")(hm:X.mg "range"=none)(ha:PFA X [a] gl)(hs:starEach [a] X.env=[(false,eval a X.env)]:=by rfl):PIF X tg (.Call (.Name "range" p) [a] [] pos) (λρ=>gl ρ>>=sd):=by
 intro pins s σ H Rr I h;refine CC hg hm ha hs pins s σ H Rr I ?_;obtain⟨G,ρ,st,h⟩:=h;refine tG.intro st h λds vs G1 H1 u1 st1 r1 h1=>?_;unfold sd at h1;split at h1
 ·split at h1;·rename_i hj;obtain⟨v,rfl,r⟩:=r1.one;obtain rfl:=r.int_inv;exact⟨_,rfl,hj.1,hj.2,h1 _ G1 H1 (.refl st1.sub) (.range 0 _)⟩
  ·exact h1.elim
 ·exact h1.elim
def zl{b:Expr}(hg:Gl X "range")(hm:X.mg "range"=none)(ha:PFA X [a,b] gl)(hs:starEach [a,b] X.env=[(false,eval a X.env),(false,eval b X.env)]:=by rfl)(hs2:starEach [b] X.env=[(false,eval b X.env)]:=by rfl):
  PIF X tg (.Call (.Name "range" p) [a,b] [] pos) (λρ=>gl ρ>>=rS):=by
 intro pins s σ H Rr I h;refine Be hg hm ha hs hs2 pins s σ H Rr I ?_;obtain⟨G,ρ,st,h⟩:=h;refine tG.intro st h λds vs G1 H1 u1 st1 r1 h1=>?_;unfold rS at h1;split at h1
 ·split at h1;·rename_i hj;obtain⟨v,w,rfl,r,r'⟩:=r1.two;obtain rfl:=r.int_inv;obtain rfl:=r'.int_inv;exact⟨_,_,rfl,hj,h1 _ G1 H1 (.refl st1.sub) (.range _ _)⟩
  ·exact h1.elim
 ·exact h1.elim
end
noncomputable def ObSt(K:PySem.W.Frag)(H₀ G H:Hp)(σ:St)(ρ:Ev):Prop:=
 ∃ow:kK,(∀(i:Nat) ds l,ρ[i]?=some (some (.own ds))->σ[i]?=some (some (.ref l))->ow l=some (i,0))/\
  ∀(i:Nat) m C p fs,ρ[i]?=some (some (.obj m C p fs))->σ[i]?=some (some (.ref p))/\ObjAt K H₀ G H ow i m C p fs
def ObSt.rd{K:PySem.W.Frag}{H₀:Hp}(h:ObSt K H₀ G H σ ρ):∀(i:Nat) m C p fs,ρ[i]?=some (some (.obj m C p fs))->σ[i]?=some (some (.ref p))/\∃ow,ObjAt K (λ_=>none) G H ow i m C p fs:=λi m C p fs e=>by obtain⟨ow,_,o2⟩:=h;exact⟨(o2 i m C p fs e).1,ow,(o2 i m C p fs e).2.rd⟩
def NoOwn(ρ:Ev):Prop:=∀(j:Nat)(x:Sl),ρ[j]?=some (some x)->∃d,x=.val d
def NoOwn.own(h:NoOwn ρ)(j:Nat)(ds:List D):ρ[j]?≠some (some (.own ds)):=λe=>by obtain⟨d,z⟩:=h j _ e;cases z
def NoOwn.obj(h:NoOwn ρ)(j:Nat)(m:Bool)(C p:Addr)(fs:List (Nat×Fd)):ρ[j]?≠some (some (.obj m C p fs)):=λe=>by obtain⟨d,z⟩:=h j _ e;cases z
def NoOwn.ob{K:PySem.W.Frag}{H₀:Hp}(h:NoOwn ρ):ObSt K H₀ G H σ ρ:=
 ⟨λ_=>none,λi ds l e=>absurd e (h.own i ds),λi m C p fs e=>absurd e (h.obj i m C p fs)⟩
structure StR(K:PySem.W.Frag)(G₀ H₀ G H:Hp)(σ:St)(ρ:Ev):Prop where
 e:StE K G H σ ρ
 sub0:Same G₀ H₀
 up:Up G₀ H₀ G H
 own:∀(i:Nat) ds,ρ[i]?=some (some (.own ds))->∃l vs,σ[i]?=some (some (.ref l))/\H l=some (.lst vs)/\G l=none/\H₀ l=none/\Reps K G vs ds
 inj:∀(i j:Nat) ds es l,ρ[i]?=some (some (.own ds))->ρ[j]?=some (some (.own es))->σ[i]?=some (some (.ref l))->σ[j]?=some (some (.ref l))->i=j
 ob:ObSt K H₀ G H σ ρ
section
variable{K:PySem.W.Frag}{H₀ G':Hp}
def StR.ups(s:StR K G₀ H₀ G H σ ρ)(u:Up G H G' H'):StR K G₀ H₀ G' H' σ ρ:=⟨s.e.up u,s.sub0,s.up.trans u,(λi ds e=>by
 obtain⟨l,vs,h1,h2,h3,h4,h5⟩:=s.own i ds e;refine⟨l,vs,h1,u.hh _ _ h2,?_,h4,h5.mono u.gg⟩;cases q:G' l with
 |none=>rfl
 |some o=>
  rcases u.fr l o q with z|z;·rw[h3]at z;cases z
  ·rw[h2]at z;cases z),s.inj,by
 obtain⟨ow,o1,o2⟩:=s.ob;exact⟨ow,o1,λi m C p fs e=>⟨(o2 i m C p fs e).1,(o2 i m C p fs e).2.keep (.up u)⟩⟩⟩
def StR.set(s:StR K G₀ H₀ G H σ ρ)(r:Rep K G v d)(i:Nat):StR K G₀ H₀ G H (σ.set i (some v)) (ρ.set i (some (.val d))):=by
 have get:∀(j:Nat) x,(ρ.set i (some (.val d)))[j]?=some (some x)->(j=i/\x=.val d/\i<σ.length)\/(j≠i/\ρ[j]?=some (some x)/\(σ.set i (some v))[j]?=σ[j]?):=λj x h=>by
  by_cases e:i=j
  ·subst e;have hl:i<ρ.length:=by have:=(u6.mp h).1;simpa using this
   rw[uV hl]at h;exact .inl ⟨rfl,by injection (xz h)with q;exact q.symm,by rw[s.e.len];exact hl⟩
  ·rw[t8 e]at h;exact .inr ⟨λz=>e z.symm,h,t8 e⟩
 have ob:ObSt K H₀ G H (σ.set i (some v)) (ρ.set i (some (.val d))):=by
  obtain⟨ow,o1,o2⟩:=s.ob;refine⟨ow,λj ds l h1 h2=>?_,λj m C p fs h1=>?_⟩
  ·rcases get j _ h1 with⟨_,e,_⟩|⟨_,e,e'⟩;·cases e
   ·exact o1 j ds l e (e'▸h2)
  ·rcases get j _ h1 with⟨_,e,_⟩|⟨_,e,e'⟩;·cases e
   ·rw[e'];exact o2 j m C p fs e
 refine⟨⟨s.e.sub,by simp[s.e.len],λj d' h=>?_,ob.rd⟩,s.sub0,s.up,λj ds h=>?_,λj k ds es l h1 h2 h3 h4=>?_,ob⟩
 ·rcases get j _ h with⟨rfl,e,hl⟩|⟨_,e,e'⟩;·cases e;exact⟨v,uV hl,r⟩
  ·rw[e'];exact s.e.val j d' e
 ·rcases get j _ h with⟨_,e,_⟩|⟨_,e,e'⟩;·cases e
  ·rw[e'];exact s.own j ds e
 ·rcases get j _ h1 with⟨_,e,_⟩|⟨_,e,e'⟩;·cases e
  ·rcases get k _ h2 with⟨_,f,_⟩|⟨_,f,f'⟩;·cases f
   ·exact s.inj j k ds es l e f (e'▸h3) (f'▸h4)
end
noncomputable def PGF(X:Cx)(tg:Expr)(asg:D->Ev->R Ev):Prop:=PG X tg (λv σ H Q=>∃G₀ H₀ G ρ d ρ',StR X.K G₀ H₀ G H σ ρ/\Rep X.K G v d/\asg d ρ=.ok ρ'/\∀σ',StR X.K G₀ H₀ G H σ' ρ'->Q σ' H)
section
variable{pos:Pos}
def ur(i:Nat):D->Ev->R Ev:=λd ρ=>.ok (ρ.set i (some (.val d)))
def fF(i:Nat){x:Str}(hN:X.N.Nodup)(hi:X.N[i]?=some x:=by rfl)(hx:Loc X.env.scope x:=by first|exact Or.inl rfl|exact Or.inr rfl)(hf:X.fn x=true\/X.env.scope.names.lookup x=some .local:=by first|exact .inl rfl|exact .inr rfl):PGF X (.Name x pos) (ur i):=by
 intro pins s σ H v u Q I r h;obtain⟨G₀,H₀,G,ρ,d,ρ',st,rd,e,q⟩:=h;cases e;exact mf hN hi hx hf pins s σ H v u Q I r (q _ (st.set rd i))
end
noncomputable def pT(K:PySem.W.Frag)(G H:Hp)(Q:VK):List D->Prop:=λds=>∀l vs G' H',Up G H G' H'->H' l=none->Reps K G' vs ds->Q (.ref l) (upd H' l (.lst vs))
noncomputable def tL(X:Cx)(g:Ev->R (List D)):TE:=λσ H Q=>∃G ρ,StE X.K G H σ ρ/\(g ρ).post (pT X.K G H Q) (Exx X σ G H)
def PFL(X:Cx)(e:Expr)(g:Ev->R (List D)):Prop:=PE X e (tL X g)
def yk{e:Expr}{g:Ev->R (List D)}(h:PFL X e g):PF X e (λρ=>g ρ>>=λds=>.ok (.lst false ds)):=by
 intro pins s σ H Q I hq;refine h pins s σ H Q I ?_;obtain⟨G,ρ,st,hq⟩:=hq
 try dsimp only at hq
 refine⟨G,ρ,st,?_⟩;cases e:g ρ with
 |ok ds=>rw[e]at hq;intro l vs G' H' u hl r;exact hq _ _ _ (u.trans (.new u.sub hl)) (.lst aV (r.mono (.into (u.sub.free hl))))
 |ex C=>rw[e]at hq;exact hq
 |no=>rw[e]at hq;exact hq
def Ih{pos:Pos}(h:PFA X es gl):PFL X (.List es pos) (λρ=>gl ρ>>=λds=>if ds.length<=sizeLine then .ok ds else .no):=by
 intro pins s σ H Q I hq;refine CK h pins s σ H Q I ?_;obtain⟨G,ρ,st,hq⟩:=hq
 try dsimp only at hq
 refine⟨G,ρ,st,?_⟩;cases e:gl ρ with
 |ok ds=>
  rw[e]at hq;intro vs G' H' u r;simp only[R.ok_bind]at hq;split at hq;·rename_i hz;exact⟨by rw[r.length];exact hz,λp hp=>hq p vs G' H' u hp r⟩
  ·exact hq.elim
 |ex C=>rw[e]at hq;exact hq
 |no=>rw[e]at hq;exact hq
noncomputable def nB(env:Env):List (Str×NameKind)->List (Str×Addr)->List (Str×Addr)
 | [],cs=>cs
 | (n,k)::r,cs=>nB env r (if (k==.free)=true then (match env.cells.lookup n with|some c=>(n,c)::cs|none=>cs)else cs)
theorem yp{env:Env}{F:Str×NameKind->List (Str×Addr)->Sem (ForInStep (List (Str×Addr)))}(hF:∀n k r,(k=NameKind.free->∃c,env.cells.lookup n=some c)->F (n,k) r=pure (ForInStep.yield (if (k==.free)=true then (match env.cells.lookup n with|some c=>(n,c)::r|none=>r)else r))):
  ∀(l:List (Str×NameKind))(cs:List (Str×Addr)),(∀x∈l,x.2=.free->∃c,env.cells.lookup x.1=some c)->forIn l cs F=pure (nB env l cs)
 | [],cs,_=>rfl
 | (n,k)::l,cs,h=>by rw[Zm,hF n k cs (h (n,k) uS),pure_bind];exact yp hF l _ λy hy=>h y (v9 _ hy)
def eW{env:Env}(h:∀x∈scope.names,x.2=.free->∃c,env.cells.lookup x.1=some c):closureFor scope env=pure (nB env scope.names []):=by
 simp only[closureFor];rw[yp (env:=env) (λn k r hk=>?_) scope.names [] h];·rfl
 ·by_cases hf:(k==NameKind.free)=true;·obtain⟨c,hc⟩:=hk (by simpa using hf);simp only[hf,wO,cellOf,hc,pure_bind]
  ·simp only[hf,sT];rfl
theorem yu{env:Env}:∀(l:List (Str×NameKind))(cs:List (Str×Addr)),(∀x c,cs.lookup x=some c->env.cells.lookup x=some c)->∀x c,(nB env l cs).lookup x=some c->env.cells.lookup x=some c
 | [],cs,h,x,c,e=>h x c e
 | (n,k)::l,cs,h,x,c,e=>by
  unfold nB at e;refine yu l _ (λy d ed=>?_) x c e;split at ed
  ·split at ed
   ·rename_i c' hc';rw[wR]at ed;split at ed;·rename_i q;rw[l9 q];rw[<- xz ed];exact hc'
    ·exact h y d ed
   ·exact h y d ed
  ·exact h y d ed
theorem sL{env:Env}:∀(l:List (Str×NameKind))(cs:List (Str×Addr))(x:Str),((∃c,cs.lookup x=some c)\/((x,NameKind.free)∈l/\∃c,env.cells.lookup x=some c))->∃c,(nB env l cs).lookup x=some c
 | [],cs,x,h=>by
  rcases h with h|⟨h,_⟩;·exact h
  ·cases h
 | (n,k)::l,cs,x,h=>by
  unfold nB;refine sL l _ x ?_;rcases h with⟨c,h⟩|⟨h,c,hc⟩
  ·left;split
   ·split
    ·rename_i c' _;rw[wR];split;·exact⟨_,rfl⟩
     ·exact⟨c,h⟩
    ·exact⟨c,h⟩
   ·exact⟨c,h⟩
  ·rcases y9.mp h with e|h;·cases e;left;rw[if_pos (by rfl),hc];exact⟨c,by simp[wR]⟩
   ·exact .inr ⟨h,c,hc⟩
noncomputable def aP(X:Cx)(N':List Str)(scope:Scope)(C:Addr)(s₂:Shared)(H₂:Hp)(fp:List Addr):Cx:=
 { X with N:=N',s₀:=s₂,H₀:=H₂,env:=compEnvC scope (nB X.env scope.names []) C X.env,outer:=X.stack,stack:=X.stack,ex:=fp,fn:=λ_=>false,pn:=[],xe:=λ_ _=>False }
def fA{α:Type}:R α->R α
 |.ok a=>.ok a
 |_=>.no
noncomputable def lR(ix:List Nat)(ρ:Ev):Ev:=none::ix.map λ(i:Nat)=>match ρ[i]? with
 |some (some (.val d))=>some (.val d)
 |_=>none
noncomputable def fu(n:Nat)(ix:List Nat)(ρ:Ev):Ev:=List.replicate n none++ix.map λ(i:Nat)=>match ρ[i]? with
 |some (some (.val d))=>some (.val d)
 |_=>none
noncomputable def jk(asg:D->Ev->R Ev)(gt:Ev->R Bool)(ge:Ev->R D):List D->Ev->R (List D)
 | [],_=>.ok []
 |d::ds,ρ=>fA (asg d ρ)>>=λρ1=>fA (gt ρ1)>>=λk=>if k=true then fA (ge ρ1)>>=λx=>jk asg gt ge ds ρ1>>=λxs=>.ok (x::xs)else jk asg gt ge ds ρ1
def kA(gt:Ev->R Bool)(ge:Ev->R D):List D->Ev->R (List D):=jk (ur 0) gt ge
theorem mv{asg:D->Ev->R Ev}{gt:Ev->R Bool}{ge:Ev->R D}:∀(ds:List D)(ρ:Ev),(∃xs,jk asg gt ge ds ρ=.ok xs)\/jk asg gt ge ds ρ=.no
 | [],ρ=>.inl ⟨[],rfl⟩
 |d::ds,ρ=>by
  unfold jk;cases asg d ρ with
  |ok ρ1=>
   simp only[fA,R.ok_bind];cases gt ρ1 with
   |ok k=>
    simp only[fA,R.ok_bind];cases k with
    |true=>
     simp only[wO];cases ge ρ1 with
     |ok x=>
      simp only[fA,R.ok_bind];rcases mv (asg:=asg) ds ρ1 with⟨xs,e⟩|e;·rw[e];exact .inl ⟨_,rfl⟩
      ·rw[e];exact .inr rfl
     |ex C=>exact .inr rfl
     |no=>exact .inr rfl
    |false=>simp only[j8,sT];exact mv ds _
   |ex C=>exact .inr rfl
   |no=>exact .inr rfl
  |ex C=>exact .inr rfl
  |no=>exact .inr rfl
noncomputable def dD(gi:Ev->R (List D))(ix:List Nat)(gt:Ev->R Bool)(ge:Ev->R D):Ev->R (List D):=λρ=>gi ρ>>=λitems=>kA gt ge items (lR ix ρ)>>=λds=>if ds.length<=sizeLine then .ok ds else .no
noncomputable def km(n:Nat)(asg:D->Ev->R Ev)(gi:Ev->R (List D))(ix:List Nat)(gt:Ev->R Bool)(ge:Ev->R D):Ev->R (List D):=λρ=>gi ρ>>=λitems=>jk asg gt ge items (fu n ix ρ)>>=λds=>if ds.length<=sizeLine then .ok ds else .no
noncomputable def PTs(X:Cx)(ifs:List Expr)(gt:Ev->R Bool):Prop:=∀(pins:List (Addr×Obj))(s:Shared)(σ:St)(H:Hp)(Q:Bool->Hp->Prop),Inv X pins σ H s->tTF X gt σ H Q->
 wpAny (model X.prog X.w) X.A (forIn ifs true λc r=>if r=true then do let ok <- isTrue c X.env (eval c X.env);pure (ForInStep.yield ok)else pure (ForInStep.yield r)) (TP X pins σ Q) X.xe s
def bI:PTs X [] (λ_=>.ok true):=by intro pins s σ H Q I h;obtain⟨G,ρ,st,h⟩:=h;exact zh ⟨H,I,h true G H (.refl st.sub) rfl⟩
def GG{c:Expr}{gt:Ev->R Bool}(h:PB X c gt):PTs X [c] gt:=λpins s σ H Q I q=>wpAny_tests_one (h pins s σ H Q I q)
def Un.sameBut{fs ex:List Addr}{h1 h2:Heap}(u:Un fs ex H H' h h1)(k:∀b o,b≠C->h1.get? b=some o->h2.get? b=some o)(hC:h.objs.size<=C):Un fs ex H H' h h2:=by have ne:∀b o,h.get? b=some o->b≠C:=λb o e=>xD (v8 (zy e) hC);exact⟨λb o e n hb hx=>k b o (ne b o e) (u.keep b o e n hb hx),λb o e n hb hx=>let⟨sl,q⟩:=u.slot b o e n hb hx;⟨sl,k b _ (ne b o e) q⟩,u.free,λb o e hx=>let⟨o',q⟩:=u.there b o e hx;⟨o',k b o' (ne b o e) q⟩,u.tups,u.frzs,u.tbls⟩
def HOk.sameBut{w:World}(x:HOk P w H h)(k:∀b o,b≠C->h.get? b=some o->h'.get? b=some o)(hC:H C=none):HOk P w H h':=λa o e=>by
 refine(x a o e).stay (λb u hb q=>k b u ?_ q) (λ_ z=>z) (λ_ _ z=>z);rcases hb with rfl|hb;·exact aJ e hC
 ·exact aJ hb hC
section
variable{elt:Expr}{x:Str}{px pos:Pos}{gt:Ev->R Bool}
structure CompOk(X:Cx)(scope:Scope)(x:Str)(N':List Str)(ix:List Nat):Prop where
 kind:scope.kind=.function
 cell:∀y∈scope.names,y.2≠.cell
 names:∀y∈scope.names,y.2=.local->scope.names.lookup y.1=some .local
 loc:scope.names.lookup x=some .local
 fr:∀y∈scope.names,y.2=.free->X.env.kindOf y.1=some .cell
 nd:N'.Nodup
 hd:N'[0]?=some x
 tl:N'.tail=ix.map λ(i:Nat)=>X.N.getD i Str.empty
 lt:∀i∈ix,i<X.N.length
 fre:∀y∈N'.tail,scope.names.lookup y=some .free/\(y,NameKind.free)∈scope.names
structure CompOkT(X:Cx)(scope:Scope)(n:Nat)(N':List Str)(ix:List Nat):Prop where
 kind:scope.kind=.function
 cell:∀y∈scope.names,y.2≠.cell
 names:∀y∈scope.names,y.2=.local->scope.names.lookup y.1=some .local
 fr:∀y∈scope.names,y.2=.free->X.env.kindOf y.1=some .cell
 le:n<=N'.length
 tl:N'.drop n=ix.map λ(i:Nat)=>X.N.getD i Str.empty
 lt:∀i∈ix,i<X.N.length
 fre:∀y∈N'.drop n,scope.names.lookup y=some .free/\(y,NameKind.free)∈scope.names
def CompOk.t(ok:CompOk X scope x N' ix):CompOkT X scope 1 N' ix:=
 ⟨ok.kind,ok.cell,ok.names,ok.fr,(u6.mp ok.hd).1,List.drop_one▸ok.tl,ok.lt,List.drop_one▸ok.fre⟩
theorem mJ{env:Env}(hk:env.scope.kind=.function):∀{names:List (Str×NameKind)}{x:Str},names.lookup x=some .free->env.kindOf x=some .cell->
  (names.map λ(n,k)=>if (k==NameKind.free && env.scope.kind==.function && env.kindOf n==some .cell)then (n,NameKind.cell)else (n,k)).lookup x=some .cell
 | [],_,h,_=>by simp at h
 | (n,k)::r,x,h,hc=>by
  have ih:=@mJ env hk r x;show List.lookup x ((if (k==NameKind.free && env.scope.kind==.function && env.kindOf n==some .cell)=true then (n,NameKind.cell)else (n,k))::_)=_;cases hx:x==n with
  |true=>simp only[wR,hx]at h;cases h;have e:=l9 hx;subst e;rw[if_pos (by rw[hk,hc];rfl)];simp[wR]
  |false=>
   simp only[wR,hx]at h;by_cases hc':(k==NameKind.free && env.scope.kind==.function && env.kindOf n==some .cell)=true;·rw[if_pos hc'];simp only[wR,hx];exact ih h hc
   ·rw[if_neg hc'];simp only[wR,hx];exact ih h hc
def BV(h:(fu n ix ρ)[j]?=some (some (.val d))):∃k i,j=k+n/\ix[k]?=some i/\ρ[i]?=some (some (.val d)):=by
 unfold fu at h;by_cases hj:j<n;·rw[o6 (by simpa using hj),l8,if_pos hj]at h;cases h
 ·rw[n9 (by simpa using qp.1 hj),qP,ue]at h;cases e:ix[j - n]? with
  |none=>rw[e]at h;cases h
  |some i=>
   rw[e]at h;refine⟨j - n,i,by omega,e,?_⟩;simp only[qj,Option.some.injEq]at h;split at h;·rename_i d' e';cases h;exact e'
   ·cases h
def fX(n:Nat)(ix:List Nat)(σ:St):St:=List.replicate n none++ix.map λ(i:Nat)=>(σ[i]?).join
def jN:NoOwn (fu n ix ρ):=λj x h=>by
 unfold fu at h;by_cases hj:j<n;·rw[o6 (by simpa using hj),l8,if_pos hj]at h;cases h
 ·rw[n9 (by simpa using qp.1 hj),qP,ue]at h;cases e:ix[j - n]? with
  |none=>rw[e]at h;cases h
  |some i=>
   rw[e]at h;simp only[qj,Option.some.injEq]at h;split at h;·cases h;exact⟨_,rfl⟩
   ·cases h
def nO{K:PySem.W.Frag}(st:StE K G H σ ρ)(n:Nat)(ix:List Nat):StE K G H (fX n ix σ) (fu n ix ρ):=by refine⟨st.sub,by simp[fu,fX],λj d h=>?_,λj m C p fs h=>absurd h (NoOwn.obj jN j m C p fs)⟩;obtain⟨k,i,rfl,e1,e2⟩:=BV h;obtain⟨v,h1,h2⟩:=st.val i d e2;refine⟨v,?_,h2⟩;unfold fX;rw[n9 (by simp),qP,Nat.add_sub_cancel,ue,e1];simp[h1]
def sH{h₁:Heap}{tk:Nat}{m:Str->Option Value}(ok:CompOkT X scope n N' ix)(hcalm:X.calm=true)(I:Inv X pins σ H s)(hf:∀b∈fp,qJ X pins H b)(hfl:∀b∈fp,b<s.heap.objs.size)(hC:s.heap.objs.size<=C)(hn:h₁.Ns C m)(old:∀b o,s.heap.get? b=some o->h₁.get? b=some o)(un:Un (frs X.stack) fp H H' s.heap h₁)(hok:HOk X.prog X.w H' h₁)(hfC:H' C=none)(hfc:∀c:Addr,c<s.heap.objs.size->H c=none->H' c=none):
  Inv (aP X N' scope C s H fp) [] (fX n ix σ) H' { s with heap:=h₁,toks:=tk }:=by
 have cl:∀y c,(nB X.env scope.names []).lookup y=some c->X.env.cells.lookup y=some c:=yu scope.names [] (λy c h=>by simp at h);have nlt:N'.length=n+ix.length:=by have h1:=t6 List.length ok.tl;rw[k9,uc]at h1;have:=ok.le;omega
 refine⟨⟨I.ok.mod,by show(relabel scope X.env).kind=_;exact ok.kind,I.ok.glob,I.ok.blt,hC,?_,?_,?_,I.ok.hd,I.ok.frames,.inl rfl,?_,I.bs,xS I.ok.bsz I.sz,?_,?_,I.stack,I.stkFree,I.ok.tabs.un I.base⟩,rfl,I.bare,un,?_,?_,hfC,?_,?_,hok,?_⟩;·intro y z c h1 h2;exact I.ok.inj y z c (cl y c h1) (cl z c h2)
 ·intro y hy;have h1:(y,NameKind.free)∈scope.names:=by
   have hy':(relabel scope X.env).names.lookup y=some .cell\/(relabel scope X.env).names.lookup y=some .free:=hy;have mem:∀k,(relabel scope X.env).names.lookup y=some k->(k=.cell\/k=.free)->(y,NameKind.free)∈scope.names:=λk e hk=>by
    have hm:=l7 e;obtain⟨⟨n,k'⟩,hm1,hm2⟩:=o9.mp hm;dsimp only at hm2;split at hm2
    ·rename_i hc;cases hm2;have:k'=.free:=by have:=(p6 _ _▸(p6 _ _▸hc).1).1;simpa using this
     rw[<- this];exact hm1
    ·cases hm2;rcases hk with rfl|rfl;·exact absurd rfl (ok.cell _ hm1)
     ·exact hm1
   rcases hy' with h|h;·exact mem _ h (.inl rfl)
   ·exact mem _ h (.inr rfl)
  have hc:=I.ok.has y (.inl (ok.fr _ h1 rfl));exact sL scope.names [] y (.inr ⟨h1,hc⟩)
 ·intro y c hfn;cases hfn
 ·intro b hb;obtain⟨f0,f1,f2,f3,f4,f5⟩:=hf b hb;exact⟨λz=>absurd (hfl b hb) (by rw[z];exact qp.mpr hC),λy c h=>f4 y c (cl y c h)⟩
 ·intro b o e hb;obtain⟨f0,f1,f2,f3,f4,f5⟩:=hf b hb;rcases f3 with f3|f3;·exact I.ok.noex b o e f3
  ·exact absurd (zy (I.ok.bs b o e).1) (qp.mpr f3)
 ·intro b hb hb';obtain⟨f0,f1,f2,f3,f4,f5⟩:=hf b hb;rcases y9.mp (I.stkSub b hb')with e|e;·exact f1 e
  ·exact f2 e
 ·refine⟨m,hn,λi y v h1 h2 h3=>?_⟩;have h1:N'[i]?=some y:=h1;have h2:(fX n ix σ)[i]?=some (some v):=h2;by_cases hi:i<n;·unfold fX at h2;rw[o6 (by simpa using hi),l8,if_pos hi]at h2;cases h2
  ·unfold fX at h2;rw[n9 (by simpa using qp.1 hi),qP,ue]at h2;cases e:ix[i - n]? with
   |none=>rw[e]at h2;cases h2
   |some i0=>
    rw[e]at h2;have h2':σ[i0]?=some (some v):=by
     cases q:σ[i0]? with
     |none=>rw[qj,q]at h2;cases h2
     |some z=>rw[qj,q]at h2;have:=xz h2;rw[<- this];rfl
    have ht:(N'.drop n)[i - n]?=some y:=by rw[List.getElem?_drop,Nat.add_sub_cancel' (qp.1 hi)];exact h1
    have hy:X.N[i0]?=some y:=by have ht2:=ht;rw[ok.tl,ue,e]at ht2;have hl:=ok.lt i0 (iO e);have q:=xz ht2;rw[t5 hl];rw[<- q];show some X.N[i0]=some (X.N.getD i0 Str.empty);rw[uF,t5 hl];rfl
    obtain⟨fr1,fr2⟩:=ok.fre y (iO ht);have kc:=ok.fr _ fr2 rfl;obtain⟨m0,hn0,hl⟩:=I.loc;obtain⟨u,ru,lk⟩:=hl i0 y v hy h2' (.inr (.inl kc));refine⟨u,ru,.inr ⟨.inl (mJ I.ok.kind fr1 kc),?_⟩⟩;rcases lk with⟨z,_⟩|⟨_,c,hc,hcell⟩;·rw[kc]at z;cases z
    ·obtain⟨c',hc'⟩:=sL scope.names [] y (.inr ⟨fr2,c,hc⟩);have:=cl y c' hc';rw[hc]at this;cases this;exact⟨c,hc',hcell.keeps old⟩
 ·intro y c h;obtain⟨v,q⟩:=I.cell y c (cl y c h);exact⟨v,q.keeps old⟩
 ·intro y c h;obtain⟨v,q⟩:=I.cell y c (cl y c h);exact hfc c q.lt (I.freeC y c (cl y c h))
 ·intro p hp;exact absurd (show p∈([]:List (Addr×Obj)) from hp) (by simp)
 ·show(fX n ix σ).length=N'.length;rw[nlt];simp[fX]
def rD{prog:Program}{w:World}{A:Around}{R':Result->Shared->Prop}{elt target:Expr}{pos:Pos}{it acc:Value}{env:Env}(I:Nat->Shared->Prop)(CO:∀n s,I n s->wpAny (model prog w) A (pyNext it) (λr s₁=>match r with
 |none=>R' (.ok .next) s₁
 |some v=>wpAny (model prog w) A (letOwnedTupleGo target it v) (λ_ s₁'=>wpAny (model prog w) A (assign target env v) (λ_ s₂=>
 wpAny (model prog w) A (forIn ifs true λc r=>if r=true then do let ok <- isTrue c env (eval c env);pure (ForInStep.yield ok)else pure (ForInStep.yield r)) (λok s₃=>
 if ok=true then wpAny (model prog w) A (eval elt env) (λx s₄=>
 wpAny (model prog w) A (call (.builtin "list.append") [acc,x]) (λ_ s₅=>∃m,m<n/\I m s₅) (λ_ _=>False) s₄) (λ_ _=>False) s₃
 else ∃m,m<n/\I m s₃) (λ_ _=>False) s₂) (λ_ _=>False) s₁') (λ_ _=>False) s₁) (λ_ _=>False) s)(n:Nat)(h:I n s):
  codeAny (model prog w) A (.compLoop (.ListComp elt [⟨target,iter,ifs,0⟩] scope pos) 0 it acc env) R' s:=by
 refine codeAny_loop rfl I (λn s hI=>?_) n h;show wpAny _ A ((compTurn (.ListComp elt [⟨target,iter,ifs,0⟩] scope pos) 0 it acc env).onRaise (λx=>do noteFrame x env;theTreesLotGoes x)) _ _ s;refine wpAny_noted ?_;rw[compTurn_list];refine z9 (l5 (z9 (yT (CO n s hI) (λr s₁ h₁=>?_) λ_ _ z=>z.elim)));cases r with
 |none=>exact zh h₁
 |some v=>
  refine z9 (yT h₁ (λ_ s₁' h₁'=>?_) λ_ _ z=>z.elim);refine z9 (yT h₁' (λ_ s₂ h₂=>z9 (yT h₂ (λok s₃ h₃=>?_) λ_ _ z=>z.elim)) λ_ _ z=>z.elim);cases ok with
  |false=>exact zh ⟨rfl,h₃⟩
  |true=>exact z9 (z9 (yT h₃ (λx s₄ h₄=>z9 (yT h₄ (λ_ s₅ h₅=>zh (zh ⟨rfl,h₅⟩)) λ_ _ z=>z.elim)) λ_ _ z=>z.elim))
def nN:∀d ρ ρ',ur i d ρ=.ok ρ'->NoOwn ρ->NoOwn ρ':=by
 intro d ρ ρ' e h j x q;have e':ρ.set i (some (.val d))=ρ':=R.ok.inj e;rw[<- e',d8]at q;split at q
 ·split at q;·cases q;exact⟨d,rfl⟩
  ·cases q
 ·exact h j x q
def kF{tn : Nat -> Heap -> Prop}{J : It}{Q : VK}{RR : Value -> Addr -> Result -> Shared -> Prop}{E : Value -> Shared -> Prop}(ok : CompOkT X scope n N' ix)(hcalm : X.calm = true)(hg : ∀C s₂ H₂ fp, PGF (aP X N' scope C s₂ H₂ fp) tgt asg)(hown : ∀d ρ ρ', asg d ρ = .ok ρ' -> (NoOwn ρ) -> NoOwn ρ')(he : ∀C s₂ H₂ fp, PF (aP X N' scope C s₂ H₂ fp) elt ge)(ht : ∀C s₂ H₂ fp, PTs (aP X N' scope C s₂ H₂ fp) ifs gt)(I : Inv X pins σ H s)(T : Turn X.prog X.w X.K tgt J fp it tn)(st0 : tn 0 s.heap)(hf : ∀b ∈ fp, qJ X pins H b)(st : StE X.K G H σ ρ)(hi : ItOk X.K G J items)(h : (jk asg gt ge items (fu n ix ρ) >>= λds => if ds.length <= sizeLine then R.ok ds else .no).post (pT X.K G H Q) (Exx X σ G H))(hR : ∀(Dd C : Addr)(s' : Shared)(m : Str -> Option Value)(vs : List V)(G' H' : Hp), Up G H G' H' -> H' Dd = none -> C≠Dd -> (∀ds, Reps X.K G' vs ds -> True) -> Q (.ref Dd) (upd H' Dd (.lst vs)) -> s'.heap.Ns C m -> s'.os = s.os -> AllBare s'.gens -> H' C = none -> s.heap.objs.size <= C ->
 Un (frs X.stack) fp H (upd H' Dd (.lst vs)) s.heap s'.heap -> HOk X.prog X.w (upd H' Dd (.lst vs)) s'.heap -> RR (.ref Dd) C (.ok .next) s'):
    wpAny (model X.prog X.w) X.A (newList []) (λacc s₃ => wpAny (model X.prog X.w) X.A (newFunctionEnv scope X.env.globals (nB X.env scope.names []) [] X.env.qual none .none (some X.env)) (λcenv s₄ =>codeAny (model X.prog X.w) X.A (.compStart (.ListComp elt [⟨tgt, iter, ifs, 0⟩] scope pos) 0 (.ref it) acc { cenv with scope := relabel scope X.env }) (RR acc cenv.locals) s₄) E s₃) E s := by
  have hfl : ∀b ∈ fp, b < s.heap.objs.size := λb hb => let⟨o, e, _⟩ := T.obj 0 s.heap st0 b hb; zy e;refine t9 (Zn ok.cell (by intro y hy; simp at hy) (λh₁ hns₁ hsb₁ => ?_) ok.kind);dsimp only at hns₁ hsb₁⊢;generalize hH2 : s.heap.push { cls := .type "list", dict := none, data := .seq ([] : List Value).toArray } = Hq at hns₁ hsb₁⊢;have hC : Hq.objs.size = s.heap.objs.size + 1 := by rw[<- hH2, vg]
  have hDC : s.heap.objs.size≠Hq.objs.size := by rw[hC]; exact xD (pP _)
  have hCle : s.heap.objs.size <= Hq.objs.size := by rw[hC]; exact j9 _
  have old : ∀b o, s.heap.get? b = some o -> h₁.get? b = some o := λb o e =>
    hsb₁.extBut b o (by rw[hC]; exact xD (i4 (zy e))) (zT _ (hH2▸zT _ e));have hacc : h₁.get? s.heap.objs.size = some { cls := .type "list", data := .seq ([] : List Value).toArray } := hsb₁.extBut _ _ hDC (zT _ (hH2▸xG _ rfl));have hD0 : H s.heap.objs.size = none := I.fresh;have hC0 : H Hq.objs.size = none := I.hok.fresh hCle;have st0' : tn 0 h₁ := T.keep 0 _ _ st0 λb hb o e => old b o e;have I0 : ∀tk, Inv (aP X N' scope Hq.objs.size s H fp) [] (fX n ix σ) (upd H s.heap.objs.size (.lst [])) { s with heap := h₁, toks := tk } := λtk => by
    refine sH ok hcalm I hf hfl hCle hns₁ old (Un.laid old (zE _) hD0) (I.hok.laid old (zE _) ⟨qd _, [], 0, .nil, hacc⟩) (by rw[aF hDC.symm]; exact hC0) λc hc e => ?_;rw[aF (xD hc)]; exact e
  have loop : ∀tk, codeAny (model X.prog X.w) X.A (.compLoop (.ListComp elt [⟨tgt, iter, ifs, 0⟩] scope pos) 0 (.ref it) (.ref s.heap.objs.size) (compEnvC scope (nB X.env scope.names []) Hq.objs.size X.env))
      (RR (.ref s.heap.objs.size) Hq.objs.size) { s with heap := h₁, toks := tk } := λtk => by
    have fpk : ∀{pins' : List (Addr × Obj)}{σ' : St}{H' : Hp}{s' : Shared}, Inv (aP X N' scope Hq.objs.size s H fp) pins' σ' H' s' -> pins' = [] -> (∀b ∈ fp, H' b = none) -> ∀b ∈ fp, qJ (aP X N' scope Hq.objs.size s H fp) pins' H' b := λI' e hn b hb =>⟨hn b hb, (I'.ok.exf b hb).1, I'.ok.exfs b hb, .inl hb, (I'.ok.exf b hb).2, by subst e; intro p hp; exact absurd (show p ∈ ([] : List (Addr × Obj)) from hp) (by simp)⟩
    refine rD (λnn s' => ∃(i : Nat)(σ' : St)(G' H' : Hp)(ρ' : Ev)(vs : List V)(ys : List D), nn = items.length - i /\ i <= items.length /\ Inv (aP X N' scope Hq.objs.size s H fp) [] σ' H' s' /\ tn i s'.heap /\ (∀b ∈ fp, H' b = none) /\
      H' s.heap.objs.size = some (.lst vs) /\ G' s.heap.objs.size = none /\ Up G H G' H' /\ StE X.K G' H' σ' ρ' /\ (NoOwn ρ') /\ Reps X.K G' vs ys /\
      (jk asg gt ge (items.drop i) ρ' >>= λzs => if (ys ++ zs).length <= sizeLine then R.ok (ys ++ zs)else .no).post (pT X.K G H Q) (Exx X σ G H)) ?_ items.length
      ⟨0, fX n ix σ, G, upd H s.heap.objs.size (.lst []), fu n ix ρ, [], [], by simp, qd _, I0 tk, st0', λb hb => by rw[aF (xD (hfl b hb))]; exact(hf b hb).1, aV, st.sub.free hD0,
        ⟨λa o e => by rw[aF (aJ e (st.sub.free hD0))]; exact st.sub a o e, .refl _, .into hD0, λ_ _ e => .inl e⟩,
        ⟨λa o e => by rw[aF (aJ e (st.sub.free hD0))]; exact st.sub a o e, (nO st n ix).len, (nO st n ix).val, λj m C p fs h => absurd h (NoOwn.obj jN j m C p fs)⟩, jN, .nil, by simpa using h⟩;rintro nn s' ⟨i, σ', G', H', ρ', vs, ys, rfl, hil, I', tn', fr', hD', gD', up', st', no', rp', h'⟩;have hIt := hi i G' H' up'.gg st'.sub;by_cases hlt : i < items.length
    ·
      have hd : items.drop i = items[i] :: items.drop (i + 1) := i5 hlt;rw[hd]at h';obtain⟨go, yl⟩ := hIt.1 items[i] (by simp[hlt]);refine yT (T.item (aP X N' scope Hq.objs.size s H fp) rfl rfl rfl hcalm i [] s' σ' H' (λ_ _ => False) I' (fpk I' rfl fr') tn' go) (λr s1 ⟨u, hr, h1⟩ => ?_) λ_ _ z => z;subst hr;refine yT h1 (λ_ s2 ⟨x2, H2, I2, r2, y2, tn2, fr2⟩ => ?_) λ_ _ z => z;obtain⟨G2, up2, rep2⟩ := yl x2 H2 y2;have I2p := I2.pinned (fpk I2 rfl fr2) (T.obj _ _ tn2);have st2 : StE X.K G2 H2 σ' ρ' := st'.up up2;have sr2 : StR X.K G2 H2 G2 H2 σ' ρ' := ⟨st2, up2.sub, .refl up2.sub, λj ds e => absurd e (no'.own j ds), λj k ds es l e => absurd e (no'.own j ds), no'.ob⟩
      have ea : ∃ρ1, asg items[i] ρ' = .ok ρ1 := by
        unfold jk at h';cases q : asg items[i] ρ' with
        |ok k => exact⟨k, rfl⟩
        |_ => rw[q]at h'; exact h'.elim
      obtain⟨ρ1, ea⟩ := ea;unfold jk at h';rw[ea]at h';simp only[fA, R.ok_bind]at h';refine yT (hg Hq.objs.size s H fp _ s2 σ' H2 x2 u (λσ3 H3 => H3 = H2 /\ StR X.K G2 H2 G2 H2 σ3 ρ1) I2p r2
        ⟨G2, H2, G2, ρ', items[i], _, sr2, rep2, ea, λσ3 q => ⟨rfl, q⟩⟩) (λ_ s3 ⟨σ3, H3, I3, e3, sr3⟩ => ?_) λ_ _ z => z;subst e3;have no3 := hown _ _ _ ea no';have hD2 : H3 s.heap.objs.size = some (.lst vs) := up2.hh _ _ hD';have gD2 : G2 s.heap.objs.size = none := by
        cases q : G2 s.heap.objs.size with
        |none => rfl
        |some o =>
          rcases up2.fr _ _ q with z|z;· rw[gD']at z; cases z
          · rw[hD']at z; cases z
      have ek : ∃k, gt ρ1 = .ok k := by
        cases q : gt ρ1 with
        |ok k => exact⟨k, rfl⟩
        |_ => rw[q]at h'; exact h'.elim
      obtain⟨k, ek⟩ := ek;rw[ek]at h';simp only[fA, R.ok_bind]at h';refine yT (ht Hq.objs.size s H fp _ s3 σ3 H3 (λb H4 => b = k /\ ∃G4, Up G2 H3 G4 H4) I3 ⟨G2, _, sr3.e, by rw[ek]; exact λb G4 H4 u4 e4 => ⟨e4, G4, u4⟩⟩) (λb s4 ⟨H4, I4, eb, G4, up4⟩ => ?_) λ_ _ z => z;subst eb;have next : ∀{H7 : Hp}{s7 : Shared}{G7 : Hp}{vs7 : List V}{ys7 : List D}, Inv (aP X N' scope Hq.objs.size s H fp) ([] ++ gH fp s2.heap) σ3 H7 s7 -> H7 s.heap.objs.size = some (.lst vs7) -> G7 s.heap.objs.size = none -> Up G H G7 H7 -> StE X.K G7 H7 σ3 ρ1 -> Reps X.K G7 vs7 ys7 ->
          (jk asg gt ge (items.drop (i + 1)) ρ1 >>= λzs => if (ys7 ++ zs).length <= sizeLine then R.ok (ys7 ++ zs)else .no).post (pT X.K G H Q) (Exx X σ G H) ->
          ∃m, m < items.length - i /\ ∃(i : Nat)(σ' : St)(G' H' : Hp)(ρ' : Ev)(vs : List V)(ys : List D), m = items.length - i /\ i <= items.length /\ Inv (aP X N' scope Hq.objs.size s H fp) [] σ' H' s7 /\ tn i s7.heap /\ (∀b ∈ fp, H' b = none) /\
            H' s.heap.objs.size = some (.lst vs) /\ G' s.heap.objs.size = none /\ Up G H G' H' /\ StE X.K G' H' σ' ρ' /\ (NoOwn ρ') /\ Reps X.K G' vs ys /\
            (jk asg gt ge (items.drop i) ρ' >>= λzs => if (ys ++ zs).length <= sizeLine then R.ok (ys ++ zs)else .no).post (pT X.K G H Q) (Exx X σ G H) := λ{H7 s7 G7 vs7 ys7} I7 hD7 gD7 up7 st7 rp7 h7 => by
        have pin : ∀b ∈ fp, ∀o, s2.heap.get? b = some o -> s7.heap.get? b = some o /\ H7 b = none := λb hb o e => by have := I7.pin (b, o) (q9 _ (q9 _ (fy hb e)));exact⟨this.1, this.2.1⟩
        refine⟨items.length - (i + 1), by omega, i + 1, σ3, G7, H7, _, vs7, ys7, rfl, hlt, I7.unpinned, T.keep _ _ _ tn2 λb hb o e => (pin b hb o e).1, λb hb => ?_, hD7, gD7, up7, st7, no3, rp7, h7⟩;obtain⟨o, e, _⟩ := T.obj _ _ tn2 b hb;exact(pin b hb o e).2
      have hD4 : H4 s.heap.objs.size = some (.lst vs) := up4.hh _ _ hD2;have gD4 : G4 s.heap.objs.size = none := by
        cases q : G4 s.heap.objs.size with
        |none => rfl
        |some o =>
          rcases up4.fr _ _ q with z|z;· rw[gD2]at z; cases z
          · rw[hD2]at z; cases z
      cases b with
      |false =>simp only[j8, sT]at h'⊢;exact next I4 hD4 gD4 ((up'.trans up2).trans up4) (sr3.e.up up4) ((rp'.mono up2.gg).mono up4.gg) h'
      |true =>
        simp only[wO]at h'⊢;have ex : ∃y, ge ρ1 = .ok y := by
          cases q : ge ρ1 with
          |ok y => exact⟨y, rfl⟩
          |_ => rw[q]at h'; exact h'.elim
        obtain⟨y, ey⟩ := ex;rw[ey]at h';simp only[fA, R.ok_bind]at h';refine yT (he Hq.objs.size s H fp _ s4 σ3 H4 (λv H5 => ∃G5, Up G4 H4 G5 H5 /\ Rep X.K G5 v y) I4 ⟨G4, _, sr3.e.up up4, by rw[ey]; exact λv G5 H5 u5 r5 => ⟨G5, u5, r5⟩⟩) (λu5 s5 ⟨v5, H5, I5, r5, G5, up5, rep5⟩ => ?_) λ_ _ z => z;have hD5 : H5 s.heap.objs.size = some (.lst vs) := up5.hh _ _ hD4;have gD5 : G5 s.heap.objs.size = none := by
          cases q : G5 s.heap.objs.size with
          |none => rfl
          |some o =>
            rcases up5.fr _ _ q with z|z;· rw[gD4]at z; cases z
            · rw[hD4]at z; cases z
        have ups := ((up'.trans up2).trans up4).trans up5;rcases mv (asg := asg) (gt := gt) (ge := ge) (items.drop (i + 1)) ρ1 with⟨zs, ez⟩|ez
        · rw[ez]at h';simp only[R.ok_bind]at h';have hz : (ys ++ y :: zs).length <= sizeLine := by
            by_cases hz : (ys ++ y :: zs).length <= sizeLine;· exact hz
            · rw[if_neg hz]at h'; exact h'.elim
          have hvl : vs.length < sizeLine := by rw[rp'.length];rw[sg, wV]at hz;omega
          refine yT (kQ (X := aP X N' scope Hq.objs.size s H fp) _ s5 σ3 H5 (.ref s.heap.objs.size) [v5] (.ref s.heap.objs.size) [u5] (λ_ H6 => H6 = upd H5 s.heap.objs.size (.lst (vs ++ [v5]))) I5 rfl (.cons r5 .nil)
            ⟨_, vs, v5, rfl, rfl, hD5, hvl, rfl⟩) (λ_ s6 ⟨_, H6, I6, _, e6⟩ => ?_) λ_ _ z => z;subst e6;have sub6 : Same G5 (upd H5 s.heap.objs.size (.lst (vs ++ [v5]))) := λa o e => by rw[aF (aJ e gD5)]; exact up5.sub a o e
          refine next I6 aV gD5 ⟨sub6, ups.gg, λa o e => ?_, ups.fr⟩ ?_ (ys7 := ys ++ [y]) ((((rp'.mono up2.gg).mono up4.gg).mono up5.gg).append (.cons rep5 .nil)) ?_
          · rw[aF (aJ e hD0)]; exact ups.hh a o e
          · exact⟨sub6, ((sr3.e.up up4).up up5).len, ((sr3.e.up up4).up up5).val, λj m C p fs h => absurd h (no3.obj j m C p fs)⟩
          · rw[ez];simp only[R.ok_bind, j4, List.singleton_append];exact h'
        · rw[ez]at h'; exact h'.elim
    ·
      have hie : i = items.length := by omega
      subst hie;rw[d9]at h';unfold jk at h';simp only[R.ok_bind, rR]at h';refine yT (T.done (aP X N' scope Hq.objs.size s H fp) rfl rfl rfl hcalm items.length [] s' σ' H' (λ_ _ => False) I' (fpk I' rfl fr') tn' (hIt.2 (zE _))) (λr s1 ⟨hr, I1⟩ => ?_) λ_ _ z => z;subst hr;have hz : ys.length <= sizeLine := by
        by_cases hz : ys.length <= sizeLine;· exact hz
        · rw[if_neg hz]at h'; exact h'.elim
      rw[if_pos hz]at h';have eH : upd (λa => if a = s.heap.objs.size then none else H' a) s.heap.objs.size (.lst vs) = H' := by
        funext a
        unfold upd;by_cases e : a = s.heap.objs.size;· subst e; rw[if_pos rfl]; exact hD'.symm
        · rw[if_neg e];show(if a = s.heap.objs.size then none else H' a) = _;rw[if_neg e]
      have hn : (λa => if a = s.heap.objs.size then none else H' a) s.heap.objs.size = none := by simp
      have upn : Up G H G' (λa => if a = s.heap.objs.size then none else H' a) := by
        refine⟨λa o e => ?_, up'.gg, λa o e => ?_, up'.fr⟩;· have : a≠s.heap.objs.size := aJ e gD';simp only[this, sT]; exact up'.sub a o e
        · have : a≠s.heap.objs.size := aJ e hD0;simp only[this, sT]; exact up'.hh a o e
      obtain⟨m1, hm1, _⟩ := I1.loc;refine hR s.heap.objs.size Hq.objs.size s1 m1 vs G' _ upn hn hDC.symm (λ_ _ => trivial) (h' _ vs G' _ upn hn rp') hm1 I1.os I1.bare ?_ hCle (by rw[eH]; exact I1.base) (by rw[eH]; exact I1.hok);have := I1.free;show(if Hq.objs.size = s.heap.objs.size then none else H' Hq.objs.size) = none;rw[if_neg hDC.symm]; exact this
  exact Zo (loop _) (T.self X.A 0 _ _ _ st0' (loop _))

def zr{tn:Nat->Heap->Prop}{J:It}{Q:VK}{RR:Value->Addr->Result->Shared->Prop}{E:Value->Shared->Prop}(ok:CompOk X scope x N' ix)(hcalm:X.calm=true)(he:∀C s₂ H₂ fp,PF (aP X N' scope C s₂ H₂ fp) elt ge)(ht:∀C s₂ H₂ fp,PTs (aP X N' scope C s₂ H₂ fp) ifs gt)(I:Inv X pins σ H s)(T:Turn X.prog X.w X.K (.Name x px) J fp it tn)(st0:tn 0 s.heap)(hf:∀b∈fp,qJ X pins H b)(st:StE X.K G H σ ρ)(hi:ItOk X.K G J items)(h:(kA gt ge items (lR ix ρ)>>=λds=>if ds.length<=sizeLine then R.ok ds else .no).post (pT X.K G H Q) (Exx X σ G H))(hR:∀(Dd C:Addr)(s':Shared)(m:Str->Option Value)(vs:List V)(G' H':Hp),Up G H G' H'->H' Dd=none->C≠Dd->(∀ds,Reps X.K G' vs ds->True)->Q (.ref Dd) (upd H' Dd (.lst vs))->s'.heap.Ns C m->s'.os=s.os->AllBare s'.gens->H' C=none->s.heap.objs.size<=C->
 Un (frs X.stack) fp H (upd H' Dd (.lst vs)) s.heap s'.heap->HOk X.prog X.w (upd H' Dd (.lst vs)) s'.heap->RR (.ref Dd) C (.ok .next) s'):
  wpAny (model X.prog X.w) X.A (newList []) (λacc s₃=>wpAny (model X.prog X.w) X.A (newFunctionEnv scope X.env.globals (nB X.env scope.names []) [] X.env.qual none .none (some X.env)) (λcenv s₄=>codeAny (model X.prog X.w) X.A (.compStart (.ListComp elt [⟨.Name x px,iter,ifs,0⟩] scope pos) 0 (.ref it) acc { cenv with scope:=relabel scope X.env }) (RR acc cenv.locals) s₄) E s₃) E s:=
 kF (n:=1) (asg:=ur 0) ok.t hcalm (λC s₂ H₂ fp=>fF (X:=aP X N' scope C s₂ H₂ fp) (pos:=px) 0 ok.nd ok.hd (.inl (p9 ok.loc)) (.inr (p9 ok.loc))) nN he ht I T st0 hf st hi h hR
def bD(ok:CompOk X scope x N' ix)(hcalm:X.calm=true)(hi:PIF X (.Name x px) iter gi)(he:∀C s₂ H₂ fp,PF (aP X N' scope C s₂ H₂ fp) elt ge)(ht:∀C s₂ H₂ fp,PTs (aP X N' scope C s₂ H₂ fp) ifs gt)(hs:∀x,foldedSetIterable iter X.env x=pure x:=by intro _;rfl):PFL X (.ListComp elt [⟨.Name x px,iter,ifs,0⟩] scope pos) (dD gi ix gt ge):=by
 intro pins s σ H Q I h;obtain⟨G,ρ,st,h⟩:=h;rw[dO];refine c7 (use:=none) rfl hs (eW λy hy hy2=>I.ok.has y.1 (.inl (ok.fr y hy hy2))) ok.kind ok.names ?_;have t:tG X (λG J items=>ItOk X.K G J items) gi σ H (λJ H1=>∃G1 items,Up G H G1 H1/\StE X.K G1 H1 σ ρ/\ItOk X.K G1 J items/\(kA gt ge items (lR ix ρ)>>=λds=>if ds.length<=sizeLine then R.ok ds else .no).post (pT X.K G H Q) (Exx X σ G H)):=by
  refine⟨G,ρ,st,?_⟩;unfold dD at h;cases e:gi ρ with
  |ok items=>rw[e]at h;exact λJ G1 H1 u r=>⟨G1,items,u,st.up u,r,h⟩
  |ex C=>rw[e]at h;exact h
  |no=>rw[e]at h;exact h
 refine thn (hi pins s σ H _ I t) λv s1 h1=>thn h1 λitv s2 h2=>?_;obtain⟨it,fp,tn,J,H2,e,I2,T,st2,f2,G2,items,u2,sE2,iok,h2⟩:=h2;subst e;have h2':(kA gt ge items (lR ix ρ)>>=λds=>if ds.length<=sizeLine then R.ok ds else .no).post (pT X.K G2 H2 Q) (Exx X σ G2 H2):=
  h2.mono (λds q l vs G' H' u hl r=>q l vs G' H' (u2.trans u) hl r) λC q=>q.up u2;refine zr (iter:=iter) (pos:=pos) (RR:=λacc C=>compPost (model X.prog X.w) X.A X.xe none (EP X pins σ Q) acc C) ok hcalm he ht I2 T st2 f2 sE2 iok h2' ?_;intro Dd C s' m vs G' H' up hd hCD _ q hm hos hb hC hCl un hok;refine⟨m,hm,λh' hs'=>?_⟩;have I3:=I2.call' (H':=upd H' Dd (.lst vs)) (s':={ s' with heap:=h' }) (ch:=fp) hos (un.sameBut (λb o hbc e=>hs'.extBut b o hbc e) hCl) (hok.sameBut (λb o hbc e=>hs'.extBut b o hbc e) (by rw[aF hCD];exact hC)) hb λb hb'=>by
  obtain⟨f0,f1,f2',f3,f4,f5⟩:=f2 b hb';exact⟨f3,f1,f4,f5⟩
 exact⟨.ref Dd,_,I3,rfl,q⟩
end
inductive O where
 |nx (ρ:Ev)|rt (d:D)|re (d:D) (ρ:Ev)|bk (ρ:Ev)|ct (ρ:Ev)|ex (C:Addr) (ρ:Ev)|no
noncomputable def FlyS(X:Cx)(G₀ H₀:Hp)(ρ:Ev)(C:Addr)(e:Value)(s':Shared):Prop:=∃σ H₁ pins s₁ a,e=.ref a/\Inv X pins σ H₁ s₁/\
 ((∃G₁ h' vs,StR X.K G₀ H₀ G₁ H₁ σ ρ/\Heap.MadeExcOf s₁.heap h' a (.ref C) vs/\s'={ s₁ with heap:=h' })\/(∃G' H',E2 X.prog X.w X.stack H₁ s₁ a C H' s'/\StR X.K G₀ H₀ G' H' σ ρ)\/
  ∃G' H' L,X.env.frame=some L/\BM X pins L H₁ s₁ a C H' s'/\StR X.K G₀ H₀ G' H' σ ρ)
def FlyS.of{H₀ G₁ H₁:Hp}{e:Value}(sr:StR X.K G₀ H₀ G₁ H₁ σ ρ)(f:OJ X σ G₁ H₁ C e s'):FlyS X G₀ H₀ ρ C e s':=by
 obtain⟨pins,s₁,a,e,I,way⟩:=f;refine⟨σ,H₁,pins,s₁,a,e,I,?_⟩;rcases way with⟨h',vs,m,z⟩|⟨G',H',fl,u⟩|⟨G',H',L,hL,fl,u⟩;·exact .inl ⟨G₁,h',vs,sr,m,z⟩
 ·exact .inr (.inl ⟨G',H',fl,sr.ups u⟩)
 ·exact .inr (.inr ⟨G',H',L,hL,fl,sr.ups u⟩)
def FlyS.map{A B A' B':Hp}{ρ':Ev}{e:Value}(f:FlyS X A B ρ C e s')(h:∀σ G H,StR X.K A B G H σ ρ->StR X.K A' B' G H σ ρ'):FlyS X A' B' ρ' C e s':=by
 obtain⟨σ,H₁,pins,s₁,a,e,I,way⟩:=f;refine⟨σ,H₁,pins,s₁,a,e,I,?_⟩;rcases way with⟨G₁,h',vs,sr,m,z⟩|⟨G',H',fl,sr⟩|⟨G',H',L,hL,fl,sr⟩;·exact .inl ⟨G₁,h',vs,h _ _ _ sr,m,z⟩
 ·exact .inr (.inl ⟨G',H',fl,h _ _ _ sr⟩)
 ·exact .inr (.inr ⟨G',H',L,hL,fl,h _ _ _ sr⟩)
noncomputable def jW(X:Cx)(G₀ H₀:Hp)(D:Ends)(o:O):Prop:=match o with
 |.nx ρ=>∀σ G H,StR X.K G₀ H₀ G H σ ρ->D.nx σ H
 |.rt d=>∀v G H,Up G₀ H₀ G H->Rep X.K G v d->D.rt v H
 |.re d ρ=>∀v σ G H,StR X.K G₀ H₀ G H σ ρ->Rep X.K G v d->D.rt v H
 |.bk ρ=>∀σ G H,StR X.K G₀ H₀ G H σ ρ->D.bk σ H
 |.ct ρ=>∀σ G H,StR X.K G₀ H₀ G H σ ρ->D.ct σ H
 |.ex C ρ=>∀e s',FlyS X G₀ H₀ ρ C e s'->X.xe e s'
 |.no=>False
def tS(X:Cx)(G₀ H₀:Hp)(g:Ev->O):TS:=λD σ H=>∃G ρ,StR X.K G₀ H₀ G H σ ρ/\jW X G₀ H₀ D (g ρ)
def PSF(X:Cx)(st:Stmt)(g:Ev->O):Prop:=∀G₀ H₀,PS X st (tS X G₀ H₀ g)
def lO(X:Cx)(st:List Stmt)(g:Ev->O):Prop:=∀G₀ H₀,PSs X st (tS X G₀ H₀ g)
def R.out{α:Type}(m:R α)(ρ:Ev)(k:α->O):O:=match m with
 |.ok a=>k a
 |.ex C=>.ex C ρ
 |.no=>.no
def O.seq(o:O)(k:Ev->O):O:=match o with
 |.nx ρ=>k ρ
 |o=>o
section
variable{fW a b:List Stmt}{e c:Expr}{g g1 g2:Ev->O}{ga:Ev->R D}{gt:Ev->R Bool}{pos:Pos}
def Exx.of{H₀:Hp}{D:Ends}(sr:StR X.K G₀ H₀ G H σ ρ)(h:jW X G₀ H₀ D (.ex C ρ)):Exx X σ G H C:=λe s' ⟨G1,H1,u,f⟩=>h e s' (.of (sr.ups u) f)
def BL:lO X [] (λρ=>.nx ρ):=λG₀ H₀ pins s σ H D I h=>by
 obtain⟨G,ρ,sr,h⟩:=h
 try dsimp only at h
 exact IL pins s σ H D I (h σ G H sr)
def yR(h1:PSF X st g1)(h2:lO X fW g2):lO X (st::fW) (λρ=>(g1 ρ).seq g2):=λG₀ H₀ pins s σ H D I h=>by
 refine ud (h1 G₀ H₀) (h2 G₀ H₀) pins s σ H D I ?_;obtain⟨G,ρ,sr,h⟩:=h
 try dsimp only at h
 refine⟨G,ρ,sr,?_⟩;cases q:g1 ρ with
 |nx ρ'=>rw[q]at h;exact λσ' G' H' sr'=>⟨G',ρ',sr',h⟩
 |rt d=>rw[q]at h;exact h
 |re d ρ'=>rw[q]at h;exact h
 |bk ρ'=>rw[q]at h;exact h
 |ct ρ'=>rw[q]at h;exact h
 |ex C ρ'=>rw[q]at h;exact h
 |no=>rw[q]at h;exact h
def DH(he:PF X e ga):PSF X (.Return (some e) pos) (λρ=>(ga ρ).out ρ .rt):=λG₀ H₀ pins s σ H D I h=>by
 refine AF he pins s σ H D I ?_;obtain⟨G,ρ,sr,h⟩:=h
 try dsimp only at h
 refine⟨G,ρ,sr.e,?_⟩;cases q:ga ρ with
 |ok d=>rw[q]at h;exact λv G' H' u r=>h v G' H' (sr.up.trans u) r
 |ex C=>rw[q]at h;exact Exx.of sr h
 |no=>rw[q]at h;exact h
def Ca(he:PF X e ga)(hs:swapsWith e none pos.line X.env=pure false:=by rfl):PSF X (.Expr e pos) (λρ=>(ga ρ).out ρ λ_=>.nx ρ):=λG₀ H₀ pins s σ H D I h=>by
 refine xN he hs pins s σ H D I ?_;obtain⟨G,ρ,sr,h⟩:=h
 try dsimp only at h
 refine⟨G,ρ,sr.e,?_⟩;cases q:ga ρ with
 |ok d=>rw[q]at h;exact λv G' H' u r=>h σ G' H' (sr.ups u)
 |ex C=>rw[q]at h;exact Exx.of sr h
 |no=>rw[q]at h;exact h
def Gv(hc:PB X c gt)(ha:lO X a g1)(hb:lO X b g2):PSF X (.If c a b pos) (λρ=>(gt ρ).out ρ λk=>if k=true then g1 ρ else g2 ρ):=λG₀ H₀ pins s σ H D I h=>by
 refine Mf hc (ha G₀ H₀) (hb G₀ H₀) pins s σ H D I ?_;obtain⟨G,ρ,sr,h⟩:=h
 try dsimp only at h
 refine⟨G,ρ,sr.e,?_⟩;cases q:gt ρ with
 |ok k=>
  rw[q]at h;intro b' G' H' u r;subst r;cases b' with
  |true=>rw[if_pos rfl];exact⟨G',ρ,sr.ups u,by simpa[R.out]using h⟩
  |false=>rw[if_neg wT];exact⟨G',ρ,sr.ups u,by simpa[R.out]using h⟩
 |ex C=>rw[q]at h;exact Exx.of sr h
 |no=>rw[q]at h;exact h
def yA(he:PF X e ga)(hg:PGF X tg asg)(hs:swapsWithSole [tg] e pos.line X.env=pure false:=by rfl)(hw:swappedStores [tg] e X.env=pure none:=by rfl)(hn:∀d ρ C,asg d ρ≠.ex C:=by intro _ _ _ z;cases z)(h1:(assignEach [tg] X.env).map (·.2)=[assign tg X.env]:=by rfl):PSF X (.Assign [tg] e pos) (λρ=>(ga ρ).out ρ λd=>(asg d ρ).out ρ .nx):=λG₀ H₀ pins s σ H D I h=>by
 refine qX he hg hs hw h1 pins s σ H D I ?_;obtain⟨G,ρ,sr,h⟩:=h
 try dsimp only at h
 refine⟨G,ρ,sr.e,?_⟩;cases q:ga ρ with
 |ok d=>
  rw[q]at h;simp only[R.out]at h;intro v G' H' u r;cases q2:asg d ρ with
  |ok ρ'=>rw[q2]at h;exact⟨G₀,H₀,G',ρ,d,ρ',sr.ups u,r,q2,λσ' sr'=>h σ' G' H' sr'⟩
  |ex C=>exact absurd q2 (hn d ρ C)
  |no=>rw[q2]at h;exact h.elim
 |ex C=>rw[q]at h;exact Exx.of sr h
 |no=>rw[q]at h;exact h
def ES(i:Nat){x:Str}(hN:X.N.Nodup)(he:PF X e ga)(hi:X.N[i]?=some x:=by rfl)(hx:Loc X.env.scope x:=by first|exact Or.inl rfl|exact Or.inr rfl)(hs:swapsWithSole [.Name x p] e pos.line X.env=pure false:=by rfl)(hw:swappedStores [.Name x p] e X.env=pure none:=by rfl)(hf:X.fn x=true\/X.env.scope.names.lookup x=some .local:=by first|exact .inl rfl|exact .inr rfl):
  PSF X (.Assign [.Name x p] e pos) (λρ=>(ga ρ).out ρ λd=>.nx (ρ.set i (some (.val d)))):=yA he (fF i hN hi hx hf) hs hw
def StR.setOwn{K:PySem.W.Frag}{H₀:Hp}(s:StR K G₀ H₀ G H σ ρ)(hl:H l=none)(r:Reps K G vs ds)(i:Nat):
  StR K G₀ H₀ G (upd H l (.lst vs)) (σ.set i (some (.ref l))) (ρ.set i (some (.own ds))):=by
 have gl:G l=none:=s.e.sub.free hl;have sub:Same G (upd H l (.lst vs)):=λa o e=>by rw[aF (aJ e gl)];exact s.e.sub a o e
 have get:∀(j:Nat) x,(ρ.set i (some (.own ds)))[j]?=some (some x)->(j=i/\x=.own ds/\i<σ.length)\/(j≠i/\ρ[j]?=some (some x)/\(σ.set i (some (.ref l)))[j]?=σ[j]?):=λj x h=>by
  by_cases e:i=j
  ·subst e;have hl:i<ρ.length:=by have:=(u6.mp h).1;simpa using this
   rw[uV hl]at h;exact .inl ⟨rfl,by injection (xz h)with q;exact q.symm,by rw[s.e.len];exact hl⟩
  ·rw[t8 e]at h;exact .inr ⟨λz=>e z.symm,h,t8 e⟩
 have ob:ObSt K H₀ G (upd H l (.lst vs)) (σ.set i (some (.ref l))) (ρ.set i (some (.own ds))):=by
  obtain⟨ow,o1,o2⟩:=s.ob;have nl:∀{a:Addr}{o:HO},H a=some o->a≠l:=λe z=>by rw[z,hl]at e;cases e
  refine⟨λa=>if a=l then some (i,0)else ow a,λj es l' h1 h2=>?_,λj m C p fs h1=>?_⟩
  ·rcases get j _ h1 with⟨rfl,e,hj⟩|⟨_,e,e'⟩;·rw[uV hj]at h2;cases h2;exact if_pos rfl
   ·rw[e']at h2;obtain⟨l2,vs2,q1,q2,_⟩:=s.own j es e;rw[h2]at q1;cases q1;exact(if_neg (nl q2)).trans (o1 j es l' e h2)
  ·rcases get j _ h1 with⟨_,e,_⟩|⟨_,e,e'⟩;·cases e
   ·rw[e'];refine⟨(o2 j m C p fs e).1,(o2 j m C p fs e).2.keep ⟨λa t o _ q=>?_,.refl _,λa t o _ _ n=>n,λa t o q1 q2=>?_,λa o _ _ n=>n⟩⟩;·rw[aF (nl q)];exact q
    ·exact(if_neg (nl q2)).trans q1
 refine⟨⟨sub,by simp[s.e.len],λj d' h=>?_,ob.rd⟩,s.sub0,⟨sub,s.up.gg,λa o e=>?_,s.up.fr⟩,λj es h=>?_,λj k es fs l' h1 h2 h3 h4=>?_,ob⟩
 ·rcases get j _ h with⟨_,e,_⟩|⟨_,e,e'⟩;·cases e
  ·rw[e'];exact s.e.val j d' e
 ·rw[aF (aJ (s.up.hh a o e) hl)];exact s.up.hh a o e
 ·rcases get j _ h with⟨rfl,e,hj⟩|⟨_,e,e'⟩;·cases e;exact⟨l,vs,uV hj,aV,gl,s.up.hh.free hl,r⟩
  ·obtain⟨l',vs',h1,h2,h3,h4,h5⟩:=s.own j es e;exact⟨l',vs',by rw[e'];exact h1,by rw[aF (aJ h2 hl)];exact h2,h3,h4,h5⟩
 ·rcases get j _ h1 with⟨rfl,e,hj⟩|⟨nj,e,e'⟩
  ·rcases get k _ h2 with⟨rfl,f,_⟩|⟨nk,f,f'⟩;·rfl
   ·obtain⟨l2,vs2,q1,q2,_⟩:=s.own k fs f;rw[uV hj]at h3;rw[f',q1]at h4;cases h3;cases h4;rw[hl]at q2;cases q2
  ·rcases get k _ h2 with⟨rfl,f,hk⟩|⟨nk,f,f'⟩;·obtain⟨l2,vs2,q1,q2,_⟩:=s.own j es e;rw[uV hk]at h4;rw[e',q1]at h3;cases h3;cases h4;rw[hl]at q2;cases q2
   ·exact s.inj j k es fs l' e f (e'▸h3) (f'▸h4)
def DK(i:Nat){x:Str}(hN:X.N.Nodup)(he:PFL X e gl)(hi:X.N[i]?=some x:=by rfl)(hx:Loc X.env.scope x:=by first|exact Or.inl rfl|exact Or.inr rfl)(hs:swapsWithSole [.Name x p] e pos.line X.env=pure false:=by rfl)(hw:swappedStores [.Name x p] e X.env=pure none:=by rfl)(hf:X.fn x=true\/X.env.scope.names.lookup x=some .local:=by first|exact .inl rfl|exact .inr rfl):
  PSF X (.Assign [.Name x p] e pos) (λρ=>(gl ρ).out ρ λds=>.nx (ρ.set i (some (.own ds)))):=λG₀ H₀ pins s σ H D I h=>by
 refine qX he (mf (i:=i) hN hi hx hf) hs hw rfl pins s σ H D I ?_;obtain⟨G,ρ,sr,h⟩:=h
 try dsimp only at h
 refine⟨G,ρ,sr.e,?_⟩;cases q:gl ρ with
 |ok ds=>rw[q]at h;exact λl vs G' H' u hl r=>h _ G' _ ((sr.ups u).setOwn hl r i)
 |ex C=>rw[q]at h;exact Exx.of sr h
 |no=>rw[q]at h;exact h
def StR.mut{K:PySem.W.Frag}{H₀:Hp}(s:StR K G₀ H₀ G H σ ρ){es:List D}(e:ρ[i]?=some (some (.own ds)))(hs:σ[i]?=some (some (.ref l)))(r:Reps K G vs es):
  StR K G₀ H₀ G (upd H l (.lst vs)) σ (ρ.set i (some (.own es))):=by
 obtain⟨l0,vs0,h1,h2,h3,h4,h5⟩:=s.own i ds e;rw[hs]at h1;cases h1;have sub:Same G (upd H l (.lst vs)):=λa o e=>by rw[aF (aJ e h3)];exact s.e.sub a o e
 have hl:i<ρ.length:=(u6.mp e).1;have get:∀(j:Nat) x,(ρ.set i (some (.own es)))[j]?=some (some x)->(j=i/\x=.own es)\/(j≠i/\ρ[j]?=some (some x)):=λj x h=>by
  by_cases e:i=j;·subst e;rw[uV hl]at h;exact .inl ⟨rfl,by injection (xz h)with q;exact q.symm⟩
  ·rw[t8 e]at h;exact .inr ⟨λz=>e z.symm,h⟩
 have ob:ObSt K H₀ G (upd H l (.lst vs)) σ (ρ.set i (some (.own es))):=by
  obtain⟨ow,o1,o2⟩:=s.ob;have ol:=o1 i ds l e hs;refine⟨ow,λj fs l' q1 q2=>?_,λj m C p fs q1=>?_⟩
  ·rcases get j _ q1 with⟨rfl,_⟩|⟨nj,f1⟩;·exact o1 j ds l' e q2
   ·exact o1 j fs l' f1 q2
  ·rcases get j _ q1 with⟨_,e'⟩|⟨nj,f1⟩;·cases e'
   ·have ne:∀a t,ow a=some (j,t)->a≠l:=λa t q z=>by rw[z,ol]at q;cases q;exact nj rfl
    refine⟨(o2 j m C p fs f1).1,(o2 j m C p fs f1).2.keep ⟨λa t o q1 q=>?_,.refl _,λa t o _ _ n=>n,λa t o q1 _=>q1,λa o _ _ n=>n⟩⟩;·rw[aF (ne a t q1)];exact q
 refine⟨⟨sub,by simp[s.e.len],λj d' h=>?_,ob.rd⟩,s.sub0,⟨sub,s.up.gg,λa o e=>?_,s.up.fr⟩,λj fs h=>?_,λj k fs gs l' q1 q2 q3 q4=>?_,ob⟩
 ·rcases get j _ h with⟨_,e⟩|⟨_,e⟩;·cases e
  ·exact s.e.val j d' e
 ·rw[aF (aJ e h4)];exact s.up.hh a o e
 ·rcases get j _ h with⟨rfl,e'⟩|⟨nj,e'⟩;·cases e';exact⟨l,vs,hs,aV,h3,h4,r⟩
  ·obtain⟨l',vs',p1,p2,p3,p4,p5⟩:=s.own j fs e';have:l'≠l:=λz=>by subst z;exact nj (s.inj j i fs ds l' e' e p1 hs)
   exact⟨l',vs',p1,by rw[aF this];exact p2,p3,p4,p5⟩
 ·rcases get j _ q1 with⟨rfl,_⟩|⟨nj,f1⟩
  ·rcases get k _ q2 with⟨rfl,_⟩|⟨nk,f2⟩;·rfl
   ·exact s.inj j k ds gs l' e f2 q3 q4
  ·rcases get k _ q2 with⟨rfl,_⟩|⟨nk,f2⟩;·exact s.inj j k fs ds l' f1 e q3 q4
   ·exact s.inj j k fs gs l' f1 f2 q3 q4
noncomputable def frz(i:Nat)(ρ:Ev):Ev:=match ρ[i]? with
 |some (some (.own ds))=>ρ.set i (some (.val (.lst false ds)))
 |_=>ρ
def StR.frzTo{K:PySem.W.Frag}{H₀:Hp}(s:StR K G₀ H₀ G H σ ρ)(i:Nat):∃G',StR K G₀ H₀ G' H σ (L2.frz i ρ)/\(G'=G\/∃l vs,G l=none/\G'=upd G l (.lst vs)):=by
 unfold L2.frz;split
 ·rename_i ds e;obtain⟨l,vs,h1,h2,h3,h4,h5⟩:=s.own i ds e;have hl:i<ρ.length:=(u6.mp e).1;have g0:G₀ l=none:=s.sub0.free h4;have into:Same G (upd G l (.lst vs)):=.into h3;have sub:Same (upd G l (.lst vs)) H:=λa o q=>by
   by_cases ea:a=l;·subst ea;rw[aV]at q;rw[<- q];exact h2
   ·rw[aF ea]at q;exact s.e.sub a o q
  have get:∀(j:Nat) x,(ρ.set i (some (.val (.lst false ds))))[j]?=some (some x)->(j=i/\x=.val (.lst false ds))\/(j≠i/\ρ[j]?=some (some x)):=λj x h=>by
   by_cases e:i=j;·subst e;rw[uV hl]at h;exact .inl ⟨rfl,by injection (xz h)with q;exact q.symm⟩
   ·rw[t8 e]at h;exact .inr ⟨λz=>e z.symm,h⟩
  have ob:ObSt K H₀ (upd G l (.lst vs)) H σ (ρ.set i (some (.val (.lst false ds)))):=by
   obtain⟨ow,o1,o2⟩:=s.ob;have ol:=o1 i ds l e h1;refine⟨ow,λj fs l' q1 q2=>?_,λj m C p fs q1=>?_⟩
   ·rcases get j _ q1 with⟨_,e'⟩|⟨nj,f1⟩;·cases e'
    ·exact o1 j fs l' f1 q2
   ·rcases get j _ q1 with⟨_,e'⟩|⟨nj,f1⟩;·cases e'
    ·have ne:∀a t,ow a=some (j,t)->a≠l:=λa t q z=>by rw[z,ol]at q;cases q;exact nj rfl
     refine⟨(o2 j m C p fs f1).1,(o2 j m C p fs f1).2.keep ⟨λa t o _ q=>q,into,λa t o q1 _ n=>?_,λa t o q1 _=>q1,λa o _ _ n=>n⟩⟩;·rw[aF (ne a t q1)];exact n
  refine⟨upd G l (.lst vs),⟨⟨sub,by simp[s.e.len],λj d' h=>?_,ob.rd⟩,s.sub0,⟨sub,s.up.gg.trans into,s.up.hh,λa o q=>?_⟩,λj fs h=>?_,λj k fs gs l' q1 q2 q3 q4=>?_,ob⟩,.inr ⟨l,vs,h3,rfl⟩⟩
  ·rcases get j _ h with⟨rfl,e'⟩|⟨_,e'⟩;·cases e';exact⟨.ref l,h1,.lst aV (h5.mono into)⟩
   ·obtain⟨v,p1,p2⟩:=s.e.val j d' e';exact⟨v,p1,p2.mono into⟩
  ·by_cases ea:a=l;·subst ea;exact .inr h4
   ·rw[aF ea]at q;exact s.up.fr a o q
  ·rcases get j _ h with⟨_,e'⟩|⟨nj,e'⟩;·cases e'
   ·obtain⟨l',vs',p1,p2,p3,p4,p5⟩:=s.own j fs e';have:l'≠l:=λz=>by subst z;exact nj (s.inj j i fs ds l' e' e p1 h1)
    exact⟨l',vs',p1,p2,by rw[aF this];exact p3,p4,p5.mono into⟩
  ·rcases get j _ q1 with⟨_,e'⟩|⟨nj,f1⟩;·cases e'
   ·rcases get k _ q2 with⟨_,e'⟩|⟨nk,f2⟩;·cases e'
    ·exact s.inj j k fs gs l' f1 f2 q3 q4
 ·exact⟨G,s,.inl rfl⟩
def StR.frz{K:PySem.W.Frag}{H₀:Hp}(s:StR K G₀ H₀ G H σ ρ)(i:Nat):∃G',StR K G₀ H₀ G' H σ (L2.frz i ρ):=
 let⟨G',h,_⟩:=s.frzTo i;⟨G',h⟩
def Bp{sts:List Stmt}(i:Nat)(h:lO X sts g):lO X sts (λρ=>g (frz i ρ)):=λG₀ H₀ pins s σ H D I q=>by obtain⟨G,ρ,sr,q⟩:=q;obtain⟨G',sr'⟩:=sr.frz i;exact h G₀ H₀ pins s σ H D I ⟨G',_,sr',q⟩
def ownAt(ρ:Ev)(i:Nat):R (List D):=match ρ[i]? with
 |some (some (.own ds))=>.ok ds
 |_=>.no
def ownAt.ok{k:List D->O}{D:Ends}{H₀:Hp}(h:jW X G₀ H₀ D ((ownAt ρ i).out ρ k)):∃ds,ρ[i]?=some (some (.own ds))/\jW X G₀ H₀ D (k ds):=by
 unfold ownAt at h;split at h;·rename_i ds e;exact⟨ds,e,h⟩
 ·exact h.elim
def xv(i:Nat){x:Str}{ap cp:Pos}(he:PF X e ga)(hi:X.N[i]?=some x:=by rfl)(hv:Vis X.env.scope x:=by first|exact Or.inl rfl|exact Or.inr (Or.inl rfl))(hd:(x==("__debug__":Str))=false:=by decide)(hcd:(x==("__classdict__":Str))=false:=by decide)(hs1:starEach [e] X.env=(false,eval e X.env)::starEach [] X.env:=by rfl)(hbase:attributeBase (.Name x p) "append" X.env (eval (.Name x p) X.env)=eval (.Name x p) X.env:=by rfl)(hfew:((backTo cp (starEach [e] X.env)).all (λx=>!x.1) && (backToKw cp (keywordEach [] X.env)).all (λx=>x.1.isSome)
 && decide ([e].length+([]:List Keyword).length+(if ([]:List Keyword).isEmpty then 0 else 1)<30))=true:=by rfl)(hline:(ap.endLine==cp.line)=true:=by rfl)(hs:swapsWith (.Call (.Attribute (.Name x p) "append" ap) [e] [] cp) none pos.line X.env=pure false:=by rfl):
  PSF X (.Expr (.Call (.Attribute (.Name x p) "append" ap) [e] [] cp) pos) (λρ=>(ownAt ρ i).out ρ λds=>(ga ρ).out ρ λd=>if ds.length<sizeLine then .nx (ρ.set i (some (.own (ds++[d]))))else .no):=λG₀ H₀ pins s σ H D I h=>by
 refine xN (Hl c8 PySem.F.slot_list_append PySem.F.type_list_append kQ (iS hi hv hd hcd) (dM he jI hs1) hbase hfew hline hs1 rfl) hs pins s σ H D I ?_;obtain⟨G,ρ,sr,h⟩:=h
 try dsimp only at h
 obtain⟨ds,e1,h⟩:=ownAt.ok h;obtain⟨l,vs,h1,h2,h3,h4,h5⟩:=sr.own i ds e1;refine⟨.ref l,h1,.inl ⟨rfl,vs,.of h2⟩,G,ρ,sr.e,?_⟩;cases q:ga ρ with
 |ok d=>
  rw[q]at h;simp only[R.out]at h;intro v G' H' u r;by_cases hz:ds.length<sizeLine;·rw[if_pos hz]at h;refine⟨l,vs,v,rfl,rfl,u.hh _ _ h2,by rw[h5.length];exact hz,h _ G' _ ?_⟩;exact(sr.ups u).mut e1 h1 ((h5.mono u.gg).append (.cons r .nil))
  ·rw[if_neg hz]at h;exact h.elim
 |ex C=>rw[q]at h;exact Exx.of sr h
 |no=>rw[q]at h;exact h
def asL:D->R (List D)
 |.lst false xs=>.ok xs
 |_=>.no
def xQ(i:Nat){x:Str}{ap cp:Pos}(he:PF X e ga)(hi:X.N[i]?=some x:=by rfl)(hv:Vis X.env.scope x:=by first|exact Or.inl rfl|exact Or.inr (Or.inl rfl))(hd:(x==("__debug__":Str))=false:=by decide)(hcd:(x==("__classdict__":Str))=false:=by decide)(hs1:starEach [e] X.env=(false,eval e X.env)::starEach [] X.env:=by rfl)(hbase:attributeBase (.Name x p) "extend" X.env (eval (.Name x p) X.env)=eval (.Name x p) X.env:=by rfl)(hfew:((backTo cp (starEach [e] X.env)).all (λx=>!x.1) && (backToKw cp (keywordEach [] X.env)).all (λx=>x.1.isSome)
 && decide ([e].length+([]:List Keyword).length+(if ([]:List Keyword).isEmpty then 0 else 1)<30))=true:=by rfl)(hline:(ap.endLine==cp.line)=true:=by rfl)(hs:swapsWith (.Call (.Attribute (.Name x p) "extend" ap) [e] [] cp) none pos.line X.env=pure false:=by rfl):
  PSF X (.Expr (.Call (.Attribute (.Name x p) "extend" ap) [e] [] cp) pos) (λρ=>(ownAt ρ i).out ρ λds=>(ga ρ).out ρ λd=>(asL d).out ρ λes=>if ds.length+es.length<=sizeLine then .nx (ρ.set i (some (.own (ds++es))))else .no):=λG₀ H₀ pins s σ H D I h=>by
 refine xN (Hl c8 PySem.F.slot_list_extend PySem.F.type_list_extend Cr (iS hi hv hd hcd) (dM he jI hs1) hbase hfew hline hs1 rfl) hs pins s σ H D I ?_;obtain⟨G,ρ,sr,h⟩:=h
 try dsimp only at h
 obtain⟨ds,e1,h⟩:=ownAt.ok h;obtain⟨l,vs,h1,h2,h3,h4,h5⟩:=sr.own i ds e1;refine⟨.ref l,h1,.inl ⟨rfl,vs,.of h2⟩,G,ρ,sr.e,?_⟩;cases q:ga ρ with
 |ok d=>
  rw[q]at h;simp only[R.out]at h;intro v G' H' u r;cases r with
  |lst hb t=>
   rename_i b ws es;have h:jW X G₀ H₀ D (if ds.length+es.length<=sizeLine then .nx (ρ.set i (some (.own (ds++es))))else .no):=h;by_cases hz:ds.length+es.length<=sizeLine;·rw[if_pos hz]at h;refine⟨l,b,vs,ws,rfl,rfl,u.hh _ _ h2,u.sub _ _ hb,by rw[h5.length,t.length];exact hz,h _ G' _ ?_⟩;exact(sr.ups u).mut e1 h1 ((h5.mono u.gg).append t)
   ·rw[if_neg hz]at h;exact h.elim
  |_=>exact h.elim
 |ex C=>rw[q]at h;exact Exx.of sr h
 |no=>rw[q]at h;exact h
noncomputable def iC(asg:D->Ev->R Ev)(g:Ev->O):List D->Ev->O
 | [],ρ=>.nx ρ
 |d::ds,ρ=>(asg d ρ).out ρ λρ1=>match g ρ1 with
  |.nx ρ2=>iC asg g ds ρ2
  |.ct ρ2=>iC asg g ds ρ2
  |.bk ρ2=>.nx ρ2
  |.rt d=>.rt d
  |.re d ρ2=>.re d ρ2
  |.ex C ρ2=>.ex C ρ2
  |.no=>.no
def mix(H₀ G₁:Hp):Hp:=λa=>match G₁ a with
 |some o=>some o
 |none=>H₀ a
def sM{H₀ G₁:Hp}{a:Addr}(h:mix H₀ G₁ a=none):G₁ a=none/\H₀ a=none:=by
 unfold mix at h;cases q:G₁ a with
 |none=>rw[q]at h;exact⟨rfl,h⟩
 |some o=>rw[q]at h;cases h
section
variable{K:PySem.W.Frag}{H₀ G₁ H₁:Hp}
def StR.to(s:StR K G₀ H₀ G₁ H₁ σ ρ):StR K G₁ (mix H₀ G₁) G₁ H₁ σ ρ:=by
 refine⟨s.e,λa o e=>?_,⟨s.e.sub,.refl _,λa o e=>?_,λ_ _ e=>.inl e⟩,λi ds e=>?_,s.inj,?_⟩;·unfold mix;rw[e]
 ·unfold mix at e;cases q:G₁ a with
  |none=>rw[q]at e;exact s.up.hh a o e
  |some o'=>rw[q]at e;cases e;exact s.e.sub a o q
 ·obtain⟨l,vs,h1,h2,h3,h4,h5⟩:=s.own i ds e;exact⟨l,vs,h1,h2,h3,by unfold mix;rw[h3];exact h4,h5⟩
 ·obtain⟨ow,o1,o2⟩:=s.ob;exact⟨ow,o1,λi m C p fs e=>⟨(o2 i m C p fs e).1,(o2 i m C p fs e).2.keep ⟨λa t o _ q=>q,.refl _,λa t o _ _ n=>n,λa t o q1 _=>q1,λa o _ g n=>by unfold mix;rw[g];exact n⟩⟩⟩
def Up.back(u:Up G₀ H₀ G₁ H₁)(v:Up G₁ (mix H₀ G₁) G H):Up G₀ H₀ G H:=by
 refine⟨v.sub,u.gg.trans v.gg,λa o e=>?_,λa o e=>?_⟩
 ·cases q:G₁ a with
  |none=>exact v.hh a o (by unfold mix;rw[q];exact e)
  |some o'=>have h1:=u.sub a o' q;have h2:=u.hh a o e;rw[h1]at h2;cases h2;exact v.hh a o (by unfold mix;rw[q])
 ·rcases v.fr a o e with h|h;·exact u.fr a o h
  ·exact .inr (sM h).2
def StR.back(s0:Same G₀ H₀)(u:Up G₀ H₀ G₁ H₁)(s:StR K G₁ (mix H₀ G₁) G H σ ρ):StR K G₀ H₀ G H σ ρ:=
 ⟨s.e,s0,u.back s.up,λi ds e=>let⟨l,vs,h1,h2,h3,h4,h5⟩:=s.own i ds e;⟨l,vs,h1,h2,h3,(sM h4).2,h5⟩,s.inj,by
 obtain⟨ow,o1,o2⟩:=s.ob;exact⟨ow,o1,λi m C p fs e=>⟨(o2 i m C p fs e).1,(o2 i m C p fs e).2.keep ⟨λa t o _ q=>q,.refl _,λa t o _ _ n=>n,λa t o q1 _=>q1,λa o _ _ n=>(sM n).2⟩⟩⟩⟩
end
def C5(hp:PassesOwn (model X.prog X.w) X.A X.env X.xe)(hcalm:X.calm=true)(hi:PIF X tg iter gi)(hg:PGF X tg asg)(hb:lO X body g)(hs:∀x,foldedSetIterable iter X.env x=pure x:=by intro _;rfl)(hn:∀d ρ C,asg d ρ≠.ex C:=by intro _ _ _ z;cases z):PSF X (.For tg iter body [] pos) (λρ=>(gi ρ).out ρ λitems=>iC asg g items ρ):=λG₀ H₀ pins s σ H D I h=>by
 obtain⟨G,ρ,sr,h⟩:=h
 try dsimp only at h
 cases q:gi ρ with
 |ok items=>
  rw[q]at h;simp only[R.out]at h;have key:∀(J:It)(G1 H1:Hp),Up G H G1 H1->ItOk X.K G1 J items->∃W:Nat->Nat->St->Hp->Prop,(∃m,W 0 m σ H1)/\∀i m σ H,W i m σ H->
    (J.stop i H/\D.nx σ H)\/(J.go i H/\∃N:St->Hp->Prop,(∀σ' H',N σ' H'->∃m',m'<m/\W (i+1) m' σ' H')/\∀x H',J.yld i H x H'->(λv σ H Q=>∃G₀ H₀ G ρ d ρ',StR X.K G₀ H₀ G H σ ρ/\Rep X.K G v d/\asg d ρ=.ok ρ'/\∀σ',StR X.K G₀ H₀ G H σ' ρ'->Q σ' H) x σ H' λσ2 H2=>(λD σ H=>∃G₀ H₀,tS X G₀ H₀ g D σ H) { D with nx:=N,ct:=N,bk:=D.nx } σ2 H2):=by
   intro J G1 H1 u1 iok;have sr1:=sr.ups u1;refine⟨λi m σ' H'=>m=items.length - i/\i<=items.length/\∃G' ρ',StR X.K G1 (mix H₀ G1) G' H' σ' ρ'/\jW X G₀ H₀ D (iC asg g (items.drop i) ρ'),⟨items.length,by simp,qd _,G1,ρ,sr1.to,by simpa using h⟩,?_⟩;rintro i m σ' H' ⟨rfl,hil,G',ρ',sr',h'⟩;have hIt:=iok i G' H' sr'.up.gg sr'.e.sub;by_cases hlt:i<items.length
   ·have hd:items.drop i=items[i]::items.drop (i+1):=i5 hlt;rw[hd]at h';obtain⟨go,yl⟩:=hIt.1 items[i] (by simp[hlt]);refine .inr ⟨go,λσ2 H2=>i+1<=items.length/\∃G2 ρ2,StR X.K G1 (mix H₀ G1) G2 H2 σ2 ρ2/\jW X G₀ H₀ D (iC asg g (items.drop (i+1)) ρ2),λσ2 H2 q2=>⟨items.length - (i+1),by omega,rfl,q2⟩,λx H2 y=>?_⟩;obtain⟨G2,up2,rep2⟩:=yl x H2 y;unfold iC at h';cases q2:asg items[i] ρ' with
    |ok ρ1=>
     rw[q2]at h';simp only[R.out]at h';refine⟨G1,mix H₀ G1,G2,ρ',items[i],ρ1,sr'.ups up2,rep2,q2,λσ3 sr3=>⟨G1,mix H₀ G1,G2,ρ1,sr3,?_⟩⟩;cases q3:g ρ1 with
     |nx ρ2=>rw[q3]at h';exact λσ4 G4 H4 sr4=>⟨hlt,G4,ρ2,sr4,h'⟩
     |ct ρ2=>rw[q3]at h';exact λσ4 G4 H4 sr4=>⟨hlt,G4,ρ2,sr4,h'⟩
     |bk ρ2=>rw[q3]at h';exact λσ4 G4 H4 sr4=>h' σ4 G4 H4 (sr4.back sr.sub0 sr1.up)
     |rt d=>rw[q3]at h';exact λv G4 H4 u4 r4=>h' v G4 H4 (sr1.up.back u4) r4
     |re d ρ2=>rw[q3]at h';exact λv σ4 G4 H4 sr4 r4=>h' v σ4 G4 H4 (sr4.back sr.sub0 sr1.up) r4
     |ex C ρ2=>rw[q3]at h';exact λe s' f4=>h' e s' (f4.map λσ4 G4 H4 sr4=>sr4.back sr.sub0 sr1.up)
     |no=>rw[q3]at h';exact h'
    |ex C=>exact absurd q2 (hn _ _ C)
    |no=>rw[q2]at h';exact h'.elim
   ·have hie:i=items.length:=by omega
    subst hie;rw[d9]at h';exact .inl ⟨hIt.2 (zE _),h' σ' G' H' (sr'.back sr.sub0 sr1.up)⟩
  have hb':PSs X body (λD σ H=>∃G₀ H₀,tS X G₀ H₀ g D σ H):=λpins s σ H D I ⟨G₀,H₀,q⟩=>hb G₀ H₀ pins s σ H D I q;refine FT hp hcalm hi hg hb' hs pins s σ H D I ⟨G,ρ,sr.e,?_⟩;rw[q];exact λJ G1 H1 u1 iok=>key J G1 H1 u1 iok
 |ex C=>rw[q]at h;have hb':PSs X body (λD σ H=>∃G₀ H₀,tS X G₀ H₀ g D σ H):=λpins s σ H D I ⟨G₀,H₀,q⟩=>hb G₀ H₀ pins s σ H D I q;refine FT hp hcalm hi hg hb' hs pins s σ H D I ⟨G,ρ,sr.e,?_⟩;rw[q];exact Exx.of sr h
 |no=>rw[q]at h;exact h.elim
end
noncomputable def spF(K:PySem.W.Frag)(f:List D->R D):Sp:=λvs H Q E=>∃G ds,Same G H/\Reps K G vs ds/\(f ds).post (Fin G H (Rep K) Q) (λC=>∀G' H',Up G H G' H'->E (.ref C) none H')
noncomputable abbrev FnF(P:Program)(w:World)(K:PySem.W.Frag)(mg:Str->Option Value)(base:Heap)(k:Nat)(f:Addr)(fd:FuncData)(ps:List Str)(g:List D->R D):Prop:=FnOk P w K mg base (CXo P w) k f fd ps (λvs H Q E=>vs.length=ps.length/\spF K g vs H Q E)
section
variable{x:Str}{pos:Pos}{e:Expr}{g:List D->R D}
def Ic(F:FnF X.prog X.w X.K X.mg X.base k f fd ps g)(hr:Room k X.A)(hg:Gl X x)(hm:X.mg x=some (.ref f))(hk:PySem.W.keepIn X.K (.ref f)=true)(hb:Binds X.K fd ps [])(ha:PFA X (e::es) gl)(hdb:(x==("__debug__":Str))=false:=by decide)(he:starEach (e::es) X.env=(false,eval e X.env)::starEach es X.env:=by rfl)(hpl:(backTo pos (starEach es X.env)).any (·.1)=false:=by rfl):
  PF X (.Call (.Name x p) (e::es) [] pos) (λρ=>gl ρ>>=λds=>if ds.length=ps.length then g ds else .no):=by
 intro pins s σ H Q I h;obtain⟨G,ρ,st,h⟩:=h;have t:tAF X gl σ H (λvs H1=>∃G1 ds,Up G H G1 H1/\Same G1 H1/\Reps X.K G1 vs ds/\ds.length=ps.length/\(g ds).post (Fin G1 H1 (Rep X.K) Q) (Exx X σ G1 H1)):=by
  refine tG.intro st h λds vs G1 H1 u1 st1 r1 h1=>?_;by_cases hl:ds.length=ps.length;·rw[if_pos hl]at h1;exact⟨G1,ds,u1,st1.sub,r1,hl,h1⟩
  ·rw[if_neg hl]at h1;exact h1.elim
 refine k8 (mj I hg hm ?_ hdb);refine b7 (h₀:=X.base) I.ok.mod.kin hk (thn (ha pos pins s σ H _ I t) λus s1 q=>⟨?_,?_⟩) he hpl;·obtain⟨vs,H1,I1,r,_⟩:=q;exact I1.kIn
 obtain⟨vs,H1,I1,r,G1,ds,u1,sub1,rp,hl,h1⟩:=q;have hvl:vs.length=ps.length:=by rw[rp.length];exact hl
 have hul:(us++[]).length=ps.length:=by rw[rR,<- r.length];exact hvl
 have hbb:=hb s1 us I1.kIn hul;rw[rR]at hbb;refine nE (o8 (F.run X.A X.stack s1 H1 ⟨us,[]⟩ us vs Q (λc _ H'=>∃C G',c=.ref C/\Up G1 H1 G' H'/\Exx X σ G1 H1 C) hr I1.env0 hbb r ⟨hvl,G1,ds,sub1,rp,h1.mono (λ_ q=>q) λC q G' H' u=>⟨C,G',rfl,u,q⟩⟩) λr' s' hq=>?_);cases r' with
 |error e'=>obtain⟨a,C,H',rfl,fl,C',G',ec,u,q⟩:=hq;cases ec;exact q _ _ ⟨G1,H1,.refl sub1,pins,s1,a,rfl,I1,.inr (.inl ⟨G',H',fl,u⟩)⟩
 |ok fl=>
  cases fl with
  |ret u=>exact I1.after hq
  |_=>exact False.elim hq
end
def ObjOk.there{w:World}{o:HO}(x:ObjOk P w H h a o):∃ob,h.get? a=some ob:=by
 cases o with
 |lst xs=>obtain⟨_,_,_,_,e⟩:=x;exact⟨_,e⟩
 |tup xs=>obtain⟨_,_,_,o,e,_⟩:=x;exact⟨_,e⟩
 |dK kvs=>obtain⟨_,_,_,_,o,_,_,e,_⟩:=x;exact⟨_,e⟩
 |dT kvs=>obtain⟨_,_,_,_,o,_,_,e,_⟩:=x;exact⟨_,e⟩
 |set S n=>obtain⟨o,_,_,_,e,_⟩:=x;exact⟨_,e⟩
 |ins C dx fs=>obtain⟨_,_,_,e,_⟩:=x;exact⟨_,e⟩
 |own y=>obtain⟨_,e⟩:=x;exact⟨_,e⟩
 |xd fs=>obtain⟨_,⟨_,_,_,e,_⟩,_⟩:=x;exact⟨_,e⟩
 |rng lo hi=>obtain⟨_,_,_,e⟩:=x;exact⟨_,e⟩
 |frz ob u=>obtain⟨e,_⟩:=x;exact⟨_,e⟩
 |tbl ps=>obtain⟨_,e,_⟩:=x;exact⟨_,e⟩
 |met f y=>exact⟨_,show h.get? a=some _ from x⟩
 |ext φ=>obtain⟨_,⟨_,e⟩,_⟩:=x;exact⟨_,e⟩
def sJ{env:Env}{outer:List Env}(h:env.frame=some L):frs (env::outer)=L::frs outer:=by unfold frs;rw[Zb,h]
section
variable{w:World}{h1 h2 hm:Heap}{l l':List Addr}{B:Heap}
def HOk.flight(x:HOk P w H' h1)(hb:B.StaysIn h2)(hk:∀b o,b∉l->((∃o0,hm.get? b=some o0)\/∃u,H' b=some u)->h1.get? b=some o->B.get? b=some o)(hl:∀b∈l,H' b=none):HOk P w H' h2:=λa o e=>by
 refine(x a o e).stay (λb u hbb q=>hb b u (hk b u (λz=>?_) (.inr ?_) q)) (λ_ z=>z) (λ_ _ z=>z)
 ·rcases hbb with rfl|hbb;·rw[hl _ z]at e;cases e
  ·rw[hl _ z]at hbb;cases hbb
 ·rcases hbb with rfl|hbb;·exact⟨_,e⟩
  ·exact⟨_,hbb⟩
def Un.flight{ex:List Addr}(u:Un l' ex H H' h h1)(hb:B.StaysIn h2)(sm:h1.UpToSlots h2)(hk:∀b o,b∉l->((∃o0,hm.get? b=some o0)\/∃u,H' b=some u)->h1.get? b=some o->B.get? b=some o)(lt:∀b o,h.get? b=some o->∃o0,hm.get? b=some o0)(hl:∀b∈l,b∈l'\/h.objs.size<=b)(hd:∀b∈l,∀o,h1.get? b=some o->∀vs,o.data≠.fields vs):Un l' ex H H' h h2:=by
 refine⟨λb o e nn hb' hx=>?_,λb o e nn hb' hx=>?_,u.free,λb o e hx=>?_,u.tups,u.frzs,u.tbls⟩
 ·have q:=u.keep b o e nn hb' hx;refine hb b o (hk b o (λz=>?_) (.inl (lt b o e)) q);rcases hl b z with z|z;·exact hb' z
  ·exact absurd (zy e) (qp.mpr z)
 ·obtain⟨sl,q⟩:=u.slot b o e nn hb' hx;by_cases z:b∈l;·obtain⟨sl',q'⟩:=sm b _ q (hd b z _ q);exact⟨sl',q'⟩
  ·exact⟨sl,hb b _ (hk b _ z (.inl (lt b o e)) q)⟩
 ·obtain⟨o',q⟩:=u.there b o e hx;by_cases z:b∈l;·obtain⟨sl',q'⟩:=sm b _ q (hd b z _ q);exact⟨_,q'⟩
  ·exact⟨o',hb b _ (hk b _ z (.inl (lt b o e)) q)⟩
end
def FunFrames.data{base:Heap}:∀{l:List Env},h.FunFrames base l->∀b∈frs l,∃o,h.get? b=some o/\(∀vs,o.data≠.fields vs)/\base.get? b=none:=λ{l} hf b hb=>by obtain⟨h1,o,h2,h3⟩:=hf.mem hb;exact⟨o,h2,h3,h1⟩
noncomputable def gCx(P:Program)(w:World)(K:PySem.W.Frag)(mg:Str->Option Value)(base:Heap)(N:List Str)(env:Env)(fn:Str->Bool)(A:Around)(outer:List Env)(s:Shared)(H:Hp)(E:XK):Cx where
 prog:=P
 w:=w
 K:=K
 mg:=mg
 base:=base
 A:=A.deeper env
 N:=N
 s₀:=s
 H₀:=H
 env:=env
 outer:=outer
 stack:=env::outer
 ex:=[]
 calm:=true
 fn:=fn
 pn:=[]
 xe:=λe s'=>wpAny (model P w) (A.deeper env) (leaving env e) (λ_ s''=>CXo P w outer H s E e s'') (λe' s''=>CXo P w outer H s E e' s'') s'
def Hs{w : World}{K : PySem.W.Frag}{mg : Str -> Option Value}{base : Heap}{N : List Str}{env : Env}{fn : Str -> Bool}{A : Around}{outer : List Env}{E : XK}{e : Value}(hloc : env.locals = s.heap.objs.size)(hf : env.frame = some s.heap.objs.size)(fl : FlyS (gCx P w K mg base N env fn A outer s H E) G H ρ C e s')(hE : ∀G' H', Up G H G' H' -> E (.ref C) none H'): (gCx P w K mg base N env fn A outer s H E).xe e s' := by
  obtain⟨σ, H₁, pins, s₁, a, rfl, I, way⟩ := fl;have hfr : (A.deeper (env)).frames = some (env :: outer) := I.ok.frames;have hst : frs (env :: outer) = s.heap.objs.size :: frs outer := sJ hf;have old : ∀b o, s.heap.get? b = some o -> ∃o0, s₁.heap.get? b = some o0 := λb o e => I.base.there b o e (by show b∉([] : List Addr); simp);show wpAny (model P w) (A.deeper (env)) (leaving (env) (.ref a)) (λ_ s'' => CXo P w outer H s E (.ref a) s'') (λe' s'' => CXo P w outer H s E e' s'') s';have fin : ∀{H' : Hp}{G' : Hp}{s' : Shared}{h'' B : Heap}{a0 : Value}, Inv (gCx P w K mg base N env fn A outer s H E) pins σ H' s' -> StR K G H G' H' σ ρ -> H' a = none -> Heap.FlyingW B outer a (.ref C) a0 h'' -> s'.heap.UpToSlots h'' ->
      (∀b o, b∉s.heap.objs.size :: frs outer -> ((∃o0, s₁.heap.get? b = some o0) \/ ∃u, H' b = some u) -> s'.heap.get? b = some o -> B.get? b = some o) -> CXo P w outer H s E (.ref a) { s' with heap := h'' } := by
    intro H' G' s' h'' B a0 J up ha fl sm hk;have J0 : H' s.heap.objs.size = none := by have q : H' env.locals = none := J.free; rw[hloc]at q; exact q
    have fr0 : ∀b ∈ frs outer, H' b = none := λb hb => J.stkFree b (by show b ∈ frs (env :: outer); rw[hst]; exact v9 _ hb);have frA : ∀b ∈ s.heap.objs.size :: frs outer, H' b = none := λb hb => by
      rcases y9.mp hb with rfl|hb;· exact J0
      · exact fr0 b hb
    have dat : ∀b ∈ s.heap.objs.size :: frs outer, ∀o, s'.heap.get? b = some o -> ∀vs, o.data≠.fields vs := λb hb o e => by obtain⟨o', e', d', _⟩ := FunFrames.data J.stack b (by show b ∈ frs (env :: outer); rw[hst]; exact hb);rw[e]at e'; cases e'; exact d'
    have hok : HOk P w H' h'' := J.hok.flight fl.1 hk frA;have un : Un (frs outer) [] H H' s.heap h'' := Un.flight J.base fl.1 sm hk old (λb hb => (y9.mp hb).elim (λz => .inr (by rw[z]; exact zE _)) .inl) dat;refine⟨a, C, H', rfl, ⟨J.os, J.bare, un, hok, ha, B, a0, fl, λb o hb ho e => ?_⟩, hE G' H' up.up⟩;have nb : b∉s.heap.objs.size :: frs outer := λz => by
      rcases y9.mp z with z|z
      · rcases ho with⟨o0, ho⟩ | ⟨u, ho⟩;· rw[z]at ho; exact qt _ (zy ho)
        · rw[z, J0]at ho; cases ho
      · exact hb z
    have ho' : (∃o0, s₁.heap.get? b = some o0) \/ ∃u, H' b = some u := ho.imp (λ⟨o0, z⟩ => old b o0 z) id;have ex : ∃o', s'.heap.get? b = some o' := by
      rcases ho with⟨o0, ho⟩ | ⟨u, ho⟩;· exact J.base.there b o0 ho (by show b∉([] : List Addr); simp)
      · exact(J.hok b u ho).there
    obtain⟨o', e'⟩ := ex;have q := hk b o' nb ho' e';have q2 := fl.1 b o' q;have e2 : h''.get? b = some o := e;rw[q2]at e2;cases e2;exact q
  rcases way with⟨G₁, h', vs, sr, made, rfl⟩ | ⟨G', H', ⟨os, bare, un, hok, ha, B, a0, fl, hk⟩, up⟩ | ⟨G', H', L', hL, ⟨os, bare, ⟨ch, hch, un⟩, hok, ha, _, B, a0, fl, hk⟩, up⟩
  ·
    have J : Inv (gCx P w K mg base N env fn A outer s H E) pins σ H₁ { s₁ with heap := h' } := I.kept (t' := s₁.toks) made.keeps;have hin : ∀en ∈ (env :: outer), ∀b, en.frame = some b -> b ∈ s.heap.objs.size :: frs outer := λen he b hb => by rw[<- hst]; exact k6.mpr ⟨en, he, hb⟩
    refine wpAny_leaves_madeW (base := PySem.W.hideAll s₁.heap (s.heap.objs.size :: frs outer)) hfr hf (λb o q => mh _ q) (Zp I.stack hin) made λh'' t fl' _ _ sm => ?_;have ha : H₁ a = none := by
      cases q : H₁ a with
      |none => rfl
      |some u =>obtain⟨ob, e⟩ := (I.hok a u q).there;rw[made.new]at e; cases e
    refine fin J sr ha fl' sm λb o hb ho e => ?_;have e1 : s₁.heap.get? b = some o := by
      rcases ho with⟨o0, ho⟩ | ⟨u, ho⟩;· have q := made.keeps b o0 ho;have e' : h'.get? b = some o := e;rw[q]at e'; cases e'; exact ho
      · obtain⟨ob, ho⟩ := (I.hok b u ho).there;have q := made.keeps b ob ho;have e' : h'.get? b = some o := e;rw[q]at e'; cases e'; exact ho
    exact b8 _ e1 hb
  · have J := I.call' (s' := s') (ch := []) os un hok bare (λb z => absurd z (by simp));exact wpAny_leaves_onW hfr hf fl λh'' fl' sm => fin J up ha fl' sm λb o hb ho e => hk b o (by show b∉frs (env :: outer); rw[hst]; exact hb) ho e
  · have J := I.call' (s' := s') (ch := ch) os un hok bare hch;have eL : s.heap.objs.size = L' := xz (hf.symm.trans hL);rw[<- eL]at fl;refine z9 (Zq hf fl.2.2.2 (wpAny_landsW fl λh'' fl' sm => ?_));obtain⟨k1, k2, ⟨_, _, k3⟩, k4⟩ := fl';exact fin J up ha ⟨k1, k2, k3, k4⟩ sm λb o hb ho e => hk b o (by show b∉frs (env :: outer); rw[hst]; exact hb) ho e

def tY{w:World}{K:PySem.W.Frag}{mg:Str->Option Value}{base:Heap}{N:List Str}{cd:Value}{A:Around}{outer:List Env}{E:XK}{e:Value}(fl:FlyS (fV (CXo P w) P w K mg base N qual scope f cd A outer s H E) G H ρ C e s')(hE:∀G' H',Up G H G' H'->E (.ref C) none H'):(fV (CXo P w) P w K mg base N qual scope f cd A outer s H E).xe e s':=
 Hs (env:=envOfC qual scope s.heap.objs.size f cd) (fn:=λ_=>true) rfl rfl fl hE
def aw(n:Nat)(ds:List D):Ev:=ds.map (λd=>some (.val d))++List.replicate (n - ds.length) none
def aD(o:O):R D:=match o with
 |.rt d=>.ok d
 |.re d _=>.ok d
 |.nx _=>.ok .non
 |.ex C _=>.ex C
 |_=>.no
def yd{K:PySem.W.Frag}{N:List Str}(sub:Same G H)(r:Reps K G vs ds):StR K G H G H (kG N vs) (aw N.length ds):=by
 have hl:=r.length;have get:∀(i:Nat) x,(aw N.length ds)[i]?=some (some x)->∃d,ds[i]?=some d/\x=.val d:=λi x e=>by
  unfold aw at e;by_cases hi:i<ds.length
  ·rw[o6 (by simpa using hi),ue]at e;cases q:ds[i]? with
   |none=>rw[q]at e;cases e
   |some d=>rw[q]at e;cases e;exact⟨d,rfl,rfl⟩
  ·rw[n9 (by simpa using hi),l8]at e;split at e <;> cases e
 have no:NoOwn (aw N.length ds):=λi x e=>by obtain⟨d',_,q⟩:=get i _ e;exact⟨d',q⟩
 refine⟨⟨sub,by simp[kG,aw,hl],λi d e=>?_,λi m C p fs e=>absurd e (no.obj i m C p fs)⟩,sub,.refl sub,λi es e=>?_,λi j es fs l e=>?_,no.ob⟩;·obtain⟨d',e',q⟩:=get i _ e;cases q;obtain⟨v,ev,rv⟩:=r.get e';refine⟨v,?_,rv⟩;unfold kG;rw[o6 (by have:=(u6.mp ev).1;simpa using this),ue,ev];rfl
 ·obtain⟨d',_,q⟩:=get i _ e;cases q
 ·obtain⟨d',_,q⟩:=get i _ e;cases q
def Fun.okF{w:World}{K:PySem.W.Frag}{mg:Str->Option Value}{base:Heap}{x:Str}{N:List Str}(F:Fun K x qual st f fd)(S:FnScope N ps (ar st)){g:Ev->O}(hbody:∀(cdv:Value)(A:Around)(outer:List Env)(s:Shared)(H:Hp)(E:XK),Room k (A.deeper (envOfC qual (ar st) s.heap.objs.size f cdv))->lO (fV (CXo P w) P w K mg base N qual (ar st) f cdv A outer s H E) (cg st) g):
  FnF P w K mg base (k+1) f fd ps (λds=>aD (g (aw N.length ds))):=by
 obtain⟨oc,od,kV,doc,pm,an,cdv,ct,osl,rfl,lk,hcd⟩:=F.ex;refine IC lk hcd S (λvs H Q E h=>h.1) λA outer s H vs Q E hr hsp=>?_;obtain⟨hl,G,ds,sub,r,h⟩:=hsp;refine⟨_,hbody cdv A outer s H E hr G H,G,aw N.length ds,yd sub r,?_⟩;dsimp only at h;cases q:g (aw N.length ds)with
 |nx ρ=>rw[q]at h;exact λσ G' H' sr=>h .non G' H' sr.up .non
 |rt d=>rw[q]at h;exact λv G' H' u rv=>h v G' H' u rv
 |re d ρ=>rw[q]at h;exact λv σ G' H' sr rv=>h v G' H' sr.up rv
 |bk ρ=>rw[q]at h;exact h.elim
 |ct ρ=>rw[q]at h;exact h.elim
 |ex C ρ=>rw[q]at h;exact λe s' fl=>tY fl h
 |no=>rw[q]at h;exact h.elim
theorem pX:fillsNumberSlot (.type "tuple") "mul"=pure false:=
 PySem.fillsNumberSlot_seq (id:="tuple.__mul__") (r:=some (.builtin "tuple.__rmul__")) F.slot_tuple_mul.lookup (by decide +kernel) F.slot_tuple_rmul.lookup (by decide +kernel)
theorem IV:seqRepeat? (.type "tuple")=pure (some (.builtin "tuple.__mul__")):=by unfold seqRepeat?;rw[PySem.seqSlot_of (T:="tuple") (name:="__mul__") (id:="tuple.__mul__") F.slot_tuple_mul.lookup (by decide +kernel),PySem.seqSlot_of (T:="tuple") (name:="__rmul__") (id:="tuple.__rmul__") F.slot_tuple_rmul.lookup (by decide +kernel)];rfl
open Builtin in
def uv(a:Int)(t:Tok)(l:Addr)(items:Array Value)(n:Nat)(dd:Option Addr)(sl:Array (Option Value)):
  Meets (Builtin.«int.__rmul__» ⟨[.int a t,.ref l],[]⟩) (λ_ Rr s=>s.heap.get? l=some { cls:=.type "tuple",dict:=dd,data:=.seq items n,slots:=sl }/\Rr (.ok (.ret Value.notImplemented)) s):=
 .of_wp λprog w A Rr s h=>by obtain⟨hp,g,d,tk,os⟩:=s;obtain⟨hl,h⟩:=h;wp_walk;exact⟨_,rfl,h⟩
section
open Builtin AutoSeq1
variable(l:Addr)(items:Array Value)(n:Nat)(dd:Option Addr)(sl:Array (Option Value))(x:Int)(u:Tok)(h1:(decide (x < -(2 ^ 63)) || decide (x ≥ 2 ^ 63))=false)
include h1
def DD(hc:(items.isEmpty || x==1)=true):
  Meets (Builtin.«tuple.__mul__» ⟨[.ref l,.int x u],[]⟩) (λ_ Rr s=>s.heap.get? l=some { cls:=.type "tuple",dict:=dd,data:=.seq items n,slots:=sl }/\Rr (.ok (.ret (.ref l))) s):=
 .of_wp λprog w A Rr s h=>by
  obtain⟨hp,g,d,tk,os⟩:=s;obtain⟨hl,h⟩:=h;have f1:=idx_int
  wp_walk
  refine Zr (by rw[h1];rfl) ?_;refine z9 (j0 (show IsTup hp l items from⟨_,hl,rfl,n,rfl⟩) ?_);dsimp only;rw[if_pos hc];unfold Tuple.tupleIsExact;refine z9 (z9 (fB ⟨_,hl,rfl⟩ (zh ?_)));rw[if_pos (by decide)];exact z9 (n6 (zh ⟨_,rfl,h⟩))
def D8(hc : ¬ (items.isEmpty || x==1)=true)(h2:(decide (x<=0) || items.isEmpty)=true):
  Meets (Builtin.«tuple.__mul__» ⟨[.ref l,.int x u],[]⟩) (λ_ Rr s=>s.heap.get? l=some { cls:=.type "tuple",dict:=dd,data:=.seq items n,slots:=sl }/\Rr (.ok (.ret (.ref s.heap.objs.size))) { s with heap:=s.heap.push { cls:=.type "tuple",data:=.seq #[] } }):=
 .of_wp λprog w A Rr s h=>by
  obtain⟨hp,g,d,tk,os⟩:=s;obtain⟨hl,h⟩:=h;have f1:=idx_int
  wp_walk
  refine Zr (by rw[h1];rfl) ?_;refine z9 (j0 (show IsTup hp l items from⟨_,hl,rfl,n,rfl⟩) ?_);dsimp only;rw[if_neg hc,if_pos h2];exact z9 (m:=Builtin.Tuple.tupleExact _) (t9 (zh ⟨_,rfl,h⟩) (qd _))
def D0(hc : ¬ (items.isEmpty || x==1)=true)(h2 : ¬ (decide (x<=0) || items.isEmpty)=true)(hz:items.size * x.toNat<=sizeLine):
  Meets (Builtin.«tuple.__mul__» ⟨[.ref l,.int x u],[]⟩) (λ_ Rr s=>s.heap.get? l=some { cls:=.type "tuple",dict:=dd,data:=.seq items n,slots:=sl }/\
   Rr (.ok (.ret (.ref s.heap.objs.size))) { s with heap:=s.heap.push { cls:=.type "tuple",data:=.seq (List.foldl (λx1 x2=>x1++x2) #[] (List.replicate x.toNat items)) } }):=
 .of_wp λprog w A Rr s h=>by
  obtain⟨hp,g,d,tk,os⟩:=s;obtain⟨hl,h⟩:=h;have f1:=idx_int;have hx:0<x:=by
   cases q:decide (x<=0)with
   |true=>rw[q]at h2;exact absurd rfl h2
   |false=>exact Int.not_le.mp (of_decide_eq_false q)
  have ez:(items.size:Int) * x=((items.size * x.toNat:Nat):Int):=by rw[Int.natCast_mul,pz (Int.le_of_lt hx)]
  have hlim:(sizeLine:Nat)<=(2 ^ 63 - 1) / 8:=by decide
  have h3 : ¬ ((items.size:Int) * x > (2 ^ 63 - 1) / 8):=by
   rw[ez];have:((sizeLine:Nat):Int)<=(2 ^ 63 - 1) / 8:=by decide
   omega
  have h4 : ¬ (Tuple.tupleTooMany ((items.size:Int) * x)=true):=by unfold Tuple.tupleTooMany;rw[ez];intro q;have:=b9 q;omega
  have hfz:(List.foldl (λx1 x2=>x1++x2) #[] (List.replicate x.toNat items)).size<=sizeLine:=by have e:=kT items.toList x.toNat [];simp only[j6,Array.toArray_toList]at e;rw[e,xm,ua,lV,d0];exact hz
  wp_walk
  refine Zr (by rw[h1];rfl) ?_;refine z9 (j0 (show IsTup hp l items from⟨_,hl,rfl,n,rfl⟩) ?_);dsimp only;rw[if_neg hc,if_neg h2,if_neg h3,if_neg h4];exact z9 (m:=Builtin.Tuple.tupleExact _) (t9 (zh ⟨_,rfl,h⟩) hfz)
end
section
noncomputable def Kw(K:PySem.W.Frag):R2:=λx y H Q=>∃l k xs,x=.ref l/\y=.int k/\SqT K H l xs/\-(2 ^ 63)<=k/\k<2 ^ 63/\xs.length * k.toNat<=sizeLine/\
 (xs=[]\/k=1->Q (.ref l) H)/\(xs≠[]->k≠1->∀p,H p=none->Q (.ref p) (upd H p (.tup (List.replicate k.toNat xs).flatten)))
theorem op_repT:OpR X (binaryOp .Mult) (Kw X.K):=by
 intro pins s σ H x y v u Q I rx ry h;obtain⟨l,k,xs,rfl,rfl,hH,h1,h2,hz,q0,q1⟩:=h;cases rx;obtain⟨t,rfl⟩:=ry;obtain⟨its,r,p,hzz⟩:=I.tuple hH;obtain⟨⟨cls,dd,data,sl⟩,ho,hc,n,hd⟩:=id p;simp only at hc hd;subst hc hd;have hlen:its.length=xs.length:=r.length.symm;have hin:(decide (k < -(2 ^ 63)) || decide (k ≥ 2 ^ 63))=false:=by rw[vF (by omega),vF (by omega)];rfl
 have emp:its.toArray.isEmpty=decide (xs=[]):=by
  cases its with
  |nil=>cases r;rfl
  |cons a b=>cases r;rfl
 refine wpAny_binaryOp_repeat_ref (T:="tuple") (U:="int") (by decide) ⟨_,ho,rfl⟩ (λs'=>j3 s' k t) pX F.fills_int_mul eQ IV F.slot_int_index.lookup
  (sZ eQ (j3 s k t) F.entry_int_rmul (F.args_int_rmul_2 _ _) (uv k t l its.toArray n dd sl) ⟨ho,rfl,⟨_,ho,rfl⟩,?_⟩);by_cases hc:(its.toArray.isEmpty || k==1)=true;·refine sZ Zs ⟨_,ho,rfl⟩ Zt (Zu _ _) (DD l its.toArray n dd sl k t hin hc) ⟨ho,.ref l,H,I,rfl,q0 ?_⟩;rw[emp]at hc;simpa using hc
 ·have hne:xs≠[]/\k≠1:=by rw[emp]at hc;simpa using hc
  have fin:∀its',its'=(List.replicate k.toNat its).flatten->EP X pins σ Q (.ref s.heap.objs.size) { s with heap:=s.heap.push { cls:=.type "tuple",data:=.seq its'.toArray } }:=λits' e=>by subst e;refine⟨.ref s.heap.objs.size,_,I.laid (t':=s.toks) (o:=.tup (List.replicate k.toNat xs).flatten) (λb ob q=>zT _ q) (zE _) ?_,rfl,q1 hne.1 hne.2 _ I.fresh⟩;exact⟨by rw[ua,d0];exact hz,_,r.rep k.toNat,qK _ _⟩
  by_cases h0:(decide (k<=0) || its.toArray.isEmpty)=true
  ·refine sZ Zs ⟨_,ho,rfl⟩ Zt (Zu _ _) (D8 l its.toArray n dd sl k t hin hc h0) ⟨ho,?_⟩;refine fin [] ?_;have:k<=0:=by rw[emp,vF hne.1,Bool.or_false]at h0;exact b9 h0
   rw[Int.toNat_of_nonpos this];rfl
  ·refine sZ Zs ⟨_,ho,rfl⟩ Zt (Zu _ _) (D0 l its.toArray n dd sl k t hin hc h0 (by rw[xm,hlen];exact hz)) ⟨ho,?_⟩;have e:=kT its k.toNat [];simp only[j6]at e;rw[e];exact fin _ rfl
def Im(x:Str)(n:Int):(Txt.mul x n).cps.toList=(List.replicate n.toNat x.cps.toList).flatten:=by
 unfold Txt.mul;by_cases h1:n<1;·rw[if_pos h1,Int.toNat_of_nonpos (by omega)];rfl
 ·rw[if_neg h1];by_cases h2:(n==1 || x.length==0)=true
  ·rw[if_pos h2];rcases Bool.or_eq_true_iff.mp h2 with h|h
   ·have:n=1:=by simpa using h
    subst this;show _=(List.replicate 1 x.cps.toList).flatten;simp
   ·have:x.cps.toList=[]:=ZJ (by rw[Str.len_list];simpa using h);rw[this];simp
  ·rw[if_neg h2];have:∀(m:Nat)(acc:Array Nat),((List.replicate m x.cps).foldl (·++·) acc).toList=acc.toList++(List.replicate m x.cps.toList).flatten:=by
    intro m;induction m with
    |zero=>intro acc;simp
    |succ m ih=>intro acc;rw[p7,j5,ih,p7,nr];simp
   simpa using this n.toNat #[]
def op_mul_str:OpR X (binaryOp .Mult) (λx y H Q=>∃(i:Str)(k:Int),x=.str i/\y=.int k/\-(2 ^ 63)<=k/\k<2 ^ 63/\i.length * k.toNat<=sizeLine/\Q (.str (Txt.mul i k)) H):=by
 intro pins s σ H x y v u Q I rx ry h;obtain⟨i,k,rfl,rfl,h1,h2,hz,q⟩:=h;obtain⟨t,rfl⟩:=rx;obtain⟨t',rfl⟩:=ry;refine SB.mul ⟨by rw[vF (by omega),vF (by omega)];rfl,λh3 h4=>?_,λh3 h4=>?_⟩ λt'' n=>⟨.str _,H,I.tok _,⟨_,rfl⟩,q⟩
 ·have hk:0<k:=by omega
  intro h5;have h6:(2 ^ 63 - 1) / k * k<=2 ^ 63 - 1:=Int.ediv_mul_le _ (by omega);have h7:(((i.length * k.toNat:Nat)):Int)=(i.length:Int) * k:=by rw[Int.natCast_mul,pz (by omega)]
  have h8:((2 ^ 63 - 1) / k+1) * k<=(i.length:Int) * k:=Int.mul_le_mul_of_nonneg_right (by omega) (by omega);have h9:2 ^ 63 - 1<((2 ^ 63 - 1) / k+1) * k:=Int.lt_ediv_add_one_mul_self _ hk;have h10:((sizeLine:Nat):Int)<2 ^ 63 - 1:=by decide
  omega
 ·unfold Builtin.Str.tooLong;exact vF (by omega)
noncomputable def eS:D->D->Option D
 |.int i,.int j=>if (-(2 ^ 64)<i/\i<2 ^ 64)\/(-(2 ^ 64)<j/\j<2 ^ 64)then some (.int (i * j))else none
 |.str x,.int k=>if -(2 ^ 63)<=k/\k<2 ^ 63/\x.length * k.toNat<=sizeLine then some (.str (List.replicate k.toNat x).flatten)else none
 |.tup xs,.int k=>if -(2 ^ 63)<=k/\k<2 ^ 63/\xs.length * k.toNat<=sizeLine then some (.tup (List.replicate k.toNat xs).flatten)else none
 |.lst false xs,.int k=>if -(2 ^ 63)<=k/\k<2 ^ 63/\xs.length * k.toNat<=sizeLine then some (.lst false (List.replicate k.toNat xs).flatten)else none
 |_,_=>none
noncomputable def LL(K:PySem.W.Frag):R2:=λx y H Q=>rI CMul (λi j=>.int (i * j)) x y H Q\/(∃(i:Str)(k:Int),x=.str i/\y=.int k/\-(2 ^ 63)<=k/\k<2 ^ 63/\i.length * k.toNat<=sizeLine/\Q (.str (Txt.mul i k)) H)\/Kw K x y H Q\/Oy x y H Q
def HD:OpR X (binaryOp .Mult) (LL X.K):=op_mul.or (op_mul_str.or (op_repT.or KD))
def LJ(K:PySem.W.Frag):ROk K (LL K) eS:=by
 intro G H x y dx dy d Q s rx ry e q;unfold eS at e;split at e
 ·split at e;·rename_i hc;cases e;exact .inl ⟨_,_,rx.int_inv,ry.int_inv,hc,q _ G H (.refl s) (.int _)⟩
  ·cases e
 ·split at e;·rename_i hc;cases e;obtain⟨i,rfl,ei,hi⟩:=rx.str_inv;subst ei;rw[Str.len_list]at hc;exact .inr (.inl ⟨i,_,rfl,ry.int_inv,hc.1,hc.2.1,hc.2.2,q _ G H (.refl s) (.strL (Im i _) (by rw[ua,Str.len_list,d0];exact hc.2.2))⟩)
  ·cases e
 ·split at e
  ·rename_i k hc;cases e;obtain⟨a,vs,rfl,ha,ra⟩:=rx.tup_inv;refine .inr (.inr (.inl ⟨a,_,vs,rfl,ry.int_inv,ha.mono s,hc.1,hc.2.1,by rw[ra.length];exact hc.2.2,λz=>?_,λ_ _ p hp=>q _ _ _ (.new s hp) (.tup (.of aV) ((ra.rep _).mono (.into (s.free hp))))⟩));rcases z with z|z
   ·subst z;cases ra;have e:(List.replicate k.toNat ([]:List D)).flatten=[]:=by simp
    rw[e]at q;exact q _ G H (.refl s) (.tup ha .nil)
   ·subst z;have e:∀l:List D,(List.replicate (1:Int).toNat l).flatten=l:=λl=>by show(List.replicate 1 l).flatten=l;simp
    rw[e]at q;exact q _ G H (.refl s) (.tup ha ra)
  ·cases e
 ·split at e;·rename_i hc;cases e;obtain⟨a,vs,rfl,ha,ra⟩:=rx.lst_inv;exact .inr (.inr (.inr ⟨a,_,vs,rfl,ry.int_inv,s _ _ ha,hc.1,hc.2.1,by rw[ra.length];exact hc.2.2,λp hp=>q _ _ _ (.new s hp) (.lst aV ((ra.rep _).mono (.into (s.free hp))))⟩))
  ·cases e
 ·cases e
def bP{a b:Expr}{ga:Ev->R D}{pos:Pos}(ha:PF X a ga)(hb:PF X b gb):PF X (.BinOp a .Mult b pos) (g2 eS ga gb):=rO HD (LJ _) ha hb
end
end L2
namespace L2
open PySem PySem.W PySem.Spec PySem.Calls PyProof.Rows
structure ExcCls(K:Frag)(C:Addr):Prop where
 ga:findIn K (.ref C) "__getattribute__"=some (some (.builtin "BaseException.__getattribute__"))
 gt:findIn K (.ref C) "__getattr__"=some none
 cl:findIn K (.ref C) "__class__"=some (some (.builtin "object.__class__"))
 sp:specialIn K (.builtin "object.__class__") "__get__"=some (some (.builtin "getset_descriptor.__get__"))
 tk:takesIn K (.builtin "object.__class__")=some true
 mo:mroIn K C (.type "object")=some true
 be:subIn K (.ref C) (.type "BaseException")=some true
 some:(clsIn K C).isSome=true
section
variable{prog:Program}{w:World}{A:Around}{K:Frag}
section
open Builtin Builtin.ObjectAttr Builtin.Getset_descriptor
def HG{tp:Value}{Rr:Result->Shared->Prop}(X:K.In s.heap)(L0:Looks (model prog w) s.heap (typeOf (.ref a)) (.ref C))(hm:mroIn K C (.type "object")=some true)(h:Rr (.ok (.ret (.ref C))) s):
  codeAny (model prog w) A (.call (.builtin "getset_descriptor.__get__") ⟨[.builtin "object.__class__",.ref a,tp],[]⟩) Rr s:=by
 obtain⟨hh,gg,dd,tt,oo⟩:=s;have L1:=looks_mroIn (M:=model prog w) X hm;refine codeAny_call_builtin KF.slot_gs.plain KF.entry_gs
  (KF.slot_gs.check _ _ _ _ _ _ _ _ KF.type_class (KF.args_gs _ _ _) ?_);unfold Builtin.«getset_descriptor.__get__» descrGet;rw[dga_obj];refine z9 (zh ?_);unfold descrGetter descrCheckInstance descrNameAndClass isInstance;simp only[KF.owner_class]
 repeat lk
 refine⟨Code.quiet_builtin _ (by decide +kernel),
  codeAny_builtin KF.entry_class ?_⟩;unfold Builtin.«object.__class__» shownTypeOf
 repeat lk
 exact h
end
theorem Al{Q:Option Value->Shared->Prop}(X:K.In s.heap)(T:ExcCls K C)(L0:Looks (model prog w) s.heap (typeOf (.ref a)) (.ref C))(h:Q (some (.ref C)) { s with toks:=s.toks+1 }):wpAny (model prog w) A (getAttr? (.ref a) "__class__") Q E s:=by
 obtain⟨hh,g,d,t,os⟩:=s;have L1:=looks_findIn (M:=model prog w) X T.ga;have L2:=looks_findIn (M:=model prog w) X T.gt;have L3:Looks (model prog w) hh (Builtin.ObjectAttr.find (.ref a) (.ref C) "__class__") (.bind (.builtin "getset_descriptor.__get__") (.builtin "object.__class__")):=by have M1:=looks_findIn (M:=model prog w) X T.cl;have M2:Looks (model prog w) hh (Builtin.ObjectAttr.getOf (some (.builtin "object.__class__"))) (some (.builtin "getset_descriptor.__get__")):=looks_specialIn X T.sp;have M3:=looks_takesIn (M:=model prog w) X T.tk;refine M1.andThen (M2.andThen ?_);exact(show Looks (model prog w) hh (Builtin.ObjectAttr.dataDescriptor? (some (.builtin "object.__class__")) (some (.builtin "getset_descriptor.__get__"))) (some (.builtin "getset_descriptor.__get__",.builtin "object.__class__")) from M3.andThen .now).andThen (Looks.tag .now)
 unfold getAttr? getAttrBy? getAttrBy;refine z9 (wpAny_mkText (z9 (lp (r0 (z9 (L0.at (z9 (L1.at ?_))))))));have hx2:(Value.builtin "BaseException.__getattribute__"==Value.builtin "object.__getattribute__")=false:=by decide +kernel
 dsimp only;rw[if_neg (by rw[hx2,Bool.and_false];exact wT)];unfold getAttrByItsOwn hookBefore;rw[if_pos (show onTheHeap (Value.ref C)=true from rfl)];refine z9 (L2.at ?_);refine z9 (lp (r0 ?_));unfold callGetattribute;rw[if_neg (by rw[Bool.false_and];exact wT)];unfold boundAndCalled;rw[F.attr_ValueError.ga.bind (.ref a)];refine z9 (zh ?_);show wpAny _ _ (call (.builtin "BaseException.__getattribute__") [.ref a,.str "__class__" t]) _ _ _;have LB:Looks (model prog w) hh (isInstance (.ref a) (.type "BaseException")) true:=L0.andThen (looks_subIn X T.be);have hk:builtinKind "BaseException.__getattribute__"=some .slot:=by decide +kernel
 have hsp:splitId "BaseException.__getattribute__"=some ("BaseException","__getattribute__"):=by decide +kernel
 have ha:=F.args_bexc_ga (.ref a) (.str "__class__" t);refine nE (codeAny_call_builtin F.attr_ValueError.ga.plain F.entry_bexc_ga ?_);simp only[checkBuiltinCall,hk,hsp];refine z9 (LB.at ?_);rw[if_neg (by decide)];refine bY (a:=()) ha ?_;unfold Builtin.«object.__getattribute__»;refine z9 (zh ?_);refine z9 (zh ?_);refine z9 (L0.at ?_);refine z9 (L3.at ?_);show wpAny _ _ (Builtin.ObjectAttr.bindTo (.builtin "getset_descriptor.__get__") (.builtin "object.__class__") (.ref a) (.ref C)) _ _ _;unfold Builtin.ObjectAttr.bindTo;dsimp only;exact z9 (r0 (nE (HG (s:=⟨hh,g,d,t+1,os⟩) X L0 T.mo (zh (handed_on rfl (zh h))))))
def EI(T:ExcCls K C):KitX K (.ref a) (.ref C) (λh=>∃ob,h.get? a=some ob/\ob.cls=.ref C) where
 ty:=λM h _ p=>by obtain⟨o,h1,h2⟩:=p;exact h2▸(Looks.ld h1).andThen .now
 it:=λM h X _=>by
  have z:=T.some;unfold clsIn at z;split at z;·rename_i c' d' cd' sl' ho;intro A' Q' E' s' k q;unfold isType loadHead;exact z9 (wpAny_loadPart (k _ _ (X _ _ ho)) (zh q))
  ·cases z
 ne:=λh tp dd its n sl X htp=>by
  refine Bool.eq_false_iff.mpr λq=>?_;have e:C=tp:=Value.ref.inj (qb.mp q);subst e;have z:=T.some;unfold clsIn at z;split at z;·rename_i c' d' cd' sl' ho;cases (X _ _ ho).symm.trans htp
  ·cases z
 ca:=λ{prog w A E Q s} X p k=>by obtain⟨o,h1,h2⟩:=p;exact Al X T (h2▸(Looks.ld h1).andThen .now) k
end
section
variable{A:Around}{Q:Value->Shared->Prop}
noncomputable def tyN:D->Option String
 |.non=>some "NoneType"
 |.bl _=>some "bool"
 |.int _=>some "int"
 |.str _=>some "str"
 |.tup _=>some "tuple"
 |.lst _ _=>some "list"
 |.exc _=>none
 |.dct _ _=>none
def Kd{x:V}{u c:Value}{T:String}{b:Bool}(I:Inv X pins σ H s)(sub:Same G H)(r:Rep X.K G x d)(ru:RelV x u)(ht:tyN d=some T)(e:kitOne X.K (.type T) c=some b)(h:∀tk,Q (.bool b) { s with toks:=tk }):
  wpAny (model X.prog X.w) A (call (.builtin "isinstance") [u,c]) Q E s:=by
 cases r with
 |non=>cases ht;cases ru;exact kia_one kitx_none I.kIn True.intro e (λz=>nomatch z) h
 |bl y=>cases ht;cases ru;exact kia_one kitx_bool I.kIn True.intro e (λz=>nomatch z) h
 |int i=>cases ht;obtain⟨t,rfl⟩:=ru;exact kia_one kitx_int I.kIn True.intro e (λz=>nomatch z) h
 |str y hy=>cases ht;obtain⟨t,rfl⟩:=ru;exact kia_one kitx_str I.kIn True.intro e (λz=>nomatch z) h
 |tup hh t=>cases ht;cases ru;obtain⟨its,rv,⟨o,h1,h2,_⟩,_⟩:=I.tuple (hh.mono sub);exact kia_one kitx_tuple I.kIn ⟨o,h1,h2⟩ e (λz=>nomatch z) h
 |lst hh t=>cases ht;cases ru;obtain⟨its,rv,⟨o,n,h1,h2,_⟩,_⟩:=I.list ((SqL.of hh:SqL X.K G _ _).mono sub);exact kia_one kitx_list I.kIn ⟨o,h1,h2⟩ e (λz=>nomatch z) h
 |fls hh t=>cases ht;cases ru;obtain⟨its,rv,⟨o,n,h1,h2,_⟩,_⟩:=I.list (hh.mono sub);exact kia_one kitx_list I.kIn ⟨o,h1,h2⟩ e (λz=>nomatch z) h
 |exc hh=>cases ht
 |dct _ _ _=>cases ht
def Da{x:V}{u c:Value}{b:Bool}(I:Inv X pins σ H s)(sub:Same G H)(r:Rep X.K G x (.exc C))(ru:RelV x u)(T:ExcCls X.K C)(e:kitOne X.K (.ref C) c=some b)(h:∀tk,Q (.bool b) { s with toks:=tk }):
  wpAny (model X.prog X.w) A (call (.builtin "isinstance") [u,c]) Q E s:=by
 obtain⟨a,rfl,hh⟩:=r.exc_inv;cases ru;obtain⟨h1,_,_⟩:=(show ObjOk X.prog X.w H s.heap a (.ext (kh a C)) from I.hok a _ (sub _ _ hh))
 exact kia_one (EI T) I.kIn h1 e (λz=>nomatch z) h
end
section
variable{e:Expr}{ga:Ev->R D}{p2 pos:Pos}
def kn(f:String->Bool)(d:D):R D:=match tyN d with
 |some t=>.ok (.bl (f t))
 |none=>.no
def oz{T:String}(f:String->Bool)(hf:∀K:Frag,∀t∈["NoneType","bool","int","str","tuple","list"],kitOne K (.type t) (.type T)=some (f t))(hg:Gl X "isinstance")(hm:X.mg "isinstance"=none)(hg2:Gl X y)(hm2:X.mg y=none)(hv:bootBuiltins y=some (.type T))(ha:PF X e ga)(hs1:starEach [e,.Name y p2] X.env=(false,eval e X.env)::starEach [.Name y p2] X.env:=by rfl)(hn:y≠"__name__":=by decide)(hdb:(y==("__debug__":Str))=false:=by decide):
  PF X (.Call (.Name "isinstance" p) [e,.Name y p2] [] pos) (λρ=>ga ρ>>=kn f):=by
 intro pins s σ H Q I h;have hc:ky X (.builtin "isinstance") (λxs H Q=>∃x G d,xs=[x,.ty T]/\Same G H/\Rep X.K G x d/\∃t,tyN d=some t/\Q (.bl (f t)) H):=by
  intro pins s σ H xs us Q I r ⟨x,G,d,ex,sub,rd,t,et,q⟩;subst ex;obtain⟨u,u2,rfl,r1,r2⟩:=r.two;cases r2;refine Kd I sub rd r1 et (hf X.K t ?_) λtk=>⟨.bl (f t),H,I.tok tk,rfl,q⟩
  cases d <;> cases et <;> simp
 refine lM hc hg hm PyProof.Rows.Boot.«isinstance» (dM ha (dM (tP (v:=.ty T) hg2 hm2 hv rfl hn hdb) jI) hs1) (by decide) (by decide) hs1 rfl pins s σ H Q I ?_;obtain⟨G,ρ,st,h⟩:=h;refine tG.intro st h λx v G1 H1 u1 st1 r1 h1=>?_;refine⟨v,G1,x,rfl,st1.sub,r1,?_⟩;unfold kn at h1;cases et:tyN x with
 |none=>rw[et]at h1;exact h1.elim
 |some t=>rw[et]at h1;exact⟨t,rfl,h1 _ G1 H1 (.refl st1.sub) (.bl _)⟩
def nH(f:Addr->Option Bool)(d:D):R D:=match d with
 |.exc C=>ofO ((f C).map .bl)
 |_=>.no
def AS{v2:V}{u2:Value}(f:Addr->Option Bool)(hf:∀C b,f C=some b->ExcCls X.K C/\kitOne X.K (.ref C) u2=some b)(hg:Gl X "isinstance")(hm:X.mg "isinstance"=none)(hy:PE X (.Name y p2) (tC v2))(hr:RelV v2 u2)(hr2:∀u,RelV v2 u->u=u2)(ha:PF X e ga)(hs1:starEach [e,.Name y p2] X.env=(false,eval e X.env)::starEach [.Name y p2] X.env:=by rfl):
  PF X (.Call (.Name "isinstance" p) [e,.Name y p2] [] pos) (λρ=>ga ρ>>=nH f):=by
 intro pins s σ H Q I h;have hc:ky X (.builtin "isinstance") (λxs H Q=>∃x G C b,xs=[x,v2]/\Same G H/\Rep X.K G x (.exc C)/\f C=some b/\Q (.bl b) H):=by intro pins s σ H xs us Q I r ⟨x,G,C,b,ex,sub,rd,ef,q⟩;subst ex;obtain⟨u,w,rfl,r1,r2⟩:=r.two;obtain rfl:=hr2 w r2;exact Da I sub rd r1 (hf C b ef).1 (hf C b ef).2 λtk=>⟨.bl b,H,I.tok tk,rfl,q⟩
 refine lM hc hg hm PyProof.Rows.Boot.«isinstance» (dM ha (dM hy jI) hs1) (by decide) (by decide) hs1 rfl pins s σ H Q I ?_;obtain⟨G,ρ,st,h⟩:=h;refine tG.intro st h λx v G1 H1 u1 st1 r1 h1=>?_;cases x with
 |exc C=>
  cases ef:f C with
  |none=>simp only[nH,ef]at h1;exact h1.elim
  |some b=>simp only[nH,ef]at h1;exact⟨v,G1,C,b,rfl,st1.sub,r1,ef,h1 _ G1 H1 (.refl st1.sub) (.bl b)⟩
 |_=>exact h1.elim
end
end L2
namespace L2
open PySem PySem.Spec PyProof.Rows
def yi:List D->Option (List Bool)
 | []=>some []
 |.bl b::ds=>(yi ds).map (b::·)
 |_=>none
theorem Reps.bls{K:PySem.W.Frag}:∀{vs:List V}{ds:List D}{bs:List Bool},Reps K G vs ds->yi ds=some bs->vs=bs.map .bl
 |_,_,bs,.nil,e=>by cases e;rfl
 |_,_,bs,.cons r t,e=>by
  cases r with
  |bl b=>
   rename_i ds;unfold yi at e;cases q:yi ds with
   |none=>rw[q]at e;cases e
   |some cs=>rw[q]at e;cases e;rw[Reps.bls t q];rfl
  |_=>simp[yi]at e
theorem Vals.bls:∀{bs:List Bool}{us:List Value},Vals (bs.map V.bl) us->us=bs.map Value.bool
 | [],_,.nil=>rfl
 |b::bs,_,.cons r t=>by rw[Vals.bls t,show _=Value.bool b from r];rfl
section
variable{e o:Expr}{ga:Ev->R D}{pos:Pos}
noncomputable def P4(K:PySem.W.Frag)(f:List Bool->Bool):List V->Hp->VK->Prop:=λxs H Q=>∃p bs,xs=[.ref p]/\SqL K H p (bs.map V.bl)/\Q (.bl (f bs)) H
def BX(A:Around)(prog:Program)(w:World)(bs:List Bool):TruthOf prog w A (λi v=>(bs.map Value.bool).toArray[i]?=some v) (λi=>bs.getD i true):=by
 intro i v s Q E hP hQ;rw[List.getElem?_toArray,ue]at hP;cases q:bs[i]? with
 |none=>rw[q]at hP;cases hP
 |some b=>
  rw[q]at hP;cases hP;have e:bs.getD i true=b:=by rw[uF,q];rfl
  have hQ:Q (bs.getD i true) s:=hQ;rw[e]at hQ;exact qE hQ
def CD(hc:X.calm=true):ky X (.builtin "all") (P4 X.K λbs=>bs.all id):=by
 intro pins s σ H xs us Q I r ⟨p,bs,ex,hs,q⟩;subst ex;obtain⟨u,rfl,r1⟩:=r.one;cases r1;obtain⟨its,rv,pl,hz⟩:=I.list hs;obtain rfl:=rv.bls;have hh:X.A.in1.handled=none:=I.ok.hd hc;have hlt:p<s.heap.objs.size:=by obtain⟨o,n,e,_⟩:=id pl;exact zy e
 refine call_all_walk (d6 pl.isList ?_);refine⟨s.heap.objs.size,[s.heap.objs.size,p],[s.heap.objs.size],_,_,_,λi=>bs.getD i true,rfl,Walks.list hh s.heap.objs.size p (xD hlt) (bs.map Value.bool).toArray,⟨⟨_,xG _ rfl,rfl,rfl⟩,?_⟩,BX _ _ _ bs,λh' tk hk=>?_⟩;·obtain⟨o,n,e,c,_,d⟩:=id pl;exact⟨o,zT _ e,c,n,d⟩
 ·have e:(List.range (bs.map Value.bool).toArray.size).all (λi=>bs.getD i true)=bs.all id:=by rw[xm,uc];exact nW rfl
  rw[e];refine⟨.bl _,H,I.kept (t':=tk) λb o eb=>hk b o (λz=>?_) (zT _ eb),rfl,q⟩;have:b=s.heap.objs.size:=by simpa using z
  exact qt _ (this▸zy eb)
def yx:List D->Option D
 | [.lst _ ds]=>(yi ds).map λbs=>.bl (bs.all id)
 |_=>none
def Lg(hc:X.calm=true)(hg:Gl X "all")(hm:X.mg "all"=none)(ha:PFA X [e] gl)(he:starEach [e] X.env=[(false,eval e X.env)]:=by rfl):PF X (.Call (.Name "all" p) [e] [] pos) (λρ=>gl ρ>>=λds=>ofO (yx ds)):=
 ly (CD hc) (by
  intro G H xs ds d Q s r e q;unfold yx at e;split at e
  ·rename_i f ds;obtain⟨v,rfl,r1⟩:=r.one;obtain⟨a,vs,rfl,h,t⟩:=r1.seq_inv;cases eb:yi ds with
   |none=>rw[eb]at e;cases e
   |some bs=>rw[eb]at e;cases e;obtain rfl:=t.bls eb;exact⟨a,bs,rfl,h.mono s,q _ G H (.refl s) (.bl _)⟩
  ·cases e) hg hm PyProof.Rows.Boot.«all» ha (he:=by rw[he];rfl)
noncomputable def BA(K:PySem.W.Frag)(T:String)(r:V->List V->Hp->VK->Prop)(f:D->List D->Option D):Prop:=∀(G H:Hp)(x:V)(xs:List V)(dx:D)(ds:List D)(d:D)(Q:VK),Same G H->Rep K G x dx->Reps K G xs ds->f dx ds=some d->Fin G H (Rep K) Q d->r x xs H Q
def lm(T:String):D->Bool
 |.str _=>T=="str"
 |.lst _ _=>T=="list"
 |_=>false
def iA{T id:String}{name:Str}{ap cp:Pos}{r:V->List V->Hp->VK->Prop}{f:D->List D->Option D}(pa:PlainAttrs T)(slot:PySem.Slot T name id)(hty:typeOf (.builtin id)=pure (.type "method_descriptor"))(hm:MtR X id r)(hf:BA X.K T r f)(ho:PF X o ga)(ha:PFA X (e::es) gl)(hbase:attributeBase o name X.env (eval o X.env)=eval o X.env:=by rfl)(hfew:((backTo cp (starEach (e::es) X.env)).all (λx=>!x.1) && (backToKw cp (keywordEach [] X.env)).all (λx=>x.1.isSome)
 && decide ((e::es).length+([]:List Keyword).length+(if ([]:List Keyword).isEmpty then 0 else 1)<30))=true:=by rfl)(hline:(ap.endLine==cp.line)=true:=by rfl)(hs:starEach (e::es) X.env=(false,eval e X.env)::starEach es X.env:=by rfl)(hplain:(backTo cp (starEach es X.env)).any (·.1)=false:=by rfl):
  PF X (.Call (.Attribute o name ap) (e::es) [] cp) (λρ=>ga ρ>>=λx=>if lm T x=true then gl ρ>>=λds=>ofO (f x ds)else .no):=by
 intro pins s σ H Q I h;refine Hl pa slot hty hm ho ha hbase hfew hline hs hplain pins s σ H Q I ?_;obtain⟨G,ρ,st,h⟩:=h;refine tG.intro st h λx v G1 H1 u1 st1 r1 h1=>?_;by_cases hk:lm T x=true
 ·rw[if_pos hk]at h1;have ty:tyV X.K T v H1:=by
   cases r1 with
   |str y hy=>exact show T="str" by simpa[lm]using hk
   |lst hh t=>exact .inl ⟨by simpa[lm]using hk,_,.of (st1.sub _ _ hh)⟩
   |fls hh t=>exact .inl ⟨by simpa[lm]using hk,_,hh.mono st1.sub⟩
   |_=>cases hk
  refine⟨ty,tG.intro st1 h1 λds vs G2 H2 u2 st2 r2 h2=>?_⟩;obtain⟨d,e',q⟩:=ofO.ok h2;exact hf G2 H2 v vs x ds d Q st2.sub (r1.mono u2.gg) r2 e' q
 ·rw[if_neg hk]at h1;exact h1.elim
def Str.of_list{x:List Nat}(e:y.cps.toList=x):(⟨x.toArray⟩:Str)=y:=by subst e;simp
def FG{A:Around}{bs:List Bool}(k:Bool):∀y,y∈(bs.map Value.bool).toArray->SeqAt.EqAt A s y (.bool k) (y==.bool k):=λy hy=>by
 obtain⟨b,_,rfl⟩:=o9.mp (List.mem_toArray.mp hy);have:=SeqAt.EqAt.bool_bool (A:=A) (s:=s) b k;have e:(Value.bool b==Value.bool k)=(b==k):=by cases b <;> cases k <;> rfl
 rw[e];exact this
noncomputable def Fx(K:PySem.W.Frag):V->List V->Hp->VK->Prop:=λx vs H Q=>∃(l:Addr)(bs:List Bool)(k:Bool),x=.ref l/\vs=[.bl k]/\SqL K H l (bs.map V.bl)/\Q (.int (bs.count k:Nat)) H
def Aj(bs:List Bool)(k:Bool):(bs.map Value.bool).countP (·==.bool k)=bs.count k:=by
 rw[List.countP_map];unfold List.count
 congr 1
 funext b
 cases b <;> cases k <;> rfl
theorem DB:MtR X "list.count" (Fx X.K):=by intro pins s σ H x xs v us Q I rx rv ⟨l,bs,k,ex,exs,hs,q⟩;subst ex exs;cases rx;obtain⟨u,rfl,r1⟩:=rv.one;cases r1;obtain⟨its,rv',⟨⟨cls,dd,data,sl⟩,n,eo,c,_,d⟩,hz⟩:=I.list hs;obtain rfl:=rv'.bls;simp only at c d;subst c d;refine sZ F.slot_list_count ⟨_,eo,rfl⟩ F.entry_list_count (F.args_list_count_2 _ _) (SeqAt.list_countAt l (bs.map Value.bool).toArray n dd sl (.bool k) (·==.bool k)) ⟨eo,FG k,?_⟩;rw[Zj,Aj];exact⟨.int _,H,I.tok _,⟨_,rfl⟩,q⟩
def mV:D->List D->Option D
 |.lst _ ds,[.bl k]=>(yi ds).map λbs=>.int (bs.count k:Nat)
 |_,_=>none
def EA(K:PySem.W.Frag):BA K "list" (Fx K) mV:=by
 intro G H x xs dx ds d Q s rx rs e q;unfold mV at e;split at e
 ·rename_i f ds k;obtain⟨v,rfl,r1⟩:=rs.one;obtain rfl:=r1.bl_inv;obtain⟨a,vs,rfl,h,t⟩:=rx.seq_inv;cases eb:yi ds with
  |none=>rw[eb]at e;cases e
  |some bs=>rw[eb]at e;cases e;obtain rfl:=t.bls eb;exact⟨a,bs,k,rfl,rfl,h.mono s,q _ G H (.refl s) (.int _)⟩
 ·cases e
noncomputable def FF(K:PySem.W.Frag):V->List V->Hp->VK->Prop:=λx vs H Q=>∃(l:Addr)(bs:List Bool)(k:Bool),x=.ref l/\vs=[.bl k]/\SqL K H l (bs.map V.bl)/\k∈bs/\Q (.int (bs.idxOf k:Nat)) H
theorem rQ(k:Bool):∀(bs:List Bool)(m:Nat),m<bs.idxOf k->bs[m]?≠some k
 | [],m,h=>by simp
 |b::bs,m,h=>by
  rw[List.idxOf_cons]at h;cases hb:(b==k)with
  |true=>rw[hb]at h;exact absurd h (Nat.not_lt_zero _)
  |false=>
   rw[hb]at h;cases m with
   |zero=>intro e;have e1:=xz e;rw[e1,aT]at hb;cases hb
   |succ m=>rw[Zv];exact rQ k bs m (Nat.lt_of_succ_lt_succ h)
theorem EE:MtR X "list.index" (FF X.K):=by
 intro pins s σ H x xs v us Q I rx rv ⟨l,bs,k,ex,exs,hs,hk,q⟩;subst ex exs;cases rx;obtain⟨u,rfl,r1⟩:=rv.one;cases r1;obtain⟨its,rv',⟨⟨cls,dd,data,sl⟩,n,eo,c,_,d⟩,hz⟩:=I.list hs;obtain rfl:=rv'.bls;simp only at c d;subst c d;have hlt:bs.idxOf k<bs.length:=List.idxOf_lt_length_iff.mpr hk;have hsz:bs.length<=sizeLine:=by simpa using hz
 have h63:=mF;have tob:∀a b:Bool,(Value.bool a==Value.bool b)=(a==b):=λa b=>by cases a <;> cases b <;> rfl
 refine sZ F.slot_list_index ⟨_,eo,rfl⟩ F.entry_list_index (F.args_list_index_2 _ _) (SeqAt.list_indexAt l (bs.map Value.bool).toArray n dd sl (.bool k) (·==.bool k) (bs.idxOf k) (by simpa using hlt) (by omega) ?_ ?_) ⟨eo,FG k,?_⟩;·simp only[Zg,List.getElem_map,tob];exact qb.mpr (List.getElem_idxOf hlt)
 ·intro m hm hlt';simp only[Zg,List.getElem_map,tob];have hm':m<bs.length:=by simpa using hm
  cases hq:(bs[m]==k)with
  |false=>rfl
  |true=>exact absurd (by rw[t5 hm',qb.mp hq]) (rQ k bs m hlt')
 ·exact⟨.int _,H,I.tok _,⟨_,rfl⟩,q⟩
noncomputable def mR:D->List D->Option D
 |.lst _ ds,[.bl k]=>(yi ds).bind λbs=>if k∈bs then some (.int (bs.idxOf k:Nat))else none
 |_,_=>none
def DZ(K:PySem.W.Frag):BA K "list" (FF K) mR:=by
 intro G H x xs dx ds d Q s rx rs e q;unfold mR at e;split at e
 ·rename_i f ds k;obtain⟨v,rfl,r1⟩:=rs.one;obtain rfl:=r1.bl_inv;obtain⟨a,vs,rfl,h,t⟩:=rx.seq_inv;cases eb:yi ds with
  |none=>rw[eb]at e;cases e
  |some bs=>
   rw[eb,Option.bind_some]at e;split at e;·rename_i hk;cases e;obtain rfl:=t.bls eb;exact⟨a,bs,k,rfl,rfl,h.mono s,hk,q _ G H (.refl s) (.int _)⟩
   ·cases e
 ·cases e
def DQ{ap cp:Pos}(ho:PF X o ga)(ha:PFA X [e] gl)(hbase:attributeBase o "count" X.env (eval o X.env)=eval o X.env:=by rfl)(hfew:((backTo cp (starEach [e] X.env)).all (λx=>!x.1) && (backToKw cp (keywordEach [] X.env)).all (λx=>x.1.isSome)
 && decide ([e].length+([]:List Keyword).length+(if ([]:List Keyword).isEmpty then 0 else 1)<30))=true:=by rfl)(hline:(ap.endLine==cp.line)=true:=by rfl)(hs:starEach [e] X.env=(false,eval e X.env)::starEach [] X.env:=by rfl):
  PF X (.Call (.Attribute o "count" ap) [e] [] cp) (λρ=>ga ρ>>=λx=>if lm "list" x=true then gl ρ>>=λds=>ofO (mV x ds)else .no):=
 iA c8 PySem.F.slot_list_count PySem.F.type_list_count DB (EA _) ho ha hbase hfew hline hs rfl
def EO{ap cp:Pos}(ho:PF X o ga)(ha:PFA X [e] gl)(hbase:attributeBase o "index" X.env (eval o X.env)=eval o X.env:=by rfl)(hfew:((backTo cp (starEach [e] X.env)).all (λx=>!x.1) && (backToKw cp (keywordEach [] X.env)).all (λx=>x.1.isSome)
 && decide ([e].length+([]:List Keyword).length+(if ([]:List Keyword).isEmpty then 0 else 1)<30))=true:=by rfl)(hline:(ap.endLine==cp.line)=true:=by rfl)(hs:starEach [e] X.env=(false,eval e X.env)::starEach [] X.env:=by rfl):
  PF X (.Call (.Attribute o "index" ap) [e] [] cp) (λρ=>ga ρ>>=λx=>if lm "list" x=true then gl ρ>>=λds=>ofO (mR x ds)else .no):=
 iA c8 PySem.F.slot_list_index PySem.F.type_list_index EE (DZ _) ho ha hbase hfew hline hs rfl
end
noncomputable def qa:List Nat->List D->Ev->R Ev
 | [],[],ρ=>.ok ρ
 |i::is,d::ds,ρ=>qa is ds (ρ.set i (some (.val d)))
 |_,_,_=>.no
theorem rN:∀(is:List Nat)(ds:List D)(ρ:Ev)(C:Addr),qa is ds ρ≠.ex C
 | [],[],_,_=>by intro z;cases z
 | [],_::_,_,_=>by intro z;cases z
 |_::_,[],_,_=>by intro z;cases z
 |i::is,d::ds,ρ,C=>rN is ds _ C
section
variable{e:Expr}{ga:Ev->R D}{pos:Pos}
noncomputable def JA(X:Cx)(es:List Expr)(is:List Nat):Prop:=PGs X es (λvs σ H Q=>∃G₀ H₀ G ρ ds ρ',StR X.K G₀ H₀ G H σ ρ/\Reps X.K G vs ds/\qa is ds ρ=.ok ρ'/\∀σ',StR X.K G₀ H₀ G H σ' ρ'->Q σ' H)
def lN:JA X [] []:=by
 intro pins s σ H vs us Q I r h;obtain⟨G₀,H₀,G,ρ,ds,ρ',sr,rd,e,q⟩:=h;refine GE pins s σ H vs us Q I r ?_;cases rd with
 |nil=>cases e;exact⟨rfl,q σ sr⟩
 |cons _ _=>cases e
def dQ(i:Nat){x:Str}(hN:X.N.Nodup)(h2:JA X es is)(hi:X.N[i]?=some x:=by rfl)(hx:Loc X.env.scope x:=by first|exact Or.inl rfl|exact Or.inr rfl)(hs:(assignEach (.Name x p::es) X.env).map (·.2)=assign (.Name x p) X.env::(assignEach es X.env).map (·.2):=by rfl)(hf:X.fn x=true\/X.env.scope.names.lookup x=some .local:=by first|exact .inl rfl|exact .inr rfl):
  JA X (.Name x p::es) (i::is):=by
 intro pins s σ H vs us Q I r h;obtain⟨G₀,H₀,G,ρ,ds,ρ',sr,rd,e,q⟩:=h;refine DR (mf (i:=i) hN hi hx hf) h2 hs pins s σ H vs us Q I r ?_;cases rd with
 |nil=>cases e
 |cons r1 t1=>exact⟨_,_,rfl,G₀,H₀,G,_,_,ρ',sr.set r1 i,t1,e,q⟩
def CN(is:List Nat)(d:D)(ρ:Ev):R Ev:=match d with
 |.tup ds=>qa is ds ρ
 |_=>.no
theorem wt:∀(is:List Nat)(ds:List D)(ρ ρ':Ev),qa is ds ρ=.ok ρ'->ds.length=is.length
 | [],[],_,_,_=>rfl
 | [],_::_,_,_,e=>by cases e
 |_::_,[],_,_,e=>by cases e
 |i::is,d::ds,ρ,ρ',e=>by simp[wt is ds _ ρ' e]
def oy(hc:X.calm=true)(h:JA X es is)(hn:(assignEach es X.env).length=is.length:=by rfl)(hst:(assignEach es X.env).findIdx? (·.1)=none:=by rfl):PGF X (.Tuple es k pos) (CN is):=by
 intro pins s σ H v u Q I r q;obtain⟨G₀,H₀,G,ρ,d,ρ',sr,rd,e,q⟩:=q;refine Lk hc h hn hst pins s σ H v u Q I r ?_;cases rd with
 |tup hh t=>rename_i ds;exact⟨_,_,rfl,hh.mono sr.e.sub,by rw[t.length];exact wt is ds ρ ρ' e,G₀,H₀,G,ρ,ds,ρ',sr,t,e,q⟩
 |_=>cases e
def pd(is:List Nat):∀(d:D)(ρ:Ev)(C:Addr),CN is d ρ≠.ex C:=λd ρ C=>by
 cases d with
 |tup ds=>exact rN is ds ρ C
 |_=>intro z;cases z
def CV(i j:Nat){x:Str}{a b:Expr}{px pt pt2:Pos}{kt k2:Nat}(hc:X.calm=true)(hN:X.N.Nodup)(ha:PFA X [a,b] gl)(hij:i≠j)(hi:X.N[i]?=some x:=by rfl)(hj:X.N[j]?=some y:=by rfl)(hx:X.env.scope.names.lookup x=some .local:=by rfl)(hy:X.env.scope.names.lookup y=some .local:=by rfl)(hw:swappedStores [.Tuple [.Name x px,.Name y py] kt pt] (.Tuple [a,b] k2 pt2) X.env=pure (some [x,y]):=by rfl)(hs:swapsWithSole [.Tuple [.Name x px,.Name y py] kt pt] (.Tuple [a,b] k2 pt2) pos.line X.env=pure false:=by rfl):
  PSF X (.Assign [.Tuple [.Name x px,.Name y py] kt pt] (.Tuple [a,b] k2 pt2) pos) (λρ=>(gl ρ).out ρ λds=>(qa [i,j] ds ρ).out ρ .nx):=λG₀ H₀ pins s σ H D I h=>by
 refine LZ hc hN hi hj hij hx hy ha hw hs pins s σ H D I ?_;obtain⟨G,ρ,sr,h⟩:=h;dsimp only at h;refine⟨G,ρ,sr.e,?_⟩;cases q:gl ρ with
 |ok ds=>
  rw[q]at h;simp only[R.out]at h;intro vs G' H' u r;cases r with
  |nil=>exact h.elim
  |cons r1 t1=>
   cases t1 with
   |nil=>exact h.elim
   |cons r2 t2=>
    cases t2 with
    |nil=>exact⟨_,_,rfl,h _ G' H' (((sr.ups u).set r1 i).set r2 j)⟩
    |cons _ _=>exact h.elim
 |ex C=>rw[q]at h;exact Exx.of sr h
 |no=>rw[q]at h;exact h
def zO{x:Str}{np cp:Pos}{bm:List Value}{B newId initId:String}(Oc:OwnCls x C bm newId X.mg X.base)(FB:ExcBaseFacts B newId initId bm)(hh:X.A.handled=none)(hg:Gl X x)(ha:PFA X [e] gl)(hdb:(x==("__debug__":Str))=false:=by decide)(hs:starEach [e] X.env=(false,eval e X.env)::starEach [] X.env:=by rfl)(hz:∀ρ ds,gl ρ=.ok ds->ds.length<=1:=by intro _ _ z;first|(cases z;decide)|skip):
  PSF X (.Raise (some (.Call (.Name x np) [e] [] cp)) none pos) (λρ=>(gl ρ).out ρ λ_=>.ex C ρ):=λG₀ H₀ pins s σ H D I h=>by
 obtain⟨G,ρ,sr,h⟩:=h;dsimp only at h;obtain⟨tl,N,nm,qn,bs,hdct,sn,sub,ab,col,dd,k0,k1,k2,k3,k5,mN,hC,hN,hni,T⟩:=Oc.obj;refine wpAny_Raise_call_subT (C:=C) (nm:=nm) (q:=qn) (N:=N) (bs:=bs) (bm:=tl) (hdct:=hdct) (sn:=sn) (sub:=sub) (ab:=ab) (col:=col) (dd:=dd) (k0:=k0) (k1:=k1) (k2:=k2) (k3:=k3) (k5:=k5)
  FB (mN:=mN) (T.hasType FB.hasBase) hh (by rw[hs];rfl) hni (mj I hg Oc.bound ⟨rfl,?_⟩ hdb);have t:tAF X gl σ H (λvs H1=>vs.length<=sizeLine/\∃G1,Up G H G1 H1/\jW X G₀ H₀ D (.ex C ρ)):=by
  refine⟨G,ρ,sr.e,?_⟩;cases q:gl ρ with
  |ok ds=>rw[q]at h;intro vs G1 H1 u r;exact⟨by rw[r.length];exact xS (hz ρ ds q) (by decide),G1,u,h⟩
  |ex C'=>rw[q]at h;exact Exx.of sr h
  |no=>rw[q]at h;exact h
 have hA:=ha cp pins s σ H _ I t;rw[hs]at hA⊢;refine Calls.evalArgs_plain (yT hA (λvs s₂ q=>?_) λ_ _ y=>y);obtain⟨vs',H1,I1,r,hz,G1,u,h⟩:=q;exact⟨rfl,by show vs.length<=sizeLine;rw[<- r.length];exact hz,I1.bk _ _ hC,hN.keeps I1.bk,T.keeps I1.bk,λh' a made=>h _ _ (.of (sr.ups u) ⟨pins,s₂,a,rfl,I1,.inl ⟨h',vs,made,rfl⟩⟩)⟩
end
section
def Inv.unset{x:Str}{m:Str->Option Value}{u:Option Value}(I:Inv X pins σ H s)(hN:X.N.Nodup)(hi:X.N[i]?=some x)(hm:∀(j:Nat)(y:Str)(v:V),X.N[j]?=some y->σ[j]?=some (some v)->Vis X.env.scope y->∃u,RelV v u/\O3 X.env s.heap m y u)(hn:h'.Ns X.env.locals (λy=>if y=x then u else m y))(sb:Heap.SameBut X.env.locals s.heap h'):
  Inv X pins (σ.set i none) H { s with heap:=h' }:=by
 have kp:∀b o,b≠X.env.locals->s.heap.get? b=some o->h'.get? b=some o:=λb o hb e=>(sb.2 b hb).trans e;refine⟨I.ok,I.os,I.bare,I.base.sameBut kp I.ok.above,⟨_,hn,λj y v h1 h2 h3=>?_⟩,λy c e=>?_,I.free,I.freeC,λp hp=>?_,I.hok.sameBut kp I.free,by simp[I.len]⟩
 ·have hj:i≠j:=λz=>by subst z;rw[d8]at h2;simp only[wO]at h2;split at h2 <;> cases h2
  rw[t8 hj]at h2;have hy:y≠x:=λz=>hj (tX hN hi (z▸h1));obtain⟨w,rw',lk⟩:=hm j y v h1 h2 h3;refine⟨w,rw',?_⟩;rcases lk with⟨k,e⟩|⟨k,c,hc,cell⟩;·exact .inl ⟨k,by show(if y=x then u else m y)=some w;rw[if_neg hy];exact e⟩
  ·exact .inr ⟨k,c,hc,cell.sameBut sb (I.cne y c hc)⟩
 ·obtain⟨v,q⟩:=I.cell y c e;exact⟨v,q.sameBut sb (I.cne y c e)⟩
 ·obtain⟨p1,p2,p3,p4,p5⟩:=I.pin p hp;exact⟨kp _ _ p3 p1,p2,p3,p4,p5⟩
def Inv.cx{A':Around}{calm':Bool}{pn' pins':List (Addr×Obj)}{xe':Value->Shared->Prop}(I:Inv X pins σ H s)(hp:∀p∈pn'++pins',p∈X.pn++pins)(hA:A'.frames=X.A.frames)(hd:calm'=true->A'.handled=none):
  Inv { X with A:=A',calm:=calm',pn:=pn',xe:=xe' } pins' σ H s:=
 ⟨⟨I.ok.mod,I.ok.kind,I.ok.glob,I.ok.blt,I.ok.above,I.ok.inj,I.ok.has,I.ok.cab,hd,hA.trans I.ok.frames,I.ok.stk,I.ok.exf,I.ok.bs,I.ok.bsz,I.ok.noex,I.ok.exfs,I.ok.funs,I.ok.frf,I.ok.tabs⟩,
  I.os,I.bare,I.base,I.loc,I.cell,I.free,I.freeC,λp q=>I.pin p (hp p q),I.hok,I.len⟩
end
noncomputable def Gd(gb gs:Ev->O)(f:Addr->Option Bool)(i:Nat):Ev->O:=λρ=>match gb ρ with
 |.ex C ρ'=>(match f C with
  |some true=>(match gs (ρ'.set i (some (.val (.exc C))))with
   |.nx ρ''=>.nx (ρ''.set i none)
   |.rt d=>.rt d
   |_=>.no)
  |_=>.no)
 |o=>o
section
variable{suite:List Stmt}{b₀:Stmt}{gb gs:Ev->O}{pos hp tp:Pos}{tn nm:Str}{Ct:Addr}
noncomputable abbrev qL(X:Cx)(pn:List (Addr×Obj))(xe:Value->Shared->Prop):Cx:={ X with A:=X.A,calm:=X.calm,pn:=pn,xe:=xe }
noncomputable abbrev oA(X:Cx)(a:Addr)(xe:Value->Shared->Prop):Cx:={ X with A:=X.A.mark (some (.ref a)),calm:=false,pn:=X.pn,xe:=xe }
def Fa(pr:St->Prop)(i:Nat)(f:Addr->Option Bool)(hN:X.N.Nodup)(hcalm:X.calm=true)(hst:X.stack=X.env::X.outer)(hfr:X.env.frame=some X.env.locals)(hkd:X.env.scope.kind=.function)(G₀ H₀:Hp)(hb:∀pn xe,PSs (qL X pn xe) body λD σ H=>pr σ/\tS (qL X pn xe) G₀ H₀ gb D σ H)(hh:∀a xe,lO (oA X a xe) (b₀::suite) gs)(hf:∀C,f C=some true->PySem.W.exmOne X.K (.ref C) (.ref Ct)=some true)(hg:Gl X tn)(hm:X.mg tn=some (.ref Ct))(hi:X.N[i]?=some nm)(hx:X.env.scope.names.lookup nm=some .local)(hdb:(tn==("__debug__":Str))=false:=by decide):
  PS X (.Try body [.ExceptHandler (some (.Name tn tp)) (some nm) (b₀::suite) hp] [] [] pos) λD σ H=>pr σ/\tS X G₀ H₀ (Gd gb gs f i) D σ H:=λpins s σ H D I h=>by
 obtain⟨hpr,G,ρ,sr,h⟩:=h;refine wpAny_Try_except ?_;have fs:frs X.stack=X.env.locals::frs X.outer:=by rw[hst];exact sJ hfr
 have I1:∀xe,Inv (qL X (X.pn++pins) xe) [] σ H s:=λxe=>I.cx (λp q=>by simpa using q) rfl I.ok.hd;have back:∀{xe:Value->Shared->Prop}{pins':List (Addr×Obj)}{σ':St}{H':Hp}{s':Shared},Inv (qL X (X.pn++pins) xe) pins' σ' H' s'->Inv X pins σ' H' s':=λJ=>(J.cx (pn':=X.pn) (pins':=pins) (xe':=X.xe) (λp q=>mP _ q) rfl J.ok.hd:Inv { (qL X (X.pn++pins) _)with A:=X.A,calm:=X.calm,pn:=X.pn,xe:=X.xe } pins _ _ _)
 refine yT (hb (X.pn++pins) (λe s₁=>wpAny (model X.prog X.w) X.A (noteFrame e X.env) (λ_ s₂=>wpAny (model X.prog X.w) X.A (setFlight e none) (λ_ s₃=>wpAny (model X.prog X.w) X.A (handleBy e X.env [.ExceptHandler (some (.Name tn tp)) (some nm) (b₀::suite) hp]) (SP X pins D) X.xe s₃) X.xe s₂) X.xe s₁) [] s σ H D (I1 _) ⟨hpr,G,ρ,sr,?_⟩) (λfl s₁ q=>?_) λe s₁ q=>q
 case refine_2=>
  cases fl with
  |next=>obtain⟨σ',H',J,q⟩:=q;exact io ⟨σ',H',back J,q⟩
  |brk=>obtain⟨σ',H',J,q⟩:=q;exact⟨σ',H',back J,q⟩
  |cont=>obtain⟨σ',H',J,q⟩:=q;exact⟨σ',H',back J,q⟩
  |ret u=>obtain⟨v,σ',H',J,r,q⟩:=q;exact⟨v,σ',H',back J,r,q⟩
 unfold Gd at h;cases q:gb ρ with
 |nx ρ'=>rw[q]at h;exact h
 |rt d=>rw[q]at h;exact h
 |re d ρ'=>rw[q]at h;exact h
 |bk ρ'=>rw[q]at h;exact h
 |ct ρ'=>rw[q]at h;exact h
 |no=>rw[q]at h;exact h.elim
 |ex C ρ'=>
  rw[q]at h;dsimp only at h;cases qf:f C with
  |none=>rw[qf]at h;exact h.elim
  |some b=>
   cases b with
   |false=>rw[qf]at h;exact h.elim
   |true=>
    rw[qf]at h;dsimp only at h;have way8:(∃ρ'',gs (ρ'.set i (some (.val (.exc C))))=.nx ρ'')\/∃d,gs (ρ'.set i (some (.val (.exc C))))=.rt d:=by cases qs:gs (ρ'.set i (some (.val (.exc C)))) <;> rw[qs]at h <;> first|exact .inl ⟨_,rfl⟩|exact .inr ⟨_,rfl⟩|exact h.elim
    ·intro e s' fl;obtain⟨σ',H₁,pins₁,s₁,a,rfl,J0,way⟩:=fl;have J₁:Inv X pins σ' H₁ s₁:=back J0;have cont:∀{ch:List Addr}{H' G':Hp}{s':Shared}{B:Heap}{a0:Value}{h₄:Heap},(∀b∈ch,LA X pins b)->s'.os=s₁.os->AllBare s'.gens->Un (frs X.stack) ch H₁ H' s₁.heap s'.heap->HOk X.prog X.w H' s'.heap->H' a=none->s₁.heap.get? a=none->StR X.K G₀ H₀ G' H' σ' ρ'->
       (∀b o,b∉frs X.stack->((∃o0,s₁.heap.get? b=some o0)\/∃u,H' b=some u)->s'.heap.get? b=some o->B.get? b=some o)->Heap.HeldW B (X.env::X.outer) a (.ref C) a0 X.env.locals h₄->s'.heap.UpToSlots h₄->
       wpAny (model X.prog X.w) X.A (setFlight (.ref a) none) (λ_ s₃=>wpAny (model X.prog X.w) X.A (handleBy (.ref a) X.env [.ExceptHandler (some (.Name tn tp)) (some nm) (b₀::suite) hp]) (SP X pins D) X.xe s₃) X.xe { s' with heap:=h₄ }:=by
      intro ch H' G' s' B a0 h₄ hch os bare un hok ha hnew up hk held sm;have J':Inv X pins σ' H' s':=J₁.call' (ch:=ch) os un hok bare hch;have dat:∀b∈frs X.stack,∀o,s'.heap.get? b=some o->∀vs,o.data≠.fields vs:=λb hb o e=>by obtain⟨o',e',d',_⟩:=FunFrames.data J'.stack b hb;rw[e]at e';cases e';exact d'
      have at_:∀{h5:Heap},B.StaysIn h5->s'.heap.UpToSlots h5->Un (frs X.stack) ch H₁ H' s₁.heap h5/\HOk X.prog X.w H' h5:=λ{h5} hb5 sm5=>⟨un.flight hb5 sm5 hk (λb o e=>⟨o,e⟩) (λb hb=>.inl hb) dat,hok.flight hb5 hk J'.stkFree⟩
      refine wpAny_landsW held λh₅ fl₅ sm₅=>?_;obtain⟨un₅,hok₅⟩:=at_ fl₅.1 (sm.trans sm₅);have J₅:Inv X pins σ' H' { s' with heap:=h₅ }:=J₁.call' (s':={ s' with heap:=h₅ }) (ch:=ch) os un₅ hok₅ bare hch;have S₅:Inv (oA X a λ_ _=>False) pins σ' H' { s' with heap:=h₅ }:=J₅.cx (λp q=>q) rfl (λz=>by cases z);obtain⟨ob,hob,hobc⟩:=fl₅.there;refine wpAny_handleBy_cons (codeAny_handlers_test (mj S₅ hg hm ?_ hdb)) (by intro z;cases z);refine(PySem.W.exm_one (M:=model X.prog X.w) S₅.kIn (hobc▸(PySem.W.Looks.ld hob).andThen .now) (hf C qf)).here ?_;show codeAny _ _ _ _ _;refine codeAny_handlers_suite_as ?_;refine lands_againW fl₅ λh₆ fl₆ sm₆=>?_;obtain⟨un₆,hok₆⟩:=at_ fl₆.1 ((sm.trans sm₅).trans sm₆);obtain⟨ob6,hob6,hobc6⟩:=fl₆.there;have hokA:HOk X.prog X.w (upd H' a (.ext (kh a C))) h₆:=λb o e=>by
       by_cases eb:b=a;·subst eb;rw[aV]at e;cases e;exact⟨⟨ob6,hob6,hobc6⟩,⟨ob6,hob6⟩,λh1 h2 ⟨ob,e1,e2⟩ k=>⟨ob,k _ e1,e2⟩⟩
       ·rw[aF eb]at e;refine(hok₆ b o e).stay (λ_ _ _ z=>z) (λc z=>?_) (λc xs z=>?_) (λc ob u z=>?_)
        case refine_3=>rw[aF (aJ z ha)];exact z
        ·rw[aF (aJ z ha)];exact z
        ·rw[aF (aJ z ha)];exact z
      have unA:Un (frs X.stack) ch H₁ (upd H' a (.ext (kh a C))) s₁.heap h₆:=by
       refine⟨un₆.keep,un₆.slot,λb o e n x=>?_,un₆.there,λb xs z=>?_,λb o u z=>?_,λb ps z=>?_⟩;·rw[aF (λz=>by rw[z,hnew]at e;cases e)];exact un₆.free b o e n x
       ·have:=un₆.tups b xs z;rw[aF (aJ this ha)];exact this
       ·have:=un₆.frzs b o u z;rw[aF (aJ this ha)];exact this
       ·obtain⟨more,this⟩:=un₆.tbls b ps z;exact⟨more,by rw[aF (aJ this ha)];exact this⟩
      have J₆:Inv X pins σ' (upd H' a (.ext (kh a C))) { s' with heap:=h₆ }:=J₁.call' (s':={ s' with heap:=h₆ }) (ch:=ch) os unA hokA bare hch;have upA:Up G' H' (upd G' a (.ext (kh a C))) (upd H' a (.ext (kh a C))):=.new up.e.sub ha;have S₆:Inv (oA X a λ_ _=>False) pins σ' (upd H' a (.ext (kh a C))) { s' with heap:=h₆ }:=J₆.cx (λp q=>q) rfl (λz=>by cases z);refine kN (X:=oA X a λ_ _=>False) S₆ hN hi (.inl hx) (v:=.ref a) rfl (λs₇ S₇=>?_) (.inr hx);have sr7:=(up.ups upA).set (.exc aV:Rep X.K (upd G' a (.ext (kh a C))) (.ref a) (.exc C)) i;refine yT (hh a (λ_ _=>False) G₀ H₀ pins s₇ _ _ { nx:=λσ₈ H₈=>∃ρ'' G₈,gs (ρ'.set i (some (.val (.exc C))))=.nx ρ''/\StR X.K G₀ H₀ G₈ H₈ σ₈ ρ'',rt:=λv H₈=>∃d G₈,gs (ρ'.set i (some (.val (.exc C))))=.rt d/\Up G₀ H₀ G₈ H₈/\Rep X.K G₈ v d } S₇ ⟨_,_,sr7,by
       rcases way8 with⟨ρ'',qs⟩|⟨d,qs⟩;·rw[qs];exact λσ₈ G₈ H₈ sr8=>⟨ρ'',G₈,rfl,sr8⟩
       ·rw[qs];exact λv G₈ H₈ u8 rp8=>⟨d,G₈,rfl,u8,rp8⟩⟩) (λfl s₈ q8=>?_) λ_ _ z=>z.elim;cases fl with
      |next=>
       obtain⟨σ₈,H₈,S₈,ρ'',G₈,qs,sr8⟩:=q8;rw[qs]at h;have J₈:Inv X pins σ₈ H₈ s₈:=(S₈.cx (pn':=X.pn) (pins':=pins) (A':=X.A) (calm':=X.calm) (xe':=X.xe) (λp q=>q) rfl I.ok.hd:Inv { (oA X a λ_ _=>False)with A:=X.A,calm:=X.calm,pn:=X.pn,xe:=X.xe } pins _ _ _)
       refine z9 (iF (kY J₈ hN hi (.inl hx) (v:=.non) rfl (λs₉ J₉ _=>?_) (.inr hx)));obtain⟨m9,hn9,hl9⟩:=id J₉.loc;have hlt:i<σ₈.length:=by rw[J₈.len];exact(u6.mp hi).1
       obtain⟨u9,r9,lk9⟩:=hl9 i nm .non hi (by rw[uV hlt]) (.inl hx);have hv9:m9 nm=some u9:=by
        rcases lk9 with⟨_,e⟩|⟨k,_⟩;·exact e
        ·have k':X.env.scope.names.lookup nm=some .cell\/X.env.scope.names.lookup nm=some .free:=k;rw[hx]at k';rcases k' with k'|k' <;> cases k'
       refine lE (wpAny_unbindName_local hx hn9 hv9 (by rw[hkd];rfl) λh10 u10 hn10 sb10=>?_);have J10:=J₉.unset hN hi hl9 hn10 sb10;refine⟨_,_,J10,?_⟩;have e10:(σ₈.set i (some V.non)).set i none=σ₈.set i none:=by rw[List.set_set]
       rw[e10];refine h _ G₈ _ ?_;have get:∀(j:Nat) x,(ρ''.set i none)[j]?=some (some x)->j≠i/\ρ''[j]?=some (some x)/\(σ₈.set i none)[j]?=σ₈[j]?:=λj x e=>by
        by_cases ej:i=j;·subst ej;rw[d8]at e;simp only[wO]at e;split at e <;> cases e
        ·rw[t8 ej]at e;exact⟨λz=>ej z.symm,e,t8 ej⟩
       have ob:ObSt X.K H₀ G₈ H₈ (σ₈.set i none) (ρ''.set i none):=by
        obtain⟨ow,o1,o2⟩:=sr8.ob;refine⟨ow,λj ds l e1 e2=>?_,λj m C p fs e1=>?_⟩;·obtain⟨_,f1,f2⟩:=get j _ e1;exact o1 j ds l f1 (f2▸e2)
        ·obtain⟨_,f1,f2⟩:=get j _ e1;rw[f2];exact o2 j m C p fs f1
       refine⟨⟨sr8.e.sub,by simp[sr8.e.len],λj d e=>?_,ob.rd⟩,sr8.sub0,sr8.up,λj ds e=>?_,λj k ds es l e1 e2 e3 e4=>?_,ob⟩;·obtain⟨_,e1,e2⟩:=get j _ e;rw[e2];exact sr8.e.val j d e1
       ·obtain⟨_,e1,e2⟩:=get j _ e;rw[e2];exact sr8.own j ds e1
       ·obtain⟨_,f1,f2⟩:=get j _ e1;obtain⟨_,f3,f4⟩:=get k _ e2;exact sr8.inj j k ds es l f1 f3 (f2▸e3) (f4▸e4)
      |brk=>obtain⟨_,_,_,z⟩:=q8;exact z.elim
      |cont=>obtain⟨_,_,_,z⟩:=q8;exact z.elim
      |ret u=>
       obtain⟨v,σ₈,H₈,S₈,r8,d,G₈,qs,u8,rp8⟩:=q8;rw[qs]at h;have J₈:Inv X pins σ₈ H₈ s₈:=(S₈.cx (pn':=X.pn) (pins':=pins) (A':=X.A) (calm':=X.calm) (xe':=X.xe) (λp q=>q) rfl I.ok.hd:Inv { (oA X a λ_ _=>False)with A:=X.A,calm:=X.calm,pn:=X.pn,xe:=X.xe } pins _ _ _)
       refine z9 (iF (kY J₈ hN hi (.inl hx) (v:=.non) rfl (λs₉ J₉ _=>?_) (.inr hx)));obtain⟨m9,hn9,hl9⟩:=id J₉.loc;have hlt:i<σ₈.length:=by rw[J₈.len];exact(u6.mp hi).1
       obtain⟨u9,r9,lk9⟩:=hl9 i nm .non hi (by rw[uV hlt]) (.inl hx);have hv9:m9 nm=some u9:=by
        rcases lk9 with⟨_,e⟩|⟨k,_⟩;·exact e
        ·have k':X.env.scope.names.lookup nm=some .cell\/X.env.scope.names.lookup nm=some .free:=k;rw[hx]at k';rcases k' with k'|k' <;> cases k'
       refine lE (wpAny_unbindName_local hx hn9 hv9 (by rw[hkd];rfl) λh10 u10 hn10 sb10=>?_);have J10:=J₉.unset hN hi hl9 hn10 sb10;exact⟨v,_,_,J10,r8,h v G₈ _ u8 rp8⟩
     have hfrm:X.A.frames=some (X.env::X.outer):=by rw[<- hst];exact I.ok.frames
     rcases way with⟨G₁,h',vs,sr',made,rfl⟩|⟨G',H',⟨os,bare,un,hok,ha,B,a0,fl,hk⟩,up⟩|⟨G',H',L',hL,⟨os,bare,⟨ch,hch,un⟩,hok,ha,hna,B,a0,fl,hk⟩,up⟩
     ·have hin:∀env∈X.stack,∀b,env.frame=some b->b∈frs X.stack:=λenv he b hb=>k6.mpr ⟨env,he,hb⟩;have ha:H₁ a=none:=by
       cases q:H₁ a with
       |none=>rfl
       |some u=>obtain⟨ob,e⟩:=(J₁.hok a u q).there;rw[made.new]at e;cases e
      obtain⟨t,he,htn,ht⟩:=made.there;have hkb:(PySem.W.hideAll s₁.heap (frs X.stack)).StaysIn h':=λb o q=>made.keeps b o (mh _ q);have hen:(PySem.W.hideAll s₁.heap (frs X.stack)).get? a=none:=by
       cases q:(PySem.W.hideAll s₁.heap (frs X.stack)).get? a with
       |none=>rfl
       |some o=>have:=mh _ q;rw[made.new]at this;cases this
      have hff:h'.FunFrames (PySem.W.hideAll s₁.heap (frs X.stack)) (X.env::X.outer):=by rw[<- hst];exact(Zp J₁.stack hin).of_keeps λb o hb _=>⟨o,made.keeps b o hb,rfl⟩
      show wpAny _ _ (noteFrame (.ref a) X.env) _ _ _;unfold noteFrame;simp only[hfr];refine z9 (v4 (show({ s₁ with heap:=h' }:Shared).heap.get? a=some _ from he) rfl (x:=.none) rfl ?_);rw[if_neg (by decide)];refine wpAny_entryW (base:=PySem.W.hideAll s₁.heap (frs X.stack)) (a0:=.ref t) hfrm hff hfr he hkb hen rfl (by show 1<6;decide) rfl λh₄ noted=>?_;obtain⟨n1,n2,n3,n4⟩:=noted;refine cont (ch:=[]) (s':={ s₁ with heap:=h' }) (λb z=>absurd z (by simp)) rfl J₁.bare (Un.kept made.keeps) (J₁.hok.kept made.keeps) ha made.new sr' (λb o hb ho e=>?_) ⟨n1,hen,n2,n3⟩ n4;have e1:s₁.heap.get? b=some o:=by
       rcases ho with⟨o0,ho⟩|⟨u,ho⟩;·have q:=made.keeps b o0 ho;have e':h'.get? b=some o:=e;rw[q]at e';cases e';exact ho
       ·obtain⟨ob,ho⟩:=(J₁.hok b u ho).there;have q:=made.keeps b ob ho;have e':h'.get? b=some o:=e;rw[q]at e';cases e';exact ho
      exact b8 _ e1 hb
     ·have hna:s₁.heap.get? a=none:=by
       cases q:s₁.heap.get? a with
       |none=>rfl
       |some o0=>
        obtain⟨o',e'⟩:=un.there a o0 q (by simp);have hna:a∉frs X.stack:=λz=>by obtain⟨o1,e1,d1,_⟩:=FunFrames.data fl.2.2.1 a z;obtain⟨oe,vs,_,_,_,e2,_,d2,_⟩:=fl.2.2.2;rw[e1]at e2;cases e2;exact d1 vs d2
        have:=hk a o' hna (.inl ⟨o0,q⟩) e';rw[fl.2.1]at this;cases this
      rw[hst]at fl;exact wpAny_looks_onW hfrm hfr fl λh₄ held sm=>cont (ch:=[]) (λb z=>absurd z (by simp)) os bare un hok ha hna up hk held sm
     ·have hch':∀b∈ch,LA X pins b:=λb hb=>let⟨c1,c2,c3,c4⟩:=hch b hb;⟨c1,c2,c3,λp hp=>c4 p (mP _ hp)⟩;have eL:X.env.locals=L':=xz (hfr.symm.trans hL);rw[hst,<- eL]at fl;exact Zq hfr fl.2.2.2 (cont (h₄:=s'.heap) hch' os bare un hok ha hna up hk fl λb o hb _=>⟨o.slots,hb⟩)
def Dy(i:Nat)(f:Addr->Option Bool)(hN:X.N.Nodup)(hcalm:X.calm=true)(hst:X.stack=X.env::X.outer)(hfr:X.env.frame=some X.env.locals)(hkd:X.env.scope.kind=.function)(hb:∀pn xe,lO (qL X pn xe) body gb)(hh:∀a xe,lO (oA X a xe) (b₀::suite) gs)(hf:∀C,f C=some true->PySem.W.exmOne X.K (.ref C) (.ref Ct)=some true)(hg:Gl X tn)(hm:X.mg tn=some (.ref Ct))(hi:X.N[i]?=some nm)(hx:X.env.scope.names.lookup nm=some .local)(hdb:(tn==("__debug__":Str))=false:=by decide):
  PSF X (.Try body [.ExceptHandler (some (.Name tn tp)) (some nm) (b₀::suite) hp] [] [] pos) (Gd gb gs f i):=λG₀ H₀ pins s σ H D I h=>
 Fa (λ_=>True) i f hN hcalm hst hfr hkd G₀ H₀ (λpn xe pins s σ H D I h=>hb pn xe G₀ H₀ pins s σ H D I h.2) hh hf hg hm hi hx hdb pins s σ H D I ⟨True.intro,h⟩
end
structure Callee(P:Program)(w:World)(K:PySem.W.Frag)(mg:Str->Option Value)(base:Heap)(x:Str)(k n:Nat)(g:List D->R D):Prop where
 ex:∃f fd ps,FnF P w K mg base k f fd ps g/\mg x=some (.ref f)/\PySem.W.keepIn K (.ref f)=true/\Binds K fd ps []/\ps.length=n
def EC{x:Str}{g:List D->R D}{e:Expr}{pos:Pos}(c:Callee X.prog X.w X.K X.mg X.base x k n g)(hr:Room k X.A)(ha:PFA X (e::es) gl)(hg:Gl X x:=by rfl)(hdb:(x==("__debug__":Str))=false:=by decide)(he:starEach (e::es) X.env=(false,eval e X.env)::starEach es X.env:=by rfl)(hpl:(backTo pos (starEach es X.env)).any (·.1)=false:=by rfl):
  PF X (.Call (.Name x p) (e::es) [] pos) (λρ=>gl ρ>>=λds=>if ds.length=n then g ds else .no):=by
 obtain⟨f,fd,ps,F,hm,hk,hb,rfl⟩:=c.ex;exact Ic F hr hg hm hk hb ha hdb he hpl
def FnF.to{w:World}{K:PySem.W.Frag}{mg:Str->Option Value}{base:Heap}{g g':List D->R D}(F:FnF P w K mg base k f fd ps g)(h:∀ds,ds.length=ps.length->g' ds=.no\/g ds=g' ds):FnF P w K mg base k f fd ps g':=by
 refine F.imp λvs H Q E ⟨hl,G,ds,sub,r,q⟩=>⟨hl,G,ds,sub,r,?_⟩
 rcases h ds (by rw[<- r.length];exact hl)with z|z;·rw[z]at q;exact q.elim
 ·rw[z];exact q
def Fun.callee{w:World}{K:PySem.W.Frag}{mg:Str->Option Value}{base:Heap}{x:Str}{g:List D->R D}(F:Fun K x x st f fd)(hm:mg x=some (.ref f))(ok:FnF P w K mg base k f fd ps g)(h:∀(kV doc pm:Value)(an:Option Addr)(cdv ct:Value)(us:List Value),us.length=ps.length->bindArgs (PySem.W.fnOf x x (ip st) (cg st) (ar st) .none kV doc pm an cdv ct) ⟨us,[]⟩=pure (ps.zip us)):Callee P w K mg base x k ps.length g:=
 ⟨f,fd,ps,ok,hm,F.kp,F.binds h,rfl⟩
def jF{T:String}{f:String->Bool}(h:∀K:PySem.W.Frag,PySem.W.kitOne K (.type "NoneType") (.type T)=some (f "NoneType")/\PySem.W.kitOne K (.type "bool") (.type T)=some (f "bool")/\PySem.W.kitOne K (.type "int") (.type T)=some (f "int")/\
 PySem.W.kitOne K (.type "str") (.type T)=some (f "str")/\PySem.W.kitOne K (.type "tuple") (.type T)=some (f "tuple")/\PySem.W.kitOne K (.type "list") (.type T)=some (f "list")):
  ∀K:PySem.W.Frag,∀t∈["NoneType","bool","int","str","tuple","list"],PySem.W.kitOne K (.type t) (.type T)=some (f t):=λK t ht=>by
 obtain⟨h1,h2,h3,h4,h5,h6⟩:=h K;simp only[y9,w8,w9]at ht;rcases ht with rfl|rfl|rfl|rfl|rfl|rfl <;> assumption
def isInt(t:String):Bool:=t=="int" || t=="bool"
section
variable{e:Expr}{ga:Ev->R D}{p2 pos:Pos}
def Ek(hm:X.mg "isinstance"=none)(ha:PF X e ga)(hm2:X.mg "int"=none)(hg2:Gl X "int":=by rfl)(hg:Gl X "isinstance":=by rfl)(hs1:starEach [e,.Name "int" p2] X.env=(false,eval e X.env)::starEach [.Name "int" p2] X.env:=by rfl):PF X (.Call (.Name "isinstance" p) [e,.Name "int" p2] [] pos) (λρ=>ga ρ>>=kn isInt):=
 oz (T:="int") isInt (jF λK=>⟨rfl,rfl,rfl,rfl,rfl,rfl⟩) hg hm hg2 hm2 PyProof.Rows.Boot.«int» ha hs1
def Av(hm:X.mg "isinstance"=none)(ha:PF X e ga)(hm2:X.mg "bool"=none)(hg2:Gl X "bool":=by rfl)(hg:Gl X "isinstance":=by rfl)(hs1:starEach [e,.Name "bool" p2] X.env=(false,eval e X.env)::starEach [.Name "bool" p2] X.env:=by rfl):PF X (.Call (.Name "isinstance" p) [e,.Name "bool" p2] [] pos) (λρ=>ga ρ>>=kn (·=="bool")):=
 oz (T:="bool") (·=="bool") (jF λK=>⟨rfl,rfl,rfl,rfl,rfl,rfl⟩) hg hm hg2 hm2 PyProof.Rows.Boot.«bool» ha hs1
def C8(hm:X.mg "isinstance"=none)(ha:PF X e ga)(hm2:X.mg "str"=none)(hg2:Gl X "str":=by rfl)(hg:Gl X "isinstance":=by rfl)(hs1:starEach [e,.Name "str" p2] X.env=(false,eval e X.env)::starEach [.Name "str" p2] X.env:=by rfl):PF X (.Call (.Name "isinstance" p) [e,.Name "str" p2] [] pos) (λρ=>ga ρ>>=kn (·=="str")):=
 oz (T:="str") (·=="str") (jF λK=>⟨rfl,rfl,rfl,rfl,rfl,rfl⟩) hg hm hg2 hm2 PyProof.Rows.Boot.«str» ha hs1
def zG(hm:X.mg "isinstance"=none)(ha:PF X e ga)(hm2:X.mg "tuple"=none)(hg2:Gl X "tuple":=by rfl)(hg:Gl X "isinstance":=by rfl)(hs1:starEach [e,.Name "tuple" p2] X.env=(false,eval e X.env)::starEach [.Name "tuple" p2] X.env:=by rfl):PF X (.Call (.Name "isinstance" p) [e,.Name "tuple" p2] [] pos) (λρ=>ga ρ>>=kn (·=="tuple")):=
 oz (T:="tuple") (·=="tuple") (jF λK=>⟨rfl,rfl,rfl,rfl,rfl,rfl⟩) hg hm hg2 hm2 PyProof.Rows.Boot.«tuple» ha hs1
def Cd(hm:X.mg "isinstance"=none)(ha:PF X e ga)(hm2:X.mg "list"=none)(hg2:Gl X "list":=by rfl)(hg:Gl X "isinstance":=by rfl)(hs1:starEach [e,.Name "list" p2] X.env=(false,eval e X.env)::starEach [.Name "list" p2] X.env:=by rfl):PF X (.Call (.Name "isinstance" p) [e,.Name "list" p2] [] pos) (λρ=>ga ρ>>=kn (·=="list")):=
 oz (T:="list") (·=="list") (jF λK=>⟨rfl,rfl,rfl,rfl,rfl,rfl⟩) hg hm hg2 hm2 PyProof.Rows.Boot.«list» ha hs1
end
def cr(ga:Ev->R D):Ev->O:=λρ=>(ga ρ).out ρ .rt
def aE(g1 g2:Ev->O):Ev->O:=λρ=>(g1 ρ).seq g2
def oIf(gt:Ev->R Bool)(g1 g2:Ev->O):Ev->O:=λρ=>(gt ρ).out ρ λk=>if k=true then g1 ρ else g2 ρ
def oNx:Ev->O:=λρ=>.nx ρ
def eO(i:Nat)(ga:Ev->R D):Ev->O:=λρ=>(ga ρ).out ρ λd=>.nx (ρ.set i (some (.val d)))
def Aa(i:Nat)(gl:Ev->R (List D)):Ev->O:=λρ=>(gl ρ).out ρ λds=>.nx (ρ.set i (some (.own ds)))
def jK(ga:Ev->R D):Ev->O:=λρ=>(ga ρ).out ρ λ_=>.nx ρ
noncomputable def Bm(asg:D->Ev->R Ev)(gi:Ev->R (List D))(g:Ev->O):Ev->O:=λρ=>(gi ρ).out ρ λitems=>iC asg g items ρ
def dA(C:Addr)(gl:Ev->R (List D)):Ev->O:=λρ=>(gl ρ).out ρ λ_=>.ex C ρ
def MI(asg:D->Ev->R Ev)(ga:Ev->R D):Ev->O:=λρ=>(ga ρ).out ρ λd=>(asg d ρ).out ρ .nx
def yW(i:Nat)(g:Ev->O):Ev->O:=λρ=>g (frz i ρ)
def aB{α β:Type}(f:α->R β)(ga:Ev->R α):Ev->R β:=λρ=>ga ρ>>=f
def gOf(f:List D->Option D)(gl:Ev->R (List D)):Ev->R D:=λρ=>gl ρ>>=λds=>ofO (f ds)
def ac(ga:Ev->R D)(gl:Ev->R (List D)):Ev->R (List D):=λρ=>ga ρ>>=λx=>gl ρ>>=λxs=>.ok (x::xs)
noncomputable def aG(n:Nat)(g:List D->R D)(gl:Ev->R (List D)):Ev->R D:=λρ=>gl ρ>>=λds=>if ds.length=n then g ds else .no
def aO(gl:Ev->R (List D)):Ev->R D:=λρ=>gl ρ>>=λds=>.ok (.lst false ds)
noncomputable def fQ(gl:Ev->R (List D)):Ev->R (List D):=λρ=>gl ρ>>=λds=>if ds.length<=sizeLine then .ok ds else .no
def gB2(f:D->D->Option D)(ga gb:Ev->R D):Ev->R Bool:=λρ=>g2 f ga gb ρ>>=asB
def gB3(f f':D->D->Option D)(ga gb gc:Ev->R D):Ev->R Bool:=λρ=>g3 f f' ga gb gc ρ>>=asB
def gBn(gt:Ev->R Bool):Ev->R Bool:=λρ=>gt ρ>>=λk=>.ok (!k)
def tz(ga:Ev->R D):Ev->R (Option Int):=λρ=>ga ρ>>=λx=>asI x>>=λi=>.ok (some i)
noncomputable def fk(T:String)(f:D->List D->Option D)(ga:Ev->R D)(gl:Ev->R (List D)):Ev->R D:=λρ=>ga ρ>>=λx=>if lm T x=true then gl ρ>>=λds=>ofO (f x ds)else .no
def Callee.mono{w:World}{K:PySem.W.Frag}{mg:Str->Option Value}{base:Heap}{x:Str}{g:List D->R D}(c:Callee P w K mg base x k n g)(k':Nat)(h:k<=k':=by decide):Callee P w K mg base x k' n g:=by obtain⟨f,fd,ps,F,hm,hk,hb,e⟩:=c.ex;exact⟨f,fd,ps,{ F with run:=λA outer s H args us vs Q E hr=>F.run A outer s H args us vs Q E (hr.mono h) },hm,hk,hb,e⟩
section
variable{fW sa sb:List Stmt}{e a b c o:Expr}{g gs1 gs2:Ev->O}{ga gc:Ev->R D}{gt:Ev->R Bool}{pos p2:Pos}{x:Str}
def ag(h1:PSF X st gs1)(h2:lO X fW gs2):lO X (st::fW) (aE gs1 gs2):=yR h1 h2
def ax:lO X [] oNx:=BL
def aX(he:PF X e ga):PSF X (.Return (some e) pos) (cr ga):=DH he
def dZ(hc:PB X c gt)(ha:lO X sa gs1)(hb:lO X sb gs2):PSF X (.If c sa sb pos) (oIf gt gs1 gs2):=Gv hc ha hb
def Ho(i:Nat)(hN:X.N.Nodup)(he:PF X e ga)(hi:X.N[i]?=some x:=by rfl)(hx:Loc X.env.scope x:=by first|exact Or.inl rfl|exact Or.inr rfl)(hs:swapsWithSole [.Name x p] e pos.line X.env=pure false:=by rfl)(hw:swappedStores [.Name x p] e X.env=pure none:=by rfl)(hf:X.fn x=true\/X.env.scope.names.lookup x=some .local:=by first|exact .inl rfl|exact .inr rfl):
  PSF X (.Assign [.Name x p] e pos) (eO i ga):=ES i hN he hi hx hs hw hf
def Iz(i:Nat)(hN:X.N.Nodup)(he:PFL X e gl)(hi:X.N[i]?=some x:=by rfl)(hx:Loc X.env.scope x:=by first|exact Or.inl rfl|exact Or.inr rfl)(hs:swapsWithSole [.Name x p] e pos.line X.env=pure false:=by rfl)(hw:swappedStores [.Name x p] e X.env=pure none:=by rfl)(hf:X.fn x=true\/X.env.scope.names.lookup x=some .local:=by first|exact .inl rfl|exact .inr rfl):
  PSF X (.Assign [.Name x p] e pos) (Aa i gl):=DK i hN he hi hx hs hw hf
def hV(he:PF X e ga)(hs:swapsWith e none pos.line X.env=pure false:=by rfl):PSF X (.Expr e pos) (jK ga):=Ca he hs
def wr(hp:PassesOwn (model X.prog X.w) X.A X.env X.xe)(hcalm:X.calm=true)(hi:PIF X tg iter gi)(hg:PGF X tg asg)(hb:lO X body g)(hs:∀x,foldedSetIterable iter X.env x=pure x:=by intro _;rfl)(hn:∀d ρ C,asg d ρ≠.ex C:=by intro _ _ _ z;cases z):PSF X (.For tg iter body [] pos) (Bm asg gi g):=C5 hp hcalm hi hg hb hs hn
def eM(hg:Gl X "len")(hm:X.mg "len"=none)(ha:PFA X [e] gl)(he:starEach [e] X.env=[(false,eval e X.env)]:=by rfl):PF X (.Call (.Name "len" p) [e] [] pos) (gOf iB gl):=Kl hg hm ha he
def qu(hc:X.calm=true)(hg:Gl X "all")(hm:X.mg "all"=none)(ha:PFA X [e] gl)(he:starEach [e] X.env=[(false,eval e X.env)]:=by rfl):PF X (.Call (.Name "all" p) [e] [] pos) (gOf yx gl):=Lg hc hg hm ha he
def aa(ha:PF X e ga)(hr:PFA X es gl)(hs:starEach (e::es) X.env=(false,eval e X.env)::starEach es X.env:=by rfl):PFA X (e::es) (ac ga gl):=EY ha hr hs
def aC{f:List D->R D}(c:Callee X.prog X.w X.K X.mg X.base x k n f)(hr:Room k X.A)(ha:PFA X (e::es) gl)(hg:Gl X x:=by rfl)(hdb:(x==("__debug__":Str))=false:=by decide)(he:starEach (e::es) X.env=(false,eval e X.env)::starEach es X.env:=by rfl)(hpl:(backTo pos (starEach es X.env)).any (·.1)=false:=by rfl):
  PF X (.Call (.Name x p) (e::es) [] pos) (aG n f gl):=EC c hr ha hg hdb he hpl
def cK{gens:List Comprehension}{sc:Scope}(h:PFL X (.ListComp e gens sc pos) gl):PF X (.ListComp e gens sc pos) (aO gl):=yk h
def bH(h:PFL X (.List es pos) gl):PF X (.List es pos) (aO gl):=yk h
def cF(h:PFA X es gl):PFL X (.List es pos) (fQ gl):=Ih h
def cX(h:PFA X es gl):PF X (.Tuple es k pos) (aB mkT gl):=L7 h
def wN(ha:PF X a ga):PF X (.UnaryOp .USub a pos) (aB DY ga):=KP ha
def G9(hm:X.mg "isinstance"=none)(ha:PF X e ga)(hm2:X.mg "int"=none)(hg2:Gl X "int":=by rfl)(hg:Gl X "isinstance":=by rfl)(hs1:starEach [e,.Name "int" p2] X.env=(false,eval e X.env)::starEach [.Name "int" p2] X.env:=by rfl):PF X (.Call (.Name "isinstance" p) [e,.Name "int" p2] [] pos) (aB (kn isInt) ga):=Ek hm ha hm2 hg2 hg hs1
def Ew(hm:X.mg "isinstance"=none)(ha:PF X e ga)(hm2:X.mg "bool"=none)(hg2:Gl X "bool":=by rfl)(hg:Gl X "isinstance":=by rfl)(hs1:starEach [e,.Name "bool" p2] X.env=(false,eval e X.env)::starEach [.Name "bool" p2] X.env:=by rfl):PF X (.Call (.Name "isinstance" p) [e,.Name "bool" p2] [] pos) (aB (kn (·=="bool")) ga):=Av hm ha hm2 hg2 hg hs1
def tM(hm:X.mg "isinstance"=none)(ha:PF X e ga)(hm2:X.mg "str"=none)(hg2:Gl X "str":=by rfl)(hg:Gl X "isinstance":=by rfl)(hs1:starEach [e,.Name "str" p2] X.env=(false,eval e X.env)::starEach [.Name "str" p2] X.env:=by rfl):PF X (.Call (.Name "isinstance" p) [e,.Name "str" p2] [] pos) (aB (kn (·=="str")) ga):=C8 hm ha hm2 hg2 hg hs1
def jB(hm:X.mg "isinstance"=none)(ha:PF X e ga)(hm2:X.mg "tuple"=none)(hg2:Gl X "tuple":=by rfl)(hg:Gl X "isinstance":=by rfl)(hs1:starEach [e,.Name "tuple" p2] X.env=(false,eval e X.env)::starEach [.Name "tuple" p2] X.env:=by rfl):PF X (.Call (.Name "isinstance" p) [e,.Name "tuple" p2] [] pos) (aB (kn (·=="tuple")) ga):=zG hm ha hm2 hg2 hg hs1
def rK(h:PF X e ga):PFO X (some e) (tz ga):=Dm h
def Bv(ha:PF X a ga)(hb:PF X b gb):PB X (.Compare a [.Lt] [b] pos) (gB2 ltD ga gb):=Oi ha hb
def Gr(ha:PF X a ga)(hb:PF X b gb):PB X (.Compare a [.LtE] [b] pos) (gB2 leD ga gb):=M5 ha hb
def zi(ha:PF X a ga)(hb:PF X b gb):PB X (.Compare a [.Gt] [b] pos) (gB2 gtD ga gb):=Om ha hb
def pZ(hu:X.A.units+64<cLine)(ha:PF X a ga)(hb:PF X b gb):PB X (.Compare a [.Eq] [b] pos) (gB2 eqF ga gb):=Of hu ha hb
def eB(hu:X.A.units+64<cLine)(ha:PF X a ga)(hb:PF X b gb):PB X (.Compare a [.NotEq] [b] pos) (gB2 neF ga gb):=N0 hu ha hb
def GN(ha:PF X a ga)(hb:PF X b gb):PB X (.Compare a [.Is] [b] pos) (gB2 isF ga gb):=N8 ha hb
def Ae(ha:PF X a ga)(hb:PF X b gb)(hc:PF X c gc)(hm:lastMarks [.LtE,.LtE] [b,c]=false:=by with_unfolding_all rfl):PB X (.Compare a [.LtE,.LtE] [b,c] pos) (gB3 leD leD ga gb gc):=HM ha hb hc hm
def bN(ha:PB X a gt):PB X (.UnaryOp .Not a pos) (gBn gt):=KN ha
def bQ(h:PF X (.Call a es [] pos) ga):PB X (.Call a es [] pos) (aB gG ga):=Js h
def ir{op:BoolOp}(h:PBW X (.BoolOp op es pos) gt):PB X (.BoolOp op es pos) gt:=λpins s σ H Q I q=>h _ pins s σ H Q I q
def bT(ha:PF X a ga):PIF X tg a (aB bJ ga):=IY ha
def Dw(hg:Gl X "range")(hm:X.mg "range"=none)(ha:PFA X [a] gl)(hs:starEach [a] X.env=[(false,eval a X.env)]:=by rfl):PIF X tg (.Call (.Name "range" p) [a] [] pos) (aB sd gl):=za hg hm ha hs
end
@[simp] theorem R.ok_out{α:Type}(a:α)(ρ:Ev)(k:α->O):(R.ok a).out ρ k=k a:=rfl
@[simp] theorem R.ex_out{α:Type}(C:Addr)(ρ:Ev)(k:α->O):(R.ex C:R α).out ρ k=.ex C ρ:=rfl
@[simp] theorem jt{α:Type}(a:α):fA (R.ok a)=R.ok a:=rfl
theorem vn{gt:Ev->R Bool}{ge:Ev->R D}(p:D->Bool)(h:D->D)(tl:Ev):∀(ds:List D)(a:Option Sl),(∀d∈ds,gt (some (.val d)::tl)=.ok (p d)/\(p d=true->ge (some (.val d)::tl)=.ok (h d)))->kA gt ge ds (a::tl)=.ok ((ds.filter p).map h)
 | [],a,_=>rfl
 |d::ds,a,H=>by
  have ih:=vn p h tl ds (some (.val d)) λx m=>H x (v9 _ m);obtain⟨e1,e2⟩:=H d (uS ..);show(fA (gt (some (.val d)::tl))>>=λk=>if k=true then fA (ge (some (.val d)::tl))>>=λx=>kA gt ge ds (some (.val d)::tl)>>=λxs=>.ok (x::xs)else kA gt ge ds (some (.val d)::tl))=_;rw[e1,jt,R.ok_bind,ih];cases q:p d with
  |true=>rw[if_pos rfl,e2 q,jt,R.ok_bind,R.ok_bind,List.filter_cons_of_pos q];rfl
  |false=>rw[if_neg wT,List.filter_cons_of_neg (by rw[q];exact wT)]
def pb{gt:Ev->R Bool}(h:D->D)(tl:Ev)(ds:List D)(a:Option Sl)(H:∀d∈ds,gt (some (.val d)::tl)=.ok true/\ge (some (.val d)::tl)=.ok (h d)):kA gt ge ds (a::tl)=.ok (ds.map h):=by rw[vn (λ_=>true) h tl ds a λd m=>⟨(H d m).1,λ_=>(H d m).2⟩,List.filter_eq_self.2 λ_ _=>rfl]
theorem yG(f:D->Bool):∀ds:List D,yi (ds.map λd=>.bl (f d))=some (ds.map f)
 | []=>rfl
 |d::ds=>by
  have ih:=yG f ds;rw[tI,tI];unfold yi
  first|(rw[ih];rfl)|(simp only[ih];rfl)|simp[ih]
def yP(f:D->Bool)(k:Bool)(ds:List D):yx [.lst k (ds.map λd=>.bl (f d))]=some (.bl (ds.all f)):=by show(yi (ds.map λd=>.bl (f d))).map _=_;rw[yG];show some (D.bl ((ds.map f).all id))=_;rw[List.all_map];rfl
def A2(a b:Nat):(!decide (([b]:List Nat)<[a]))=decide (a<=b):=by
 have:(([b]:List Nat)<[a]) ↔ b<a:=by
  constructor
  ·intro h;cases h with
   |rel h=>exact h
   |cons h=>cases h
  ·intro h;exact .rel h
 by_cases h:a<=b
 ·have h2 : ¬ ([b]:List Nat)<[a]:=λq=>by have:=this.1 q;omega
  simp[h,h2]
 ·have h2:([b]:List Nat)<[a]:=this.2 (by omega);simp[h,h2]
def bf{x:Str}(hk:scope.kind=.function:=by rfl)(h1:(∀y∈scope.names,y.2≠.cell)/\(∀y∈scope.names,y.2=.local->scope.names.lookup y.1=some .local)/\scope.names.lookup x=some .local/\(∀y∈scope.names,y.2=.free->y.1∈N'.tail)/\N'.Nodup/\N'[0]?=some x/\
 ∀y∈N'.tail,scope.names.lookup y=some .free/\(y,NameKind.free)∈scope.names:=by decide +kernel)(h2:N'.tail.map X.env.kindOf=N'.tail.map λ_=>some NameKind.cell:=by rfl)(h3:N'.tail=ix.map (λ(i:Nat)=>X.N.getD i Str.empty):=by rfl)(h4:ix.all (λi=>decide (i<X.N.length))=true:=by rfl):CompOk X scope x N' ix:=by
 obtain⟨a,b,c,d,e,f,g⟩:=h1;refine⟨hk,a,b,c,λy hy h=>?_,e,f,h3,λi hi=>?_,g⟩;·exact List.map_inj_left.1 h2 _ (d y hy h)
 ·exact b9 (p8.1 h4 i hi)
def rd0(d:D)(ρ:Ev):rdV (some (.val d)::ρ) 0=.ok d:=rfl
def rd1(a0:Option Sl)(d:D)(ρ:Ev):rdV (a0::some (.val d)::ρ) 1=.ok d:=rfl
def rd2(a0 a1:Option Sl)(d:D)(ρ:Ev):rdV (a0::a1::some (.val d)::ρ) 2=.ok d:=rfl
def rd3(a0 a1 a2:Option Sl)(d:D)(ρ:Ev):rdV (a0::a1::a2::some (.val d)::ρ) 3=.ok d:=rfl
def rd4(a0 a1 a2 a3:Option Sl)(d:D)(ρ:Ev):rdV (a0::a1::a2::a3::some (.val d)::ρ) 4=.ok d:=rfl
def rd5(a0 a1 a2 a3 a4:Option Sl)(d:D)(ρ:Ev):rdV (a0::a1::a2::a3::a4::some (.val d)::ρ) 5=.ok d:=rfl
def rd6(a0 a1 a2 a3 a4 a5:Option Sl)(d:D)(ρ:Ev):rdV (a0::a1::a2::a3::a4::a5::some (.val d)::ρ) 6=.ok d:=rfl
section
variable{f:List D->R D}{ga gc gd:Ev->R D}
def Mc:aG 1 f (ac ga λ_=>.ok []) ρ=ga ρ>>=λx=>f [x]:=by unfold aG ac;cases ga ρ <;> rfl
def FE:aG 2 f (ac ga (ac gb λ_=>.ok [])) ρ=ga ρ>>=λx=>gb ρ>>=λy=>f [x,y]:=by
 unfold aG ac;cases ga ρ <;> try rfl
 simp only[ac,R.ok_bind];cases gb ρ <;> rfl
def Lj:aG 3 f (ac ga (ac gb (ac gc λ_=>.ok []))) ρ=ga ρ>>=λx=>gb ρ>>=λy=>gc ρ>>=λz=>f [x,y,z]:=by
 unfold aG ac;cases ga ρ <;> try rfl
 simp only[ac,R.ok_bind];cases gb ρ <;> try rfl
 simp only[R.ok_bind];cases gc ρ <;> rfl
end
def At(N:List Str)(i:Nat)(x:Str):Prop:=N[i]?=some x
def at0{x:Str}{l:List Str}:At (x::l) 0 x:=rfl
def at1{x:Str}{l:List Str}:At (y0::x::l) 1 x:=rfl
def at2{x:Str}{l:List Str}:At (y0::y1::x::l) 2 x:=rfl
def at3{x:Str}{l:List Str}{y2:Str}:At (y0::y1::y2::x::l) 3 x:=rfl
def at4{x:Str}{l:List Str}{y2 y3:Str}:At (y0::y1::y2::y3::x::l) 4 x:=rfl
def at5{x:Str}{l:List Str}{y2 y3 y4:Str}:At (y0::y1::y2::y3::y4::x::l) 5 x:=rfl
def at6{x:Str}{l:List Str}{y2 y3 y4 y5:Str}:At (y0::y1::y2::y3::y4::y5::x::l) 6 x:=rfl
def at7{x:Str}{l:List Str}{y2 y3 y4 y5 y6:Str}:At (y0::y1::y2::y3::y4::y5::y6::x::l) 7 x:=rfl
def at8{x:Str}{l:List Str}{y2 y3 y4 y5 y6 y7:Str}:At (y0::y1::y2::y3::y4::y5::y6::y7::x::l) 8 x:=rfl
section
variable{N:List Str}{x:Str}{pos:Pos}
def ai{w:World}{K:PySem.W.Frag}{mg:Str->Option Value}{base:Heap}{A:Around}{outer:List Env}{E:XK}(h:At N i x)(hv:Vis (fV CX P w K mg base N qual scope f cdv A outer s H E).env.scope x:=by first|exact Or.inl rfl|exact Or.inr (Or.inl rfl)|exact Or.inr (Or.inr rfl))(hd:(x==("__debug__":Str))=false:=by decide)(hcd:(x==("__classdict__":Str))=false:=by decide):PF (fV CX P w K mg base N qual scope f cdv A outer s H E) (.Name x pos) (λρ=>rdV ρ i):=wm i h hv hd hcd
def bw{s₂:Shared}{H₂:Hp}(h:At N i x)(hv:Vis (aP X N scope C s₂ H₂ fp).env.scope x:=by first|exact Or.inl rfl|exact Or.inr (Or.inl rfl)|exact Or.inr (Or.inr rfl))(hd:(x==("__debug__":Str))=false:=by decide)(hcd:(x==("__classdict__":Str))=false:=by decide):PF (aP X N scope C s₂ H₂ fp) (.Name x pos) (λρ=>rdV ρ i):=wm i h hv hd hcd
def cC{w:World}{K:PySem.W.Frag}{mg:Str->Option Value}{base:Heap}{A:Around}{outer:List Env}{E:XK}{e:Expr}{ga:Ev->R D}(h:At N i x)(hN:N.Nodup)(he:PF (fV CX P w K mg base N qual scope f cdv A outer s H E) e ga)(hx:Loc (fV CX P w K mg base N qual scope f cdv A outer s H E).env.scope x:=by first|exact Or.inl rfl|exact Or.inr rfl)(hs:swapsWithSole [.Name x p] e pos.line (fV CX P w K mg base N qual scope f cdv A outer s H E).env=pure false:=by rfl)(hw:swappedStores [.Name x p] e (fV CX P w K mg base N qual scope f cdv A outer s H E).env=pure none:=by rfl)(hf:(fV CX P w K mg base N qual scope f cdv A outer s H E).fn x=true\/(fV CX P w K mg base N qual scope f cdv A outer s H E).env.scope.names.lookup x=some .local:=by first|exact .inl rfl|exact .inr rfl):
  PSF (fV CX P w K mg base N qual scope f cdv A outer s H E) (.Assign [.Name x p] e pos) (eO i ga):=Ho i hN he h hx hs hw hf
end
def Mh{e:Expr}{ga:Ev->R D}{pos pt:Pos}(he:PF X e ga)(hc:X.calm=true)(h:JA X es is)(hn:(assignEach es X.env).length=is.length:=by rfl)(hst:(assignEach es X.env).findIdx? (·.1)=none:=by rfl)(hs:swapsWithSole [.Tuple es k pt] e pos.line X.env=pure false:=by rfl)(hw:swappedStores [.Tuple es k pt] e X.env=pure none:=by rfl)(h1:(assignEach [.Tuple es k pt] X.env).map (·.2)=[assign (.Tuple es k pt) X.env]:=by rfl):
  PSF X (.Assign [.Tuple es k pt] e pos) (MI (CN is) ga):=yA he (oy hc h hn hst) hs hw (pd is) h1
def Hw{ga:Ev->R D}(h:ac ga (λ_=>.ok []) ρ=.ok ds):ds.length<=1:=by
 unfold ac at h;cases e:ga ρ with
 |ok x=>rw[e]at h;cases h;exact zE _
 |ex C=>rw[e]at h;cases h
 |no=>rw[e]at h;cases h
structure Ref(x:Str)(C:Addr)(mg:Str->Option Value)(base:Heap):Prop where
 ex:∃bm B newId initId,OwnCls x C bm newId mg base/\ExcBaseFacts B newId initId bm
def cH{x:Str}{e:Expr}{ga:Ev->R D}{np cp pos:Pos}(r:Ref x C X.mg X.base)(hh:X.A.handled=none)(ha:PF X e ga)(hg:Gl X x:=by rfl)(hdb:(x==("__debug__":Str))=false:=by decide)(hs:starEach [e] X.env=(false,eval e X.env)::starEach [] X.env:=by rfl):
  PSF X (.Raise (some (.Call (.Name x np) [e] [] cp)) none pos) (dA C (ac ga λ_=>.ok [])):=by
 obtain⟨bm,B,newId,initId,Oc,FB⟩:=r.ex;exact zO Oc FB hh hg (aa ha ae hs) hdb hs (λρ ds h=>Hw h)
def Un.but{fs:List Addr}(hs:Heap.SameBut C h h'):Un fs [C] H H h h':=by have ne:∀b,b∉[C]->b≠C:=λb hb z=>hb (by rw[z];exact Z0.2 rfl);exact⟨λb o e _ _ hx=>(hs.2 b (ne b hx)).trans e,λb o e _ _ hx=>⟨o.slots,(hs.2 b (ne b hx)).trans e⟩,λ_ _ _ n _=>n,λb o e hx=>⟨o,(hs.2 b (ne b hx)).trans e⟩,λ_ _ e=>e,λ_ _ _ e=>e,λ_ ps e=>⟨#[],by rw[Array.append_empty];exact e⟩⟩
section
variable{elt:Expr}{x:Str}{px pos:Pos}{gt:Ev->R Bool}
def AN(i:Nat){spos:Pos}(hN:X.N.Nodup)(ok:CompOkT X scope n N' ix)(hcalm:X.calm=true)(hg:∀C s₂ H₂ fp,PGF (aP X N' scope C s₂ H₂ fp) tgt asg)(hown:∀d ρ ρ',asg d ρ=.ok ρ'->(NoOwn ρ)->NoOwn ρ')(hi:PIF X tgt iter gi)(he:∀C s₂ H₂ fp,PF (aP X N' scope C s₂ H₂ fp) elt ge)(ht:∀C s₂ H₂ fp,PTs (aP X N' scope C s₂ H₂ fp) ifs gt)(hni:X.N[i]?=some y:=by rfl)(hy:X.env.scope.names.lookup y=some .local:=by rfl)(hs:∀x,foldedSetIterable iter X.env x=pure x:=by intro _;rfl)(hsw:swapsWith (.ListComp elt [⟨tgt,iter,ifs,0⟩] scope pos) (some (.Name y py)) spos.line X.env=pure true:=by rfl){D:Ends}(I:Inv X pins σ H s)(sE:StE X.K G H σ ρ)(hq:(km n asg gi ix gt ge ρ).post (pT X.K G H λv H1=>D.nx (σ.set i (some v)) H1) (Exx X σ G H)):
  wpAny (model X.prog X.w) X.A (exec (.Assign [.Name y py] (.ListComp elt [⟨tgt,iter,ifs,0⟩] scope pos) spos) X.env) (SP X pins D) X.xe s:=by
 rw[exec_Assign_Name_used _ _ _ _ hsw];refine z9 (l5 (z9 ?_));show wpAny _ X.A (do let _ <- comprehension (.ListComp elt [⟨tgt,iter,ifs,0⟩] scope pos) scope X.env _ (newList []) false (eval iter X.env) (some (assign (.Name y py) X.env))) _ _ s;refine z9 (yT (c7 (use:=some (assign (.Name y py) X.env)) (Q:=λ_ s'=>SP X pins D .next s') rfl hs (eW λz hz hz2=>I.ok.has z.1 (.inl (ok.fr z hz hz2))) ok.kind ok.names ?_) (λ_ s' hq=>zh (zh hq)) λ_ _ e=>e);have t:tG X (λG J items=>ItOk X.K G J items) gi σ H (λJ H1=>∃G1 items,Up G H G1 H1/\StE X.K G1 H1 σ ρ/\ItOk X.K G1 J items/\(jk asg gt ge items (fu n ix ρ)>>=λds=>if ds.length<=sizeLine then R.ok ds else .no).post (pT X.K G H λv H1=>D.nx (σ.set i (some v)) H1) (Exx X σ G H)):=by
  refine⟨G,ρ,sE,?_⟩;unfold km at hq;cases e:gi ρ with
  |ok items=>rw[e]at hq;exact λJ G1 H1 u r=>⟨G1,items,u,sE.up u,r,hq⟩
  |ex C=>rw[e]at hq;exact hq
  |no=>rw[e]at hq;exact hq
 refine thn (hi pins s σ H _ I t) λv s1 h1=>thn h1 λitv s2 h2=>?_;obtain⟨it,fp,tn,J,H2,e,I2,T,st2,f2,G2,items,u2,sE2,iok,h2⟩:=h2;subst e;have h2':(jk asg gt ge items (fu n ix ρ)>>=λds=>if ds.length<=sizeLine then R.ok ds else .no).post (pT X.K G2 H2 λv H1=>D.nx (σ.set i (some v)) H1) (Exx X σ G2 H2):=
  h2.mono (λds q l vs G' H' u hl r=>q l vs G' H' (u2.trans u) hl r) λC q=>q.up u2;refine kF (iter:=iter) (pos:=pos) (RR:=λacc C=>compPost (model X.prog X.w) X.A X.xe (some (assign (.Name y py) X.env)) (λ_ s'=>SP X pins D .next s') acc C) ok hcalm hg hown he ht I2 T st2 f2 sE2 iok h2' ?_;intro Dd C s' m vs G' H' up hd hCD _ q hm hos hb hC hCl un hok;have I3:Inv X pins σ (upd H' Dd (.lst vs)) s':=I2.call' (ch:=fp) hos un hok hb λb hb'=>by
  obtain⟨f0,f1,f2',f3,f4,f5⟩:=f2 b hb';exact⟨f3,f1,f4,f5⟩
 have lc:X.env.locals≠C:=xD (v8 I2.lt hCl);have cc:∀z c,X.env.cells.lookup z=some c->c≠C:=λz c e=>by obtain⟨v,q⟩:=I2.cell z c e;exact xD (v8 q.lt hCl)
 show wpAny (model X.prog X.w) X.A (assign (.Name y py) X.env (.ref Dd)) _ X.xe s';refine wpAny_assign_Name (kY I3 hN hni (.inl hy) (v:=.ref Dd) rfl (λs'' I4 ⟨a,hsb,ha⟩=>?_) (.inr hy));have na:C≠a:=by
  rcases ha with rfl|ha;·exact lc.symm
  ·exact(cc _ _ ha).symm
 refine⟨m,hm.sameBut hsb na,λh' hs'=>?_⟩;have I5:=I4.call' (s':={ s'' with heap:=h' }) (H':=upd H' Dd (.lst vs)) (ch:=[C]) rfl (Un.but hs') (I4.hok.sameBut (λb o hbc e=>(hs'.2 b hbc).trans e) (by rw[aF hCD];exact hC)) I4.bare λb hb'=>by rw[Z0.1 hb'];exact⟨.inr (xS I2.sz hCl),lc.symm,cc,λp hp z=>qt _ (v8 (z▸zy (I2.pin p hp).1) hCl)⟩
 exact⟨_,_,I5,q⟩
def DN(i:Nat){spos:Pos}(hN:X.N.Nodup)(ok:CompOkT X scope n N' ix)(hcalm:X.calm=true)(hg:∀C s₂ H₂ fp,PGF (aP X N' scope C s₂ H₂ fp) tgt asg)(hown:∀d ρ ρ',asg d ρ=.ok ρ'->(NoOwn ρ)->NoOwn ρ')(hi:PIF X tgt iter gi)(he:∀C s₂ H₂ fp,PF (aP X N' scope C s₂ H₂ fp) elt ge)(ht:∀C s₂ H₂ fp,PTs (aP X N' scope C s₂ H₂ fp) ifs gt)(hni:X.N[i]?=some y:=by rfl)(hy:X.env.scope.names.lookup y=some .local:=by rfl)(hs:∀x,foldedSetIterable iter X.env x=pure x:=by intro _;rfl)(hsw:swapsWith (.ListComp elt [⟨tgt,iter,ifs,0⟩] scope pos) (some (.Name y py)) spos.line X.env=pure true:=by rfl):
  PSF X (.Assign [.Name y py] (.ListComp elt [⟨tgt,iter,ifs,0⟩] scope pos) spos) (Aa i (km n asg gi ix gt ge)):=λG₀ H₀ pins s σ H D I h=>by
 obtain⟨G,ρ,sr,h⟩:=h;have h:jW X G₀ H₀ D ((km n asg gi ix gt ge ρ).out ρ λds=>.nx (ρ.set i (some (.own ds)))):=h;refine AN i hN ok hcalm hg hown hi he ht hni hy hs hsw I sr.e ?_;cases q:km n asg gi ix gt ge ρ with
 |ok ds=>rw[q]at h;exact λl vs G' H' u hl r=>h _ G' _ ((sr.ups u).setOwn hl r i)
 |ex C=>rw[q]at h;exact Exx.of sr h
 |no=>rw[q]at h;exact h
def sW(i:Nat){spos:Pos}(hN:X.N.Nodup)(ok:CompOk X scope x N' ix)(hcalm:X.calm=true)(hi:PIF X (.Name x px) iter gi)(he:∀C s₂ H₂ fp,PF (aP X N' scope C s₂ H₂ fp) elt ge)(ht:∀C s₂ H₂ fp,PTs (aP X N' scope C s₂ H₂ fp) ifs gt)(hni:X.N[i]?=some y:=by rfl)(hy:X.env.scope.names.lookup y=some .local:=by rfl)(hs:∀x,foldedSetIterable iter X.env x=pure x:=by intro _;rfl)(hsw:swapsWith (.ListComp elt [⟨.Name x px,iter,ifs,0⟩] scope pos) (some (.Name y py)) spos.line X.env=pure true:=by rfl):
  PSF X (.Assign [.Name y py] (.ListComp elt [⟨.Name x px,iter,ifs,0⟩] scope pos) spos) (Aa i (dD gi ix gt ge)):=
 DN (n:=1) (asg:=ur 0) i hN ok.t hcalm (λC s₂ H₂ fp=>fF (X:=aP X N' scope C s₂ H₂ fp) (pos:=px) 0 ok.nd ok.hd (.inl (p9 ok.loc)) (.inr (p9 ok.loc))) nN hi he ht hni hy hs hsw
end
noncomputable def Jc(i:Nat)(ga:Ev->R D):Ev->O:=λρ=>(ownAt ρ i).out ρ λds=>(ga ρ).out ρ λd=>(asL d).out ρ λes=>if ds.length+es.length<=sizeLine then .nx (ρ.set i (some (.own (ds++es))))else .no
noncomputable def Oh(i:Nat)(ga:Ev->R D):Ev->O:=λρ=>(ownAt ρ i).out ρ λds=>(ga ρ).out ρ λd=>if ds.length<sizeLine then .nx (ρ.set i (some (.own (ds++[d]))))else .no
def Nh(i j:Nat)(gl:Ev->R (List D)):Ev->O:=λρ=>(gl ρ).out ρ λds=>(qa [i,j] ds ρ).out ρ .nx
section
variable{fW:List Stmt}{e c o:Expr}{g:Ev->O}{ga:Ev->R D}{pos p2:Pos}
def tW(i:Nat){x:Str}{ap cp:Pos}(he:PF X e ga)(hi:X.N[i]?=some x:=by rfl)(hv:Vis X.env.scope x:=by first|exact Or.inl rfl|exact Or.inr (Or.inl rfl))(hd:(x==("__debug__":Str))=false:=by decide)(hcd:(x==("__classdict__":Str))=false:=by decide)(hs1:starEach [e] X.env=(false,eval e X.env)::starEach [] X.env:=by rfl)(hbase:attributeBase (.Name x p) "extend" X.env (eval (.Name x p) X.env)=eval (.Name x p) X.env:=by rfl)(hfew:((backTo cp (starEach [e] X.env)).all (λx=>!x.1) && (backToKw cp (keywordEach [] X.env)).all (λx=>x.1.isSome)
 && decide ([e].length+([]:List Keyword).length+(if ([]:List Keyword).isEmpty then 0 else 1)<30))=true:=by rfl)(hline:(ap.endLine==cp.line)=true:=by rfl)(hs:swapsWith (.Call (.Attribute (.Name x p) "extend" ap) [e] [] cp) none pos.line X.env=pure false:=by rfl):
  PSF X (.Expr (.Call (.Attribute (.Name x p) "extend" ap) [e] [] cp) pos) (Jc i ga):=xQ i he hi hv hd hcd hs1 hbase hfew hline hs
def DS(i:Nat){x:Str}{ap cp:Pos}(he:PF X e ga)(hi:X.N[i]?=some x:=by rfl)(hv:Vis X.env.scope x:=by first|exact Or.inl rfl|exact Or.inr (Or.inl rfl))(hd:(x==("__debug__":Str))=false:=by decide)(hcd:(x==("__classdict__":Str))=false:=by decide)(hs1:starEach [e] X.env=(false,eval e X.env)::starEach [] X.env:=by rfl)(hbase:attributeBase (.Name x p) "append" X.env (eval (.Name x p) X.env)=eval (.Name x p) X.env:=by rfl)(hfew:((backTo cp (starEach [e] X.env)).all (λx=>!x.1) && (backToKw cp (keywordEach [] X.env)).all (λx=>x.1.isSome)
 && decide ([e].length+([]:List Keyword).length+(if ([]:List Keyword).isEmpty then 0 else 1)<30))=true:=by rfl)(hline:(ap.endLine==cp.line)=true:=by rfl)(hs:swapsWith (.Call (.Attribute (.Name x p) "append" ap) [e] [] cp) none pos.line X.env=pure false:=by rfl):
  PSF X (.Expr (.Call (.Attribute (.Name x p) "append" ap) [e] [] cp) pos) (Oh i ga):=xv i he hi hv hd hcd hs1 hbase hfew hline hs
def Ov(i j:Nat){x:Str}{a b:Expr}{px pt pt2:Pos}{kt k2:Nat}(hc:X.calm=true)(hN:X.N.Nodup)(ha:PFA X [a,b] gl)(hij:i≠j:=by decide)(hi:X.N[i]?=some x:=by rfl)(hj:X.N[j]?=some y:=by rfl)(hx:X.env.scope.names.lookup x=some .local:=by rfl)(hy:X.env.scope.names.lookup y=some .local:=by rfl)(hw:swappedStores [.Tuple [.Name x px,.Name y py] kt pt] (.Tuple [a,b] k2 pt2) X.env=pure (some [x,y]):=by rfl)(hs:swapsWithSole [.Tuple [.Name x px,.Name y py] kt pt] (.Tuple [a,b] k2 pt2) pos.line X.env=pure false:=by rfl):
  PSF X (.Assign [.Tuple [.Name x px,.Name y py] kt pt] (.Tuple [a,b] k2 pt2) pos) (Nh i j gl):=CV i j hc hN ha hij hi hj hx hy hw hs
def zt{sts:List Stmt}(i:Nat)(h:lO X sts g):lO X sts (yW i g):=Bp i h
def HB{ap cp:Pos}(ho:PF X o ga)(ha:PFA X [e] gl)(hbase:attributeBase o "count" X.env (eval o X.env)=eval o X.env:=by rfl)(hfew:((backTo cp (starEach [e] X.env)).all (λx=>!x.1) && (backToKw cp (keywordEach [] X.env)).all (λx=>x.1.isSome)
 && decide ([e].length+([]:List Keyword).length+(if ([]:List Keyword).isEmpty then 0 else 1)<30))=true:=by rfl)(hline:(ap.endLine==cp.line)=true:=by rfl)(hs:starEach [e] X.env=(false,eval e X.env)::starEach [] X.env:=by rfl):
  PF X (.Call (.Attribute o "count" ap) [e] [] cp) (fk "list" mV ga gl):=DQ ho ha hbase hfew hline hs
def IW{ap cp:Pos}(ho:PF X o ga)(ha:PFA X [e] gl)(hbase:attributeBase o "index" X.env (eval o X.env)=eval o X.env:=by rfl)(hfew:((backTo cp (starEach [e] X.env)).all (λx=>!x.1) && (backToKw cp (keywordEach [] X.env)).all (λx=>x.1.isSome)
 && decide ([e].length+([]:List Keyword).length+(if ([]:List Keyword).isEmpty then 0 else 1)<30))=true:=by rfl)(hline:(ap.endLine==cp.line)=true:=by rfl)(hs:starEach [e] X.env=(false,eval e X.env)::starEach [] X.env:=by rfl):
  PF X (.Call (.Attribute o "index" ap) [e] [] cp) (fk "list" mR ga gl):=EO ho ha hbase hfew hline hs
end
structure Errs(K:PySem.W.Frag)(mg:Str->Option Value)(rs:List Addr)(ts:List (Str×Addr)):Prop where
 na:∀t∈ts,mg t.1=some (.ref t.2)
 ec:∀r∈rs,ExcCls K r
 kit:∀r∈rs,∀t∈ts,PySem.W.kitOne K (.ref r) (.ref t.2)=some (r==t.2)
 ve:∀r∈rs,PySem.W.kitOne K (.ref r) (.type "ValueError")=some true
 le:∃L,mg "LineError"=some (.ref L)/\∀r∈rs,PySem.W.exmOne K (.ref r) (.ref L)=some true
def wx(rs:List Addr)(T C:Addr):Option Bool:=if C∈rs then some (C==T)else none
def wz(rs:List Addr)(C:Addr):Option Bool:=if C∈rs then some true else none
section
variable{e:Expr}{ga:Ev->R D}{p2 pos:Pos}
def kr{T:Addr}(Er:Errs X.K X.mg rs ts)(hy:(y,T)∈ts)(hm:X.mg "isinstance"=none)(ha:PF X e ga)(hg:Gl X "isinstance":=by rfl)(hg2:Gl X y:=by rfl)(hd:(y==("__debug__":Str))=false:=by decide)(hs1:starEach [e,.Name y p2] X.env=(false,eval e X.env)::starEach [.Name y p2] X.env:=by rfl):PF X (.Call (.Name "isinstance" p) [e,.Name y p2] [] pos) (aB (nH (wx rs T)) ga):=by
 refine AS (v2:=.ref T) (u2:=.ref T) (wx rs T) (λC b h=>?_) hg hm (jy hg2 (Er.na _ hy) rfl hd) rfl (λu h=>h) ha hs1;unfold wx at h;split at h;·rename_i hC;cases h;exact⟨Er.ec _ hC,Er.kit _ hC _ hy⟩
 ·cases h
end
section
variable{e:Expr}{ga:Ev->R D}{p2 pos:Pos}
def JW(Er:Errs X.K X.mg rs ts)(hm:X.mg "isinstance"=none)(hm2:X.mg "ValueError"=none)(ha:PF X e ga)(hg:Gl X "isinstance":=by rfl)(hg2:Gl X "ValueError":=by rfl)(hs1:starEach [e,.Name "ValueError" p2] X.env=(false,eval e X.env)::starEach [.Name "ValueError" p2] X.env:=by rfl):PF X (.Call (.Name "isinstance" p) [e,.Name "ValueError" p2] [] pos) (aB (nH (wz rs)) ga):=by
 refine AS (v2:=.ty "ValueError") (u2:=.type "ValueError") (wz rs) (λC b h=>?_) hg hm (tP hg2 hm2 rfl rfl) rfl (λu h=>h) ha hs1;unfold wz at h;split at h;·rename_i hC;cases h;exact⟨Er.ec _ hC,Er.ve _ hC⟩
 ·cases h
end
section
variable{w:World}{K:PySem.W.Frag}{mg:Str->Option Value}{base:Heap}{N:List Str}{x:Str}{A:Around}{outer:List Env}{E:XK}{pn:List (Addr×Obj)}{xe:Value->Shared->Prop}{pos:Pos}{e:Expr}{ga:Ev->R D}
def jM(h:At N i x)(hv:Vis (fV CX P w K mg base N qual scope f cdv A outer s H E).env.scope x:=by first|exact Or.inl rfl|exact Or.inr (Or.inl rfl)|exact Or.inr (Or.inr rfl))(hd:(x==("__debug__":Str))=false:=by decide)(hcd:(x==("__classdict__":Str))=false:=by decide):PF (qL (fV CX P w K mg base N qual scope f cdv A outer s H E) pn xe) (.Name x pos) (λρ=>rdV ρ i):=wm i h hv hd hcd
def Lm(h:At N i x)(hv:Vis (fV CX P w K mg base N qual scope f cdv A outer s H E).env.scope x:=by first|exact Or.inl rfl|exact Or.inr (Or.inl rfl)|exact Or.inr (Or.inr rfl))(hd:(x==("__debug__":Str))=false:=by decide)(hcd:(x==("__classdict__":Str))=false:=by decide):PF (oA (fV CX P w K mg base N qual scope f cdv A outer s H E) a xe) (.Name x pos) (λρ=>rdV ρ i):=wm i h hv hd hcd
def B9(h:At N i x)(hN:N.Nodup)(he:PF (qL (fV CX P w K mg base N qual scope f cdv A outer s H E) pn xe) e ga)(hx:Loc (fV CX P w K mg base N qual scope f cdv A outer s H E).env.scope x:=by first|exact Or.inl rfl|exact Or.inr rfl)(hs:swapsWithSole [.Name x p] e pos.line (fV CX P w K mg base N qual scope f cdv A outer s H E).env=pure false:=by rfl)(hw:swappedStores [.Name x p] e (fV CX P w K mg base N qual scope f cdv A outer s H E).env=pure none:=by rfl)(hf:(fV CX P w K mg base N qual scope f cdv A outer s H E).fn x=true\/(fV CX P w K mg base N qual scope f cdv A outer s H E).env.scope.names.lookup x=some .local:=by first|exact .inl rfl|exact .inr rfl):
  PSF (qL (fV CX P w K mg base N qual scope f cdv A outer s H E) pn xe) (.Assign [.Name x p] e pos) (eO i ga):=Ho i hN he h hx hs hw hf
def Ki(h:At N i x)(hN:N.Nodup)(he:PF (oA (fV CX P w K mg base N qual scope f cdv A outer s H E) a xe) e ga)(hx:Loc (fV CX P w K mg base N qual scope f cdv A outer s H E).env.scope x:=by first|exact Or.inl rfl|exact Or.inr rfl)(hs:swapsWithSole [.Name x p] e pos.line (fV CX P w K mg base N qual scope f cdv A outer s H E).env=pure false:=by rfl)(hw:swappedStores [.Name x p] e (fV CX P w K mg base N qual scope f cdv A outer s H E).env=pure none:=by rfl)(hf:(fV CX P w K mg base N qual scope f cdv A outer s H E).fn x=true\/(fV CX P w K mg base N qual scope f cdv A outer s H E).env.scope.names.lookup x=some .local:=by first|exact .inl rfl|exact .inr rfl):
  PSF (oA (fV CX P w K mg base N qual scope f cdv A outer s H E) a xe) (.Assign [.Name x p] e pos) (eO i ga):=Ho i hN he h hx hs hw hf
end
section
variable{suite:List Stmt}{b₀:Stmt}{gb gs:Ev->O}{pos hp tp:Pos}{nm:Str}
def NM(i:Nat)(Er:Errs X.K X.mg rs ts)(hN:X.N.Nodup)(hcalm:X.calm=true)(hst:X.stack=X.env::X.outer)(hfr:X.env.frame=some X.env.locals)(hkd:X.env.scope.kind=.function)(hb:∀pn xe,lO (qL X pn xe) body gb)(hh:∀a xe,lO (oA X a xe) (b₀::suite) gs)(hg:Gl X "LineError":=by rfl)(hi:X.N[i]?=some nm:=by rfl)(hx:X.env.scope.names.lookup nm=some .local:=by rfl):
  PSF X (.Try body [.ExceptHandler (some (.Name "LineError" tp)) (some nm) (b₀::suite) hp] [] [] pos) (Gd gb gs (wz rs) i):=by
 obtain⟨L,hL,hk⟩:=Er.le;refine Dy i (wz rs) hN hcalm hst hfr hkd hb hh (λC h=>?_) hg hL hi hx;unfold wz at h;split at h;·rename_i hC;exact hk C hC
 ·cases h
end
noncomputable def fl:Nat->D->Bool
 | 0,_=>false
 |n+1,.tup xs=>xs.all (fl n)
 |_+1,.lst _ _=>false
 |_+1,.exc _=>false
 |_+1,.dct _ _=>false
 |_+1,_=>true
theorem BI{K:PySem.W.Frag}{G G2:Hp}{n:Nat}(ih:∀v d,fl n d=true->Rep K G v d->Rep K G2 v d):∀{vs:List V}{ds:List D},ds.all (fl n)=true->Reps K G vs ds->Reps K G2 vs ds
 |_,_,_,.nil=>.nil
 |_,_,h,.cons r t=>by rw[List.all_cons,p6]at h;exact .cons (ih _ _ h.1 r) (BI ih h.2 t)
theorem A9{K:PySem.W.Frag}{G G2:Hp}(h:∀a o,G a=some o->(∀vs,o≠HO.lst vs)->G2 a=some o):∀(n:Nat)(v:V)(d:D),fl n d=true->Rep K G v d->Rep K G2 v d
 | 0,_,_,hf,_=>by simp[fl]at hf
 |n+1,v,d,hf,r=>by
  cases r with
  |non=>exact .non
  |bl b=>exact .bl b
  |int i=>exact .int i
  |str x hx=>exact .str x hx
  |tup hs t=>
   refine .tup ?_ (BI (λv d=>A9 h n v d) hf t);rcases hs with (q|⟨o,q⟩)|q;·exact .inl (.inl (h _ _ q λvs z=>by cases z))
   ·exact .inl (.inr ⟨o,h _ _ q λvs z=>by cases z⟩)
   ·exact .inr q
  |lst hs t=>simp[fl]at hf
  |fls hs t=>simp[fl]at hf
  |exc hs=>simp[fl]at hf
  |dct _ _ _=>simp[fl]at hf
def StR.peek{K:PySem.W.Frag}{H₀:Hp}(s:StR K G₀ H₀ G H σ ρ)(i:Nat):∃G1,StE K G1 H σ (L2.frz i ρ)/\
  ∀G' H',Up G1 H G' H'->∃G2,Up G H G2 H'/\∀a o,G' a=some o->(∀vs,o≠HO.lst vs)->G2 a=some o:=by
 obtain⟨G1,sr,e|⟨l,vs,hl,e⟩⟩:=s.frzTo i;·subst e;exact⟨G1,sr.e,λG' H' u=>⟨G',u,λa o q _=>q⟩⟩
 ·subst e;refine⟨_,sr.e,λG' H' u=>⟨λa=>if a=l then none else G' a,⟨λa o q=>?_,λa o q=>?_,u.hh,λa o q=>?_⟩,λa o q hq=>?_⟩⟩
  ·have q:(if a=l then none else G' a)=some o:=q;split at q;·cases q
   ·exact u.sub a o q
  ·have ne:a≠l:=λz=>by subst z;rw[hl]at q;cases q
   show(if a=l then none else G' a)=some o;rw[if_neg ne];exact u.gg a o (by rw[aF ne];exact q)
  ·have q:(if a=l then none else G' a)=some o:=q;split at q;·cases q
   ·rename_i ne;rcases u.fr a o q with z|z;·rw[aF ne]at z;exact .inl z
    ·exact .inr z
  ·have ne:a≠l:=λz=>by subst z;have:=u.gg a _ aV;rw[q]at this;cases this;exact hq vs rfl
   show(if a=l then none else G' a)=some o;rw[if_neg ne];exact q
section
variable{fW a b:List Stmt}{e c:Expr}{g g1 g2:Ev->O}{ga:Ev->R D}{gt:Ev->R Bool}{pos:Pos}
noncomputable def Ng(i:Nat)(gt:Ev->R Bool)(g1 g2:Ev->O):Ev->O:=λρ=>(fA (gt (frz i ρ))).out ρ λk=>if k=true then g1 ρ else g2 ρ
def M0(i:Nat)(hc:PB X c gt)(ha:lO X a g1)(hb:lO X b g2):PSF X (.If c a b pos) (Ng i gt g1 g2):=λG₀ H₀ pins s σ H D I h=>by
 refine Mf hc (ha G₀ H₀) (hb G₀ H₀) pins s σ H D I ?_;obtain⟨G,ρ,sr,h⟩:=h;have h:jW X G₀ H₀ D ((fA (gt (frz i ρ))).out ρ λk=>if k=true then g1 ρ else g2 ρ):=h;obtain⟨G1,st1,pk⟩:=sr.peek i;refine⟨G1,_,st1,?_⟩;cases q:gt (frz i ρ)with
 |ok k=>
  rw[q]at h;intro b' G' H' u r;subst r;obtain⟨G2,u2,_⟩:=pk G' H' u;cases b' with
  |true=>rw[if_pos rfl];exact⟨G2,ρ,sr.ups u2,by simpa[R.out,fA]using h⟩
  |false=>rw[if_neg wT];exact⟨G2,ρ,sr.ups u2,by simpa[R.out,fA]using h⟩
 |_=>rw[q]at h;exact h.elim
noncomputable def II(j i:Nat)(ga:Ev->R D):Ev->O:=λρ=>(fA (ga (frz j ρ))).out ρ λd=>if fl 10 d=true then .nx (ρ.set i (some (.val d)))else .no
def LK(j i:Nat){x:Str}(hN:X.N.Nodup)(he:PF X e ga)(hi:X.N[i]?=some x:=by rfl)(hx:Loc X.env.scope x:=by first|exact Or.inl rfl|exact Or.inr rfl)(hs:swapsWithSole [.Name x p] e pos.line X.env=pure false:=by rfl)(hw:swappedStores [.Name x p] e X.env=pure none:=by rfl)(hf:X.fn x=true\/X.env.scope.names.lookup x=some .local:=by first|exact .inl rfl|exact .inr rfl):
  PSF X (.Assign [.Name x p] e pos) (II j i ga):=λG₀ H₀ pins s σ H D I h=>by
 refine qX he (mf (i:=i) hN hi hx hf) hs hw rfl pins s σ H D I ?_;obtain⟨G,ρ,sr,h⟩:=h;have h:jW X G₀ H₀ D ((fA (ga (frz j ρ))).out ρ λd=>if fl 10 d=true then .nx (ρ.set i (some (.val d)))else .no):=h;obtain⟨G1,st1,pk⟩:=sr.peek j;refine⟨G1,_,st1,?_⟩;cases q:ga (frz j ρ)with
 |ok d=>
  rw[q]at h;intro v G' H' u r;obtain⟨G2,u2,tr⟩:=pk G' H' u;have h:jW X G₀ H₀ D (if fl 10 d=true then .nx (ρ.set i (some (.val d)))else .no):=h;by_cases hfl:fl 10 d=true;·rw[if_pos hfl]at h;exact h _ G2 _ ((sr.ups u2).set (A9 tr 10 v d hfl r) i)
  ·rw[if_neg hfl]at h;exact h.elim
 |_=>rw[q]at h;exact h.elim
noncomputable def MS(j i:Nat)(ga:Ev->R D):Ev->O:=λρ=>(ownAt ρ i).out ρ λds=>(fA (ga (frz j ρ))).out ρ λd=>if ds.length<sizeLine/\fl 10 d=true then .nx (ρ.set i (some (.own (ds++[d]))))else .no
noncomputable def GS(i:Nat)(gk ga:Ev->R D):Ev->O:=λρ=>(ownAt ρ i).out ρ λds=>(fA (ga (frz i ρ))).out ρ λd=>(fA (gk (frz i ρ)>>=asI)).out ρ λk=>match ixN ds.length k with
 |some n=>if fl 10 d=true then .nx (ρ.set i (some (.own (ds.set n d))))else .no
 |none=>.no
def Jx(i:Nat){x:Str}{tp:Pos}{ix:Expr}(he:PF X e ga)(hk:PF X ix gk)(hi:X.N[i]?=some x:=by rfl)(hv:Vis X.env.scope x:=by first|exact Or.inl rfl|exact Or.inr (Or.inl rfl))(hd:(x==("__debug__":Str))=false:=by decide)(hcd:(x==("__classdict__":Str))=false:=by decide)(hs:swapsWithSole [.Subscript (.Name x p) ix tp] e pos.line X.env=pure false:=by rfl)(hw:swappedStores [.Subscript (.Name x p) ix tp] e X.env=pure none:=by rfl)(h1':(assignEach [.Subscript (.Name x p) ix tp] X.env).map (·.2)=[assign (.Subscript (.Name x p) ix tp) X.env]:=by rfl)(ha:∀v,assign (.Subscript (.Name x p) ix tp) X.env v=(do
 let ov <- holding [v] (eval (.Name x p) X.env);let iv <- holding [v,ov] (eval ix X.env)
 standAt tp
 holding [v,ov,iv] (setItem ov iv v)
 release [v,ov,iv] []):=by intro _;rfl):
  PSF X (.Assign [.Subscript (.Name x p) ix tp] e pos) (GS i gk ga):=λG₀ H₀ pins s σ H D I h=>by
 refine qX he (FY (iS hi hv hd hcd) hk yD ha) hs hw h1' pins s σ H D I ?_;obtain⟨G,ρ,sr,h⟩:=h;have h:jW X G₀ H₀ D ((ownAt ρ i).out ρ λds=>(fA (ga (frz i ρ))).out ρ λd=>(fA (gk (frz i ρ)>>=asI)).out ρ λk=>match ixN ds.length k with
  |some n=>if fl 10 d=true then .nx (ρ.set i (some (.own (ds.set n d))))else .no
  |none=>.no):=h;obtain⟨ds,e1,h⟩:=ownAt.ok h;obtain⟨l,vs,h1,h2,h3,h4,h5⟩:=sr.own i ds e1;obtain⟨G1,st1,pk⟩:=sr.peek i;refine⟨G1,_,st1,?_⟩;cases q:ga (frz i ρ)with
 |ok d=>
  rw[q]at h;intro v G' H' u r;have h:jW X G₀ H₀ D ((fA (gk (frz i ρ)>>=asI)).out ρ λk=>match ixN ds.length k with
   |some n=>if fl 10 d=true then .nx (ρ.set i (some (.own (ds.set n d))))else .no
   |none=>.no):=h;show O1 _ _ _ v σ H' _;refine⟨.ref l,h1,G',_,st1.up u,?_⟩;cases q2:gk (frz i ρ)with
  |ok kd=>
   rw[q2]at h;intro kv G'' H'' u' rk;cases rk with
   |int k=>
    have h:jW X G₀ H₀ D (match ixN ds.length k with
     |some n=>if fl 10 d=true then .nx (ρ.set i (some (.own (ds.set n d))))else .no
     |none=>.no):=h;obtain⟨G2,u2,tr⟩:=pk G'' H'' (u.trans u');cases q3:ixN ds.length k with
    |none=>rw[q3]at h;exact h.elim
    |some n=>
     rw[q3]at h;have h:jW X G₀ H₀ D (if fl 10 d=true then .nx (ρ.set i (some (.own (ds.set n d))))else .no):=h;by_cases hz:fl 10 d=true;·rw[if_pos hz]at h;refine⟨l,vs,k,n,rfl,rfl,(u.trans u').hh _ _ h2,by rw[h5.length];exact q3,h _ G2 _ ?_⟩;exact(sr.ups u2).mut e1 h1 (.set (A9 tr 10 v d hz (r.mono u'.gg)) n (h5.mono u2.gg))
     ·rw[if_neg hz]at h;exact h.elim
   |_=>exact h.elim
  |_=>rw[q2]at h;exact h.elim
 |_=>rw[q]at h;exact h.elim
def PR:D->R (List D)
 |.lst _ xs=>.ok xs
 |.tup xs=>.ok xs
 |_=>.no
def MG:List D->R (List D)
 | [d]=>PR d
 |_=>.no
def M9(gl:Ev->R (List D)):Ev->R (List D):=λρ=>gl ρ>>=MG
def AW{a b:Expr}(hg:Gl X "range")(hm:X.mg "range"=none)(ha:PFA X [a,b] gl)(hs:starEach [a,b] X.env=[(false,eval a X.env),(false,eval b X.env)]:=by rfl)(hs2:starEach [b] X.env=[(false,eval b X.env)]:=by rfl):PIF X tg (.Call (.Name "range" p) [a,b] [] pos) (aB rS gl):=zl hg hm ha hs hs2
end
end L2
namespace L2
open PySem PySem.Spec PyProof.Rows PySem.W
section
variable{A:Around}{Q:Value->Shared->Prop}
def HP{x:V}{u:Value}{T:String}{b:Bool}{tp:Addr}{cs:List Value}(I:Inv X pins σ H s)(sub:Same G H)(r:Rep X.K G x d)(ru:RelV x u)(ht:tyN d=some T)(htp:IsTup s.heap tp cs.toArray)(e:kitAny X.K (.type T) cs=some b)(h:∀tk,Q (.bool b) { s with toks:=tk }):
  wpAny (model X.prog X.w) A (call (.builtin "isinstance") [u,.ref tp]) Q E s:=by
 obtain⟨⟨cls,dd,data,sl⟩,ho,hc,n,hd⟩:=htp;simp only at hc hd;subst hc hd;cases r with
 |non=>cases ht;cases ru;exact kia_tup kitx_none I.kIn True.intro ho e (λz=>nomatch z) h
 |bl y=>cases ht;cases ru;exact kia_tup kitx_bool I.kIn True.intro ho e (λz=>nomatch z) h
 |int i=>cases ht;obtain⟨t,rfl⟩:=ru;exact kia_tup kitx_int I.kIn True.intro ho e (λz=>nomatch z) h
 |str y hy=>cases ht;obtain⟨t,rfl⟩:=ru;exact kia_tup kitx_str I.kIn True.intro ho e (λz=>nomatch z) h
 |tup hh t=>cases ht;cases ru;obtain⟨its,rv,⟨o,h1,h2,_⟩,_⟩:=I.tuple (hh.mono sub);exact kia_tup kitx_tuple I.kIn ⟨o,h1,h2⟩ ho e (λz=>nomatch z) h
 |lst hh t=>cases ht;cases ru;obtain⟨its,rv,⟨o,n,h1,h2,_⟩,_⟩:=I.list ((SqL.of hh:SqL X.K G _ _).mono sub);exact kia_tup kitx_list I.kIn ⟨o,h1,h2⟩ ho e (λz=>nomatch z) h
 |fls hh t=>cases ht;cases ru;obtain⟨its,rv,⟨o,n,h1,h2,_⟩,_⟩:=I.list (hh.mono sub);exact kia_tup kitx_list I.kIn ⟨o,h1,h2⟩ ho e (λz=>nomatch z) h
 |exc hh=>cases ht
 |dct _ _ _=>cases ht
end
def Ht(t:String):Bool:=t=="list" || t=="tuple"
def JK(K:Frag):∀t∈["NoneType","bool","int","str","tuple","list"],kitAny K (.type t) [.type "list",.type "tuple"]=some (Ht t):=by intro t ht;simp only[y9,w8,w9]at ht;rcases ht with rfl|rfl|rfl|rfl|rfl|rfl <;> rfl
section
variable{e:Expr}{ga:Ev->R D}{p2 p3 p4 pos:Pos}
def LP(hm:X.mg "isinstance"=none)(ha:PF X e ga)(hm2:X.mg "list"=none)(hm3:X.mg "tuple"=none)(hg2:Gl X "list":=by rfl)(hg3:Gl X "tuple":=by rfl)(hg:Gl X "isinstance":=by rfl)(hs1:starEach [e,.Tuple [.Name "list" p2,.Name "tuple" p3] k p4] X.env=(false,eval e X.env)::starEach [.Tuple [.Name "list" p2,.Name "tuple" p3] k p4] X.env:=by rfl)(hs2:starEach [.Tuple [.Name "list" p2,.Name "tuple" p3] k p4] X.env=(false,eval (.Tuple [.Name "list" p2,.Name "tuple" p3] k p4) X.env)::starEach [] X.env:=by rfl):
  PF X (.Call (.Name "isinstance" p) [e,.Tuple [.Name "list" p2,.Name "tuple" p3] k p4] [] pos) (aB (kn Ht) ga):=by
 intro pins s σ H Q I h;have hc:ky X (.builtin "isinstance") (λxs H Q=>∃x G d tp,xs=[x,.ref tp]/\Same G H/\Rep X.K G x d/\H tp=some (.tup [.ty "list",.ty "tuple"])/\∃t,tyN d=some t/\Q (.bl (Ht t)) H):=by
  intro pins s σ H xs us Q I r ⟨x,G,d,tp,ex,sub,rd,htp,t,et,q⟩;subst ex;obtain⟨u,u2,rfl,r1,r2⟩:=r.two;cases r2;obtain⟨its,rv,it,_⟩:=I.tuple (xs:=[.ty "list",.ty "tuple"]) (.of htp);obtain⟨c1,c2,rfl,q1,q2⟩:=rv.two;cases q1;cases q2;refine HP I sub rd r1 et it (JK X.K t ?_) λtk=>⟨.bl (Ht t),H,I.tok tk,rfl,q⟩
  cases d <;> cases et <;> simp
 refine lM hc hg hm PyProof.Rows.Boot.«isinstance» (dM ha (dM (FQ (dM (tP (v:=.ty "list") hg2 hm2 PyProof.Rows.Boot.«list» rfl (by decide) (by decide)) (dM (tP (v:=.ty "tuple") hg3 hm3 PyProof.Rows.Boot.«tuple» rfl (by decide) (by decide)) jI rfl) rfl)) jI hs2) hs1) (by decide) (by decide) hs1 rfl pins s σ H Q I ?_;obtain⟨G,ρ,st,h⟩:=h;refine tG.intro st h λx v G1 H1 u1 st1 r1 h1=>?_;refine⟨by show 2<=sizeLine;decide,λtp htp=>?_⟩;have sub:Same G1 (upd H1 tp (.tup [.ty "list",.ty "tuple"])):=λa o q=>by rw[aF (aJ (st1.sub a o q) htp)];exact st1.sub a o q
 refine⟨v,G1,x,tp,rfl,sub,r1,aV,?_⟩;unfold kn at h1;cases et:tyN x with
 |none=>rw[et]at h1;exact h1.elim
 |some t=>rw[et]at h1;exact⟨t,rfl,h1 _ G1 _ ⟨sub,.refl _,.into htp,λ_ _ z=>.inl z⟩ (.bl _)⟩
end
def zL:List D->Option (List (List Nat))
 | []=>some []
 |.str x::ds=>(zL ds).map (x::·)
 |_=>none
def qU(sep:List Nat):List (List Nat)->List Nat
 | []=>[]
 | [x]=>x
 |x::y::r=>x++sep++qU sep (y::r)
noncomputable def zc:D->List D->Option D
 |.str s,[.lst _ ds]=>match zL ds with
  |some xs=>if (xs.map List.length).sum+xs.length * s.length<=sizeLine then some (.str (qU s xs))else none
  |none=>none
 |_,_=>none
theorem Reps.strs{K:PySem.W.Frag}:∀{vs:List V}{ds:List D}{xs:List (List Nat)},Reps K G vs ds->zL ds=some xs->∃ys:List Str,vs=ys.map V.str/\ys.map (λy=>y.cps.toList)=xs
 |_,_,_,.nil,h=>by cases h;exact⟨[],rfl,rfl⟩
 |_,_,xs,.cons (d:=d) r t,h=>by
  cases d <;> first|(cases h;done)|skip
  rename_i x;rename_i ds';cases q:zL ds' with
  |none=>simp[zL,q]at h
  |some zs=>simp[zL,q]at h;obtain⟨ys,e1,e2⟩:=Reps.strs t q;obtain⟨y,rfl,ey,_⟩:=r.str_inv;exact⟨y::ys,by rw[e1];rfl,by rw[tI,e2,ey];exact h⟩
theorem Vals.strs:∀{ys:List Str}{us:List Value},Vals (ys.map V.str) us->StrsAre us ys
 | [],_,h=>by cases h;exact .nil
 |y::ys,_,h=>by
  cases h with
  |cons a b=>obtain⟨t,rfl⟩:=a;exact .cons y t (Vals.strs b)
def mZ(s:Str):∀ys:List Str,(Txt.join s ys).cps.toList=qU s.cps.toList (ys.map λy=>y.cps.toList):=by
 intro ys;show(Builtin.Str.glued s ys).cps.toList=_;rw[StrLaws.glued_eq_join];induction ys with
 |nil=>rfl
 |cons y r ih=>
  cases r with
  |nil=>rfl
  |cons z r=>show(y++s++Str.join s (z::r)).cps.toList=_;rw[Str.app_list,Str.app_list,ih];rfl
theorem mS(s:List Nat):∀xs:List (List Nat),(qU s xs).length<=(xs.map List.length).sum+xs.length * s.length
 | []=>by simp[qU]
 | [x]=>by simp[qU]
 |x::y::r=>by have:=mS s (y::r);simp only[qU,sg,tI,Z1,wV,Nat.succ_mul]at this⊢;omega
noncomputable def Kb(K:PySem.W.Frag):V->List V->Hp->VK->Prop:=λx vs H Q=>∃(y:Str)(p:Addr)(ys:List Str),x=.str y/\vs=[.ref p]/\SqL K H p (ys.map V.str)/\(ys.map (·.length)).sum+ys.length * y.length<=16777216/\Q (.str (Txt.join y ys)) H
def HF:MtR X "str.join" (Kb X.K):=by intro pins s σ H x xs v us Q I rx rv ⟨y,p,ys,ex,exs,hl,hz,q⟩;subst ex exs;obtain⟨t,rfl⟩:=rx;obtain⟨u,rfl,r1⟩:=rv.one;cases r1;obtain⟨its,rvs,pl,_⟩:=I.list hl;exact join_list pl.isList (Vals.strs (by simpa using rvs)) hz λt' k=>⟨.str _,H,I.tok _,⟨_,rfl⟩,q⟩
def Iw(K:PySem.W.Frag):BA K "str" (Kb K) zc:=by
 intro G H x xs dx ds d Q s rx rs e q;unfold zc at e;split at e
 ·split at e
  ·rename_i zs hz;split at e
   ·rename_i hle;cases e;obtain⟨v,rfl,r1⟩:=rs.one;obtain⟨y,rfl,ey,hy⟩:=rx.str_inv;obtain⟨a,vs,rfl,hs,rr⟩:=r1.seq_inv;obtain⟨ys,e1,e2⟩:=rr.strs hz;subst e1;subst e2;subst ey;have hle':(ys.map (·.length)).sum+ys.length * y.length<=16777216:=by
     have e3:(ys.map λy=>y.cps.toList).map List.length=ys.map (·.length):=by rw[Z2];exact Zi λz _=>Str.len_list z
     rw[e3,uc,Str.len_list]at hle;exact hle
    refine⟨y,a,ys,rfl,rfl,hs.mono s,hle',q _ G H (.refl s) (.strL (mZ y ys) ?_)⟩;exact xS (mS _ _) hle
   ·cases e
  ·cases e
 ·cases e
def B5{o e:Expr}{ga:Ev->R D}{ap cp:Pos}(ho:PF X o ga)(ha:PFA X [e] gl)(hbase:attributeBase o "join" X.env (eval o X.env)=eval o X.env:=by rfl)(hfew:((backTo cp (starEach [e] X.env)).all (λx=>!x.1) && (backToKw cp (keywordEach [] X.env)).all (λx=>x.1.isSome)
 && decide ([e].length+([]:List Keyword).length+(if ([]:List Keyword).isEmpty then 0 else 1)<30))=true:=by rfl)(hline:(ap.endLine==cp.line)=true:=by rfl)(hs:starEach [e] X.env=(false,eval e X.env)::starEach [] X.env:=by rfl):
  PF X (.Call (.Attribute o "join" ap) [e] [] cp) (fk "str" zc ga gl):=iA oR PySem.F.slot_str_join PySem.F.type_str_join HF (Iw _) ho ha hbase hfew hline hs rfl
def qz:List D->Option (List Int)
 | []=>some []
 |.int i::ds=>(qz ds).map (i::·)
 |_=>none
noncomputable def ME:List D->Option D
 | [.lst _ ds]=>match qz ds with
  |some (n::ns)=>some (.int (ns.foldl max n))
  |_=>none
 |_=>none
theorem Reps.nums{K:PySem.W.Frag}:∀{vs:List V}{ds:List D}{ns:List Int},Reps K G vs ds->qz ds=some ns->vs=ns.map V.int
 |_,_,_,.nil,h=>by cases h;rfl
 |_,_,ns,.cons (d:=d) r t,h=>by
  cases d <;> first|(cases h;done)|skip
  rename_i x;rename_i ds';cases q:qz ds' with
  |none=>simp[qz,q]at h
  |some zs=>simp[qz,q]at h;subst h;rw[Reps.nums t q,r.int_inv];rfl
theorem Vals.nums:∀{ns:List Int}{us:List Value},Vals (ns.map V.int) us->us.length=ns.length/\∀(i:Nat) u,us[i]?=some u->∃t,u=.int (ns.getD i 0) t
 | [],_,h=>by cases h;exact⟨rfl,λi u e=>by simp at e⟩
 |n::ns,_,h=>by
  cases h with
  |cons a b=>
   obtain⟨t,rfl⟩:=a;obtain⟨hl,hg⟩:=Vals.nums b;refine⟨by simp[hl],λi u e=>?_⟩;cases i with
   |zero=>simp at e;exact⟨t,e.symm⟩
   |succ i=>simp at e;simpa using hg i u e
theorem nh:∀(ns:List Int)(n:Int),n<=ns.foldl max n/\(∀a∈ns,a<=ns.foldl max n)/\(ns.foldl max n=n\/ns.foldl max n∈ns)
 | [],n=>⟨by simp,by simp,by simp⟩
 |m::ns,n=>by
  obtain⟨h1,h2,h3⟩:=nh ns (max n m);refine⟨?_,?_,?_⟩;·simp only[j5];omega
  ·intro a ha;simp only[j5];rcases y9.1 ha with rfl|ha;·omega
   ·exact h2 a ha
  ·simp only[j5];rcases h3 with h3|h3
   ·rw[h3];rcases Int.le_total n m with q|q;·rw[Int.max_eq_right q];exact .inr (uS ..)
    ·rw[Int.max_eq_left q];exact .inl rfl
   ·exact .inr (v9 _ h3)
def Em{ns:List Int}{n a:Int}(h:a∈n::ns):∃j,j<(n::ns).length/\(n::ns).getD j 0=a:=by obtain⟨j,hj,e⟩:=List.mem_iff_getElem.1 h;exact⟨j,hj,by rw[uF,t5 hj];exact e⟩
def DI{ns:List Int}{n:Int}(h:j<(n::ns).length):(n::ns).getD j 0∈n::ns:=by rw[uF,t5 h];exact List.getElem_mem h
section
def Bb(hc:X.calm=true):ky X (.builtin "max") (λxs H Q=>∃p n ns,xs=[.ref p]/\SqL X.K H p ((n::ns).map V.int)/\Q (.int (ns.foldl max n)) H):=by
 intro pins s σ H xs us Q I r ⟨p,n,ns,ex,hs,q⟩;subst ex;obtain⟨u,rfl,r1⟩:=r.one;cases r1;obtain⟨its,rv,pl,hz⟩:=I.list hs;obtain⟨hlen,hget⟩:=Vals.nums rv;have hh:X.A.in1.handled=none:=I.ok.hd hc;have hlt:p<s.heap.objs.size:=by obtain⟨o,n,e,_⟩:=id pl;exact zy e
 refine call_max_walk (d6 pl.isList ?_);refine⟨s.heap.objs.size,[s.heap.objs.size,p],[s.heap.objs.size],_,_,_,_,rfl,Walks.list hh s.heap.objs.size p (xD hlt) its.toArray,⟨⟨_,xG _ rfl,rfl,rfl⟩,?_⟩,?_,?_,CmpOf.ints_gt (λi=>(n::ns).getD i 0) (λi v hv=>hget i v (by simpa using hv)),λv h' tk hP hk=>?_⟩;·obtain⟨o,n,e,c,_,d⟩:=id pl;exact⟨o,zT _ e,c,n,d⟩
 ·intro b hb;have e:(s.heap.push { cls:=.type "list_iterator",data:=.fields #[.ref p,.int 0 0] }).objs.size=s.heap.objs.size+1:=vg _ _;show b<(s.heap.push { cls:=.type "list_iterator",data:=.fields #[.ref p,.int 0 0] }).objs.size;rw[e];simp only[y9,w8,w9]at hb;rcases hb with rfl|rfl;·exact pP _
  ·exact i4 hlt
 ·rw[xm,hlen];simp
 ·have hP':its.toArray[argBest (λi j=>decide ((n::ns).getD i 0 > (n::ns).getD j 0)) (its.toArray.size - 1)]?=some v:=hP;rw[List.getElem?_toArray]at hP';obtain⟨t,rfl⟩:=hget _ v hP';have e1:its.toArray.size - 1=ns.length:=by rw[xm,hlen];simp
  obtain⟨a1,a2⟩:=argBest_gt (λi=>(n::ns).getD i 0) ns.length;have e2:(n::ns).getD (argBest (λi j=>decide ((n::ns).getD i 0 > (n::ns).getD j 0)) ns.length) 0=ns.foldl max n:=by
   obtain⟨m1,m2,m3⟩:=nh ns n;refine Int.le_antisymm ?_ ?_
   ·have:=DI (ns:=ns) (n:=n) (j:=argBest (λi j=>decide ((n::ns).getD i 0 > (n::ns).getD j 0)) ns.length) (by rw[wV];exact Nat.lt_succ_of_le a1);rcases y9.1 this with q|q;·rw[q];exact m1
    ·exact m2 _ q
   ·obtain⟨j,hj,e⟩:=Em (ns:=ns) (n:=n) (a:=ns.foldl max n) (by
     rcases m3 with q|q;·rw[q];exact uS ..
     ·exact v9 _ q);rw[<- e];exact a2 j (by simp at hj;omega)
  rw[e1,e2];refine⟨.int _,H,I.kept (t':=tk) λb o eb=>hk b o (λz=>?_) (zT _ eb),⟨_,rfl⟩,q⟩;have:b=s.heap.objs.size:=by simpa using z
  exact qt _ (this▸zy eb)
def Hv(K:PySem.W.Frag):Hr K (λxs H Q=>∃p n ns,xs=[.ref p]/\SqL K H p ((n::ns).map V.int)/\Q (.int (ns.foldl max n)) H) ME:=by
 intro G H xs ds d Q s r e q;unfold ME at e;split at e
 ·split at e;·rename_i n ns hn;cases e;obtain⟨v,rfl,r1⟩:=r.one;obtain⟨a,vs,rfl,hs,rr⟩:=r1.seq_inv;obtain rfl:=rr.nums hn;exact⟨a,n,ns,rfl,hs.mono s,q _ G H (.refl s) (.int _)⟩
  ·cases e
 ·cases e
def Kc{e:Expr}{pos:Pos}(hc:X.calm=true)(hg:Gl X "max")(hm:X.mg "max"=none)(ha:PFA X [e] gl)(he:starEach [e] X.env=(false,eval e X.env)::starEach [] X.env:=by rfl):
  PF X (.Call (.Name "max" p) [e] [] pos) (gOf ME gl):=ly (Bb hc) (Hv _) hg hm PyProof.Rows.Boot.«max» ha (by decide) (by decide) he rfl
def tj{e:Expr}{ga:Ev->R D}{p2 pos:Pos}(hm:X.mg "isinstance"=none)(ha:PF X e ga)(hm2:X.mg "list"=none)(hg2:Gl X "list":=by rfl)(hg:Gl X "isinstance":=by rfl)(hs1:starEach [e,.Name "list" p2] X.env=(false,eval e X.env)::starEach [.Name "list" p2] X.env:=by rfl):PF X (.Call (.Name "isinstance" p) [e,.Name "list" p2] [] pos) (aB (kn (·=="list")) ga):=Cd hm ha hm2 hg2 hg hs1
end
end L2
namespace L2
open PySem PySem.Spec PyProof.Rows
open Sem (wp)
open AutoSeq1 (wpAny_loadPart')
def J6:isSubtype (.type "enumerate") (.type "enumerate")=pure true:=PySem.sub_enumerate
def Hy(l:Addr)(its:Array Value)(n:Nat)(dct:Option Addr)(sl:Array (Option Value)):
  Meets (Builtin.«enumerate.__new__» ⟨[.type "enumerate",.ref l],[]⟩) (λ_ Rr s=>s.heap.get? l=some { cls:=.type "tuple",dict:=dct,data:=.seq its n,slots:=sl }/\
   Rr (.ok (.ret (.ref (s.heap.push { cls:=.type "tuple_iterator",data:=.fields #[.ref l,.int 0 0] }).objs.size)))
    { s with heap:=(s.heap.push { cls:=.type "tuple_iterator",data:=.fields #[.ref l,.int 0 0] }).push { cls:=.type "enumerate",data:=.fields #[.none,.bool false,.ref s.heap.objs.size,rawInt 0,.none,.none] } }):=
 .of_wp λprog w A Rr s h=>by
  obtain⟨hp,g,d,tk,os⟩:=s;obtain⟨hl,h⟩:=h;have hsub:=J6;have hT:Heap.IsTuple (Shared.heap ⟨hp,g,d,tk,os⟩) l its:=⟨_,hl,rfl,n,rfl⟩
  wp_walk using Zw hl
  refine wpAny_stack_any λst=>zh ?_;split;·rename_i c _ _ _ _ _;cases (c==Value.type "enumerate") <;> (wp_walk using Zw hl,d7 hT;exact⟨_,rfl,h⟩)
  ·wp_walk using Zw hl,d7 hT
   exact⟨_,rfl,h⟩
section
variable{prog:Program}{w:World}{A:Around}
def Gm{itT:String}{c:Int}{Q:Value->Shared->Prop}(h:∀h',IsEnum h' (s.heap.objs.size+1) s.heap.objs.size c .none->h'.get? s.heap.objs.size=some { cls:=.type itT,data:=.fields #[.ref l,.int 0 0] }->h'.objs.size=s.heap.objs.size+2->
 (∀b o,s.heap.get? b=some o->h'.get? b=some o)->Q (.ref (s.heap.objs.size+1)) { s with heap:=h' }):
  wants (λobj s₁=>s₁.TypeIs obj "enumerate"/\Q obj s₁) E (.ok (.ret (.ref (s.heap.push { cls:=.type itT,data:=.fields #[.ref l,.int 0 0] }).objs.size)))
   { s with heap:=(s.heap.push { cls:=.type itT,data:=.fields #[.ref l,.int 0 0] }).push { cls:=.type "enumerate",data:=.fields #[.none,.bool false,.ref s.heap.objs.size,rawInt c,.none,.none] } }:=by
 have hz:(s.heap.push { cls:=.type itT,data:=.fields #[.ref l,.int 0 0] }).objs.size=s.heap.objs.size+1:=vg ..;have he:IsEnum ((s.heap.push { cls:=.type itT,data:=.fields #[.ref l,.int 0 0] }).push { cls:=.type "enumerate",data:=.fields #[.none,.bool false,.ref s.heap.objs.size,rawInt c,.none,.none] }) (s.heap.objs.size+1) s.heap.objs.size c .none:=by have q:=xG (s.heap.push { cls:=.type itT,data:=.fields #[.ref l,.int 0 0] }) (o:={ cls:=.type "enumerate",data:=.fields #[.none,.bool false,.ref s.heap.objs.size,rawInt c,.none,.none] }) rfl;rw[hz]at q;exact q
 show _/\_;rw[hz];exact⟨⟨_,he,rfl⟩,h _ he (zT _ (xG _ rfl)) (by rw[vg,hz]) λb o x=>zT _ (zT _ x)⟩
theorem Et{its:Array Value}{dct:Option Addr}{sl:Array (Option Value)}{Q:Value->Shared->Prop}(hl:s.heap.get? l=some { cls:=.type "tuple",dict:=dct,data:=.seq its n,slots:=sl })(h:∀h',IsEnum h' (s.heap.objs.size+1) s.heap.objs.size 0 .none->h'.get? s.heap.objs.size=some { cls:=.type "tuple_iterator",data:=.fields #[.ref l,.int 0 0] }->h'.objs.size=s.heap.objs.size+2->
 (∀b o,s.heap.get? b=some o->h'.get? b=some o)->Q (.ref (s.heap.objs.size+1)) { s with heap:=h' }):
  wpAny (model prog w) A (call (.type "enumerate") [.ref l]) Q E s:=
 callType_new F.called_enumerate (by decide) (F.typeCall_enumerate_1 _) (F.newCall_enumerate_1 _) (λobj=>F.args_object_init_2 obj _) F.entry_enumerate_new (Hy l its n dct sl) ⟨hl,Gm h⟩
def Hj{t:Addr}{its:Array Value}{x:Value}{Q:Value->Shared->Prop}(hit:s.heap.IsTupleIter it t i)(ht:s.heap.IsTuple t its)(hx:its[i]?=some x)(hQ:∀h',h'.IsTupleIter it t (i+1)->Heap.SameBut it s.heap h'->Q x { s with heap:=h' }):wpAny (model prog w) A (Builtin.SmallTypes.nextOf (.ref it)) Q E s:=by
 obtain⟨ob,h1,h2,h3⟩:=id hit;obtain⟨ot,k1,_,m,k2⟩:=ht;unfold Builtin.SmallTypes.nextOf;refine z9 (qQ (name:=Str.ofString "__next__") hit.typeIs n0 (p0 n0 hit.typeIs Z4 ?_ (Z5 _)));refine z9 (m:=field (.ref it) 0) (v4 h1 h3 (x:=.ref t) rfl ?_);show wpAny _ _ (if (Value.ref t==Value.none)=true then _ else _) _ _ s;rw[if_neg (by exact wT)];refine z9 (m:=field (.ref it) 1) (v4 h1 h3 (x:=.int i 0) rfl (z9 (m:=seqItems? (.ref t)) (qr k1 k2 ?_)));simp only[sR,hx];refine z9 (i6 h1 h3 (by simp) (zh ⟨x,rfl,zh (hQ _ ⟨_,j2 _ h1 (Zx (lJ h3 _)),(Obj.cls_mapFields ..).trans h2,?_⟩ (i7 ..))⟩));rw[lJ h3];simp[rawInt]
def Fz{t:Addr}{its:Array Value}{Q:Value->Shared->Prop}(hh:A.handled=none)(hit:s.heap.IsTupleIter it t i)(ht:s.heap.IsTuple t its)(hx:its[i]?=none)(hE:∀h' e,Heap.ExtBut it s.heap h'->(∃o,h'.get? e=some o/\o.cls=.type "StopIteration")->E (.ref e) { s with heap:=h' }):wpAny (model prog w) A (Builtin.SmallTypes.nextOf (.ref it)) Q E s:=by
 obtain⟨ob,h1,h2,h3⟩:=id hit;obtain⟨ot,k1,_,m,k2⟩:=ht;unfold Builtin.SmallTypes.nextOf;refine z9 (qQ (name:=Str.ofString "__next__") hit.typeIs n0 (p0 n0 hit.typeIs Z4 ?_ (Z5 _)));refine z9 (m:=field (.ref it) 0) (v4 h1 h3 (x:=.ref t) rfl ?_);show wpAny _ _ (if (Value.ref t==Value.none)=true then _ else _) _ _ s;rw[if_neg (by exact wT)];refine z9 (m:=field (.ref it) 1) (v4 h1 h3 (x:=.int i 0) rfl (z9 (m:=seqItems? (.ref t)) (qr k1 k2 ?_)));simp only[sR,hx];refine z9 (n6 (z9 (i6 h1 h3 (by simp) (z9 (m:=newExc (.type "StopIteration") []) ?_))));simp only[newExc,newTuple];refine z9 (t9 (z9 (m:=firstArgMember _ _) (bY (a:=Value.none) (by first|rfl|(simp only[firstArgMember];rfl)) (t9 ?_ (by size_fits)))) (by size_fits));simp only[raiseNew];refine z9 (wpAny_handled ?_)
 first|rw[show A.in1.handled=none from hh]|rw[hh]
 exact z9 (zh (wpAny_throw (hE _ _ (((i7 ..).extBut.push _).push _) ⟨_,xG _ rfl,rfl⟩)))
end
def JG{prog:Program}{w:World}{A:Around}(hh:A.handled=none)(it l:Addr)(hne:l≠it)(its:Array Value)(c:Nat):
  Draws prog w A it [it,l] (c+its.size) (λi v=>∃k,i=c+k/\its[k]?=some v) (λi h=>∃k,i=c+k/\h.IsTupleIter it l k/\h.IsTuple l its) where
 live:=λ_ _ ⟨_,_,st,_⟩=>let⟨o,ho,_⟩:=st;⟨o,ho⟩
 frame:=λ_ _ _ ⟨k,e,st,t⟩ hk=>⟨k,e,st.at λo e=>hk it (by simp) o e,let⟨o,ho,r⟩:=t;⟨o,hk l (by simp) o ho,r⟩⟩
 item:=λi s Q E hi ⟨k,e,st,t⟩ hQ=>by
  have hk:k<its.size:=by omega
  refine Hj st t (x:=its[k]) (by simp[hk]) λh' st' sb=>hQ _ h' s.toks ⟨k,e,by simp[hk]⟩ ⟨k+1,by omega,st',?_⟩ sb;obtain⟨o,ho,r⟩:=t;exact⟨o,(sb.2 l hne).trans ho,r⟩
 done:=λs Q E ⟨k,e,st,t⟩ hE=>Fz hh st t (Array.getElem?_eq_none (by omega)) hE
def LW{prog:Program}{w:World}{A:Around}(hh:A.handled=none)(it l:Addr)(hne:l≠it)(its:Array Value)(c:Nat):
  Draws prog w A it [it,l] (c+its.size) (λi v=>∃k,i=c+k/\its[k]?=some v) (λi h=>∃k,i=c+k/\h.IsListIter it l k/\h.IsList l its) where
 live:=λ_ _ ⟨_,_,st,_⟩=>let⟨o,ho,_⟩:=st;⟨o,ho⟩
 frame:=λ_ _ _ ⟨k,e,st,t⟩ hk=>⟨k,e,st.at λo e=>hk it (by simp) o e,t.at λo e=>hk l (by simp) o e⟩
 item:=λi s Q E hi ⟨k,e,st,t⟩ hQ=>by
  have hk:k<its.size:=by omega
  exact wpAny_nextOf_list_item st t (x:=its[k]) (by simp[hk]) λh' st' sb=>hQ _ h' s.toks ⟨k,e,by simp[hk]⟩ ⟨k+1,by omega,st',t.extBut sb.extBut hne⟩ sb
 done:=λs Q E ⟨k,e,st,t⟩ hE=>Zy hh st t (Array.getElem?_eq_none (by omega)) hE
def Inv.turned2{σ:List (Option V)}{t':Nat}{e:Addr}(I:Inv X pins σ H s)(k:∀b o,b≠it->b≠e->s.heap.get? b=some o->h'.get? b=some o)(f1:qJ X pins H it)(f2:qJ X pins H e):
  Inv X pins σ H { s with heap:=h',toks:=t' }:=by
 obtain⟨a0,a1,a2,a3,a4,a5⟩:=f1;obtain⟨b0,b1,b2,b3,b4,b5⟩:=f2;have n1:∀b u,H b=some u->b≠it:=λb u q z=>by rw[z,a0]at q;cases q
 have n2:∀b u,H b=some u->b≠e:=λb u q z=>by rw[z,b0]at q;cases q
 have kk:∀b o,b∉[it,e]->s.heap.get? b=some o->h'.get? b=some o:=λb o hb q=>k b o (λz=>hb (by simp[z])) (λz=>hb (by simp[z])) q;refine I.step (g':=s.gens) (d':=s.drawn) (ch:=[it,e]) (λb hb=>?_) (λb o _ _ hc q _=>kk b o hc q) (λb o _ _ hc q _=>⟨o.slots,kk b o hc q⟩) (λ_ _ _ _ n=>n) (λb o hc q=>⟨o,kk b o hc q⟩) (λ_ _ q=>q) (λ_ _ _ q=>q) (λb ps q=>⟨#[],by rw[q];simp⟩) (λm hm=>?_) (λb u q=>?_) I.bare
 ·simp only[y9,w8,w9]at hb;rcases hb with rfl|rfl;·exact⟨a3,a1,a4,a5⟩
  ·exact⟨b3,b1,b4,b5⟩
 ·obtain⟨o,es,ep,ho,r⟩:=hm;exact⟨o,es,ep,k _ o (x9 a1) (x9 b1) ho,r⟩
 ·refine(I.hok b u q).stay (λc v hc q'=>k c v ?_ ?_ q') (λ_ q'=>q') λ_ _ q'=>q'
  ·rcases hc with z|z;·rw[z];exact n1 b u q
   ·exact n1 c _ z
  ·rcases hc with z|z;·rw[z];exact n2 b u q
   ·exact n2 c _ z
noncomputable def Ite(sq:Hp->List V->Prop)(c:Nat):It:=⟨λi H=>∃xs x,sq H xs/\xs[i]?=some x,
 λi H v H'=>∃p x,v=.ref p/\H p=none/\H'=upd H p (.tup [.int ((c+i:Nat):Int),x])/\∀xs,sq H xs->xs[i]?=some x,λi H=>∃xs,sq H xs/\xs.length<=i⟩
section
variable{w:World}{K:PySem.W.Frag}{elts:List Expr}{kt:Nat}{tp:Pos}
structure Inner(P:Program)(w:World)(K:PySem.W.Frag)(sq:Hp->List V->Prop)(a it:Addr)(iter:Nat->Heap->Prop):Prop where
 obj:∀i h,iter i h->∃o,h.get? it=some o/\∀v,o.data≠.cell v
 at_:∀i h h',iter i h->(∀o,h.get? it=some o->h'.get? it=some o)->iter i h'
 inj:∀(X:Cx),X.K=K->∀(pins:List (Addr×Obj))(σ:St)(H:Hp)(s:Shared) xs ys,Inv X pins σ H s->sq H xs->sq H ys->xs=ys
 dr:∀(X:Cx),X.prog=P->X.w=w->X.K=K->X.calm=true->∀(pins:List (Addr×Obj))(σ:St)(H:Hp)(s:Shared)(xs:List V)(c:Nat),Inv X pins σ H s->sq H xs->(∀i,iter i s.heap->a≠it)->
  ∃its:List Value,Vals xs its/\xs.length<=sizeLine/\∃(Pd:Nat->Value->Prop)(St:Nat->Heap->Prop),Draws P w X.A.in1 it [it,a] (c+its.length) Pd St/\(∀k v,Pd (c+k) v->its[k]?=some v)/\
   (∀k h,iter k h->(∀o,s.heap.get? a=some o->h.get? a=some o)->a≠it->St (c+k) h)/\∀k h,St (c+k) h->iter k h
 fin:∀(X:Cx),X.prog=P->X.w=w->X.K=K->X.calm=true->∀(pins:List (Addr×Obj))(σ:St)(H:Hp)(s:Shared)(xs:List V)(i:Nat)(Q:Value->Shared->Prop)(E:Value->Shared->Prop),Inv X pins σ H s->sq H xs->xs.length<=i->iter i s.heap->
  (∀h' x,Heap.ExtBut it s.heap h'->(∃o,h'.get? x=some o/\o.cls=.type "StopIteration")->E (.ref x) { s with heap:=h' })->wpAny (model P w) X.A.in1 (Builtin.SmallTypes.nextOf (.ref it)) Q E s
def pe{b:Addr}{ob o:Obj}(hb:b<h.objs.size)(q:(h.push ob).get? b=some o):h.get? b=some o:=by unfold Heap.get? Heap.push at *;simpa[Array.getElem?_push,xD hb]using q
theorem Kz{prog:Program}{A:Around}{e:Addr}{c:Int}{old:Value}{Q:Option Value->Shared->Prop}(he:IsEnum s.heap e it c old)(hn:∀(Q':Value->Shared->Prop)(E':Value->Shared->Prop),(∀h' x,Heap.ExtBut it s.heap h'->(∃o,h'.get? x=some o/\o.cls=.type "StopIteration")->E' (.ref x) { s with heap:=h' })->wpAny (model prog w) A.in1 (Builtin.SmallTypes.nextOf (.ref it)) Q' E' s)(hQ:∀h',Heap.ExtBut it s.heap h'->Q none { s with heap:=h' }):wpAny (model prog w) A (pyNext (.ref e)) Q E s:=by
 have ht:s.TypeIs (.ref e) "enumerate":=⟨_,he,rfl⟩
 unfold pyNext;refine z9 (lp (qQ (name:=Str.ofString "__next__") ht F.slot_enumerate_next (p0 F.slot_enumerate_next ht F.entry_enumerate_next ?_ (F.args_enumerate_next_1 _))));refine z9 (m:=field (.ref e) 2) (v4 he rfl (x:=.ref it) rfl (z9 (hn _ _ λh' x hb hx=>?_)));obtain⟨o,ho,hc⟩:=hx;exact z9 (wpAny_isInstance (T:="StopIteration") (b:=true) ⟨o,ho,hc⟩ isSubtype_stop (zh (hQ _ hb)))
def Bn{e:Addr}{iter:Nat->Heap->Prop}(N:Inner P w K sq a it iter)(c:Nat)(hei:e≠it)(hea:e≠a)(hai:a≠it):
  Turn P w K (.Tuple elts kt tp) (Ite sq c) [e,it] e (λi h=>(∃old,IsEnum h e it ((c+i:Nat):Int) old)/\iter i h) where
 mem:=by simp
 obj:=λi h st b hb=>by
  simp only[y9,w8,w9]at hb;rcases hb with rfl|rfl
  ·obtain⟨old,q⟩:=st.1;exact⟨_,q,λv z=>by cases z⟩
  ·exact N.obj i h st.2
 keep:=λi h h' st k=>⟨st.1.imp λold q=>k e (by simp) _ q,N.at_ i h h' st.2 λo q=>k it (by simp) o q⟩
 item:=by
  intro X hP hw hK hc i pins s σ H E I hf st hg;obtain⟨xs,x,hq,hx⟩:=hg;obtain⟨⟨old,he⟩,hi⟩:=st;obtain⟨its,rv,hz,Pd,St,Dr,p1,p2,p3⟩:=N.dr X hP hw hK hc pins σ H s xs c I hq λ_ _=>hai;obtain⟨u,hu,ru⟩:=rv.get hx;have hil:i<its.length:=(u6.mp hu).1;have fe:=hf e (by simp);have fi:=hf it (by simp);subst hP hw;refine wpAny_pyNext_enum_itemD Dr he (p2 i _ hi (λ_ q=>q) hai) (by omega) hei (by simp only[y9,w8,w9,not_or];exact⟨hei,hea⟩) λy h1 tk hy ho hs1 ht hsz hk=>?_;have ey:y=u:=by have q:=p1 i y hy;rw[hu]at q;exact(xz q).symm
  subst ey;refine⟨_,rfl,wpAny_letOwnedTupleGo_enum ho λh2 he2 sb=>?_⟩;have helt:e<s.heap.objs.size:=zy he;have hpe:s.heap.objs.size≠e:=qM helt;obtain⟨oi,hoi,_⟩:=N.obj i _ hi;have hpi:s.heap.objs.size≠it:=qM (zy hoi);have hp:H s.heap.objs.size=none:=I.hok.fresh (zE _);have Ia:Inv X pins σ (upd H s.heap.objs.size (.tup [.int ((c+i:Nat):Int),x])) { s with heap:=s.heap.push { cls:=.type "tuple",data:=.seq #[.int ((c+i:Nat):Int) tk,y] } }:=by refine I.laid (t':=s.toks) (λb o q=>zT _ q) (zE _) ?_;exact⟨by show 2<=sizeLine;decide,[.int ((c+i:Nat):Int) tk,y],.cons ⟨tk,rfl⟩ (.cons ru .nil),qK _ _⟩
  have fe':qJ X pins (upd H s.heap.objs.size (.tup [.int ((c+i:Nat):Int),x])) e:=⟨by rw[aF (x9 hpe)];exact fe.1,fe.2⟩
  have fi':qJ X pins (upd H s.heap.objs.size (.tup [.int ((c+i:Nat):Int),x])) it:=⟨by rw[aF (x9 hpi)];exact fi.1,fi.2⟩
  have ht2:h2.get? s.heap.objs.size=some { cls:=.type "tuple",data:=.seq #[.int ((c+i:Nat):Int) tk,y] }:=(sb.2 _ hpe).trans ht;have Ib:Inv X pins σ (upd H s.heap.objs.size (.tup [.int ((c+i:Nat):Int),x])) { s with heap:=h2,toks:=tk+1 }:=by
   refine Ia.turned2 (t':=tk+1) (λb o n1 n2 q=>?_) fi' fe';by_cases z:b=s.heap.objs.size;·subst z;have q':=xG s.heap (o:={ cls:=.type "tuple",data:=.seq #[.int ((c+i:Nat):Int) tk,y] }) rfl;have q:(s.heap.push { cls:=.type "tuple",data:=.seq #[.int ((c+i:Nat):Int) tk,y] }).get? s.heap.objs.size=some o:=q;rw[q']at q;rw[ht2];exact q
   ·have q:(s.heap.push { cls:=.type "tuple",data:=.seq #[.int ((c+i:Nat):Int) tk,y] }).get? b=some o:=q;have q2:s.heap.get? b=some o:=by
     rcases Nat.lt_or_ge b s.heap.objs.size with hb|hb;·exact pe hb q
     ·have hlt:b<(s.heap.push { cls:=.type "tuple",data:=.seq #[.int ((c+i:Nat):Int) tk,y] }).objs.size:=zy q;rw[vg]at hlt;exact absurd (Zz (ZA hlt) hb) z
    exact(sb.2 b n2).trans (hk b o n2 n1 q2)
  refine⟨.ref s.heap.objs.size,_,Ib,rfl,⟨_,x,rfl,hp,rfl,λys hy'=>by rw[N.inj X hK pins σ H s ys xs I hy' hq];exact hx⟩,⟨⟨y,by have q:=he2;rw[show((c+(i+1):Nat):Int)=((c+i:Nat):Int)+1 by omega];exact q⟩,?_⟩,λb hb=>?_⟩;·refine N.at_ (i+1) h1 h2 (p3 (i+1) h1 hs1) λo q=>(sb.2 it (x9 hei)).trans q
  ·simp only[y9,w8,w9]at hb;rcases hb with rfl|rfl;·exact fe'.1
   ·exact fi'.1
 done:=by intro X hP hw hK hc i pins s σ H E I hf st hg;obtain⟨xs,hq,hx⟩:=hg;obtain⟨⟨old,he⟩,hi⟩:=st;have fi:=hf it (by simp);have fin:=N.fin X hP hw hK hc pins σ H s xs i;subst hP hw;exact Kz he (λQ' E' hE=>fin Q' E' I hq hx hi hE) λh' hb=>⟨rfl,I.turned (t':=s.toks) (λb o n q=>hb b o n q) fi.1 fi.2.1 fi.2.2.2.1 fi.2.2.2.2.1 fi.2.2.2.2.2⟩
 self:=λA i s Q E st h=>by obtain⟨⟨old,he⟩,_⟩:=st;exact Z6 he h
def Cg(a it:Addr):Inner P w K (λH xs=>SqT K H a xs) a it (λi h=>h.IsTupleIter it a i) where
 obj:=λi h st=>let⟨o,q,c,d⟩:=st;⟨o,q,λv z=>by rw[d]at z;cases z⟩
 at_:=λi h h' st k=>st.at k
 inj:=λX hK pins σ H s xs ys I h1 h2=>by subst hK;exact I.tuple_inj h1 h2
 dr:=λX hP hw hK hc pins σ H s xs c I hq hne=>by
  subst hP hw hK;obtain⟨its,rv,p,hz⟩:=I.tuple hq;have hh:X.A.in1.handled=none:=I.ok.hd hc;by_cases hai:a=it;·exact⟨its,rv,hz,λ_ _=>False,λ_ _=>False,⟨λ_ _ z=>z.elim,λ_ _ _ z _=>z,λ_ _ _ _ _ z _=>z.elim,λ_ _ _ z _=>z.elim⟩,λ_ _ z=>z.elim,λ_ _ _ _ z=>absurd hai z,λ_ _ z=>z.elim⟩
  ·have Dq:=JG (prog:=X.prog) (w:=X.w) hh it a hai its.toArray c;rw[xm]at Dq;refine⟨its,rv,hz,λi v=>∃k,i=c+k/\its.toArray[k]?=some v,λi h=>∃k,i=c+k/\h.IsTupleIter it a k/\h.IsTuple a its.toArray,Dq,λk v q=>?_,λk h st kp _=>⟨k,rfl,st,?_⟩,λk h q=>?_⟩
   ·obtain⟨k',e,q⟩:=q;have:k=k':=by omega
    subst this;simpa using q
   ·obtain⟨o,ho,r⟩:=p;exact⟨o,kp o ho,r⟩
   ·obtain⟨k',e,st,_⟩:=q;have:k=k':=by omega
    subst this;exact st
 fin:=λX hP hw hK hc pins σ H s xs i Q E I hq hx st hE=>by subst hP hw hK;obtain⟨its,rv,p,hz⟩:=I.tuple hq;have hl:=rv.length;exact Fz (I.ok.hd hc) st (show s.heap.IsTuple a its.toArray from p) (by simp;omega) hE
def vZ(a it:Addr):Inner P w K (λH xs=>SqL K H a xs) a it (λi h=>h.IsListIter it a i) where
 obj:=λi h st=>let⟨o,q,c,d⟩:=st;⟨o,q,λv z=>by rw[d]at z;cases z⟩
 at_:=λi h h' st k=>st.at k
 inj:=λX hK pins σ H s xs ys I h1 h2=>by subst hK;exact I.list_inj h1 h2
 dr:=λX hP hw hK hc pins σ H s xs c I hq hne=>by
  subst hP hw hK;obtain⟨its,rv,p,hz⟩:=I.list hq;have hh:X.A.in1.handled=none:=I.ok.hd hc;by_cases hai:a=it;·exact⟨its,rv,hz,λ_ _=>False,λ_ _=>False,⟨λ_ _ z=>z.elim,λ_ _ _ z _=>z,λ_ _ _ _ _ z _=>z.elim,λ_ _ _ z _=>z.elim⟩,λ_ _ z=>z.elim,λ_ _ _ _ z=>absurd hai z,λ_ _ z=>z.elim⟩
  ·have Dq:=LW (prog:=X.prog) (w:=X.w) hh it a hai its.toArray c;rw[xm]at Dq;refine⟨its,rv,hz,λi v=>∃k,i=c+k/\its.toArray[k]?=some v,λi h=>∃k,i=c+k/\h.IsListIter it a k/\h.IsList a its.toArray,Dq,λk v q=>?_,λk h st kp _=>⟨k,rfl,st,?_⟩,λk h q=>?_⟩
   ·obtain⟨k',e,q⟩:=q;have:k=k':=by omega
    subst this;simpa using q
   ·obtain⟨o,ho,r⟩:=p.isList;exact⟨o,kp o ho,r⟩
   ·obtain⟨k',e,st,_⟩:=q;have:k=k':=by omega
    subst this;exact st
 fin:=λX hP hw hK hc pins σ H s xs i Q E I hq hx st hE=>by subst hP hw hK;obtain⟨its,rv,p,hz⟩:=I.list hq;have hl:=rv.length;exact Zy (I.ok.hd hc) st p.isList (by simp;omega) hE
end
end L2
namespace L2
open PySem PySem.Spec PyProof.Rows
noncomputable def numbered(c:Nat)(xs:List D):List D:=(List.range xs.length).map λi=>.tup [.int ((c+i:Nat):Int),xs.getD i .non]
def vB{xs:List D}(h:(numbered c xs)[i]?=some d):∃x,xs[i]?=some x/\d=.tup [.int ((c+i:Nat):Int),x]:=by
 unfold numbered at h;rw[ue]at h;by_cases hi:i<xs.length
 ·rw[Zk hi]at h;refine⟨xs[i],t5 hi,?_⟩;have e:xs.getD i .non=xs[i]:=by rw[uF,t5 hi];rfl
  rw[<- e];exact(xz h).symm
 ·rw[Zl (by simp;omega)]at h;cases h
def ph(c:Nat)(xs:List D):(numbered c xs).length=xs.length:=by simp[numbered]
def ItOk.enum{K:PySem.W.Frag}(hs:∀G1 H1,Same G G1->Same G1 H1->sq H1 vs)(r:Reps K G vs ds):ItOk K G (Ite sq c) (numbered c ds):=by intro i G1 H1 s1 s2;refine⟨λd e=>?_,λhl=>⟨vs,hs G1 H1 s1 s2,by rw[ph]at hl;rw[r.length];exact hl⟩⟩;obtain⟨dx,ex,rfl⟩:=vB e;obtain⟨v,ev,rv⟩:=r.get ex;refine⟨⟨vs,v,hs G1 H1 s1 s2,ev⟩,λx H' y=>?_⟩;obtain⟨p,x',rfl,hp,rfl,y⟩:=y;have z:=y vs (hs G1 H1 s1 s2);rw[ev]at z;cases z;refine⟨upd G1 p (.tup [.int ((c+i:Nat):Int),v]),.new s2 hp,.tup (.of aV) (.cons (.int _) (.cons ((rv.mono s1).mono (.into (s2.free hp))) .nil))⟩
section
variable{elts:List Expr}{kt:Nat}{tp:Pos}{Rr:It->Hp->Prop}
def sv{iter:Nat->Heap->Prop}(I:Inv X pins σ H s)(N:Inner X.prog X.w X.K sq l (s.heap.objs.size) iter)(hl:l<s.heap.objs.size)(he:IsEnum h' (s.heap.objs.size+1) s.heap.objs.size (c:Int) .none)(hi:iter 0 h')(hk:∀b o,s.heap.get? b=some o->h'.get? b=some o)(q:Rr (Ite sq c) H):PIE X pins σ (.Tuple elts kt tp) Rr (.ref (s.heap.objs.size+1)) { s with heap:=h' }:=by
 have hlt:s.heap.objs.size<=s.heap.objs.size+1:=j9 _;refine⟨_,_,_,_,H,rfl,I.kept (t':=s.toks) hk,Bn N c (qM (pP _)) (qM (i4 hl)) (xD hl),⟨⟨_,he⟩,hi⟩,λb hb=>?_,q⟩;simp only[y9,w8,w9]at hb;rcases hb with rfl|rfl;·exact I.fpOk hlt (I.hok.fresh hlt)
 ·exact I.fpOk (zE _) (I.hok.fresh (zE _))
def SqT.lt'(I:Inv X pins σ H s)(h:SqT X.K H a xs):a<s.heap.objs.size:=by obtain⟨its,rv,⟨o,q,_⟩,_⟩:=I.tuple h;exact zy q
def SqL.lt'(I:Inv X pins σ H s)(h:SqL X.K H a xs):a<s.heap.objs.size:=by obtain⟨its,rv,p,_⟩:=I.list h;obtain⟨o,q,_⟩:=p.isList;exact zy q
end
def A0:D->R (List D)
 |.lst _ xs=>.ok (numbered 0 xs)
 |.tup xs=>.ok (numbered 0 xs)
 |_=>.no
noncomputable def Gf:D->D->R (List D)
 |.tup xs,.int c=>if 0<=c/\c<1073741824 then .ok (numbered c.toNat xs)else .no
 |_,_=>.no
section
variable{a b:Expr}{ga:Ev->R D}{elts:List Expr}{kt:Nat}{pos tp kp:Pos}
def HH(hg:Gl X "enumerate")(hm:X.mg "enumerate"=none)(ha:PF X a ga)(hs:starEach [a] X.env=(false,eval a X.env)::starEach [] X.env:=by rfl):
  PIF X (.Tuple elts kt tp) (.Call (.Name "enumerate" p) [a] [] pos) (aB A0 ga):=by
 intro pins s σ H Rr I h;obtain⟨G,ρ,st,h⟩:=h;have ta:zw (tF X ga) Mz σ H (λvs H1=>∃v,vs=[v]/\∃G1 d,Up G H G1 H1/\Rep X.K G1 v d/\Same G1 H1/\(A0 d).post (Fin G1 H1 (λG J items=>ItOk X.K G J items) Rr) (Exx X σ G1 H1)):=
  tG.intro st h λd v G1 H1 u1 st1 r1 h1=>⟨v,rfl,G1,d,u1,r1,st1.sub,h1⟩
 refine Call_ (mX I hg hm PyProof.Rows.Boot.«enumerate» (ZB (thn ((dM ha jI hs) pos pins s σ H _ I ta) λus s1 ⟨vs,H1,I1,r1,q1⟩=>?_) hs rfl));obtain⟨v,hv,G1,d,u1,rd,sub,h1⟩:∃v,vs=[v]/\∃G1 d,Up G H G1 H1/\Rep X.K G1 v d/\Same G1 H1/\(A0 d).post (Fin G1 H1 (λG J items=>ItOk X.K G J items) Rr) (Exx X σ G1 H1):=q1;subst hv;obtain⟨u,rfl,rv⟩:=r1.one;cases rd with
 |lst hq t=>cases rv;have hq':SqL X.K G1 _ _:=.of hq;obtain⟨its,rvs,p,hz⟩:=I1.list (hq'.mono sub);exact call_enumerate_list p.isList λh' he hi hsz hk=>Z6 he (sv (c:=0) I1 (vZ _ _) (SqL.lt' I1 (hq'.mono sub)) he hi hk (h1 _ G1 H1 (.refl sub) (ItOk.enum (λG2 H2 s1 s2=>(hq'.mono s1).mono s2) t)))
 |fls hq t=>cases rv;obtain⟨its,rvs,p,hz⟩:=I1.list (hq.mono sub);exact call_enumerate_list p.isList λh' he hi hsz hk=>Z6 he (sv (c:=0) I1 (vZ _ _) (SqL.lt' I1 (hq.mono sub)) he hi hk (h1 _ G1 H1 (.refl sub) (ItOk.enum (λG2 H2 s1 s2=>(hq.mono s1).mono s2) t)))
 |tup hq t=>cases rv;obtain⟨its,rvs,⟨⟨cls,dd,data,sl⟩,ho,hc,n,hd⟩,hz⟩:=I1.tuple (hq.mono sub);simp only at hc hd;subst hc hd;exact Et ho λh' he hi hsz hk=>Z6 he (sv (c:=0) I1 (Cg _ _) (SqT.lt' I1 (hq.mono sub)) he ⟨_,hi,rfl,rfl⟩ hk (h1 _ G1 H1 (.refl sub) (ItOk.enum (λG2 H2 s1 s2=>(hq.mono s1).mono s2) t)))
 |_=>exact h1.elim
def JQ(ga gb:Ev->R D):Ev->R (List D):=λρ=>ga ρ>>=λx=>gb ρ>>=λc=>Gf x c
end
theorem vk:∀(is:List Nat)(ds:List D)(ρ ρ':Ev),qa is ds ρ=.ok ρ'->(NoOwn ρ)->NoOwn ρ'
 | [],[],ρ,ρ',e,h=>by cases e;exact h
 | [],_::_,_,_,e,_=>by cases e
 |_::_,[],_,_,e,_=>by cases e
 |i::is,d::ds,ρ,ρ',e,h=>vk is ds _ ρ' e (nN (i:=i) d ρ _ rfl h)
def xU:∀d ρ ρ',CN is d ρ=.ok ρ'->(NoOwn ρ)->NoOwn ρ':=λd ρ ρ' e h=>by
 cases d with
 |tup ds=>exact vk is ds ρ ρ' e h
 |_=>cases e
def yr(hk:scope.kind=.function:=by rfl)(h1:(∀y∈scope.names,y.2≠.cell)/\(∀y∈scope.names,y.2=.local->scope.names.lookup y.1=some .local)/\(∀y∈scope.names,y.2=.free->y.1∈N'.drop n)/\n<=N'.length/\
 ∀y∈N'.drop n,scope.names.lookup y=some .free/\(y,NameKind.free)∈scope.names:=by decide +kernel)(h2:(N'.drop n).map X.env.kindOf=(N'.drop n).map λ_=>some NameKind.cell:=by rfl)(h3:N'.drop n=ix.map (λ(i:Nat)=>X.N.getD i Str.empty):=by rfl)(h4:ix.all (λi=>decide (i<X.N.length))=true:=by rfl):CompOkT X scope n N' ix:=by
 obtain⟨a,b,d,f,g⟩:=h1;refine⟨hk,a,b,λy hy h=>?_,f,h3,λi hi=>?_,g⟩;·exact List.map_inj_left.1 h2 _ (d y hy h)
 ·exact b9 (p8.1 h4 i hi)
section
variable{elt:Expr}{pos:Pos}{gt:Ev->R Bool}
def vW(ok:CompOkT X scope n N' ix)(hcalm:X.calm=true)(hg:∀C s₂ H₂ fp,PGF (aP X N' scope C s₂ H₂ fp) tgt asg)(hown:∀d ρ ρ',asg d ρ=.ok ρ'->(NoOwn ρ)->NoOwn ρ')(hi:PIF X tgt iter gi)(he:∀C s₂ H₂ fp,PF (aP X N' scope C s₂ H₂ fp) elt ge)(ht:∀C s₂ H₂ fp,PTs (aP X N' scope C s₂ H₂ fp) ifs gt)(hs:∀x,foldedSetIterable iter X.env x=pure x:=by intro _;rfl):PFL X (.ListComp elt [⟨tgt,iter,ifs,0⟩] scope pos) (km n asg gi ix gt ge):=by
 intro pins s σ H Q I h;obtain⟨G,ρ,st,h⟩:=h;rw[dO];refine c7 (use:=none) rfl hs (eW λy hy hy2=>I.ok.has y.1 (.inl (ok.fr y hy hy2))) ok.kind ok.names ?_;have t:tG X (λG J items=>ItOk X.K G J items) gi σ H (λJ H1=>∃G1 items,Up G H G1 H1/\StE X.K G1 H1 σ ρ/\ItOk X.K G1 J items/\(jk asg gt ge items (fu n ix ρ)>>=λds=>if ds.length<=sizeLine then R.ok ds else .no).post (pT X.K G H Q) (Exx X σ G H)):=by
  refine⟨G,ρ,st,?_⟩;unfold km at h;cases e:gi ρ with
  |ok items=>rw[e]at h;exact λJ G1 H1 u r=>⟨G1,items,u,st.up u,r,h⟩
  |ex C=>rw[e]at h;exact h
  |no=>rw[e]at h;exact h
 refine thn (hi pins s σ H _ I t) λv s1 h1=>thn h1 λitv s2 h2=>?_;obtain⟨it,fp,tn,J,H2,e,I2,T,st2,f2,G2,items,u2,sE2,iok,h2⟩:=h2;subst e;have h2':(jk asg gt ge items (fu n ix ρ)>>=λds=>if ds.length<=sizeLine then R.ok ds else .no).post (pT X.K G2 H2 Q) (Exx X σ G2 H2):=
  h2.mono (λds q l vs G' H' u hl r=>q l vs G' H' (u2.trans u) hl r) λC q=>q.up u2;refine kF (iter:=iter) (pos:=pos) (RR:=λacc C=>compPost (model X.prog X.w) X.A X.xe none (EP X pins σ Q) acc C) ok hcalm hg hown he ht I2 T st2 f2 sE2 iok h2' ?_;intro Dd C s' m vs G' H' up hd hCD _ q hm hos hb hC hCl un hok;refine⟨m,hm,λh' hs'=>?_⟩;have I3:=I2.call' (H':=upd H' Dd (.lst vs)) (s':={ s' with heap:=h' }) (ch:=fp) hos (un.sameBut (λb o hbc e=>hs'.extBut b o hbc e) hCl) (hok.sameBut (λb o hbc e=>hs'.extBut b o hbc e) (by rw[aF hCD];exact hC)) hb λb hb'=>by
  obtain⟨f0,f1,f2',f3,f4,f5⟩:=f2 b hb';exact⟨f3,f1,f4,f5⟩
 exact⟨.ref Dd,_,I3,rfl,q⟩
end
noncomputable def IQ:List D->Option D
 | [.lst _ ds]=>match qz ds with
  |some ns=>some (.int ns.sum)
  |none=>none
 | [.tup ds]=>match qz ds with
  |some ns=>some (.int ns.sum)
  |none=>none
 |_=>none
theorem Vals.ints:∀{ns:List Int}{its:List Value},Vals (ns.map V.int) its->IntsAre its ns
 | [],_,.nil=>.nil
 |n::ns,_,.cons r t=>by obtain⟨tk,rfl⟩:=r;exact .cons n tk (Vals.ints t)
section
def vo{ns:List Int}(rv:Vals (ns.map V.int) its):∃xs:Array (Int×Tok),its.toArray=intItems xs/\preSum (numAt xs) xs.size=ns.sum:=by
 have hi:=Vals.ints rv;obtain⟨xs,hx⟩:=hi.allInts.items;have e1:ns=xs.toList.map (·.1):=by rw[<- nums_intItems,<- hx];exact(show numsOf its.toArray.toList=ns from hi.numsOf).symm
 exact⟨xs,hx,by rw[preSum_eq,List.take_of_length_le (by simp),e1]⟩
def Bw(hc:X.calm=true):ky X (.builtin "sum") (λxs H Q=>∃p,∃ns:List Int,xs=[.ref p]/\(SqL X.K H p (ns.map V.int)\/SqT X.K H p (ns.map V.int))/\Q (.int ns.sum) H):=by
 intro pins s σ H xs us Q I r ⟨p,ns,ex,hs,q⟩;subst ex;obtain⟨u,rfl,r1⟩:=r.one;cases r1;rcases hs with hs|hs
 ·obtain⟨its,rv,pl,hz⟩:=I.list hs;obtain⟨xs,hx,e2⟩:=vo rv;refine sum_intListG (I.ok.hd hc) (hx▸pl.isList) λh' tk t' hk=>?_;rw[e2];exact⟨.int _,H,I.kept (t':=tk) hk,⟨_,rfl⟩,q⟩
 ·obtain⟨its,rv,pl,hz⟩:=I.tuple hs;obtain⟨xs,hx,e2⟩:=vo rv;have ht:s.heap.IsTuple p its.toArray:=pl;refine PySem.W.ktm_sumG (I.ok.hd hc) (hx▸ht) λh' tk t' hk=>?_;rw[e2];exact⟨.int _,H,I.kept (t':=tk) hk,⟨_,rfl⟩,q⟩
def Go(K:PySem.W.Frag):Hr K (λxs H Q=>∃p,∃ns:List Int,xs=[.ref p]/\(SqL K H p (ns.map V.int)\/SqT K H p (ns.map V.int))/\Q (.int ns.sum) H) IQ:=by
 intro G H xs ds d Q s r e q;unfold IQ at e;split at e
 ·split at e;·rename_i ns hn;cases e;obtain⟨v,rfl,r1⟩:=r.one;obtain⟨a,vs,rfl,hs,rr⟩:=r1.seq_inv;obtain rfl:=rr.nums hn;exact⟨a,ns,rfl,.inl (hs.mono s),q _ G H (.refl s) (.int _)⟩
  ·cases e
 ·split at e;·rename_i ns hn;cases e;obtain⟨v,rfl,r1⟩:=r.one;obtain⟨a,vs,rfl,hs,rr⟩:=r1.tup_inv;obtain rfl:=rr.nums hn;exact⟨a,ns,rfl,.inr (hs.mono s),q _ G H (.refl s) (.int _)⟩
  ·cases e
 ·cases e
def Od{e:Expr}{pos:Pos}(hc:X.calm=true)(hg:Gl X "sum")(hm:X.mg "sum"=none)(ha:PFA X [e] gl)(he:starEach [e] X.env=(false,eval e X.env)::starEach [] X.env:=by rfl):
  PF X (.Call (.Name "sum" p) [e] [] pos) (gOf IQ gl):=ly (Bw hc) (Go _) hg hm PyProof.Rows.Boot.«sum» ha (by decide) (by decide) he rfl
end
noncomputable def NT(i j:Nat)(ga:Ev->R D)(gl:Ev->R (List D)):Ev->O:=λρ=>(ga ρ).out ρ λd=>(gl ρ).out ρ λds=>.nx ((ρ.set i (some (.val d))).set j (some (.own ds)))
def Inv.turnedL{σ:List (Option V)}{t':Nat}(I:Inv X pins σ H s)(k:∀b o,b∉ch->s.heap.get? b=some o->h'.get? b=some o)(f:∀b∈ch,qJ X pins H b):
  Inv X pins σ H { s with heap:=h',toks:=t' }:=by
 have n1:∀b u,H b=some u->b∉ch:=λb u q z=>by rw[(f b z).1]at q;cases q
 refine I.step (g':=s.gens) (d':=s.drawn) (ch:=ch) (λb hb=>?_) (λb o _ _ hc q _=>k b o hc q) (λb o _ _ hc q _=>⟨o.slots,k b o hc q⟩) (λ_ _ _ _ n=>n) (λb o hc q=>⟨o,k b o hc q⟩) (λ_ _ q=>q) (λ_ _ _ q=>q) (λb ps q=>⟨#[],by rw[q];simp⟩) (λm hm=>?_) (λb u q=>?_) I.bare;·obtain⟨a0,a1,a2,a3,a4,a5⟩:=f b hb;exact⟨a3,a1,a4,a5⟩
 ·obtain⟨o,es,ep,ho,r⟩:=hm;exact⟨o,es,ep,k _ o (λz=>(f _ z).2.1 rfl) ho,r⟩
 ·refine(I.hok b u q).stay (λc v hc q'=>k c v ?_ q') (λ_ q'=>q') λ_ _ q'=>q';rcases hc with z|z;·rw[z];exact n1 b u q
  ·exact n1 c _ z
noncomputable def Itz(sq1 sq2:Hp->List V->Prop):It:=⟨λi H=>∃xs ys x y,sq1 H xs/\sq2 H ys/\xs[i]?=some x/\ys[i]?=some y,
 λi H v H'=>∃p x y,v=.ref p/\H p=none/\H'=upd H p (.tup [x,y])/\(∀xs,sq1 H xs->xs[i]?=some x)/\∀ys,sq2 H ys->ys[i]?=some y,λi H=>∃xs ys,sq1 H xs/\sq2 H ys/\(xs.length<=i\/ys.length<=i)⟩
section
variable{w:World}{K:PySem.W.Frag}{elts:List Expr}{kt:Nat}{tp:Pos}
def EB{z TI TO i1 i2 l1 l2:Addr}(D:ZipApart z TI TO i1 i2 l1 l2):
  Turn P w K (.Tuple elts kt tp) (Itz (λH xs=>SqL K H l1 xs) (λH xs=>SqL K H l2 xs)) [z,TI,TO,i1,i2] z (λi h=>IsZip h z TI TO .none/\IsPair h TI (.ref i1) (.ref i2)/\(∃a b,IsPair h TO a b)/\h.IsListIter i1 l1 i/\h.IsListIter i2 l2 i) where
 mem:=by simp
 obj:=λi h st b hb=>by
  obtain⟨s1,s2,⟨a,c,s3⟩,s4,s5⟩:=st;simp only[y9,w8,w9]at hb;rcases hb with rfl|rfl|rfl|rfl|rfl;·exact⟨_,s1,λv z=>by cases z⟩
  ·exact⟨_,s2,λv z=>by cases z⟩
  ·exact⟨_,s3,λv z=>by cases z⟩
  ·obtain⟨o,q,c,d⟩:=s4;exact⟨o,q,λv z=>by rw[d]at z;cases z⟩
  ·obtain⟨o,q,c,d⟩:=s5;exact⟨o,q,λv z=>by rw[d]at z;cases z⟩
 keep:=λi h h' st k=>by obtain⟨s1,s2,⟨a,c,s3⟩,s4,s5⟩:=st;exact⟨k z (by simp) _ s1,k TI (by simp) _ s2,⟨a,c,k TO (by simp) _ s3⟩,s4.at λo q=>k i1 (by simp) o q,s5.at λo q=>k i2 (by simp) o q⟩
 item:=by
  intro X hP hw hK hc i pins s σ H E I hf st hg;obtain⟨xs,ys,x,y,hq1,hq2,hx,hy⟩:=hg;obtain⟨s1,s2,⟨a,c,s3⟩,s4,s5⟩:=st;subst hP hw hK;obtain⟨its1,rv1,p1,hz1⟩:=I.list hq1;obtain⟨its2,rv2,p2,hz2⟩:=I.list hq2;obtain⟨u1,hu1,ru1⟩:=rv1.get hx;obtain⟨u2,hu2,ru2⟩:=rv2.get hy;refine wpAny_pyNext_zip_item D s1 s2 s3 s4 s5 p1.isList p2.isList (x:=u1) (y:=u2) (by simpa using hu1) (by simpa using hu2) λh1 z1 zTO zi1 zi2 zp zsz zk=>?_;refine⟨_,rfl,wpAny_letOwnedTupleGo_zip z1 λh2 z2 sb=>?_⟩;have hzlt:z<s.heap.objs.size:=zy s1;have hTIlt:TI<s.heap.objs.size:=zy s2;have hTOlt:TO<s.heap.objs.size:=zy s3;have hi1lt:i1<s.heap.objs.size:=by obtain⟨o,q,_⟩:=s4;exact zy q
  have hi2lt:i2<s.heap.objs.size:=by obtain⟨o,q,_⟩:=s5;exact zy q
  have hp:H s.heap.objs.size=none:=I.hok.fresh (zE _);have Ia:Inv X pins σ (upd H s.heap.objs.size (.tup [x,y])) { s with heap:=s.heap.push { cls:=.type "tuple",data:=.seq #[u1,u2] } }:=by refine I.laid (t':=s.toks) (λb o q=>zT _ q) (zE _) ?_;exact⟨by show 2<=sizeLine;decide,[u1,u2],.cons ru1 (.cons ru2 .nil),qK _ _⟩
  have fp':∀b∈[z,TI,TO,i1,i2],qJ X pins (upd H s.heap.objs.size (.tup [x,y])) b:=λb hb=>by
   have hlt:b<s.heap.objs.size:=by simp only[y9,w8,w9]at hb;rcases hb with rfl|rfl|rfl|rfl|rfl <;> assumption
   exact⟨by rw[aF (xD hlt)];exact(hf b hb).1,(hf b hb).2⟩
  have ht2:h2.get? s.heap.objs.size=some { cls:=.type "tuple",data:=.seq #[u1,u2] }:=(sb.2 _ (qM hzlt)).trans zp;have Ib:Inv X pins σ (upd H s.heap.objs.size (.tup [x,y])) { s with heap:=h2 }:=by
   refine Inv.turnedL (s:={ s with heap:=s.heap.push { cls:=.type "tuple",data:=.seq #[u1,u2] } }) (h':=h2) (t':=s.toks) (ch:=[z,TI,TO,i1,i2]) Ia (λb o hb q=>?_) fp';have q:(s.heap.push { cls:=.type "tuple",data:=.seq #[u1,u2] }).get? b=some o:=q;simp only[y9,w8,w9,not_or]at hb;obtain⟨b1,b2,b3,b4,b5⟩:=hb;by_cases e:b=s.heap.objs.size;·subst e;have q':=xG s.heap (o:={ cls:=.type "tuple",data:=.seq #[u1,u2] }) rfl;rw[q']at q;rw[ht2];exact q
   ·have q2:s.heap.get? b=some o:=by
     rcases Nat.lt_or_ge b s.heap.objs.size with hb|hb;·exact pe hb q
     ·have hlt:b<(s.heap.push { cls:=.type "tuple",data:=.seq #[u1,u2] }).objs.size:=zy q;rw[vg]at hlt;exact absurd (Zz (ZA hlt) hb) e
    exact(sb.2 b b1).trans (zk b o b1 b3 b4 b5 q2)
  refine⟨.ref s.heap.objs.size,_,Ib,rfl,⟨_,x,y,rfl,hp,rfl,λzs h=>by rw[I.list_inj h hq1];exact hx,λzs h=>by rw[I.list_inj h hq2];exact hy⟩,⟨z2,?_,⟨u1,u2,(sb.2 TO D.TOz).trans zTO⟩,zi1.at λo q=>(sb.2 i1 D.i1z).trans q,zi2.at λo q=>(sb.2 i2 D.i2z).trans q⟩,λb hb=>(fp' b hb).1⟩;exact(sb.2 TI D.TIz).trans (zk TI _ D.TIz D.TITO D.TIi1 D.TIi2 s2)
 done:=by
  intro X hP hw hK hc i pins s σ H E I hf st hg;obtain⟨xs,ys,hq1,hq2,hx⟩:=hg;obtain⟨s1,s2,⟨a,c,s3⟩,s4,s5⟩:=st;subst hP hw hK;obtain⟨its1,rv1,p1,hz1⟩:=I.list hq1;obtain⟨its2,rv2,p2,hz2⟩:=I.list hq2;have e1:=rv1.length;have e2:=rv2.length;refine wpAny_pyNext_zip_end (I.ok.hd hc) D s1 s2 s3 s4 s5 p1.isList p2.isList ?_ λh' hk=>⟨rfl,I.turnedL (t':=s.toks) (ch:=[z,TI,TO,i1,i2]) (λb o hb q=>?_) hf⟩
  ·rcases hx with hx|hx;·exact .inl (by simp;omega)
   ·exact .inr (by simp;omega)
  ·simp only[y9,w8,w9,not_or]at hb;obtain⟨b1,b2,b3,b4,b5⟩:=hb;exact hk b o b1 b3 b4 b5 q
 self:=λA i s Q E st h=>Z7 st.1 h
def ItOk.zip{sq1 sq2:Hp->List V->Prop}{ws:List V}{es:List D}(h1:∀G1 H1,Same G G1->Same G1 H1->sq1 H1 vs)(h2:∀G1 H1,Same G G1->Same G1 H1->sq2 H1 ws)(r1:Reps K G vs ds)(r2:Reps K G ws es):ItOk K G (Itz sq1 sq2) (List.zipWith (λx y=>.tup [x,y]) ds es):=by
 intro i G1 H1 s1 s2;refine⟨λd e=>?_,λhl=>⟨vs,ws,h1 G1 H1 s1 s2,h2 G1 H1 s1 s2,by rw[List.length_zipWith]at hl;rw[r1.length,r2.length];omega⟩⟩;rw[List.getElem?_zipWith]at e;cases e1:ds[i]? with
 |none=>rw[e1]at e;cases e
 |some dx=>
  cases e2:es[i]? with
  |none=>rw[e1,e2]at e;cases e
  |some dy=>rw[e1,e2]at e;have e:=(xz e).symm;subst e;obtain⟨v,ev,rv⟩:=r1.get e1;obtain⟨u,eu,ru⟩:=r2.get e2;refine⟨⟨vs,ws,v,u,h1 G1 H1 s1 s2,h2 G1 H1 s1 s2,ev,eu⟩,λx H' y=>?_⟩;obtain⟨p,x',y',rfl,hp,rfl,z1,z2⟩:=y;have z1:=z1 vs (h1 G1 H1 s1 s2);have z2:=z2 ws (h2 G1 H1 s1 s2);rw[ev]at z1;rw[eu]at z2;cases z1;cases z2;refine⟨upd G1 p (.tup [v,u]),.new s2 hp,.tup (.of aV) (.cons ((rv.mono s1).mono (.into (s2.free hp))) (.cons ((ru.mono s1).mono (.into (s2.free hp))) .nil))⟩
end
noncomputable def Jg:List D->R (List D)
 | [.lst _ xs,.lst _ ys]=>.ok (List.zipWith (λx y=>.tup [x,y]) xs ys)
 |_=>.no
def Rep.lstSq{K:PySem.W.Frag}{f:Bool}{xs:List D}(r:Rep K G v (.lst f xs)):∃a vs,v=.ref a/\SqL K G a vs/\Reps K G vs xs:=by
 cases r with
 |lst hq t=>exact⟨_,_,rfl,.of hq,t⟩
 |fls hq t=>exact⟨_,_,rfl,hq,t⟩
section
variable{a b:Expr}{elts:List Expr}{kt:Nat}{pos tp:Pos}
def JJ(hg:Gl X "zip")(hm:X.mg "zip"=none)(ha:PFA X [a,b] gl)(hs:starEach [a,b] X.env=(false,eval a X.env)::starEach [b] X.env:=by rfl)(hs2:(backTo pos (starEach [b] X.env)).any (·.1)=false:=by rfl):
  PIF X (.Tuple elts kt tp) (.Call (.Name "zip" p) [a,b] [] pos) (aB Jg gl):=by
 intro pins s σ H Rr I h;obtain⟨G,ρ,st,h⟩:=h;have h:(gl ρ>>=Jg).post (Fin G H (λG J items=>ItOk X.K G J items) Rr) (Exx X σ G H):=h;have ta:tAF X gl σ H (λvs H1=>∃G1 ds,Up G H G1 H1/\Reps X.K G1 vs ds/\Same G1 H1/\(Jg ds).post (Fin G1 H1 (λG J items=>ItOk X.K G J items) Rr) (Exx X σ G1 H1)):=by
  refine⟨G,ρ,st,?_⟩;cases e:gl ρ with
  |ok ds=>rw[e]at h;intro vs G1 H1 u1 r1;refine⟨G1,ds,u1,r1,u1.sub,?_⟩;have h:(Jg ds).post (Fin G H (λG J items=>ItOk X.K G J items) Rr) (Exx X σ G H):=h;exact h.mono (λitems q J G2 H2 u2 r2=>q J G2 H2 (u1.trans u2) r2) λC q=>q.up u1
  |ex C=>rw[e]at h;exact h
  |no=>rw[e]at h;exact h
 refine Call_ (mX I hg hm PyProof.Rows.Boot.«zip» (ZB (thn (ha pos pins s σ H _ I ta) λus s1 ⟨vs,H1,I1,r1,q1⟩=>?_) hs hs2));obtain⟨G1,ds,u1,rd,sub,h1⟩:=q1;unfold Jg at h1;split at h1
 ·rename_i f1 xs f2 ys;cases rd with
  |cons rx t=>
   cases t with
   |cons ry t2=>
    cases t2;obtain⟨l1,ws1,rfl,sq1,rr1⟩:=rx.lstSq;obtain⟨l2,ws2,rfl,sq2,rr2⟩:=ry.lstSq;cases r1 with
    |cons v1 t1=>
     cases t1 with
     |cons v2 t3=>
      cases t3;cases v1;cases v2;obtain⟨its1,rv1,p1,hz1⟩:=I1.list (sq1.mono sub);obtain⟨its2,rv2,p2,hz2⟩:=I1.list (sq2.mono sub);have hl1:l1<s1.heap.objs.size:=SqL.lt' I1 (sq1.mono sub);have hl2:l2<s1.heap.objs.size:=SqL.lt' I1 (sq2.mono sub);refine call_zip_2 p1.isList p2.isList λh' z1 zTI zTO zi1 zi2 zsz zk=>Z7 z1 ?_;refine⟨_,_,_,_,H1,rfl,I1.kept (t':=s1.toks) zk,EB (zipApart_new hl1 hl2),⟨z1,zTI,⟨_,_,zTO⟩,zi1,zi2⟩,λb hb=>?_,h1 _ G1 H1 (.refl sub) (ItOk.zip (λG2 H2 s1 s2=>(sq1.mono s1).mono s2) (λG2 H2 s1 s2=>(sq2.mono s1).mono s2) rr1 rr2)⟩;have hge:s1.heap.objs.size<=b:=by simp only[y9,w8,w9]at hb;rcases hb with rfl|rfl|rfl|rfl|rfl <;> omega
      exact I1.fpOk hge (I1.hok.fresh hge)
 ·exact h1.elim
end
noncomputable def MC:D->D->R D
 |.str x,.int k=>if k = -1 then .ok (.str x.reverse)else .no
 |.lst _ xs,.int k=>if k = -1 then .ok (.lst false xs.reverse)else .no
 |_,_=>.no
def Pl(ga gs:Ev->R D):Ev->R D:=λρ=>ga ρ>>=λx=>gs ρ>>=λk=>MC x k
section
variable{a st:Expr}{ga gs:Ev->R D}{pos p2:Pos}
def oZ:D->List D->Option D
 |.str x,[.str [c]]=>some (.int ((x.count c:Nat):Int))
 |_,_=>none
theorem mT(c:Nat):∀l:List Nat,countIn (.str ⟨#[c]⟩) (l.map λn=>PyData.str ⟨#[n]⟩)=((l.count c:Nat):Int)
 | []=>rfl
 |n::l=>by
  have ih:=mT c l;rw[tI,countIn,ih,List.count_cons];by_cases h:n=c
  ·subst h;have e:same (.str ⟨#[n]⟩) (.str ⟨#[n]⟩)=true:=by simp[same]
   rw[if_pos e,if_pos (by simp)];omega
  ·have e : ¬ same (.str ⟨#[n]⟩) (.str ⟨#[c]⟩)=true:=by simp[same,h]
   rw[if_neg e,if_neg (by simp[h])];omega
noncomputable def B0:V->List V->Hp->VK->Prop:=λx vs H Q=>∃(y:Str)(c:Nat),x=.str y/\vs=[.str ⟨#[c]⟩]/\Q (.int ((y.cps.toList.count c:Nat):Int)) H
def Bo:MtR X "str.count" B0:=by intro pins s σ H x xs v us Q I rx rv ⟨y,c,ex,exs,q⟩;subst ex exs;obtain⟨t,rfl⟩:=rx;obtain⟨u,rfl,r1⟩:=rv.one;obtain⟨t',rfl⟩:=r1;refine SC.count ?_;have e:=count_is y c;rw[mT]at e;rw[e];exact⟨.int _,H,I.tok _,⟨_,rfl⟩,q⟩
def Bz(K:PySem.W.Frag):BA K "str" B0 oZ:=by
 intro G H x xs dx ds d Q s rx rs e q;unfold oZ at e;split at e;·cases e;rename_i x0 c;obtain⟨v,rfl,r1⟩:=rs.one;obtain⟨i,rfl,ei,hi⟩:=rx.str_inv;obtain⟨j,rfl,ej,hj⟩:=r1.str_inv;subst ei;have:j=⟨#[c]⟩:=(Str.of_list ej).symm;subst this;exact⟨i,c,rfl,rfl,q _ G H (.refl s) (.int _)⟩
 ·cases e
def yB{o e:Expr}{ga:Ev->R D}{ap cp:Pos}(ho:PF X o ga)(ha:PFA X [e] gl)(hbase:attributeBase o "count" X.env (eval o X.env)=eval o X.env:=by rfl)(hfew:((backTo cp (starEach [e] X.env)).all (λx=>!x.1) && (backToKw cp (keywordEach [] X.env)).all (λx=>x.1.isSome)
 && decide ([e].length+([]:List Keyword).length+(if ([]:List Keyword).isEmpty then 0 else 1)<30))=true:=by rfl)(hline:(ap.endLine==cp.line)=true:=by rfl)(hs:starEach [e] X.env=(false,eval e X.env)::starEach [] X.env:=by rfl):
  PF X (.Call (.Attribute o "count" ap) [e] [] cp) (fk "str" oZ ga gl):=
 iA oR PySem.F.slot_str_count PySem.F.type_str_count Bo (Bz _) ho ha hbase hfew hline hs rfl
end
noncomputable def gI(gt:Ev->R Bool)(g:Ev->O):Nat->Ev->O
 | 0,_=>.no
 |n+1,ρ=>(gt ρ).out ρ λk=>if k=true then (match g ρ with
  |.nx ρ2=>gI gt g n ρ2
  |.ct ρ2=>gI gt g n ρ2
  |.bk ρ2=>.nx ρ2
  |.rt d=>.rt d
  |.re d ρ2=>.re d ρ2
  |.ex C ρ2=>.ex C ρ2
  |.no=>.no)else .nx ρ
def AJ(n:Nat)(gt:Ev->R Bool)(g:Ev->O):Ev->O:=λρ=>gI gt g n ρ
section
variable{c e:Expr}{gt:Ev->R Bool}{g:Ev->O}{ga:Ev->R D}{pos:Pos}
def GZ(n:Nat)(hp:PassesOwn (model X.prog X.w) X.A X.env X.xe)(hc:PB X c gt)(hb:lO X body g):PSF X (.While c body [] pos) (AJ n gt g):=λG₀ H₀ pins s σ H D I h=>by
 obtain⟨G,ρ,sr,h⟩:=h;refine CY hp hc (hb G₀ H₀) pins s σ H D I ?_;refine⟨λm σ H=>∃G ρ,StR X.K G₀ H₀ G H σ ρ/\jW X G₀ H₀ D (gI gt g m ρ),⟨n,G,ρ,sr,h⟩,?_⟩;rintro m σ H ⟨G,ρ,sr,h⟩;cases m with
 |zero=>exact h.elim
 |succ m=>
  refine⟨G,ρ,sr.e,?_⟩;have h:jW X G₀ H₀ D ((gt ρ).out ρ λk=>if k=true then (match g ρ with
   |.nx ρ2=>gI gt g m ρ2
   |.ct ρ2=>gI gt g m ρ2
   |.bk ρ2=>.nx ρ2
   |.rt d=>.rt d
   |.re d ρ2=>.re d ρ2
   |.ex C ρ2=>.ex C ρ2
   |.no=>.no)else .nx ρ):=h;cases q:gt ρ with
  |ok k=>
   rw[q]at h;intro b G1 H1 u1 eb;have eb:b=k:=eb;subst eb;simp only[R.out]at h;cases b with
   |true=>
    rw[if_pos rfl]at h⊢;refine⟨λσ' H'=>∃G ρ,StR X.K G₀ H₀ G H' σ' ρ/\jW X G₀ H₀ D (gI gt g m ρ),λσ' H' w=>⟨m,pP _,w⟩,G1,ρ,sr.ups u1,?_⟩;cases q3:g ρ with
    |nx ρ2=>rw[q3]at h;exact λσ4 G4 H4 sr4=>⟨G4,ρ2,sr4,h⟩
    |ct ρ2=>rw[q3]at h;exact λσ4 G4 H4 sr4=>⟨G4,ρ2,sr4,h⟩
    |bk ρ2=>rw[q3]at h;exact h
    |rt d=>rw[q3]at h;exact h
    |re d ρ2=>rw[q3]at h;exact h
    |ex C ρ2=>rw[q3]at h;exact h
    |no=>rw[q3]at h;exact h
   |false=>rw[if_neg wT]at h⊢;exact h _ G1 H1 (sr.ups u1)
  |ex C=>rw[q]at h;exact Exx.of sr h
  |no=>rw[q]at h;exact h
def GW(f:Int->Int->Int):D->D->Option D
 |.int i,.int j=>some (.int (f i j))
 |_,_=>none
def JN(i:Nat){x:Str}{op:Operator}{f:Int->Int->Int}(hN:X.N.Nodup)(he:PF X e ga)(ho:PIp X op (ipI f))(hi:X.N[i]?=some x:=by rfl)(hx:Loc X.env.scope x:=by first|exact Or.inl rfl|exact Or.inr rfl)(hf:X.fn x=true\/X.env.scope.names.lookup x=some .local:=by first|exact .inl rfl|exact .inr rfl):
  PSF X (.AugAssign (.Name x p) op e pos) (eO i (g2 (GW f) (λρ=>rdV ρ i) ga)):=λG₀ H₀ pins s σ H D I h=>by
 refine Lh hN hi hx he ho hf pins s σ H D I ?_;obtain⟨G,ρ,sr,h⟩:=h;have h:jW X G₀ H₀ D ((rdV ρ i>>=λa=>ga ρ>>=λb=>ofO (GW f a b)).out ρ λd=>.nx (ρ.set i (some (.val d)))):=h;cases q1:rdV ρ i with
 |ok d=>
  have e1:ρ[i]?=some (some (.val d)):=by
   unfold rdV at q1;split at q1;·rename_i d' e';cases q1;exact e'
   ·cases q1
  rw[q1]at h;simp only[R.ok_bind]at h;obtain⟨v,hv,rv⟩:=sr.e.val i d e1;refine⟨v,hv,G,ρ,sr.e,?_⟩;cases q2:ga ρ with
  |ok b=>
   rw[q2]at h;simp only[R.ok_bind]at h;intro w G1 H1 u1 r1;cases d with
   |int a=>
    cases b with
    |int b=>cases rv;cases r1;exact⟨_,_,rfl,rfl,h _ G1 H1 ((sr.ups u1).set (.int _) i)⟩
    |_=>exact h.elim
   |_=>exact h.elim
  |ex C=>rw[q2]at h;exact Exx.of sr h
  |no=>rw[q2]at h;exact h
 |ex C=>rw[q1]at h;unfold rdV at q1;split at q1 <;> cases q1
 |no=>rw[q1]at h;exact h.elim
noncomputable def sB(i:Nat)(f:Int->Int->Int)(gk ga:Ev->R D):Ev->O:=λρ=>(ownAt ρ i).out ρ λds=>(fA (gk ρ>>=asI)).out ρ λk=>(fA (ga ρ>>=asI)).out ρ λb=>if 0<=k then (match ds[k.toNat]? with
 |some (.int a)=>.nx (ρ.set i (some (.own (ds.set k.toNat (.int (f a b))))))
 |_=>.no)else .no
noncomputable def M6:V->V->Hp->VK->Prop:=λo i H Q=>∃p xs k v,o=.ref p/\i=.int k/\H p=some (.lst xs)/\0<=k/\xs[k.toNat]?=some v/\Q v H
def Dc:OF X M6:=by intro pins s σ H o i ov iv Q I ro ri h;obtain⟨p,xs,k,v,rfl,rfl,hp,h0,he,q⟩:=h;cases ro;obtain⟨t,rfl⟩:=ri;obtain⟨its,r,pl,hz⟩:=I.list (.of hp);obtain⟨w,ew,rw'⟩:=r.get he;have hl:=r.length;have hn:=mF;have hlt:k.toNat<xs.length:=(u6.mp he).1;exact wpAny_getItem_list pl.isList h0 (by omega) (by simpa using ew) ⟨v,H,I,rw',q⟩
def AH(i:Nat){x:Str}{tp:Pos}{ix:Expr}{op:Operator}{f:Int->Int->Int}(hk:PF X ix gk)(he:PF X e ga)(ho:PIp X op (ipI f))(hi:X.N[i]?=some x:=by rfl)(hv:Vis X.env.scope x:=by first|exact Or.inl rfl|exact Or.inr (Or.inl rfl))(hd:(x==("__debug__":Str))=false:=by decide)(hcd:(x==("__classdict__":Str))=false:=by decide)(ha:∀ov iv new,augStore ix ov iv new=(do holding [new,ov,iv] (setItem ov iv new);release [new,ov,iv] [];pure .next):=by intros;rfl):
  PSF X (.AugAssign (.Subscript (.Name x p) ix tp) op e pos) (sB i f gk ga):=λG₀ H₀ pins s σ H D I h=>by
 refine GR (iS hi hv hd hcd) hk Dc he ho yD ha pins s σ H D I ?_;obtain⟨G,ρ,sr,h⟩:=h;have h:jW X G₀ H₀ D ((ownAt ρ i).out ρ λds=>(fA (gk ρ>>=asI)).out ρ λk=>(fA (ga ρ>>=asI)).out ρ λb=>if 0<=k then (match ds[k.toNat]? with
  |some (.int a)=>.nx (ρ.set i (some (.own (ds.set k.toNat (.int (f a b))))))
  |_=>.no)else .no):=h;obtain⟨ds,e1,h⟩:=ownAt.ok h;obtain⟨l,vs,h1,h2,h3,h4,h5⟩:=sr.own i ds e1;refine⟨.ref l,h1,G,ρ,sr.e,?_⟩;cases q2:gk ρ with
 |ok kd=>
  rw[q2]at h;intro kv G' H' u' rk;cases rk with
  |int k=>
   have h:jW X G₀ H₀ D ((fA (ga ρ>>=asI)).out ρ λb=>if 0<=k then (match ds[k.toNat]? with
    |some (.int a)=>.nx (ρ.set i (some (.own (ds.set k.toNat (.int (f a b))))))
    |_=>.no)else .no):=h;cases q3:ga ρ with
   |ok bd=>
    rw[q3]at h;cases bd with
    |int b=>
     have h:jW X G₀ H₀ D (if 0<=k then (match ds[k.toNat]? with
      |some (.int a)=>.nx (ρ.set i (some (.own (ds.set k.toNat (.int (f a b))))))
      |_=>.no)else .no):=h;by_cases h0:0<=k
     ·rw[if_pos h0]at h;split at h;·rename_i a ea;obtain⟨v,ev,rv⟩:=h5.get ea;cases rv;have hlt:k.toNat<ds.length:=(u6.mp ea).1;refine⟨l,vs,k,_,rfl,rfl,u'.hh _ _ h2,h0,ev,G',ρ,(sr.ups u').e,?_⟩;rw[q3];intro bv G'' H'' u'' rb;cases rb;refine⟨a,b,rfl,rfl,l,vs,k,k.toNat,rfl,rfl,(u'.trans u'').hh _ _ h2,?_,h _ G'' _ ((sr.ups (u'.trans u'')).mut e1 h1 (.set (.int _) k.toNat (h5.mono (u'.trans u'').gg)))⟩;unfold ixN;rw[if_pos h0,if_pos (by rw[h5.length];omega)]
      ·exact h.elim
     ·rw[if_neg h0]at h;exact h.elim
    |_=>exact h.elim
   |_=>rw[q3]at h;exact h.elim
  |_=>exact h.elim
 |_=>rw[q2]at h;exact h.elim
end
noncomputable def AC(gs:List (Ev->R D))(ρ:Ev):D->R D
 |.int i=>if 0<=i then (match gs[i.toNat]? with
  |some g=>g ρ
  |none=>.no)else .no
 |_=>.no
def zW(gs:List (Ev->R D))(gi:Ev->R D):Ev->R D:=λρ=>gi ρ>>=AC gs ρ
def Ll{gi:Ev->R D}:zW gs gi ρ=gi ρ>>=AC gs ρ:=rfl
def Kv{g:Ev->R D}:AC (g::gs) ρ (.int 0)=g ρ:=rfl
def Ku{f g:Ev->R D}:AC (f::g::gs) ρ (.int 1)=g ρ:=rfl
section
variable{a b ix e:Expr}{ga gi:Ev->R D}{pos p1 p2 pl sp:Pos}
def yn(v sl:Expr)(args:List Expr)(env:Env):eval (.Call (.Subscript v sl sp) args [] pos) env=(do
  callWith pos (<- eval (.Subscript v sl sp) env) [] (backTo pos (starEach args env)) (backToKw pos (keywordEach [] env))):=rfl
def tf{Q:VK}{g:List D->R D}(F:FnF X.prog X.w X.K X.mg X.base k f fd ps g)(hr:Room k X.A)(hk:PySem.W.keepIn X.K (.ref f)=true)(hb:Binds X.K fd ps [])(ha:PFA X (e::es) gl)(he:starEach (e::es) X.env=(false,eval e X.env)::starEach es X.env)(hpl:(backTo pos (starEach es X.env)).any (·.1)=false)(I:Inv X pins σ H s)(st:StE X.K G H σ ρ)(h:(aG ps.length g gl ρ).post (Fin G H (Rep X.K) Q) (Exx X σ G H)):wpAny (model X.prog X.w) X.A (callWith pos (.ref f) [] (backTo pos (starEach (e::es) X.env)) (backToKw pos (keywordEach [] X.env))) (EP X pins σ Q) X.xe s:=by
 have t:tAF X gl σ H (λvs H1=>∃G1 ds,Up G H G1 H1/\Same G1 H1/\Reps X.K G1 vs ds/\ds.length=ps.length/\(g ds).post (Fin G1 H1 (Rep X.K) Q) (Exx X σ G1 H1)):=by
  refine tG.intro st h λds vs G1 H1 u1 st1 r1 h1=>?_;by_cases hl:ds.length=ps.length;·rw[if_pos hl]at h1;exact⟨G1,ds,u1,st1.sub,r1,hl,h1⟩
  ·rw[if_neg hl]at h1;exact h1.elim
 refine b7 (h₀:=X.base) I.ok.mod.kin hk (thn (ha pos pins s σ H _ I t) λus s1 q=>⟨?_,?_⟩) he hpl;·obtain⟨vs,H1,I1,r,_⟩:=q;exact I1.kIn
 obtain⟨vs,H1,I1,r,G1,ds,u1,sub1,rp,hl,h1⟩:=q;have hvl:vs.length=ps.length:=by rw[rp.length];exact hl
 have hul:(us++[]).length=ps.length:=by rw[rR,<- r.length];exact hvl
 have hbb:=hb s1 us I1.kIn hul;rw[rR]at hbb;refine nE (o8 (F.run X.A X.stack s1 H1 ⟨us,[]⟩ us vs Q (λc _ H'=>∃C G',c=.ref C/\Up G1 H1 G' H'/\Exx X σ G1 H1 C) hr I1.env0 hbb r ⟨hvl,G1,ds,sub1,rp,h1.mono (λ_ q=>q) λC q G' H' u=>⟨C,G',rfl,u,q⟩⟩) λr' s' hq=>?_);cases r' with
 |error e'=>obtain⟨a,C,H',rfl,fl,C',G',ec,u,q⟩:=hq;cases ec;exact q _ _ ⟨G1,H1,.refl sub1,pins,s1,a,rfl,I1,.inr (.inl ⟨G',H',fl,u⟩)⟩
 |ok fl=>
  cases fl with
  |ret u=>exact I1.after hq
  |_=>exact False.elim hq
end
def CQ(dx:D)(l:List Nat):Bool:=match eqD 40 (.str l) dx with
 |some b=>b
 |none=>false
noncomputable def inTF:D->D->Option D
 |dx,.tup ds=>match strsOf ds with
  |some ls=>if (ls.all λl=>(eqD 40 (.str l) dx).isSome)=true then some (.bl (ls.any (CQ dx)))else none
  |none=>none
 |_,_=>none
where strsOf:List D->Option (List (List Nat))
 | []=>some []
 |.str x::ds=>(strsOf ds).map (x::·)
 |_::_=>none
theorem uK:∀{ds:List D}{ls:List (List Nat)},inTF.strsOf ds=some ls->ds=ls.map .str
 | [],ls,h=>by cases h;rfl
 |d::ds,ls,h=>by
  cases d <;> first|(cases h;done)|skip
  rename_i x;unfold inTF.strsOf at h;cases q:inTF.strsOf ds with
  |none=>rw[q]at h;cases h
  |some ms=>rw[q]at h;cases h;rw[uK q];rfl
section
variable{a b:Expr}{ga:Ev->R D}{pos:Pos}
def yK{x z:Str}{l:List Nat}{t:Tok}(hg:Gl X x)(hm:X.mg x=some (.str z t))(hl:z.cps.toList=l:=by rfl)(hz:l.length<=1000:=by decide)(hd:(x==("__debug__":Str))=false:=by decide):PF X (.Name x pos) (λ_=>.ok (.str l)):=
 jY (jy (v:=.str z) hg hm ⟨t,rfl⟩ hd) λ_ _=>.strL hl (xS hz (by decide))
structure KTup(K:PySem.W.Frag)(c:Addr)(ls:List (List Nat)):Prop where
 ex:∃(o:Obj)(its:Array Value)(n:Nat)(vs:List V),K.lookup c=some o/\o.cls=.type "tuple"/\o.data=.seq its n/\its.size<=sizeLine/\Vals vs its.toList/\∀G,Reps K G vs (ls.map .str)
def CW{x:Str}{c:Addr}{ls:List (List Nat)}(hg:Gl X x)(hm:X.mg x=some (.ref c))(hk:KTup X.K c ls)(hd:(x==("__debug__":Str))=false:=by decide):PF X (.Name x pos) (λ_=>.ok (.tup (ls.map .str))):=by obtain⟨o,its,n,vs,h1,h2,h3,h4,h5,h6⟩:=hk.ex;intro pins s σ H Q I q;obtain⟨G,ρ,st,q⟩:=q;exact jy (v:=.ref c) hg hm rfl hd pins s σ H Q I (q _ G H (.refl st.sub) (.tup (.inr ⟨o,its,n,h1,h2,h3,h4,h5⟩) (h6 G)))
noncomputable def OZ(K:PySem.W.Frag):R2:=λx y H Q=>∃(G:Hp)(dx:D)(ls:List (List Nat)),Same G H/\Rep K G x dx/\Rep K G y (.tup (ls.map .str))/\(∀l∈ls,(eqD 40 (.str l) dx).isSome=true)/\Q (.bl (ls.any (CQ dx))) H
def eV(dx:D):Value->Bool
 |.str z _=>CQ dx z.cps.toList
 |_=>false
theorem yO{K:PySem.W.Frag}{G:Hp}(dx:D):∀{ls:List (List Nat)}{vs:List V}{its:List Value},Reps K G vs (ls.map .str)->Vals vs its->its.any (eV dx)=ls.any (CQ dx)/\∀u∈its,∃z t l,u=.str z t/\l∈ls/\z.cps.toList=l/\Rep K G (.str z) (.str l)
 | [],_,_,.nil,.nil=>⟨rfl,λ_ h=>by cases h⟩
 |l::ls,_,_,.cons r t,.cons q w=>by
  obtain⟨h1,h2⟩:=yO dx (ls:=ls) t w;obtain⟨z,rfl,ez,hz⟩:=r.str_inv;obtain⟨tk,rfl⟩:=q;refine⟨?_,λu hu=>?_⟩;·rw[List.any_cons,List.any_cons,h1];show(CQ dx z.cps.toList || _)=_;rw[ez]
  ·rcases y9.1 hu with rfl|hu;·exact⟨z,tk,l,rfl,uS ..,ez,r⟩
   ·obtain⟨z',t',l',e1,e2,e3,e4⟩:=h2 u hu;exact⟨z',t',l',e1,v9 _ e2,e3,e4⟩
def LQ(hu:X.A.units+64<cLine):OpR X (compareOp .In) (OZ X.K):=by
 intro pins s σ H x y v u Q I rx ry h;obtain⟨G,dx,ls,sub,r1,r2,he,q⟩:=h;obtain⟨c,its,vs,rfl,p,w,r⟩:=mL I sub r2 ry;obtain⟨h1,h2⟩:=yO dx r w;refine SeqAt.in_tupleAt (eV dx) p (λz hz=>?_) ?_
 ·obtain⟨z',t',l,rfl,m,ez,rr⟩:=h2 z (List.mem_toArray.1 hz);have e1:eqD 40 (.str l) dx=some (CQ dx l):=by
   have:=he l m;unfold CQ;cases q2:eqD 40 (.str l) dx with
   |none=>rw[q2]at this;cases this
   |some k=>rfl
  have e2:eV dx (.str z' t')=CQ dx l:=by show CQ dx z'.cps.toList=_;rw[ez]
  rw[e2];exact(xR I sub 40 X.A.in1 (.str l) dx _ (.str z') x (.str z' t') v (by show X.A.units+1+40<cLine;omega) e1 rr r1 ⟨t',rfl⟩ rx).eq
 ·have e:(List.toArray its).any (eV dx)=ls.any (CQ dx):=by rw[<- h1];simp
  rw[e];exact⟨.bl _,H,I,rfl,q⟩
def Mo(K:PySem.W.Frag):ROk K (OZ K) inTF:=by
 intro G H x y dx dy d Q s rx ry e q;unfold inTF at e;split at e
 ·split at e
  ·rename_i ls hs;split at e;·rename_i hl;cases e;have:=uK hs;subst this;exact⟨G,_,ls,s,rx,ry,p8.1 hl,q _ G H (.refl s) (.bl _)⟩
   ·cases e
  ·cases e
 ·cases e
def JI(hu:X.A.units+64<cLine)(ha:PF X a ga)(hb:PF X b gb)(hm:behindInMarks .In b=false:=by rfl):PF X (.Compare a [.In] [b] pos) (g2 inTF ga gb):=pF (LQ hu) (Mo _) ha hb hm
end
def qk(n:Nat):List Nat:=(Nat.toDigits 10 n).map Char.toNat
noncomputable def lf:List D->Option D
 | [.int i]=>if 0<=i/\i<10000000000 then some (.str (qk i.toNat))else none
 |_=>none
def ou{i:Int}(h0:0<=i)(h1:i<10000000000):i.natAbs.log2<1920:=by
 by_cases h:i.natAbs=0;·rw[h];decide
 ·refine(Nat.log2_lt h).2 (v8 (show i.natAbs<2 ^ 34 by omega) (Nat.pow_le_pow_right (by decide) (by decide)))
def ub{i:Int}(h0:0<=i):(Str.ofString (toString i)).cps.toList=qk i.toNat:=by obtain⟨m,rfl⟩:=Z8 h0;exact PySem.W.KIN.signs_num m
def Cy{i:Int}(h0:0<=i)(h1:i<10000000000):(qk i.toNat).length<=sizeLine:=by rw[<- ub h0,Str.len_list];exact int_text_fits (ou h0 h1)
noncomputable def FO:List V->Hp->VK->Prop:=λxs H Q=>∃i:Int,xs=[.int i]/\0<=i/\i<10000000000/\Q (.str (Str.ofString (toString i))) H
section
variable{a b c e e1 e2 e3 e4 e5:Expr}{ga gc g1 g2' g3' g4 g5:Ev->R D}{pos:Pos}
def zz:ky X (.type "str") FO:=by intro pins s σ H xs us Q I r ⟨i,ex,h0,h1,q⟩;subst ex;obtain⟨u,rfl,r1⟩:=r.one;obtain⟨t,rfl⟩:=r1;exact PySem.P.str_of_int (ou h0 h1) ⟨.str _,H,I.tok _,⟨_,rfl⟩,q⟩
def Fj(K:PySem.W.Frag):Hr K FO lf:=by
 intro G H xs ds d Q s r e q;unfold lf at e;split at e
 ·split at e;·rename_i hc;cases e;obtain⟨v,rfl,r1⟩:=r.one;obtain rfl:=r1.int_inv;exact⟨_,rfl,hc.1,hc.2,q _ G H (.refl s) (.strL (ub hc.1) (Cy hc.1 hc.2))⟩
  ·cases e
 ·cases e
def oQ(hg:Gl X "str")(hm:X.mg "str"=none)(ha:PFA X [e] gl)(he:starEach [e] X.env=(false,eval e X.env)::starEach [] X.env:=by rfl):
  PF X (.Call (.Name "str" p) [e] [] pos) (gOf lf gl):=uJ zz (Fj _) hg hm PyProof.Rows.Boot.«str» ha (by decide) (by decide) he rfl
noncomputable def wA:D->R D
 |.int i=>if 0<=i/\i<10000000000 then .ok (.str (qk i.toNat))else .no
 |.str x=>.ok (.str x)
 |_=>.no
def pR(h:PF X e ga):PF X (.FormattedValue e (-1) none pos) (aB wA ga):=by
 intro pins s σ H Q I q;obtain⟨G,ρ,st,q⟩:=q;refine FormattedValue_plain (thn (h pins s σ H (λv H1=>∃G1 d,Up G H G1 H1/\Rep X.K G1 v d/\StE X.K G1 H1 σ ρ/\(wA d).post (Fin G1 H1 (Rep X.K) Q) (Exx X σ G1 H1)) I ?_) λu s1 ⟨v,H1,I1,r1,q1⟩=>?_);·exact tG.intro st q λd v G1 H1 u1 st1 r1 h1=>⟨G1,d,u1,r1,st1,h1⟩
 ·obtain⟨G1,d,u1,rr,st1,h1⟩:=q1;unfold wA at h1;split at h1
  ·split at h1;·rename_i hc;obtain rfl:=rr.int_inv;obtain⟨t,rfl⟩:=r1;exact wpAny_formatField_int (ou hc.1 hc.2) ⟨.str _,H1,I1.tok _,⟨_,rfl⟩,h1 _ G1 H1 (.refl st1.sub) (.strL (ub hc.1) (Cy hc.1 hc.2))⟩
   ·exact h1.elim
  ·obtain⟨y,rfl,ey,hy⟩:=rr.str_inv;obtain⟨t,rfl⟩:=r1;exact formatField_str (λt' tk=>⟨.str _,H1,I1.tok _,⟨_,rfl⟩,h1 _ G1 H1 (.refl st1.sub) rr⟩) hy
  ·exact h1.elim
noncomputable def oa:List (Ev->R D)->List Nat->Ev->R D
 | [],out=>λ_=>.ok (.str out)
 |g::gs,out=>λρ=>g ρ>>=λd=>match d with
  |.str x=>if (out++x).length<=sizeLine then oa gs (out++x) ρ else .no
  |_=>.no
def vU(gs:List (Ev->R D)):Ev->R D:=oa gs []
def uH{out:Str}{Q:VK}(I:Inv X pins σ H s)(st:StE X.K G H σ ρ)(hz:out.length<=sizeLine)(h:(oa [] out.cps.toList ρ).post (Fin G H (Rep X.K) Q) (Exx X σ G H)):wpAny (model X.prog X.w) X.A (joinParts out []) (EP X pins σ Q) X.xe s:=
 joinParts_nil ⟨.str _,H,I.tok _,⟨_,rfl⟩,h _ G H (.refl st.sub) (.str out hz)⟩ hz
def eN{out:Str}{Q:VK}{fW:List (Sem Value)}(he:PF X e ga)(I:Inv X pins σ H s)(st:StE X.K G H σ ρ)(h:(oa (ga::gs) out.cps.toList ρ).post (Fin G H (Rep X.K) Q) (Exx X σ G H))(k:∀(out':Str)(s1:Shared)(H1 G1:Hp),Inv X pins σ H1 s1->StE X.K G1 H1 σ ρ->out'.length<=sizeLine->(oa gs out'.cps.toList ρ).post (Fin G1 H1 (Rep X.K) Q) (Exx X σ G1 H1)->wpAny (model X.prog X.w) X.A (joinParts out' fW) (EP X pins σ Q) X.xe s1):
  wpAny (model X.prog X.w) X.A (joinParts out (eval e X.env::fW)) (EP X pins σ Q) X.xe s:=by
 refine joinParts_cons (thn (he pins s σ H (λv H1=>∃G1 d,StE X.K G1 H1 σ ρ/\Rep X.K G1 v d/\(match d with
  |.str x=>if (out.cps.toList++x).length<=sizeLine then oa gs (out.cps.toList++x) ρ else .no
  |_=>.no:R D).post (Fin G1 H1 (Rep X.K) Q) (Exx X σ G1 H1)) I ?_) λu s1 ⟨v,H1,I1,r1,q1⟩=>?_);·exact tG.intro st h λd v G1 H1 u1 st1 r1 h1=>⟨G1,d,st1,r1,h1⟩
 ·obtain⟨G1,d,st1,rr,h1⟩:=q1;split at h1
  ·split at h1
   ·rename_i hc;obtain⟨y,rfl,ey,hy⟩:=rr.str_inv;obtain⟨t,rfl⟩:=r1;subst ey;have e1:(out++y).cps.toList=out.cps.toList++y.cps.toList:=Str.app_list ..;have e2:(out++y).length<=sizeLine:=by rw[<- Str.len_list,e1];exact hc
    exact⟨e2,k _ s1 H1 G1 I1 st1 e2 (by rw[e1];exact h1)⟩
   ·exact h1.elim
  ·exact h1.elim
def tm(h1:PF X e1 g1)(h2:PF X e2 g2')(h3:PF X e3 g3'):PF X (.JoinedStr [e1,e2,e3] pos) (vU [g1,g2',g3']):=by intro pins s σ H Q I q;obtain⟨G,ρ,st,q⟩:=q;refine JoinedStr_many ?_;show wpAny _ _ (joinParts Str.empty [eval e1 X.env,eval e2 X.env,eval e3 X.env]) _ _ _;refine eN h1 I st (out:=Str.empty) q λo1 s1 H1 G1 I1 st1 z1 q1=>eN h2 I1 st1 q1 λo2 s2 H2 G2 I2 st2 z2 q2=>eN h3 I2 st2 q2 λo3 s3 H3 G3 I3 st3 z3 q3=>uH I3 st3 z3 q3
def Ij(h1:PF X e1 g1)(h2:PF X e2 g2')(h3:PF X e3 g3')(h4:PF X e4 g4)(h5:PF X e5 g5):PF X (.JoinedStr [e1,e2,e3,e4,e5] pos) (vU [g1,g2',g3',g4,g5]):=by intro pins s σ H Q I q;obtain⟨G,ρ,st,q⟩:=q;refine JoinedStr_many ?_;show wpAny _ _ (joinParts Str.empty [eval e1 X.env,eval e2 X.env,eval e3 X.env,eval e4 X.env,eval e5 X.env]) _ _ _;refine eN h1 I st (out:=Str.empty) q λo1 s1 H1 G1 I1 st1 z1 q1=>eN h2 I1 st1 q1 λo2 s2 H2 G2 I2 st2 z2 q2=>eN h3 I2 st2 q2 λo3 s3 H3 G3 I3 st3 z3 q3=>eN h4 I3 st3 q3 λo4 s4 H4 G4 I4 st4 z4 q4=>eN h5 I4 st4 q4 λo5 s5 H5 G5 I5 st5 z5 q5=>uH I5 st5 z5 q5
def Ox(x:List Nat):Nat:=x.foldl (λa c=>a * 10+(c - 48)) 0
def Mx(x:List Nat):Bool:=x.all λc=>decide (48<=c) && decide (c<=57)
noncomputable def zH:List D->Option D
 | [.str x]=>if Mx (x.dropWhile (·==32))=true/\x.dropWhile (·==32)≠[]/\x.length<=640 then some (.int ((Ox (x.dropWhile (·==32)):Nat):Int))else none
 |_=>none
def Bl{x:Str}(hd:Mx (x.cps.toList.dropWhile (·==32))=true)(hn:x.cps.toList.dropWhile (·==32)≠[])(hl:x.length<=640):PySem.intText? x=some ((Ox (x.cps.toList.dropWhile (·==32)):Nat):Int):=by
 have hA:NumText.AllDigits (x.cps.toList.dropWhile (·==32)):=λc hc=>by have:=p8.1 hd c hc;simp only[p6,lT]at this;exact this
 have key:∀l:List Nat,NumText.AllDigits (l.dropWhile (·==32))->l.dropWhile (·==32)≠[]->(l.dropWhile NumText.blank=l.dropWhile (·==32))/\∀c∈l,c=32\/48<=c/\c<=57:=by
  intro l;induction l with
  |nil=>intro _ h;exact absurd rfl h
  |cons c l ih=>
   intro h1 h2;by_cases e:c=32
   ·subst e;have e1:(32::l).dropWhile (·==32)=l.dropWhile (·==32):=ZL (by decide);rw[e1]at h1 h2⊢;obtain⟨a,b⟩:=ih h1 h2;refine⟨?_,λd hd=>?_⟩;·rw[ZL (by decide)];exact a
    ·rcases y9.1 hd with rfl|hd;·exact .inl rfl
     ·exact b d hd
   ·have e1:(c::l).dropWhile (·==32)=c::l:=List.dropWhile_cons_of_neg (by simpa using e);rw[e1]at h1 h2⊢;exact⟨NumText.dropWhile_digits h1,λd hd=>.inr (h1 d hd)⟩
 obtain⟨k1,k2⟩:=key _ hA hn;have t1:numTextOf x=x.cps.toList:=if_pos (by
  rw[<- Array.all_toList];exact p8.2 λc hc=>by have:=k2 c hc;exact uY (by omega));have t2:numSeenOf x=x.cps.toList:=by
  show List.takeWhile _ (numTextOf x)=_;rw[t1];exact NumText.takeWhile_all λc hc=>by have:=k2 c hc;exact bne_iff_ne.2 (by omega)
 let y:Str:=⟨(x.cps.toList.dropWhile (·==32)).toArray⟩
 have ey:y.cps.toList=x.cps.toList.dropWhile (·==32):=Zj ..;have hy:y.length<=4300:=by rw[<- Str.len_list,ey];have:(x.cps.toList.dropWhile (·==32)).length<=x.cps.toList.length:=(List.dropWhile_suffix _).length_le;rw[Str.len_list]at this;omega
 have r:=intText_digits (x:=y) (by rw[ey];exact hA) (by rw[ey];exact hn) hy;obtain⟨u1,u2⟩:=numText_signs (x:=y) λc hc=>.inr (hA c (by rw[<- ey];exact hc));have b1:x.cps.toList.dropWhile NumText.blank=(x.cps.toList.dropWhile (·==32)).dropWhile NumText.blank:=by rw[k1,NumText.dropWhile_digits hA]
 unfold intText? at r⊢;rw[u1,u2,ey,if_pos (aT _)]at r;rw[t1,t2,if_pos (aT _)];unfold NumText.core at r⊢;rw[b1];exact r
noncomputable def KJ:List V->Hp->VK->Prop:=λxs H Q=>∃(y:Str)(n:Int),xs=[.str y]/\PySem.intText? y=some n/\y.length<=640/\Q (.int n) H
def Az:ky X (.type "int") KJ:=by intro pins s σ H xs us Q I r ⟨y,n,ex,h0,h1,q⟩;subst ex;obtain⟨u,rfl,r1⟩:=r.one;obtain⟨t,rfl⟩:=r1;exact PySem.W.KIN.call_text h0 h1 ⟨.int _,H,I.tok _,⟨_,rfl⟩,q⟩
def GK(K:PySem.W.Frag):Hr K KJ zH:=by
 intro G H xs ds d Q s r e q;unfold zH at e;split at e
 ·split at e;·rename_i hc;cases e;obtain⟨v,rfl,r1⟩:=r.one;obtain⟨y,rfl,ey,hy⟩:=r1.str_inv;subst ey;rw[Str.len_list]at hc;exact⟨y,_,rfl,Bl hc.1 hc.2.1 hc.2.2,hc.2.2,q _ G H (.refl s) (.int _)⟩
  ·cases e
 ·cases e
def AU(hg:Gl X "int")(hm:X.mg "int"=none)(ha:PFA X [e] gl)(he:starEach [e] X.env=(false,eval e X.env)::starEach [] X.env:=by rfl):
  PF X (.Call (.Name "int" p) [e] [] pos) (gOf zH gl):=uJ Az (GK _) hg hm PyProof.Rows.Boot.«int» ha (by decide) (by decide) he rfl
noncomputable def Iu:D->D->Option D
 |.int a,.int n=>if 0<=n/\n<=1000/\a.natAbs<2 ^ 64 then some (.int (a ^ n.toNat))else none
 |_,_=>none
noncomputable def OL:R2:=λx y H Q=>∃a n:Int,x=.int a/\y=.int n/\0<=n/\n<=1000/\a.natAbs<2 ^ 64/\Q (.int (a ^ n.toNat)) H
def HW:OpR X (binaryOp .Pow) OL:=by intro pins s σ H x y v u Q I rx ry ⟨a,n,ex,ey,h0,h1,h2,q⟩;subst ex ey;obtain⟨t,rfl⟩:=rx;obtain⟨t',rfl⟩:=ry;exact pow_int_small h0 (by omega) h2 ⟨.int _,H,I.tok _,⟨_,rfl⟩,q⟩
def Lw(K:PySem.W.Frag):ROk K OL Iu:=by
 intro G H x y dx dy d Q s rx ry e q;unfold Iu at e;split at e
 ·split at e;·rename_i hc;cases e;exact⟨_,_,rx.int_inv,ry.int_inv,hc.1,hc.2.1,hc.2.2,q _ G H (.refl s) (.int _)⟩
  ·cases e
 ·cases e
def yb(ha:PF X a ga)(hb:PF X b gb):PF X (.BinOp a .Pow b pos) (g2 Iu ga gb):=rO HW (Lw _) ha hb
end
noncomputable def fh(c:Nat):List Nat->List (List Nat)
 | []=>[[]]
 |d::r=>if d=c then []::fh c r else (match fh c r with
  |p::ps=>(d::p)::ps
  | []=>[[d]])
theorem qV{c:Nat}:∀{p:List Nat},c∉p->fh c p=[p]
 | [],_=>rfl
 |d::p,h=>by have h1 : ¬ d=c:=λz=>h (by rw[z];exact uS ..);have h2:=qV (c:=c) (p:=p) λz=>h (v9 _ z);rw[fh,if_neg h1,h2]
theorem rn{c:Nat}(r:List Nat):∀{p:List Nat},c∉p->fh c (p++c::r)=p::fh c r
 | [],_=>by rw[j6,fh,if_pos rfl]
 |d::p,h=>by have h1 : ¬ d=c:=λz=>h (by rw[z];exact uS ..);have h2:=rn r (c:=c) (p:=p) λz=>h (v9 _ z);rw[ZC,fh,if_neg h1,h2]
theorem pE{c:Nat}:∀{ps:List (List Nat)},ps≠[]->(∀p∈ps,c∉p)->fh c (qU [c] ps)=ps
 | [],h,_=>absurd rfl h
 | [p],_,h=>qV (h p (uS ..))
 |p::q::r,_,h=>by have ih:=pE (c:=c) (ps:=q::r) (by simp) λz hz=>h z (v9 _ hz);show fh c (p++[c]++qU [c] (q::r))=_;rw[j4];show fh c (p++c::qU [c] (q::r))=_;rw[rn _ (h p (uS ..)),ih]
def DV(x y:Str):Txt.split x y≠[]:=by
 unfold Txt.split;split;·simp
 ·split;·simp
  ·intro z;have:=t6 List.length z;rw[length_partsBetween]at this;simp at this
def mm(x:Str)(c:Nat):(Txt.split x ⟨#[c]⟩).map (λy=>y.cps.toList)=fh c x.cps.toList:=by have h1:=StrLaws.join_split x ⟨#[c]⟩;have h2:=mZ ⟨#[c]⟩ (Txt.split x ⟨#[c]⟩);have h3:Txt.join ⟨#[c]⟩ (Txt.split x ⟨#[c]⟩)=x:=(StrLaws.glued_eq_join _ _).trans h1;rw[h3]at h2;rw[h2];refine(pE (c:=c) (by simpa using DV x _) λp hp=>?_).symm;obtain⟨y,hy,rfl⟩:=o9.1 hp;exact StrLaws.split_free x c y hy
theorem rL(c:Nat):∀x:List Nat,(fh c x).length<=x.length+1
 | []=>by simp[fh]
 |d::r=>by
  have ih:=rL c r;unfold fh;split;·simp;omega
  ·split;·rename_i p ps e;rw[e]at ih;simp at ih⊢;omega
   ·simp
theorem vm(c:Nat):∀(x:List Nat),∀p∈fh c x,p.length<=x.length
 | [],p,h=>by simp[fh]at h;subst h;simp
 |d::r,p,h=>by
  have ih:=vm c r;unfold fh at h;split at h
  ·rcases y9.1 h with rfl|h;·simp
   ·have:=ih p h;simp;omega
  ·split at h
   ·rename_i q ps e;rw[e]at ih;rcases y9.1 h with rfl|h;·have:=ih q (uS ..);simp;omega
    ·have:=ih p (v9 _ h);simp;omega
   ·simp at h;subst h;simp
noncomputable def qY:D->List D->Option D
 |.str x,[.str [c]]=>if x.length<=10000 then some (.lst false ((fh c x).map .str))else none
 |_,_=>none
section
variable{a b c e:Expr}{ga:Ev->R D}{pos:Pos}
def CI{prog:Program}{w:World}{A:Around}{x:Str}{t u:Tok}{Q:Value->Shared->Prop}(hy:(y.length==0)=false)(hsz:x.length<=sizeLine)(hsz2:(Builtin.Str.partsBetween x (Builtin.Str.occurrences x y 0 x.length (x.length+1)) y.length).length<=sizeLine)(hq:∀(l:List (Str×Tok))(k:Nat),l.map (·.1)=Txt.split x y->Q (.ref s.heap.objs.size) { s with toks:=k,heap:=s.heap.push { cls:=.type "list",data:=.seq (strValues l).toArray } }):
  wpAny (model prog w) A (call (.builtin "str.split") [.str x t,.str y u]) Q E s:=by
 have T:=j1 s x t;by_cases g1:(decide (x.length<y.length) || decide (Builtin.Str.strKind x<Builtin.Str.strKind y))=true;·exact sZ ZD T ZE (ZF _ _) (meets_str_split_cannot_occur x y t u g1) (hq [(x,t)] s.toks (if_pos g1).symm)
 ·have g1':=eq_false_of_ne_true g1;by_cases g2:(Builtin.Str.occurrences x y 0 x.length (x.length+1)).isEmpty=true;·exact sZ ZD T ZE (ZF _ _) (meets_str_split_not_found x y t u g1' hy g2) (hq [(x,t)] s.toks ((if_neg g1).trans (if_pos g2)).symm)
  ·have g2':=eq_false_of_ne_true g2;have key:=hq (PySem.numbered s.toks (Builtin.Str.partsBetween x (Builtin.Str.occurrences x y 0 x.length (x.length+1)) y.length)) (s.toks+(Builtin.Str.partsBetween x (Builtin.Str.occurrences x y 0 x.length (x.length+1)) y.length).length) ((numbered_texts _ _).trans ((if_neg g1).trans (if_neg g2)).symm);rw[<- strsFrom_eq]at key;exact sZ ZD T ZE (ZF _ _) (meets_str_split_sep x y t u g1' hy g2' hsz hsz2) key
noncomputable def Fr:V->List V->Hp->VK->Prop:=λx vs H Q=>∃(y:Str)(c:Nat),x=.str y/\vs=[.str ⟨#[c]⟩]/\y.length<=10000/\∀l,H l=none->Q (.ref l) (upd H l (.lst ((Txt.split y ⟨#[c]⟩).map V.str)))
theorem Bk:∀l:List (Str×Tok),Vals ((l.map (·.1)).map V.str) (strValues l)
 | []=>.nil
 | (y,t)::l=>.cons ⟨t,rfl⟩ (Bk l)
def D5:MtR X "str.split" Fr:=by
 intro pins s σ H x xs v us Q I rx rv ⟨y,c,ex,exs,hz,q⟩;subst ex exs;obtain⟨t,rfl⟩:=rx;obtain⟨u,rfl,r1⟩:=rv.one;obtain⟨t',rfl⟩:=r1;have big:20000<=sizeLine:=by decide
 have hp:(Builtin.Str.partsBetween y (Builtin.Str.occurrences y ⟨#[c]⟩ 0 y.length (y.length+1)) (⟨#[c]⟩:Str).length).length<=sizeLine:=by rw[length_partsBetween];have:=StrLaws.occ_length_le y ⟨#[c]⟩ 0 y.length (y.length+1);omega
 refine CI rfl (by omega) hp λl k hl=>?_;have hlen:(Txt.split y ⟨#[c]⟩).length<=sizeLine:=by have e:=t6 List.length (mm y c);rw[uc]at e;have:=rL c y.cps.toList;rw[Str.len_list]at this;omega
 refine⟨.ref s.heap.objs.size,_,I.laid (t':=k) (λb o q=>zT _ q) (zE _) (show ObjOk X.prog X.w _ _ _ (.lst ((Txt.split y ⟨#[c]⟩).map V.str)) from⟨by rw[uc];exact hlen,strValues l,_,by rw[<- hl];exact Bk l,xG _ rfl⟩),rfl,q _ (I.hok.fresh (zE _))⟩
theorem vM{K:PySem.W.Frag}{G:Hp}:∀ys:List Str,(∀y∈ys,y.length<=sizeLine)->Reps K G (ys.map V.str) ((ys.map λy=>y.cps.toList).map .str)
 | [],_=>.nil
 |y::ys,h=>.cons (.str y (h y (uS ..))) (vM ys λz hz=>h z (v9 _ hz))
def Ff(K:PySem.W.Frag):BA K "str" Fr qY:=by
 intro G H x xs dx ds d Q s rx rs e q;unfold qY at e;split at e
 ·split at e;·rename_i x0 c hc;cases e;obtain⟨v,rfl,r1⟩:=rs.one;obtain⟨i,rfl,ei,hi⟩:=rx.str_inv;obtain⟨j,rfl,ej,hj⟩:=r1.str_inv;subst ei;have:j=⟨#[c]⟩:=(Str.of_list ej).symm;subst this;rw[Str.len_list]at hc;refine⟨i,c,rfl,rfl,hc,λl hl=>q _ _ _ (.new s hl) (.lst aV ?_)⟩;rw[<- mm];refine Reps.mono (.into (s.free hl)) (vM _ λy hy=>?_);have:=vm c i.cps.toList y.cps.toList (by rw[<- mm];exact o9.2 ⟨y,hy,rfl⟩);rw[Str.len_list,Str.len_list]at this;exact xS this hi
  ·cases e
 ·cases e
def xM{o:Expr}{ap cp:Pos}(ho:PF X o ga)(ha:PFA X [e] gl)(hbase:attributeBase o "split" X.env (eval o X.env)=eval o X.env:=by rfl)(hfew:((backTo cp (starEach [e] X.env)).all (λx=>!x.1) && (backToKw cp (keywordEach [] X.env)).all (λx=>x.1.isSome)
 && decide ([e].length+([]:List Keyword).length+(if ([]:List Keyword).isEmpty then 0 else 1)<30))=true:=by rfl)(hline:(ap.endLine==cp.line)=true:=by rfl)(hs:starEach [e] X.env=(false,eval e X.env)::starEach [] X.env:=by rfl):
  PF X (.Call (.Attribute o "split" ap) [e] [] cp) (fk "str" qY ga gl):=iA oR PySem.F.slot_str_split PySem.F.type_str_split D5 (Ff _) ho ha hbase hfew hline hs rfl
end
noncomputable def NB(j i:Nat)(gl:Ev->R (List D)):Ev->O:=λρ=>(fA (gl (frz j ρ))).out ρ λds=>if ds.all (fl 10)=true then .nx (ρ.set i (some (.own ds)))else .no
def itN(b:Bool):String:=if b then "tuple_iterator" else "list_iterator"
def sqN(b:Bool):String:=if b then "tuple" else "list"
noncomputable def SIt(b:Bool)(h:Heap)(it a:Addr)(k:Nat):Prop:=∃o,h.get? it=some o/\o.cls=.type (itN b)/\o.data=.fields #[.ref a,.int k 0]
noncomputable def SSq(b:Bool)(h:Heap)(a:Addr)(xs:Array Value):Prop:=∃o,h.get? a=some o/\o.cls=.type (sqN b)/\∃n,o.data=.seq xs n
def SIt.ext{b:Bool}{c:Addr}(x:SIt b h it a k)(hs:Heap.ExtBut c h h')(n:it≠c):SIt b h' it a k:=let⟨o,ho,r⟩:=x;⟨o,hs it o n ho,r⟩
def SSq.ext{b:Bool}{c:Addr}{xs:Array Value}(x:SSq b h a xs)(hs:Heap.ExtBut c h h')(n:a≠c):SSq b h' a xs:=let⟨o,ho,r⟩:=x;⟨o,hs a o n ho,r⟩
def SIt.at{b:Bool}(x:SIt b h it a k)(f:∀o,h.get? it=some o->h'.get? it=some o):SIt b h' it a k:=let⟨o,ho,r⟩:=x;⟨o,f o ho,r⟩
section
variable{prog:Program}{w:World}{A:Around}
def pO{b:Bool}{xs:Array Value}{x:Value}{Q:Value->Shared->Prop}(hit:SIt b s.heap it a k)(hs:SSq b s.heap a xs)(hx:xs[k]?=some x)(hQ:∀h',SIt b h' it a (k+1)->Heap.SameBut it s.heap h'->Q x { s with heap:=h' }):wpAny (model prog w) A (Builtin.SmallTypes.nextOf (.ref it)) Q E s:=by
 cases b with
 |false=>exact wpAny_nextOf_list_item (l:=a) hit hs hx hQ
 |true=>
  obtain⟨o,ho,hc,hd⟩:=id hit;obtain⟨ol,hol,c2,nl,hdl⟩:=hs;have hT:s.TypeIs (.ref it) "tuple_iterator":=⟨o,ho,hc⟩
  unfold Builtin.SmallTypes.nextOf;refine z9 (qQ (name:=Str.ofString "__next__") hT n0 (p0 n0 hT Z4 ?_ (Z5 _)));show wpAny _ _ (field (.ref it) 0>>=_) _ _ s;refine z9 (v4 ho hd (x:=.ref a) rfl ?_);show wpAny _ _ (if (Value.ref a==Value.none)=true then _ else _) _ _ s;rw[if_neg (show ¬ ((Value.ref a==Value.none)=true) from wT)];show wpAny _ _ (field (.ref it) 1>>=_) _ _ s;refine z9 (v4 ho hd (x:=.int k 0) rfl ?_);show wpAny _ _ (seqItems? (.ref a)>>=_) _ _ s;refine z9 (qr hol hdl ?_);simp only[sR,hx];refine z9 (i6 ho hd (by simp) (zh ⟨x,rfl,zh (hQ _ ?_ (i7 ..))⟩));exact⟨_,j2 _ ho (Zx (lJ hd _)),(Obj.cls_mapFields ..).trans hc,by rw[lJ hd];simp[rawInt]⟩
def CT{b:Bool}{xs:Array Value}{Q:Value->Shared->Prop}(hh:A.handled=none)(hit:SIt b s.heap it a k)(hs:SSq b s.heap a xs)(hx:xs[k]?=none)(hE:∀h' e,Heap.ExtBut it s.heap h'->(∃o,h'.get? e=some o/\o.cls=.type "StopIteration")->E (.ref e) { s with heap:=h' }):wpAny (model prog w) A (Builtin.SmallTypes.nextOf (.ref it)) Q E s:=by
 cases b with
 |false=>exact Zy hh (l:=a) hit hs hx hE
 |true=>
  obtain⟨o,ho,hc,hd⟩:=id hit;obtain⟨ol,hol,c2,nl,hdl⟩:=hs;have hT:s.TypeIs (.ref it) "tuple_iterator":=⟨o,ho,hc⟩
  unfold Builtin.SmallTypes.nextOf;refine z9 (qQ (name:=Str.ofString "__next__") hT n0 (p0 n0 hT Z4 ?_ (Z5 _)));show wpAny _ _ (field (.ref it) 0>>=_) _ _ s;refine z9 (v4 ho hd (x:=.ref a) rfl ?_);show wpAny _ _ (if (Value.ref a==Value.none)=true then _ else _) _ _ s;rw[if_neg (show ¬ ((Value.ref a==Value.none)=true) from wT)];show wpAny _ _ (field (.ref it) 1>>=_) _ _ s;refine z9 (v4 ho hd (x:=.int k 0) rfl ?_);show wpAny _ _ (seqItems? (.ref a)>>=_) _ _ s;refine z9 (qr hol hdl ?_);simp only[sR,hx];refine z9 (n6 (z9 (i6 ho hd (by simp) ?_)));show wpAny _ _ (newExc (.type "StopIteration") []>>=_) _ _ _;refine z9 ?_;simp only[newExc,newTuple];refine z9 (t9 ?_ (by size_fits));refine z9 (m:=firstArgMember _ _) (bY (a:=Value.none) (by first|rfl|(simp only[firstArgMember];rfl)) ?_);refine t9 ?_ (by size_fits);simp only[raiseNew];refine z9 (wpAny_handled ?_)
  first|rw[show A.in1.handled=none from hh]|(rw[hh];skip)
  refine z9 (zh (wpAny_throw ?_));exact hE _ _ (((i7 ..).extBut.push _).push _) ⟨_,xG _ rfl,rfl⟩
def tU{b:Bool}{xs:Array Value}{Q:Value->Shared->Prop}(hs:SSq b s.heap a xs)(hQ:Q (.ref s.heap.objs.size) { s with heap:=s.heap.push { cls:=.type (itN b),data:=.fields #[.ref a,.int 0 0] } }):
  wpAny (model prog w) A (pyIter (.ref a)) Q E s:=by
 cases b with
 |false=>exact d6 (l:=a) hs hQ
 |true=>exact d7 (t:=a) hs hQ
abbrev vL(h:Heap)(T:Addr)(a b c:Value):Prop:=h.get? T=some { cls:=.type "tuple",data:=.seq #[a,b,c] }
def Ba{T:Addr}{a b c x:Value}{Q:Unit->Shared->Prop}(hT:vL s.heap T a b c)(h:∀h',h'.get? T=some { cls:=.type "tuple",data:=.seq ((#[a,b,c]:Array Value).setIfInBounds k x) }->Heap.SameBut T s.heap h'->Q () { s with heap:=h' }):wpAny (model prog w) A (updateSeq T (·.setIfInBounds k x)) Q E s:=by
 refine wpAny_updateSeq hT rfl (h _ ?_ (i7 ..));rw[j2 _ hT rfl];simp[Obj.mapSeq]
structure Z3(z TI TO i1 i2 i3 l1 l2 l3:Addr):Prop where
 nd:[z,TI,TO,i1,i2,i3].Nodup
 ap:∀l∈[l1,l2,l3],l∉[z,TO,i1,i2,i3]
theorem B7{z TI TO i1 i2 i3 l1 l2 l3:Addr}{b1 b2 b3:Bool}{xs ys zs:Array Value}{x y u a b c:Value}{Q:Option Value->Shared->Prop}(D:Z3 z TI TO i1 i2 i3 l1 l2 l3)(hz:IsZip s.heap z TI TO .none)(hTI:vL s.heap TI (.ref i1) (.ref i2) (.ref i3))(hTO:vL s.heap TO a b c)(h1:SIt b1 s.heap i1 l1 k)(h2:SIt b2 s.heap i2 l2 k)(h3:SIt b3 s.heap i3 l3 k)(hl1:SSq b1 s.heap l1 xs)(hl2:SSq b2 s.heap l2 ys)(hl3:SSq b3 s.heap l3 zs)(hx:xs[k]?=some x)(hy:ys[k]?=some y)(hu:zs[k]?=some u)(hQ:∀h',IsZip h' z TI TO (rawInt s.heap.objs.size)->vL h' TO x y u->SIt b1 h' i1 l1 (k+1)->SIt b2 h' i2 l2 (k+1)->SIt b3 h' i3 l3 (k+1)->vL h' s.heap.objs.size x y u->h'.objs.size=s.heap.objs.size+1->
 (∀e o,e∉[z,TO,i1,i2,i3]->s.heap.get? e=some o->h'.get? e=some o)->Q (some (.ref s.heap.objs.size)) { s with heap:=h' }):wpAny (model prog w) A (pyNext (.ref z)) Q E s:=by
 have nd:=D.nd;have p1:=D.ap l1 (by simp);have p2:=D.ap l2 (by simp);have p3:=D.ap l3 (by simp);simp only[qo,y9,w8,w9,not_or]at nd p1 p2 p3;obtain⟨⟨zTI,zTO,z1,z2,z3⟩,⟨TITO,TI1,TI2,TI3⟩,⟨TO1,TO2,TO3⟩,⟨n12,n13⟩,n23,_⟩:=nd;obtain⟨p1z,p1T,p11,p12,p13⟩:=p1;obtain⟨p2z,p2T,p21,p22,p23⟩:=p2;obtain⟨p3z,p3T,p31,p32,p33⟩:=p3;have hT:s.TypeIs (.ref z) "zip":=⟨_,hz,rfl⟩
 unfold pyNext;refine z9 (lp (qQ (name:=Str.ofString "__next__") hT Z9 (p0 Z9 hT F.entry_zip_next ?_ (F.args_zip_next_1 _))));show wpAny _ _ (field (.ref z) 2>>=_) _ _ _;refine z9 (v4 hz rfl (x:=.bool false) rfl ?_);show wpAny _ _ (field (.ref z) 3>>=_) _ _ _;refine z9 (v4 hz rfl (x:=.ref TI) rfl ?_);refine z9 (qr hTI rfl ?_);show wpAny _ _ (Builtin.SmallTypes.ownedTupleIsFree (.ref z)>>=_) _ _ _;refine z9 ?_;unfold Builtin.SmallTypes.ownedTupleIsFree;refine wpAny_bind (wpAny_field hz rfl (x:=.none) rfl (wpAny_pure ?_));simp only[wO];refine z9 (n6 ?_);refine z9 (v4 hz rfl (x:=.ref TO) rfl ?_);refine z9 (i8 hz (by simp) λg1 hz1 s1=>?_);replace hz1:IsZip g1 z TI TO .ellipsis:=hz1;refine z9 ?_;simp only[List.zipIdx_cons,List.zipIdx_nil,Zm,List.forIn_nil];refine z9 (z9 (lE ?_));show wpAny _ _ (Builtin.SmallTypes.nextOf (.ref i1)>>=_) _ _ _;refine z9 (pO (h1.ext s1.extBut (x9 z1)) (hl1.ext s1.extBut p1z) hx λg2 q1 s2=>zh ?_);have T2:vL g2 TO a b c:=s2.extBut _ _ TO1 (s1.extBut _ _ (x9 zTO) hTO);refine z9 (qr T2 rfl ?_);refine z9 (Ba T2 λg3 T3 s3=>?_);replace T3:vL g3 TO x b c:=T3;refine z9 (wpAny_letGo (zh ?_));refine z9 (z9 (lE ?_));show wpAny _ _ (Builtin.SmallTypes.nextOf (.ref i2)>>=_) _ _ _;refine z9 (pO (((h2.ext s1.extBut (x9 z2)).ext s2.extBut (x9 n12)).ext s3.extBut (x9 TO2)) (((hl2.ext s1.extBut p2z).ext s2.extBut p21).ext s3.extBut p2T) hy λg4 q2 s4=>zh ?_);have T4:vL g4 TO x b c:=s4.extBut _ _ TO2 T3;refine z9 (qr T4 rfl ?_);refine z9 (Ba T4 λg5 T5 s5=>?_);replace T5:vL g5 TO x y c:=T5;refine z9 (wpAny_letGo (zh ?_));refine z9 (z9 (lE ?_));show wpAny _ _ (Builtin.SmallTypes.nextOf (.ref i3)>>=_) _ _ _;refine z9 (pO (((((h3.ext s1.extBut (x9 z3)).ext s2.extBut (x9 n13)).ext s3.extBut (x9 TO3)).ext s4.extBut (x9 n23)).ext s5.extBut (x9 TO3)) (((((hl3.ext s1.extBut p3z).ext s2.extBut p31).ext s3.extBut p3T).ext s4.extBut p32).ext s5.extBut p3T) hu λg6 q3 s6=>zh ?_);have T6:vL g6 TO x y c:=s6.extBut _ _ TO3 T5;refine z9 (qr T6 rfl ?_);refine z9 (Ba T6 λg7 T7 s7=>?_);replace T7:vL g7 TO x y u:=T7;refine z9 (wpAny_letGo (zh (zh ?_)));refine z9 (qr T7 rfl ?_);refine z9 (wpAny_newTuple ?_);have hsz:g7.objs.size=s.heap.objs.size:=by rw[s7.1,s6.1,s5.1,s4.1,s3.1,s2.1,s1.1]
 have hz7:IsZip g7 z TI TO .ellipsis:=s7.extBut _ _ zTO (s6.extBut _ _ z3 (s5.extBut _ _ zTO (s4.extBut _ _ z2 (s3.extBut _ _ zTO (s2.extBut _ _ z1 hz1)))));have hk:∀e o,e∉[z,TO,i1,i2,i3]->s.heap.get? e=some o->g7.get? e=some o:=λe o he q=>by simp only[y9,w8,w9,not_or]at he;obtain⟨e1,e2,e3,e4,e5⟩:=he;exact s7.extBut _ _ e2 (s6.extBut _ _ e5 (s5.extBut _ _ e2 (s4.extBut _ _ e4 (s3.extBut _ _ e2 (s2.extBut _ _ e3 (s1.extBut _ _ e1 q))))))
 have r1:SIt b1 g7 i1 l1 (k+1):=((((q1.ext s3.extBut (x9 TO1)).ext s4.extBut n12).ext s5.extBut (x9 TO1)).ext s6.extBut n13).ext s7.extBut (x9 TO1);have r2:SIt b2 g7 i2 l2 (k+1):=((q2.ext s5.extBut (x9 TO2)).ext s6.extBut n23).ext s7.extBut (x9 TO2);have r3:SIt b3 g7 i3 l3 (k+1):=q3.ext s7.extBut (x9 TO3);have hzlt:z<g7.objs.size:=zy hz7;show wpAny _ _ (Builtin.SmallTypes.ownedTupleHandOut (.ref z) (.ref g7.objs.size)>>=_) _ _ _;refine z9 ?_;unfold Builtin.SmallTypes.ownedTupleHandOut;have hz8:IsZip (g7.push { cls:=.type "tuple",data:=.seq #[x,y,u] }) z TI TO .ellipsis:=zT _ hz7;refine z9 (i8 hz8 (by simp) λg9 hz9 s9=>?_);replace hz9:IsZip g9 z TI TO (rawInt g7.objs.size):=hz9;refine i8 hz9 (by simp) λg10 hz10 s10=>?_;replace hz10:IsZip g10 z TI TO (rawInt g7.objs.size):=hz10;have up:∀e o,e≠z->g7.get? e=some o->g10.get? e=some o:=λe o e1 q=>s10.extBut _ _ e1 (s9.extBut _ _ e1 (zT _ q));have hT10:vL g10 g7.objs.size x y u:=s10.extBut _ _ (qM hzlt) (s9.extBut _ _ (qM hzlt) (xG _ rfl));have hsz10:g10.objs.size=g7.objs.size+1:=by rw[s10.1,s9.1,vg]
 rw[hsz]at hz10 hT10 hsz10;refine zh ⟨_,rfl,?_⟩;refine zh ?_;show Q (some (.ref g7.objs.size)) _;rw[hsz];exact hQ g10 hz10 (up _ _ (x9 zTO) T7) (r1.at λo q=>up _ o (x9 z1) q) (r2.at λo q=>up _ o (x9 z2) q) (r3.at λo q=>up _ o (x9 z3) q) hT10 hsz10 λe o he q=>up e o (λz'=>he (by rw[z'];simp)) (hk e o he q)
theorem Eg{z TI TO i1 i2 i3 l1 l2 l3:Addr}{b1:Bool}{xs:Array Value}{Q:Option Value->Shared->Prop}(hh:A.handled=none)(D:Z3 z TI TO i1 i2 i3 l1 l2 l3)(hz:IsZip s.heap z TI TO .none)(hTI:vL s.heap TI (.ref i1) (.ref i2) (.ref i3))(h1:SIt b1 s.heap i1 l1 k)(hl1:SSq b1 s.heap l1 xs)(hx:xs[k]?=none)(hQ:∀h',(∀e o,e∉[z,TO,i1,i2,i3]->s.heap.get? e=some o->h'.get? e=some o)->Q none { s with heap:=h' }):wpAny (model prog w) A (pyNext (.ref z)) Q E s:=by
 have nd:=D.nd;have p1:=D.ap l1 (by simp);simp only[qo,y9,w8,w9,not_or]at nd p1;obtain⟨⟨zTI,zTO,z1,z2,z3⟩,⟨TITO,TI1,TI2,TI3⟩,⟨TO1,TO2,TO3⟩,⟨n12,n13⟩,n23,_⟩:=nd;obtain⟨p1z,p1T,p11,p12,p13⟩:=p1;have hT:s.TypeIs (.ref z) "zip":=⟨_,hz,rfl⟩
 unfold pyNext;refine z9 (lp (qQ (name:=Str.ofString "__next__") hT Z9 (p0 Z9 hT F.entry_zip_next ?_ (F.args_zip_next_1 _))));show wpAny _ _ (field (.ref z) 2>>=_) _ _ _;refine z9 (v4 hz rfl (x:=.bool false) rfl ?_);show wpAny _ _ (field (.ref z) 3>>=_) _ _ _;refine z9 (v4 hz rfl (x:=.ref TI) rfl ?_);refine z9 (qr hTI rfl ?_);show wpAny _ _ (Builtin.SmallTypes.ownedTupleIsFree (.ref z)>>=_) _ _ _;refine z9 ?_;unfold Builtin.SmallTypes.ownedTupleIsFree;refine wpAny_bind (wpAny_field hz rfl (x:=.none) rfl (wpAny_pure ?_));simp only[wO];refine z9 (n6 ?_);refine z9 (v4 hz rfl (x:=.ref TO) rfl ?_);refine z9 (i8 hz (by simp) λg1 hz1 s1=>?_);replace hz1:IsZip g1 z TI TO .ellipsis:=hz1;refine z9 ?_;simp only[List.zipIdx_cons,List.zipIdx_nil,Zm,List.forIn_nil];refine z9 (z9 (lE ?_));show wpAny _ _ (Builtin.SmallTypes.nextOf (.ref i1)>>=_) _ _ _;refine z9 (CT hh (h1.ext s1.extBut (x9 z1)) (hl1.ext s1.extBut p1z) hx λg2 e s2 he=>?_);obtain⟨oe,hoe,hce⟩:=he;have hz2:IsZip g2 z TI TO .ellipsis:=s2 _ _ z1 hz1;have hez:e≠z:=λq=>by subst q;rw[hz2]at hoe;cases hoe;simp at hce
 refine i8 hz2 (by simp) λg3 hz3 s3=>?_;refine z9 (wpAny_isInstance (T:="StopIteration") (b:=true) ⟨oe,s3.extBut _ _ hez hoe,hce⟩ isSubtype_stop ?_);refine zh (hQ _ λe' o he' q=>?_);simp only[y9,w8,w9,not_or]at he';exact s3.extBut _ _ he'.1 (s2 _ _ he'.2.2.1 (s1.extBut _ _ he'.1 q))
def qT(a b c:Value):checkTypeCall "zip" ⟨[a,b,c],[]⟩=pure ():=by kernel_rfl
def rW(a b c:Value):checkBuiltinCall "zip.__new__" ⟨[.type "zip",a,b,c],[]⟩=pure ():=by kernel_rfl
abbrev zA(b:Bool)(h:Heap)(l:Addr):Heap:=h.push { cls:=.type (itN b),data:=.fields #[.ref l,.int 0 0] }
noncomputable abbrev zB(h:Heap)(n:Nat):Heap:=(h.push { cls:=.type "tuple",data:=.seq #[.ref n,.ref (n+1),.ref (n+2)] }).push { cls:=.type "tuple",data:=.seq #[.none,.none,.none] }
noncomputable abbrev zC(h:Heap)(n:Nat):Heap:=h.push { cls:=.type "zip",data:=.fields #[.none,.bool false,.bool false,.ref (n+3),.ref (n+4)] }
def SSq.push{b:Bool}{xs:Array Value}(x:SSq b h a xs)(o:Obj):SSq b (h.push o) a xs:=let⟨o',ho,r⟩:=x;⟨o',zT o ho,r⟩
def zg(b1 b2 b3:Bool)(l1 l2 l3:Addr)(xs ys zs:Array Value):
  Meets (Builtin.«zip.__new__» ⟨[.type "zip",.ref l1,.ref l2,.ref l3],[]⟩) (λ_ R s=>SSq b1 s.heap l1 xs/\SSq b2 s.heap l2 ys/\SSq b3 s.heap l3 zs/\
   R (.ok (.ret (.ref (s.heap.objs.size+5)))) { s with heap:=zC (zB (zA b3 (zA b2 (zA b1 s.heap l1) l2) l3) s.heap.objs.size) s.heap.objs.size }):=
 .of_wp λprog w A R s h=>by
  obtain⟨hp,g,d,tk,os⟩:=s;obtain⟨q1,q2,q3,h⟩:=h;have hsub:=sub_zip;have L1:SSq b1 (Shared.heap ⟨hp,g,d,tk,os⟩) l1 xs:=q1;have L2:SSq b2 (Shared.heap ⟨hp.push { cls:=.type (itN b1),data:=.fields #[.ref l1,.int 0 0] },g,d,tk,os⟩) l2 ys:=q2.push _;have L3:SSq b3 (Shared.heap ⟨(hp.push { cls:=.type (itN b1),data:=.fields #[.ref l1,.int 0 0] }).push { cls:=.type (itN b2),data:=.fields #[.ref l2,.int 0 0] },g,d,tk,os⟩) l3 zs:=(q3.push _).push _;have e2:(hp.push { cls:=.type (itN b1),data:=.fields #[.ref l1,.int 0 0] }).objs.size=hp.objs.size+1:=vg ..;have e3:((hp.push { cls:=.type (itN b1),data:=.fields #[.ref l1,.int 0 0] }).push { cls:=.type (itN b2),data:=.fields #[.ref l2,.int 0 0] }).objs.size=hp.objs.size+2:=by rw[vg,e2]
  wp_walk using tU L1,tU L2,tU L3
  refine⟨_,rfl,?_⟩;simp only[vg,e2,e3]at h⊢;exact h
theorem zD{b1 b2 b3:Bool}{l1 l2 l3:Addr}{xs ys zs:Array Value}{Q:Value->Shared->Prop}(q1:SSq b1 s.heap l1 xs)(q2:SSq b2 s.heap l2 ys)(q3:SSq b3 s.heap l3 zs)(h:∀h',IsZip h' (s.heap.objs.size+5) (s.heap.objs.size+3) (s.heap.objs.size+4) .none->vL h' (s.heap.objs.size+3) (.ref s.heap.objs.size) (.ref (s.heap.objs.size+1)) (.ref (s.heap.objs.size+2))->
 vL h' (s.heap.objs.size+4) .none .none .none->SIt b1 h' s.heap.objs.size l1 0->SIt b2 h' (s.heap.objs.size+1) l2 0->SIt b3 h' (s.heap.objs.size+2) l3 0->(∀e o,s.heap.get? e=some o->h'.get? e=some o)->Q (.ref (s.heap.objs.size+5)) { s with heap:=h' }):
  wpAny (model prog w) A (call (.type "zip") [.ref l1,.ref l2,.ref l3]) Q E s:=by
 have n1:(zA b1 s.heap l1).objs.size=s.heap.objs.size+1:=vg ..;have n2:(zA b2 (zA b1 s.heap l1) l2).objs.size=s.heap.objs.size+2:=by rw[vg,n1]
 have n3:(zA b3 (zA b2 (zA b1 s.heap l1) l2) l3).objs.size=s.heap.objs.size+3:=by rw[vg,n2]
 have g1:(zA b1 s.heap l1).get? s.heap.objs.size=some { cls:=.type (itN b1),data:=.fields #[.ref l1,.int 0 0] }:=xG _ rfl;have g2:(zA b2 (zA b1 s.heap l1) l2).get? (s.heap.objs.size+1)=some { cls:=.type (itN b2),data:=.fields #[.ref l2,.int 0 0] }:=by rw[<- n1];exact xG _ rfl
 have g3:(zA b3 (zA b2 (zA b1 s.heap l1) l2) l3).get? (s.heap.objs.size+2)=some { cls:=.type (itN b3),data:=.fields #[.ref l3,.int 0 0] }:=by rw[<- n2];exact xG _ rfl
 have k1:∀(e:Addr)(o:Obj),(zA b1 s.heap l1).get? e=some o->(zA b3 (zA b2 (zA b1 s.heap l1) l2) l3).get? e=some o:=λe o q=>zT _ (zT _ q);have k0:∀(e:Addr)(o:Obj),s.heap.get? e=some o->(zA b3 (zA b2 (zA b1 s.heap l1) l2) l3).get? e=some o:=λe o q=>k1 e o (zT _ q);have g1':=k1 _ _ g1;have g2':(zA b3 (zA b2 (zA b1 s.heap l1) l2) l3).get? (s.heap.objs.size+1)=_:=zT _ g2;have m:=zg b1 b2 b3 l1 l2 l3 xs ys zs;generalize hH:zA b3 (zA b2 (zA b1 s.heap l1) l2) l3=H at n3 g3 k1 k0 g1' g2';have n4:(H.push { cls:=.type "tuple",data:=.seq #[.ref s.heap.objs.size,.ref (s.heap.objs.size+1),.ref (s.heap.objs.size+2)] }).objs.size=s.heap.objs.size+4:=by rw[vg,n3]
 have n5:(zB H s.heap.objs.size).objs.size=s.heap.objs.size+5:=by rw[vg,n4]
 have t1:(zB H s.heap.objs.size).get? (s.heap.objs.size+3)=some { cls:=.type "tuple",data:=.seq #[.ref s.heap.objs.size,.ref (s.heap.objs.size+1),.ref (s.heap.objs.size+2)] }:=by rw[<- n3];exact zT _ (xG _ rfl)
 have t2:(zB H s.heap.objs.size).get? (s.heap.objs.size+4)=some { cls:=.type "tuple",data:=.seq #[.none,.none,.none] }:=by rw[<- n4];exact xG _ rfl
 have t3:(zC (zB H s.heap.objs.size) s.heap.objs.size).get? (s.heap.objs.size+5)=some { cls:=.type "zip",data:=.fields #[.none,.bool false,.bool false,.ref (s.heap.objs.size+3),.ref (s.heap.objs.size+4)] }:=by rw[<- n5];exact xG _ rfl
 have kH:∀(e:Addr)(o:Obj),H.get? e=some o->(zC (zB H s.heap.objs.size) s.heap.objs.size).get? e=some o:=λe o q=>zT _ (zT _ (zT _ q));refine callType_new F.called_zip (by decide) (qT _ _ _) (rW _ _ _) (λobj=>?_) F.entry_zip_new m ⟨q1,q2,q3,?_⟩;·unfold argsOk;rw[signature?_of (id:="object.__init__") (n:=['_','_','t','i','n','i','_','_']) (o:=['t','c','e','j','b','o']) (by kernel_rfl) F.owner_object];kernel_rfl
 ·subst hH;exact⟨⟨_,t3,rfl⟩,h _ t3 (zT _ t1) (zT _ t2) ⟨_,kH _ _ g1',rfl,rfl⟩ ⟨_,kH _ _ g2',rfl,rfl⟩ ⟨_,kH _ _ g3,rfl,rfl⟩ λe o q=>kH e o (k0 e o q)⟩
end
noncomputable def SqB(b:Bool)(K:PySem.W.Frag)(H:Hp)(l:Addr)(xs:List V):Prop:=if b then SqT K H l xs else SqL K H l xs
def SqB.mono{b:Bool}{K:PySem.W.Frag}(s:Same G H)(q:SqB b K G l xs):SqB b K H l xs:=by
 cases b with
 |false=>exact SqL.mono s q
 |true=>exact SqT.mono s q
def Inv.sqB{σ:List (Option V)}{b:Bool}(I:Inv X pins σ H s)(q:SqB b X.K H l xs):∃its,Vals xs its/\SSq b s.heap l its.toArray/\l<s.heap.objs.size:=by
 cases b with
 |false=>obtain⟨its,rv,p,hz⟩:=I.list q;exact⟨its,rv,p.isList,SqL.lt' I q⟩
 |true=>obtain⟨its,rv,p,hz⟩:=I.tuple q;have p':s.heap.IsTuple l its.toArray:=p;obtain⟨o,ho,r⟩:=id p';exact⟨its,rv,⟨o,ho,r⟩,zy ho⟩
def Inv.sqB_inj{σ:List (Option V)}{b:Bool}{ys:List V}(I:Inv X pins σ H s)(q:SqB b X.K H l xs)(q':SqB b X.K H l ys):xs=ys:=by
 cases b with
 |false=>exact I.list_inj q q'
 |true=>exact I.tuple_inj q q'
noncomputable def OU(sq1 sq2 sq3:Hp->List V->Prop):It:=⟨λi H=>∃xs ys zs x y u,sq1 H xs/\sq2 H ys/\sq3 H zs/\xs[i]?=some x/\ys[i]?=some y/\zs[i]?=some u,
 λi H v H'=>∃p x y u,v=.ref p/\H p=none/\H'=upd H p (.tup [x,y,u])/\(∀xs,sq1 H xs->xs[i]?=some x)/\(∀ys,sq2 H ys->ys[i]?=some y)/\∀zs,sq3 H zs->zs[i]?=some u,λi H=>∃xs,sq1 H xs/\xs.length<=i⟩
section
variable{w:World}{K:PySem.W.Frag}{elts:List Expr}{kt:Nat}{tp:Pos}
def Cl{z TI TO i1 i2 i3 l1 l2 l3:Addr}{b1 b2 b3:Bool}(D:Z3 z TI TO i1 i2 i3 l1 l2 l3):
  Turn P w K (.Tuple elts kt tp) (OU (λH xs=>SqB b1 K H l1 xs) (λH xs=>SqB b2 K H l2 xs) (λH xs=>SqB b3 K H l3 xs)) [z,TI,TO,i1,i2,i3] z (λi h=>IsZip h z TI TO .none/\vL h TI (.ref i1) (.ref i2) (.ref i3)/\(∃a b c,vL h TO a b c)/\SIt b1 h i1 l1 i/\SIt b2 h i2 l2 i/\SIt b3 h i3 l3 i) where
 mem:=by simp
 obj:=λi h st b hb=>by
  obtain⟨s1,s2,⟨a,c,d,s3⟩,s4,s5,s6⟩:=st;simp only[y9,w8,w9]at hb;rcases hb with rfl|rfl|rfl|rfl|rfl|rfl;·exact⟨_,s1,λv z=>by cases z⟩
  ·exact⟨_,s2,λv z=>by cases z⟩
  ·exact⟨_,s3,λv z=>by cases z⟩
  ·obtain⟨o,q,c,d⟩:=s4;exact⟨o,q,λv z=>by rw[d]at z;cases z⟩
  ·obtain⟨o,q,c,d⟩:=s5;exact⟨o,q,λv z=>by rw[d]at z;cases z⟩
  ·obtain⟨o,q,c,d⟩:=s6;exact⟨o,q,λv z=>by rw[d]at z;cases z⟩
 keep:=λi h h' st k=>by obtain⟨s1,s2,⟨a,c,d,s3⟩,s4,s5,s6⟩:=st;exact⟨k z (by simp) _ s1,k TI (by simp) _ s2,⟨a,c,d,k TO (by simp) _ s3⟩,s4.at λo q=>k i1 (by simp) o q,s5.at λo q=>k i2 (by simp) o q,s6.at λo q=>k i3 (by simp) o q⟩
 item:=by
  intro X hP hw hK hc i pins s σ H E I hf st hg;obtain⟨xs,ys,zs,x,y,u,hq1,hq2,hq3,hx,hy,hu⟩:=hg;obtain⟨s1,s2,⟨a,c,d,s3⟩,s4,s5,s6⟩:=st;subst hP hw hK;obtain⟨its1,rv1,p1,_⟩:=I.sqB hq1;obtain⟨its2,rv2,p2,_⟩:=I.sqB hq2;obtain⟨its3,rv3,p3,_⟩:=I.sqB hq3;obtain⟨u1,hu1,ru1⟩:=rv1.get hx;obtain⟨u2,hu2,ru2⟩:=rv2.get hy;obtain⟨u3,hu3,ru3⟩:=rv3.get hu;have nd:=D.nd;simp only[qo,y9,w8,w9,not_or]at nd;obtain⟨⟨zTI,zTO,z1,z2,z3⟩,⟨TITO,TI1,TI2,TI3⟩,_⟩:=nd;refine B7 D s1 s2 s3 s4 s5 s6 p1 p2 p3 (x:=u1) (y:=u2) (u:=u3) (by simpa using hu1) (by simpa using hu2) (by simpa using hu3) λh1 w1 wTO w4 w5 w6 wp wsz wk=>?_;refine⟨_,rfl,wpAny_letOwnedTupleGo_zip w1 λh2 v1 sb=>?_⟩;have hp:H s.heap.objs.size=none:=I.hok.fresh (zE _);have ltz:∀b∈[z,TI,TO,i1,i2,i3],b<s.heap.objs.size:=λb hb=>by
   simp only[y9,w8,w9]at hb;rcases hb with rfl|rfl|rfl|rfl|rfl|rfl;·exact zy s1
   ·exact zy s2
   ·exact zy s3
   ·obtain⟨o,q,_⟩:=s4;exact zy q
   ·obtain⟨o,q,_⟩:=s5;exact zy q
   ·obtain⟨o,q,_⟩:=s6;exact zy q
  have Ia:Inv X pins σ (upd H s.heap.objs.size (.tup [x,y,u])) { s with heap:=s.heap.push { cls:=.type "tuple",data:=.seq #[u1,u2,u3] } }:=by refine I.laid (t':=s.toks) (λb o q=>zT _ q) (zE _) ?_;exact⟨by show 3<=sizeLine;decide,[u1,u2,u3],.cons ru1 (.cons ru2 (.cons ru3 .nil)),qK _ _⟩
  have fp':∀b∈[z,TI,TO,i1,i2,i3],qJ X pins (upd H s.heap.objs.size (.tup [x,y,u])) b:=λb hb=>⟨by rw[aF (xD (ltz b hb))];exact(hf b hb).1,(hf b hb).2⟩
  have hzlt:z<s.heap.objs.size:=zy s1;have ht2:h2.get? s.heap.objs.size=some { cls:=.type "tuple",data:=.seq #[u1,u2,u3] }:=(sb.2 _ (qM hzlt)).trans wp;have Ib:Inv X pins σ (upd H s.heap.objs.size (.tup [x,y,u])) { s with heap:=h2 }:=by
   refine Inv.turnedL (s:={ s with heap:=s.heap.push { cls:=.type "tuple",data:=.seq #[u1,u2,u3] } }) (h':=h2) (t':=s.toks) (ch:=[z,TI,TO,i1,i2,i3]) Ia (λb o hb q=>?_) fp';have q:(s.heap.push { cls:=.type "tuple",data:=.seq #[u1,u2,u3] }).get? b=some o:=q;simp only[y9,w8,w9,not_or]at hb;obtain⟨c1,c2,c3,c4,c5,c6⟩:=hb;by_cases e:b=s.heap.objs.size;·subst e;have q':=xG s.heap (o:={ cls:=.type "tuple",data:=.seq #[u1,u2,u3] }) rfl;rw[q']at q;rw[ht2];exact q
   ·have q2:s.heap.get? b=some o:=by
     rcases Nat.lt_or_ge b s.heap.objs.size with hb|hb;·exact pe hb q
     ·have hlt:b<(s.heap.push { cls:=.type "tuple",data:=.seq #[u1,u2,u3] }).objs.size:=zy q;rw[vg]at hlt;exact absurd (Zz (ZA hlt) hb) e
    exact(sb.2 b c1).trans (wk b o (by simp[c1,c3,c4,c5,c6]) q2)
  refine⟨.ref s.heap.objs.size,_,Ib,rfl,⟨_,x,y,u,rfl,hp,rfl,λws h=>by rw[I.sqB_inj h hq1];exact hx,λws h=>by rw[I.sqB_inj h hq2];exact hy,λws h=>by rw[I.sqB_inj h hq3];exact hu⟩,⟨v1,?_,⟨u1,u2,u3,(sb.2 TO (x9 zTO)).trans wTO⟩,w4.at λo q=>(sb.2 i1 (x9 z1)).trans q,w5.at λo q=>(sb.2 i2 (x9 z2)).trans q,w6.at λo q=>(sb.2 i3 (x9 z3)).trans q⟩,λb hb=>(fp' b hb).1⟩;exact(sb.2 TI (x9 zTI)).trans (wk TI _ (by simp[x9 zTI,TITO,TI1,TI2,TI3]) s2)
 done:=by
  intro X hP hw hK hc i pins s σ H E I hf st hg;obtain⟨xs,hq1,hx⟩:=hg;obtain⟨s1,s2,⟨a,c,d,s3⟩,s4,s5,s6⟩:=st;subst hP hw hK;obtain⟨its1,rv1,p1,_⟩:=I.sqB hq1;have e1:=rv1.length;refine Eg (I.ok.hd hc) D s1 s2 s4 p1 (by simp;omega) λh' hk=>⟨rfl,I.turnedL (t':=s.toks) (ch:=[z,TI,TO,i1,i2,i3]) (λb o hb q=>?_) hf⟩
  simp only[y9,w8,w9,not_or]at hb;obtain⟨c1,c2,c3,c4,c5,c6⟩:=hb;exact hk b o (by simp[c1,c3,c4,c5,c6]) q
 self:=λA i s Q E st h=>Z7 st.1 h
def ItOk.zip3{sq1 sq2 sq3:Hp->List V->Prop}{ws us:List V}{es fs:List D}(h1:∀G1 H1,Same G G1->Same G1 H1->sq1 H1 vs)(h2:∀G1 H1,Same G G1->Same G1 H1->sq2 H1 ws)(h3:∀G1 H1,Same G G1->Same G1 H1->sq3 H1 us)(r1:Reps K G vs ds)(r2:Reps K G ws es)(r3:Reps K G us fs)(l1:es.length=ds.length)(l2:fs.length=ds.length):
  ItOk K G (OU sq1 sq2 sq3) ((List.range ds.length).map λi=>.tup [ds.getD i .non,es.getD i .non,fs.getD i .non]):=by
 intro i G1 H1 s1 s2;refine⟨λd e=>?_,λhl=>⟨vs,h1 G1 H1 s1 s2,by rw[uc,List.length_range]at hl;rw[r1.length];exact hl⟩⟩;rw[ue]at e;by_cases hi:i<ds.length
 ·rw[Zk hi]at e;cases e;have g1:ds[i]?=some (ds.getD i .non):=by rw[uF,t5 hi];rfl
  have g2:es[i]?=some (es.getD i .non):=by rw[uF,t5 (by omega)];rfl
  have g3:fs[i]?=some (fs.getD i .non):=by rw[uF,t5 (by omega)];rfl
  obtain⟨v,ev,rv⟩:=r1.get g1;obtain⟨u,eu,ru⟩:=r2.get g2;obtain⟨t,et,rt⟩:=r3.get g3;refine⟨⟨vs,ws,us,v,u,t,h1 G1 H1 s1 s2,h2 G1 H1 s1 s2,h3 G1 H1 s1 s2,ev,eu,et⟩,λx H' y=>?_⟩;obtain⟨p,x',y',t',rfl,hp,rfl,z1,z2,z3⟩:=y;have z1:=z1 vs (h1 G1 H1 s1 s2);have z2:=z2 ws (h2 G1 H1 s1 s2);have z3:=z3 us (h3 G1 H1 s1 s2);rw[ev]at z1;rw[eu]at z2;rw[et]at z3;cases z1;cases z2;cases z3;exact⟨upd G1 p (.tup [v,u,t]),.new s2 hp,.tup (.of aV) (.cons ((rv.mono s1).mono (.into (s2.free hp))) (.cons ((ru.mono s1).mono (.into (s2.free hp))) (.cons ((rt.mono s1).mono (.into (s2.free hp))) .nil)))⟩
 ·rw[Zl (by rw[List.length_range];omega)]at e;cases e
end
def ne5{l:Nat}(h:l<n):l∉[n+5,n+4,n,n+1,n+2]:=by simp;omega
def Eo:D->Option (List D)
 |.lst _ xs=>some xs
 |.tup xs=>some xs
 |_=>none
noncomputable def Fc:List D->R (List D)
 | [a,b,c]=>match Eo a,Eo b,Eo c with
  |some ds,some es,some fs=>if es.length=ds.length/\fs.length=ds.length then .ok ((List.range ds.length).map λi=>.tup [ds.getD i .non,es.getD i .non,fs.getD i .non])else .no
  |_,_,_=>.no
 |_=>.no
def Rep.sqB{K:PySem.W.Frag}(r:Rep K G v d)(h:Eo d=some ds):∃b l vs,v=.ref l/\SqB b K G l vs/\Reps K G vs ds:=by
 cases r with
 |tup hq t=>cases h;exact⟨true,_,_,rfl,hq,t⟩
 |lst hq t=>cases h;exact⟨false,_,_,rfl,.of hq,t⟩
 |fls hq t=>cases h;exact⟨false,_,_,rfl,hq,t⟩
 |_=>cases h
section
variable{a b c:Expr}{elts:List Expr}{kt:Nat}{pos tp:Pos}
def Hu(hg:Gl X "zip")(hm:X.mg "zip"=none)(ha:PFA X [a,b,c] gl)(hs:starEach [a,b,c] X.env=(false,eval a X.env)::starEach [b,c] X.env:=by rfl)(hs2:(backTo pos (starEach [b,c] X.env)).any (·.1)=false:=by rfl):
  PIF X (.Tuple elts kt tp) (.Call (.Name "zip" p) [a,b,c] [] pos) (aB Fc gl):=by
 intro pins s σ H Rr I h;obtain⟨G,ρ,st,h⟩:=h;have ta:tAF X gl σ H (λvs H1=>∃G1 ds,Up G H G1 H1/\Reps X.K G1 vs ds/\Same G1 H1/\(Fc ds).post (Fin G1 H1 (λG J items=>ItOk X.K G J items) Rr) (Exx X σ G1 H1)):=tG.intro st h λds vs G1 H1 u1 st1 r1 h1=>⟨G1,ds,u1,r1,st1.sub,h1⟩
 refine Call_ (mX I hg hm PyProof.Rows.Boot.«zip» (ZB (thn (ha pos pins s σ H _ I ta) λus s1 ⟨vs,H1,I1,r1,q1⟩=>?_) hs hs2));obtain⟨G1,ds,u1,rd,sub,h1⟩:=q1;unfold Fc at h1;split at h1
 ·rename_i da db dc;split at h1
  ·rename_i xs ys zs ea eb ec;split at h1
   ·rename_i hl;cases rd with
    |cons ra t=>
     cases t with
     |cons rb t=>
      cases t with
      |cons rc t=>
       cases t;obtain⟨b1,l1,ws1,rfl,sq1,rr1⟩:=ra.sqB ea;obtain⟨b2,l2,ws2,rfl,sq2,rr2⟩:=rb.sqB eb;obtain⟨b3,l3,ws3,rfl,sq3,rr3⟩:=rc.sqB ec;cases r1 with
       |cons v1 t=>
        cases t with
        |cons v2 t=>
         cases t with
         |cons v3 t=>
          cases t;cases v1;cases v2;cases v3;obtain⟨its1,rv1,p1,lt1⟩:=I1.sqB (sq1.mono sub);obtain⟨its2,rv2,p2,lt2⟩:=I1.sqB (sq2.mono sub);obtain⟨its3,rv3,p3,lt3⟩:=I1.sqB (sq3.mono sub);refine zD p1 p2 p3 λh' z1 zTI zTO zi1 zi2 zi3 zk=>Z7 z1 ?_;have Dz:Z3 (s1.heap.objs.size+5) (s1.heap.objs.size+3) (s1.heap.objs.size+4) s1.heap.objs.size (s1.heap.objs.size+1) (s1.heap.objs.size+2) l1 l2 l3:=by
           constructor;·simp
           ·intro l hl;simp only[y9,w8,w9]at hl;rcases hl with rfl|rfl|rfl;·exact ne5 lt1
            ·exact ne5 lt2
            ·exact ne5 lt3
          refine⟨_,_,_,_,H1,rfl,I1.kept (t':=s1.toks) zk,Cl Dz,⟨z1,zTI,⟨_,_,_,zTO⟩,zi1,zi2,zi3⟩,λb hb=>?_,h1 _ G1 H1 (.refl sub) (ItOk.zip3 (λG2 H2 s1 s2=>(sq1.mono s1).mono s2) (λG2 H2 s1 s2=>(sq2.mono s1).mono s2) (λG2 H2 s1 s2=>(sq3.mono s1).mono s2) rr1 rr2 rr3 hl.1 hl.2)⟩;have hge:s1.heap.objs.size<=b:=by simp only[y9,w8,w9]at hb;rcases hb with rfl|rfl|rfl|rfl|rfl|rfl <;> omega
          exact I1.fpOk hge (I1.hok.fresh hge)
   ·exact h1.elim
  ·exact h1.elim
 ·exact h1.elim
end
section
variable{a b e:Expr}{ga:Ev->R D}{pos:Pos}
def MD:D->D->Option D
 |.str [c],.str y=>some (.bl (decide (c∈y)))
 |_,_=>none
def Mi(K:PySem.W.Frag):ROk K (λx y H Q=>∃i j,x=.str i/\y=.str j/\Q (.bl (!(Builtin.Str.occurrences j i 0 j.length 1).isEmpty)) H) MD:=by
 intro G H x y dx dy d Q s rx ry e q;unfold MD at e;split at e;·rename_i c z;cases e;obtain⟨i,rfl,ei,hi⟩:=rx.str_inv;obtain⟨j,rfl,ej,hj⟩:=ry.str_inv;have:i=⟨#[c]⟩:=(Str.of_list ei).symm;subst this;refine⟨_,j,rfl,rfl,?_⟩;rw[StrLaws.found_one,ej];exact q _ G H (.refl s) (.bl _)
 ·cases e
def Lv(ha:PF X a ga)(hb:PF X b gb)(hm:behindInMarks .In b=false:=by rfl):PF X (.Compare a [.In] [b] pos) (g2 MD ga gb):=pF A4 (Mi _) ha hb hm
noncomputable def xV:D->List D->Option D
 |.str x,[.int i]=>if -1000<=i/\i<=1000/\Mx x=true then some (.str (List.replicate (i.toNat - x.length) 48++x))else none
 |_,_=>none
noncomputable def Fq:V->List V->Hp->VK->Prop:=λx vs H Q=>∃(y:Str)(i:Int),x=.str y/\vs=[.int i]/\-1000<=i/\i<=1000/\Q (.str (Txt.zfill y i)) H
def Dp:MtR X "str.zfill" Fq:=by intro pins s σ H x xs v us Q I rx rv ⟨y,i,ex,exs,h1,h2,q⟩;subst ex exs;obtain⟨t,rfl⟩:=rx;obtain⟨u,rfl,r1⟩:=rv.one;obtain⟨t',rfl⟩:=r1;exact SC.zfill (padOk_of (by omega) (by omega)) (λt'' k=>⟨.str _,H,I.tok _,⟨_,rfl⟩,q⟩)
def ul(y:Str)(i:Int)(hd:Mx y.cps.toList=true):(Txt.zfill y i).cps.toList=List.replicate (i.toNat - y.cps.toList.length) 48++y.cps.toList:=by
 have hl:y.cps.toList.length=y.length:=by simp[Str.length]
 unfold Txt.zfill;split
 ·rename_i h;have:i.toNat - y.cps.toList.length=0:=by rw[hl];omega
  rw[this];rfl
 ·unfold zfilled;have h0:∀c,y.cps[0]?=some c->c≠43/\c≠45:=λc hc=>by
   have hm:c∈y.cps.toList:=by rw[<- Array.getElem?_toList]at hc;exact iO hc
   have:=p8.1 hd c hm;simp only[p6,lT]at this;omega
  split;·rename_i h;exact absurd rfl (h0 _ h).1
  ·rename_i h;exact absurd rfl (h0 _ h).2
  ·rw[hl];unfold Builtin.Str.padded;simp[Str.length]
def Ej(K:PySem.W.Frag):BA K "str" Fq xV:=by
 intro G H x xs dx ds d Q s rx rs e q;unfold xV at e;split at e
 ·split at e
  ·rename_i x0 i hi;cases e;obtain⟨v,rfl,r1⟩:=rs.one;obtain⟨y,rfl,ey,hy⟩:=rx.str_inv;obtain rfl:=r1.int_inv;subst ey;refine⟨y,i,rfl,rfl,hi.1,hi.2.1,q _ G H (.refl s) (.strL (ul y _ hi.2.2) ?_)⟩;have big:20000<=sizeLine:=by decide
   rw[sg,qP,Str.len_list];omega
  ·cases e
 ·cases e
def HY{o:Expr}{ap cp:Pos}(ho:PF X o ga)(ha:PFA X [e] gl)(hbase:attributeBase o "zfill" X.env (eval o X.env)=eval o X.env:=by rfl)(hfew:((backTo cp (starEach [e] X.env)).all (λx=>!x.1) && (backToKw cp (keywordEach [] X.env)).all (λx=>x.1.isSome)
 && decide ([e].length+([]:List Keyword).length+(if ([]:List Keyword).isEmpty then 0 else 1)<30))=true:=by rfl)(hline:(ap.endLine==cp.line)=true:=by rfl)(hs:starEach [e] X.env=(false,eval e X.env)::starEach [] X.env:=by rfl):
  PF X (.Call (.Attribute o "zfill" ap) [e] [] cp) (fk "str" xV ga gl):=iA oR PySem.F.slot_str_zfill PySem.F.type_str_zfill Dp (Ej _) ho ha hbase hfew hline hs rfl
end
noncomputable def jD(X:Cx)(N':List Str)(scope:Scope)(C:Addr)(s₂:Shared)(H₂:Hp)(fp:List Addr)(pn:List (Addr×Obj))(xe:Value->Shared->Prop):Cx:={ aP X N' scope C s₂ H₂ fp with A:=X.A,calm:=X.calm,pn:=pn,xe:=xe }
noncomputable def hG(asg:D->Ev->R Ev)(gt:Ev->R Bool)(ge:Ev->R D):List D->Ev->R (List D)
 | [],_=>.ok []
 |d::ds,ρ=>fA (asg d ρ)>>=λρ1=>fA (gt ρ1)>>=λk=>if k=true then ge ρ1>>=λx=>hG asg gt ge ds ρ1>>=λxs=>.ok (x::xs)else hG asg gt ge ds ρ1
noncomputable def yz(gi:Ev->R (List D))(ix:List Nat)(gt:Ev->R Bool)(ge:Ev->R D):Ev->R (List D):=λρ=>gi ρ>>=λitems=>if items.length<=sizeLine then hG (ur 0) gt ge items (lR ix ρ)else .no
noncomputable def uO(M:Model)(A:Around)(E:Value->Shared->Prop)(Q:Value->Shared->Prop)(acc:Value)(cenv:Env)(r:Result)(s':Shared):Prop:=
 match r with
 |.ok _=>∃m,s'.heap.Ns cenv.locals m/\∀h',Heap.SameBut cenv.locals s'.heap h'->Q acc { s' with heap:=h' }
 |.error x=>∃m,s'.heap.Ns cenv.locals m/\∀h',Heap.SameBut cenv.locals s'.heap h'->wpAny M A (passOn "comprehension.variables-let-go" x cenv:Sem Value) (λ_ _=>False) E { s' with heap:=h' }
def yY{M:Model}{A:Around}{env:Env}{e:Expr}{pos:Pos}{newAcc first:Sem Value}{g:Comprehension}{gs:List Comprehension}{cl:List (Str×Addr)}{Q:Value->Shared->Prop}(hcl:clausesOf e=g::gs)(hs:∀x,foldedSetIterable g.iter env x=pure x)(hclos:closureFor scope env=pure cl)(hkind:scope.kind=.function)(hnames:∀x∈scope.names,x.2=.local->scope.names.lookup x.1=some .local)(h:wpAny M A first (λx s₁=>wpAny M A (pyIter x) (λit s₂=>wpAny M A newAcc (λacc s₃=>
 wpAny M A (newFunctionEnv scope env.globals cl [] env.qual none .none (some env)) (λcenv s₄=>
 codeAny M A (.compStart e 0 it acc { cenv with scope:=relabel scope env }) (uO M A E Q acc { cenv with scope:=relabel scope env }) s₄) E s₃) E s₂) E s₁) E s):
  wpAny M A (comprehension e scope env pos newAcc false first none) Q E s:=by
 unfold comprehension;rw[hclos,hcl];refine z9 (yT h (λx s₁ h₁=>?_) λ_ _ h'=>h');refine z9 (l5 (z9 (bY (hs x) (z9 (r0 (yT h₁ (λit s₂ h₂=>?_) λ_ _ h'=>h'))))));refine wpAny_standIf (z9 (yT h₂ (λacc s₃ h₃=>z9 (zh (z9 (yT h₃ (λcenv s₄ h₄=>?_) λ_ _ h'=>h')))) λ_ _ h'=>h'));dsimp only;have hv:∀x∈(scope.names.filter λx=>(x.2==.local || x.2==.cell) && x.1 != (".0":Str)).reverse,x.2=.local->Env.kindOf { cenv with scope:=relabel scope env } x.1=some .local:=
  λx hx hl=>p9 (hnames x (List.mem_filter.mp (List.mem_reverse.mp hx)).1 hl);refine r0 (z9 (lp (r0 (wpAny_run (o8 h₄ λr s' hr=>?_)))));cases r with
 |ok f=>obtain⟨m,hn,hr⟩:=hr;refine z9 (r0 (wpAny_comp_letGo (cenv:={ cenv with scope:=relabel scope env }) hkind _ s' m hv hn λh' m' _ hs'=>?_));exact zh (hr h' hs')
 |error x=>obtain⟨m,hn,hr⟩:=hr;refine z9 (r0 (wpAny_comp_letGo (cenv:={ cenv with scope:=relabel scope env }) hkind _ s' m hv hn λh' m' _ hs'=>?_));exact yT (hr h' hs') (λ_ _ f=>f.elim) λ_ _ y=>y
def xc{prog:Program}{w:World}{A:Around}{R':Result->Shared->Prop}{elt target:Expr}{pos:Pos}{it acc:Value}{env:Env}(I:Nat->Shared->Prop)(CO:∀n s,I n s->wpAny (model prog w) A (pyNext it) (λr s₁=>match r with
 |none=>R' (.ok .next) s₁
 |some v=>wpAny (model prog w) A (letOwnedTupleGo target it v) (λ_ s₁'=>wpAny (model prog w) A (assign target env v) (λ_ s₂=>
 wpAny (model prog w) A (forIn ifs true λc r=>if r=true then do let ok <- isTrue c env (eval c env);pure (ForInStep.yield ok)else pure (ForInStep.yield r)) (λok s₃=>
 if ok=true then wpAny (model prog w) A (eval elt env) (λx s₄=>
 wpAny (model prog w) A (call (.builtin "list.append") [acc,x]) (λ_ s₅=>∃m,m<n/\I m s₅) (λ_ _=>False) s₄) (notedBy (model prog w) A env λx s'=>R' (.error x) s') s₃
 else ∃m,m<n/\I m s₃) (λ_ _=>False) s₂) (λ_ _=>False) s₁') (λ_ _=>False) s₁) (λ_ _=>False) s)(n:Nat)(h:I n s):
  codeAny (model prog w) A (.compLoop (.ListComp elt [⟨target,iter,ifs,0⟩] scope pos) 0 it acc env) R' s:=by
 refine codeAny_loop rfl I (λn s hI=>?_) n h;show wpAny _ A ((compTurn (.ListComp elt [⟨target,iter,ifs,0⟩] scope pos) 0 it acc env).onRaise (λx=>do noteFrame x env;theTreesLotGoes x)) _ _ s;refine wpAny_noted ?_;rw[compTurn_list];refine z9 (l5 (z9 (yT (CO n s hI) (λr s₁ h₁=>?_) λ_ _ z=>z.elim)));cases r with
 |none=>exact zh h₁
 |some v=>
  refine z9 (yT h₁ (λ_ s₁' h₁'=>?_) λ_ _ z=>z.elim);refine z9 (yT h₁' (λ_ s₂ h₂=>z9 (yT h₂ (λok s₃ h₃=>?_) λ_ _ z=>z.elim)) λ_ _ z=>z.elim);cases ok with
  |false=>exact zh ⟨rfl,h₃⟩
  |true=>exact z9 (z9 (yT h₃ (λx s₄ h₄=>z9 (yT h₄ (λ_ s₅ h₅=>zh (zh ⟨rfl,h₅⟩)) λ_ _ z=>z.elim)) λ_ _ z=>z))
def Fe{G₁ H₁:Hp}{s₁:Shared}{env:Env}{outer:List Env}{Q:Shared->Prop}(hst:X.stack=env::outer)(hfr:env.frame=some L)(hL:X.env.frame=some L)(sub:Same G₁ H₁)(J₁:Inv X pins σ H₁ s₁)(way:(∃h' vs,Heap.MadeExcOf s₁.heap h' a (.ref C) vs/\s'={ s₁ with heap:=h' })\/(∃G' H',E2 X.prog X.w X.stack H₁ s₁ a C H' s'/\Up G₁ H₁ G' H')\/∃G' H' L,X.env.frame=some L/\BM X pins L H₁ s₁ a C H' s'/\Up G₁ H₁ G' H')(cont:∀{ch:List Addr}{H' G':Hp}{s':Shared}{B:Heap}{a0:Value}{h₄:Heap},(∀b∈ch,LA X pins b)->s'.os=s₁.os->AllBare s'.gens->Un (frs X.stack) ch H₁ H' s₁.heap s'.heap->HOk X.prog X.w H' s'.heap->H' a=none->s₁.heap.get? a=none->Up G₁ H₁ G' H'->
 (∀b o,b∉frs X.stack->((∃o0,s₁.heap.get? b=some o0)\/∃u,H' b=some u)->s'.heap.get? b=some o->B.get? b=some o)->Heap.HeldW B (env::outer) a (.ref C) a0 L h₄->s'.heap.UpToSlots h₄->Q { s' with heap:=h₄ }):
  wpAny (model X.prog X.w) X.A (noteFrame (.ref a) env) (λ_ s₂=>Q s₂) E s':=by
 have hfrm:X.A.frames=some (env::outer):=by rw[<- hst];exact J₁.ok.frames
 rcases way with⟨h',vs,made,rfl⟩|⟨G',H',⟨os,bare,un,hok,ha,B,a0,fl,hk⟩,up⟩|⟨G',H',L',hL',⟨os,bare,⟨ch,hch,un⟩,hok,ha,hna,B,a0,fl,hk⟩,up⟩
 ·have hin:∀env∈X.stack,∀b,env.frame=some b->b∈frs X.stack:=λenv he b hb=>k6.mpr ⟨env,he,hb⟩;have ha:H₁ a=none:=by
   cases q:H₁ a with
   |none=>rfl
   |some u=>obtain⟨ob,e⟩:=(J₁.hok a u q).there;rw[made.new]at e;cases e
  obtain⟨t,he,htn,ht⟩:=made.there;have hkb:(PySem.W.hideAll s₁.heap (frs X.stack)).StaysIn h':=λb o q=>made.keeps b o (mh _ q);have hen:(PySem.W.hideAll s₁.heap (frs X.stack)).get? a=none:=by
   cases q:(PySem.W.hideAll s₁.heap (frs X.stack)).get? a with
   |none=>rfl
   |some o=>have:=mh _ q;rw[made.new]at this;cases this
  have hff:h'.FunFrames (PySem.W.hideAll s₁.heap (frs X.stack)) (env::outer):=by rw[<- hst];exact(Zp J₁.stack hin).of_keeps λb o hb _=>⟨o,made.keeps b o hb,rfl⟩
  unfold noteFrame;simp only[hfr];refine z9 (v4 (show({ s₁ with heap:=h' }:Shared).heap.get? a=some _ from he) rfl (x:=.none) rfl ?_);rw[if_neg (by decide)];refine wpAny_entryW (base:=PySem.W.hideAll s₁.heap (frs X.stack)) (a0:=.ref t) hfrm hff hfr he hkb hen rfl (by show 1<6;decide) rfl λh₄ noted=>?_;obtain⟨n1,n2,n3,n4⟩:=noted;refine cont (ch:=[]) (s':={ s₁ with heap:=h' }) (λb z=>absurd z (by simp)) rfl J₁.bare (Un.kept made.keeps) (J₁.hok.kept made.keeps) ha made.new (.refl sub) (λb o hb ho e=>?_) ⟨n1,hen,n2,n3⟩ n4;have e1:s₁.heap.get? b=some o:=by
   have one:∀o0,s₁.heap.get? b=some o0->s₁.heap.get? b=some o:=λo0 ho=>by have q:=made.keeps b o0 ho;have e':h'.get? b=some o:=e;rw[q]at e';cases e';exact ho
   rcases ho with⟨o0,ho⟩|⟨u,ho⟩;·exact one o0 ho
   ·obtain⟨ob,ho⟩:=(J₁.hok b u ho).there;exact one ob ho
  exact b8 _ e1 hb
 ·have hna:s₁.heap.get? a=none:=by
   cases q:s₁.heap.get? a with
   |none=>rfl
   |some o0=>
    obtain⟨o',e'⟩:=un.there a o0 q (by simp);have hna:a∉frs X.stack:=λz=>by obtain⟨o1,e1,d1,_⟩:=FunFrames.data fl.2.2.1 a z;obtain⟨oe,vs,_,_,_,e2,_,d2,_⟩:=fl.2.2.2;rw[e1]at e2;cases e2;exact d1 vs d2
    have:=hk a o' hna (.inl ⟨o0,q⟩) e';rw[fl.2.1]at this;cases this
  rw[hst]at fl;exact wpAny_looks_onW hfrm hfr fl λh₄ held sm=>cont (ch:=[]) (λb z=>absurd z (by simp)) os bare un hok ha hna up hk held sm
 ·have eL:L=L':=xz (hL.symm.trans hL');rw[hst,<- eL]at fl;exact Zq hfr fl.2.2.2 (cont (h₄:=s'.heap) hch os bare un hok ha hna up hk fl λb o hb _=>⟨o.slots,hb⟩)
theorem FunFrames.rebase{B B':Heap}(k:∀b,B.get? b=none->B'.get? b=none):∀{l:List Env},h.FunFrames B l->h.FunFrames B' l
 | [],x=>x
 |_::_,⟨x1,⟨L,o,y1,y2,y3⟩,x3⟩=>⟨x1,⟨L,o,y1,k L y2,y3⟩,FunFrames.rebase k x3⟩
def xt{elt : Expr}{pos : Pos}{gt : Ev -> R Bool}{tn : Nat -> Heap -> Prop}{J : It}{Q : VK}{RR : Value -> Env -> Result -> Shared -> Prop}(hst : X.stack = X.env :: X.outer)(hfr : X.env.frame = some L){E : Value -> Shared -> Prop}(ok : CompOkT X scope n N' ix)(hcalm : X.calm = true)(hg : ∀C s₂ H₂ fp, PGF (aP X N' scope C s₂ H₂ fp) tgt asg)(hown : ∀d ρ ρ', asg d ρ = .ok ρ' -> (NoOwn ρ) -> NoOwn ρ')(he : ∀C s₂ H₂ fp pn xe, PF (jD X N' scope C s₂ H₂ fp pn xe) elt ge)(ht : ∀C s₂ H₂ fp, PTs (aP X N' scope C s₂ H₂ fp) ifs gt)(I : Inv X pins σ H s)(T : Turn X.prog X.w X.K tgt J fp it tn)(st0 : tn 0 s.heap)(hf : ∀b ∈ fp, qJ X pins H b)(st : StE X.K G H σ ρ)(hi : ItOk X.K G J items)(hlen : items.length <= sizeLine)(h : (hG asg gt ge items (fu n ix ρ)).post (pT X.K G H Q) (Exx X σ G H))(hR : ∀(Dd C : Addr)(s' : Shared)(m : Str -> Option Value)(vs : List V)(G' H' : Hp), Up G H G' H' -> H' Dd = none -> C≠Dd -> (∀ds, Reps X.K G' vs ds -> True) -> Q (.ref Dd) (upd H' Dd (.lst vs)) -> s'.heap.Ns C m -> s'.os = s.os -> AllBare s'.gens -> H' C = none -> s.heap.objs.size <= C ->
 Un (frs X.stack) fp H (upd H' Dd (.lst vs)) s.heap s'.heap -> HOk X.prog X.w (upd H' Dd (.lst vs)) s'.heap -> RR (.ref Dd) (compEnvC scope (nB X.env scope.names []) C X.env) (.ok .next) s')(hX : ∀(Dd C a Cc : Addr)(s' : Shared)(m : Str -> Option Value)(B : Heap)(a0 : Value)(G' H' : Hp), Exx X σ G H Cc -> Up G H G' H' -> s'.heap.Ns C m -> s'.os = s.os -> AllBare s'.gens -> H' C = none -> s.heap.objs.size <= C -> Un (frs X.stack) fp H H' s.heap s'.heap -> HOk X.prog X.w H' s'.heap -> H' a = none -> s.heap.get? a = none ->
 Heap.HeldW B X.stack a (.ref Cc) a0 L s'.heap -> (∀b o, b∉frs X.stack -> ((∃o0, s.heap.get? b = some o0) \/ ∃u, H' b = some u) -> s'.heap.get? b = some o -> B.get? b = some o) -> (∀b ∈ fp, ∃o, s'.heap.get? b = some o) -> (∀b ∈ frs X.stack, H' b = none) ->
 RR (.ref Dd) (compEnvC scope (nB X.env scope.names []) C X.env) (.error (.ref a)) s'):
    wpAny (model X.prog X.w) X.A (newList []) (λacc s₃ => wpAny (model X.prog X.w) X.A (newFunctionEnv scope X.env.globals (nB X.env scope.names []) [] X.env.qual none .none (some X.env)) (λcenv s₄ =>codeAny (model X.prog X.w) X.A (.compStart (.ListComp elt [⟨tgt, iter, ifs, 0⟩] scope pos) 0 (.ref it) acc { cenv with scope := relabel scope X.env }) (RR acc { cenv with scope := relabel scope X.env }) s₄) E s₃) E s := by
  have hfl : ∀b ∈ fp, b < s.heap.objs.size := λb hb => let⟨o, e, _⟩ := T.obj 0 s.heap st0 b hb; zy e;refine t9 (Zn ok.cell (by intro y hy; simp at hy) (λh₁ hns₁ hsb₁ => ?_) ok.kind);dsimp only at hns₁ hsb₁⊢;generalize hH2 : s.heap.push { cls := .type "list", dict := none, data := .seq ([] : List Value).toArray } = Hq at hns₁ hsb₁⊢;have hC : Hq.objs.size = s.heap.objs.size + 1 := by rw[<- hH2, vg]
  have hDC : s.heap.objs.size≠Hq.objs.size := by rw[hC]; exact xD (pP _)
  have hCle : s.heap.objs.size <= Hq.objs.size := by rw[hC]; exact j9 _
  have old : ∀b o, s.heap.get? b = some o -> h₁.get? b = some o := λb o e =>
    hsb₁.extBut b o (by rw[hC]; exact xD (i4 (zy e))) (zT _ (hH2▸zT _ e));have hacc : h₁.get? s.heap.objs.size = some { cls := .type "list", data := .seq ([] : List Value).toArray } := hsb₁.extBut _ _ hDC (zT _ (hH2▸xG _ rfl));have hD0 : H s.heap.objs.size = none := I.fresh;have hC0 : H Hq.objs.size = none := I.hok.fresh hCle;have st0' : tn 0 h₁ := T.keep 0 _ _ st0 λb hb o e => old b o e;have I0 : ∀tk, Inv (aP X N' scope Hq.objs.size s H fp) [] (fX n ix σ) (upd H s.heap.objs.size (.lst [])) { s with heap := h₁, toks := tk } := λtk => by
    refine sH ok hcalm I hf hfl hCle hns₁ old (Un.laid old (zE _) hD0) (I.hok.laid old (zE _) ⟨qd _, [], 0, .nil, hacc⟩) (by rw[aF hDC.symm]; exact hC0) λc hc e => ?_;rw[aF (xD hc)]; exact e
  have loop : ∀tk, codeAny (model X.prog X.w) X.A (.compLoop (.ListComp elt [⟨tgt, iter, ifs, 0⟩] scope pos) 0 (.ref it) (.ref s.heap.objs.size) (compEnvC scope (nB X.env scope.names []) Hq.objs.size X.env))
      (RR (.ref s.heap.objs.size) (compEnvC scope (nB X.env scope.names []) Hq.objs.size X.env)) { s with heap := h₁, toks := tk } := λtk => by
    have fpk : ∀{pins' : List (Addr × Obj)}{σ' : St}{H' : Hp}{s' : Shared}, Inv (aP X N' scope Hq.objs.size s H fp) pins' σ' H' s' -> pins' = [] -> (∀b ∈ fp, H' b = none) -> ∀b ∈ fp, qJ (aP X N' scope Hq.objs.size s H fp) pins' H' b := λI' e hn b hb =>⟨hn b hb, (I'.ok.exf b hb).1, I'.ok.exfs b hb, .inl hb, (I'.ok.exf b hb).2, by subst e; intro p hp; exact absurd (show p ∈ ([] : List (Addr × Obj)) from hp) (by simp)⟩
    refine xc (λnn s' => ∃(i : Nat)(σ' : St)(G' H' : Hp)(ρ' : Ev)(vs : List V)(ys : List D), nn = items.length - i /\ i <= items.length /\ Inv (aP X N' scope Hq.objs.size s H fp) [] σ' H' s' /\ tn i s'.heap /\ (∀b ∈ fp, H' b = none) /\
      H' s.heap.objs.size = some (.lst vs) /\ G' s.heap.objs.size = none /\ Up G H G' H' /\ StE X.K G' H' σ' ρ' /\ (NoOwn ρ') /\ Reps X.K G' vs ys /\
      ys.length <= i /\ (hG asg gt ge (items.drop i) ρ' >>= λzs => R.ok (ys ++ zs)).post (pT X.K G H Q) (Exx X σ G H)) ?_ items.length
      ⟨0, fX n ix σ, G, upd H s.heap.objs.size (.lst []), fu n ix ρ, [], [], by simp, qd _, I0 tk, st0', λb hb => by rw[aF (xD (hfl b hb))]; exact(hf b hb).1, aV, st.sub.free hD0,
        ⟨λa o e => by rw[aF (aJ e (st.sub.free hD0))]; exact st.sub a o e, .refl _, .into hD0, λ_ _ e => .inl e⟩,
        ⟨λa o e => by rw[aF (aJ e (st.sub.free hD0))]; exact st.sub a o e, (nO st n ix).len, (nO st n ix).val, λj m C p fs h => absurd h (NoOwn.obj jN j m C p fs)⟩, jN, .nil, qd _, by
          rw[j7];cases q : hG asg gt ge items (fu n ix ρ)with
          |ok xs => rw[q]at h; exact h
          |ex C => rw[q]at h; exact h
          |no => rw[q]at h; exact h⟩;rintro nn s' ⟨i, σ', G', H', ρ', vs, ys, rfl, hil, I', tn', fr', hD', gD', up', st', no', rp', hyl, h'⟩;have hIt := hi i G' H' up'.gg st'.sub;by_cases hlt : i < items.length
    ·
      have hd : items.drop i = items[i] :: items.drop (i + 1) := i5 hlt;rw[hd]at h';obtain⟨go, yl⟩ := hIt.1 items[i] (by simp[hlt]);refine yT (T.item (aP X N' scope Hq.objs.size s H fp) rfl rfl rfl hcalm i [] s' σ' H' (λ_ _ => False) I' (fpk I' rfl fr') tn' go) (λr s1 ⟨u, hr, h1⟩ => ?_) λ_ _ z => z;subst hr;refine yT h1 (λ_ s2 ⟨x2, H2, I2, r2, y2, tn2, fr2⟩ => ?_) λ_ _ z => z;obtain⟨G2, up2, rep2⟩ := yl x2 H2 y2;have I2p := I2.pinned (fpk I2 rfl fr2) (T.obj _ _ tn2);have st2 : StE X.K G2 H2 σ' ρ' := st'.up up2;have sr2 : StR X.K G2 H2 G2 H2 σ' ρ' := ⟨st2, up2.sub, .refl up2.sub, λj ds e => absurd e (no'.own j ds), λj k ds es l e => absurd e (no'.own j ds), no'.ob⟩
      have ea : ∃ρ1, asg items[i] ρ' = .ok ρ1 := by
        unfold hG at h';cases q : asg items[i] ρ' with
        |ok k => exact⟨k, rfl⟩
        |_ => rw[q]at h'; exact h'.elim
      obtain⟨ρ1, ea⟩ := ea;unfold hG at h';rw[ea]at h';simp only[fA, R.ok_bind]at h';refine yT (hg Hq.objs.size s H fp _ s2 σ' H2 x2 u (λσ3 H3 => H3 = H2 /\ StR X.K G2 H2 G2 H2 σ3 ρ1) I2p r2
        ⟨G2, H2, G2, ρ', items[i], _, sr2, rep2, ea, λσ3 q => ⟨rfl, q⟩⟩) (λ_ s3 ⟨σ3, H3, I3, e3, sr3⟩ => ?_) λ_ _ z => z;subst e3;have no3 := hown _ _ _ ea no';have hD2 : H3 s.heap.objs.size = some (.lst vs) := up2.hh _ _ hD';have gD2 : G2 s.heap.objs.size = none := by
        cases q : G2 s.heap.objs.size with
        |none => rfl
        |some o =>
          rcases up2.fr _ _ q with z|z;· rw[gD']at z; cases z
          · rw[hD']at z; cases z
      have ek : ∃k, gt ρ1 = .ok k := by
        cases q : gt ρ1 with
        |ok k => exact⟨k, rfl⟩
        |_ => rw[q]at h'; exact h'.elim
      obtain⟨k, ek⟩ := ek;rw[ek]at h';simp only[fA, R.ok_bind]at h';refine yT (ht Hq.objs.size s H fp _ s3 σ3 H3 (λb H4 => b = k /\ ∃G4, Up G2 H3 G4 H4) I3 ⟨G2, _, sr3.e, by rw[ek]; exact λb G4 H4 u4 e4 => ⟨e4, G4, u4⟩⟩) (λb s4 ⟨H4, I4, eb, G4, up4⟩ => ?_) λ_ _ z => z;subst eb;have next : ∀{H7 : Hp}{s7 : Shared}{G7 : Hp}{vs7 : List V}{ys7 : List D}, Inv (aP X N' scope Hq.objs.size s H fp) ([] ++ gH fp s2.heap) σ3 H7 s7 -> H7 s.heap.objs.size = some (.lst vs7) -> G7 s.heap.objs.size = none -> Up G H G7 H7 -> StE X.K G7 H7 σ3 ρ1 -> Reps X.K G7 vs7 ys7 -> ys7.length <= i + 1 ->
          (hG asg gt ge (items.drop (i + 1)) ρ1 >>= λzs => R.ok (ys7 ++ zs)).post (pT X.K G H Q) (Exx X σ G H) ->
          ∃m, m < items.length - i /\ ∃(i : Nat)(σ' : St)(G' H' : Hp)(ρ' : Ev)(vs : List V)(ys : List D), m = items.length - i /\ i <= items.length /\ Inv (aP X N' scope Hq.objs.size s H fp) [] σ' H' s7 /\ tn i s7.heap /\ (∀b ∈ fp, H' b = none) /\
            H' s.heap.objs.size = some (.lst vs) /\ G' s.heap.objs.size = none /\ Up G H G' H' /\ StE X.K G' H' σ' ρ' /\ (NoOwn ρ') /\ Reps X.K G' vs ys /\
            ys.length <= i /\ (hG asg gt ge (items.drop i) ρ' >>= λzs => R.ok (ys ++ zs)).post (pT X.K G H Q) (Exx X σ G H) := λ{H7 s7 G7 vs7 ys7} I7 hD7 gD7 up7 st7 rp7 hy7 h7 => by
        have pin : ∀b ∈ fp, ∀o, s2.heap.get? b = some o -> s7.heap.get? b = some o /\ H7 b = none := λb hb o e => by have := I7.pin (b, o) (q9 _ (q9 _ (fy hb e)));exact⟨this.1, this.2.1⟩
        refine⟨items.length - (i + 1), by omega, i + 1, σ3, G7, H7, _, vs7, ys7, rfl, hlt, I7.unpinned, T.keep _ _ _ tn2 λb hb o e => (pin b hb o e).1, λb hb => ?_, hD7, gD7, up7, st7, no3, rp7, hy7, h7⟩;obtain⟨o, e, _⟩ := T.obj _ _ tn2 b hb;exact(pin b hb o e).2
      have hD4 : H4 s.heap.objs.size = some (.lst vs) := up4.hh _ _ hD2;have gD4 : G4 s.heap.objs.size = none := by
        cases q : G4 s.heap.objs.size with
        |none => rfl
        |some o =>
          rcases up4.fr _ _ q with z|z;· rw[gD2]at z; cases z
          · rw[hD2]at z; cases z
      cases b with
      |false =>simp only[j8, sT]at h'⊢;exact next I4 hD4 gD4 ((up'.trans up2).trans up4) (sr3.e.up up4) ((rp'.mono up2.gg).mono up4.gg) (Nat.le_succ_of_le hyl) h'
      |true =>
        simp only[wO]at h'⊢;have I4' : ∀xe, Inv (jD X N' scope Hq.objs.size s H fp (gH fp s2.heap) xe) [] σ3 H4 s4 := λxe => I4.cx (λp hp => by simpa[aP]using hp) rfl I4.ok.hd;cases eg : ge ρ1 with
        |no => rw[eg]at h'; exact h'.elim
        |ex Cc =>
          rw[eg]at h';have h' : Exx X σ G H Cc := h';refine yT (he Hq.objs.size s H fp (gH fp s2.heap) (notedBy (model X.prog X.w) X.A (compEnvC scope (nB X.env scope.names []) Hq.objs.size X.env) λx s' => RR (.ref s.heap.objs.size) (compEnvC scope (nB X.env scope.names []) Hq.objs.size X.env) (.error x) s') _ s4 σ3 H4 (λ_ _ => False) (I4' _) ⟨G4, _, sr3.e.up up4, ?_⟩) (λ_ _ z => by obtain⟨_, _, _, _, z⟩ := z; exact z.elim) λ_ _ z => z;rw[eg];rintro e s5 ⟨G5, H5, up5, pins5, s6, a, rfl, J, way⟩;show wpAny (model X.prog X.w) X.A (noteFrame (.ref a) (compEnvC scope (nB X.env scope.names []) Hq.objs.size X.env)) _ _ s5;show wpAny (model X.prog X.w) X.A (noteFrame (.ref a) X.env) _ _ s5;refine Fe (X := jD X N' scope Hq.objs.size s H fp (gH fp s2.heap) _) (env := X.env) (outer := X.outer) (L := L) (Q := λs' => RR (.ref s.heap.objs.size) (compEnvC scope (nB X.env scope.names []) Hq.objs.size X.env) (.error (.ref a)) s') hst hfr hfr up5.sub J way ?_;intro ch H7 G7 s7 B a0 h₄ hch os bare un hok ha hna up7 hk held sm;have J7 := J.call' (ch := ch) os un hok bare hch;have pin6 : ∀b ∈ fp, ∀o, s2.heap.get? b = some o -> s6.heap.get? b = some o /\ s7.heap.get? b = some o /\ H7 b = none := λb hb o e => by have p1 := J.pin (b, o) (mP _ (fy hb e));have p2 := J7.pin (b, o) (mP _ (fy hb e));exact⟨p1.1, p2.1, p2.2.1⟩
          have fpo : ∀b ∈ fp, ∃o, s2.heap.get? b = some o := λb hb => let⟨o, e, _⟩ := T.obj _ _ tn2 b hb; ⟨o, e⟩;have to6 : ∀b o, s.heap.get? b = some o -> ∃o0, s6.heap.get? b = some o0 := λb o e => by
            by_cases hb : b ∈ fp;· obtain⟨o2, e2⟩ := fpo b hb; exact⟨o2, (pin6 b hb o2 e2).1⟩
            · exact J.base.there b o e hb
          have to7 : ∀b, ((∃o0, s.heap.get? b = some o0) \/ ∃u, H7 b = some u) -> ∃o7, s7.heap.get? b = some o7 := λb ho => by
            rcases ho with⟨o0, ho⟩ | ⟨u, ho⟩
            · by_cases hb : b ∈ fp;· obtain⟨o2, e2⟩ := fpo b hb; exact⟨o2, (pin6 b hb o2 e2).2.1⟩
              · exact J7.base.there b o0 ho hb
            · exact(hok b u ho).there
          have hk4 : ∀b o, b∉frs X.stack -> ((∃o0, s.heap.get? b = some o0) \/ ∃u, H7 b = some u) -> s7.heap.get? b = some o -> B.get? b = some o := λb o hb ho e => hk b o hb (ho.imp (λ⟨o0, z⟩ => to6 b o0 z) id) e;have stf : ∀b ∈ frs X.stack, H7 b = none := λb hb => J7.stkFree b hb;have dat : ∀b ∈ frs X.stack, ∀o, s7.heap.get? b = some o -> ∀vs, o.data≠.fields vs := λb hb o e => by obtain⟨o', e', d', _⟩ := FunFrames.data J7.stack b hb;rw[e]at e'; cases e'; exact d'
          have held : Heap.HeldW B X.stack a (.ref Cc) a0 L h₄ := by rw[hst]; exact held
          obtain⟨m7, hn7, _⟩ := J7.loc;obtain⟨m6, hn6, _⟩ := J.loc;have hCf : Hq.objs.size∉frs X.stack := λz => by obtain⟨o', e', _⟩ := FunFrames.data I.stack _ z;exact absurd (zy e') (qp.mpr hCle)
          refine hX s.heap.objs.size Hq.objs.size a Cc { s7 with heap := h₄ } m7 B a0 G7 H7 h' (((((up'.trans up2).trans up4).trans up5).trans up7)) (hn7.at' λo e => ?_) J7.os J7.bare J7.free hCle ?_ ?_ ha ?_ held (λb o hb ho e => ?_) (λb hb => ?_) stf
          · have h6 : ∃o0, s6.heap.get? Hq.objs.size = some o0 := by obtain⟨o0, _, _, e0, _⟩ := hn6; exact⟨o0, e0⟩
            exact held.1 _ o (hk _ o hCf (.inl h6) e)
          · exact Un.flight J7.base held.1 sm hk4 (λb o e => ⟨o, e⟩) (λb hb => .inl hb) dat
          · exact hok.flight held.1 hk4 stf
          · cases q : s.heap.get? a with
            |none => rfl
            |some o0 => obtain⟨o1, e1⟩ := to6 a o0 q; rw[hna]at e1; cases e1
          · obtain⟨o7, e7⟩ := to7 b ho;have q := hk4 b o7 hb ho e7;have e' : h₄.get? b = some o := e;rw[held.1 b o7 q]at e'; cases e'; exact q
          · obtain⟨o2, e2⟩ := fpo b hb;by_cases z : b ∈ frs X.stack;· obtain⟨o', e', _⟩ := FunFrames.data held.2.2.1 b z; exact⟨o', e'⟩
            · exact⟨o2, held.1 b o2 (hk b o2 z (.inl ⟨o2, (pin6 b hb o2 e2).1⟩) (pin6 b hb o2 e2).2.1)⟩
        |ok y =>
          rw[eg]at h';simp only[R.ok_bind]at h';refine yT (he Hq.objs.size s H fp (gH fp s2.heap) (notedBy (model X.prog X.w) X.A (compEnvC scope (nB X.env scope.names []) Hq.objs.size X.env) λx s' => RR (.ref s.heap.objs.size) (compEnvC scope (nB X.env scope.names []) Hq.objs.size X.env) (.error x) s') _ s4 σ3 H4 (λv H5 => ∃G5, Up G4 H4 G5 H5 /\ Rep X.K G5 v y) (I4' _) ⟨G4, _, sr3.e.up up4, by rw[eg]; exact λv G5 H5 u5 r5 => ⟨G5, u5, r5⟩⟩) (λu5 s5 ⟨v5, H5, I5', r5, G5, up5, rep5⟩ => ?_) λ_ _ z => z;have I5 : Inv (aP X N' scope Hq.objs.size s H fp) ([] ++ gH fp s2.heap) σ3 H5 s5 := (I5'.cx (A' := X.A) (calm' := X.calm) (pn' := []) (pins' := gH fp s2.heap) (xe' := λ_ _ => False) (λp hp => by simpa[jD]using hp) rfl I.ok.hd : Inv { (jD X N' scope Hq.objs.size s H fp (gH fp s2.heap) _)with A := X.A, calm := X.calm, pn := [], xe := λ_ _ => False } (gH fp s2.heap) σ3 H5 s5)
          have hD5 : H5 s.heap.objs.size = some (.lst vs) := up5.hh _ _ hD4;have gD5 : G5 s.heap.objs.size = none := by
            cases q : G5 s.heap.objs.size with
            |none => rfl
            |some o =>
              rcases up5.fr _ _ q with z|z;· rw[gD4]at z; cases z
              · rw[hD4]at z; cases z
          have ups := ((up'.trans up2).trans up4).trans up5;have hvl : vs.length < sizeLine := by rw[rp'.length]; omega
          refine yT (kQ (X := aP X N' scope Hq.objs.size s H fp) _ s5 σ3 H5 (.ref s.heap.objs.size) [v5] (.ref s.heap.objs.size) [u5] (λ_ H6 => H6 = upd H5 s.heap.objs.size (.lst (vs ++ [v5]))) I5 rfl (.cons r5 .nil)
            ⟨_, vs, v5, rfl, rfl, hD5, hvl, rfl⟩) (λ_ s6 ⟨_, H6, I6, _, e6⟩ => ?_) λ_ _ z => z;subst e6;have sub6 : Same G5 (upd H5 s.heap.objs.size (.lst (vs ++ [v5]))) := λa o e => by rw[aF (aJ e gD5)]; exact up5.sub a o e
          refine next I6 aV gD5 ⟨sub6, ups.gg, λa o e => ?_, ups.fr⟩ ?_ (ys7 := ys ++ [y]) ((((rp'.mono up2.gg).mono up4.gg).mono up5.gg).append (.cons rep5 .nil)) (by simp; omega) ?_
          · rw[aF (aJ e hD0)]; exact ups.hh a o e
          · exact⟨sub6, ((sr3.e.up up4).up up5).len, ((sr3.e.up up4).up up5).val, λj m C p fs h => absurd h (no3.obj j m C p fs)⟩
          · cases ez : hG asg gt ge (items.drop (i + 1)) ρ1 with
            |ok zs => rw[ez]at h'; simp only[R.ok_bind, j4, List.singleton_append]at h'⊢; exact h'
            |ex Cz => rw[ez]at h'; exact h'
            |no => rw[ez]at h'; exact h'
    ·
      have hie : i = items.length := by omega
      subst hie;rw[d9]at h';unfold hG at h';have h' : pT X.K G H Q (ys ++ []) := h';rw[rR]at h';refine yT (T.done (aP X N' scope Hq.objs.size s H fp) rfl rfl rfl hcalm items.length [] s' σ' H' (λ_ _ => False) I' (fpk I' rfl fr') tn' (hIt.2 (zE _))) (λr s1 ⟨hr, I1⟩ => ?_) λ_ _ z => z;subst hr;have eH : upd (λa => if a = s.heap.objs.size then none else H' a) s.heap.objs.size (.lst vs) = H' := by
        funext a
        unfold upd;by_cases e : a = s.heap.objs.size;· subst e; rw[if_pos rfl]; exact hD'.symm
        · rw[if_neg e];show(if a = s.heap.objs.size then none else H' a) = _;rw[if_neg e]
      have hn : (λa => if a = s.heap.objs.size then none else H' a) s.heap.objs.size = none := by simp
      have upn : Up G H G' (λa => if a = s.heap.objs.size then none else H' a) := by
        refine⟨λa o e => ?_, up'.gg, λa o e => ?_, up'.fr⟩;· have : a≠s.heap.objs.size := aJ e gD';simp only[this, sT]; exact up'.sub a o e
        · have : a≠s.heap.objs.size := aJ e hD0;simp only[this, sT]; exact up'.hh a o e
      obtain⟨m1, hm1, _⟩ := I1.loc;refine hR s.heap.objs.size Hq.objs.size s1 m1 vs G' _ upn hn hDC.symm (λ_ _ => trivial) (h' _ vs G' _ upn hn rp') hm1 I1.os I1.bare ?_ hCle (by rw[eH]; exact I1.base) (by rw[eH]; exact I1.hok);have := I1.free;show(if Hq.objs.size = s.heap.objs.size then none else H' Hq.objs.size) = none;rw[if_neg hDC.symm]; exact this
  exact Zo (loop _) (T.self X.A 0 _ _ _ st0' (loop _))


def An{M:Model}{A:Around}{B:Heap}{l:List Env}{cls a0:Value}{what:String}{env:Env}{Q:Value->Shared->Prop}(hf:env.frame=some L)(x:Heap.HeldW B l a cls a0 L s.heap)(h:∀h',Heap.HeldW B l a cls a0 L h'->s.heap.UpToSlots h'->E (.ref a) { s with heap:=h' }):wpAny M A (passOn what (.ref a) env:Sem Value) Q E s:=by
 obtain⟨hkb,hen,hl,oe,vs,T,oT,ts,he,hcls,hd,h1,hnT,hTe,hT,hdT,h3⟩:=x;have hsz:3<ts.size:=(Array.getElem?_eq_some_iff.mp h3).1;unfold PySem.passOn;refine z9 (v4 he hd h1 ?_);rw[if_neg (show ¬ ((Value.ref T==Value.none)=true) from by simp)];refine z9 ?_;rw[hf];unfold setFlight;refine z9 (v4 he hd h1 ?_);rw[if_pos (show(Value.ref T != Value.none)=true from by simp)];have oth:∀b,b≠T->(s.heap.update T (Obj.mapFields (·.setIfInBounds 3 ((some L).elim Value.none λf=>rawInt f)))).get? b=s.heap.get? b:=λb hb=>Ze _ _ (x9 hb);have rec':∀b o,s.heap.get? b=some o->(∀vs,o.data≠.fields vs)->b≠T:=λb o hb hnf q=>by rw[q,hT]at hb;injection hb with hb;subst hb;exact hnf ts hdT
 refine i6 hT hdT hsz (wpAny_throw (h _ ⟨λb o hbo=>(oth b λq=>by rw[q,hnT]at hbo;cases hbo).trans (hkb b o hbo),hen,hl.of_keeps λb o hb hnf=>⟨o,(oth b (rec' b o hb hnf)).trans hb,rfl⟩,?_⟩ λb o hb hnf=>⟨o.slots,(oth b (rec' b o hb hnf)).trans hb⟩));exact⟨oe,vs,T,_,_,(oth a (x9 hTe)).trans he,hcls,hd,h1,hnT,hTe,j2 _ hT (Zx (lJ hdT _)),lJ hdT _,by simp[hsz]⟩
def Fh{B:Heap}{l:List Env}{cls a0:Value}(x:Heap.HeldW B l a cls a0 L h)(sb:Heap.SameBut C h h')(hC:C∉frs l)(hd:∃o,h.get? C=some o/\∀vs,o.data≠.fields vs):Heap.HeldW (PySem.W.hideAll B [C]) l a cls a0 L h':=by
 obtain⟨hkb,hen,hl,oe,vs,T,oT,ts,he,hcls,hd1,h1,hnT,hTe,hT,hdT,h3⟩:=x;obtain⟨oC,eC,dC⟩:=hd;have na:a≠C:=λz=>by rw[z,eC]at he;cases he;exact dC _ hd1
 have nT:T≠C:=λz=>by rw[z,eC]at hT;cases hT;exact dC _ hdT
 have hid:∀b,B.get? b=none->(PySem.W.hideAll B [C]).get? b=none:=λb e=>by
  cases q:(PySem.W.hideAll B [C]).get? b with
  |none=>rfl
  |some o=>have:=mh _ q;rw[e]at this;cases this
 refine⟨λb o e=>?_,hid a hen,FunFrames.rebase hid ?_,oe,vs,T,oT,ts,(sb.2 a na).trans he,hcls,hd1,h1,hid T hnT,hTe,(sb.2 T nT).trans hT,hdT,h3⟩
 ·have nb:b≠C:=λz=>by rw[z,PySem.W.hideAll_none _ (Z0.2 rfl)]at e;cases e
  exact(sb.2 b nb).trans (hkb b o (mh _ e))
 ·have key:∀{l:List Env},C∉frs l->h.FunFrames B l->h'.FunFrames B l:=by
   intro l;induction l with
   |nil=>intro _ x;exact x
   |cons env l ih=>intro hc ⟨x1,⟨L,o,y1,y2,y3,y4⟩,x3⟩;rw[sJ y1]at hc;exact⟨x1,⟨L,o,y1,y2,(sb.2 L λz=>hc (by rw[z];exact uS ..)).trans y3,y4⟩,ih (λz=>hc (v9 _ z)) x3⟩
  exact key hC hl
def HX{m:Str->Option Value}(x:h.Ns C m):∃o,h.get? C=some o/\∀vs,o.data≠.fields vs:=by obtain⟨o,es,ep,e,d,_⟩:=x;exact⟨o,e,λvs z=>by rw[d]at z;cases z⟩
section
variable{elt:Expr}{x:Str}{px pos:Pos}{gt:Ev->R Bool}
def Ay(hst:X.stack=X.env::X.outer)(hfr:X.env.frame=some X.env.locals)(ok:CompOk X scope x N' ix)(hcalm:X.calm=true)(hi:PIF X (.Name x px) iter gi)(he:∀C s₂ H₂ fp pn xe,PF (jD X N' scope C s₂ H₂ fp pn xe) elt ge)(ht:∀C s₂ H₂ fp,PTs (aP X N' scope C s₂ H₂ fp) ifs gt)(hs:∀x,foldedSetIterable iter X.env x=pure x:=by intro _;rfl):PFL X (.ListComp elt [⟨.Name x px,iter,ifs,0⟩] scope pos) (yz gi ix gt ge):=by
 intro pins s σ H Q I h;obtain⟨G,ρ,st,h⟩:=h;rw[dO];refine yY rfl hs (eW λy hy hy2=>I.ok.has y.1 (.inl (ok.fr y hy hy2))) ok.kind ok.names ?_;have t:tG X (λG J items=>ItOk X.K G J items) gi σ H (λJ H1=>∃G1 items,Up G H G1 H1/\StE X.K G1 H1 σ ρ/\ItOk X.K G1 J items/\items.length<=sizeLine/\(hG (ur 0) gt ge items (lR ix ρ)).post (pT X.K G H Q) (Exx X σ G H)):=by
  refine⟨G,ρ,st,?_⟩;unfold yz at h;cases e:gi ρ with
  |ok items=>
   rw[e]at h;simp only[R.ok_bind]at h;by_cases hl:items.length<=sizeLine;·rw[if_pos hl]at h;exact λJ G1 H1 u r=>⟨G1,items,u,st.up u,r,hl,h⟩
   ·rw[if_neg hl]at h;exact h.elim
  |ex C=>rw[e]at h;exact h
  |no=>rw[e]at h;exact h
 refine thn (hi pins s σ H _ I t) λv s1 h1=>thn h1 λitv s2 h2=>?_;obtain⟨it,fp,tn,J,H2,e,I2,T,st2,f2,G2,items,u2,sE2,iok,hlen,h2⟩:=h2;subst e;have h2':(hG (ur 0) gt ge items (fu 1 ix ρ)).post (pT X.K G2 H2 Q) (Exx X σ G2 H2):=
  h2.mono (λds q l vs G' H' u hl r=>q l vs G' H' (u2.trans u) hl r) λC q=>q.up u2;have cok:∀b∈fp,LA X pins b:=λb hb=>by
  obtain⟨f0,f1,f2',f3,f4,f5⟩:=f2 b hb;exact⟨f3,f1,f4,f5⟩
 refine xt (n:=1) (asg:=ur 0) (iter:=iter) (pos:=pos) (L:=X.env.locals) (RR:=λacc cenv=>uO (model X.prog X.w) X.A X.xe (EP X pins σ Q) acc cenv) hst hfr ok.t hcalm (λC s₂ H₂ fp=>fF (X:=aP X N' scope C s₂ H₂ fp) (pos:=px) 0 ok.nd ok.hd (.inl (p9 ok.loc)) (.inr (p9 ok.loc))) nN he ht I2 T st2 f2 sE2 iok hlen h2' ?_ ?_;·intro Dd C s' m vs G' H' up hd hCD _ q hm hos hb hC hCl un hok;refine⟨m,hm,λh' hs'=>?_⟩;have hs':Heap.SameBut C s'.heap h':=hs';have I3:=I2.call' (H':=upd H' Dd (.lst vs)) (s':={ s' with heap:=h' }) (ch:=fp) hos (un.sameBut (λb o hbc e=>hs'.extBut b o hbc e) hCl) (hok.sameBut (λb o hbc e=>hs'.extBut b o hbc e) (by rw[aF hCD];exact hC)) hb cok;exact⟨.ref Dd,_,I3,rfl,q⟩
 ·intro Dd C a Cc s' m B a0 G' H' hex up hm hos hb hC hCl un hok ha hna held hk fpo stf;refine⟨m,hm,λh' hs'=>?_⟩;have hs':Heap.SameBut C s'.heap h':=hs';have hCf:C∉frs X.stack:=λz=>by obtain⟨o',e',_⟩:=FunFrames.data I2.stack _ z;exact absurd (zy e') (qp.mpr hCl)
  have un1:Un (frs X.stack) fp H2 H' s2.heap h':=un.sameBut (λb o hbc e=>hs'.extBut b o hbc e) hCl;have hok1:HOk X.prog X.w H' h':=hok.sameBut (λb o hbc e=>hs'.extBut b o hbc e) hC;have held1:=Fh held hs' hCf (HX hm);have nC:∀b,((∃o0,s2.heap.get? b=some o0)\/∃u,H' b=some u)->b≠C:=λb ho z=>by
   rcases ho with⟨o0,ho⟩|⟨u,ho⟩;·rw[z]at ho;exact absurd (zy ho) (qp.mpr hCl)
   ·rw[z,hC]at ho;cases ho
  have hk1:∀b o,b∉frs X.stack->((∃o0,s2.heap.get? b=some o0)\/∃u,H' b=some u)->h'.get? b=some o->(PySem.W.hideAll B [C]).get? b=some o:=λb o hb' ho e=>
   b8 _ (hk b o hb' ho ((hs'.2 b (nC b ho)).symm.trans e)) λz=>nC b ho (Z0.1 z);refine An (s:={ s' with heap:=h' }) (L:=X.env.locals) hfr held1 λh'' held2 sm=>?_;have dat:∀b∈frs X.stack,∀o,h'.get? b=some o->∀vs,o.data≠.fields vs:=λb hb' o e=>by
   obtain⟨o',e',d',_⟩:=FunFrames.data held1.2.2.1 b hb';rw[e]at e';cases e';exact d'
  refine hex (.ref a) _ ⟨G2,H2,.refl sE2.sub,pins,s2,a,rfl,I2,.inr (.inr ⟨G',H',X.env.locals,hfr,⟨hos,hb,⟨fp,cok,Un.flight un1 held2.1 sm hk1 (λb o e=>⟨o,e⟩) (λb hb'=>.inl hb') dat⟩,hok1.flight held2.1 hk1 stf,ha,hna,_,a0,held2,λb o hb' ho e=>?_⟩,up⟩)⟩;have ex:∃o',h'.get? b=some o':=by
   rcases id ho with⟨o0,ho'⟩|⟨u,ho'⟩
   ·by_cases hf:b∈fp;·obtain⟨o',e'⟩:=fpo b hf;exact⟨o',hs'.extBut b o' (nC b ho) e'⟩
    ·exact un1.there b o0 ho' hf
   ·exact(hok1 b u ho').there
  obtain⟨o',e'⟩:=ex;have q:=hk1 b o' hb' ho e';have e2:h''.get? b=some o:=e;rw[held2.1 b o' q]at e2;cases e2;exact q
end
section
variable{a b c e ix:Expr}{ga gi:Ev->R D}{pos p1 p2 p3 pl sp:Pos}
def Ed:D->List D->Option D
 |.str x,[.str [c]]=>some (.bl (x.getLast?==some c))
 |_,_=>none
noncomputable def LO:V->List V->Hp->VK->Prop:=λx vs H Q=>∃(y:Str)(c:Nat),x=.str y/\vs=[.str ⟨#[c]⟩]/\Q (.bl (Txt.endswith y ⟨#[c]⟩)) H
def Iq:MtR X "str.endswith" LO:=by intro pins s σ H x xs v us Q I rx rv ⟨y,c,ex,exs,q⟩;subst ex exs;obtain⟨t,rfl⟩:=rx;obtain⟨u,rfl,r1⟩:=rv.one;obtain⟨t',rfl⟩:=r1;exact SC.endswith ⟨.bl _,H,I,rfl,q⟩
def Bj(y:Str)(c:Nat):Txt.endswith y ⟨#[c]⟩=(y.cps.toList.getLast?==some c):=by
 have hl:y.length=y.cps.toList.length:=(Str.len_list y).symm;have key:=Za y c (y.length - 1);rw[List.getLast?_eq_getElem?,<- hl];unfold Txt.endswith;rw[Bool.eq_iff_iff,qb,<- key];show((decide (0+1<=y.length) && Builtin.Str.subAt y ⟨#[c]⟩ (y.length - 1))=true) ↔ (y.length - 1+1<=y.length/\_);rw[p6,lT];constructor;·exact λh=>⟨by omega,h.2⟩
 ·exact λh=>⟨by omega,h.2⟩
def HU(K:PySem.W.Frag):BA K "str" LO Ed:=by
 intro G H x xs dx ds d Q s rx rs e q;unfold Ed at e;split at e;·cases e;rename_i x0 c;obtain⟨v,rfl,r1⟩:=rs.one;obtain⟨i,rfl,ei,hi⟩:=rx.str_inv;obtain⟨j,rfl,ej,hj⟩:=r1.str_inv;subst ei;have:j=⟨#[c]⟩:=(Str.of_list ej).symm;subst this;refine⟨i,c,rfl,rfl,q _ G H (.refl s) ?_⟩;rw[Bj];exact .bl _
 ·cases e
def Jo{o:Expr}{ap cp:Pos}(ho:PF X o ga)(ha:PFA X [e] gl)(hbase:attributeBase o "endswith" X.env (eval o X.env)=eval o X.env:=by rfl)(hfew:((backTo cp (starEach [e] X.env)).all (λx=>!x.1) && (backToKw cp (keywordEach [] X.env)).all (λx=>x.1.isSome)
 && decide ([e].length+([]:List Keyword).length+(if ([]:List Keyword).isEmpty then 0 else 1)<30))=true:=by rfl)(hline:(ap.endLine==cp.line)=true:=by rfl)(hs:starEach [e] X.env=(false,eval e X.env)::starEach [] X.env:=by rfl):
  PF X (.Call (.Attribute o "endswith" ap) [e] [] cp) (fk "str" Ed ga gl):=iA oR PySem.F.slot_str_endswith PySem.F.type_str_endswith Iq (HU _) ho ha hbase hfew hline hs rfl
noncomputable def nM(c:Nat):List Nat->Option (List Nat×List Nat)
 | []=>none
 |d::r=>if d=c then some ([],r)else (nM c r).map λp=>(d::p.1,p.2)
noncomputable def ug(c:Nat)(x:List Nat):List Nat×List Nat×List Nat:=match nM c x with
 |some (p,q)=>(p,[c],q)
 |none=>(x,[],[])
noncomputable def BH:D->List D->Option D
 |.str x,[.str [c]]=>if x.length<=10000 then some (.tup [.str (ug c x).1,.str (ug c x).2.1,.str (ug c x).2.2])else none
 |_,_=>none
theorem yN{c:Nat}:∀{x:List Nat}{i:Nat},x[i]?=some c->(∀k,k<i->x[k]?≠some c)->nM c x=some (x.take i,x.drop (i+1))
 | [],i,h,_=>by simp at h
 |d::r,0,h,_=>by
  have:d=c:=by simpa using h
  rw[nM,if_pos this];rfl
 |d::r,i+1,h,hn=>by
  have hd:d≠c:=λz=>hn 0 (by omega) (by rw[z];rfl);have ih:=yN (x:=r) (i:=i) (by simpa using h) λk hk=>by have:=hn (k+1) (by omega);simpa using this
  rw[nM,if_neg hd,ih];rfl
theorem rM{c:Nat}:∀{x:List Nat},(∀i:Nat,x[i]?≠some c)->nM c x=none
 | [],_=>rfl
 |d::r,h=>by have hd:d≠c:=λz=>h 0 (by rw[z];rfl);rw[nM,if_neg hd,rM λi=>by have:=h (i+1);simpa using this];rfl
theorem vP{c:Nat}:∀{x p q:List Nat},nM c x=some (p,q)->p.length+q.length+1=x.length
 | [],_,_,h=>by simp[nM]at h
 |d::r,p,q,h=>by
  unfold nM at h;split at h;·cases h;simp
  ·cases e:nM c r with
   |none=>rw[e]at h;cases h
   |some z=>rw[e]at h;have ih:=vP (x:=r) (p:=z.1) (q:=z.2) e;cases h;simp;omega
def BN(y:Str)(c:Nat):((Txt.partition y ⟨#[c]⟩).1.cps.toList,(Txt.partition y ⟨#[c]⟩).2.1.cps.toList,(Txt.partition y ⟨#[c]⟩).2.2.cps.toList)=ug c y.cps.toList:=by
 have hl:y.length=y.cps.toList.length:=(Str.len_list y).symm;unfold Txt.partition ug;rcases StrLaws.occ_head y ⟨#[c]⟩ 1 (zE _)with⟨e,hn⟩|⟨i,r,e,hi,hn⟩;·rw[e,rM λi z=>hn i ((Za y c i).mpr z)];rfl
 ·rw[e,yN ((Za y c i).mp hi) λk hk z=>hn k hk ((Za y c k).mpr z)];show((y.cps.extract 0 i).toList,[c],(y.cps.extract (i+1) y.length).toList)=(_,[c],_);rw[Array.toList_extract,List.extract_eq_take_drop,Array.toList_extract,List.extract_eq_take_drop,hl]
  congr 2
  exact List.take_of_length_le (by rw[k9,lV];exact zE _)
noncomputable def Ls:V->List V->Hp->VK->Prop:=λx vs H Q=>∃(y:Str)(c:Nat),x=.str y/\vs=[.str ⟨#[c]⟩]/\y.length<=sizeLine/\∀l,H l=none->Q (.ref l) (upd H l (.tup [.str (Txt.partition y ⟨#[c]⟩).1,.str (Txt.partition y ⟨#[c]⟩).2.1,.str (Txt.partition y ⟨#[c]⟩).2.2]))
theorem IZ:MtR X "str.partition" Ls:=by
 intro pins s σ H x xs v us Q I rx rv ⟨y,c,ex,exs,hz,q⟩;subst ex exs;obtain⟨t,rfl⟩:=rx;obtain⟨u,rfl,r1⟩:=rv.one;obtain⟨t',rfl⟩:=r1;refine sZ F.slot_str_partition (j1 _ _ _) F.entry_str_partition (F.args_str_partition_2 _ _) (meets_str_partition y ⟨#[c]⟩ t t' rfl hz) ?_;have big:3<=sizeLine:=by decide
 have q:=q s.heap.objs.size I.fresh;unfold Txt.partition at q;revert q;cases Builtin.Str.occurrences y ⟨#[c]⟩ 0 y.length 1 with
 |nil=>intro q;exact⟨.ref s.heap.objs.size,_,I.laid (t':=s.toks+1) (o:=.tup [.str y,.str Str.empty,.str Str.empty]) (λb ob q=>zT _ q) (zE _) ⟨big,_,.cons ⟨_,rfl⟩ (.cons ⟨_,rfl⟩ (.cons ⟨_,rfl⟩ .nil)),qK _ _⟩,rfl,q⟩
 |cons i r=>intro q;exact⟨.ref s.heap.objs.size,_,I.laid (t':=s.toks+1+1) (o:=.tup [.str (Builtin.Str.strSub y 0 i),.str ⟨#[c]⟩,.str (Builtin.Str.strSub y (i+(⟨#[c]⟩:Str).length) y.length)]) (λb ob q=>zT _ q) (zE _) ⟨big,_,.cons ⟨_,rfl⟩ (.cons ⟨_,rfl⟩ (.cons ⟨_,rfl⟩ .nil)),qK _ _⟩,rfl,q⟩
def BU(c:Nat)(x:List Nat):(ug c x).1.length<=x.length/\(ug c x).2.1.length<=1/\(ug c x).2.2.length<=x.length:=by
 unfold ug;cases e:nM c x with
 |none=>simp
 |some z=>have:=vP (p:=z.1) (q:=z.2) e;simp;omega
def GL(K:PySem.W.Frag):BA K "str" Ls BH:=by
 intro G H x xs dx ds d Q s rx rs e q;unfold BH at e;split at e
 ·split at e
  ·rename_i x0 c hc;cases e;obtain⟨v,rfl,r1⟩:=rs.one;obtain⟨i,rfl,ei,hi⟩:=rx.str_inv;obtain⟨j,rfl,ej,hj⟩:=r1.str_inv;subst ei;have:j=⟨#[c]⟩:=(Str.of_list ej).symm;subst this;refine⟨i,c,rfl,rfl,hi,λl hl=>q _ _ _ (.new s hl) ?_⟩;have pl:=BN i c;have ln:=BU c i.cps.toList;rw[<- pl]at ln⊢;rw[Str.len_list]at ln;have one:∀z:Str,z.cps.toList.length<=sizeLine->Rep K (upd G l (.tup [.str (Txt.partition i ⟨#[c]⟩).1,.str (Txt.partition i ⟨#[c]⟩).2.1,.str (Txt.partition i ⟨#[c]⟩).2.2])) (.str z) (.str z.cps.toList):=λz hz=>.str z (by rw[<- Str.len_list];exact hz);have b1:1<=sizeLine:=by decide
   exact .tup (.of aV) (.cons (one _ (xS ln.1 hi)) (.cons (one _ (xS ln.2.1 b1)) (.cons (one _ (xS ln.2.2 hi)) .nil)))
  ·cases e
 ·cases e
def Kr{o:Expr}{ap cp:Pos}(ho:PF X o ga)(ha:PFA X [e] gl)(hbase:attributeBase o "partition" X.env (eval o X.env)=eval o X.env:=by rfl)(hfew:((backTo cp (starEach [e] X.env)).all (λx=>!x.1) && (backToKw cp (keywordEach [] X.env)).all (λx=>x.1.isSome)
 && decide ([e].length+([]:List Keyword).length+(if ([]:List Keyword).isEmpty then 0 else 1)<30))=true:=by rfl)(hline:(ap.endLine==cp.line)=true:=by rfl)(hs:starEach [e] X.env=(false,eval e X.env)::starEach [] X.env:=by rfl):
  PF X (.Call (.Attribute o "partition" ap) [e] [] cp) (fk "str" BH ga gl):=iA oR PySem.F.slot_str_partition PySem.F.type_str_partition IZ (GL _) ho ha hbase hfew hline hs rfl
def JO{f g h:Ev->R D}:AC (f::g::h::gs) ρ (.int 2)=h ρ:=rfl
def GM{x1 x2 x3:Str}{f1 f2 f3:List D->R D}(c1:Callee X.prog X.w X.K X.mg X.base x1 k n f1)(c2:Callee X.prog X.w X.K X.mg X.base x2 k n f2)(c3:Callee X.prog X.w X.K X.mg X.base x3 k n f3)(hr:Room k X.A)(hi:PF X ix gi)(ha:PFA X (e::es) gl)(hg1:Gl X x1:=by rfl)(hg2:Gl X x2:=by rfl)(hg3:Gl X x3:=by rfl)(hd1:(x1==("__debug__":Str))=false:=by decide)(hd2:(x2==("__debug__":Str))=false:=by decide)(hd3:(x3==("__debug__":Str))=false:=by decide)(he:starEach (e::es) X.env=(false,eval e X.env)::starEach es X.env:=by rfl)(hpl:(backTo pos (starEach es X.env)).any (·.1)=false:=by rfl)(hs:tT ix:=by exact λ_ _=>rfl)(hs1:starEach [.Name x1 p1,.Name x2 p2,.Name x3 p3] X.env=(false,eval (.Name x1 p1) X.env)::starEach [.Name x2 p2,.Name x3 p3] X.env:=by rfl)(hs2:starEach [.Name x2 p2,.Name x3 p3] X.env=(false,eval (.Name x2 p2) X.env)::starEach [.Name x3 p3] X.env:=by rfl)(hs3:starEach [.Name x3 p3] X.env=(false,eval (.Name x3 p3) X.env)::starEach [] X.env:=by rfl):
  PF X (.Call (.Subscript (.List [.Name x1 p1,.Name x2 p2,.Name x3 p3] pl) ix sp) (e::es) [] pos) (zW [aG n f1 gl,aG n f2 gl,aG n f3 gl] gi):=by
 intro pins s σ H Q I h;obtain⟨G,ρ,st,h⟩:=h;obtain⟨a1,fd1,ps1,F1,m1,k1,b1,l1⟩:=c1.ex;obtain⟨a2,fd2,ps2,F2,m2,k2,b2,l2⟩:=c2.ex;obtain⟨a3,fd3,ps3,F3,m3,k3,b3,l3⟩:=c3.ex;rw[yn];have key:PE X (.Subscript (.List [.Name x1 p1,.Name x2 p2,.Name x3 p3] pl) ix sp) (tOp (MB X.K) (NZ (zw (tC (.ref a1)) (zw (tC (.ref a2)) (zw (tC (.ref a3)) Mz)))) (tF X gi)):=GV ix_list (CK (dM (jy hg1 m1 rfl hd1) (dM (jy hg2 m2 rfl hd2) (dM (jy hg3 m3 rfl hd3) jI hs3) hs2) hs1)) hi hs;refine z9 (thn (key pins s σ H (λv H1=>∃G1,StE X.K G1 H1 σ ρ/\((v=.ref a1/\(aG n f1 gl ρ).post (Fin G1 H1 (Rep X.K) Q) (Exx X σ G1 H1))\/(v=.ref a2/\(aG n f2 gl ρ).post (Fin G1 H1 (Rep X.K) Q) (Exx X σ G1 H1))\/(v=.ref a3/\(aG n f3 gl ρ).post (Fin G1 H1 (Rep X.K) Q) (Exx X σ G1 H1)))) I ?_) λu s1 q=>?_)
 ·refine⟨by show 3<=sizeLine;decide,λl hl=>?_⟩;have u0:Up G H (upd G l (.lst [.ref a1,.ref a2,.ref a3])) (upd H l (.lst [.ref a1,.ref a2,.ref a3])):=.new st.sub hl;refine tG.intro (st.up u0) (mD u0 h) λd y G1 H1 u1 st1 r1 h1=>?_;cases r1 with
  |int i=>
   have h1:(if 0<=i then (match [aG n f1 gl,aG n f2 gl,aG n f3 gl][i.toNat]? with
    |some g=>g ρ
    |none=>.no)else .no:R D).post (Fin G1 H1 (Rep X.K) Q) (Exx X σ G1 H1):=h1;by_cases h0:0<=i
   ·rw[if_pos h0]at h1;obtain⟨j,rfl⟩:=Z8 h0;rw[sR]at h1;have hsq:SqL X.K H1 l [.ref a1,.ref a2,.ref a3]:=.of (u1.sub _ _ (u1.gg _ _ aV))
    match j,h1 with
    | 0,h1=>exact⟨l,_,_,_,rfl,rfl,hsq,rfl,G1,st1,.inl ⟨rfl,h1⟩⟩
    | 1,h1=>exact⟨l,_,_,_,rfl,rfl,hsq,rfl,G1,st1,.inr (.inl ⟨rfl,h1⟩)⟩
    | 2,h1=>exact⟨l,_,_,_,rfl,rfl,hsq,rfl,G1,st1,.inr (.inr ⟨rfl,h1⟩)⟩
    |j+3,h1=>exact h1.elim
   ·rw[if_neg h0]at h1;exact h1.elim
  |_=>exact h1.elim
 ·obtain⟨v,H1,I1,rv,G1,st1,q⟩:=q;rcases q with⟨rfl,q⟩|⟨rfl,q⟩|⟨rfl,q⟩;·cases rv;rw[<- l1]at q;exact tf F1 hr k1 b1 ha he hpl I1 st1 q
  ·cases rv;rw[<- l2]at q;exact tf F2 hr k2 b2 ha he hpl I1 st1 q
  ·cases rv;rw[<- l3]at q;exact tf F3 hr k3 b3 ha he hpl I1 st1 q
def GA{N:List Str}{x:Str}{pos:Pos}{s₂:Shared}{H₂:Hp}{pn:List (Addr×Obj)}{xe:Value->Shared->Prop}(h:At N i x)(hv:Vis (jD X N scope C s₂ H₂ fp pn xe).env.scope x:=by first|exact Or.inl rfl|exact Or.inr (Or.inl rfl)|exact Or.inr (Or.inr rfl))(hd:(x==("__debug__":Str))=false:=by decide)(hcd:(x==("__classdict__":Str))=false:=by decide):PF (jD X N scope C s₂ H₂ fp pn xe) (.Name x pos) (λρ=>rdV ρ i):=wm i h hv hd hcd
end
structure ClOk(N:List Str)(scope:Scope)(cl:List (Str×Addr))(σ:St)(H:Hp)(h:Heap):Prop where
 kind:scope.kind=.function
 nocell:∀y∈scope.names,y.2≠.cell
 inj:∀y z c,cl.lookup y=some c->cl.lookup z=some c->y=z
 has:∀y,scope.names.lookup y=some .free->∃c,cl.lookup y=some c
 cell:∀y c,cl.lookup y=some c->H c=none/\∃v,h.IsCell c v
 val:∀(i:Nat) y v,N[i]?=some y->σ[i]?=some (some v)->∃u c,RelV v u/\scope.names.lookup y=some .free/\cl.lookup y=some c/\h.IsCell c (some u)
 len:σ.length=N.length
section
variable{params:Arguments}{body:Expr}{pos:Pos}{c P:Addr}{ps:Array Value}{Q:Value->Shared->Prop}
structure Lam(X:Cx)(pins:List (Addr×Obj))(σ:St)(H:Hp)(s:Shared)(params:Arguments)(body:Expr)(scope:Scope)(f:Addr)(cd ctv pm:Value)(H1:Hp)(s1:Shared):Prop where
 inv:Inv X pins σ H1 s1
 hh:Same H H1
 new:∀a,H a=none->H1 a=none\/s.heap.objs.size<=a
 free:H1 f=none
 fn:s1.heap.get? f=some { cls:=.type "function",data:=.func (PySem.W.kla_fn "<lambda>" (X.env.qual++"<lambda>") params body scope (nB X.env scope.names []) pm cd ctv) }
 codeH:∃c o vs t u,cd=.ref c/\H1 c=some (.frz o u)/\o.data=.fields vs/\vs[1]?=some (.str (X.env.qual++"<lambda>") t)
end
structure FnFH(P:Program)(w:World)(K:PySem.W.Frag)(mg:Str->Option Value)(base:Heap)(k:Nat)(f:Addr)(fd:FuncData)(ps:List Str)(g:List D->R D):Prop where
 run:∀(A:Around)(x:Addr)(outer:List Env)(s:Shared)(H:Hp)(args:Args)(us:List Value)(vs:List V)(Q:VK)(E:XK),Room k A->Env0 P w K mg base A outer s H->BindsTo s fd args (ps.zip us)->Vals vs us->(vs.length=ps.length/\spF K g vs H Q E)->
  codeAny (model P w) (A.mark (some (.ref x))) (.call (.ref f) args) (CR (CXo P w) outer P w H s Q E) s
structure CalleeH(P:Program)(w:World)(K:PySem.W.Frag)(mg:Str->Option Value)(base:Heap)(x:Str)(k n:Nat)(g:List D->R D):Prop where
 ex:∃f fd ps,FnFH P w K mg base k f fd ps g/\mg x=some (.ref f)/\PySem.W.keepIn K (.ref f)=true/\Binds K fd ps []/\ps.length=n
noncomputable def Lf(P:Program)(w:World)(K:PySem.W.Frag)(mg:Str->Option Value)(base:Heap)(k:Nat)(s1:Shared)(G1 H1:Hp)(f:Addr)(m:R D):Prop:=
 ∀(Y:Cx)(pins:List (Addr×Obj))(σY:St)(G2 H2:Hp)(s2:Shared)(fs:List Addr)(Q:VK),Y.prog=P->Y.w=w->Y.K=K->Y.mg=mg->Y.base=base->Inv Y pins σY H2 s2->Room k Y.A->Un fs [] H1 H2 s1.heap s2.heap->Up G1 H1 G2 H2->
  m.post (Fin G2 H2 (Rep Y.K) Q) (Exx Y σY G2 H2)->(∃o fd,s2.heap.get? f=some o/\o.data=.func fd)/\wpAny (model Y.prog Y.w) Y.A (call (.ref f) []) (EP Y pins σY Q) Y.xe s2
structure Told(P:Program)(w:World)(K:PySem.W.Frag)(mg:Str->Option Value)(base:Heap)(x:Str)(k j:Nat)(g:R D->R D):Prop where
 ex:∃ft,mg x=some (.ref ft)/\PySem.W.keepIn K (.ref ft)=true/\∀(A:Around)(outer:List Env)(s1:Shared)(G1 H1:Hp)(f:Addr)(m:R D)(Q:VK)(E:XK),Room k A->Env0 P w K mg base A outer s1 H1->Same G1 H1->Lf P w K mg base j s1 G1 H1 f m->
  (g m).post (Fin G1 H1 (Rep K) Q) (λC=>∀G' H',Up G1 H1 G' H'->E (.ref C) none H')->codeAny (model P w) A (.call (.ref ft) ⟨[.ref f],[]⟩) (CR (CXo P w) outer P w H1 s1 Q E) s1
structure LamAt(X:Cx):Prop where
 ex:∃c P q,X.env.code=.ref c/\(∀h,X.K.In h->PySem.W.CodeHd h c P)/\Mw X.base P q/\q=X.env.qual++"<lambda>"/\X.base.BuiltinsAt X.mg P/\mainGlobals≠P
structure LamOk(X:Cx)(scope:Scope)(N':List Str)(ix:List Nat):Prop where
 kind:scope.kind=.function
 co:scope.isCoroutine=false
 gen:scope.isGenerator=false
 cell:∀y∈scope.names,y.2≠.cell
 fr:∀y∈scope.names,y.2=.free->X.env.kindOf y.1=some .cell
 tl:N'=ix.map λ(i:Nat)=>X.N.getD i Str.empty
 lt:∀i∈ix,i<X.N.length
 fre:∀y∈N',scope.names.lookup y=some .free/\(y,NameKind.free)∈scope.names
structure LamDef(K:PySem.W.Frag)(mg:Str->Option Value)(fd:FuncData)(Pt:Addr):Prop where
 ex:∃c,fd.code=.ref c/\∀h,K.In h->PySem.W.CodeHd h c Pt
 ne:mainGlobals≠Pt
structure LamB(K:PySem.W.Frag)(mg:Str->Option Value)(base:Heap)(qual:Str)(fd:FuncData)(Pt:Addr):Prop where
 ld:LamDef K mg fd Pt
 tb:Mw base Pt (qual++".<locals>."++"<lambda>")
 bm:base.BuiltinsAt mg Pt
def hid(H:Hp)(ow:kK):Hp:=λa=>if (ow a).isSome=true then none else H a
def rV{o:HO}(h:hid H ow a=some o):H a=some o/\ow a=none:=by
 unfold hid at h;split at h;·cases h
 ·rename_i q;exact⟨h,by cases e:ow a with|none=>rfl|some t=>rw[e]at q;exact absurd rfl q⟩
def jq{t:Nat×Nat}(h:ow a=some t):hid H ow a=none:=by unfold hid;rw[h];exact if_pos rfl
def pC(h:ow a=none):hid H ow a=H a:=by unfold hid;rw[h];exact if_neg (by simp)
def HR(H:Hp)(ow:kK):Same (hid H ow) H:=λa o e=>(rV e).1
noncomputable def zo(i j:Nat)(ow:kK):kK:=λa=>match ow a with
 |some (i',t)=>if i'=i then some (j,t)else none
 |none=>none
def xY{t:Nat}(h:ow a=some (i,t)):zo i j ow a=some (j,t):=by unfold zo;rw[h];exact if_pos rfl
def DP{t:Nat×Nat}(h:zo i j ow a=some t):ow a=some (i,t.2)/\t.1=j:=by
 unfold zo at h;split at h
 ·rename_i i' t' e;split at h;·rename_i z;subst z;cases h;exact⟨e,rfl⟩
  ·cases h
 ·cases h
section
variable{K:PySem.W.Frag}{H₀:Hp}{p:Addr}{fs:List (Nat×Fd)}
def FdAt.hid{m':Bool}:∀{fd:Fd}{v:V},FdAt K H₀ G H ow i m k fd v->FdAt K (L2.hid H ow) G H ow i m' k fd v
 |.val d,v,r=>r
 |.own ds,v,⟨l,ws,e,h1,h2,h3,h4,h5⟩=>⟨l,ws,e,h1,h2,λ_=>jq h5,h4,h5⟩
 |.dic _,v,⟨l,ws,e,h1,h2,h3,h4,h5⟩=>⟨l,ws,e,h1,h2,λ_=>jq h5,h4,h5⟩
theorem FdsAt.hid{m':Bool}:∀{fs:List (Nat×Fd)}{vs:List (Str×V)},FdsAt K H₀ G H ow i m fs vs->FdsAt K (L2.hid H ow) G H ow i m' fs vs
 |_,_,.nil=>.nil
 |_,_,.cons h nk r t=>.cons h nk (FdAt.hid r) (FdsAt.hid t)
def InsAt.hid(h:InsAt K H₀ G H ow i m C p fs)(m':Bool):InsAt K (L2.hid H ow) G H ow i m' C p fs:=by obtain⟨dx,vs,h1,h2,h3,h4,h5,h6,h7,h8⟩:=h;exact⟨dx,vs,h1,h2,h3,h4,λ_=>⟨jq h6,jq h7⟩,h6,h7,h8.hid⟩
def DcoAt.hid(h:DcoAt K H₀ G H ow i m p fs)(m':Bool):DcoAt K (L2.hid H ow) G H ow i m' p fs:=
 let⟨o,xs,ks,ds,h1,h2,h3,h4,h5,h6,h7⟩:=h
 ⟨o,xs,ks,ds,h1,h2,λ_=>jq h4,h4,h5,h6,h7⟩
def ObjAt.hid(h:ObjAt K H₀ G H ow i m C p fs)(m':Bool):ObjAt K (L2.hid H ow) G H ow i m' C p fs:=h.imp (λz=>⟨z.1,z.2.hid m'⟩) λz=>⟨z.1,z.2.hid m'⟩
def FdAt.ro{H₀':Hp}:∀{fd:Fd}{v:V},FdAt K H₀ G H ow i m k fd v->FdAt K H₀' G H ow i false k fd v
 |.val d,v,r=>r
 |.own ds,v,⟨l,ws,e,h1,h2,h3,h4,h5⟩=>⟨l,ws,e,h1,h2,λz=>absurd z (by decide),h4,h5⟩
 |.dic _,v,⟨l,ws,e,h1,h2,h3,h4,h5⟩=>⟨l,ws,e,h1,h2,λz=>absurd z (by decide),h4,h5⟩
theorem FdsAt.ro{H₀':Hp}:∀{fs:List (Nat×Fd)}{vs:List (Str×V)},FdsAt K H₀ G H ow i m fs vs->FdsAt K H₀' G H ow i false fs vs
 |_,_,.nil=>.nil
 |_,_,.cons h nk r t=>.cons h nk (FdAt.ro r) (FdsAt.ro t)
def InsAt.ro(h:InsAt K H₀ G H ow i m C p fs)(H₀':Hp):InsAt K H₀' G H ow i false C p fs:=by obtain⟨dx,vs,h1,h2,h3,h4,h5,h6,h7,h8⟩:=h;exact⟨dx,vs,h1,h2,h3,h4,λz=>absurd z (by decide),h6,h7,h8.ro⟩
def DcoAt.ro(h:DcoAt K H₀ G H ow i m p fs)(H₀':Hp):DcoAt K H₀' G H ow i false p fs:=
 let⟨o,xs,ks,ds,h1,h2,h3,h4,h5,h6,h7⟩:=h
 ⟨o,xs,ks,ds,h1,h2,λz=>(nomatch z),h4,h5,h6,h7⟩
def ObjAt.ro(h:ObjAt K H₀ G H ow i m C p fs)(H₀':Hp):ObjAt K H₀' G H ow i false C p fs:=h.imp (λz=>⟨z.1,z.2.ro H₀'⟩) λz=>⟨z.1,z.2.ro H₀'⟩
end
noncomputable def hU(m:Bool)(C p:Addr)(fs:List (Nat×Fd))(n:Nat)(ds:List D):Ev:=some (.obj m C p fs)::(ds.map (λd=>some (.val d))++List.replicate (n - (ds.length+1)) none)
def wj{K:PySem.W.Frag}{H₀:Hp}{p:Addr}{fs:List (Nat×Fd)}{N:List Str}{us:List V}(sub0:Same G H₀)(up:Up G H₀ G H)(r:Reps K G us ds)(ob:ObjAt K H₀ G H ow 0 m C p fs):
  StR K G H₀ G H (kG N (.ref p::us)) (hU m C p fs N.length ds):=by
 have hl:=r.length;have get:∀(i:Nat) x,(hU m C p fs N.length ds)[i]?=some (some x)->(i=0/\x=.obj m C p fs)\/∃k d,i=k+1/\ds[k]?=some d/\x=.val d:=λi x e=>by
  cases i with
  |zero=>left;cases e;exact⟨rfl,rfl⟩
  |succ k=>
   right;unfold hU at e;rw[Zv]at e;by_cases hi:k<ds.length
   ·rw[o6 (by simpa using hi),ue]at e;cases q:ds[k]? with
    |none=>rw[q]at e;cases e
    |some d=>rw[q]at e;cases e;exact⟨k,d,rfl,q,rfl⟩
   ·rw[n9 (by simpa using hi),l8]at e;split at e <;> cases e
 have obs:ObSt K H₀ G H (kG N (.ref p::us)) (hU m C p fs N.length ds):=by
  refine⟨ow,λi es l e=>?_,λi m' C' p' fs' e=>?_⟩;·rcases get i _ e with⟨_,z⟩|⟨k,d,_,_,z⟩ <;> cases z
  ·rcases get i _ e with⟨rfl,z⟩|⟨k,d,_,_,z⟩;·cases z;exact⟨rfl,ob⟩
   ·cases z
 refine⟨⟨up.sub,?_,λi d e=>?_,obs.rd⟩,sub0,up,λi es e=>?_,λi j es fs l e=>?_,obs⟩;·simp[kG,hU,hl]
 ·rcases get i _ e with⟨_,z⟩|⟨k,d',rfl,e',z⟩;·cases z
  ·cases z;obtain⟨v,ev,rv⟩:=r.get e';refine⟨v,?_,rv⟩;unfold kG;rw[tI,ZC,Zv,o6 (by have:=(u6.mp ev).1;simpa using this),ue,ev];rfl
 ·rcases get i _ e with⟨_,z⟩|⟨k,d,_,_,z⟩ <;> cases z
 ·rcases get i _ e with⟨_,z⟩|⟨k,d,_,_,z⟩ <;> cases z
inductive RM where
 |ok (d:D) (fs:List (Nat×Fd))|rd (d:D)|ex (C:Addr)|no
abbrev MF:=List (Nat×Fd)->List D->RM
noncomputable def rE(C:Addr)(g:Ev->O)(n:Nat)(F:MF):Prop:=∀p fs ds,match F fs ds with
 |.ok d fs'=>∃ρ',ρ'[0]?=some (some (.obj true C p fs'))/\(g (hU true C p fs n ds)=.re d ρ'\/(g (hU true C p fs n ds)=.nx ρ'/\d=.non))
 |.rd d=>g (hU false C p fs n ds)=.rt d
 |.ex E=>∃ρ',g (hU false C p fs n ds)=.ex E ρ'
 |.no=>True
noncomputable def spM(K:PySem.W.Frag)(C:Addr)(F:MF):Sp:=λvs H Q E=>∃G p us ds fs ow,vs=.ref p::us/\Reps K G us ds/\Same G H/\(∀a t,ow a=some t->G a=none)/\ObjAt K (λ_=>none) G H ow 0 true C p fs/\match F fs ds with
 |.ok d fs'=>∀v G' H' ow',Up G (hid H ow) G' H'->ObjAt K (hid H ow) G' H' ow' 0 true C p fs'->Rep K G' v d->Q v H'
 |.rd d=>∀v G' H',Up G H G' H'->Rep K G' v d->Q v H'
 |.ex C'=>∀G' H',Up G H G' H'->E (.ref C') none H'
 |.no=>False
noncomputable abbrev FnM(P:Program)(w:World)(K:PySem.W.Frag)(mg:Str->Option Value)(base:Heap)(k:Nat)(f:Addr)(fd:FuncData)(ps:List Str)(C:Addr)(F:MF):Prop:=FnOk P w K mg base (CXo P w) k f fd ps (λvs H Q E=>vs.length=ps.length/\spM K C F vs H Q E)
def Ky(sub:Same G H)(hg:∀a t,ow a=some t->G a=none):Same G (hid H ow)/\Up G (hid H ow) G H:=by
 have s:Same G (hid H ow):=λa o e=>by
  cases q:ow a with
  |none=>rw[pC q];exact sub a o e
  |some t=>rw[hg a t q]at e;cases e
 exact⟨s,sub,.refl _,HR H ow,λ_ _ e=>.inl e⟩
def Fun.okM{w:World}{K:PySem.W.Frag}{mg:Str->Option Value}{base:Heap}{x:Str}{N:List Str}{F:MF}(Fn:Fun K x qual st f fd)(S:FnScope N ps (ar st)){g:Ev->O}(ok:rE C g N.length F)(hbody:∀(cdv:Value)(A:Around)(outer:List Env)(s:Shared)(H:Hp)(E:XK),Room k (A.deeper (envOfC qual (ar st) s.heap.objs.size f cdv))->lO (fV (CXo P w) P w K mg base N qual (ar st) f cdv A outer s H E) (cg st) g):
  FnM P w K mg base (k+1) f fd ps C F:=by
 obtain⟨oc,od,kV,doc,pm,an,cdv,ct,osl,rfl,lk,hcd⟩:=Fn.ex;refine IC lk hcd S (λvs H Q E h=>h.1) λA outer s H vs Q E hr hsp=>?_;obtain⟨hl,G,p,us,ds,fs,ow,rfl,r,sub,og,ob,h⟩:=hsp;have o:=ok p fs ds;have rdo:StR K G H G H (kG N (.ref p::us)) (hU false C p fs N.length ds):=wj sub (.refl sub) r (ob.ro H);cases q:F fs ds with
 |no=>rw[q]at h;exact h.elim
 |rd d=>rw[q]at h o;refine⟨_,hbody cdv A outer s H E hr G H,G,_,rdo,?_⟩;have o:g (hU false C p fs N.length ds)=.rt d:=o;rw[o];exact λv G' H' u rv=>h v G' H' u rv
 |ex C'=>rw[q]at h o;obtain⟨ρ',o⟩:=o;refine⟨_,hbody cdv A outer s H E hr G H,G,_,rdo,?_⟩;rw[o];exact λe s' fl=>tY fl h
 |ok d fs'=>
  rw[q]at h o;obtain⟨ρ',e0,o⟩:=o;obtain⟨s0,u0⟩:=Ky sub og;refine⟨_,hbody cdv A outer s H E hr G (hid H ow),G,hU true C p fs N.length ds,wj s0 u0 r (ob.hid true),?_⟩;have fin:∀σ G' H',StR K G (hid H ow) G' H' σ ρ'->∃ow',ObjAt K (hid H ow) G' H' ow' 0 true C p fs':=λσ G' H' sr=>by obtain⟨ow',_,o2⟩:=sr.ob;exact⟨ow',(o2 0 true C p fs' e0).2⟩
  rcases o with o|⟨o,rfl⟩;·rw[o];intro v σ G' H' sr rv;obtain⟨ow',z⟩:=fin σ G' H' sr;exact h v G' H' ow' sr.up z rv
  ·rw[o];intro σ G' H' sr;obtain⟨ow',z⟩:=fin σ G' H' sr;exact h .non G' H' ow' sr.up z .non
noncomputable def yo(i:Nat)(m:Bool)(H₀ G H:Hp)(ow:kK):kK:=λa=>open Classical in if (∃o,H a=some o)/\G a=none/\(m=true->H₀ a=none)then zo i 0 ow a else none
section
variable{K:PySem.W.Frag}{H₀:Hp}{p:Addr}{fs:List (Nat×Fd)}
def pD{t:Nat}{o:HO}(h:ow a=some (i,t))(e:H a=some o)(g:G a=none)(z:m=true->H₀ a=none):yo i m H₀ G H ow a=some (0,t):=by unfold yo;rw[if_pos ⟨⟨o,e⟩,g,z⟩];exact xY h
def wX{t:Nat×Nat}(h:yo i m H₀ G H ow a=some t):ow a=some (i,t.2)/\(∃o,H a=some o)/\G a=none/\(m=true->H₀ a=none):=by
 unfold yo at h;split at h;·rename_i q;exact⟨(DP h).1,q⟩
 ·cases h
def FdAt.cut:∀{fd:Fd}{v:V},FdAt K H₀ G H ow i m k fd v->FdAt K (λ_=>none) G H (yo i m H₀ G H ow) 0 true k fd v
 |.val d,v,r=>r
 |.own ds,v,⟨l,ws,e,h1,h2,h3,h4,h5⟩=>⟨l,ws,e,h1,h2,λ_=>rfl,h4,pD h5 h1 h2 h3⟩
 |.dic _,v,⟨l,ws,e,h1,h2,h3,h4,h5⟩=>⟨l,ws,e,h1,h2,λ_=>rfl,h4,pD h5 h1 h2 h3⟩
theorem FdsAt.cut:∀{fs:List (Nat×Fd)}{vs:List (Str×V)},FdsAt K H₀ G H ow i m fs vs->FdsAt K (λ_=>none) G H (yo i m H₀ G H ow) 0 true fs vs
 |_,_,.nil=>.nil
 |_,_,.cons h nk r t=>.cons h nk (FdAt.cut r) (FdsAt.cut t)
def InsAt.cut(h:InsAt K H₀ G H ow i m C p fs):InsAt K (λ_=>none) G H (yo i m H₀ G H ow) 0 true C p fs:=by obtain⟨dx,vs,h1,h2,h3,h4,h5,h6,h7,h8⟩:=h;exact⟨dx,vs,h1,h2,h3,h4,λ_=>⟨rfl,rfl⟩,pD h6 h1 h3 λz=>(h5 z).1,pD h7 h2 h4 λz=>(h5 z).2,h8.cut⟩
def DcoAt.cut(h:DcoAt K H₀ G H ow i m p fs):DcoAt K (λ_=>none) G H (yo i m H₀ G H ow) 0 true p fs:=
 let⟨o,xs,ks,ds,h1,h2,h3,h4,h5,h6,h7⟩:=h
 ⟨o,xs,ks,ds,h1,h2,λ_=>rfl,pD h4 h1 h2 h3,h5,h6,h7⟩
def ObjAt.cut(h:ObjAt K H₀ G H ow i m C p fs):ObjAt K (λ_=>none) G H (yo i m H₀ G H ow) 0 true C p fs:=h.imp (λz=>⟨z.1,z.2.cut⟩) λz=>⟨z.1,z.2.cut⟩
end
section
variable{K:PySem.W.Frag}{H₀ H₀':Hp}{ow2:kK}{p:Addr}
def FdAt.newtag(h:∀a t,ow a=some (0,t)->H₀ a=none->ow2 a=some (i,t))(z:∀a,H₀ a=none->H₀' a=none):∀{fd:Fd}{v:V},FdAt K H₀ G H ow 0 true k fd v->FdAt K H₀' G H ow2 i true k fd v
 |.val d,v,r=>r
 |.own ds,v,⟨l,ws,e,h1,h2,h3,h4,h5⟩=>⟨l,ws,e,h1,h2,λ_=>z l (h3 rfl),h4,h l _ h5 (h3 rfl)⟩
 |.dic _,v,⟨l,ws,e,h1,h2,h3,h4,h5⟩=>⟨l,ws,e,h1,h2,λ_=>z l (h3 rfl),h4,h l _ h5 (h3 rfl)⟩
theorem FdsAt.newtag(h:∀a t,ow a=some (0,t)->H₀ a=none->ow2 a=some (i,t))(z:∀a,H₀ a=none->H₀' a=none):∀{fs:List (Nat×Fd)}{vs:List (Str×V)},FdsAt K H₀ G H ow 0 true fs vs->FdsAt K H₀' G H ow2 i true fs vs
 |_,_,.nil=>.nil
 |_,_,.cons k nk r t=>.cons k nk (FdAt.newtag h z r) (FdsAt.newtag h z t)
def InsAt.newtag{fs:List (Nat×Fd)}(h:∀a t,ow a=some (0,t)->H₀ a=none->ow2 a=some (i,t))(z:∀a,H₀ a=none->H₀' a=none)(o:InsAt K H₀ G H ow 0 true C p fs):InsAt K H₀' G H ow2 i true C p fs:=by obtain⟨dx,vs,h1,h2,h3,h4,h5,h6,h7,h8⟩:=o;exact⟨dx,vs,h1,h2,h3,h4,λ_=>⟨z p (h5 rfl).1,z dx (h5 rfl).2⟩,h p _ h6 (h5 rfl).1,h dx _ h7 (h5 rfl).2,h8.newtag h z⟩
def DcoAt.newtag{fs:List (Nat×Fd)}(h:∀a t,ow a=some (0,t)->H₀ a=none->ow2 a=some (i,t))(z:∀a,H₀ a=none->H₀' a=none)(o:DcoAt K H₀ G H ow 0 true p fs):DcoAt K H₀' G H ow2 i true p fs:=
 let⟨o,xs,ks,ds,h1,h2,h3,h4,h5,h6,h7⟩:=o
 ⟨o,xs,ks,ds,h1,h2,λ_=>z p (h3 rfl),h p 0 h4 (h3 rfl),h5,h6,h7⟩
def ObjAt.newtag{fs:List (Nat×Fd)}(h:∀a t,ow a=some (0,t)->H₀ a=none->ow2 a=some (i,t))(z:∀a,H₀ a=none->H₀' a=none)(o:ObjAt K H₀ G H ow 0 true C p fs):ObjAt K H₀' G H ow2 i true C p fs:=o.imp (λy=>⟨y.1,y.2.newtag h z⟩) λy=>⟨y.1,y.2.newtag h z⟩
end
def oP:∀j,j<fnames.length->∀k,k<fnames.length->eD j=eD k->j=k:=by decide +kernel
noncomputable def ml(k:Nat)(fd:Fd):List (Nat×Fd)->List (Nat×Fd)
 | []=>[(k,fd)]
 | (j,x)::r=>if j=k then (j,fd)::r else (j,x)::ml k fd r
theorem oU{k j:Nat}{fd:Fd}(h:j≠k):∀{fs:List (Nat×Fd)},fs.lookup j=none->(ml k fd fs).lookup j=none
 | [],_=>by
  have z:(j==k)=false:=by simp[h]
  simp only[ml,wR,z,List.lookup_nil]
 | (a,x)::r,e=>by
  have ha:(j==a)=false:=by
   cases q:j==a with
   |false=>rfl
   |true=>simp only[wR,q]at e;cases e
  have er:r.lookup j=none:=by simpa only[wR,ha]using e
  unfold ml;by_cases z:a=k;·rw[if_pos z];simpa only[wR,ha]using er
  ·rw[if_neg z];simp only[wR,ha];exact oU h er
section
variable{K:PySem.W.Frag}{H₀:Hp}
theorem FdsAt.keys:∀{fs:List (Nat×Fd)}{vs:List (Str×V)},FdsAt K H₀ G H ow i m fs vs->∀j fd,fs.lookup j=some fd->j<fnames.length
 |_,_,.nil,j,fd,e=>by simp at e
 |_,_,.cons (k:=a) h nk r t,j,fd,e=>by
  cases q:j==a with
  |true=>rw[qb.mp q];exact h
  |false=>simp only[wR,q]at e;exact FdsAt.keys t j fd e
theorem FdsAt.get:∀{fs:List (Nat×Fd)}{vs:List (Str×V)}{fd:Fd},FdsAt K H₀ G H ow i m fs vs->fs.lookup k=some fd->∃v,vs.lookup (eD k)=some v/\FdAt K H₀ G H ow i m k fd v
 |_,_,_,.nil,e=>by simp at e
 |_,_,fd,.cons (k:=a) h nk r t,e=>by
  cases q:k==a with
  |true=>have z:=qb.mp q;subst z;simp only[wR,q]at e;cases e;exact⟨_,by simp[wR],r⟩
  |false=>
   simp only[wR,q]at e;obtain⟨v,e1,e2⟩:=FdsAt.get t e;have hk:=t.keys k fd e;have ne:(eD k==eD a)=false:=by
    cases z:eD k==eD a with
    |false=>rfl
    |true=>have:=oP k hk a h (l9 z);rw[this]at q;simp at q
   exact⟨v,by simp only[wR,ne];exact e1,e2⟩
theorem FdsAt.put{fd:Fd}(hk:k<fnames.length)(r:FdAt K H₀ G H ow i m k fd v):∀{fs:List (Nat×Fd)}{vs:List (Str×V)},FdsAt K H₀ G H ow i m fs vs->FdsAt K H₀ G H ow i m (ml k fd fs) (pq (eD k) v vs)
 |_,_,.nil=>.cons hk rfl r .nil
 |_,_,.cons (k:=a) h nk r' t=>by
  unfold ml pq;by_cases z:a=k;·subst z;rw[if_pos rfl,if_pos rfl];exact .cons h nk r t
  ·rw[if_neg z,if_neg (λq=>z (oP a h k hk q))];exact .cons h (oU (λq=>z q) nk) r' (FdsAt.put hk r t)
theorem FdsAt.len:∀{fs:List (Nat×Fd)}{vs:List (Str×V)},FdsAt K H₀ G H ow i m fs vs->vs.length=fs.length
 |_,_,.nil=>rfl
 |_,_,.cons h nk r t=>by simp[FdsAt.len t]
theorem FdsAt.keepL{ow2:kK}(h:∀l o,H l=some o->(∀C dx vs,o≠HO.ins C dx vs)->H' l=some o/\ow2 l=ow l):∀{fs:List (Nat×Fd)}{vs:List (Str×V)},FdsAt K H₀ G H ow i m fs vs->FdsAt K H₀ G H' ow2 i m fs vs
 |_,_,.nil=>.nil
 |_,_,.cons (fd:=fd) hk nk r t=>.cons hk nk (by
   cases fd with
   |val d=>exact r
   |own ds=>
    obtain⟨l,ws,e,h1,h2,h3,h4,h5⟩:=r;have q:=h l _ h1 λ_ _ _ z=>by cases z
    exact⟨l,ws,e,q.1,h2,h3,h4,by rw[q.2];exact h5⟩
   |dic kds=>
    obtain⟨l,ws,e,h1,h2,h3,h4,h5⟩:=r;have q:=h l _ h1 λ_ _ _ z=>by cases z
    exact⟨l,ws,e,q.1,h2,h3,h4,by rw[q.2];exact h5⟩) (FdsAt.keepL h t)
end
def StR.objTo{K:PySem.W.Frag}{H₀:Hp}{p:Addr}{fs fs':List (Nat×Fd)}{ow2:kK}(s:StR K G₀ H₀ G H σ ρ)(e:ρ[i]?=some (some (.obj true C p fs)))(o1:∀(j:Nat) ds l,ρ[j]?=some (some (.own ds))->σ[j]?=some (some (.ref l))->ow l=some (j,0))(o2:∀(j:Nat) m C p fs,ρ[j]?=some (some (.obj m C p fs))->σ[j]?=some (some (.ref p))/\ObjAt K H₀ G H ow j m C p fs)(hh:∀a o,H a=some o->(∀t,ow a≠some (i,t))->H' a=some o)(h0:Same H₀ H')(sub:Same G H')(oo:∀a j t o,j≠i->ow a=some (j,t)->H a=some o->ow2 a=some (j,t))(ob:ObjAt K H₀ G H' ow2 i true C p fs'):StR K G₀ H₀ G H' σ (ρ.set i (some (.obj true C p fs'))):=by
 have hl:i<ρ.length:=(u6.mp e).1;have get:∀(j:Nat) x,(ρ.set i (some (.obj true C p fs')))[j]?=some (some x)->(j=i/\x=.obj true C p fs')\/(j≠i/\ρ[j]?=some (some x)):=λj x h=>by
  by_cases z:i=j;·subst z;rw[uV hl]at h;exact .inl ⟨rfl,by injection (xz h)with q;exact q.symm⟩
  ·rw[t8 z]at h;exact .inr ⟨λq=>z q.symm,h⟩
 have ob':ObSt K H₀ G H' σ (ρ.set i (some (.obj true C p fs'))):=by
  refine⟨ow2,λj ds l h1 h2=>?_,λj m' C' p' fs'' h1=>?_⟩
  ·rcases get j _ h1 with⟨_,z⟩|⟨nj,f1⟩;·cases z
   ·obtain⟨l2,vs,q1,q2,_⟩:=s.own j ds f1;rw[h2]at q1;cases q1;exact oo l j 0 _ nj (o1 j ds l f1 h2) q2
  ·rcases get j _ h1 with⟨rfl,z⟩|⟨nj,f1⟩;·cases z;exact⟨(o2 j true C p fs e).1,ob⟩
   ·exact⟨(o2 j m' C' p' fs'' f1).1,(o2 j m' C' p' fs'' f1).2.keep ⟨λa t o q1 q=>hh a o q (λt' z=>by rw[q1]at z;cases z;exact nj rfl),.refl _,λa t o _ _ n=>n,λa t o q1 q=>oo a j t o nj q1 q,λa o _ _ n=>n⟩⟩
 refine⟨⟨sub,by simp[s.e.len],λj d h=>?_,ob'.rd⟩,s.sub0,⟨sub,s.up.gg,h0,s.up.fr⟩,λj ds h=>?_,λj k ds es l q1 q2 q3 q4=>?_,ob'⟩
 ·rcases get j _ h with⟨_,z⟩|⟨_,f1⟩;·cases z
  ·exact s.e.val j d f1
 ·rcases get j _ h with⟨_,z⟩|⟨nj,f1⟩;·cases z
  ·obtain⟨l,vs,p1,p2,p3,p4,p5⟩:=s.own j ds f1;exact⟨l,vs,p1,hh l _ p2 (λt z=>by rw[o1 j ds l f1 p1]at z;cases z;exact nj rfl),p3,p4,p5⟩
 ·rcases get j _ q1 with⟨_,z⟩|⟨nj,f1⟩;·cases z
  ·rcases get k _ q2 with⟨_,z⟩|⟨nk,f2⟩;·cases z
   ·exact s.inj j k ds es l f1 f2 q3 q4
section
variable{K:PySem.W.Frag}{H₀:Hp}{p dx:Addr}{fs:List (Nat×Fd)}{vs:List (Str×V)}
def StR.fput(s:StR K G₀ H₀ G H σ ρ)(e:ρ[i]?=some (some (.obj true C p fs)))(hk:k<fnames.length)(r:Rep K G v d)(hp:H p=some (.ins C dx vs)):
  StR K G₀ H₀ G (upd H p (.ins C dx (pq (eD k) v vs))) σ (ρ.set i (some (.obj true C p (ml k (.val d) fs)))):=by
 obtain⟨ow,o1,o2⟩:=s.ob;obtain⟨hne,dx',vs',h1,h2,h3,h4,h5,h6,h7,h8⟩:=(o2 i true C p fs e).2.insH hp;rw[hp]at h1;cases h1;refine s.objTo e o1 o2 (ow2:=ow) (λa o q n=>?_) (λa o q=>?_) (λa o q=>?_) (λa j t o _ q _=>q) ?_;·rw[aF (λz=>n _ (z▸h6))];exact q
 ·rw[aF (λz=>by rw[z,(h5 rfl).1]at q;cases q)];exact s.up.hh a o q
 ·rw[aF (λz=>by rw[z,h3]at q;cases q)];exact s.e.sub a o q
 ·refine .inl ⟨hne,dx,_,aV,?_,h3,h4,h5,h6,h7,?_⟩;·rw[aF (λz=>by rw[z,hp]at h2;cases h2)];exact h2
  ·exact(h8.put (fd:=.val d) hk r).keepL λl o q n=>⟨by rw[aF (λz=>by rw[z,hp]at q;cases q;exact n _ _ _ rfl)];exact q,rfl⟩
def StR.fputL(s:StR K G₀ H₀ G H σ ρ)(e:ρ[i]?=some (some (.obj true C p fs)))(hk:k<fnames.length){us:List V}(hl:H l=none)(r:Reps K G us ds)(hp:H p=some (.ins C dx vs)):
  StR K G₀ H₀ G (upd (upd H l (.lst us)) p (.ins C dx (pq (eD k) (.ref l) vs))) σ (ρ.set i (some (.obj true C p (ml k (.own ds) fs)))):=by
 obtain⟨ow,o1,o2⟩:=s.ob;obtain⟨hne,dx',vs',h1,h2,h3,h4,h5,h6,h7,h8⟩:=(o2 i true C p fs e).2.insH hp;rw[hp]at h1;cases h1;have nl:∀{a:Addr}{o:HO},H a=some o->a≠l:=λq z=>by rw[z,hl]at q;cases q
 have gl:G l=none:=s.e.sub.free hl;have h0l:H₀ l=none:=s.up.hh.free hl;refine s.objTo e o1 o2 (ow2:=λa=>if a=l then some (i,k+1)else ow a) (λa o q n=>?_) (λa o q=>?_) (λa o q=>?_) (λa j t o _ q q2=>(if_neg (nl q2)).trans q) ?_;·rw[aF (λz=>n _ (z▸h6)),aF (nl q)];exact q
 ·rw[aF (λz=>by rw[z,(h5 rfl).1]at q;cases q),aF (nl (s.up.hh a o q))];exact s.up.hh a o q
 ·rw[aF (λz=>by rw[z,h3]at q;cases q),aF (nl (s.e.sub a o q))];exact s.e.sub a o q
 ·refine .inl ⟨hne,dx,_,aV,?_,h3,h4,h5,(if_neg (nl hp)).trans h6,(if_neg (nl h2)).trans h7,?_⟩;·rw[aF (λz=>by rw[z,hp]at h2;cases h2),aF (nl h2)];exact h2
  ·refine FdsAt.put (fd:=.own ds) hk ⟨l,us,rfl,?_,gl,λ_=>h0l,r,if_pos rfl⟩ (h8.keepL λl' o q n=>⟨?_,if_neg (nl q)⟩);·rw[aF (λz=>nl hp z.symm),aV]
   ·rw[aF (λz=>by rw[z,hp]at q;cases q;exact n _ _ _ rfl),aF (nl q)];exact q
end
noncomputable def Jb(C:Addr)(ρ:Ev)(i:Nat):R (List (Nat×Fd)):=match ρ[i]? with
 |some (some (.obj _ C' _ fs))=>if C'=C then .ok fs else .no
 |_=>.no
noncomputable def CP(C:Addr)(ρ:Ev)(i:Nat):R (Addr×List (Nat×Fd)):=match ρ[i]? with
 |some (some (.obj true C' p fs))=>if C'=C then .ok (p,fs)else .no
 |_=>.no
def Jf(fs:List (Nat×Fd))(k:Nat):R D:=match fs.lookup k with
 |some (.val d)=>.ok d
 |_=>.no
def ED(C:Addr)(i k:Nat):Ev->R D:=λρ=>Jb C ρ i>>=λfs=>Jf fs k
noncomputable def Ez(C:Addr)(i k:Nat)(gl:Ev->R (List D)):Ev->O:=λρ=>(CP C ρ i).out ρ λo=>(gl ρ).out ρ λds=>if o.2.length<900 then .nx (ρ.set i (some (.obj true C o.1 (ml k (.own ds) o.2))))else .no
noncomputable def zb(C:Addr)(i k:Nat)(ga:Ev->R D):Ev->O:=λρ=>(CP C ρ i).out ρ λo=>(ga ρ).out ρ λd=>if o.2.length<900 then .nx (ρ.set i (some (.obj true C o.1 (ml k (.val d) o.2))))else .no
def Lb(ga:Ev->R D):Ev->O:=λρ=>(ga ρ).out ρ λd=>.re d ρ
structure CF(K:PySem.W.Frag)(C:Addr)(ks:List Nat):Prop where
 cl:Cls K C
 ne:C≠DC
 na:∀k∈ks,k<fnames.length/\NoAttr K C (eD k)
def Bi{α:Type}{k:List (Nat×Fd)->R α}{P:α->Prop}{E:Addr->Prop}(h:(Jb C ρ i>>=k).post P E):∃m p fs,ρ[i]?=some (some (.obj m C p fs))/\(k fs).post P E:=by
 unfold Jb at h;split at h
 ·rename_i m C' p fs e;by_cases z:C'=C;·subst z;rw[if_pos rfl]at h;exact⟨m,p,fs,e,h⟩
  ·rw[if_neg z]at h;exact h.elim
 ·exact h.elim
def mE{H₀:Hp}{D:Ends}{k:Addr×List (Nat×Fd)->O}(h:jW X G₀ H₀ D ((CP C ρ i).out ρ k)):∃p fs,ρ[i]?=some (some (.obj true C p fs))/\jW X G₀ H₀ D (k (p,fs)):=by
 unfold CP at h;split at h
 ·rename_i C' p fs e;by_cases z:C'=C;·subst z;rw[if_pos rfl]at h;exact⟨p,fs,e,h⟩
  ·rw[if_neg z]at h;exact h.elim
 ·exact h.elim
section
variable{e b:Expr}{ga:Ev->R D}{x f:Str}{ks:List Nat}{p1 p2 p3 pos ap cp:Pos}
def Kx(i k:Nat)(c:CF X.K C ks)(hk:k∈ks)(hi:X.N[i]?=some x:=by rfl)(hv:Vis X.env.scope x:=by first|exact Or.inl rfl|exact Or.inr (Or.inl rfl)|exact Or.inr (Or.inr rfl))(hf:f=eD k:=by rfl)(hd:(x==("__debug__":Str))=false:=by decide)(hcd:(x==("__classdict__":Str))=false:=by decide)(hba:attributeBase (.Name x p1) f X.env (eval (.Name x p1) X.env)=eval (.Name x p1) X.env:=by rfl):
  PF X (.Attribute (.Name x p1) f p2) (ED C i k):=λpins s σ H Q I h=>by
 subst hf;refine AQ (iS hi hv hd hcd) hba pins s σ H Q I ?_;obtain⟨G,ρ,st,h⟩:=h;obtain⟨m,p,fs,e1,h⟩:=Bi h;obtain⟨h1,ow,ob0⟩:=st.obs i m C p fs e1;obtain⟨dx,vs,g1,g2,g3,g4,g5,g6,g7,g8⟩:=ob0.ins c.ne;unfold L2.Jf at h;split at h;·rename_i d e2;obtain⟨v,e3,r⟩:=g8.get e2;exact⟨.ref p,h1,p,C,dx,vs,v,rfl,g1,c.cl,(c.na k hk).2,e3,h v G H (.refl st.sub) r⟩
 ·exact h.elim
def JF(i k:Nat)(c:CF X.K C ks)(hk:k∈ks)(he:PFL X e gl)(hi:X.N[i]?=some x:=by rfl)(hv:Vis X.env.scope x:=by first|exact Or.inl rfl|exact Or.inr (Or.inl rfl)|exact Or.inr (Or.inr rfl))(hf:f=eD k:=by rfl)(hd:(x==("__debug__":Str))=false:=by decide)(hcd:(x==("__classdict__":Str))=false:=by decide)(hs:swapsWith e (some (.Attribute (.Name x p1) f p2)) pos.line X.env=pure false:=by rfl):
  PSF X (.Assign [.Attribute (.Name x p1) f p2] e pos) (Ez C i k gl):=λG₀ H₀ pins s σ H D I h=>by
 subst hf;refine BD (iS hi hv hd hcd) he hs pins s σ H D I ?_;obtain⟨G,ρ,sr,h⟩:=h;obtain⟨p,fs,e1,h⟩:=mE h;refine⟨G,ρ,sr.e,?_⟩;cases q:gl ρ with
 |ok ds=>
  rw[q]at h;simp only[R.out]at h;intro l us G' H' u hl r;obtain⟨h1,ow,ob0⟩:=sr.e.obs i true C p fs e1;obtain⟨dx,vs,g1,g2,g3,g4,g5,g6,g7,g8⟩:=ob0.ins c.ne;by_cases hz:fs.length<900;·rw[if_pos hz]at h;have hp:=u.hh _ _ g1;refine⟨.ref p,h1,p,C,dx,vs,rfl,?_,c.cl,(c.na k hk).2,by rw[g8.len];omega,h _ G' _ ((sr.ups u).fputL e1 (c.na k hk).1 hl r hp)⟩;rw[aF (λz=>by rw[z,hl]at hp;cases hp)];exact hp
  ·rw[if_neg hz]at h;exact h.elim
 |ex C=>rw[q]at h;exact Exx.of sr h
 |no=>rw[q]at h;exact h
def Bu(i k:Nat)(c:CF X.K C ks)(hk:k∈ks)(he:PF X e ga)(hi:X.N[i]?=some x:=by rfl)(hv:Vis X.env.scope x:=by first|exact Or.inl rfl|exact Or.inr (Or.inl rfl)|exact Or.inr (Or.inr rfl))(hf:f=eD k:=by rfl)(hd:(x==("__debug__":Str))=false:=by decide)(hcd:(x==("__classdict__":Str))=false:=by decide)(hs:swapsWith e (some (.Attribute (.Name x p1) f p2)) pos.line X.env=pure false:=by rfl):
  PSF X (.Assign [.Attribute (.Name x p1) f p2] e pos) (zb C i k ga):=λG₀ H₀ pins s σ H D I h=>by
 subst hf;refine BD (iS hi hv hd hcd) he hs pins s σ H D I ?_;obtain⟨G,ρ,sr,h⟩:=h;obtain⟨p,fs,e1,h⟩:=mE h;refine⟨G,ρ,sr.e,?_⟩;cases q:ga ρ with
 |ok d=>
  rw[q]at h;simp only[R.out]at h;intro v G' H' u r;obtain⟨h1,ow,ob0⟩:=sr.e.obs i true C p fs e1;obtain⟨dx,vs,g1,g2,g3,g4,g5,g6,g7,g8⟩:=ob0.ins c.ne;by_cases hz:fs.length<900;·rw[if_pos hz]at h;have hp:=u.hh _ _ g1;exact⟨.ref p,h1,p,C,dx,vs,rfl,hp,c.cl,(c.na k hk).2,by rw[g8.len];omega,h _ G' _ ((sr.ups u).fput e1 (c.na k hk).1 r hp)⟩
  ·rw[if_neg hz]at h;exact h.elim
 |ex C=>rw[q]at h;exact Exx.of sr h
 |no=>rw[q]at h;exact h
def JZ(he:PF X e ga):PSF X (.Return (some e) pos) (Lb ga):=λG₀ H₀ pins s σ H D I h=>by
 refine AF he pins s σ H D I ?_;obtain⟨G,ρ,sr,h⟩:=h;have h:jW X G₀ H₀ D ((ga ρ).out ρ λd=>.re d ρ):=h;refine⟨G,ρ,sr.e,?_⟩;cases q:ga ρ with
 |ok d=>rw[q]at h;exact λv G' H' u r=>h v σ G' H' (sr.ups u) r
 |ex C=>rw[q]at h;exact Exx.of sr h
 |no=>rw[q]at h;exact h
end
structure MCallee(P:Program)(w:World)(K:PySem.W.Frag)(mg:Str->Option Value)(base:Heap)(C:Addr)(mn:Str)(k n:Nat)(F:MF):Prop where
 ex:∃f fd ps,FnM P w K mg base k f fd ps C F/\Meth K C mn f/\Binds K fd ps []/\ps.length=n+1
def MCallee.mono{w:World}{K:PySem.W.Frag}{mg:Str->Option Value}{base:Heap}{mn:Str}{F:MF}(c:MCallee P w K mg base C mn k n F)(k':Nat)(h:k<=k':=by decide):MCallee P w K mg base C mn k' n F:=by obtain⟨f,fd,ps,M,hm,hb,e⟩:=c.ex;exact⟨f,fd,ps,{ M with run:=λA outer s H args us vs Q E hr=>M.run A outer s H args us vs Q E (hr.mono h) },hm,hb,e⟩
theorem FdsAt.none{K:PySem.W.Frag}{H₀:Hp}{mn:Str}(hn:∀k,k<fnames.length->(mn==eD k)=false):∀{fs:List (Nat×Fd)}{vs:List (Str×V)},FdsAt K H₀ G H ow i m fs vs->vs.lookup mn=Option.none
 |_,_,.nil=>rfl
 |_,_,.cons (k:=a) h nk r t=>by simp only[wR,hn a h];exact FdsAt.none hn t
section
variable{p:Addr}{F:MF}{fs:List (Nat×Fd)}{Q:VK}
def En(M:FnM X.prog X.w X.K X.mg X.base k f fd ps C F)(hr:Room k X.A)(hb:Binds X.K fd ps [])(hl:ps.length=n+1)(I:Inv X pins σ H s)(r:Vals vs us)(rp:Reps X.K G vs ds)(hn:ds.length=n)(sub:Same G H)(og:∀a t,ow a=some t->G a=none)(ob:ObjAt X.K (λ_=>none) G H ow 0 true C p fs)(h:match F fs ds with
 |.ok d fs'=>∀v G' H' ow',Up G (hid H ow) G' H'->ObjAt X.K (hid H ow) G' H' ow' 0 true C p fs'->Rep X.K G' v d->Q v H'
 |.rd d=>∀v G' H',Up G H G' H'->Rep X.K G' v d->Q v H'
 |.ex C'=>Exx X σ G H C'
 |.no=>False):wpAny (model X.prog X.w) X.A (call (.ref f) (.ref p::us)) (EP X pins σ Q) X.xe s:=by
 have hvl:(V.ref p::vs).length=ps.length:=by rw[hl,wV,rp.length,hn]
 have hul:(Value.ref p::us++[]).length=ps.length:=by rw[rR,wV,<- r.length,<- wV (a:=V.ref p)];exact hvl
 have hbb:=hb s (.ref p::us) I.kIn hul;rw[rR]at hbb;refine nE (o8 (M.run X.A X.stack s H ⟨.ref p::us,[]⟩ (.ref p::us) (.ref p::vs) Q (λc _ H'=>∃C G',c=.ref C/\Up G H G' H'/\Exx X σ G H C) hr I.env0 hbb (.cons rfl r) ⟨hvl,G,p,vs,ds,fs,ow,rfl,rp,sub,og,ob,?_⟩) λr' s' hq=>?_)
 ·cases q:F fs ds with
  |ok d fs'=>rw[q]at h;exact h
  |rd d=>rw[q]at h;exact h
  |ex C'=>rw[q]at h;exact λG' H' u=>⟨C',G',rfl,u,h⟩
  |no=>rw[q]at h;exact h.elim
 ·cases r' with
  |error e'=>obtain⟨a,C,H',rfl,fl,C',G',ec,u,q⟩:=hq;cases ec;exact q _ _ ⟨G,H,.refl sub,pins,s,a,rfl,I,.inr (.inl ⟨G',H',fl,u⟩)⟩
  |ok fl=>
   cases fl with
   |ret u=>exact I.after hq
   |_=>exact False.elim hq
end
def RM.read:RM->R D
 |.rd d=>.ok d
 |.ex C=>.ex C
 |_=>.no
noncomputable def RM.out(r:RM)(C p:Addr)(i:Nat)(ρ:Ev):O:=match r with
 |.ok _ fs'=>.nx (ρ.set i (some (.obj true C p fs')))
 |.rd _=>.nx ρ
 |.ex E=>.ex E ρ
 |.no=>.no
structure MkC(P:Program)(w:World)(K:PySem.W.Frag)(mg:Str->Option Value)(base:Heap)(C:Addr)(cn:Str)(k n:Nat)(F:MF):Prop where
 ex:∃f fd ps,FnM P w K mg base k f fd ps C F/\Mk K C f/\mg cn=some (.ref C)/\Binds K fd ps []/\ps.length=n+1
 ne:C≠DC
section
variable{F:MF}{Q:VK}
def Dv(hC:C≠DC)(M:Mk X.K C f)(Fi:FnM X.prog X.w X.K X.mg X.base k f fd ps C F)(hr:Room (k+1) X.A)(hb:Binds X.K fd ps [])(hl:ps.length=n+1)(I:Inv X pins σ H s)(r:Vals vs us)(rp:Reps X.K G vs ds)(hn:ds.length=n)(sub:Same G H)(h:match F [] ds with
 |.ok d fs'=>d=.non/\∀x G' H' ow',Up G H G' H'->ObjAt X.K H G' H' ow' 0 true C x fs'->Q (.ref x) H'
 |.ex C'=>Exx X σ G H C'
 |_=>False):wpAny (model X.prog X.w) X.A (call (.ref C) us) (EP X pins σ Q) X.xe s:=by
 have I2:=Inv.made (C:=C) I;generalize hx:s.heap.objs.size+1=x at I2;generalize hd:s.heap.objs.size=dx at I2;have fx:H x=none:=I.hok.fresh (by rw[<- hx];exact j9 _);have fd':H dx=none:=I.hok.fresh (by rw[<- hd];exact zE _);have ne:dx≠x:=by rw[<- hx,<- hd];exact xD (pP _)
 have gx:G x=none:=sub.free fx;have gd:G dx=none:=sub.free fd';have hh:Same H (upd (upd H dx (.own x)) x (.ins C dx [])):=λa o e=>by rw[aF (aJ e fx),aF (aJ e fd')];exact e
 have sub2:Same G (upd (upd H dx (.own x)) x (.ins C dx [])):=sub.trans hh;have up2:Up G H G (upd (upd H dx (.own x)) x (.ins C dx [])):=⟨sub2,.refl _,hh,λ_ _ e=>.inl e⟩
 let ow:kK:=λa=>if a=x\/a=dx then some (0,0)else none;have og:∀a t,ow a=some t->G a=none:=λa t q=>by
  by_cases z:a=x\/a=dx
  ·rcases z with z|z;·rw[z];exact gx
   ·rw[z];exact gd
  ·have:ow a=none:=if_neg z;rw[this]at q;cases q
 have ob:ObjAt X.K (λ_=>none) G (upd (upd H dx (.own x)) x (.ins C dx [])) ow 0 true C x []:=
  .inl ⟨hC,dx,[],aV,by rw[aF ne,aV],gx,gd,λ_=>⟨rfl,rfl⟩,if_pos (.inl rfl),if_pos (.inr rfl),.nil⟩;have eh:hid (upd (upd H dx (.own x)) x (.ins C dx [])) ow=H:=by
  funext a
  by_cases z:a=x\/a=dx
  ·rw[jq (t:=(0,0)) (if_pos z)];rcases z with z|z;·rw[z];exact fx.symm
   ·rw[z];exact fd'.symm
  ·rw[pC (if_neg z),aF (λq=>z (.inl q)),aF (λq=>z (.inr q))]
 have hvl:(V.ref x::vs).length=ps.length:=by rw[hl,wV,rp.length,hn]
 have hul:(Value.ref x::us++[]).length=ps.length:=by rw[rR,wV,<- r.length,<- wV (a:=V.ref x)];exact hvl
 refine nE (Dh (f:=f) I.kIn M.makes M.init (qb.mp M.fn) ?_);rw[hx,hd];have hbb:=hb _ (.ref x::us) I2.kIn hul;rw[rR]at hbb;refine o8 (Fi.run _ X.stack _ _ ⟨Value.ref x::us,[]⟩ (Value.ref x::us) (V.ref x::vs) (λv H2=>v=.non/\Q (.ref x) H2) (λc _ H'=>∃C' G',c=.ref C'/\Up G (upd (upd H dx (.own x)) x (.ins C dx [])) G' H'/\Exx X σ G H C') (hr.make C us [])
  (I2.env0.make C us []) hbb (.cons rfl r) ⟨hvl,G,x,vs,ds,[],ow,rfl,rp,sub2,og,ob,?_⟩) λr' s' hq=>?_
 ·cases q:F [] ds with
  |ok d fs'=>rw[q]at h;intro v G' H' ow' u o rv;rw[eh]at u o;obtain⟨rfl,h⟩:=h;exact⟨rv.non_inv,h x G' H' ow' u o⟩
  |rd d=>rw[q]at h;exact h.elim
  |ex C'=>rw[q]at h;exact λG' H' u=>⟨C',G',rfl,u,h⟩
  |no=>rw[q]at h;exact h.elim
 ·cases r' with
  |error e'=>obtain⟨a,C',H',rfl,fl,C'',G',ec,u,q⟩:=hq;cases ec;exact q _ _ ⟨G,_,up2,pins,_,a,rfl,I2,.inr (.inl ⟨G',H',fl,u⟩)⟩
  |ok fl=>
   cases fl with
   |ret u=>obtain⟨v,H',I3,rv,ev,q3⟩:=I2.after hq;subst ev;exact⟨rv,⟨V.ref x,H',I3,rfl,q3⟩⟩
   |_=>exact False.elim hq
end
noncomputable def Jd(F:MF)(n:Nat)(ds:List D):R (List (Nat×Fd)):=if ds.length=n then (match F [] ds with
 |.ok .non fs'=>.ok fs'
 |.ex C=>.ex C
 |_=>.no)else .no
noncomputable def Qw(X:Cx)(C:Addr)(F:MF)(n:Nat)(gl:Ev->R (List D)):TE:=λσ H Q=>∃G ρ,StE X.K G H σ ρ/\(gl ρ>>=Jd F n).post (λfs'=>∀x G' H' ow',Up G H G' H'->ObjAt X.K H G' H' ow' 0 true C x fs'->Q (.ref x) H') (Exx X σ G H)
section
variable{e:Expr}{cn:Str}{F:MF}{pos:Pos}
def Ke(c:MkC X.prog X.w X.K X.mg X.base C cn k n F)(hr:Room (k+1) X.A)(ha:PFA X (e::es) gl)(hg:Gl X cn:=by rfl)(hdb:(cn==("__debug__":Str))=false:=by decide)(he:starEach (e::es) X.env=(false,eval e X.env)::starEach es X.env:=by rfl)(hpl:(backTo pos (starEach es X.env)).any (·.1)=false:=by rfl):PE X (.Call (.Name cn p) (e::es) [] pos) (Qw X C F n gl):=by
 intro pins s σ H Q I h;obtain⟨f,fd,ps,M,mk,hm,hb,hl⟩:=c.ex;obtain⟨G,ρ,st,h⟩:=h;refine k8 (mj I hg hm ?_ hdb);have t:tAF X gl σ H (λvs H1=>∃G1 ds,Up G H G1 H1/\Reps X.K G1 vs ds/\(Jd F n ds).post (λfs'=>∀x G' H' ow',Up G H G' H'->ObjAt X.K H G' H' ow' 0 true C x fs'->Q (.ref x) H') (Exx X σ G H)):=by
  refine⟨G,ρ,st,?_⟩;cases q:gl ρ with
  |ok ds=>rw[q]at h;exact λvs G1 H1 u r=>⟨G1,ds,u,r,h⟩
  |ex C=>rw[q]at h;exact h
  |no=>rw[q]at h;exact h
 refine b7 (h₀:=X.base) I.ok.mod.kin mk.kp (thn (ha pos pins s σ H _ I t) λus s1 q=>⟨?_,?_⟩) he hpl;·obtain⟨vs,H1,I1,r,_⟩:=q;exact I1.kIn
 obtain⟨vs,H1,I1,r,G1,ds,u1,rp,h1⟩:=q;unfold Jd at h1;by_cases hz:ds.length=n
 ·rw[if_pos hz]at h1;refine Dv c.ne mk M hr hb hl I1 r rp hz u1.sub ?_;cases q:F [] ds with
  |ok d fs'=>
   rw[q]at h1;cases d with
   |non=>refine⟨rfl,λx G' H' ow' u o=>h1 x G' H' ow' (u1.trans u) (o.keep ⟨λ_ _ _ _ e=>e,.refl _,λ_ _ _ _ _ n=>n,λ_ _ _ e _=>e,λa o _ _ z=>u1.hh.free z⟩)⟩
   |_=>exact h1.elim
  |rd d=>rw[q]at h1;exact h1.elim
  |ex C'=>rw[q]at h1;exact Exx.up u1 h1
  |no=>rw[q]at h1;exact h1.elim
 ·rw[if_neg hz]at h1;exact h1.elim
end
def StR.setObj{K:PySem.W.Frag}{H₀ G':Hp}{x:Addr}{fs:List (Nat×Fd)}{ow':kK}(s:StR K G₀ H₀ G H σ ρ)(u:Up G H G' H')(ob:ObjAt K H G' H' ow' 0 true C x fs)(i:Nat):StR K G₀ H₀ G' H' (σ.set i (some (.ref x))) (ρ.set i (some (.obj true C x fs))):=by
 have get:∀(j:Nat) y,(ρ.set i (some (.obj true C x fs)))[j]?=some (some y)->(j=i/\y=.obj true C x fs/\i<σ.length)\/(j≠i/\ρ[j]?=some (some y)/\(σ.set i (some (.ref x)))[j]?=σ[j]?):=λj y h=>by
  by_cases e:i=j
  ·subst e;have hl:i<ρ.length:=by have:=(u6.mp h).1;simpa using this
   rw[uV hl]at h;exact .inl ⟨rfl,by injection (xz h)with q;exact q.symm,by rw[s.e.len];exact hl⟩
  ·rw[t8 e]at h;exact .inr ⟨λz=>e z.symm,h,t8 e⟩
 have s1:=s.ups u;have ob':ObSt K H₀ G' H' (σ.set i (some (.ref x))) (ρ.set i (some (.obj true C x fs))):=by
  obtain⟨ow,o1,o2⟩:=s.ob;refine⟨λa=>open Classical in if H a=none then zo 0 i ow' a else ow a,λj ds l h1 h2=>?_,λj m' C' p' fs' h1=>?_⟩
  ·rcases get j _ h1 with⟨_,z,_⟩|⟨nj,f1,f2⟩;·cases z
   ·rw[f2]at h2;obtain⟨l2,vs,q1,q2,_⟩:=s.own j ds f1;rw[h2]at q1;cases q1;exact(if_neg (by rw[q2];simp)).trans (o1 j ds l f1 h2)
  ·rcases get j _ h1 with⟨rfl,z,hj⟩|⟨nj,f1,f2⟩;·cases z;exact⟨uV hj,ob.newtag (λa t q n=>(if_pos n).trans (xY q)) λa n=>s.up.hh.free n⟩
   ·rw[f2];have ku:ObKeep H₀ H₀ G H G' H' ow ow j:=.up u;exact⟨(o2 j m' C' p' fs' f1).1,(o2 j m' C' p' fs' f1).2.keep ⟨ku.hh,ku.gg,ku.gn,λa t o q1 q2=>(if_neg (by rw[q2];simp)).trans q1,ku.h0⟩⟩
 refine⟨⟨s1.e.sub,by simp[s1.e.len],λj d h=>?_,ob'.rd⟩,s1.sub0,s1.up,λj ds h=>?_,λj k ds es l q1 q2 q3 q4=>?_,ob'⟩
 ·rcases get j _ h with⟨_,z,_⟩|⟨_,f1,f2⟩;·cases z
  ·rw[f2];exact s1.e.val j d f1
 ·rcases get j _ h with⟨_,z,_⟩|⟨nj,f1,f2⟩;·cases z
  ·rw[f2];exact s1.own j ds f1
 ·rcases get j _ q1 with⟨_,z,_⟩|⟨nj,f1,f2⟩;·cases z
  ·rcases get k _ q2 with⟨_,z,_⟩|⟨nk,f3,f4⟩;·cases z
   ·exact s1.inj j k ds es l f1 f3 (f2▸q3) (f4▸q4)
noncomputable def Fw{α:Type}(X:Cx)(sts:List Stmt)(g:α->Ev->O):Prop:=∀G₀ H₀,PSs X sts (λD σ H=>∃G ρ,StR X.K G₀ H₀ G H σ ρ/\∀q,jW X G₀ H₀ D (g q ρ))
section
variable{fW:List Stmt}{g1:Ev->O}{gs:Ev->O}{α:Type}{g2:α->Ev->O}{e:Expr}{gl':Ev->R (List D)}{cn:Str}{F:MF}{pos:Pos}
def EU(g:Ev->O):Unit->Ev->O:=λ_=>g
def oj(g1:Ev->O)(g2:α->Ev->O):α->Ev->O:=λq ρ=>(g1 ρ).seq (g2 q)
def LI(i:Nat)(g:α->Ev->O):α->Ev->O:=λq ρ=>g q (frz i ρ)
noncomputable def Ei(C:Addr)(i:Nat)(F:MF)(n:Nat)(gl:Ev->R (List D))(g2:α->Ev->O):Addr×α->Ev->O:=λq ρ=>(gl ρ>>=Jd F n).out ρ λfs=>g2 q.2 (ρ.set i (some (.obj true C q.1 fs)))
def Hk(h:lO X fW gs):Fw X fW (EU gs):=λG₀ H₀ pins s σ H D I ⟨G,ρ,sr,q⟩=>h G₀ H₀ pins s σ H D I ⟨G,ρ,sr,q ()⟩
def iw[Inhabited α](h1:PSF X st g1)(h2:Fw X fW g2):Fw X (st::fW) (oj g1 g2):=λG₀ H₀ pins s σ H D I h=>by
 refine ud (h1 G₀ H₀) (h2 G₀ H₀) pins s σ H D I ?_;obtain⟨G,ρ,sr,h⟩:=h;have h:∀q,jW X G₀ H₀ D ((g1 ρ).seq (g2 q)):=h;refine⟨G,ρ,sr,?_⟩;cases q:g1 ρ with
 |nx ρ'=>rw[q]at h;exact λσ' G' H' sr'=>⟨G',ρ',sr',h⟩
 |rt d=>rw[q]at h;exact h default
 |re d ρ'=>rw[q]at h;exact h default
 |bk ρ'=>rw[q]at h;exact h default
 |ct ρ'=>rw[q]at h;exact h default
 |ex C ρ'=>rw[q]at h;exact h default
 |no=>rw[q]at h;exact h default
def Mb(i:Nat)(h:Fw X fW g2):Fw X fW (LI i g2):=λG₀ H₀ pins s σ H D I ⟨G,ρ,sr,q⟩=>by obtain⟨G',sr'⟩:=sr.frz i;exact h G₀ H₀ pins s σ H D I ⟨G',_,sr',q⟩
def Jn[Inhabited α](i:Nat)(c:MkC X.prog X.w X.K X.mg X.base C cn k n F)(hr:Room (k+1) X.A)(hN:X.N.Nodup)(ha:PFA X (e::es) gl)(h2:Fw X fW g2)(hi:X.N[i]?=some y:=by rfl)(hx:Loc X.env.scope y:=by first|exact Or.inl rfl|exact Or.inr rfl)(hg:Gl X cn:=by rfl)(hdb:(cn==("__debug__":Str))=false:=by decide)(he:starEach (e::es) X.env=(false,eval e X.env)::starEach es X.env:=by rfl)(hpl:(backTo p (starEach es X.env)).any (·.1)=false:=by rfl)(hs:swapsWithSole [.Name y py] (.Call (.Name cn pos) (e::es) [] p) pos.line X.env=pure false:=by rfl)(hw:swappedStores [.Name y py] (.Call (.Name cn pos) (e::es) [] p) X.env=pure none:=by rfl)(hf:X.fn y=true\/X.env.scope.names.lookup y=some .local:=by first|exact .inl rfl|exact .inr rfl){pos':Pos}(hs':swapsWithSole [.Name y py] (.Call (.Name cn pos) (e::es) [] p) pos'.line X.env=pure false:=by rfl):
  Fw X (.Assign [.Name y py] (.Call (.Name cn pos) (e::es) [] p) pos'::fW) (Ei C i F n gl g2):=λG₀ H₀ pins s σ H D I h=>by
 refine ud (qX (Ke c hr ha hg hdb he hpl) (mf (i:=i) hN hi hx hf) hs' hw rfl) (h2 G₀ H₀) pins s σ H D I ?_;obtain⟨G,ρ,sr,h⟩:=h;have h:∀q:Addr×α,jW X G₀ H₀ D ((gl ρ>>=Jd F n).out ρ λfs=>g2 q.2 (ρ.set i (some (.obj true C q.1 fs)))):=h;refine⟨G,ρ,sr.e,?_⟩;cases q:gl ρ>>=Jd F n with
 |ok fs=>rw[q]at h;exact λx G' H' ow' u ob=>⟨G',_,sr.setObj u ob i,λq2=>h (x,q2)⟩
 |ex C'=>rw[q]at h;exact Exx.of sr (h (0,default))
 |no=>rw[q]at h;exact(h (0,default)).elim
end
def Fun.okA{w:World}{K:PySem.W.Frag}{mg:Str->Option Value}{base:Heap}{x:Str}{N:List Str}{α:Type}(F:Fun K x qual st f fd)(S:FnScope N ps (ar st)){g:α->Ev->O}{gr:List D->R D}(hg:∀ds,ds.length=ps.length->gr ds=.no\/∀q,aD (g q (aw N.length ds))=gr ds)(hbody:∀(cdv:Value)(A:Around)(outer:List Env)(s:Shared)(H:Hp)(E:XK),Room k (A.deeper (envOfC qual (ar st) s.heap.objs.size f cdv))->Fw (fV (CXo P w) P w K mg base N qual (ar st) f cdv A outer s H E) (cg st) g):
  FnF P w K mg base (k+1) f fd ps gr:=by
 obtain⟨oc,od,kV,doc,pm,an,cdv,ct,osl,rfl,lk,hcd⟩:=F.ex;refine IC lk hcd S (λvs H Q E h=>h.1) λA outer s H vs Q E hr hsp=>?_;obtain⟨hl,G,ds,sub,r,h⟩:=hsp;refine⟨_,hbody cdv A outer s H E hr G H,G,aw N.length ds,yd sub r,λq0=>?_⟩;rcases hg ds (by rw[<- r.length];exact hl)with z|z;·rw[z]at h;exact h.elim
 ·rw[<- z q0]at h;cases q:g q0 (aw N.length ds)with
  |nx ρ=>rw[q]at h;exact λσ G' H' sr=>h .non G' H' sr.up .non
  |rt d=>rw[q]at h;exact λv G' H' u rv=>h v G' H' u rv
  |re d ρ=>rw[q]at h;exact λv σ G' H' sr rv=>h v G' H' sr.up rv
  |bk ρ=>rw[q]at h;exact h.elim
  |ct ρ=>rw[q]at h;exact h.elim
  |ex C ρ=>rw[q]at h;exact λe s' fl=>tY fl h
  |no=>rw[q]at h;exact h.elim
structure CalleeM(P:Program)(w:World)(K:PySem.W.Frag)(mg:Str->Option Value)(base:Heap)(C:Addr)(x:Str)(k n:Nat)(F:MF):Prop where
 ex:∃f fd ps,FnM P w K mg base k f fd ps C F/\mg x=some (.ref f)/\PySem.W.keepIn K (.ref f)=true/\Binds K fd ps []/\ps.length=n+1
noncomputable def Kk(P:Program)(w:World)(K:PySem.W.Frag)(mg:Str->Option Value)(base:Heap)(k:Nat)(s1:Shared)(G1 H1:Hp)(f:Addr)(Q:VK):Prop:=
 ∀(Y:Cx)(pins:List (Addr×Obj))(σY:St)(G2 H2:Hp)(s2:Shared)(fs:List Addr),Y.prog=P->Y.w=w->Y.K=K->Y.mg=mg->Y.base=base->Inv Y pins σY H2 s2->Room k Y.A->Un fs [] H1 H2 s1.heap s2.heap->Up G1 H1 G2 H2->
  (∃o fd,s2.heap.get? f=some o/\o.data=.func fd)/\wpAny (model Y.prog Y.w) Y.A (call (.ref f) []) (EP Y pins σY Q) Y.xe s2
structure ToldOk(P:Program)(w:World)(K:PySem.W.Frag)(mg:Str->Option Value)(base:Heap)(x:Str)(k j:Nat):Prop where
 ex:∃ft,mg x=some (.ref ft)/\PySem.W.keepIn K (.ref ft)=true/\∀(A:Around)(outer:List Env)(s1:Shared)(G1 H1:Hp)(f:Addr)(Q:VK)(E:XK),Room k A->Env0 P w K mg base A outer s1 H1->Same G1 H1->Kk P w K mg base j s1 G1 H1 f Q->
  codeAny (model P w) A (.call (.ref ft) ⟨[.ref f],[]⟩) (CR (CXo P w) outer P w H1 s1 Q E) s1
end L2
namespace L2
open PySem PySem.Spec PyProof.Rows
open PySem.AutoSeq1 (wpAny_loadPart')
open PySem.MeetsSeq PySem.MeetsSeq2 PySem.MeetsSeq3
inductive NumPairs:List (Value×Value)->List Int->List Int->Prop
 |nil:NumPairs [] [] []
 |cons {zs:List (Value×Value)} {xs ys:List Int} (i:Int) (t:Addr) (j:Int) (u:Addr) (r:NumPairs zs xs ys):NumPairs ((.int i t,.int j u)::zs) (i::xs) (j::ys)
end L2
namespace L2
open PySem PySem.Spec PyProof.Rows
section
variable{elt:Expr}{x:Str}{px pos:Pos}{gt:Ev->R Bool}
structure CompOkC(X:Cx)(scope:Scope)(x:Str):Prop where
 kind:scope.kind=.function
 names:∀y∈scope.names,y.2=.local->scope.names.lookup y.1=some .local
 nofree:∀y∈scope.names,y.2≠.free
 cells:∀L,cellsFrom L scope.names []=[(x,L)]
 lk:scope.names.lookup x=some .cell
 only:∀y,scope.names.lookup y=some .cell->y=x
end
abbrev TF:=List (Nat×Fd)->Option (List (Nat×Fd))
noncomputable def spT(K:PySem.W.Frag)(C:Addr)(F:TF):Sp:=λvs H Q E=>∃G p fs ow,vs=[.ref p]/\Same G H/\(∀a t,ow a=some t->G a=none)/\ObjAt K (λ_=>none) G H ow 0 true C p fs/\
 ∃fs',F fs=some fs'/\∀x G' H' ow',Up G H G' H'->ObjAt K H G' H' ow' 0 true C x fs'->Q (.ref x) H'
noncomputable abbrev FnT(P:Program)(w:World)(K:PySem.W.Frag)(mg:Str->Option Value)(base:Heap)(k:Nat)(f:Addr)(fd:FuncData)(ps:List Str)(C:Addr)(F:TF):Prop:=FnOk P w K mg base (CXo P w) k f fd ps (λvs H Q E=>vs.length=ps.length/\spT K C F vs H Q E)
structure TCallee(P:Program)(w:World)(K:PySem.W.Frag)(mg:Str->Option Value)(base:Heap)(C:Addr)(mn:Str)(k:Nat)(F:TF):Prop where
 ex:∃f fd ps,FnT P w K mg base k f fd ps C F/\Meth K C mn f/\Binds K fd ps []/\ps.length=1
section
variable{prog:Program}{w:World}{A:Around}{a₀:Array Keyed}{κ:KeyKind}{kd:SortKind}{st:SortSt}{π:Nat->Nat}
structure SB(kd:SortKind)(a₀:Array Keyed)(st:SortSt):Prop where
 perm:(arrOf st).Perm a₀
 kind:kindOf st=kd
 failed:failedOf st=none
 pend:pendingOf st = #[]
noncomputable def Bef(κ:KeyKind)(a₀:Array Keyed)(i j:Nat):Prop:=κ.blt (KK κ a₀ j) (KK κ a₀ i)=false/\(i<j\/κ.blt (KK κ a₀ i) (KK κ a₀ j)=true)
structure Pr(kd:SortKind)(a₀:Array Keyed)(st:SortSt)(π:Nat->Nat)(k:Nat):Prop where
 b:SB kd a₀ st
 g:∀i,(arrOf st)[i]?=a₀[π i]?
 hi:∀i,k<=i->π i=i
 lo:∀i,i<k->π i<k
structure Ds(κ:KeyKind)(kd:SortKind)(a₀:Array Keyed)(st:SortSt)(π:Nat->Nat)(p n:Nat):Prop where
 b:SB kd a₀ st
 g:∀i,(arrOf st)[i]?=a₀[π i]?
 pn:p<=n
 hi:∀i,p<=i->π i=i
 lo:∀i,i<p->π i<p
 r:∀i j,i<j->j<p->Bef κ a₀ (π j) (π i)
 t:∀i j,p<=i->i<n->p<=j->j<n->KK κ a₀ i=KK κ a₀ j
 u:∀i j,i<p->p<=j->j<n->κ.blt (KK κ a₀ j) (KK κ a₀ (π i))=true
def CO(π:Nat->Nat)(p n i:Nat):Nat:=if p<=i/\i<n then p+n - 1 - i else π i
structure Rv(κ:KeyKind)(kd:SortKind)(a₀:Array Keyed)(st:SortSt)(π:Nat->Nat)(n:Nat):Prop where
 b:SB kd a₀ st
 g:∀i,(arrOf st)[i]?=a₀[π i]?
 hi:∀i,n<=i->π i=i
 lo:∀i,i<n->π i<n
 r:∀i j,i<j->j<n->Bef κ a₀ (π j) (π i)
end
section
variable{elt:Expr}{x:Str}{px pos:Pos}{gt:Ev->R Bool}
structure CompOkD(X:Cx)(scope:Scope)(x:Str)(N':List Str)(ix:List Nat):Prop where
 kind:scope.kind=.function
 names:∀y∈scope.names,y.2=.local->scope.names.lookup y.1=some .local
 cells:∀L cs,cellsFrom L scope.names cs=(x,L)::cs
 lkx:(relabel scope X.env).names.lookup x=some .cell
 cel:∀y∈scope.names,y.2=.cell->y.1=x
 fr:∀y∈scope.names,y.2=.free->X.env.kindOf y.1=some .cell
 nd:N'.Nodup
 hd:N'[0]?=some x
 tl:N'.drop 1=ix.map λ(i:Nat)=>X.N.getD i Str.empty
 lt:∀i∈ix,i<X.N.length
 fre:∀y∈N'.drop 1,scope.names.lookup y=some .free/\(y,NameKind.free)∈scope.names
 nx:∀y∈N'.drop 1,y≠x
end
noncomputable def spN(K:PySem.W.Frag)(f:List D->R (List D)):Sp:=λvs H Q E=>∃G ds,Same G H/\Reps K G vs ds/\(f ds).post (pT K G H Q) (λC=>∀G' H',Up G H G' H'->E (.ref C) none H')
noncomputable abbrev FnN(P:Program)(w:World)(K:PySem.W.Frag)(mg:Str->Option Value)(base:Heap)(k:Nat)(f:Addr)(fd:FuncData)(ps:List Str)(g:List D->R (List D)):Prop:=FnOk P w K mg base (CXo P w) k f fd ps (λvs H Q E=>vs.length=ps.length/\spN K g vs H Q E)
structure CalleeN(P:Program)(w:World)(K:PySem.W.Frag)(mg:Str->Option Value)(base:Heap)(x:Str)(k n:Nat)(g:List D->R (List D)):Prop where
 ex:∃f fd ps,FnN P w K mg base k f fd ps g/\mg x=some (.ref f)/\PySem.W.keepIn K (.ref f)=true/\Binds K fd ps []/\ps.length=n
noncomputable def NN(P:Program)(w:World)(K:PySem.W.Frag)(mg:Str->Option Value)(base:Heap)(k:Nat)(s1:Shared)(G1 H1:Hp)(f:Addr)(m:R (List D)):Prop:=
 ∀(Y:Cx)(pins:List (Addr×Obj))(σY:St)(G2 H2:Hp)(s2:Shared)(fs:List Addr)(Q:VK),Y.prog=P->Y.w=w->Y.K=K->Y.mg=mg->Y.base=base->Inv Y pins σY H2 s2->Room k Y.A->Un fs [] H1 H2 s1.heap s2.heap->Up G1 H1 G2 H2->
  m.post (pT Y.K G2 H2 Q) (Exx Y σY G2 H2)->(∃o fd,s2.heap.get? f=some o/\o.data=.func fd)/\wpAny (model Y.prog Y.w) Y.A (call (.ref f) []) (EP Y pins σY Q) Y.xe s2
noncomputable def NO(m:R (List D)):R D:=match m with
 |.ok ds=>if ds.length<sizeLine then ofO (eqF (.lst false ds) (.lst false ds))else .no
 |_=>.no
structure Stays(P:Program)(w:World)(K:PySem.W.Frag)(mg:Str->Option Value)(base:Heap)(x:Str)(k j:Nat):Prop where
 ex:∃ft,mg x=some (.ref ft)/\PySem.W.keepIn K (.ref ft)=true/\∀(A:Around)(outer:List Env)(s1:Shared)(G1 H1:Hp)(f:Addr)(m:R (List D))(Q:VK)(E:XK),Room k A->Env0 P w K mg base A outer s1 H1->Same G1 H1->NN P w K mg base j s1 G1 H1 f m->
  (NO m).post (Fin G1 H1 (Rep K) Q) (λC=>∀G' H',Up G1 H1 G' H'->E (.ref C) none H')->codeAny (model P w) A (.call (.ref ft) ⟨[.ref f],[]⟩) (CR (CXo P w) outer P w H1 s1 Q E) s1
noncomputable def Pe:Ji:=λx y v H Q=>∃a kvs n,x=.ref a/\y=.int n/\H a=some (.dK kvs)/\(∀e∈kvs,e.1≠Sum.inl n)/\kvs.length<sizeLine/\Q (upd H a (.dK (kvs++[(.inl n,v)])))
def JM{n:Key}{kvs:List (Key×V)}{vs:List (Key×Value)}(r:KV kvs vs):(∀e∈kvs,e.1≠n)->(vs.any λkv=>decide (kv.1=n))=false:=by
 unfold KV at r;induction r with
 |nil=>intro _;rfl
 | @cons p q ps qs h t ih=>intro hk;have h1:=hk p (uS ..);have h2:=ih λe he=>hk e (v9 _ he);rw[List.any_cons,h2,Bool.or_false,ZG,<- h.1];exact h1
def IM{n:Key}{u:Value}{kvs:List (Key×V)}{vs:List (Key×Value)}(r:KV kvs vs)(rv:RelV v u):KV (kvs++[(n,v)]) (vs++[(n,u)]):=by
 unfold KV at r⊢;induction r with
 |nil=>exact .cons ⟨rfl,rv⟩ .nil
 |cons h t ih=>exact .cons h ih
def Gj{kvs:List (Key×V)}{vs:List (Key×Value)}(r:KV kvs vs):kvs.length=vs.length:=by
 unfold KV at r;induction r with
 |nil=>rfl
 |cons h t ih=>rw[wV,wV,ih]
section
def Hm:MA X Pe:=by
 intro pins s σ H o i v ov iv u Q I ro ri rv ⟨a,kvs,n,eo,ei,h1,h2,h3,h4⟩;subst eo ei;cases ro;obtain⟨t,rfl⟩:=ri;obtain⟨z,hd,vs,rel,dd⟩:=(show ObjOk X.prog X.w H s.heap a (.dK kvs) from I.hok a _ h1)
 have hl:=Gj rel;have st:stored vs (Sum.inl n:Key) u=vs++[(Sum.inl n,u)]:=by unfold stored;rw[JM rel h2];rfl
 refine wpAny_setItem_pairs (hsz:=by rw[<- hl];exact z) (xi _ _ n t) dd λh' dd' hb=>⟨_,I.write (x:=a) (e:=a) (o:=.dK (kvs++[(.inl n,v)])) (by rw[h1];exact True.intro) (.inl rfl) (λb q ne e=>(hb.2 b ne).trans e) (let⟨q,_,_,hq,_⟩:=dd';⟨q,hq⟩) ⟨?_,hd,_,?_,dd'⟩,h4⟩
 ·rw[sg,List.length_singleton];omega
 ·rw[st];exact IM rel rv
end
def kvD(kds:List (Int×D))(ws:List V):List (Key×V):=(kds.map λx=>(Sum.inl x.1:Key)).zip ws
section
variable{K:PySem.W.Frag}{H₀:Hp}
def FdsAt.mutD{us:List V}{es:List (Int×D)}(re:Reps K G us (es.map (·.2)))(ol:ow l=some (i,k+1))(gl:G l=Option.none)(hl:m=true->H₀ l=Option.none){fs:List (Nat×Fd)}{vs:List (Str×V)}(q:FdsAt K H₀ G H ow i m fs vs):∀{fd:Fd},fs.lookup k=some fd->vs.lookup (eD k)=some (.ref l)->
  FdsAt K H₀ G (upd H l (.dK (kvD es us))) ow i m (ml k (.dic es) fs) vs:=by
 have stay:∀{j:Nat}{fd:Fd}{v:V},j≠k->FdAt K H₀ G H ow i m j fd v->FdAt K H₀ G (upd H l (.dK (kvD es us))) ow i m j fd v:=λ{j fd v} nj q=>by
  have ne:∀{a:Addr},ow a=some (i,j+1)->a≠l:=λh5 z=>by rw[z,ol]at h5;exact nj (by have:=t6 (·.2) (xz h5);simp at this;omega)
  cases fd with
  |val d=>exact q
  |own ds=>obtain⟨l',ws,e,h1,h2,h3,h4,h5⟩:=q;exact⟨l',ws,e,by rw[aF (ne h5)];exact h1,h2,h3,h4,h5⟩
  |dic kds=>obtain⟨l',ws,e,h1,h2,h3,h4,h5⟩:=q;exact⟨l',ws,e,by rw[aF (ne h5)];exact h1,h2,h3,h4,h5⟩
 have stays:∀{fs:List (Nat×Fd)}{vs:List (Str×V)},fs.lookup k=Option.none->FdsAt K H₀ G H ow i m fs vs->FdsAt K H₀ G (upd H l (.dK (kvD es us))) ow i m fs vs:=by
  intro fs vs n q;induction q with
  |nil=>exact .nil
  | @cons b fd' v' fs' vs' h' nk' r' t' ih=>
   have nb:(k==b)=false:=by
    cases z:k==b with
    |false=>rfl
    |true=>simp only[wR,z]at n;cases n
   have nt:fs'.lookup k=Option.none:=by simpa only[wR,nb]using n
   exact .cons h' nk' (stay (λz=>by rw[z]at nb;simp at nb) r') (ih nt)
 induction q with
 |nil=>intro fd e;simp at e
 | @cons a fd v fs vs h nk r t ih=>
  intro fd0 e e2;unfold ml;by_cases z:a=k
  ·subst z;rw[if_pos rfl];have ev:v=.ref l:=by simpa[wR]using e2
   subst ev;exact .cons h nk ⟨l,us,rfl,aV,gl,hl,re,ol⟩ (stays nk t)
  ·rw[if_neg z];have q1:(k==a)=false:=by simp;exact λq=>z q.symm
   have e':fs.lookup k=some fd0:=by simpa only[wR,q1]using e
   have hk:=t.keys k _ e';have q2:(eD k==eD a)=false:=by
    cases y:eD k==eD a with
    |false=>rfl
    |true=>exact absurd (oP k hk a h (l9 y)) λq=>z q.symm
   have e2':vs.lookup (eD k)=some (.ref l):=by simpa only[wR,q2]using e2
   exact .cons h (oU z nk) (stay z r) (ih e' e2')
end
section
variable{K:PySem.W.Frag}{H₀:Hp}{p dx:Addr}{fs:List (Nat×Fd)}{vs:List (Str×V)}
def StR.fmutD(s:StR K G₀ H₀ G H σ ρ)(e:ρ[i]?=some (some (.obj true C p fs))){ds es:List (Int×D)}{us:List V}(ek:fs.lookup k=some (.dic ds))(re:Reps K G us (es.map (·.2)))(hp:H p=some (.ins C dx vs))(el:vs.lookup (eD k)=some (.ref l)):
  StR K G₀ H₀ G (upd H l (.dK (kvD es us))) σ (ρ.set i (some (.obj true C p (ml k (.dic es) fs)))):=by
 obtain⟨ow,o1,o2⟩:=s.ob;obtain⟨hne,dx',vs',h1,h2,h3,h4,h5,h6,h7,h8⟩:=(o2 i true C p fs e).2.insH hp;rw[hp]at h1;cases h1;obtain⟨v,e1,l',ws,ev,g1,g2,g3,g4,g5⟩:=h8.get ek;rw[el]at e1;cases e1;cases ev;have np:∀{a:Addr}{o:HO},H a=some o->(∀xs,o≠.dK xs)->a≠l:=λq n z=>by rw[z,g1]at q;cases q;exact n _ rfl
 refine s.objTo e o1 o2 (ow2:=ow) (λa o q n=>?_) (λa o q=>?_) (λa o q=>?_) (λa j t o _ q _=>q) ?_;·rw[aF (λz=>n _ (z▸g5))];exact q
 ·rw[aF (λz=>by rw[z,g3 rfl]at q;cases q)];exact s.up.hh a o q
 ·rw[aF (λz=>by rw[z,g2]at q;cases q)];exact s.e.sub a o q
 ·refine .inl ⟨hne,dx,vs,?_,?_,h3,h4,h5,h6,h7,h8.mutD re g5 g2 g3 ek el⟩;·rw[aF (np hp λ_ z=>by cases z)];exact hp
  ·rw[aF (np h2 λ_ z=>by cases z)];exact h2
def StR.fputD(s:StR K G₀ H₀ G H σ ρ)(e:ρ[i]?=some (some (.obj true C p fs)))(hk:k<fnames.length)(hl:H l=none)(hp:H p=some (.ins C dx vs)):
  StR K G₀ H₀ G (upd (upd H l (.dK [])) p (.ins C dx (pq (eD k) (.ref l) vs))) σ (ρ.set i (some (.obj true C p (ml k (.dic []) fs)))):=by
 obtain⟨ow,o1,o2⟩:=s.ob;obtain⟨hne,dx',vs',h1,h2,h3,h4,h5,h6,h7,h8⟩:=(o2 i true C p fs e).2.insH hp;rw[hp]at h1;cases h1;have nl:∀{a:Addr}{o:HO},H a=some o->a≠l:=λq z=>by rw[z,hl]at q;cases q
 have gl:G l=none:=s.e.sub.free hl;have h0l:H₀ l=none:=s.up.hh.free hl;refine s.objTo e o1 o2 (ow2:=λa=>if a=l then some (i,k+1)else ow a) (λa o q n=>?_) (λa o q=>?_) (λa o q=>?_) (λa j t o _ q q2=>(if_neg (nl q2)).trans q) ?_;·rw[aF (λz=>n _ (z▸h6)),aF (nl q)];exact q
 ·rw[aF (λz=>by rw[z,(h5 rfl).1]at q;cases q),aF (nl (s.up.hh a o q))];exact s.up.hh a o q
 ·rw[aF (λz=>by rw[z,h3]at q;cases q),aF (nl (s.e.sub a o q))];exact s.e.sub a o q
 ·refine .inl ⟨hne,dx,_,aV,?_,h3,h4,h5,(if_neg (nl hp)).trans h6,(if_neg (nl h2)).trans h7,?_⟩;·rw[aF (λz=>by rw[z,hp]at h2;cases h2),aF (nl h2)];exact h2
  ·refine FdsAt.put (fd:=.dic []) hk ⟨l,[],rfl,?_,gl,λ_=>h0l,.nil,if_pos rfl⟩ (h8.keepL λl' o q n=>⟨?_,if_neg (nl q)⟩);·rw[aF (λz=>nl hp z.symm),aV];rfl
   ·rw[aF (λz=>by rw[z,hp]at q;cases q;exact n _ _ _ rfl),aF (nl q)];exact q
end
noncomputable def Je(fs:List (Nat×Fd))(k:Nat):R (List (Int×D)):=match fs.lookup k with
 |some (.dic kds)=>.ok kds
 |_=>.no
noncomputable def E7(C:Addr)(i k:Nat):Ev->O:=λρ=>(CP C ρ i).out ρ λo=>if o.2.length<900 then .nx (ρ.set i (some (.obj true C o.1 (ml k (.dic []) o.2))))else .no
noncomputable def yJ(C:Addr)(i k:Nat):Ev->R D:=λρ=>Jb C ρ i>>=λfs=>Je fs k>>=λkds=>.ok (.int (kds.length:Nat))
noncomputable def yq(C:Addr)(i k:Nat)(gk ga:Ev->R D):Ev->O:=λρ=>(CP C ρ i).out ρ λo=>(Je o.2 k).out ρ λkds=>(fA (ga ρ)).out ρ λd=>(fA (gk ρ)).out ρ λn=>match n with
 |.int n=>if kds.length<900/\(kds.any λx=>x.1==n)=false then .nx (ρ.set i (some (.obj true C o.1 (ml k (.dic (kds++[(n,d)])) o.2))))else .no
 |_=>.no
section
variable{e ix:Expr}{ga:Ev->R D}{x f:Str}{ks:List Nat}{p1 p2 p3 pos tp:Pos}
def IG:PE X (.Dict [] [] pos) (λ_ H Q=>∀p,H p=none->Q (.ref p) (upd H p (.dK []))):=λpins s σ H Q I h=>by
 have new:ObjOk X.prog X.w (upd H s.heap.objs.size (.dK [])) (s.heap.push { cls:=.type "dict",data:=.dict #[] }) s.heap.objs.size (.dK []):=by refine⟨qd _,lU.mpr (x9 (xD ?_)),[],.nil,Heap.DictOf.new s.heap⟩;exact Nat.lt_trans (by decide) (I.mod.glob.keeps I.bk).lt
 exact wpAny_Dict_empty ⟨.ref s.heap.objs.size,_,I.laid (t':=s.toks) (λ_ _ q=>zT _ q) (zE _) new,rfl,h _ (I.hok.fresh (zE _))⟩
def KZ(i k:Nat)(c:CF X.K C ks)(hk:k∈ks)(hi:X.N[i]?=some x:=by rfl)(hv:Vis X.env.scope x:=by first|exact Or.inl rfl|exact Or.inr (Or.inl rfl)|exact Or.inr (Or.inr rfl))(hf:f=eD k:=by rfl)(hd:(x==("__debug__":Str))=false:=by decide)(hcd:(x==("__classdict__":Str))=false:=by decide)(hs:swapsWith (.Dict [] [] p3) (some (.Attribute (.Name x p1) f p2)) pos.line X.env=pure false:=by rfl):
  PSF X (.Assign [.Attribute (.Name x p1) f p2] (.Dict [] [] p3) pos) (E7 C i k):=λG₀ H₀ pins s σ H D I h=>by
 subst hf;refine BD (iS hi hv hd hcd) IG hs pins s σ H D I ?_;obtain⟨G,ρ,sr,h⟩:=h;obtain⟨p,fs,e1,h⟩:=mE h;intro l hl;obtain⟨h1,ow,ob0⟩:=sr.e.obs i true C p fs e1;obtain⟨dx,vs,g1,g2,g3,g4,g5,g6,g7,g8⟩:=ob0.ins c.ne;by_cases hz:fs.length<900;·rw[if_pos hz]at h;refine⟨.ref p,h1,p,C,dx,vs,rfl,?_,c.cl,(c.na k hk).2,by rw[g8.len];omega,h _ G _ (sr.fputD e1 (c.na k hk).1 hl g1)⟩;rw[aF (λz=>by rw[z,hl]at g1;cases g1)];exact g1
 ·rw[if_neg hz]at h;exact h.elim
def xL:ky X (.builtin "len") (λxs H Q=>∃p kvs,xs=[.ref p]/\H p=some (.dK kvs)/\Q (.int kvs.length) H):=by
 intro pins s σ H xs us Q I rs ⟨p,kvs,ex,h1,q⟩;subst ex;obtain⟨u,rfl,rx⟩:=Km rs;cases rx;obtain⟨z,hd,vs,rel,dd⟩:=(show ObjOk X.prog X.w H s.heap p (.dK kvs) from I.hok p _ h1)
 have hl:=Gj rel;refine call_len_dict hd dd (by rw[<- hl];have:=z;rw[k7]at this;omega) ⟨.int kvs.length,H,I.tok _,⟨_,by rw[<- hl]⟩,q⟩
def BK{K:PySem.W.Frag}{ws:List V}(r:Reps K G ws (kds.map (·.2))):(kvD kds ws).length=kds.length:=by have:=r.length;rw[uc]at this;unfold kvD;rw[List.length_zip,uc,this];simp
def Ip(i k:Nat)(c:CF X.K C ks)(hk:k∈ks)(hg:Gl X "len")(hm:X.mg "len"=none)(hi:X.N[i]?=some x:=by rfl)(hv:Vis X.env.scope x:=by first|exact Or.inl rfl|exact Or.inr (Or.inl rfl)|exact Or.inr (Or.inr rfl))(hf:f=eD k:=by rfl)(hd:(x==("__debug__":Str))=false:=by decide)(hcd:(x==("__classdict__":Str))=false:=by decide)(hba:attributeBase (.Name x p1) f X.env (eval (.Name x p1) X.env)=eval (.Name x p1) X.env:=by rfl)(he:starEach [.Attribute (.Name x p1) f p2] X.env=(false,eval (.Attribute (.Name x p1) f p2) X.env)::starEach [] X.env:=by rfl):
  PF X (.Call (.Name "len" p3) [.Attribute (.Name x p1) f p2] [] pos) (yJ C i k):=λpins s σ H Q I h=>by
 subst hf;refine lM xL hg hm PySem.boot_len (dM (AQ (iS hi hv hd hcd) hba) jI he) (by decide) (by decide) he rfl pins s σ H Q I ?_;obtain⟨G,ρ,st,h⟩:=h;obtain⟨m,p,fs,e1,h⟩:=Bi h;unfold Je at h;split at h;·rename_i kds e2;obtain⟨h1,ow,ob0⟩:=st.obs i m C p fs e1;obtain⟨dx,vs,g1,g2,g3,g4,g5,g6,g7,g8⟩:=ob0.ins c.ne;obtain⟨v,e3,l,ws,ev,q1,q2,q3,q4,q5⟩:=g8.get e2;subst ev;refine⟨.ref p,h1,p,C,dx,vs,.ref l,rfl,g1,c.cl,(c.na k hk).2,e3,l,_,rfl,q1,?_⟩;have:=BK q4;unfold kvD at this;rw[this];exact h _ G H (.refl st.sub) (.int _)
 ·exact h.elim
def HN{K:PySem.W.Frag}{G:Hp}{ws:List V}{n:Int}(h:(kds.any λx=>x.1==n)=false):∀e∈kvD kds ws,e.1≠Sum.inl n:=λe he z=>by obtain⟨a,b⟩:=e;have z:a=Sum.inl n:=z;subst z;have:=(iN he).1;obtain⟨x,hx,ex⟩:=o9.1 this;have:=List.any_eq_false.1 h x hx;cases ex;simp at this
def EW{ws:List V}{n:Int}(h:ws.length=kds.length):kvD kds ws++[(Sum.inl n,v)]=kvD (kds++[(n,d)]) (ws++[v]):=by unfold kvD;rw[Zh,List.zip_append (by rw[uc,h])];rfl
def Hn(i k:Nat)(c:CF X.K C ks)(hk:k∈ks)(he:PF X e ga)(hx:PF X ix gk)(hi:X.N[i]?=some x:=by rfl)(hv:Vis X.env.scope x:=by first|exact Or.inl rfl|exact Or.inr (Or.inl rfl)|exact Or.inr (Or.inr rfl))(hf:f=eD k:=by rfl)(hd:(x==("__debug__":Str))=false:=by decide)(hcd:(x==("__classdict__":Str))=false:=by decide)(hba:attributeBase (.Name x p1) f X.env (eval (.Name x p1) X.env)=eval (.Name x p1) X.env:=by rfl)(hs:swapsWithSole [.Subscript (.Attribute (.Name x p1) f p2) ix tp] e pos.line X.env=pure false:=by rfl)(hw:swappedStores [.Subscript (.Attribute (.Name x p1) f p2) ix tp] e X.env=pure none:=by rfl)(h1':(assignEach [.Subscript (.Attribute (.Name x p1) f p2) ix tp] X.env).map (·.2)=[assign (.Subscript (.Attribute (.Name x p1) f p2) ix tp) X.env]:=by rfl)(ha:∀v,assign (.Subscript (.Attribute (.Name x p1) f p2) ix tp) X.env v=(do
 let ov <- holding [v] (eval (.Attribute (.Name x p1) f p2) X.env);let iv <- holding [v,ov] (eval ix X.env)
 standAt tp
 holding [v,ov,iv] (setItem ov iv v)
 release [v,ov,iv] []):=by intro _;rfl):
  PSF X (.Assign [.Subscript (.Attribute (.Name x p1) f p2) ix tp] e pos) (yq C i k gk ga):=λG₀ H₀ pins s σ H D I ⟨G,ρ,sr,h⟩=>by
 subst hf;obtain⟨p,fs,e1,h⟩:=mE h;unfold Je at h;split at h
 case h_2=>exact h.elim
 rename_i kds e2;have h:jW X G₀ H₀ D ((fA (ga ρ)).out ρ λd=>(fA (gk ρ)).out ρ λn=>match n with
  |.int n=>if kds.length<900/\(kds.any λx=>x.1==n)=false then .nx (ρ.set i (some (.obj true C p (ml k (.dic (kds++[(n,d)])) fs))))else .no
  |_=>.no):=h;refine qX he (FY (AQ (iS hi hv hd hcd) hba) hx Hm ha) hs hw h1' pins s σ H D I ⟨G,ρ,sr.e,?_⟩;cases q1:ga ρ with
 |ok d=>
  rw[q1]at h;intro v G1 H1 u1 r1;have sr1:=sr.ups u1;obtain⟨h1,ow,ob0⟩:=sr1.e.obs i true C p fs e1;obtain⟨dx,vs,g1,g2,g3,g4,g5,g6,g7,g8⟩:=ob0.ins c.ne;obtain⟨w,e3,l,ws,ev,a1,a2,a3,a4,a5⟩:=g8.get e2;subst ev;refine⟨.ref p,h1,p,C,dx,vs,.ref l,rfl,g1,c.cl,(c.na k hk).2,e3,G1,ρ,sr1.e,?_⟩;cases q2:gk ρ with
  |ok n=>
   simp only[fA,R.out,q2]at h;intro y G2 H2 u2 r2;cases n with
   |int n=>
    have ey:=r2.int_inv;subst ey;have h:jW X G₀ H₀ D (if kds.length<900/\(kds.any λx=>x.1==n)=false then .nx (ρ.set i (some (.obj true C p (ml k (.dic (kds++[(n,d)])) fs))))else .no):=h;by_cases hz:kds.length<900/\(kds.any λx=>x.1==n)=false
    ·rw[if_pos hz]at h;have hl:(kvD kds ws).length=kds.length:=BK a4;have wl:ws.length=kds.length:=by have:=a4.length;rw[uc]at this;exact this
     refine⟨l,kvD kds ws,n,rfl,rfl,u2.hh _ _ a1,HN (K:=X.K) (G:=G) hz.2,by rw[hl];exact Nat.lt_trans hz.1 (by decide),?_⟩;rw[EW (d:=d) wl];refine h _ G2 _ ((sr1.ups u2).fmutD e1 e2 ?_ (u2.hh _ _ g1) e3);rw[Zh];exact(a4.mono u2.gg).append (.cons (r1.mono u2.gg) .nil)
    ·rw[if_neg hz]at h;exact h.elim
   |_=>exact h.elim
  |_=>simp only[fA,R.out,q2]at h;exact h.elim
 |_=>rw[q1]at h;exact h.elim
noncomputable def Dn(C:Addr)(i k:Nat)(ga:Ev->R D):Ev->O:=λρ=>(CP C ρ i).out ρ λo=>(Jf o.2 k).out ρ λd=>(fA (ga ρ)).out ρ λy=>(ofO (GW (λa b=>a+b) d y)).out ρ λz=>if o.2.length<900 then .nx (ρ.set i (some (.obj true C o.1 (ml k (.val z) o.2))))else .no
def JC(i k:Nat)(c:CF X.K C ks)(hk:k∈ks)(he:PF X e ga)(hi:X.N[i]?=some x:=by rfl)(hv:Vis X.env.scope x:=by first|exact Or.inl rfl|exact Or.inr (Or.inl rfl)|exact Or.inr (Or.inr rfl))(hf:f=eD k:=by rfl)(hd:(x==("__debug__":Str))=false:=by decide)(hcd:(x==("__classdict__":Str))=false:=by decide):
  PSF X (.AugAssign (.Attribute (.Name x p1) f p2) .Add e pos) (Dn C i k ga):=λG₀ H₀ pins s σ H D I ⟨G,ρ,sr,h⟩=>by
 subst hf;obtain⟨p,fs,e1,h⟩:=mE h;unfold Jf at h;split at h
 case h_2=>exact h.elim
 rename_i d e2;have h:jW X G₀ H₀ D ((fA (ga ρ)).out ρ λy=>(ofO (GW (λa b=>a+b) d y)).out ρ λz=>if fs.length<900 then .nx (ρ.set i (some (.obj true C p (ml k (.val z) fs))))else .no):=h;refine Cf (iS hi hv hd hcd) he Ml pins s σ H D I ?_;obtain⟨h1,ow,ob0⟩:=sr.e.obs i true C p fs e1;obtain⟨dx,vs,g1,g2,g3,g4,g5,g6,g7,g8⟩:=ob0.ins c.ne;obtain⟨w,e3,rw'⟩:=g8.get e2;have rw':Rep X.K G w d:=rw';refine⟨.ref p,h1,p,C,dx,vs,w,rfl,g1,c.cl,(c.na k hk).2,e3,G,ρ,sr.e,?_⟩;cases q1:ga ρ with
 |ok y=>
  rw[q1]at h;intro v G1 H1 u1 r1;have h:jW X G₀ H₀ D ((ofO (GW (λa b=>a+b) d y)).out ρ λz=>if fs.length<900 then .nx (ρ.set i (some (.obj true C p (ml k (.val z) fs))))else .no):=h;cases d with
  |int a=>
   cases y with
   |int b=>
    have ew:=rw'.int_inv;have ev:=r1.int_inv;subst ew ev;have h:jW X G₀ H₀ D (if fs.length<900 then .nx (ρ.set i (some (.obj true C p (ml k (.val (.int (a+b))) fs))))else .no):=h;by_cases hz:fs.length<900;·rw[if_pos hz]at h;have hp:=u1.hh _ _ g1;exact⟨a,b,rfl,rfl,dx,vs,hp,by rw[g8.len];omega,h _ G1 _ ((sr.ups u1).fput e1 (c.na k hk).1 (.int (a+b)) hp)⟩
    ·rw[if_neg hz]at h;exact h.elim
   |_=>exact h.elim
  |_=>exact h.elim
 |_=>rw[q1]at h;exact h.elim
end
noncomputable def uQ(F:MF)(n:Nat)(gl:D->R (List D)):List D->List (Nat×Fd)->Option (List D)
 | [],_=>some []
 |d::ds,fs=>match gl d with
  |.ok as=>if as.length=n then (match F fs as with
   |.ok r fs'=>if fl 10 r=true then (uQ F n gl ds fs').map (r::·)else none
   |_=>none)else none
  |_=>none
section
variable{e:Expr}{x b mn:Str}{px p1 ap cp pos:Pos}{ib:Nat}{ks:List Nat}{F:MF}
noncomputable def tCM(X:Cx)(ib n:Nat)(C:Addr)(F:MF)(gi gl:Ev->R (List D)):TE:=λσ H Q=>∃G ρ G₀ H₀ p fs items rs,StR X.K G₀ H₀ G H σ ρ/\ρ[ib]?=some (some (.obj true C p fs))/\gi ρ=.ok items/\
 uQ F n (λd=>gl [some (.val d),none]) items fs=some rs/\rs.length<=1000/\∀Dd vs G' H',Up G₀ H₀ G' H'->H' Dd=some (.lst vs)->G' Dd=none->Reps X.K G' vs rs->Q (.ref Dd) H'
def E8{pl:Addr->Shared->Hp->List Addr->Sem Bool}(ok:CompOk X scope x N' [ib])(hcalm:X.calm=true)(c:CF X.K C ks)(m:MCallee X.prog X.w X.K X.mg X.base C mn k n F)(hr:Room k X.A)(hi:PIF X (.Name x px) iter gi)(ha:∀C s₂ H₂ fp,PFA (aP X N' scope C s₂ H₂ fp) (e::es) gl)(hb:N'=[x,b])(hfb:(relabel scope X.env).names.lookup b=some .cell\/(relabel scope X.env).names.lookup b=some .free)(hd:(b==("__debug__":Str))=false)(hcd:(b==("__classdict__":Str))=false)(hmn:∀k,k<fnames.length->(mn==eD k)=false)(hst:∀C s₂ H₂ fp,starEach (e::es) (aP X N' scope C s₂ H₂ fp).env=(false,eval e (aP X N' scope C s₂ H₂ fp).env)::starEach es (aP X N' scope C s₂ H₂ fp).env)(hpl:∀C s₂ H₂ fp,(backTo cp (starEach es (aP X N' scope C s₂ H₂ fp).env)).any (·.1)=false)(ht:∀C s₂ H₂ fp,eval (.Call (.Attribute (.Name b p1) mn ap) (e::es) [] cp) (aP X N' scope C s₂ H₂ fp).env=(do
 let ov <- eval (.Name b p1) (aP X N' scope C s₂ H₂ fp).env
 standAt ap.atName
 let (f,first) <- holding [ov] (getMethod ov mn (pl C s₂ H₂ fp))
 callWith cp f first (backTo cp (starEach (e::es) (aP X N' scope C s₂ H₂ fp).env)) (backToKw cp (keywordEach [] (aP X N' scope C s₂ H₂ fp).env))))(hs:∀x,foldedSetIterable iter X.env x=pure x):PE X (.ListComp (.Call (.Attribute (.Name b p1) mn ap) (e::es) [] cp) [⟨.Name x px,iter,[],0⟩] scope pos) (tCM X ib n C F gi gl):=by
 intro pins s σ H Q I h;obtain⟨G,ρ,G₀,H₀,p,fs,items,rs,sr,e1,eg,ef,hlen,hQ⟩:=h;obtain⟨fm,fd,ps,M,hm,hbn,hln⟩:=m.ex;rw[dO];refine c7 (use:=none) rfl hs (eW λy hy hy2=>I.ok.has y.1 (.inl (ok.fr y hy hy2))) ok.kind ok.names ?_;have t:tG X (λG J items=>ItOk X.K G J items) gi σ H (λJ H1=>∃G1,Up G H G1 H1/\ItOk X.K G1 J items):=⟨G,ρ,sr.e,by rw[eg];exact λJ G1 H1 u r=>⟨G1,u,r⟩⟩
 refine thn (hi pins s σ H _ I t) λv s1 h1=>thn h1 λitv s2 h2=>?_;clear h1;obtain⟨it,fp,tn,J,H2,ei,I2,T,st2,f2,G2,u2,iok⟩:=h2;subst ei;have sr2:=sr.ups u2;clear sr;obtain⟨ow,o1,o2⟩:=sr2.ob;have ob0:=(o2 ib true C p fs e1).2.cut;have sp:σ[ib]?=some (some (.ref p)):=(o2 ib true C p fs e1).1;generalize hcw:yo ib true H₀ G2 H2 ow=cw0 at ob0;have cwH:∀a t,cw0 a=some t->(∃o,H2 a=some o)/\G2 a=none/\H₀ a=none:=λa t q=>by rw[<- hcw]at q;obtain⟨_,w1,w2,w3⟩:=wX q;exact⟨w1,w2,w3 rfl⟩
 have sub2:Same G2 H2:=sr2.e.sub;have upE:∀{G' H':Hp},Up G2 (hid H2 cw0) G' H'->Up G₀ H₀ G' H':=λ{G' H'} u=>by
  have k0:∀a o,H₀ a=some o->hid H2 cw0 a=some o:=λa o q=>by
   have n:cw0 a=none:=by
    cases z:cw0 a with
    |none=>rfl
    |some t=>rw[(cwH a t z).2.2]at q;cases q
   rw[pC n];exact sr2.up.hh a o q
  refine⟨u.sub,sr2.up.gg.trans u.gg,λa o q=>u.hh a o (k0 a o q),λa o q=>?_⟩;rcases u.fr a o q with z|z;·exact sr2.up.fr a o z
  ·right;cases y:H₀ a with
   |none=>rfl
   |some o'=>rw[k0 a o' y]at z;cases z
 have hfl:∀b∈fp,b<s2.heap.objs.size:=λb hb=>let⟨o,e,_⟩:=T.obj 0 s2.heap st2 b hb;zy e;refine t9 (Zn ok.cell (by intro y hy;simp at hy) (λh₁ hns₁ hsb₁=>?_) ok.kind);dsimp only at hns₁ hsb₁⊢;generalize hH2:s2.heap.push { cls:=.type "list",dict:=none,data:=.seq ([]:List Value).toArray }=Hq at hns₁ hsb₁⊢;have hC:Hq.objs.size=s2.heap.objs.size+1:=by rw[<- hH2,vg]
 have hDC:s2.heap.objs.size≠Hq.objs.size:=by rw[hC];exact xD (pP _)
 have hCle:s2.heap.objs.size<=Hq.objs.size:=by rw[hC];exact j9 _
 have old:∀b o,s2.heap.get? b=some o->h₁.get? b=some o:=λb o e=>
  hsb₁.extBut b o (by rw[hC];exact xD (i4 (zy e))) (zT _ (hH2▸zT _ e));have hacc:h₁.get? s2.heap.objs.size=some { cls:=.type "list",data:=.seq ([]:List Value).toArray }:=hsb₁.extBut _ _ hDC (zT _ (hH2▸xG _ rfl));have hD0:H2 s2.heap.objs.size=none:=I2.fresh;have hC0:H2 Hq.objs.size=none:=I2.hok.fresh hCle;have st0':tn 0 h₁:=T.keep 0 _ _ st2 λb hb o e=>old b o e;have I0:∀tk,Inv (aP X N' scope Hq.objs.size s2 H2 fp) [] (fX 1 [ib] σ) (upd H2 s2.heap.objs.size (.lst [])) { s2 with heap:=h₁,toks:=tk }:=λtk=>by
  refine sH ok.t hcalm I2 f2 hfl hCle hns₁ old (Un.laid old (zE _) hD0) (I2.hok.laid old (zE _) ⟨qd _,[],0,.nil,hacc⟩) (by rw[aF hDC.symm];exact hC0) λc hc e=>?_;rw[aF (xD hc)];exact e
 have nD0:cw0 s2.heap.objs.size=none:=by
  cases z:cw0 s2.heap.objs.size with
  |none=>rfl
  |some t=>obtain⟨⟨o,q⟩,_⟩:=cwH _ t z;rw[hD0]at q;cases q
 have in0:fX 1 [ib] σ=[none,some (.ref p)]:=by unfold fX;simp[sp]
 have loop:∀tk,codeAny (model X.prog X.w) X.A (.compLoop (.ListComp (.Call (.Attribute (.Name b p1) mn ap) (e::es) [] cp) [⟨.Name x px,iter,[],0⟩] scope pos) 0 (.ref it) (.ref s2.heap.objs.size) (compEnvC scope (nB X.env scope.names []) Hq.objs.size X.env))
   (compPost (model X.prog X.w) X.A X.xe none (EP X pins σ Q) (.ref s2.heap.objs.size) Hq.objs.size) { s2 with heap:=h₁,toks:=tk }:=λtk=>by
  have fpk:∀{pins':List (Addr×Obj)}{σ':St}{H':Hp}{s':Shared},Inv (aP X N' scope Hq.objs.size s2 H2 fp) pins' σ' H' s'->pins'=[]->(∀b∈fp,H' b=none)->∀b∈fp,qJ (aP X N' scope Hq.objs.size s2 H2 fp) pins' H' b:=λI' e hn b hb=>⟨hn b hb,(I'.ok.exf b hb).1,I'.ok.exfs b hb,.inl hb,(I'.ok.exf b hb).2,by subst e;intro p hp;exact absurd (show p∈([]:List (Addr×Obj)) from hp) (by simp)⟩
  refine rD (λnn s'=>∃(i:Nat)(v0:Option V)(G' H':Hp)(vs:List V)(ys zs:List D)(cw:kK)(gs:List (Nat×Fd)),nn=items.length - i/\i<=items.length/\Inv (aP X N' scope Hq.objs.size s2 H2 fp) [] [v0,some (.ref p)] H' s'/\tn i s'.heap/\(∀b∈fp,H' b=none)/\
   H' s2.heap.objs.size=some (.lst vs)/\G' s2.heap.objs.size=none/\cw s2.heap.objs.size=none/\ObjAt X.K (λ_=>none) G' H' cw 0 true C p gs/\(∀a t,cw a=some t->(∃o,H' a=some o)/\G' a=none/\hid H2 cw0 a=none)/\Up G2 (hid H2 cw0) G' H'/\Reps X.K G' vs ys/\
   uQ F n (λd=>gl [some (.val d),none]) (items.drop i) gs=some zs/\ys++zs=rs) ?_ items.length ?_
  ·rintro nn s' ⟨i,v0,G',H',vs,ys,zs,cw,gs,rfl,hil,I',tn',fr',hD',gD',nD',obj',cw',up',rp',ef',et'⟩;have hIt:=iok i G' H' up'.gg up'.sub;by_cases hlt:i<items.length
   ·have hdr:items.drop i=items[i]::items.drop (i+1):=i5 hlt;rw[hdr]at ef';unfold uQ at ef';split at ef'
    case h_2=>cases ef'
    rename_i as ea;split at ef'
    case isFalse=>cases ef'
    rename_i hn;split at ef'
    case h_2=>cases ef'
    rename_i r gs' eF;split at ef'
    case isFalse=>cases ef'
    rename_i hfl';obtain⟨zs',ez,rfl⟩:=Option.map_eq_some_iff.1 ef';obtain⟨go,yl⟩:=hIt.1 items[i] (by simp[hlt]);refine yT (T.item (aP X N' scope Hq.objs.size s2 H2 fp) rfl rfl rfl hcalm i [] s' _ H' (λ_ _=>False) I' (fpk I' rfl fr') tn' go) (λr s1 ⟨u,hr,h1⟩=>?_) λ_ _ z=>z;subst hr;refine yT h1 (λ_ s3 ⟨x2,H3,I3,r3,y3,tn3,fr3⟩=>?_) λ_ _ z=>z;obtain⟨G3,up3,rep3⟩:=yl x2 H3 y3;have I3p:=I3.pinned (fpk I3 rfl fr3) (T.obj _ _ tn3);have nd0:(aP X N' scope Hq.objs.size s2 H2 fp).N.Nodup:=ok.nd;refine yT (mf (X:=aP X N' scope Hq.objs.size s2 H2 fp) (pos:=px) (i:=0) ok.nd ok.hd (.inl (p9 ok.loc)) (.inr (p9 ok.loc)) _ s3 _ H3 x2 u (λσ4 H4=>σ4=[some x2,some (.ref p)]/\H4=H3) I3p r3 ⟨rfl,rfl⟩) (λ_ s4 ⟨σ4,H4,I4,e4,e4'⟩=>?_) λ_ _ z=>z;subst e4 e4';rw[List.forIn_nil];refine zh ?_;rw[if_pos rfl];have obj3:=obj'.keep (.up up3);have gn:∀{Ga Ha Gb Hb:Hp},Up Ga Ha Gb Hb->∀a,(∃o,Ha a=some o)->Ga a=none->Gb a=none:=λ{Ga Ha Gb Hb} u a ⟨o,z⟩ n=>by
     cases q:Gb a with
     |none=>rfl
     |some o'=>
      rcases u.fr a o' q with y|y;·rw[n]at y;cases y
      ·rw[z]at y;cases y
    have run:wpAny (model X.prog X.w) X.A (eval (.Call (.Attribute (.Name b p1) mn ap) (e::es) [] cp) (aP X N' scope Hq.objs.size s2 H2 fp).env) (EP (aP X N' scope Hq.objs.size s2 H2 fp) ([]++gH fp s3.heap) [some x2,some (.ref p)] (λv H7=>∃G5 H5 G7 ow7,Up G3 H4 G5 H5/\Up G5 (hid H5 cw) G7 H7/\ObjAt X.K (hid H5 cw) G7 H7 ow7 0 true C p gs'/\Rep X.K G7 v r)) (λ_ _=>False) s4:=by
     have v:PE (aP X N' scope Hq.objs.size s2 H2 fp) (.Name b p1) (OK 1):=iS (by show N'[1]?=some b;rw[hb];rfl) (.inr hfb) hd hcd;refine PySem.W.methodCall_KW (pl:=pl Hq.objs.size s2 H2 fp) (thn (v _ s4 _ H4 (λu H'=>u=.ref p/\H'=H4) I4 ⟨_,rfl,rfl,rfl⟩) λu s5 ⟨v',H5,I5,rv,ev,eh⟩=>?_) (ht Hq.objs.size s2 H2 fp);subst ev eh;obtain rfl:u=Value.ref p:=rv;obtain⟨dx,ws,g1,g2,g3,g4,g5,g6,g7,g8⟩:=obj3.ins c.ne;refine zd (X:=aP X N' scope Hq.objs.size s2 H2 fp) I5 g1 c.cl hm (g8.none hmn) ?_;have t:tAF (aP X N' scope Hq.objs.size s2 H2 fp) gl [some x2,some (.ref p)] H5 (λvs6 H6=>∃G6,Up G3 H5 G6 H6/\Reps X.K G6 vs6 as):=by
      refine⟨G3,[some (.val items[i]),none],⟨up3.sub,rfl,λj d z=>?_,λj m C p fs z=>?_⟩,by rw[ea];exact λvs6 G6 H6 u r=>⟨G6,u,r⟩⟩
      ·match j,z with
       | 0,z=>cases z;exact⟨x2,rfl,rep3⟩
       | 1,z=>cases z
      ·match j,z with
       | 0,z=>cases z
       | 1,z=>cases z
     refine b7 (first:=[.ref p]) (h₀:=X.base) I5.ok.mod.kin hm.kp (thn (ha Hq.objs.size s2 H2 fp cp _ s5 _ H5 _ I5 t) λus s6 q=>⟨?_,?_⟩) (hst Hq.objs.size s2 H2 fp) (hpl Hq.objs.size s2 H2 fp);·obtain⟨vs6,H6,I6,r6,_⟩:=q;exact I6.kIn
     obtain⟨vs6,H6,I6,r6,G6,up6,rp6⟩:=q;refine En (X:=aP X N' scope Hq.objs.size s2 H2 fp) M hr hbn hln I6 r6 rp6 hn up6.sub (λa t q=>?_) (obj3.keep (.up up6)) ?_;·obtain⟨⟨o,z1⟩,z2,_⟩:=cw' a t q;exact gn up6 a ⟨o,up3.hh _ _ z1⟩ (gn up3 a ⟨o,z1⟩ z2)
     ·rw[eF];exact λv G7 H7 ow7 u7 ob7 rep7=>⟨G6,H6,G7,ow7,up6,u7,ob7,rep7⟩
    refine yT run (λu7 s7 ⟨v7,H7,I7,r7,G5,H5,G7,ow7,up5,u7',ob7,rep7⟩=>?_) λ_ _ z=>z;have hD5:H5 s2.heap.objs.size=some (.lst vs):=up5.hh _ _ (up3.hh _ _ hD');have hidD:hid H5 cw s2.heap.objs.size=some (.lst vs):=by rw[pC nD'];exact hD5
    have hD7:H7 s2.heap.objs.size=some (.lst vs):=u7'.hh _ _ hidD;have gD5:G5 s2.heap.objs.size=none:=gn up5 _ ⟨_,up3.hh _ _ hD'⟩ (gn up3 _ ⟨_,hD'⟩ gD');have gD7:G7 s2.heap.objs.size=none:=gn u7' _ ⟨_,hidD⟩ gD5;have hvl:vs.length<sizeLine:=by
     have h1:=rp'.length;have h2:(ys++r::zs').length<=1000:=by rw[et'];exact hlen
     rw[sg,wV]at h2;exact v8 (show vs.length<1000 by omega) (by decide)
    refine yT (kQ (X:=aP X N' scope Hq.objs.size s2 H2 fp) _ s7 _ H7 (.ref s2.heap.objs.size) [v7] (.ref s2.heap.objs.size) [u7] (λ_ H8=>H8=upd H7 s2.heap.objs.size (.lst (vs++[v7]))) I7 rfl (.cons r7 .nil)
      ⟨_,vs,v7,rfl,rfl,hD7,hvl,rfl⟩) (λ_ s8 ⟨_,H8,I8,_,e8⟩=>?_) λ_ _ z=>z;subst e8;have keep:∀a o,hid H2 cw0 a=some o->hid H5 cw a=some o:=λa o q=>by
     have z:=up5.hh _ _ (up3.hh _ _ (up'.hh a o q));have n:cw a=none:=by
      cases y:cw a with
      |none=>rfl
      |some t=>rw[(cw' a t y).2.2]at q;cases q
     rw[pC n];exact z
    have pin:∀b∈fp,∀o,s3.heap.get? b=some o->s8.heap.get? b=some o/\(upd H7 s2.heap.objs.size (.lst (vs++[v7]))) b=none:=λb hb o e=>by have:=I8.pin (b,o) (q9 _ (q9 _ (fy hb e)));exact⟨this.1,this.2.1⟩
    have nD7:yo 0 true (hid H5 cw) G7 H7 ow7 s2.heap.objs.size=none:=by
     cases y:yo 0 true (hid H5 cw) G7 H7 ow7 s2.heap.objs.size with
     |none=>rfl
     |some t=>have:=(wX y).2.2.2 rfl;rw[hidD]at this;cases this
    have neD:∀{a:Addr}{t:Nat×Nat},yo 0 true (hid H5 cw) G7 H7 ow7 a=some t->a≠s2.heap.objs.size:=λq z=>by rw[z,nD7]at q;cases q
    refine⟨items.length - (i+1),by omega,i+1,some x2,G7,upd H7 s2.heap.objs.size (.lst (vs++[v7])),vs++[v7],ys++[r],zs',yo 0 true (hid H5 cw) G7 H7 ow7,gs',rfl,hlt,I8.unpinned,T.keep _ _ _ tn3 λb hb o e=>(pin b hb o e).1,λb hb=>?_,aV,gD7,nD7,?_,λa t q=>?_,?_,?_,ez,by rw[j4];exact et'⟩;·obtain⟨o,e,_⟩:=T.obj _ _ tn3 b hb;exact(pin b hb o e).2
    ·refine ob7.cut.keep ⟨λa t o q1 q=>?_,.refl _,λa t o _ _ n=>n,λa t o q1 _=>q1,λ_ _ _ _ n=>n⟩;rw[aF (neD q1)];exact q
    ·obtain⟨_,⟨o,w1⟩,w2,w3⟩:=wX q;refine⟨⟨o,by rw[aF (neD q)];exact w1⟩,w2,?_⟩;cases y:hid H2 cw0 a with
     |none=>rfl
     |some o'=>have:=w3 rfl;rw[keep a o' y]at this;cases this
    ·refine⟨λa o q=>?_,((up'.gg.trans up3.gg).trans up5.gg).trans u7'.gg,λa o q=>?_,λa o q=>?_⟩;·rw[aF (aJ q gD7)];exact u7'.sub a o q
     ·have z:=keep a o q;have ne:a≠s2.heap.objs.size:=λy=>by have:=(rV q).1;rw[y,hD0]at this;cases this
      rw[aF ne];exact u7'.hh a o z
     ·have back:∀{Ha:Hp},(∀o,hid H2 cw0 a=some o->Ha a=some o)->Ha a=none->hid H2 cw0 a=none:=λhk z=>by
       cases y:hid H2 cw0 a with
       |none=>rfl
       |some o'=>rw[hk o' y]at z;cases z
      rcases u7'.fr a o q with z|z
      ·rcases up5.fr a o z with z|z
       ·rcases up3.fr a o z with z|z;·exact up'.fr a o z
        ·exact .inr (back (λo' y=>up'.hh a o' y) z)
       ·exact .inr (back (λo' y=>up3.hh _ _ (up'.hh a o' y)) z)
      ·exact .inr (back (λo' y=>keep a o' y) z)
    ·exact((((rp'.mono up3.gg).mono up5.gg).mono u7'.gg)).append (.cons rep7 .nil)
   ·have hie:i=items.length:=by omega
    subst hie;rw[d9]at ef';cases ef';rw[rR]at et';subst et';refine yT (T.done (aP X N' scope Hq.objs.size s2 H2 fp) rfl rfl rfl hcalm items.length [] s' _ H' (λ_ _=>False) I' (fpk I' rfl fr') tn' (hIt.2 (zE _))) (λr s1 ⟨hr,I1⟩=>?_) λ_ _ z=>z;subst hr;obtain⟨m1,hm1,_⟩:=I1.loc;refine⟨m1,hm1,λh' hs'=>?_⟩;have I5:=I2.call' (H':=H') (s':={ s1 with heap:=h' }) (ch:=fp) I1.os (I1.base.sameBut (λb o hbc e=>hs'.extBut b o hbc e) hCle) (I1.hok.sameBut (λb o hbc e=>hs'.extBut b o hbc e) I1.free) I1.bare λb hb'=>by obtain⟨f0,f1,f2',f3,f4,f5⟩:=f2 b hb';exact⟨f3,f1,f4,f5⟩
    exact⟨.ref s2.heap.objs.size,_,I5,rfl,hQ _ vs G' H' (upE up') hD' gD' rp'⟩
  ·refine⟨0,none,G2,upd H2 s2.heap.objs.size (.lst []),[],[],rs,cw0,fs,by simp,qd _,in0▸I0 tk,st0',λb hb=>by rw[aF (xD (hfl b hb))];exact(f2 b hb).1,aV,sub2.free hD0,nD0,?_,λa t q=>⟨let⟨o,z⟩:=(cwH a t q).1;⟨o,by rw[aF (aJ z hD0)];exact z⟩,(cwH a t q).2.1,jq q⟩,?_,.nil,ef,rfl⟩;·refine ob0.keep ⟨λa t o q1 q=>?_,.refl _,λa t o _ _ n=>n,λa t o q1 _=>q1,λ_ _ _ _ n=>n⟩;rw[aF (aJ q hD0)];exact q
   ·refine⟨λa o q=>?_,.refl _,λa o q=>?_,λa o q=>.inl q⟩;·rw[aF (aJ q (sub2.free hD0))];exact sub2 a o q
    ·have:=(rV q).1;rw[aF (aJ this hD0)];exact this
 exact Zo (loop _) (T.self X.A 0 _ _ _ st0' (loop _))
end
noncomputable def xW(C:Addr)(ib n:Nat)(F:MF)(gi gl:Ev->R (List D))(ge:Ev->R D):Ev->O:=λρ=>(CP C ρ ib).out ρ λo=>(fA (gi ρ)).out ρ λitems=>match uQ F n (λd=>gl [some (.val d),none]) items o.2 with
 |some rs=>if rs.length<=1000 then (fA (ge (ρ.map λ_=>none))).out ρ λy=>(ofO (eqF (.lst false rs) y)).out ρ .rt else .no
 |none=>.no
section
variable{e e2:Expr}{x b mn:Str}{px p1 ap cp pos cp2 rp:Pos}{ks:List Nat}{F:MF}
def Ik{pl:Addr->Shared->Hp->List Addr->Sem Bool}(ib:Nat)(hu:X.A.units+64<cLine)(ok:CompOk X scope x N' [ib])(hcalm:X.calm=true)(c:CF X.K C ks)(m:MCallee X.prog X.w X.K X.mg X.base C mn k n F)(hr:Room k X.A)(hi:PIF X (.Name x px) iter gi)(ha:∀C s₂ H₂ fp,PFA (aP X N' scope C s₂ H₂ fp) (e::es) gl)(h2:PF X e2 ge)(hb:N'=[x,b]:=by rfl)(hfb:(relabel scope X.env).names.lookup b=some .cell\/(relabel scope X.env).names.lookup b=some .free:=by first|exact .inl rfl|exact .inr rfl)(hd:(b==("__debug__":Str))=false:=by decide)(hcd:(b==("__classdict__":Str))=false:=by decide)(hmn:∀k,k<fnames.length->(mn==eD k)=false:=by decide)(hst:∀C s₂ H₂ fp,starEach (e::es) (aP X N' scope C s₂ H₂ fp).env=(false,eval e (aP X N' scope C s₂ H₂ fp).env)::starEach es (aP X N' scope C s₂ H₂ fp).env:=by intros;rfl)(hpl:∀C s₂ H₂ fp,(backTo cp (starEach es (aP X N' scope C s₂ H₂ fp).env)).any (·.1)=false:=by intros;rfl)(ht:∀C s₂ H₂ fp,eval (.Call (.Attribute (.Name b p1) mn ap) (e::es) [] cp) (aP X N' scope C s₂ H₂ fp).env=(do
 let ov <- eval (.Name b p1) (aP X N' scope C s₂ H₂ fp).env
 standAt ap.atName
 let (f,first) <- holding [ov] (getMethod ov mn (pl C s₂ H₂ fp))
 callWith cp f first (backTo cp (starEach (e::es) (aP X N' scope C s₂ H₂ fp).env)) (backToKw cp (keywordEach [] (aP X N' scope C s₂ H₂ fp).env))):=by intros;rfl)(hs:∀x,foldedSetIterable iter X.env x=pure x:=by intro _;rfl):
  PSF X (.Return (some (.Compare (.ListComp (.Call (.Attribute (.Name b p1) mn ap) (e::es) [] cp) [⟨.Name x px,iter,[],0⟩] scope pos) [.Eq] [e2] cp2)) rp) (xW C ib n F gi gl ge):=λG₀ H₀ pins s σ H D I ⟨G,ρ,sr,h⟩=>by
 obtain⟨p,fs,e1,h⟩:=mE h;refine AF (B8 (BG hu) (E8 ok hcalm c m hr hi ha hb hfb hd hcd hmn hst hpl ht hs) h2 (iL _)) pins s σ H D I ?_;cases eg:gi ρ with
 |ex C=>rw[eg]at h;exact h.elim
 |no=>rw[eg]at h;exact h.elim
 |ok items=>
 rw[eg]at h;cases ef:uQ F n (λd=>gl [some (.val d),none]) items fs with
 |none=>simp only[fA,R.out,ef]at h;exact h.elim
 |some rs=>
 simp only[fA,R.out,ef]at h;by_cases hl:rs.length<=1000
 case neg=>rw[if_neg hl]at h;exact h.elim
 rw[if_pos hl]at h;refine⟨G,ρ,G₀,H₀,p,fs,items,rs,sr,e1,eg,ef,hl,λDd vs G' H' up hD gD rp=>?_⟩;have sb:Same (upd G' Dd (.lst vs)) H':=λa o q=>by
  by_cases z:a=Dd;·subst z;rw[aV]at q;rw[hD];exact q
  ·rw[aF z]at q;exact up.sub a o q
 have no:∀(i:Nat) y,(ρ.map λ_=>(none:Option Sl))[i]?=some (some y)->False:=λi y q=>by
  rw[ue]at q;cases z:ρ[i]? with
  |none=>rw[z]at q;cases q
  |some w=>rw[z]at q;cases q
 refine⟨upd G' Dd (.lst vs),ρ.map λ_=>none,⟨sb,by rw[uc];exact sr.e.len,λi d q=>(no i _ q).elim,λi m C p fs q=>(no i _ q).elim⟩,?_⟩;cases ey:ge (ρ.map λ_=>none)with
 |ex C=>rw[ey]at h;exact h.elim
 |no=>rw[ey]at h;exact h.elim
 |ok y=>
 rw[ey]at h;dsimp only at h;cases eq:eqF (.lst false rs) y with
 |none=>rw[eq]at h;exact h.elim
 |some d=>
 rw[eq]at h;unfold eqF at eq;cases ek:eqD 40 (.lst false rs) y with
 |none=>rw[ek]at eq;cases eq
 |some kk=>
 rw[ek]at eq;cases eq;intro w G5 H5 u r;exact⟨G5,_,y,kk,u.sub,.lst (u.gg _ _ aV) ((rp.mono (.into gD)).mono u.gg),r,ek,h _ G' H5 ⟨up.sub.trans u.hh,up.gg,up.hh.trans u.hh,up.fr⟩ (.bl kk)⟩
end
def tVs:List V->TA
 | []=>Mz
 |v::vs=>zw (tC v) (tVs vs)
theorem FD{σ:St}{H:Hp}:∀{vs:List V}{Q:List V->Hp->Prop},Q vs H->tVs vs σ H Q
 | [],_,h=>h
 |v::vs,Q,h=>FD (vs:=vs) (Q:=λxs H2=>Q (v::xs) H2) h
structure PickAt(X:Cx)(k n:Nat)(gl:Ev->R (List D))(es:List Expr)(gs:List (Ev->R D)):Prop where
 ex:∃vs,PA X es (tVs vs)/\vs.length=es.length/\∀(j:Nat) g,gs[j]?=some g->∃a fd ps f,vs[j]?=some (.ref a)/\FnF X.prog X.w X.K X.mg X.base k a fd ps f/\PySem.W.keepIn X.K (.ref a)=true/\Binds X.K fd ps []/\ps.length=n/\g=aG n f gl
section
variable{ix e:Expr}{es':List Expr}{gi:Ev->R D}{pos pl sp:Pos}{x:Str}{f:List D->R D}
def Ch:PickAt X k n gl [] []:=⟨[],jI,rfl,λj g h=>by simp at h⟩
def gy(c:Callee X.prog X.w X.K X.mg X.base x k n f)(h:PickAt X k n gl es gs)(hg:Gl X x:=by rfl)(hd:(x==("__debug__":Str))=false:=by decide)(hs:starEach (.Name x p::es) X.env=(false,eval (.Name x p) X.env)::starEach es X.env:=by rfl):PickAt X k n gl (.Name x p::es) (aG n f gl::gs):=by
 obtain⟨vs,pa,hl,hv⟩:=h.ex;obtain⟨a,fd,ps,F,m,kp,b,l⟩:=c.ex;refine⟨.ref a::vs,dM (jy hg m rfl hd) pa hs,by simp[hl],λj g hj=>?_⟩
 match j,hj with
 | 0,hj=>cases hj;exact⟨a,fd,ps,f,rfl,F,kp,b,l,rfl⟩
 |j+1,hj=>exact hv j g hj
def Bt(P:PickAt X k n gl es' gs)(hr:Room k X.A)(hi:PF X ix gi)(ha:PFA X (e::es) gl)(hn:es'.length<=100:=by decide)(he:starEach (e::es) X.env=(false,eval e X.env)::starEach es X.env:=by rfl)(hpl:(backTo pos (starEach es X.env)).any (·.1)=false:=by rfl)(hs:tT ix:=by exact λ_ _=>rfl):
  PF X (.Call (.Subscript (.List es' pl) ix sp) (e::es) [] pos) (zW gs gi):=by
 intro pins s σ H Q I h;obtain⟨G,ρ,st,h⟩:=h;obtain⟨vs,pa,hvl,hv⟩:=P.ex;rw[yn];have key:PE X (.Subscript (.List es' pl) ix sp) (tOp (MB X.K) (NZ (tVs vs)) (tF X gi)):=GV ix_list (CK pa) hi hs;refine z9 (thn (key pins s σ H (λv H1=>∃G1 a fd ps f,StE X.K G1 H1 σ ρ/\v=.ref a/\FnF X.prog X.w X.K X.mg X.base k a fd ps f/\PySem.W.keepIn X.K (.ref a)=true/\Binds X.K fd ps []/\(aG ps.length f gl ρ).post (Fin G1 H1 (Rep X.K) Q) (Exx X σ G1 H1)) I ?_) λu s1 q=>?_)
 ·refine FD ⟨by rw[hvl];exact xS hn (by decide),λl hl=>?_⟩;have u0:Up G H (upd G l (.lst vs)) (upd H l (.lst vs)):=.new st.sub hl;refine tG.intro (st.up u0) (mD u0 h) λd y G1 H1 u1 st1 r1 h1=>?_;cases r1 with
  |int i=>
   have h1:(if 0<=i then (match gs[i.toNat]? with
    |some g=>g ρ
    |none=>.no)else .no:R D).post (Fin G1 H1 (Rep X.K) Q) (Exx X σ G1 H1):=h1;by_cases h0:0<=i
   ·rw[if_pos h0]at h1;obtain⟨j,rfl⟩:=Z8 h0;rw[sR]at h1;cases q:gs[j]? with
    |none=>rw[q]at h1;exact h1.elim
    |some g=>rw[q]at h1;obtain⟨a,fd,ps,f,ev,F,kp,b,l',rfl⟩:=hv j g q;subst l';exact⟨l,vs,j,.ref a,rfl,rfl,.of (u1.sub _ _ (u1.gg _ _ aV)),BZ ev,G1,a,fd,ps,f,st1,rfl,F,kp,b,h1⟩
   ·rw[if_neg h0]at h1;exact h1.elim
  |_=>exact h1.elim
 ·obtain⟨v,H1,I1,rv,G1,a,fd,ps,f,st1,rfl,F,kp,b,q⟩:=q;cases rv;exact tf F hr kp b ha he hpl I1 st1 q
end
def Hd{x:Str}{pos:Pos}{g:List D->R D}(c:Callee X.prog X.w X.K X.mg X.base x k 0 g)(hr:Room k X.A)(hg:Gl X x:=by rfl)(hdb:(x==("__debug__":Str))=false:=by decide):
  PF X (.Call (.Name x p) [] [] pos) (aG 0 g (λ_=>.ok [])):=by
 obtain⟨f,fd,ps,F,hm,hk,hb,hl⟩:=c.ex;intro pins s σ H Q I h;obtain⟨G,ρ,st,h⟩:=h;have h:(g []).post (Fin G H (Rep X.K) Q) (Exx X σ G H):=h;refine k8 (mj I hg hm ?_ hdb);have hbb:=hb s [] I.kIn (by rw[hl];rfl);refine PySem.W.callWith_K0 (first:=[]) I.kIn hk ?_;refine nE (o8 (F.run X.A X.stack s H ⟨[],[]⟩ [] [] Q (λc _ H'=>∃C G',c=.ref C/\Up G H G' H'/\Exx X σ G H C) hr I.env0 hbb .nil ⟨by rw[hl];rfl,G,[],st.sub,.nil,h.mono (λ_ q=>q) λC q G' H' u=>⟨C,G',rfl,u,q⟩⟩) λr' s' hq=>?_);cases r' with
 |error e'=>obtain⟨a,C,H',rfl,fl,C',G',ec,u,q⟩:=hq;cases ec;exact q _ _ ⟨G,H,.refl st.sub,pins,s,a,rfl,I,.inr (.inl ⟨G',H',fl,u⟩)⟩
 |ok fl=>
  cases fl with
  |ret u=>exact I.after hq
  |_=>exact False.elim hq
section
variable{g g1 g2':Ev->O}{gt gu:Ev->R Bool}{ga gc:Ev->R D}{go gp:Ev->R (Option Int)}{f f':D->D->Option D}
def sk:aE g1 g2' ρ=(g1 ρ).seq g2':=rfl
def OV:oIf gt g1 g2' ρ=(gt ρ).out ρ λk=>if k=true then g1 ρ else g2' ρ:=rfl
def KS:eO i ga ρ=(ga ρ).out ρ λd=>.nx (ρ.set i (some (.val d))):=rfl
def Ly:cr ga ρ=(ga ρ).out ρ .rt:=rfl
def P1:oNx ρ=.nx ρ:=rfl
def LM:Aa i gl ρ=(gl ρ).out ρ λds=>.nx (ρ.set i (some (.own ds))):=rfl
def FZ:jK ga ρ=(ga ρ).out ρ λ_=>.nx ρ:=rfl
def JY:Bm asg gl g ρ=(gl ρ).out ρ λitems=>iC asg g items ρ:=rfl
def HA:dA C gl ρ=(gl ρ).out ρ λ_=>.ex C ρ:=rfl
def J3:MI asg ga ρ=(ga ρ).out ρ λd=>(asg d ρ).out ρ .nx:=rfl
def JL:yW i g ρ=g (frz i ρ):=rfl
def we{α β:Type}{h:α->R β}{gx:Ev->R α}:aB h gx ρ=gx ρ>>=h:=rfl
def OT{h:List D->Option D}:gOf h gl ρ=gl ρ>>=λds=>ofO (h ds):=rfl
def Cb:ac ga gl ρ=ga ρ>>=λx=>gl ρ>>=λxs=>.ok (x::xs):=rfl
def A7:aO gl ρ=gl ρ>>=λds=>.ok (.lst false ds):=rfl
def Iv:fQ gl ρ=gl ρ>>=λds=>if ds.length<=sizeLine then .ok ds else .no:=rfl
def On:gB2 f ga gb ρ=g2 f ga gb ρ>>=asB:=rfl
def Qh:gB3 f f' ga gb gc ρ=g3 f f' ga gb gc ρ>>=asB:=rfl
def OQ:gBn gt ρ=gt ρ>>=λk=>.ok (!k):=rfl
def FA:tz ga ρ=ga ρ>>=λx=>asI x>>=λi=>.ok (some i):=rfl
def LY{T:String}{h:D->List D->Option D}:fk T h ga gl ρ=ga ρ>>=λx=>if lm T x=true then gl ρ>>=λds=>ofO (h x ds)else .no:=rfl
def MQ:g2 f ga gb ρ=ga ρ>>=λx=>gb ρ>>=λy=>ofO (f x y):=rfl
def Lu:nS ga gb ρ=ga ρ>>=λx=>asB x>>=λk=>if k=true then gb ρ else .ok (.bl false):=rfl
def Py:gOr ga gb ρ=ga ρ>>=λx=>asB x>>=λk=>if k=true then .ok (.bl true)else gb ρ:=rfl
def Nw:Nq ga ρ=ga ρ>>=λx=>asB x>>=λk=>.ok (.bl (!k)):=rfl
def K8:Fb gt gu ρ=gt ρ>>=λk=>if k=true then gu ρ else .ok false:=rfl
def Lx:ny gt gu ρ=gt ρ>>=λk=>if k=true then .ok true else gu ρ:=rfl
def Kn:gIf gt ga gb ρ=gt ρ>>=λk=>if k=true then ga ρ else gb ρ:=rfl
def OM:gSl ga go gp ρ=ga ρ>>=λx=>go ρ>>=λl=>gp ρ>>=λu=>ofO (Jj l u x):=rfl
def BC:dD gl ix gt ga ρ=gl ρ>>=λitems=>kA gt ga items (lR ix ρ)>>=λds=>if ds.length<=sizeLine then .ok ds else .no:=rfl
def Co{h:List D->R D}:aG 1 h (ac ga λ_=>.ok []) ρ=ga ρ>>=λx=>h [x]:=Mc
def CH{h:List D->R D}:aG 2 h (ac ga (ac gb λ_=>.ok [])) ρ=ga ρ>>=λx=>gb ρ>>=λy=>h [x,y]:=FE
def BB{h:List D->R D}:aG 3 h (ac ga (ac gb (ac gc λ_=>.ok []))) ρ=ga ρ>>=λx=>gb ρ>>=λy=>gc ρ>>=λz=>h [x,y,z]:=Lj
def GX{h:List D->R D}{gd:Ev->R D}:aG 4 h (ac ga (ac gb (ac gc (ac gd λ_=>.ok [])))) ρ=ga ρ>>=λx=>gb ρ>>=λy=>gc ρ>>=λz=>gd ρ>>=λu=>h [x,y,z,u]:=by
 unfold aG;simp only[Cb];cases ga ρ <;> try rfl
 simp only[R.ok_bind];cases gb ρ <;> try rfl
 simp only[R.ok_bind];cases gc ρ <;> try rfl
 simp only[R.ok_bind];cases gd ρ <;> rfl
end
def JS(i:Nat)(ga:Ev->R D)(ρ:Ev):Jc i ga ρ=(ownAt ρ i).out ρ λds=>(ga ρ).out ρ λd=>(asL d).out ρ λes=>if ds.length+es.length<=sizeLine then .nx (ρ.set i (some (.own (ds++es))))else .no:=rfl
def NA(i:Nat)(ga:Ev->R D)(ρ:Ev):Oh i ga ρ=(ownAt ρ i).out ρ λds=>(ga ρ).out ρ λd=>if ds.length<sizeLine then .nx (ρ.set i (some (.own (ds++[d]))))else .no:=rfl
def Ot(i j:Nat)(gl:Ev->R (List D))(ρ:Ev):Nh i j gl ρ=(gl ρ).out ρ λds=>(qa [i,j] ds ρ).out ρ .nx:=rfl
def Qr(ds:List D)(ρ:Ev):ownAt (some (.own ds)::ρ) 0=.ok ds:=rfl
def Qv(a0:Option Sl)(ds:List D)(ρ:Ev):ownAt (a0::some (.own ds)::ρ) 1=.ok ds:=rfl
def PM(a0 a1:Option Sl)(ds:List D)(ρ:Ev):ownAt (a0::a1::some (.own ds)::ρ) 2=.ok ds:=rfl
def asl(ds:List D):asL (.lst false ds)=.ok ds:=rfl
def Pq(a0:Option Sl)(ds:List D)(ρ:Ev):frz 1 (a0::some (.own ds)::ρ)=a0::some (.val (.lst false ds))::ρ:=rfl
noncomputable def g3k(f':D->D->Option D)(r:R D)(y:D):D->R D
 |.bl true=>r>>=λw=>ofO (f' y w)
 |.bl false=>.ok (.bl false)
 |_=>.no
def Ph(f f':D->D->Option D)(ga gb gc:Ev->R D)(ρ:Ev):g3 f f' ga gb gc ρ=ga ρ>>=λx=>gb ρ>>=λy=>ofO (f x y)>>=g3k f' (gc ρ) y:=rfl
def NV(f':D->D->Option D)(r:R D)(y:D)(b:Bool):g3k f' r y (.bl b)=if b=true then (r>>=λw=>ofO (f' y w))else .ok (.bl false):=by cases b <;> rfl
def sv2(i j:Nat)(x y:D)(ρ:Ev):qa [i,j] [x,y] ρ=.ok ((ρ.set i (some (.val x))).set j (some (.val y))):=rfl
def Qd(a0 a1 a2 a3:Option Sl)(ds:List D)(ρ:Ev):frz 4 (a0::a1::a2::a3::some (.own ds)::ρ)=a0::a1::a2::a3::some (.val (.lst false ds))::ρ:=rfl
def MJ(ρ:Ev)(k:Ev->O):(O.nx ρ).seq k=k ρ:=rfl
def Pm(d:D)(k:Ev->O):(O.rt d).seq k=.rt d:=rfl
def Qo(C:Addr)(ρ:Ev)(k:Ev->O):(O.ex C ρ).seq k=.ex C ρ:=rfl
def PU(k:Ev->O):(O.no).seq k=.no:=rfl
def O9(d:D):aD (.rt d)=.ok d:=rfl
def Qu(ρ:Ev):aD (.nx ρ)=.ok .non:=rfl
def PP(C:Addr)(ρ:Ev):aD (.ex C ρ)=.ex C:=rfl
def OC(k:Bool):asB (.bl k)=.ok k:=rfl
def lA(i:Int):asI (.int i)=.ok i:=rfl
def Ql(k:Bool):gG (.bl k)=.ok k:=rfl
def rd7(a0 a1 a2 a3 a4 a5 a6:Option Sl)(d:D)(ρ:Ev):rdV (a0::a1::a2::a3::a4::a5::a6::some (.val d)::ρ) 7=.ok d:=rfl
def rd8(a0 a1 a2 a3 a4 a5 a6 a7:Option Sl)(d:D)(ρ:Ev):rdV (a0::a1::a2::a3::a4::a5::a6::a7::some (.val d)::ρ) 8=.ok d:=rfl
def rd9(a0 a1 a2 a3 a4 a5 a6 a7 a8:Option Sl)(d:D)(ρ:Ev):rdV (a0::a1::a2::a3::a4::a5::a6::a7::a8::some (.val d)::ρ) 9=.ok d:=rfl
def Pf(a0 a1 a2 a3 a4 a5 a6 a7 a8 a9:Option Sl)(d:D)(ρ:Ev):rdV (a0::a1::a2::a3::a4::a5::a6::a7::a8::a9::some (.val d)::ρ) 10=.ok d:=rfl
def Qx(a0 a1 a2 a3 a4 a5 a6 a7 a8 a9 a10:Option Sl)(d:D)(ρ:Ev):rdV (a0::a1::a2::a3::a4::a5::a6::a7::a8::a9::a10::some (.val d)::ρ) 11=.ok d:=rfl
def Pc(a0 a1 a2 a3 a4 a5 a6 a7 a8 a9 a10 a11:Option Sl)(d:D)(ρ:Ev):rdV (a0::a1::a2::a3::a4::a5::a6::a7::a8::a9::a10::a11::some (.val d)::ρ) 12=.ok d:=rfl
section
variable(i j:Int)
def Af:fq (.int i) (.int j)=some (.int (i+j)):=by simp only[fq]
def NS:lY (.int i) (.int j)=some (.int (i - j)):=by simp only[lY]
def Qa:leD (.int i) (.int j)=some (.bl (decide (i<=j))):=by simp only[leD]
def Qg:ltD (.int i) (.int j)=some (.bl (decide (i<j))):=by simp only[ltD]
def Pg:gtD (.int i) (.int j)=some (.bl (decide (j<i))):=by simp only[gtD]
def Pp:geD (.int i) (.int j)=some (.bl (decide (j<=i))):=by simp only[geD]
def Pi:eqF (.int i) (.int j)=some (.bl (i==j)):=by simp only[eqF,eqD,qj]
def QA:neF (.int i) (.int j)=some (.bl (!(i==j))):=by simp only[neF,eqD,qj]
end
def Au{i j:Int}(h : -(2 ^ 64)<i/\i<2 ^ 64):eS (.int i) (.int j)=some (.int (i * j)):=by simp only[eS];rw[if_pos (Or.inl h)]
def Mn{i j:Int}(h : -(2 ^ 64)<j/\j<2 ^ 64):eS (.int i) (.int j)=some (.int (i * j)):=by simp only[eS];rw[if_pos (Or.inr h)]
def rZ{x y:List Nat}(h:x.length+y.length<=sizeLine):fq (.str x) (.str y)=some (.str (x++y)):=by simp only[fq];rw[if_pos h]
def Pa(x y:List Nat):eqF (.str x) (.str y)=some (.bl (x==y)):=by simp only[eqF,eqD,qj]
def MK(x y:List Nat):neF (.str x) (.str y)=some (.bl (!(x==y))):=by simp only[neF,eqD,qj]
def yQ{α:Type}(n:Nat)(x:α):(List.replicate n [x]).flatten=List.replicate n x:=by
 induction n with
 |zero=>rfl
 |succ n ih=>rw[p7,nr,ih];rfl
def nU:(1000:Nat)<=sizeLine:=by decide
def Nd(h:n<=1000):eS (.str [c]) (.int (n:Int))=some (.str (List.replicate n c)):=by have:=nU;simp only[eS];rw[if_pos (by refine⟨by omega,by omega,?_⟩;simp;omega),sR,yQ]
def Qb{xs:List D}(h:xs[k]?=some d):ixD (.lst fz xs) (.int (k:Int))=some d:=by simp only[ixD];exact BZ h
def Ni(lo hi:Option Int)(x:List Nat):Jj lo hi (.str x)=some (.str (rC x lo hi)):=rfl
def N6(lo hi:Option Int)(x:List D):Jj lo hi (.tup x)=some (.tup (rC x lo hi)):=rfl
def Oq(fz:Bool)(x:List D):iB [.lst fz x]=some (.int x.length):=rfl
def NI(x:List D):iB [.tup x]=some (.int x.length):=rfl
def Ny(x:List Nat):iB [.str x]=some (.int x.length):=rfl
def m_t(h:ds.length<=1000):mkT ds=.ok (.tup ds):=if_pos (xS h nU)
def Pw{α:Type}(a v:α)(l:List α):(a::l).set 0 v=v::l:=rfl
def Aq{g:Ev->O}{ρ1 ρ2:Ev}(h1:asg d ρ=.ok ρ1)(h2:g ρ1=.nx ρ2):iC asg g (d::ds) ρ=iC asg g ds ρ2:=by
 rw[iC,h1];show(match g ρ1 with
  |.nx ρ2=>iC asg g ds ρ2
  |.ct ρ2=>iC asg g ds ρ2
  |.bk ρ2=>O.nx ρ2
  |.rt d=>O.rt d
  |.re d ρ2=>.re d ρ2
  |.ex C ρ2=>O.ex C ρ2
  |.no=>O.no)=_;rw[h2]
def Jl{a b:Expr}{pos:Pos}(hc:X.calm=true)(hg:Gl X "min")(hm:X.mg "min"=none)(ha:PFA X [a,b] gl)(he:starEach [a,b] X.env=(false,eval a X.env)::starEach [b] X.env:=by rfl)(hpl:(backTo pos (starEach [b] X.env)).any (·.1)=false:=by rfl):
  PF X (.Call (.Name "min" p) [a,b] [] pos) (gOf Jk gl):=ly (AM hc) (LS _) hg hm PyProof.Rows.Boot.«min» ha (by decide) (by decide) he hpl
def Np{a b:Expr}{ga:Ev->R D}{pos:Pos}(ha:PF X a ga)(hb:PF X b gb):PB X (.Compare a [.GtE] [b] pos) (gB2 geD ga gb):=N4 ha hb
noncomputable def rJ:D->List D->Option D
 |.str x,[.int i]=>if -1000<=i/\i<=1000 then some (.str (x++List.replicate (i.toNat - x.length) 32))else none
 |_,_=>none
noncomputable def Gc:V->List V->Hp->VK->Prop:=λx vs H Q=>∃(y:Str)(i:Int),x=.str y/\vs=[.int i]/\-1000<=i/\i<=1000/\Q (.str (Txt.ljust y i)) H
def Dg:MtR X "str.ljust" Gc:=by intro pins s σ H x xs v us Q I rx rv ⟨y,i,ex,exs,h1,h2,q⟩;subst ex exs;obtain⟨t,rfl⟩:=rx;obtain⟨u,rfl,r1⟩:=rv.one;obtain⟨t',rfl⟩:=r1;exact SC.ljust (padOk_of (by omega) (by omega)) (λt'' k=>⟨.str _,H,I.tok _,⟨_,rfl⟩,q⟩)
def uN(y:Str)(i:Int):(Txt.ljust y i).cps.toList=y.cps.toList++List.replicate (i.toNat - y.cps.toList.length) 32:=by
 unfold Txt.ljust;have hl:y.length=y.cps.toList.length:=by simp[Str.length]
 split
 ·rename_i h;have:i.toNat - y.cps.toList.length=0:=by omega
  rw[this];simp
 ·simp[Builtin.Str.padded,Str.length]
def E6(K:PySem.W.Frag):BA K "str" Gc rJ:=by
 intro G H x xs dx ds d Q s rx rs e q;unfold rJ at e;split at e
 ·split at e
  ·rename_i hi;cases e;obtain⟨v,rfl,r1⟩:=rs.one;obtain⟨y,rfl,ey,hy⟩:=rx.str_inv;obtain rfl:=r1.int_inv;refine⟨y,_,rfl,rfl,hi.1,hi.2,q _ G H (.refl s) (.strL (by rw[uN,ey]) ?_)⟩;have h1:y.length=y.cps.toList.length:=by simp[Str.length]
   have:=nU;rw[h1,ey]at hy;simp;omega
  ·cases e
 ·cases e
def B1{o e:Expr}{ga:Ev->R D}{ap cp:Pos}(ho:PF X o ga)(ha:PFA X [e] gl)(hbase:attributeBase o "ljust" X.env (eval o X.env)=eval o X.env:=by rfl)(hfew:((backTo cp (starEach [e] X.env)).all (λx=>!x.1) && (backToKw cp (keywordEach [] X.env)).all (λx=>x.1.isSome)
 && decide ([e].length+([]:List Keyword).length+(if ([]:List Keyword).isEmpty then 0 else 1)<30))=true:=by rfl)(hline:(ap.endLine==cp.line)=true:=by rfl)(hs:starEach [e] X.env=(false,eval e X.env)::starEach [] X.env:=by rfl):
  PF X (.Call (.Attribute o "ljust" ap) [e] [] cp) (fk "str" rJ ga gl):=iA oR PySem.F.slot_str_ljust PySem.F.type_str_ljust Dg (E6 _) ho ha hbase hfew hline hs rfl
noncomputable def mK:D->List D->Option D
 |.str x,[.int i]=>if -1000<=i/\i<=1000 then some (.str (List.replicate (i.toNat - x.length) 32++x))else none
 |_,_=>none
noncomputable def Fv:V->List V->Hp->VK->Prop:=λx vs H Q=>∃(y:Str)(i:Int),x=.str y/\vs=[.int i]/\-1000<=i/\i<=1000/\Q (.str (Txt.rjust y i)) H
def Dl:MtR X "str.rjust" Fv:=by intro pins s σ H x xs v us Q I rx rv ⟨y,i,ex,exs,h1,h2,q⟩;subst ex exs;obtain⟨t,rfl⟩:=rx;obtain⟨u,rfl,r1⟩:=rv.one;obtain⟨t',rfl⟩:=r1;exact SC.rjust (padOk_of (by omega) (by omega)) (λt'' k=>⟨.str _,H,I.tok _,⟨_,rfl⟩,q⟩)
def uA(y:Str)(i:Int):(Txt.rjust y i).cps.toList=List.replicate (i.toNat - y.cps.toList.length) 32++y.cps.toList:=by
 unfold Txt.rjust;have hl:y.length=y.cps.toList.length:=by simp[Str.length]
 split
 ·rename_i h;have:i.toNat - y.cps.toList.length=0:=by omega
  rw[this];simp
 ·simp[Builtin.Str.padded,Str.length]
def DW(K:PySem.W.Frag):BA K "str" Fv mK:=by
 intro G H x xs dx ds d Q s rx rs e q;unfold mK at e;split at e
 ·split at e
  ·rename_i hi;cases e;obtain⟨v,rfl,r1⟩:=rs.one;obtain⟨y,rfl,ey,hy⟩:=rx.str_inv;obtain rfl:=r1.int_inv;refine⟨y,_,rfl,rfl,hi.1,hi.2,q _ G H (.refl s) (.strL (by rw[uA,ey]) ?_)⟩;have h1:y.length=y.cps.toList.length:=by simp[Str.length]
   have:=nU;rw[h1,ey]at hy;simp;omega
  ·cases e
 ·cases e
def wH{o e:Expr}{ga:Ev->R D}{ap cp:Pos}(ho:PF X o ga)(ha:PFA X [e] gl)(hbase:attributeBase o "rjust" X.env (eval o X.env)=eval o X.env:=by rfl)(hfew:((backTo cp (starEach [e] X.env)).all (λx=>!x.1) && (backToKw cp (keywordEach [] X.env)).all (λx=>x.1.isSome)
 && decide ([e].length+([]:List Keyword).length+(if ([]:List Keyword).isEmpty then 0 else 1)<30))=true:=by rfl)(hline:(ap.endLine==cp.line)=true:=by rfl)(hs:starEach [e] X.env=(false,eval e X.env)::starEach [] X.env:=by rfl):
  PF X (.Call (.Attribute o "rjust" ap) [e] [] cp) (fk "str" mK ga gl):=iA oR PySem.F.slot_str_rjust PySem.F.type_str_rjust Dl (DW _) ho ha hbase hfew hline hs rfl
def P8(a0 a1 a2 a3 a4 a5 a6 a7 a8 a9 a10 a11 a12:Option Sl)(d:D)(ρ:Ev):rdV (a0::a1::a2::a3::a4::a5::a6::a7::a8::a9::a10::a11::a12::some (.val d)::ρ) 13=.ok d:=rfl
def P6(a0 a1 a2 a3 a4 a5 a6 a7 a8 a9 a10 a11 a12 a13:Option Sl)(d:D)(ρ:Ev):rdV (a0::a1::a2::a3::a4::a5::a6::a7::a8::a9::a10::a11::a12::a13::some (.val d)::ρ) 14=.ok d:=rfl
def No(i:Nat)(gt:Ev->R Bool)(g1 g2:Ev->O)(ρ:Ev):Ng i gt g1 g2 ρ=(fA (gt (frz i ρ))).out ρ λk=>if k=true then g1 ρ else g2 ρ:=rfl
def Mj(j i:Nat)(ga:Ev->R D)(ρ:Ev):II j i ga ρ=(fA (ga (frz j ρ))).out ρ λd=>if fl 10 d=true then .nx (ρ.set i (some (.val d)))else .no:=rfl
def Li(j i:Nat)(ga:Ev->R D)(ρ:Ev):MS j i ga ρ=(ownAt ρ i).out ρ λds=>(fA (ga (frz j ρ))).out ρ λd=>if ds.length<sizeLine/\fl 10 d=true then .nx (ρ.set i (some (.own (ds++[d]))))else .no:=rfl
noncomputable def L4(i:Nat)(ρ:Ev)(ds:List D)(d:D):Option Nat->O
 |some n=>if fl 10 d=true then .nx (ρ.set i (some (.own (ds.set n d))))else .no
 |none=>.no
def J2(i:Nat)(gk ga:Ev->R D)(ρ:Ev):GS i gk ga ρ=(ownAt ρ i).out ρ λds=>(fA (ga (frz i ρ))).out ρ λd=>(fA (gk (frz i ρ)>>=asI)).out ρ λk=>L4 i ρ ds d (ixN ds.length k):=rfl
def yU(i:Nat)(ρ:Ev)(ds:List D)(d:D)(n:Nat):L4 i ρ ds d (some n)=if fl 10 d=true then .nx (ρ.set i (some (.own (ds.set n d))))else .no:=rfl
def K5(gl:Ev->R (List D))(ρ:Ev):M9 gl ρ=gl ρ>>=MG:=rfl
def N5(xs:List D):MG [.tup xs]=.ok xs:=rfl
def HL(ga gb:Ev->R D)(ρ:Ev):JQ ga gb ρ=ga ρ>>=λx=>gb ρ>>=λc=>Gf x c:=rfl
def Gy(n:Nat)(asg:D->Ev->R Ev)(gl:Ev->R (List D))(ix:List Nat)(gt:Ev->R Bool)(ga:Ev->R D)(ρ:Ev):km n asg gl ix gt ga ρ=gl ρ>>=λitems=>jk asg gt ga items (fu n ix ρ)>>=λds=>if ds.length<=sizeLine then .ok ds else .no:=rfl
def La(i j:Nat)(ga:Ev->R D)(gl:Ev->R (List D))(ρ:Ev):NT i j ga gl ρ=(ga ρ).out ρ λd=>(gl ρ).out ρ λds=>.nx ((ρ.set i (some (.val d))).set j (some (.own ds))):=rfl
def Nf(f:Bool)(lo hi:Option Int)(x:List D):Jj lo hi (.lst f x)=some (.lst false (rC x lo hi)):=rfl
def Nj(ga gs:Ev->R D)(ρ:Ev):Pl ga gs ρ=ga ρ>>=λx=>gs ρ>>=λk=>MC x k:=rfl
def Ow(x:List Nat):MC (.str x) (.int (-1))=.ok (.str x.reverse):=rfl
def MW(f:Bool)(x:List D):MC (.lst f x) (.int (-1))=.ok (.lst false x.reverse):=rfl
def MT(f:Bool)(xs:List D):MG [.lst f xs]=.ok xs:=rfl
def MH(i:Nat):O->O
 |.nx ρ=>.nx (ρ.set i none)
 |.rt d=>.rt d
 |_=>.no
noncomputable def Ma(gs:Ev->O)(f:Addr->Option Bool)(i:Nat):O->O
 |.ex C ρ=>(match f C with
  |some true=>MH i (gs (ρ.set i (some (.val (.exc C)))))
  |_=>.no)
 |o=>o
def Ks(gb gs:Ev->O)(f:Addr->Option Bool)(i:Nat)(ρ:Ev):Gd gb gs f i ρ=Ma gs f i (gb ρ):=by unfold Gd Ma;cases gb ρ <;> rfl
def Ja(gs:Ev->O)(f:Addr->Option Bool)(i:Nat)(ρ:Ev):Ma gs f i (.nx ρ)=.nx ρ:=rfl
def Aw{gs:Ev->O}{f:Addr->Option Bool}(h:f C=some true):Ma gs f i (.ex C ρ)=MH i (gs (ρ.set i (some (.val (.exc C))))):=by simp only[Ma,h]
def Hc(i:Nat)(ρ:Ev):MH i (.nx ρ)=.nx (ρ.set i none):=rfl
noncomputable def Ko(gs:List (Ev->R D))(out:List Nat)(ρ:Ev):D->R D
 |.str x=>if (out++x).length<=sizeLine then oa gs (out++x) ρ else .no
 |_=>.no
def Mg(gs:List (Ev->R D))(ρ:Ev):vU gs ρ=oa gs [] ρ:=rfl
def Gw(out:List Nat)(ρ:Ev):oa [] out ρ=.ok (.str out):=rfl
def IA(g:Ev->R D)(gs:List (Ev->R D))(out:List Nat)(ρ:Ev):oa (g::gs) out ρ=g ρ>>=Ko gs out ρ:=rfl
def IB(gs:List (Ev->R D))(out:List Nat)(ρ:Ev)(x:List Nat):Ko gs out ρ (.str x)=if (out++x).length<=sizeLine then oa gs (out++x) ρ else .no:=rfl
def NW(x:List Nat):wA (.str x)=.ok (.str x):=rfl
def J8(h:n<10000000000):wA (.int (n:Int))=.ok (.str (qk n)):=by show(if 0<=(n:Int)/\(n:Int)<10000000000 then R.ok (D.str (qk (n:Int).toNat))else .no)=_;rw[if_pos (by omega),sR]
def GD(h:n<10000000000):lf [.int (n:Int)]=some (.str (qk n)):=by show(if 0<=(n:Int)/\(n:Int)<10000000000 then some (D.str (qk (n:Int).toNat))else none)=_;rw[if_pos (by omega),sR]
def L5(j i:Nat)(gl:Ev->R (List D))(ρ:Ev):NB j i gl ρ=(fA (gl (frz j ρ))).out ρ λds=>if ds.all (fl 10)=true then .nx (ρ.set i (some (.own ds)))else .no:=rfl
def MM(n:Nat)(gt:Ev->R Bool)(g:Ev->O)(ρ:Ev):AJ n gt g ρ=gI gt g n ρ:=rfl
def Iy(gi:Ev->R (List D))(ix:List Nat)(gt:Ev->R Bool)(ge:Ev->R D)(ρ:Ev):yz gi ix gt ge ρ=gi ρ>>=λitems=>if items.length<=sizeLine then hG (ur 0) gt ge items (lR ix ρ)else .no:=rfl
end L2
section
open L2
set_option compiler.extract_closed false in
local macro_rules | `(tactic| walk_at "run")=>`(tactic| simp -implicitDefEqProofs only[rvz,ciz,nlz,csz,Ll,Kv,Ku,JO,Iy,↓Co,↓CH,↓BB,↓GX,sk,OV,KS,Ly,P1,LM,FZ,JY,HA,J3,JL,we,OT,Cb,A7,Iv,On,Qh,OQ,FA,LY,MQ,Lu,Py,Nw,K8,Lx,Kn,OM,BC,JS,NA,Li,No,Mj,J2,jt,K5,HL,Gy,La,Nf,Nj,Ow,MW,yU,N5,MT,P8,P6,and_self,Ot,Qr,Qv,PM,asl,Pq,Qd,Ph,NV,sv2,MJ,Pm,Qo,PU,O9,Qu,PP,OC,lA,Ql,rd0,rd1,rd2,rd3,rd4,rd5,rd6,rd7,rd8,rd9,Pf,Qx,Pc,R.ok_bind,R.ok_out,R.ex_bind,R.ex_out,jX,Af,NS,Qa,Qg,Pg,Pp,Pi,QA,Pa,MK,Oq,NI,Ny,Ni,N6,Pw,List.set_cons_succ,i9,wV,ZC,j6,Nat.reduceAdd,Nat.reduceBEq,Bool.not_true,Bool.not_false,j8,sT,wO,L5,MM,Ks,Ja,Aw,Hc,Mg,Gw,IA,IB,NW,Int.reduceLT,Int.reduceLE,Int.reduceBEq,decide_true,decide_false, *])
namespace Q
open L2
open PySem (sizeLine Addr)
def OA:D->Bool
 |.int _=>true
 |_=>false
def EM:List D->R D
 | [.exc _]=>.no
 | [.dct _ _]=>.no
 | [d]=>.ok (.bl (OA d))
 |_=>.no
def ic:Ev->O:=(aE (cr (nS (aB (kn isInt) (rvz 0)) (Nq (aB (kn (·=="bool")) (rvz 0))))) oNx)
def xA:∀ds:List D,ds.length=1->EM ds=.no\/aD (ic  (aw 1 ds))=EM ds:=by
 intro ds hl;unfold ic
 match ds,hl with
 | [d],_=>cases d <;> first|exact Or.inr rfl|exact Or.inl rfl
def inB(d:D)(lo hi:Int):Bool:=match d with
 |.int i=>decide (lo<=i) && decide (i<=hi)
 |_=>false
noncomputable def ki:List D->R D
 | [.exc _,_,_]=>.no
 | [.dct _ _,_,_]=>.no
 | [d,.int lo,.int hi]=>.ok (.bl (inB d lo hi))
 |_=>.no
noncomputable def gv(iM:List D->R D):Ev->O:=(aE (cr (nS (aG 1 iM (ac (rvz 0) nlz)) (g3 leD leD (rvz 1) (rvz 0) (rvz 2)))) oNx)
def wq:∀ds:List D,ds.length=3->ki ds=.no\/aD (gv EM (aw 3 ds))=ki ds:=by
 intro ds hl;unfold gv
 match ds,hl with
 | [d,l,h],_=>
  cases d <;> first|exact Or.inl rfl|skip
  all_goals (cases l <;> first|exact Or.inl rfl|skip)
  all_goals (cases h <;> first|exact Or.inl rfl|skip)
  all_goals first|exact Or.inr rfl|skip
  rename_i i lo hi hl;refine Or.inr ?_;show aD (aE _ oNx [some (.val (.int i)),some (.val (.int lo)),some (.val (.int hi))])=R.ok (D.bl (inB (.int i) lo hi));by_cases h1:lo<=i <;> simp[aE,cr,nS,aG,ac,g3,rdV,EM,OA,asB,leD,inB,aD,O.seq,h1]
def plain(x:List Nat):Bool:=x.all λc=>decide (32<=c) && decide (c<=126)
noncomputable def nA:List D->R D
 | [.exc _]=>.no
 | [.dct _ _]=>.no
 | [.str x]=>if x.length<=sizeLine then .ok (.bl (plain x))else .no
 | [d]=>.ok (.bl false)
 |_=>.no
noncomputable def ie:Ev->O:=(aE (cr (nS (aB (kn (·=="str")) (rvz 0)) (gOf yx (ac (aO (dD (aB bJ (rvz 0)) [] (λ_=>R.ok true) (g3 leD leD (csz [32]) (rvz 0) (csz [126])))) nlz)))) oNx)
def wF:∀ds:List D,ds.length=1->nA ds=.no\/aD (ie  (aw 1 ds))=nA ds:=by
 intro ds hl;unfold ie
 match ds,hl with
 | [d],_=>
  cases d <;> first|exact Or.inl rfl|exact Or.inr rfl|skip
  rename_i x hl;by_cases hx:x.length<=sizeLine
  ·refine Or.inr ?_;have e:kA (λ_=>R.ok true) (g3 leD leD (λ_=>.ok (.str [32])) (rvz 0) (λ_=>.ok (.str [126]))) (x.map λc=>D.str [c]) [none]=.ok ((x.map λc=>D.str [c]).map λd=>.bl (match d with|.str [c]=>decide (32<=c) && decide (c<=126)|_=>false)):=by
    refine pb _ [] _ none λd m=>⟨rfl,?_⟩
    obtain⟨c,_,rfl⟩:=o9.1 m;show(ofO (some (D.bl (!decide (([c]:List Nat)<[32]))))>>=λz=>match z with
     |.bl true=>ofO (some (D.bl (!decide (([126]:List Nat)<[c]))))
     |.bl false=>R.ok (D.bl false)
     |_=>R.no:R D)=_;rw[A2,A2,jX,R.ok_bind];cases h1:decide (32<=c) <;> simp[h1]
   have e2:nA [.str x]=.ok (.bl (plain x)):=if_pos hx;rw[e2];show aD (aE _ oNx [some (.val (.str x))])=_;simp only[aE,cr,nS,aB,gOf,ac,aO,dD,rd0,kn,tyN,asB,lR,bJ,R.ok_bind,List.map_nil];simp only[aT,wO,e,R.ok_bind];simp only[uc,hx,wO,R.ok_bind,yP,jX,R.ok_out,aD,O.seq,List.all_map,plain];rfl
  ·exact Or.inl (if_neg hx)
def NL(d:D)(wd:Int):Bool:=match d with
 |.str x=>plain x && ((x.length:Int)==wd)
 |_=>false
noncomputable def Qp(d:D)(wd:Int):Bool:=match d with
 |.tup xs=>decide (1<=xs.length) && decide (xs.length<=12) && xs.all λr=>NL r wd
 |_=>false
def Nt(d:D)(wd m:Int):Bool:=match d with
 |.tup [a,b]=>inB a 0 (m - 1) && inB b 0 wd
 |_=>false
def zf:D->Bool
 |.exc _=>false
 |.dct _ _=>false
 |_=>true
def zx{lo hi:Int}(h:zf d=true):ki [d,.int lo,.int hi]=.ok (.bl (inB d lo hi)):=by cases d <;> first|rfl|(cases h;done)
noncomputable def KC:D->Bool
 |.tup [a,r,p]=>match a with
  |.int wd=>inB (.int wd) 1 40 && Qp r wd && (match r with|.tup rows=>Nt p wd rows.length|_=>false)
  |_=>false
 |_=>false
def sy:List D->Option (List Int)
 | []=>some []
 |.int i::ds=>(sy ds).map (i::·)
 |_=>none
theorem yv:∀{ds:List D}{ns:List Int},sy ds=some ns->ds=ns.map .int
 | [],ns,h=>by cases h;rfl
 |d::ds,ns,h=>by
  cases d <;> first|(cases h;done)|skip
  rename_i i;cases q:sy ds with
  |none=>simp[sy,q]at h
  |some ms=>simp[sy,q]at h;subst h;rw[yv q];rfl
theorem uE:∀ns:List Int,sy (ns.map .int)=some ns
 | []=>rfl
 |i::ns=>by simp[sy,uE ns]
noncomputable def cell(ns:List Int)(k:Nat):Int:=if k<ns.length then ns.getD k 0 else if ns.length=0 then 0 else ns.getD (k % ns.length) 0 * 31+k
def ye{ns:List Int}(h:k<ns.length):atI (ns.map D.int) (k:Int)=some (.int (ns.getD k 0)):=by
 have e:ixN (ns.map D.int).length (k:Int)=some k:=by
  rw[uc];simp[ixN]
  try omega
 rw[atI,e];simp[List.getD,h]
def tfr:∀ds:List D,ds.length=n->F ds=.no\/F ds=F ds:=λ_ _=>.inr rfl
noncomputable def fK:Ev->O:=(aE (oIf (gB2 ltD (rvz 1) (gOf iB (ac (rvz 0) nlz))) (aE (cr (g2 ixD (rvz 0) (rvz 1))) oNx) oNx) (aE (oIf (gB2 eqF (rvz 0) (aO (fQ nlz))) (aE (cr (ciz 0)) oNx) oNx) (aE (cr (g2 fq (g2 eS (g2 ixD (rvz 0) (g2 zK (rvz 1) (gOf iB (ac (rvz 0) nlz)))) (ciz 31)) (rvz 1))) oNx)))
def Dj:List D->R D:=λds=>aD (fK (aw 2 ds))
def Cv{ns:List Int}:Dj [.lst fz (ns.map .int),.int n]=.ok (.int (cell ns n)):=by
 show aD (fK [some (.val (.lst fz (ns.map .int))),some (.val (.int n))])=_;unfold fK;have t3:iB [.lst fz (ns.map .int)]=some (.int ns.length):=by simp[iB]
 by_cases h1:n<ns.length
 ·have h1':(n:Int)<(ns.length:Int):=by omega
  have x1:ixD (.lst fz (ns.map .int)) (.int n)=some (.int (ns.getD n 0)):=ye h1;simp only[aE,oIf,gB2,g2,cr,gOf,ac,rd0,rd1,R.ok_bind,R.ok_out,t3,x1,jX,ltD,asB,h1',decide_true,wO,O.seq,aD,cell,h1]
 ·have h1' : ¬ (n:Int)<(ns.length:Int):=by omega
  cases ns with
  |nil=>rfl
  |cons a as=>
   have t4:eqF (.lst fz ((a::as).map .int)) (.lst false [])=some (.bl false):=rfl;have h2:n % (a::as).length<(a::as).length:=Nat.mod_lt _ (by simp);have x1:ixD (.lst fz ((a::as).map .int)) (.int ((n % (a::as).length:Nat):Int))=some (.int ((a::as).getD (n % (a::as).length) 0)):=ye h2;have m1:zK (.int n) (.int (a::as).length)=some (.int ((n % (a::as).length:Nat):Int)):=by
    have:(0:Int)<((a::as).length:Int):=by simp
    simp only[zK,this,wO];rw[Int.natCast_emod]
   have m2:∀z:Int,eS (.int z) (.int 31)=some (.int (z * 31)):=λz=>if_pos (Or.inr (by decide));have z1:(0:Nat)<=sizeLine:=qd _;have z2 : ¬ (a::as).length=0:=by simp
   simp only[aE,oIf,gB2,g2,cr,gOf,ac,aO,fQ,rd0,rd1,R.ok_bind,R.ok_out,t3,t4,x1,m1,m2,jX,ltD,fq,asB,h1',decide_false,j8,sT,O.seq,oNx,aD,cell,h1,i9,z1,wO,z2]
def drawn(ns:List Int)(k:Nat):Int:=(cell ns k+6151 * ((k:Int)+1)) * 40692 % 2147483399
def zZ(ns:List Int)(k:Nat)(m:Int):Int:=(drawn ns k * drawn ns k+drawn ns k / 31) % 2147483629 % m
def gz(ns:List Int)(k:Nat){m:Int}(h:0<m):0<=zZ ns k m/\zZ ns k m<m:=⟨Int.emod_nonneg _ (by omega),Int.emod_lt_of_pos _ h⟩
noncomputable def fH(gL:List D->R D):Ev->O:=(aE (eO 3 (g2 zK (g2 eS (g2 fq (aG 2 gL (ac (rvz 0) (ac (rvz 1) nlz))) (g2 eS (ciz 6151) (g2 fq (rvz 1) (ciz 1)))) (ciz 40692)) (ciz 2147483399))) (aE (cr (g2 zK (g2 zK (g2 fq (g2 eS (rvz 3) (rvz 3)) (g2 mx (rvz 3) (ciz 31))) (ciz 2147483629)) (rvz 2))) oNx))
def nv:List D->R D:=λds=>aD (fH Dj (aw 4 ds))
def iK{ns:List Int}{m:Int}(hm:0<m):nv [.lst fz (ns.map .int),.int n,.int m]=.ok (.int (zZ ns n m)):=by
 show aD (fH Dj [some (.val (.lst fz (ns.map .int))),some (.val (.int n)),some (.val (.int m)),none])=_;unfold fH;have m1:∀z:Int,eS (.int 6151) (.int z)=some (.int (6151 * z)):=λz=>by show(if ((-(2 ^ 64):Int)<6151/\(6151:Int)<2 ^ 64)\/((-(2 ^ 64):Int)<z/\z<2 ^ 64)then some (D.int (6151 * z))else none)=_;exact if_pos (Or.inl (by decide))
 have m2:∀z:Int,eS (.int z) (.int 40692)=some (.int (z * 40692)):=λz=>if_pos (Or.inr (by decide));have m3:∀z:Int,zK (.int z) (.int 2147483399)=some (.int (z % 2147483399)):=λz=>by show(if (0:Int)<2147483399 then some (D.int (z % 2147483399))else none)=_;exact if_pos (by decide)
 have m4:∀z:Int,zK (.int z) (.int 2147483629)=some (.int (z % 2147483629)):=λz=>by show(if (0:Int)<2147483629 then some (D.int (z % 2147483629))else none)=_;exact if_pos (by decide)
 have m5:∀z:Int,zK (.int z) (.int m)=some (.int (z % m)):=λz=>if_pos hm;have m6:∀z:Int,mx (.int z) (.int 31)=some (.int (z / 31)):=λz=>by show(if (0:Int)<31/\(31:Int)<1073741824 then some (D.int (z / 31))else none)=_;exact if_pos (by decide)
 have m7:∀i j:Int,fq (.int i) (.int j)=some (.int (i+j)):=λ_ _=>rfl;have hd:0<=drawn ns n/\drawn ns n<2147483399:=⟨Int.emod_nonneg _ (by decide),Int.emod_lt_of_pos _ (by decide)⟩
 have m8:eS (.int (drawn ns n)) (.int (drawn ns n))=some (.int (drawn ns n * drawn ns n)):=if_pos (Or.inl (by omega));have s1:∀v,([some (.val (.lst fz (ns.map .int))),some (.val (.int n)),some (.val (.int m)),none]:Ev).set 3 v=[some (.val (.lst fz (ns.map .int))),some (.val (.int n)),some (.val (.int m)),v]:=λ_=>rfl;have q1:(cell ns n+6151 * ((n:Int)+1)) * 40692 % 2147483399=drawn ns n:=rfl;simp only[aE,eO,cr,g2,FE,rd0,rd1,rd2,rd3,R.ok_bind,R.ok_out,Cv,m1,m2,m3,m4,m5,m6,m7,jX,O.seq,s1,q1,m8,aD,zZ]
def Dt{α:Type}(xs:List α)(l:Nat)(h:l<=xs.length):rC xs none (some (l:Int))=xs.take l:=by
 have h1:HT.sIx xs.length 0 none=0:=rfl;have h2:HT.sIx xs.length xs.length (some (l:Int))=l:=by
  simp only[HT.sIx]
  first|omega|(split <;> omega)
 unfold rC;rw[h1,h2];simp
noncomputable def cl:Nat->D->Bool
 | 0,_=>false
 |_+1,.exc _=>false
 |_+1,.dct _ _=>false
 |n+1,.tup xs=>xs.all (cl n)
 |n+1,.lst _ xs=>xs.all (cl n)
 |_+1,_=>true
def nP(i lo hi:Int):ki [.int i,.int lo,.int hi]=.ok (.bl (decide (lo<=i) && decide (i<=hi))):=rfl
def Ce(b m r:Int):Bool:=decide (0<=b) && decide (b<=r - 1) && (decide (1<=m) && decide (m<=r - b))
def JE(l w:Nat):D->D
 |.str x=>.str ((x.drop l).take w)
 |d=>d
noncomputable def BH:List D->R D
 | [.tup [.int wd,.tup rows,p],.int t,.int l,.int h,.int w]=>if KC (.tup [.int wd,.tup rows,p])=true/\Ce t h rows.length=true/\Ce l w wd=true then .ok (.tup [.int w,.tup (((rows.drop t.toNat).take h.toNat).map (JE l.toNat w.toNat)),.tup [.int 0,.int 0]])else .no
 |_=>.no
def pl(ns:List Int)(a:Nat)(wd m:Nat):D:=.tup [.int (zZ ns (a+400) m),.int (zZ ns (a+401) (wd+1))]
noncomputable def eU(ba:List D->R D)(am:Addr):Ev->O:=(aE (oIf (gBn (aB gG (aG 1 ba (ac (rvz 0) nlz)))) (aE (dA am (ac (csz [116,104,105,115,32,105,115,32,110,111,32,112,108,97,105,110,32,116,101,120,116]) nlz)) oNx) oNx) oNx)
def jo:Ev->O:=(aE (cr (g2 inTF (rvz 0) (λ_=>R.ok (D.tup (List.map D.str [[60],[62],[94]]))))) oNx)
noncomputable def eZ(ad:List D->R D)(ah:Addr):Ev->O:=(aE (oIf (gBn (aB gG (aG 3 ad (ac (rvz 0) (ac (ciz 1) (ac (ciz 40) nlz)))))) (aE (dA ah (ac (csz [97,32,119,105,100,116,104,32,105,115,32,102,114,111,109,32,49,32,116,111,32,52,48,32,115,105,103,110,115]) nlz)) oNx) oNx) oNx)
noncomputable def uf(aQ eX:List D->R D):Ev->O:=(aE (jK (aG 1 aQ (ac (rvz 0) nlz))) (aE (jK (aG 1 eX (ac (rvz 1) nlz))) (aE (oIf (gB2 leD (gOf iB (ac (rvz 0) nlz)) (rvz 1)) (aE (cr (rvz 0)) oNx) oNx) (aE (cr (g2 fq (gSl (rvz 0) (λ_=>R.ok none) (tz (g2 lY (rvz 1) (ciz 1)))) (csz [126]))) oNx))))
noncomputable def gf(nK dz:List D->R D)(af:Addr):Ev->O:=(aE (eO 3 (aG 2 nK (ac (rvz 0) (ac (rvz 1) nlz)))) (aE (oIf (gBn (aB gG (aG 1 dz (ac (rvz 2) nlz)))) (aE (dA af (ac (csz [116,104,101,114,101,32,105,115,32,110,111,32,115,117,99,104,32,115,105,100,101]) nlz)) oNx) oNx) (aE (oIf (gB2 eqF (rvz 2) (csz [60])) (aE (cr (fk "str" rJ (rvz 3) (ac (rvz 1) nlz))) oNx) oNx) (aE (oIf (gB2 eqF (rvz 2) (csz [62])) (aE (cr (fk "str" mK (rvz 3) (ac (rvz 1) nlz))) oNx) oNx) (aE (eO 4 (g2 mx (g2 lY (rvz 1) (gOf iB (ac (rvz 3) nlz))) (ciz 2))) (aE (cr (fk "str" rJ (g2 fq (g2 eS (csz [32]) (rvz 4)) (rvz 3)) (ac (rvz 1) nlz))) oNx))))))
def gq:20000<=sizeLine:=by decide
def DJ(C:Addr):List D->R D:=λds=>aD (eU nA C (aw 1 ds))
def qi:∀ds:List D,ds.length=1->DJ C ds=.no\/aD (eU nA C (aw 1 ds))=DJ C ds:=λ_ _=>.inr rfl
def FL(h:nA [d]=.ok (.bl true)):DJ C [d]=.ok .non:=by
 show aD (aE _ _ [some (.val d)])=_
 walk_at "run"
 all_goals rfl
def sU{x:List Nat}(h:plain x=true)(hl:x.length<=10000):nA [.str x]=.ok (.bl true):=by have lb:=gq;have:nA [.str x]=.ok (.bl (plain x)):=if_pos (by omega);rw[this,h]
def cwF(C:Addr):List D->R D:=λds=>aD (eZ ki C (aw 1 ds))
def qH:∀ds:List D,ds.length=1->cwF C ds=.no\/aD (eZ ki C (aw 1 ds))=cwF C ds:=λ_ _=>.inr rfl
def K0(h:ki [d,.int 1,.int 40]=.ok (.bl true)):cwF C [d]=.ok .non:=by
 show aD (aE _ _ [some (.val d)])=_
 walk_at "run"
 all_goals rfl
def JT(h:ki [d,.int 1,.int 40]=.ok (.bl false)):cwF C [d]=.ex C:=by
 show aD (aE _ _ [some (.val d)])=_
 walk_at "run"
 all_goals rfl
def Hf{w lo hi:Nat}(h1:lo<=w)(h2:w<=hi):ki [.int (w:Int),.int (lo:Int),.int (hi:Int)]=.ok (.bl true):=by show R.ok (D.bl (decide ((lo:Int)<=(w:Int)) && decide ((w:Int)<=(hi:Int))))=_;rw[uY (by omega),uY (by omega)];rfl
def LD{w:Nat}(h1:1<=w)(h2:w<=40):cwF C [.int (w:Int)]=.ok .non:=K0 (Hf (lo:=1) (hi:=40) h1 h2)
def xx(w:Nat)(x:List Nat):List Nat:=if x.length<=w then x else x.take (w - 1)++[126]
def D1{w:Nat}(h:1<=w)(x:List Nat):(xx w x).length<=w:=by
 unfold xx;split;·assumption
 ·rw[sg,l6];simp;omega
def FK(C7 C3:Addr):List D->R D:=λds=>aD (uf (DJ C7) (cwF C3) (aw 2 ds))
def Jt:∀ds:List D,ds.length=2->FK C7 C3 ds=.no\/aD (uf (DJ C7) (cwF C3) (aw 2 ds))=FK C7 C3 ds:=λ_ _=>.inr rfl
section
def Bh{x:List Nat}{w:Nat}(hp:plain x=true)(hl:x.length<=10000)(h1:1<=w)(h2:w<=40):FK C7 C3 [.str x,.int (w:Int)]=.ok (.str (xx w x)):=by
 have e1:DJ C7 [.str x]=.ok .non:=FL (sU hp hl);have e2:cwF C3 [.int (w:Int)]=.ok .non:=LD h1 h2;show aD (aE _ _ [some (.val (.str x)),some (.val (.int (w:Int)))])=_;by_cases h:x.length<=w
 ·have q:decide ((x.length:Int)<=(w:Int))=true:=by simp;omega
  have e:xx w x=x:=if_pos h;rw[e];clear h hp hl h1 h2 e
  walk_at "run"
 ·have q:decide ((x.length:Int)<=(w:Int))=false:=by simp;omega
  have e:xx w x=x.take (w - 1)++[126]:=if_neg h;have k:(w:Int) - 1=((w - 1:Nat):Int):=by omega
  have c:rC x none (some ((w - 1:Nat):Int))=x.take (w - 1):=Dt x _ (by omega);have a:fq (.str (x.take (w - 1))) (.str [126])=some (.str (x.take (w - 1)++[126])):=rZ (by have:=gq;simp;omega);rw[e];generalize x.take (w - 1)++[126]=r at *;clear h hp hl h1 h2 e
  walk_at "run"
def ym{e:D}(h:nA [d]=.ok (.bl true))(h2:ki [e,.int 1,.int 40]=.ok (.bl false)):FK C7 C3 [d,e]=.ex C3:=by
 have e1:DJ C7 [d]=.ok .non:=FL h;have e2:cwF C3 [e]=.ex C3:=JT h2;show aD (aE _ _ [some (.val d),some (.val e)])=_;clear h h2
 walk_at "run"
end
def sdF:List D->R D:=λds=>aD (jo (aw 1 ds))
def zM:∀ds:List D,ds.length=1->sdF ds=.no\/aD (jo (aw 1 ds))=sdF ds:=λ_ _=>.inr rfl
def lj(n:Nat)(x:List Nat):List Nat:=x++List.replicate (n - x.length) 32
def rj(n:Nat)(x:List Nat):List Nat:=List.replicate (n - x.length) 32++x
def Qt{x:List Nat}(h:n<=1000):rJ (.str x) [.int (n:Int)]=some (.str (lj n x)):=by show(if -1000<=(n:Int)/\(n:Int)<=1000 then some (D.str (x++List.replicate ((n:Int).toNat - x.length) 32))else none)=_;rw[if_pos (by omega),sR];rfl
def PV{x:List Nat}(h:n<=1000):mK (.str x) [.int (n:Int)]=some (.str (rj n x)):=by show(if -1000<=(n:Int)/\(n:Int)<=1000 then some (D.str (List.replicate ((n:Int).toNat - x.length) 32++x))else none)=_;rw[if_pos (by omega),sR];rfl
def ftF(C7 C3 C1:Addr):List D->R D:=λds=>aD (gf (FK C7 C3) sdF C1 (aw 5 ds))
def vH:∀ds:List D,ds.length=3->ftF C7 C3 C1 ds=.no\/aD (gf (FK C7 C3) sdF C1 (aw 5 ds))=ftF C7 C3 C1 ds:=λ_ _=>.inr rfl
section
def G0{x:List Nat}{w:Nat}(hp:plain x=true)(hl:x.length<=10000)(h1:1<=w)(h2:w<=40):ftF C7 C3 C1 [.str x,.int (w:Int),.str [60]]=.ok (.str (lj w (xx w x))):=by
 have e1:=Bh (C7:=C7) (C3:=C3) hp hl h1 h2;have s1:sdF [.str [60]]=.ok (.bl true):=rfl;have kd:∀z:List Nat,lm "str" (.str z)=true:=λ_=>rfl;have l1:=Qt (x:=xx w x) (n:=w) (by omega);show aD (aE _ _ [some (.val (.str x)),some (.val (.int (w:Int))),some (.val (.str [60])),none,none])=_;clear hp hl h1 h2
 walk_at "run"
 all_goals rfl
end
noncomputable def iy(ad:List D->R D):Ev->O:=(aE (cr (nS (aB (kn Ht) (rvz 0)) (gOf yx (ac (aO (dD (aB bJ (rvz 0)) [] (λ_=>R.ok true) (aG 3 ad (ac (rvz 0) (ac (ciz 0) (ac (ciz 99) nlz)))))) nlz)))) oNx)
def uT:Ev->O:=(Aa 2 (dD (aB bJ (rvz 0)) [] (λ_=>R.ok true) (ciz 0)))
def vD:Ev->O:=(eO 3 (gOf Jk (ac (rvz 1) (ac (gOf IQ (ac (rvz 0) nlz)) nlz))))
noncomputable def lD:Ev->O:=(aE (Ng 2 (Fb (gB2 gtD (rvz 3) (ciz 0)) (gB2 ltD (g2 ixD (rvz 2) (rvz 4)) (rvz 5))) (aE (sB 2 (λi j=>i+j) (rvz 4) (ciz 1)) (aE (eO 3 (g2 (GW (λi j=>i - j)) (rvz 3) (ciz 1))) oNx)) oNx) oNx)
def fI:Ev->O:=(aE (Bm (CN [4,5]) (aB A0 (rvz 0)) lD) oNx)
def ux:Ev->O:=(AJ 1000 (gB2 gtD (rvz 3) (ciz 0)) fI)
def vw:Ev->O:=(cr (rvz 2))
def my:Ev->O:=(aE uT (aE vD (aE ux (yW 2 (aE vw oNx)))))
noncomputable def iu(fO ad ck:List D->R D)(af ah:Addr):Ev->O:=(aE (oIf (gBn (aB gG (aG 1 fO (ac (rvz 0) nlz)))) (aE (dA af (ac (csz [119,105,115,104,101,115,32,97,114,101,32,119,104,111,108,101,32,110,117,109,98,101,114,115,32,102,114,111,109,32,48,32,116,111,32,57,57]) nlz)) oNx) oNx) (aE (oIf (gBn (aB gG (aG 3 ad (ac (rvz 1) (ac (ciz 0) (ac (ciz 999) nlz)))))) (aE (dA ah (ac (csz [97,32,114,111,111,109,32,116,111,32,98,101,32,115,104,97,114,101,100,32,111,117,116,32,105,115,32,102,114,111,109,32,48,32,116,111,32,57,57,57,32,115,105,103,110,115,32,119,105,100,101]) nlz)) oNx) oNx) (aE (cr (aG 2 ck (ac (rvz 0) (ac (rvz 1) nlz)))) oNx)))
def lv(r p i w:Nat):Nat:=min w (r+if i<p then 1 else 0)
def iI(ws:List Nat)(r p:Nat):List Nat:=(List.range ws.length).map λi=>lv r p i (ws.getD i 0)
def bK(ws:List Nat)(r p:Nat):(iI ws r p).length=ws.length:=by simp[iI]
def yt{r p:Nat}(h:i<ws.length):(iI ws r p)[i]?=some (lv r p i (ws.getD i 0)):=by unfold iI;rw[List.getElem?_map,List.getElem?_range h];rfl
def cW{r p:Nat}(h:i<ws.length):(iI ws r p).getD i 0=lv r p i (ws.getD i 0):=by rw[uF,yt h];rfl
def oN{a b:List Nat}(h1:a.length=b.length)(h2:∀k,k<a.length->a.getD k 0=b.getD k 0):a=b:=by apply List.ext_getElem h1;intro k h3 h4;have:=h2 k h3;rw[uF,t5 h3,uF,t5 h4]at this;exact this
def Mr(ws:List Nat)(r:Nat):iI ws r ws.length=iI ws (r+1) 0:=by refine oN (by simp[bK]) λk hk=>?_;rw[bK]at hk;rw[cW hk,cW hk];unfold lv;rw[if_pos hk,if_neg (by omega)]
theorem FM:∀{a b:List Nat},a.length=b.length->(∀k,k<a.length->a.getD k 0<=b.getD k 0)->a.sum<=b.sum
 | [],[],_,_=>zE _
 | [],_::_,h,_=>by simp at h
 |_::_,[],h,_=>by simp at h
 |x::a,y::b,h,H=>by
  have h0:=H 0 (by simp);have ih:=FM (a:=a) (b:=b) (by simpa using h) λk hk=>by have:=H (k+1) (by simp;omega);simpa using this
  simp at h0⊢;omega
theorem FC:∀{a b:List Nat},a.length=b.length->(∀k,k<a.length->a.getD k 0<=b.getD k 0)->b.sum<=a.sum->a=b
 | [],[],_,_,_=>rfl
 | [],_::_,h,_,_=>by simp at h
 |_::_,[],h,_,_=>by simp at h
 |x::a,y::b,h,H,hs=>by
  have h0:=H 0 (by simp);have H':∀k,k<a.length->a.getD k 0<=b.getD k 0:=λk hk=>by have:=H (k+1) (by simp;omega);simpa using this
  have hl:a.length=b.length:=by simpa using h
  have h1:=FM hl H';simp at h0 hs;have ih:=FC hl H' (by omega);subst ih
  congr 1;omega
noncomputable def nu:List Nat->Nat->List Nat->Nat->List Nat×Nat
 | [],_,gs,l=>(gs,l)
 |w::ws,k,gs,l=>if 0<l/\gs.getD k 0<w then nu ws (k+1) (gs.set k (gs.getD k 0+1)) (l - 1)else nu ws (k+1) gs l
theorem FH:∀(ws:List Nat)(k:Nat)(gs:List Nat),nu ws k gs 0=(gs,0)
 | [],_,_=>rfl
 |w::ws,k,gs=>by rw[nu,if_neg (by omega),FH ws]
theorem BJ:∀(gs:List Nat)(k:Nat),k<gs.length->(gs.set k (gs.getD k 0+1)).sum=gs.sum+1
 | [],k,h=>by simp at h
 |g::gs,0,_=>by simp;omega
 |g::gs,k+1,h=>by have:=BJ gs k (by simpa using h);simp only[List.getD_cons_succ,List.set_cons_succ,Z1];omega
def DT{r:Nat}(hk:k<ws.length)(h:r<ws.getD k 0):(iI ws r k).set k ((iI ws r k).getD k 0+1)=iI ws r (k+1):=by
 refine oN (by simp[bK]) λi hi=>?_;rw[Zf,bK]at hi;rw[cW hi,uF,d8,bK];by_cases e:k=i;·subst e;rw[if_pos rfl,if_pos hk,cW hk];unfold lv;rw[if_neg (by omega),if_pos (by omega)];show min _ _+1=_;omega
 ·rw[if_neg e,yt hi];show lv _ _ _ _=_;unfold lv;by_cases c:i<k;·rw[if_pos c,if_pos (by omega)]
  ·rw[if_neg c,if_neg (by omega)]
def DF{r:Nat}(hk:k<ws.length)(h:ws.getD k 0<=r):iI ws r k=iI ws r (k+1):=by
 refine oN (by simp[bK]) λi hi=>?_;rw[bK]at hi;rw[cW hi,cW hi];unfold lv;by_cases e:i=k;·subst e;rw[if_neg (by omega),if_pos (by omega)];omega
 ·by_cases c:i<k;·rw[if_pos c,if_pos (by omega)]
  ·rw[if_neg c,if_neg (by omega)]
theorem sK(ws:List Nat)(r:Nat):∀(m k l:Nat),k+m=ws.length->∃p' l',p'<=ws.length/\nu (ws.drop k) k (iI ws r k) l=(iI ws r p',l')/\(iI ws r p').sum+l'=(iI ws r k).sum+l/\(0<l'->p'=ws.length)
 | 0,k,l,h=>⟨k,l,by omega,by rw[List.drop_of_length_le (by omega)];rfl,rfl,λ_=>by omega⟩
 |m+1,k,l,h=>by
  have hk:k<ws.length:=by omega
  have e:ws.drop k=ws.getD k 0::ws.drop (k+1):=by rw[i5 hk,uF,t5 hk];rfl
  have eg:(iI ws r k).getD k 0=min (ws.getD k 0) r:=by rw[cW hk];unfold lv;rw[if_neg (by omega)];rfl
  rw[e,nu];by_cases c:0<l/\(iI ws r k).getD k 0<ws.getD k 0
  ·rw[if_pos c];have hr:r<ws.getD k 0:=by omega
   have es:=DT hk hr;have hs:=BJ (iI ws r k) k (by rw[bK];exact hk);rw[es]at hs⊢;obtain⟨p',l',h1,h2,h3,h4⟩:=sK ws r m (k+1) (l - 1) (by omega);exact⟨p',l',h1,h2,by omega,h4⟩
  ·rw[if_neg c];by_cases hl:l=0;·subst hl;exact⟨k,0,by omega,FH _ _ _,rfl,λz=>by omega⟩
   ·have hw:ws.getD k 0<=r:=by omega
    rw[DF hk hw];exact sK ws r m (k+1) l (by omega)
noncomputable def whL:Nat->List Nat->List Nat->Nat->List Nat
 | 0,_,gs,_=>gs
 |n+1,ws,gs,l=>if 0<l then whL n ws (nu ws 0 gs l).1 (nu ws 0 gs l).2 else gs
def E5{r:Nat}(h:(iI ws (r+1) 0).sum<=(iI ws r 0).sum):(iI ws r 0).sum=ws.sum:=by
 have e:=FC (a:=iI ws r 0) (b:=iI ws (r+1) 0) (by simp[bK]) (λk hk=>by
  rw[bK]at hk;rw[cW hk,cW hk];unfold lv;simp only[Nat.not_lt_zero,if_false];omega) h;have:iI ws r 0=ws:=by
  refine oN (bK ..) λk hk=>?_;have e2:(iI ws r 0).getD k 0=(iI ws (r+1) 0).getD k 0:=t6 (λl=>l.getD k 0) e;rw[bK]at hk;rw[cW hk,cW hk]at e2;rw[cW hk];unfold lv at e2⊢;simp only[Nat.not_lt_zero,sT]at e2⊢;omega
 rw[this]
def shL(ws:List Nat)(room:Nat):List Nat:=whL 1000 ws (ws.map λ_=>0) (min room ws.sum)
def IX(ws:List Nat):ws.map (λ_=>0)=iI ws 0 0:=by refine oN (by simp[bK]) λk hk=>?_;rw[uc]at hk;rw[cW hk,uF,ue,t5 hk];unfold lv;simp
def Na(ws:List Nat):(iI ws 0 0).sum=0:=by
 rw[<- IX];induction ws with
 |nil=>rfl
 |cons w ws ih=>simpa using ih
def Ec:D->Option (List D)
 |.lst _ ds=>some ds
 |.tup ds=>some ds
 |_=>none
def xI(h:Ec d=some ds):kn Ht d=.ok (.bl true)/\iB [d]=some (.int (ds.length:Int))/\bJ d=.ok ds/\A0 d=.ok (numbered 0 ds):=by
 cases d <;> first|(cases h;done)|skip
 ·cases h;exact⟨rfl,rfl,rfl,rfl⟩
 ·cases h;exact⟨rfl,rfl,rfl,rfl⟩
def Gq(h:Ec d=none)(he:zf d=true):kn Ht d=.ok (.bl false):=by cases d <;> first|(cases h;done)|(cases he;done)|rfl
def KW(d:D):Bool:=match Ec d with
 |some ds=>ds.all λw=>inB w 0 99
 |none=>false
noncomputable def awF:List D->R D
 | [d]=>match Ec d with
  |some ds=>if ds.all zf=true/\ds.length<=1000 then .ok (.bl (KW d))else .no
  |none=>if zf d=true then .ok (.bl false)else .no
 |_=>.no
def se:∀ds:List D,ds.length=1->awF ds=.no\/aD (iy ki (aw 1 ds))=awF ds:=by
 intro ds hl
 match ds,hl with
 | [d],_=>
  cases h1:Ec d with
  |none=>
   by_cases h2:zf d=true
   ·refine Or.inr ?_;have e1:awF [d]=.ok (.bl false):=by simp only[awF,h1];exact if_pos h2
    have t1:=Gq h1 h2;rw[e1];show aD (aE _ _ [some (.val d)])=_;clear hl h1 h2 e1
    walk_at "run"
   ·exact Or.inl (by simp only[awF,h1];exact if_neg h2)
  |some l=>
   by_cases h2:l.all zf=true/\l.length<=1000
   ·refine Or.inr ?_;have e1:awF [d]=.ok (.bl (l.all λw=>inB w 0 99)):=by simp only[awF,KW,h1];exact if_pos h2
    obtain⟨t1,_,t3',_⟩:=xI h1;rw[e1];have lb:=gq;have e:kA (λ_=>R.ok true) (aG 3 ki (ac (rvz 0) (ac (ciz 0) (ac (ciz 99) nlz)))) l [none]=.ok (l.map λd=>.bl (inB d 0 99)):=by
     refine pb _ [] _ none λd hd=>⟨rfl,?_⟩
     have q:=zx (lo:=0) (hi:=99) (p8.1 h2.1 d hd);clear hl h1 h2 e1 t1 t3' hd
     walk_at "run"
    have al:=yP (λd=>inB d 0 99) false l;have z:(l.map λd=>D.bl (inB d 0 99)).length<=sizeLine:=by simp;omega
    have i1:lR [] [some (.val d)]=[none]:=rfl;show aD (aE _ _ [some (.val d)])=_;clear hl h1 h2 e1 lb
    walk_at "run"
   ·exact Or.inl (by simp only[awF,h1];exact if_neg h2)
def iD(n:Nat):D:=.int (n:Int)
noncomputable def zu:List D->Option (List Nat)
 | []=>some []
 |.int i::ds=>if 0<=i then (zu ds).map (i.toNat::·)else none
 |_=>none
theorem yj:∀{ds:List D}{ws:List Nat},zu ds=some ws->ds=ws.map iD
 | [],_,e=>by cases e;rfl
 |d::ds,ws,e=>by
  cases d <;> first|(cases e;done)|skip
  rename_i i;have e:(if 0<=i then (zu ds).map (i.toNat::·)else none)=some ws:=e;by_cases h:0<=i
  ·rw[if_pos h]at e;cases h2:zu ds with
   |none=>rw[h2]at e;cases e
   |some ws'=>rw[h2]at e;cases e;rw[yj h2,tI];show D.int i::_=D.int (i.toNat:Int)::_;rw[pz h]
  ·rw[if_neg h]at e;cases e
theorem xg:∀ws:List Nat,qz (ws.map iD)=some (ws.map λ(w:Nat)=>(w:Int))
 | []=>rfl
 |w::ws=>by show(qz (ws.map iD)).map ((w:Int)::·)=_;rw[xg ws];rfl
theorem tN:∀ws:List Nat,(ws.map λ(w:Nat)=>(w:Int)).sum=((ws.sum:Nat):Int)
 | []=>rfl
 |w::ws=>by rw[tI,Z1,tN ws,Z1];omega
def GQ(h:Ec d=some (ws.map iD)):IQ [d]=some (.int ((ws.sum:Nat):Int)):=by
 cases d <;> first|(cases h;done)|skip
 ·cases h;simp only[IQ,xg,tN]
 ·cases h;simp only[IQ,xg,tN]
def tQ(c:Nat)(x:D)(xs:List D):numbered c (x::xs)=.tup [.int (c:Int),x]::numbered (c+1) xs:=by
 unfold numbered;rw[wV,List.range_succ_eq_map,tI,Z2];refine t6 (_::·) (Zi λi _=>?_);simp only[Function.comp,List.getD_cons_succ]
 congr 2
 congr 1
 congr 1
 omega
def zQ(x0 x1:Option Sl)(gs:List Nat)(k l w:Nat)(hk:k<gs.length):lD [x0,x1,some (.own (gs.map iD)),some (.val (.int (l:Int))),some (.val (.int (k:Int))),some (.val (.int (w:Int)))]=if 0<l/\gs.getD k 0<w then .nx [x0,x1,some (.own ((gs.set k (gs.getD k 0+1)).map iD)),some (.val (.int ((l - 1:Nat):Int))),some (.val (.int (k:Int))),some (.val (.int (w:Int)))]else .nx [x0,x1,some (.own (gs.map iD)),some (.val (.int (l:Int))),some (.val (.int (k:Int))),some (.val (.int (w:Int)))]:=by
 have f2:∀(a0 a1 a3 a4 a5:Option Sl)(ds:List D),frz 2 [a0,a1,some (.own ds),a3,a4,a5]=[a0,a1,some (.val (.lst false ds)),a3,a4,a5]:=λ_ _ _ _ _ _=>rfl;have eg:(gs.map iD)[k]?=some (.int (gs.getD k 0:Nat)):=by rw[ue,t5 hk,uF,t5 hk];rfl
 have x1':ixD (.lst false (gs.map iD)) (.int (k:Int))=some (.int (gs.getD k 0:Nat)):=Qb eg;have au:∀(a0 a1 a3 a5:Option Sl),sB 2 (λi j=>i+j) (rvz 4) (ciz 1) [a0,a1,some (.own (gs.map iD)),a3,some (.val (.int (k:Int))),a5]=.nx [a0,a1,some (.own ((gs.set k (gs.getD k 0+1)).map iD)),a3,some (.val (.int (k:Int))),a5]:=by
  intro a0 a1 a3 a5;show(if 0<=(k:Int)then (match (gs.map iD)[(k:Int).toNat]? with
   |some (.int a)=>O.nx [a0,a1,some (.own ((gs.map iD).set (k:Int).toNat (.int (a+1)))),a3,some (.val (.int (k:Int))),a5]
   |_=>.no)else .no)=_;rw[if_pos (by omega),sR,eg];show O.nx [a0,a1,some (.own ((gs.map iD).set k (.int (((gs.getD k 0:Nat):Int)+1)))),a3,some (.val (.int (k:Int))),a5]=_;have:(gs.set k (gs.getD k 0+1)).map iD=(gs.map iD).set k (.int (((gs.getD k 0:Nat):Int)+1)):=by rw[List.map_set];rfl
  rw[this]
 have ii:∀i j:Int,GW (λi j=>i - j) (.int i) (.int j)=some (.int (i - j)):=λ_ _=>rfl;unfold lD;by_cases h1:0<l
 ·have q1:decide ((l:Int) > 0)=true:=by simp;omega
  have k1:(l:Int) - 1=((l - 1:Nat):Int):=by omega
  by_cases h2:gs.getD k 0<w
  ·have q2:decide (((gs.getD k 0:Nat):Int)<(w:Int))=true:=by rw[lT];omega
   rw[if_pos ⟨h1,h2⟩];clear h1 h2 hk eg
   walk_at "run"
  ·have q2:decide (((gs.getD k 0:Nat):Int)<(w:Int))=false:=by rw[ZG];omega
   rw[if_neg (λz=>h2 z.2)];clear h1 h2 hk eg
   walk_at "run"
 ·have q1:decide ((l:Int) > 0)=false:=by simp;omega
  rw[if_neg (λz=>h1 z.1)];clear h1 hk eg
  walk_at "run"
theorem mw(x0 x1:Option Sl):∀(ws gs:List Nat)(k l:Nat)(x4 x5:Option Sl),k+ws.length<=gs.length->∃y4 y5,iC (CN [4,5]) lD (numbered k (ws.map iD)) [x0,x1,some (.own (gs.map iD)),some (.val (.int (l:Int))),x4,x5]
  = .nx [x0,x1,some (.own ((nu ws k gs l).1.map iD)),some (.val (.int ((nu ws k gs l).2:Nat))),y4,y5]
 | [],gs,k,l,x4,x5,_=>⟨x4,x5,rfl⟩
 |w::ws,gs,k,l,x4,x5,h=>by
  simp only[wV]at h;have hB:=zQ x0 x1 gs k l w (by omega);rw[tI,tQ];by_cases c:0<l/\gs.getD k 0<w;·rw[if_pos c]at hB;obtain⟨y4,y5,ih⟩:=mw x0 x1 ws (gs.set k (gs.getD k 0+1)) (k+1) (l - 1) (some (.val (.int (k:Int)))) (some (.val (.int (w:Int)))) (by rw[Zf];omega);refine⟨y4,y5,?_⟩;rw[Aq (ρ1:=[x0,x1,some (.own (gs.map iD)),some (.val (.int (l:Int))),some (.val (.int (k:Int))),some (.val (.int (w:Int)))]) rfl hB,ih,nu,if_pos c]
  ·rw[if_neg c]at hB;obtain⟨y4,y5,ih⟩:=mw x0 x1 ws gs (k+1) l (some (.val (.int (k:Int)))) (some (.val (.int (w:Int)))) (by omega);refine⟨y4,y5,?_⟩;rw[Aq (ρ1:=[x0,x1,some (.own (gs.map iD)),some (.val (.int (l:Int))),some (.val (.int (k:Int))),some (.val (.int (w:Int)))]) rfl hB,ih,nu,if_neg c]
theorem oq{d:D}{ws:List Nat}(hd:Ec d=some (ws.map iD))(x1:Option Sl):∀(n r l:Nat)(x4 x5:Option Sl),l<n->(iI ws r 0).sum+l<=ws.sum->∃y4 y5,gI (gB2 gtD (rvz 3) (ciz 0)) fI n [some (.val d),x1,some (.own ((iI ws r 0).map iD)),some (.val (.int (l:Int))),x4,x5]
  = .nx [some (.val d),x1,some (.own ((whL n ws (iI ws r 0) l).map iD)),some (.val (.int 0)),y4,y5]
 | 0,r,l,x4,x5,h,_=>by omega
 |n+1,r,l,x4,x5,h,hs=>by
  obtain⟨_,_,_,te⟩:=xI hd;by_cases hl:0<l
  ·obtain⟨p',l',h1,h2,h3,h4⟩:=sK ws r ws.length 0 l (by omega);rw[j7]at h2;obtain⟨z4,z5,hp⟩:=mw (some (.val d)) x1 ws (iI ws r 0) 0 l x4 x5 (by rw[bK];omega);have hb:fI [some (.val d),x1,some (.own ((iI ws r 0).map iD)),some (.val (.int (l:Int))),x4,x5]=.nx [some (.val d),x1,some (.own ((iI ws r p').map iD)),some (.val (.int (l':Int))),z4,z5]:=by
    rw[h2]at hp;unfold fI;clear h h1 h2 h3 h4 hs hl hd
    walk_at "run"
   have hc:gB2 gtD (rvz 3) (ciz 0) [some (.val d),x1,some (.own ((iI ws r 0).map iD)),some (.val (.int (l:Int))),x4,x5]=.ok true:=by
    have q1:decide ((l:Int) > 0)=true:=by simp;omega
    clear h h1 h2 h3 h4 hs hl hd hp hb te
    walk_at "run"
   rw[gI,hc];show ∃y4 y5,(match fI [some (.val d),x1,some (.own ((iI ws r 0).map iD)),some (.val (.int (l:Int))),x4,x5]with
    |.nx ρ2=>gI (gB2 gtD (rvz 3) (ciz 0)) fI n ρ2
    |.ct ρ2=>gI (gB2 gtD (rvz 3) (ciz 0)) fI n ρ2
    |.bk ρ2=>.nx ρ2
    |.rt d=>.rt d
    |.re d ρ2=>.re d ρ2
    |.ex C ρ2=>.ex C ρ2
    |.no=>.no)=_;rw[hb,whL,if_pos hl,h2];show ∃y4 y5,gI _ fI n _=_;by_cases hl':0<l'
   ·have hp':=h4 hl';subst hp';rw[Mr]at h3⊢;have hlt:l'<l:=by
     by_cases q:l'<l;·exact q
     ·have:=E5 (ws:=ws) (r:=r) (by omega);omega
    exact oq hd x1 n (r+1) l' z4 z5 (by omega) (by omega)
   ·have:l'=0:=by omega
    subst this;cases n with
    |zero=>omega
    |succ n=>
     refine⟨z4,z5,?_⟩;have hc2:gB2 gtD (rvz 3) (ciz 0) [some (.val d),x1,some (.own ((iI ws r p').map iD)),some (.val (.int ((0:Nat):Int))),z4,z5]=.ok false:=by
      have q1:decide (((0:Nat):Int) > 0)=false:=by decide
      clear h h1 h2 h3 h4 hs hl hd hp hb te hc
      walk_at "run"
     rw[gI,hc2,whL,if_neg (by omega)];rfl
  ·have:l=0:=by omega
   subst this;refine⟨x4,x5,?_⟩;have hc2:gB2 gtD (rvz 3) (ciz 0) [some (.val d),x1,some (.own ((iI ws r 0).map iD)),some (.val (.int ((0:Nat):Int))),x4,x5]=.ok false:=by
    have q1:decide (((0:Nat):Int) > 0)=false:=by decide
    clear h hs hl hd te
    walk_at "run"
   rw[gI,hc2,whL,if_neg (by omega)];rfl
noncomputable def shF:List D->R D
 | [d,.int room]=>match Ec d with
  |some ds=>match zu ds with
   |some ws=>if 0<=room/\room<=999/\ws.length<=1000 then .ok (.lst false ((shL ws room.toNat).map iD))else .no
   |none=>.no
  |none=>.no
 |_=>.no
def Cw:∀ds:List D,ds.length=2->shF ds=.no\/aD (my (aw 6 ds))=shF ds:=by
 intro ds hl
 match ds,hl with
 | [d,e],_=>
  cases e <;> first|exact Or.inl rfl|skip
  rename_i room hl;cases h1:Ec d with
  |none=>exact Or.inl (by simp only[shF,h1])
  |some l=>
   cases h2:zu l with
   |none=>exact Or.inl (by simp only[shF,h1,h2])
   |some ws=>
    by_cases h3:0<=room/\room<=999/\ws.length<=1000
    ·refine Or.inr ?_;have e1:shF [d,.int room]=.ok (.lst false ((shL ws room.toNat).map iD)):=by simp only[shF,h1,h2];exact if_pos h3
     rw[e1];have hds:=yj h2;subst hds;obtain⟨room,rfl⟩:=Z8 h3.1;rw[sR];obtain⟨t1,t2',t3',t4'⟩:=xI h1;have sm:=GQ h1;have lb:=gq;have mn:Jk [.int (room:Int),.int ((ws.sum:Nat):Int)]=some (.int ((min room ws.sum:Nat):Int)):=by
      have e9:(if ((ws.sum:Nat):Int)<(room:Int)then ((ws.sum:Nat):Int)else (room:Int))=((min room ws.sum:Nat):Int):=by split <;> omega
      rw[<- e9];rfl
     have z0:=Na ws;obtain⟨y4,y5,hw⟩:=oq h1 (some (.val (.int (room:Int)))) 1000 0 (min room ws.sum) none none (by omega) (by omega);have hw:ux [some (.val d),some (.val (.int (room:Int))),some (.own ((iI ws 0 0).map iD)),some (.val (.int ((min room ws.sum:Nat):Int))),none,none]=.nx [some (.val d),some (.val (.int (room:Int))),some (.own ((shL ws room).map iD)),some (.val (.int 0)),y4,y5]:=by unfold shL;rw[IX];exact hw
     have e:kA (λ_=>R.ok true) (ciz 0) (ws.map iD) [none]=.ok ((iI ws 0 0).map iD):=by
      have:=pb (gt:=λ_=>R.ok true) (ge:=λ_=>R.ok (D.int 0)) (λ_=>.int 0) [] (ws.map iD) none λd _=>⟨rfl,rfl⟩
      rw[this,<- IX,Z2,Z2];rfl
     have z:((iI ws 0 0).map iD).length<=sizeLine:=by rw[uc,bK];omega
     have i1:lR [] [some (.val d),some (.val (.int (room:Int))),none,none,none,none]=[none]:=rfl;have f2:∀(a0 a1 a3 a4 a5:Option Sl)(ds:List D),frz 2 [a0,a1,some (.own ds),a3,a4,a5]=[a0,a1,some (.val (.lst false ds)),a3,a4,a5]:=λ_ _ _ _ _ _=>rfl;show aD (aE _ _ [some (.val d),some (.val (.int room)),none,none,none,none])=_;unfold uT vD vw;clear hl h1 h2 h3 e1 lb z0
     walk_at "run"
    ·exact Or.inl (by simp only[shF,h1,h2];exact if_neg h3)
noncomputable def soF(C1 C3:Addr):List D->R D
 | [d,e]=>match awF [d]with
  |.ok (.bl true)=>(match ki [e,.int 0,.int 999]with
   |.ok (.bl true)=>shF [d,e]
   |.ok (.bl false)=>.ex C3
   |_=>.no)
  |.ok (.bl false)=>.ex C1
  |_=>.no
 |_=>.no
def tJ:∀ds:List D,ds.length=2->soF C1 C3 ds=.no\/aD (iu awF ki shF C1 C3 (aw 2 ds))=soF C1 C3 ds:=by
 intro ds hl
 match ds,hl with
 | [d,e],_=>
  have tb:∀b:Bool,gG (.bl b)=.ok b:=λ_=>rfl;show _\/aD (aE _ _ [some (.val d),some (.val e)])=_;cases h1:awF [d]with
  |no=>exact Or.inl (by simp only[soF,h1])
  |ex C=>exact Or.inl (by simp only[soF,h1])
  |ok v=>
   cases v <;> first|(refine Or.inl ?_;simp only[soF,h1];done)|skip
   rename_i b;cases b with
   |false=>
    refine Or.inr ?_;have e1:soF C1 C3 [d,e]=.ex C1:=by simp only[soF,h1]
    rw[e1];clear hl e1
    walk_at "run"
    all_goals rfl
   |true=>
    cases h2:ki [e,.int 0,.int 999]with
    |no=>exact Or.inl (by simp only[soF,h1,h2])
    |ex C=>exact Or.inl (by simp only[soF,h1,h2])
    |ok v=>
     cases v <;> first|(refine Or.inl ?_;simp only[soF,h1,h2];done)|skip
     rename_i b;cases b with
     |false=>
      refine Or.inr ?_;have e1:soF C1 C3 [d,e]=.ex C3:=by simp only[soF,h1,h2]
      rw[e1];clear hl e1
      walk_at "run"
      all_goals rfl
     |true=>
      have e1:soF C1 C3 [d,e]=shF [d,e]:=by simp only[soF,h1,h2]
      rw[e1];cases h3:shF [d,e]with
      |no=>exact Or.inl rfl
      |ex C=>
       refine Or.inr ?_;clear hl e1
       walk_at "run"
       all_goals rfl
      |ok v=>
       refine Or.inr ?_;clear hl e1
       walk_at "run"
       all_goals rfl
noncomputable def OI:List Nat->D->D->Option D
 | [],_,v=>some v
 |k::ks,.tup xs,v=>match xs[k]? with
  |some x=>if xs.length<=1000 then (OI ks x v).map λy=>.tup (xs.take k++[y]++xs.drop (k+1))else none
  |none=>none
 |_,_,_=>none
noncomputable def Mq:List D->Option (List Nat)
 | []=>some []
 |.int i::ds=>if 0<=i then (Mq ds).map (i.toNat::·)else none
 |_::_=>none
noncomputable def pq(n:Nat):List D->R D
 | [d,.tup p,v]=>match Mq p with
  |some ks=>if ks.length<n/\n<=500 then ofO (OI ks d v)else .no
  |none=>.no
 |_=>.no
noncomputable def pt:Nat->D->Bool
 | 0,_=>false
 |_+1,.int _=>true
 |_+1,.str x=>decide (x.length<=900)
 |n+1,.tup xs=>xs.all (pt n) && decide (xs.length<=900)
 |_+1,_=>false
noncomputable def OP:Nat->D->Bool
 | 0,_=>true
 |_+1,.exc _=>false
 |_+1,.dct _ _=>false
 |_+1,.str x=>decide (x.length<=1000)
 |n+1,.tup xs=>xs.all (OP n)
 |n+1,.lst _ xs=>xs.all (OP n)
 |_+1,_=>true
noncomputable def iX(ah ao:Addr)(af aA:Addr)(aH am aU:Addr)(rs:List Addr):Ev->O:=(Aa 1 (fQ (ac (aB (nH (wx rs af)) (rvz 0)) (ac (aB (nH (wx rs ao)) (rvz 0)) (ac (aB (nH (wx rs ah)) (rvz 0)) nlz)))))
noncomputable def iT(ah ao:Addr)(af aA:Addr)(aH am aU:Addr)(rs:List Addr):Ev->O:=(Jc 1 (aO (fQ (ac (aB (nH (wx rs aH)) (rvz 0)) (ac (aB (nH (wx rs aA)) (rvz 0)) nlz)))))
noncomputable def iY(ah ao:Addr)(af aA:Addr)(aH am aU:Addr)(rs:List Addr):Ev->O:=(Jc 1 (aO (fQ (ac (aB (nH (wx rs aU)) (rvz 0)) (ac (aB (nH (wx rs am)) (rvz 0)) nlz)))))
noncomputable def iZ(ah ao:Addr)(af aA:Addr)(aH am aU:Addr)(rs:List Addr):Ev->O:=(oIf (ny (gB2 neF (fk "list" mV (rvz 1) (ac (λ_=>R.ok (D.bl true)) nlz)) (ciz 1)) (gBn (aB gG (aB (nH (wz rs)) (rvz 0))))) (aE (cr (csz [119,114,111,110,103])) oNx) oNx)
noncomputable def jl(ah ao:Addr)(af aA:Addr)(aH am aU:Addr)(rs:List Addr):Ev->O:=(cr (g2 ixD (aO (fQ (ac (csz [110,111,32,110,117,109,98,101,114]) (ac (csz [110,111,32,111,114,100,101,114]) (ac (csz [110,111,32,114,111,111,109]) (ac (csz [110,111,32,115,99,114,101,101,110]) (ac (csz [110,111,32,116,97,98,108,101]) (ac (csz [110,111,32,116,97,115,107]) (ac (csz [110,111,32,116,101,120,116]) nlz))))))))) (fk "list" mR (rvz 1) (ac (λ_=>R.ok (D.bl true)) nlz))))
noncomputable def il(ah ao:Addr)(af aA:Addr)(aH am aU:Addr)(rs:List Addr):Ev->O:=(aE (iX ah ao af aA aH am aU rs) (aE (iT ah ao af aA aH am aU rs) (aE (iY ah ao af aA aH am aU rs) (yW 1 (aE (iZ ah ao af aA aH am aU rs) (aE (jl ah ao af aA aH am aU rs) oNx))))))
def NU:List Nat:=[110,111,32,110,117,109,98,101,114]
def Pu:List Nat:=[110,111,32,114,111,111,109]
def NR:List Nat:=[110,111,32,116,101,120,116]
noncomputable def zJ(ah ao af aA aH am aU:Addr)(rs:List Addr):List D->R D:=λds=>aD (il ah ao af aA aH am aU rs (aw 2 ds))
def wL(nd:[aH,ao,ah,af,aA,aU,am].Nodup):∀ds:List D,ds.length=1->zJ ah ao af aA aH am aU rs ds=.no\/aD (il ah ao af aA aH am aU rs (aw 2 ds))=zJ ah ao af aA aH am aU rs ds:=λ_ _=>.inr rfl
def sh(nd:[aH,ao,ah,af,aA,aU,am].Nodup)(h:af∈rs):zJ ah ao af aA aH am aU rs [.exc af]=.ok (.str NU):=by
 simp only[qo,y9,w8,w9,not_or]at nd;obtain⟨⟨n01,n02,n03,n04,n05,n06⟩,⟨n12,n13,n14,n15,n16⟩,⟨n23,n24,n25,n26⟩,⟨n34,n35,n36⟩,⟨n45,n46⟩,n56,_⟩:=nd;have z3:3<=sizeLine:=by decide
 have z2:2<=sizeLine:=by decide
 have z5:3+2<=sizeLine:=by decide
 have z7:5+2<=sizeLine:=by decide
 have z8:7<=sizeLine:=by decide
 have f1:∀(a0:Option Sl)(ds:List D),frz 1 [a0,some (.own ds)]=[a0,some (.val (.lst false ds))]:=λ_ _=>rfl;have o1:∀(a0:Option Sl)(ds:List D),ownAt [a0,some (.own ds)] 1=.ok ds:=λ_ _=>rfl;have tb:∀b:Bool,gG (.bl b)=.ok b:=λ_=>rfl;have kd:∀(f:Bool)(l:List D),lm "list" (.lst f l)=true:=λ_ _=>rfl;have y:∀T,nH (wx rs T) (.exc af)=.ok (.bl (af==T)):=λT=>by simp only[nH,wx,h,wO];rfl
 have y2:nH (wz rs) (.exc af)=.ok (.bl true):=by simp only[nH,wz,h,wO];rfl
 have q0:(af==af)=true:=by simp
 have q1:(af==aH)=false:=by simp;exact λz=>n03 z.symm
 have q2:(af==ao)=false:=by simp;exact λz=>n13 z.symm
 have q3:(af==ah)=false:=by simp;exact λz=>n23 z.symm
 have q5:(af==aA)=false:=by simp;exact n34
 have q6:(af==aU)=false:=by simp;exact n35
 have q7:(af==am)=false:=by simp;exact n36
 have c1:mV (.lst false [.bl true,.bl false,.bl false,.bl false,.bl false,.bl false,.bl false]) [.bl true]=some (.int 1):=rfl;have c2:mR (.lst false [.bl true,.bl false,.bl false,.bl false,.bl false,.bl false,.bl false]) [.bl true]=some (.int 0):=rfl;show aD (aE _ _ [some (.val (.exc af)),none])=_;unfold iX iT iY iZ jl;clear h n01 n02 n03 n04 n05 n06 n12 n13 n14 n15 n16 n23 n24 n25 n26 n34 n35 n36 n45 n46 n56
 walk_at "run"
 all_goals rfl
def wJ(nd:[aH,ao,ah,af,aA,aU,am].Nodup)(h:ah∈rs):zJ ah ao af aA aH am aU rs [.exc ah]=.ok (.str Pu):=by
 simp only[qo,y9,w8,w9,not_or]at nd;obtain⟨⟨n01,n02,n03,n04,n05,n06⟩,⟨n12,n13,n14,n15,n16⟩,⟨n23,n24,n25,n26⟩,⟨n34,n35,n36⟩,⟨n45,n46⟩,n56,_⟩:=nd;have z3:3<=sizeLine:=by decide
 have z2:2<=sizeLine:=by decide
 have z5:3+2<=sizeLine:=by decide
 have z7:5+2<=sizeLine:=by decide
 have z8:7<=sizeLine:=by decide
 have f1:∀(a0:Option Sl)(ds:List D),frz 1 [a0,some (.own ds)]=[a0,some (.val (.lst false ds))]:=λ_ _=>rfl;have o1:∀(a0:Option Sl)(ds:List D),ownAt [a0,some (.own ds)] 1=.ok ds:=λ_ _=>rfl;have tb:∀b:Bool,gG (.bl b)=.ok b:=λ_=>rfl;have kd:∀(f:Bool)(l:List D),lm "list" (.lst f l)=true:=λ_ _=>rfl;have y:∀T,nH (wx rs T) (.exc ah)=.ok (.bl (ah==T)):=λT=>by simp only[nH,wx,h,wO];rfl
 have y2:nH (wz rs) (.exc ah)=.ok (.bl true):=by simp only[nH,wz,h,wO];rfl
 have q0:(ah==ah)=true:=by simp
 have q1:(ah==aH)=false:=by simp;exact λz=>n02 z.symm
 have q2:(ah==ao)=false:=by simp;exact λz=>n12 z.symm
 have q4:(ah==af)=false:=by simp;exact n23
 have q5:(ah==aA)=false:=by simp;exact n24
 have q6:(ah==aU)=false:=by simp;exact n25
 have q7:(ah==am)=false:=by simp;exact n26
 have c1:mV (.lst false [.bl false,.bl false,.bl true,.bl false,.bl false,.bl false,.bl false]) [.bl true]=some (.int 1):=rfl;have c2:mR (.lst false [.bl false,.bl false,.bl true,.bl false,.bl false,.bl false,.bl false]) [.bl true]=some (.int 2):=rfl;show aD (aE _ _ [some (.val (.exc ah)),none])=_;unfold iX iT iY iZ jl;clear h n01 n02 n03 n04 n05 n06 n12 n13 n14 n15 n16 n23 n24 n25 n26 n34 n35 n36 n45 n46 n56
 walk_at "run"
 all_goals rfl
def wM(nd:[aH,ao,ah,af,aA,aU,am].Nodup)(h:am∈rs):zJ ah ao af aA aH am aU rs [.exc am]=.ok (.str NR):=by
 simp only[qo,y9,w8,w9,not_or]at nd;obtain⟨⟨n01,n02,n03,n04,n05,n06⟩,⟨n12,n13,n14,n15,n16⟩,⟨n23,n24,n25,n26⟩,⟨n34,n35,n36⟩,⟨n45,n46⟩,n56,_⟩:=nd;have z3:3<=sizeLine:=by decide
 have z2:2<=sizeLine:=by decide
 have z5:3+2<=sizeLine:=by decide
 have z7:5+2<=sizeLine:=by decide
 have z8:7<=sizeLine:=by decide
 have f1:∀(a0:Option Sl)(ds:List D),frz 1 [a0,some (.own ds)]=[a0,some (.val (.lst false ds))]:=λ_ _=>rfl;have o1:∀(a0:Option Sl)(ds:List D),ownAt [a0,some (.own ds)] 1=.ok ds:=λ_ _=>rfl;have tb:∀b:Bool,gG (.bl b)=.ok b:=λ_=>rfl;have kd:∀(f:Bool)(l:List D),lm "list" (.lst f l)=true:=λ_ _=>rfl;have y:∀T,nH (wx rs T) (.exc am)=.ok (.bl (am==T)):=λT=>by simp only[nH,wx,h,wO];rfl
 have y2:nH (wz rs) (.exc am)=.ok (.bl true):=by simp only[nH,wz,h,wO];rfl
 have q0:(am==am)=true:=by simp
 have q1:(am==aH)=false:=by simp;exact λz=>n06 z.symm
 have q2:(am==ao)=false:=by simp;exact λz=>n16 z.symm
 have q3:(am==ah)=false:=by simp;exact λz=>n26 z.symm
 have q4:(am==af)=false:=by simp;exact λz=>n36 z.symm
 have q5:(am==aA)=false:=by simp;exact λz=>n46 z.symm
 have q6:(am==aU)=false:=by simp;exact λz=>n56 z.symm
 have c1:mV (.lst false [.bl false,.bl false,.bl false,.bl false,.bl false,.bl false,.bl true]) [.bl true]=some (.int 1):=rfl;have c2:mR (.lst false [.bl false,.bl false,.bl false,.bl false,.bl false,.bl false,.bl true]) [.bl true]=some (.int 6):=rfl;show aD (aE _ _ [some (.val (.exc am)),none])=_;unfold iX iT iY iZ jl;clear h n01 n02 n03 n04 n05 n06 n12 n13 n14 n15 n16 n23 n24 n25 n26 n34 n35 n36 n45 n46 n56
 walk_at "run"
 all_goals rfl
end Q
namespace Q50
open L2 Q
open PySem (sizeLine Addr)
noncomputable def uW(ba dz:List D->R D):Ev->O:=(cr (nS (aB (kn (·=="tuple")) (rvz 0)) (nS (g2 eqF (gOf iB (ac (rvz 0) nlz)) (ciz 2)) (nS (aG 1 ba (ac (g2 ixD (rvz 0) (ciz 0)) nlz)) (aG 1 dz (ac (g2 ixD (rvz 0) (ciz 1)) nlz))))))
def iW(ba dz:List D->R D):Ev->O:=(aE (uW ba dz) oNx)
noncomputable def qC(dt:List D->R D):Ev->O:=(oIf (ny (gBn (aB gG (aB (kn (·=="tuple")) (rvz 0)))) (gBn (gB3 leD leD (ciz 1) (gOf iB (ac (rvz 0) nlz)) (ciz 6)))) (aE (cr (λ_=>R.ok (D.bl false))) oNx) oNx)
noncomputable def qB(dt:List D->R D):Ev->O:=(cr (gOf yx (ac (aO (dD (aB bJ (rvz 0)) [] (λ_=>R.ok true) (aG 1 dt (ac (rvz 0) nlz)))) nlz)))
def gN(dt:List D->R D):Ev->O:=(aE (qC dt) (aE (qB dt) oNx))
noncomputable def oG(ba:List D->R D):Ev->O:=(cr (nS (aB (kn (·=="tuple")) (rvz 0)) (nS (g2 eqF (gOf iB (ac (rvz 0) nlz)) (rvz 1)) (gOf yx (ac (aO (dD (aB bJ (rvz 0)) [] (λ_=>R.ok true) (aG 1 ba (ac (rvz 0) nlz)))) nlz)))))
def fS(ba:List D->R D):Ev->O:=(aE (oG ba) oNx)
noncomputable def xw(cz cb:List D->R D):Ev->O:=(oIf (ny (gBn (aB gG (aG 1 cz (ac (rvz 0) nlz)))) (ny (gBn (aB gG (aB (kn (·=="list")) (rvz 1)))) (gB2 gtD (gOf iB (ac (rvz 1) nlz)) (ciz 9)))) (aE (cr (λ_=>R.ok (D.bl false))) oNx) oNx)
noncomputable def xB(cz cb:List D->R D):Ev->O:=(cr (gOf yx (ac (aO (dD (aB bJ (rvz 1)) [0] (λ_=>R.ok true) (aG 2 cb (ac (rvz 0) (ac (gOf iB (ac (rvz 1) nlz)) nlz))))) nlz)))
def jQ(cz cb:List D->R D):Ev->O:=(aE (xw cz cb) (aE (xB cz cb) oNx))
noncomputable def qq(bB:List D->R D)(aA:Addr):Ev->O:=(oIf (gBn (aB gG (aG 2 bB (ac (rvz 0) (ac (rvz 1) nlz))))) (aE (dA aA (ac (csz [116,104,105,115,32,105,115,32,110,111,32,116,97,98,108,101]) nlz)) oNx) oNx)
def gS(bB:List D->R D)(aA:Addr):Ev->O:=(aE (qq bB aA) oNx)
noncomputable def pV:Ev->O:=(eO 3 (g2 fq (aO (fQ (ac (g2 ixD (g2 ixD (rvz 0) (rvz 2)) (ciz 0)) nlz))) (aO (dD (aB bJ (rvz 1)) [2] (λ_=>R.ok true) (g2 ixD (rvz 0) (rvz 1))))))
noncomputable def qF:Ev->O:=(cr (gOf ME (ac (g2 fq (aO (fQ (ac (ciz 1) nlz))) (aO (dD (aB bJ (rvz 3)) [] (λ_=>R.ok true) (gOf iB (ac (rvz 0) nlz))))) nlz)))
def gP:Ev->O:=(aE pV (aE qF oNx))
noncomputable def AZ(bt ad:List D->R D)(br ck:List D->R D)(ah:Addr):Ev->O:=(jK (aG 2 bt (ac (rvz 0) (ac (rvz 1) nlz))))
def AV(bt ad:List D->R D)(br ck:List D->R D)(ah:Addr):Ev->O:=(eO 3 (gOf iB (ac (rvz 0) nlz)))
def Ap(bt ad:List D->R D)(br ck:List D->R D)(ah:Addr):Ev->O:=(eO 4 (g2 lY (rvz 3) (ciz 1)))
noncomputable def Cn(bt ad:List D->R D)(br ck:List D->R D)(ah:Addr):Ev->O:=(oIf (gBn (aB gG (aG 3 ad (ac (rvz 2) (ac (g2 fq (rvz 3) (rvz 4)) (ac (ciz 40) nlz)))))) (aE (dA ah (ac (csz [97,32,116,97,98,108,101,32,100,111,101,115,32,110,111,116,32,103,111,32,105,110,116,111,32,116,104,105,115,32,114,111,111,109]) nlz)) oNx) oNx)
noncomputable def A1(bt ad:List D->R D)(br ck:List D->R D)(ah:Addr):Ev->O:=(cr (aG 2 ck (ac (aO (dD (aB sd (ac (rvz 3) nlz)) [0,1] (λ_=>R.ok true) (aG 3 br (ac (rvz 1) (ac (rvz 2) (ac (rvz 0) nlz)))))) (ac (g2 lY (rvz 2) (rvz 4)) nlz))))
noncomputable def md(bt ad:List D->R D)(br ck:List D->R D)(ah:Addr):Ev->O:=(aE (AZ bt ad br ck ah) (aE (AV bt ad br ck ah) (aE (Ap bt ad br ck ah) (aE (Cn bt ad br ck ah) (aE (A1 bt ad br ck ah) oNx)))))
noncomputable def Cu(bO:List D->R D):Ev->O:=(cr (fk "str" zc (csz [32]) (ac (aO (km 3 (CN [0,1,2]) (aB Fc (ac (rvz 0) (ac (rvz 1) (ac (rvz 2) nlz)))) [] (λ_=>R.ok true) (aG 3 bO (ac (rvz 2) (ac (rvz 1) (ac (g2 ixD (rvz 0) (ciz 1)) nlz)))))) nlz)))
def mi(bO:List D->R D):Ev->O:=(aE (Cu bO) oNx)
def De(cj dH:List D->R D):Ev->O:=(eO 3 (aG 3 cj (ac (rvz 0) (ac (rvz 1) (ac (rvz 2) nlz)))))
noncomputable def DL(cj dH:List D->R D):Ev->O:=(Aa 4 (dD (aB bJ (rvz 0)) [] (λ_=>R.ok true) (g2 ixD (rvz 0) (ciz 0))))
noncomputable def E9(cj dH:List D->R D):Ev->O:=(eO 5 (fk "str" zc (csz [32]) (ac (aO (dD (aB bJ (rvz 3)) [] (λ_=>R.ok true) (g2 eS (csz [45]) (rvz 0)))) nlz)))
noncomputable def Db(cj dH:List D->R D):Ev->O:=(cr (g2 fq (aO (fQ (ac (aG 3 dH (ac (rvz 0) (ac (rvz 3) (ac (rvz 4) nlz)))) (ac (rvz 5) nlz)))) (aO (dD (aB bJ (rvz 1)) [0,3] (λ_=>R.ok true) (aG 3 dH (ac (rvz 1) (ac (rvz 2) (ac (rvz 0) nlz))))))))
noncomputable def oJ(cj dH:List D->R D):Ev->O:=(aE (De cj dH) (aE (DL cj dH) (aE (E9 cj dH) (yW 4 (aE (Db cj dH) oNx)))))
def icF:List D->R D:=λds=>aD (iW nA sdF (aw 1 ds))
def acF:List D->R D:=λds=>aD (gN icF (aw 1 ds))
def OB:List D->R D:=λds=>aD (fS nA (aw 2 ds))
def Fp:List D->R D:=λds=>aD (jQ acF OB (aw 2 ds))
def O6(C6:Addr):List D->R D:=λds=>aD (gS Fp C6 (aw 2 ds))
def O4:List D->R D:=λds=>aD (gP (aw 4 ds))
def wdF(C6 C3:Addr):List D->R D:=λds=>aD (md (O6 C6) ki O4 shF C3 (aw 5 ds))
def OY(C7 C3 C1:Addr):List D->R D:=λds=>aD (mi (ftF C7 C3 C1) (aw 3 ds))
def tbF(C6 C7 C3 C1:Addr):List D->R D:=λds=>aD (oJ (wdF C6 C3) (OY C7 C3 C1) (aw 6 ds))
abbrev Col:=List Nat×Nat
structure GT(cs:List Col)(rs:List (List (List Nat))):Prop where
 one:1<=cs.length
 six:cs.length<=6
 col:∀c∈cs,plain c.1=true/\c.1.length<=50/\(c.2=60\/c.2=62\/c.2=94)
 nine:rs.length<=9
 row:∀r∈rs,r.length=cs.length/\∀x∈r,plain x=true/\x.length<=50
section
variable{cs:List Col}{rs:List (List (List Nat))}{C6:Addr}
structure Sz(cs:List Col)(ws:List Nat):Prop where
 len:ws.length=cs.length
 pos:∀w∈ws,1<=w
 sum:ws.sum<=40
end
end Q50
namespace Q90
open L2 Q Q50
open PySem (sizeLine Addr)
noncomputable def iE(ad:List D->R D)(af:Addr):Ev->O:=(oIf (gBn (aB gG (aG 3 ad (ac (rvz 0) (ac (ciz 1) (ac (ciz 1000000000) nlz)))))) (aE (dA af (ac (csz [97,32,116,111,116,97,108,32,105,115,32,97,32,119,104,111,108,101,32,110,117,109,98,101,114,32,102,114,111,109,32,49,32,116,111,32,49,48,48,48,48,48,48,48,48,48]) nlz)) oNx) oNx)
def gR(ad:List D->R D)(af:Addr):Ev->O:=(aE (iE ad af) oNx)
def gj(ak ad:List D->R D)(af:Addr):Ev->O:=(jK (aG 1 ak (ac (rvz 1) nlz)))
noncomputable def gm(ak ad:List D->R D)(af:Addr):Ev->O:=(oIf (gBn (aB gG (aG 3 ad (ac (rvz 0) (ac (ciz 0) (ac (rvz 1) nlz)))))) (aE (dA af (ac (csz [119,104,97,116,32,105,115,32,100,111,110,101,32,105,115,32,97,32,119,104,111,108,101,32,110,117,109,98,101,114,32,102,114,111,109,32,48,32,116,111,32,116,104,101,32,116,111,116,97,108]) nlz)) oNx) oNx)
def im(ak ad:List D->R D)(af:Addr):Ev->O:=(aE (gj ak ad af) (aE (gm ak ad af) oNx))
noncomputable def pH:Ev->O:=(cr (g2 fq (g2 fq (g2 fq (csz [91]) (g2 eS (csz [35]) (rvz 0))) (g2 eS (csz [46]) (g2 lY (rvz 1) (rvz 0)))) (csz [93])))
def jE:Ev->O:=(aE pH oNx)
def AB(aI ad bq:List D->R D)(ah:Addr):Ev->O:=(jK (aG 2 aI (ac (rvz 0) (ac (rvz 1) nlz))))
noncomputable def AI(aI ad bq:List D->R D)(ah:Addr):Ev->O:=(oIf (gBn (aB gG (aG 3 ad (ac (rvz 2) (ac (ciz 3) (ac (ciz 40) nlz)))))) (aE (dA ah (ac (csz [97,32,98,97,114,32,105,115,32,102,114,111,109,32,51,32,116,111,32,52,48,32,115,105,103,110,115,32,119,105,100,101]) nlz)) oNx) oNx)
def BP(aI ad bq:List D->R D)(ah:Addr):Ev->O:=(eO 3 (g2 lY (rvz 2) (ciz 2)))
noncomputable def BQ(aI ad bq:List D->R D)(ah:Addr):Ev->O:=(cr (aG 2 bq (ac (g2 mx (g2 eS (rvz 0) (rvz 3)) (rvz 1)) (ac (rvz 3) nlz))))
noncomputable def xO(aI ad bq:List D->R D)(ah:Addr):Ev->O:=(aE (AB aI ad bq ah) (aE (AI aI ad bq ah) (aE (BP aI ad bq ah) (aE (BQ aI ad bq ah) oNx))))
noncomputable def vN(ad:List D->R D):Ev->O:=(oIf (ny (gBn (aB gG (aB (kn (·=="tuple")) (rvz 0)))) (gB2 neF (gOf iB (ac (rvz 0) nlz)) (ciz 2))) (aE (cr (λ_=>R.ok (D.bl false))) oNx) oNx)
noncomputable def uR(ad:List D->R D):Ev->O:=(cr (nS (aG 3 ad (ac (g2 ixD (rvz 0) (ciz 0)) (ac (ciz 0) (ac (ciz 1000000000) nlz)))) (aG 3 ad (ac (g2 ixD (rvz 0) (ciz 1)) (ac (ciz 0) (ac (rvz 1) nlz))))))
def jm(ad:List D->R D):Ev->O:=(aE (vN ad) (aE (uR ad) oNx))
noncomputable def qO(df:List D->R D):Ev->O:=(oIf (ny (gBn (aB gG (aB (kn (·=="list")) (rvz 0)))) (gBn (aB gG (gOf yx (ac (aO (dD (aB bJ (rvz 0)) [1] (λ_=>R.ok true) (aG 2 df (ac (rvz 0) (ac (rvz 1) nlz))))) nlz))))) (aE (cr (λ_=>R.ok (D.bl false))) oNx) oNx)
noncomputable def qw(df:List D->R D):Ev->O:=(cr (gOf yx (ac (aO (km 2 (CN [0,1]) (aB Jg (ac (rvz 0) (ac (gSl (rvz 0) (tz (ciz 1)) (λ_=>R.ok none)) nlz))) [] (λ_=>R.ok true) (nS (g2 ltD (g2 ixD (rvz 0) (ciz 0)) (g2 ixD (rvz 1) (ciz 0))) (g2 leD (g2 ixD (rvz 0) (ciz 1)) (g2 ixD (rvz 1) (ciz 1)))))) nlz)))
def gW(df:List D->R D):Ev->O:=(aE (qO df) (aE (qw df) oNx))
def sf:Ev->O:=(cr (g2 mx (g2 lY (g2 fq (rvz 0) (rvz 1)) (ciz 1)) (rvz 1)))
def iG:Ev->O:=(aE sf oNx)
def vJ(ak ad:List D->R D)(aS ay:List D->R D)(af:Addr):Ev->O:=(jK (aG 1 ak (ac (rvz 1) nlz)))
noncomputable def wv(ak ad:List D->R D)(aS ay:List D->R D)(af:Addr):Ev->O:=(oIf (gBn (aB gG (aG 3 ad (ac (rvz 2) (ac (ciz 2) (ac (ciz 99) nlz)))))) (aE (dA af (ac (csz [102,114,111,109,32,50,32,116,111,32,57,57,32,115,97,109,112,108,101,115,32,97,114,101,32,108,111,111,107,101,100,32,97,116]) nlz)) oNx) oNx)
noncomputable def uw(ak ad:List D->R D)(aS ay:List D->R D)(af:Addr):Ev->O:=(oIf (gBn (aB gG (aG 2 aS (ac (rvz 0) (ac (rvz 1) nlz))))) (aE (dA af (ac (csz [116,104,101,115,101,32,97,114,101,32,110,111,32,115,97,109,112,108,101,115]) nlz)) oNx) oNx)
noncomputable def ut(ak ad:List D->R D)(aS ay:List D->R D)(af:Addr):Ev->O:=(oIf (gB2 eqF (gOf iB (ac (rvz 0) nlz)) (ciz 0)) (aE (cr (λ_=>R.ok D.non)) oNx) oNx)
noncomputable def vx(ak ad:List D->R D)(aS ay:List D->R D)(af:Addr):Ev->O:=(eO 3 (g2 ixD (gSl (rvz 0) (tz (aB DY (rvz 2))) (λ_=>R.ok none)) (ciz 0)))
def vy(ak ad:List D->R D)(aS ay:List D->R D)(af:Addr):Ev->O:=(eO 4 (g2 ixD (rvz 0) (aB DY (ciz 1))))
noncomputable def vS(ak ad:List D->R D)(aS ay:List D->R D)(af:Addr):Ev->O:=(oIf (gB2 eqF (g2 ixD (rvz 4) (ciz 1)) (rvz 1)) (aE (cr (ciz 0)) oNx) oNx)
noncomputable def va(ak ad:List D->R D)(aS ay:List D->R D)(af:Addr):Ev->O:=(oIf (gB2 eqF (g2 ixD (rvz 4) (ciz 1)) (g2 ixD (rvz 3) (ciz 1))) (aE (cr (λ_=>R.ok D.non)) oNx) oNx)
noncomputable def wu(ak ad:List D->R D)(aS ay:List D->R D)(af:Addr):Ev->O:=(cr (aG 2 ay (ac (g2 eS (g2 lY (rvz 1) (g2 ixD (rvz 4) (ciz 1))) (g2 lY (g2 ixD (rvz 4) (ciz 0)) (g2 ixD (rvz 3) (ciz 0)))) (ac (g2 lY (g2 ixD (rvz 4) (ciz 1)) (g2 ixD (rvz 3) (ciz 1))) nlz))))
noncomputable def jb(ak ad:List D->R D)(aS ay:List D->R D)(af:Addr):Ev->O:=(aE (vJ ak ad aS ay af) (aE (wv ak ad aS ay af) (aE (uw ak ad aS ay af) (aE (ut ak ad aS ay af) (aE (vx ak ad aS ay af) (aE (vy ak ad aS ay af) (aE (vS ak ad aS ay af) (aE (va ak ad aS ay af) (aE (wu ak ad aS ay af) oNx)))))))))
noncomputable def Cj(bq:List D->R D):Ev->O:=(oIf (ny (gBn (aB gG (aB (kn (·=="str")) (rvz 0)))) (gBn (gB3 leD leD (ciz 3) (gOf iB (ac (rvz 0) nlz)) (ciz 40)))) (aE (cr (λ_=>R.ok (D.bl false))) oNx) oNx)
noncomputable def AA(bq:List D->R D):Ev->O:=(cr (g2 eqF (rvz 0) (aG 2 bq (ac (fk "str" oZ (rvz 0) (ac (csz [35]) nlz)) (ac (g2 lY (gOf iB (ac (rvz 0) nlz)) (ciz 2)) nlz)))))
def lS(bq:List D->R D):Ev->O:=(aE (Cj bq) (aE (AA bq) oNx))
noncomputable def vI(bZ ak ay:List D->R D)(am:Addr):Ev->O:=(oIf (gBn (aB gG (aG 1 bZ (ac (rvz 0) nlz)))) (aE (dA am (ac (csz [116,104,105,115,32,105,115,32,110,111,32,98,97,114]) nlz)) oNx) oNx)
def vE(bZ ak ay:List D->R D)(am:Addr):Ev->O:=(jK (aG 1 ak (ac (rvz 1) nlz)))
def vG(bZ ak ay:List D->R D)(am:Addr):Ev->O:=(eO 2 (g2 lY (gOf iB (ac (rvz 0) nlz)) (ciz 2)))
def wn(bZ ak ay:List D->R D)(am:Addr):Ev->O:=(eO 3 (fk "str" oZ (rvz 0) (ac (csz [35]) nlz)))
noncomputable def um(bZ ak ay:List D->R D)(am:Addr):Ev->O:=(eO 4 (aG 2 ay (ac (g2 eS (rvz 3) (rvz 1)) (ac (rvz 2) nlz))))
noncomputable def uD(bZ ak ay:List D->R D)(am:Addr):Ev->O:=(eO 5 (gOf Jk (ac (rvz 1) (ac (g2 lY (aG 2 ay (ac (g2 eS (g2 fq (rvz 3) (ciz 1)) (rvz 1)) (ac (rvz 2) nlz))) (ciz 1)) nlz))))
noncomputable def uP(bZ ak ay:List D->R D)(am:Addr):Ev->O:=(oIf (gB2 gtD (rvz 4) (rvz 5)) (aE (dA am (ac (csz [110,111,32,99,111,117,110,116,32,111,102,32,116,104,105,115,32,116,111,116,97,108,32,104,97,115,32,116,104,105,115,32,98,97,114]) nlz)) oNx) oNx)
def wf(bZ ak ay:List D->R D)(am:Addr):Ev->O:=(cr (aB mkT (ac (rvz 4) (ac (rvz 5) nlz))))
noncomputable def jr(bZ ak ay:List D->R D)(am:Addr):Ev->O:=(aE (vI bZ ak ay am) (aE (vE bZ ak ay am) (aE (vG bZ ak ay am) (aE (wn bZ ak ay am) (aE (um bZ ak ay am) (aE (uD bZ ak ay am) (aE (uP bZ ak ay am) (aE (wf bZ ak ay am) oNx))))))))
def rm(aI:List D->R D):Ev->O:=(jK (aG 2 aI (ac (rvz 0) (ac (rvz 1) nlz))))
noncomputable def qZ(aI:List D->R D):Ev->O:=(cr (fk "str" mK (gOf lf (ac (g2 mx (g2 eS (rvz 0) (ciz 100)) (rvz 1)) nlz)) (ac (ciz 3) nlz)))
def kC(aI:List D->R D):Ev->O:=(aE (rm aI) (aE (qZ aI) oNx))
def me(aI:List D->R D):Ev->O:=(jK (aG 2 aI (ac (rvz 0) (ac (rvz 1) nlz))))
noncomputable def mq(aI:List D->R D):Ev->O:=(cr (fk "str" mK (vU [(aB wA (rvz 0)),(csz [47]),(aB wA (rvz 1))]) (ac (gOf iB (ac (vU [(aB wA (rvz 1)),(csz [47]),(aB wA (rvz 1))]) nlz)) nlz)))
def kE(aI:List D->R D):Ev->O:=(aE (me aI) (aE (mq aI) oNx))
noncomputable def Dx(ad:List D->R D)(ah:Addr):Ev->O:=(oIf (ny (gBn (aB gG (aG 3 ad (ac (rvz 0) (ac (ciz 1) (ac (ciz 40) nlz)))))) (gBn (aB gG (aG 3 ad (ac (rvz 1) (ac (ciz 1) (ac (ciz 12) nlz))))))) (aE (dA ah (ac (csz [110,111,32,115,99,114,101,101,110,32,104,97,115,32,116,104,105,115,32,115,105,122,101]) nlz)) oNx) oNx)
noncomputable def CU(ad:List D->R D)(ah:Addr):Ev->O:=(cr (aB mkT (ac (rvz 0) (ac (g2 eS (aB mkT (ac (g2 eS (csz [32]) (rvz 0)) nlz)) (rvz 1)) (ac (aB mkT (ac (ciz 0) (ac (ciz 0) nlz))) nlz)))))
def nX(ad:List D->R D)(ah:Addr):Ev->O:=(aE (Dx ad ah) (aE (CU ad ah) oNx))
def pW:Ev->O:=(cr (fk "str" xV (gOf lf (ac (rvz 0) nlz)) (ac (ciz 2) nlz)))
def gZ:Ev->O:=(aE pW oNx)
noncomputable def Ea(ad aZ:List D->R D)(af:Addr):Ev->O:=(oIf (gBn (aB gG (aG 3 ad (ac (rvz 0) (ac (ciz 0) (ac (ciz 1000000000) nlz)))))) (aE (dA af (ac (csz [97,32,99,108,111,99,107,32,104,97,115,32,102,114,111,109,32,48,32,116,111,32,49,48,48,48,48,48,48,48,48,48,32,115,101,99,111,110,100,115]) nlz)) oNx) oNx)
def EK(ad aZ:List D->R D)(af:Addr):Ev->O:=(eO 1 (aG 1 aZ (ac (g2 zK (rvz 0) (ciz 60)) nlz)))
noncomputable def EF(ad aZ:List D->R D)(af:Addr):Ev->O:=(oIf (gB2 ltD (rvz 0) (ciz 3600)) (aE (eO 2 (g2 mx (rvz 0) (ciz 60))) (aE (cr (vU [(aB wA (rvz 2)),(csz [58]),(aB wA (rvz 1))])) oNx)) oNx)
def EG(ad aZ:List D->R D)(af:Addr):Ev->O:=(eO 3 (g2 mx (rvz 0) (ciz 3600)))
noncomputable def Ee(ad aZ:List D->R D)(af:Addr):Ev->O:=(eO 4 (aG 1 aZ (ac (g2 mx (g2 zK (rvz 0) (ciz 3600)) (ciz 60)) nlz)))
noncomputable def El(ad aZ:List D->R D)(af:Addr):Ev->O:=(cr (vU [(aB wA (rvz 3)),(csz [58]),(aB wA (rvz 4)),(csz [58]),(aB wA (rvz 1))]))
noncomputable def pS(ad aZ:List D->R D)(af:Addr):Ev->O:=(aE (Ea ad aZ af) (aE (EK ad aZ af) (aE (EF ad aZ af) (aE (EG ad aZ af) (aE (Ee ad aZ af) (aE (El ad aZ af) oNx))))))
noncomputable def ql:Ev->O:=(cr (nS (g2 neF (rvz 0) (csz [])) (gOf yx (ac (aO (dD (aB bJ (rvz 0)) [] (λ_=>R.ok true) (g2 MD (rvz 0) (csz [48,49,50,51,52,53,54,55,56,57])))) nlz))))
def gO:Ev->O:=(aE ql oNx)
noncomputable def ll(aK:List D->R D):Ev->O:=(oIf (ny (gBn (aB gG (aB (kn (·=="str")) (rvz 0)))) (gB2 gtD (gOf iB (ac (rvz 0) nlz)) (ciz 12))) (aE (cr (λ_=>R.ok D.non)) oNx) oNx)
def kW(aK:List D->R D):Ev->O:=(eO 1 (fk "str" qY (rvz 0) (ac (csz [58]) nlz)))
noncomputable def lH(aK:List D->R D):Ev->O:=(oIf (gBn (aB gG (gOf yx (ac (aO (dD (aB bJ (rvz 1)) [] (λ_=>R.ok true) (aG 1 aK (ac (rvz 0) nlz)))) nlz)))) (aE (cr (λ_=>R.ok D.non)) oNx) oNx)
def lx(aK:List D->R D):Ev->O:=(eO 2 (ciz 0))
def kM(aK:List D->R D):Ev->O:=(aE (eO 2 (g2 fq (g2 eS (rvz 2) (ciz 60)) (gOf zH (ac (rvz 3) nlz)))) oNx)
def kR(aK:List D->R D):Ev->O:=(Bm (ur 3) (aB bJ (rvz 1)) (kM aK))
def kS(aK:List D->R D):Ev->O:=(cr (rvz 2))
noncomputable def eE(aK:List D->R D):Ev->O:=(aE (ll aK) (aE (kW aK) (aE (lH aK) (aE (lx aK) (aE (kR aK) (aE (kS aK) oNx))))))
def tR(bj ad dF:List D->R D)(am:Addr):Ev->O:=(eO 1 (aG 1 bj (ac (rvz 0) nlz)))
noncomputable def sP(bj ad dF:List D->R D)(am:Addr):Ev->O:=(oIf (ny (gBn (aB gG (aG 3 ad (ac (rvz 1) (ac (ciz 0) (ac (ciz 1000000000) nlz)))))) (gB2 neF (aG 1 dF (ac (rvz 1) nlz)) (rvz 0))) (aE (dA am (ac (csz [110,111,32,99,108,111,99,107,32,114,101,97,100,115,32,115,111]) nlz)) oNx) oNx)
def tK(bj ad dF:List D->R D)(am:Addr):Ev->O:=(cr (rvz 1))
noncomputable def iz(bj ad dF:List D->R D)(am:Addr):Ev->O:=(aE (tR bj ad dF am) (aE (sP bj ad dF am) (aE (tK bj ad dF am) oNx)))
noncomputable def Br(ba:List D->R D):Ev->O:=(cr (nS (g2 eqF (gOf iB (ac (rvz 0) nlz)) (ciz 2)) (nS (g2 eqF (g2 ixD (rvz 0) (ciz 0)) (csz [115,97,121])) (nS (aG 1 ba (ac (g2 ixD (rvz 0) (ciz 1)) nlz)) (g3 leD leD (ciz 1) (gOf iB (ac (g2 ixD (rvz 0) (ciz 1)) nlz)) (ciz 40))))))
def mC(ba:List D->R D):Ev->O:=(aE (Br ba) oNx)
noncomputable def Eh(ad:List D->R D):Ev->O:=(oIf (ny (gB2 neF (gOf iB (ac (rvz 0) nlz)) (ciz 3)) (gB2 neF (g2 ixD (rvz 0) (ciz 0)) (csz [103,111]))) (aE (cr (λ_=>R.ok (D.bl false))) oNx) oNx)
noncomputable def E1(ad:List D->R D):Ev->O:=(cr (nS (aG 3 ad (ac (g2 ixD (rvz 0) (ciz 1)) (ac (ciz 0) (ac (g2 lY (ciz 12) (ciz 1)) nlz)))) (aG 3 ad (ac (g2 ixD (rvz 0) (ciz 2)) (ac (ciz 0) (ac (ciz 40) nlz))))))
def oB(ad:List D->R D):Ev->O:=(aE (Eh ad) (aE (E1 ad) oNx))
noncomputable def wZ(gh iU:List D->R D):Ev->O:=(oIf (gBn (aB gG (aB (kn (·=="tuple")) (rvz 0)))) (aE (cr (λ_=>R.ok (D.bl false))) oNx) oNx)
noncomputable def wC(gh iU:List D->R D):Ev->O:=(cr (gOr (aG 1 gh (ac (rvz 0) nlz)) (gOr (aG 1 iU (ac (rvz 0) nlz)) (g2 eqF (rvz 0) (aB mkT (ac (csz [119,105,112,101]) nlz))))))
def jG(gh iU:List D->R D):Ev->O:=(aE (wZ gh iU) (aE (wC gh iU) oNx))
noncomputable def pY(bG:List D->R D)(ao:Addr):Ev->O:=(oIf (gBn (aB gG (aG 1 bG (ac (rvz 0) nlz)))) (aE (dA ao (ac (csz [116,104,105,115,32,105,115,32,110,111,32,111,114,100,101,114]) nlz)) oNx) oNx)
def gT(bG:List D->R D)(ao:Addr):Ev->O:=(aE (pY bG ao) oNx)
def vA:Ev->O:=(cr (vU [(aB wA (rvz 0)),(csz [32]),(aB wA (rvz 1))]))
def iV:Ev->O:=(aE vA oNx)
def sj(aM bW:List D->R D):Ev->O:=(jK (aG 1 aM (ac (rvz 0) nlz)))
noncomputable def tH(aM bW:List D->R D):Ev->O:=(oIf (gB2 eqF (g2 ixD (rvz 0) (ciz 0)) (csz [115,97,121])) (aE (cr (g2 fq (csz [115,97,121,32]) (g2 ixD (rvz 0) (ciz 1)))) oNx) oNx)
noncomputable def sF(aM bW:List D->R D):Ev->O:=(oIf (gB2 eqF (g2 ixD (rvz 0) (ciz 0)) (csz [103,111])) (aE (cr (g2 fq (csz [103,111,32]) (aG 2 bW (ac (g2 ixD (rvz 0) (ciz 1)) (ac (g2 ixD (rvz 0) (ciz 2)) nlz))))) oNx) oNx)
def sY(aM bW:List D->R D):Ev->O:=(cr (csz [119,105,112,101]))
def iH(aM bW:List D->R D):Ev->O:=(aE (sj aM bW) (aE (tH aM bW) (aE (sF aM bW) (aE (sY aM bW) oNx))))
noncomputable def li(aK:List D->R D):Ev->O:=(cr (nS (aG 1 aK (ac (rvz 0) nlz)) (g2 leD (gOf iB (ac (rvz 0) nlz)) (ciz 2))))
def eG(aK:List D->R D):Ev->O:=(aE (li aK) oNx)
def pI(bn:List D->R D):Ev->O:=(eO 1 (fk "str" qY (rvz 0) (ac (csz [32]) nlz)))
noncomputable def pv(bn:List D->R D):Ev->O:=(oIf (ny (gB2 neF (gOf iB (ac (rvz 1) nlz)) (ciz 2)) (gBn (aB gG (gOf yx (ac (aO (dD (aB bJ (rvz 1)) [] (λ_=>R.ok true) (aG 1 bn (ac (rvz 0) nlz)))) nlz))))) (aE (cr (λ_=>R.ok D.non)) oNx) oNx)
noncomputable def pM(bn:List D->R D):Ev->O:=(cr (aB mkT (ac (gOf zH (ac (g2 ixD (rvz 1) (ciz 0)) nlz)) (ac (gOf zH (ac (g2 ixD (rvz 1) (ciz 1)) nlz)) nlz))))
def fU(bn:List D->R D):Ev->O:=(aE (pI bn) (aE (pv bn) (aE (pM bn) oNx)))
def nJ(bu:List D->R D):Ev->O:=(eO 1 (fk "str" BH (rvz 0) (ac (csz [32]) nlz)))
noncomputable def nI(bu:List D->R D):Ev->O:=(oIf (gB2 eqF (g2 ixD (rvz 1) (ciz 0)) (csz [115,97,121])) (aE (cr (aB mkT (ac (csz [115,97,121]) (ac (g2 ixD (rvz 1) (ciz 2)) nlz)))) oNx) oNx)
noncomputable def nq(bu:List D->R D):Ev->O:=(oIf (gB2 eqF (g2 ixD (rvz 1) (ciz 0)) (csz [103,111])) (aE (eO 2 (aG 1 bu (ac (g2 ixD (rvz 1) (ciz 2)) nlz))) (aE (cr (gIf (gB2 isF (rvz 2) (λ_=>R.ok D.non)) (λ_=>R.ok D.non) (aB mkT (ac (csz [103,111]) (ac (g2 ixD (rvz 2) (ciz 0)) (ac (g2 ixD (rvz 2) (ciz 1)) nlz)))))) oNx)) oNx)
def nG(bu:List D->R D):Ev->O:=(cr (aB mkT (ac (csz [119,105,112,101]) nlz)))
def fv(bu:List D->R D):Ev->O:=(aE (nJ bu) (aE (nI bu) (aE (nq bu) (aE (nG bu) oNx))))
def sO(bz bG ci:List D->R D)(am:Addr):Ev->O:=(eO 1 (aG 1 bz (ac (rvz 0) nlz)))
noncomputable def sw(bz bG ci:List D->R D)(am:Addr):Ev->O:=(oIf (ny (gBn (aB gG (aG 1 bG (ac (rvz 1) nlz)))) (gB2 neF (aG 1 ci (ac (rvz 1) nlz)) (rvz 0))) (aE (dA am (ac (csz [110,111,32,111,114,100,101,114,32,105,115,32,119,114,105,116,116,101,110,32,115,111]) nlz)) oNx) oNx)
def tV(bz bG ci:List D->R D)(am:Addr):Ev->O:=(cr (rvz 1))
noncomputable def iq(bz bG ci:List D->R D)(am:Addr):Ev->O:=(aE (sO bz bG ci am) (aE (sw bz bG ci am) (aE (tV bz bG ci am) oNx)))
noncomputable def wI(am:Addr):Ev->O:=(oIf (ny (gBn (aB gG (aB (kn (·=="str")) (rvz 0)))) (Fb (gB2 neF (rvz 0) (csz [])) (gBn (aB gG (fk "str" Ed (rvz 0) (ac (csz [10]) nlz)))))) (aE (dA am (ac (csz [116,104,105,115,32,105,115,32,110,111,32,116,101,120,116,32,111,102,32,108,105,110,101,115,32,116,104,97,116,32,97,114,101,32,101,97,99,104,32,101,110,100,101,100,32,98,121,32,97,32,108,105,110,101,32,102,101,101,100]) nlz)) oNx) oNx)
noncomputable def xf(am:Addr):Ev->O:=(cr (gSl (fk "str" qY (rvz 0) (ac (csz [10]) nlz)) (λ_=>R.ok none) (tz (aB DY (ciz 1)))))
def jP(am:Addr):Ev->O:=(aE (wI am) (aE (xf am) oNx))
noncomputable def qG(fD dW:List D->R D):Ev->O:=(cr (aO (yz (aB bJ (aG 1 fD (ac (rvz 0) nlz))) [] (λ_=>R.ok true) (aG 1 dW (ac (rvz 0) nlz)))))
def gY(fD dW:List D->R D):Ev->O:=(aE (qG fD dW) oNx)
noncomputable def pJ(aM:List D->R D)(ao:Addr):Ev->O:=(oIf (gBn (aB gG (aB (kn (·=="list")) (rvz 0)))) (aE (dA ao (ac (csz [116,104,105,115,32,105,115,32,110,111,32,108,105,115,116,32,111,102,32,111,114,100,101,114,115]) nlz)) oNx) oNx)
def oH(aM:List D->R D)(ao:Addr):Ev->O:=(aE (jK (aG 1 aM (ac (rvz 1) nlz))) oNx)
def oh(aM:List D->R D)(ao:Addr):Ev->O:=(Bm (ur 1) (aB bJ (rvz 0)) (oH aM ao))
def fT(aM:List D->R D)(ao:Addr):Ev->O:=(aE (pJ aM ao) (aE (oh aM ao) oNx))
noncomputable def zQz9:Ev->O:=(oIf (gB2 neF (g2 ixD (rvz 0) (ciz 0)) (g2 ixD (rvz 1) (ciz 0))) (aE (cr (λ_=>R.ok D.non)) oNx) oNx)
def lQ:Ev->O:=(oIf (gB2 neF (g2 ixD (rvz 0) (ciz 0)) (csz [115,97,121])) (aE (cr (rvz 1)) oNx) oNx)
def lW:Ev->O:=(eO 2 (g2 fq (g2 ixD (rvz 0) (ciz 1)) (g2 ixD (rvz 1) (ciz 1))))
noncomputable def lZ:Ev->O:=(cr (gIf (gB2 leD (gOf iB (ac (rvz 2) nlz)) (ciz 40)) (aB mkT (ac (csz [115,97,121]) (ac (rvz 2) nlz))) (λ_=>R.ok D.non)))
def fo:Ev->O:=(aE zQz9 (aE lQ (aE lW (aE lZ oNx))))
def vp(bh aW:List D->R D):Ev->O:=(jK (aG 1 bh (ac (rvz 0) nlz)))
def vX(bh aW:List D->R D):Ev->O:=(Aa 1 (fQ nlz))
noncomputable def uX(bh aW:List D->R D):Ev->O:=(aE (II 1 3 (gIf (gB2 gtD (gOf iB (ac (rvz 1) nlz)) (ciz 0)) (aG 2 aW (ac (g2 ixD (rvz 1) (aB DY (ciz 1))) (ac (rvz 2) nlz))) (λ_=>R.ok D.non))) (aE (oIf (gB2 isF (rvz 3) (λ_=>R.ok D.non)) (aE (Oh 1 (rvz 2)) oNx) (aE (GS 1 (aB DY (ciz 1)) (rvz 3)) oNx)) oNx))
def vV(bh aW:List D->R D):Ev->O:=(Bm (ur 2) (aB bJ (rvz 0)) (uX bh aW))
def vQ(bh aW:List D->R D):Ev->O:=(cr (rvz 1))
noncomputable def jd(bh aW:List D->R D):Ev->O:=(aE (vp bh aW) (aE (vX bh aW) (aE (vV bh aW) (yW 1 (aE (vQ bh aW) oNx)))))
def bR(af:Addr):List D->R D:=λds=>aD (gR ki af (aw 1 ds))
def cq(af:Addr):List D->R D:=λds=>aD (im (bR af) ki af (aw 2 ds))
def kL:List D->R D:=λds=>aD (jE (aw 2 ds))
def FP(af ah:Addr):List D->R D:=λds=>aD (xO (cq af) ki kL ah (aw 4 ds))
def rg:List D->R D:=λds=>aD (jm ki (aw 2 ds))
def ng:List D->R D:=λds=>aD (gW rg (aw 2 ds))
def kD:List D->R D:=λds=>aD (iG (aw 2 ds))
def fE(af:Addr):List D->R D:=λds=>aD (jb (bR af) ki ng kD af (aw 5 ds))
def Bf:List D->R D:=λds=>aD (lS kL (aw 1 ds))
def iJ(af am:Addr):List D->R D:=λds=>aD (jr Bf (bR af) kD am (aw 6 ds))
def nQ(af:Addr):List D->R D:=λds=>aD (kC (cq af) (aw 2 ds))
def kP(af:Addr):List D->R D:=λds=>aD (kE (cq af) (aw 2 ds))
def fb(ah:Addr):List D->R D:=λds=>aD (nX ki ah (aw 2 ds))
def mM:List D->R D:=λds=>aD (gZ (aw 1 ds))
def gF(af:Addr):List D->R D:=λds=>aD (pS ki mM af (aw 5 ds))
def jL:List D->R D:=λds=>aD (gO (aw 1 ds))
def ju:List D->R D:=λds=>aD (eE jL (aw 4 ds))
def gK(af am:Addr):List D->R D:=λds=>aD (iz ju ki (gF af) am (aw 2 ds))
def Ag:List D->R D:=λds=>aD (mC nA (aw 1 ds))
def FS:List D->R D:=λds=>aD (oB ki (aw 1 ds))
def oX:List D->R D:=λds=>aD (jG Ag FS (aw 1 ds))
def jw(ao:Addr):List D->R D:=λds=>aD (gT oX ao (aw 1 ds))
def rl:List D->R D:=λds=>aD (iV (aw 2 ds))
def pK(ao:Addr):List D->R D:=λds=>aD (iH (jw ao) rl (aw 1 ds))
def jv:List D->R D:=λds=>aD (eG jL (aw 1 ds))
def kO:List D->R D:=λds=>aD (fU jv (aw 2 ds))
def kj:List D->R D:=λds=>aD (fv kO (aw 3 ds))
def nV(ao am:Addr):List D->R D:=λds=>aD (iq kj oX (pK ao) am (aw 2 ds))
def uo(am:Addr):List D->R D:=λds=>aD (jP am (aw 1 ds))
def fM(am ao:Addr):List D->R D:=λds=>aD (gY (uo am) (nV ao am) (aw 1 ds))
def kZ(ao:Addr):List D->R D:=λds=>aD (fT (jw ao) ao (aw 2 ds))
def jz:List D->R D:=λds=>aD (fo (aw 3 ds))
def eP(ao:Addr):List D->R D:=λds=>aD (jd (kZ ao) jz (aw 4 ds))
def Ln{C2 C3 C7:Addr}:gF C1 [.int 1000000000]=.ok (.str [50,55,55,55,55,55,58,52,54,58,52,48]):=rfl
def Ps{C2 C3 C7:Addr}:gF C1 [.int 0]=.ok (.str [48,58,48,48]):=rfl
def PX{C2 C3 C7:Addr}:gF C1 [.int 59]=.ok (.str [48,58,53,57]):=rfl
def P7{C2 C3 C7:Addr}:gF C1 [.int 60]=.ok (.str [49,58,48,48]):=rfl
def PN{C2 C3 C7:Addr}:gF C1 [.int 3599]=.ok (.str [53,57,58,53,57]):=rfl
def PZ{C2 C3 C7:Addr}:gF C1 [.int 3600]=.ok (.str [49,58,48,48,58,48,48]):=rfl
def Qy{C2 C3 C7:Addr}:gF C1 [.int 3661]=.ok (.str [49,58,48,49,58,48,49]):=rfl
def J1{C2 C3:Addr}:gK C1 C7 [.str [50,55,55,55,55,55,58,52,54,58,52,48]]=.ok (.int 1000000000):=rfl
def A6:Ev->O:=(eO 4 (λ_=>R.ok D.non))
def B6:Ev->O:=(eO 5 (λ_=>R.ok D.non))
noncomputable def cJ(xb em:List D->R D)(bO cj:List D->R D)(eA gQ:List D->R D)(gU nK:List D->R D)(bM dF:List D->R D)(dS du:List D->R D)(rs:List Addr):Ev->O:=(Gd (aE (oIf (gB2 ltD (rvz 0) (ciz 4)) (aE (eO 5 (zW [aG 3 xb (ac (rvz 1) (ac (rvz 2) (ac (rvz 3) nlz))),aG 3 em (ac (rvz 1) (ac (rvz 2) (ac (rvz 3) nlz))),aG 3 bO (ac (rvz 1) (ac (rvz 2) (ac (rvz 3) nlz))),aG 3 cj (ac (rvz 1) (ac (rvz 2) (ac (rvz 3) nlz)))] (rvz 0))) oNx) (aE (oIf (gB2 ltD (rvz 0) (ciz 9)) (aE (eO 5 (zW [aG 2 eA (ac (rvz 1) (ac (rvz 2) nlz)),aG 2 gQ (ac (rvz 1) (ac (rvz 2) nlz)),aG 2 gU (ac (rvz 1) (ac (rvz 2) nlz)),aG 2 nK (ac (rvz 1) (ac (rvz 2) nlz)),aG 2 bM (ac (rvz 1) (ac (rvz 2) nlz))] (g2 lY (rvz 0) (ciz 4)))) oNx) (aE (eO 5 (zW [aG 1 dF (ac (rvz 1) nlz),aG 1 dS (ac (rvz 1) nlz),aG 1 du (ac (rvz 1) nlz)] (g2 lY (rvz 0) (ciz 9)))) oNx)) oNx)) oNx) (aE (eO 4 (rvz 6)) oNx) (wz rs) 6)
def jC:Ev->O:=(oIf (gB2 isF (rvz 4) (λ_=>R.ok D.non)) (aE (cr (rvz 5)) oNx) oNx)
def jJ(eJ:List D->R D):Ev->O:=(cr (aG 1 eJ (ac (rvz 4) nlz)))
noncomputable def iR(xb em:List D->R D)(bO cj:List D->R D)(eA gQ:List D->R D)(gU nK:List D->R D)(bM dF:List D->R D)(dS du eJ:List D->R D)(rs:List Addr):Ev->O:=(aE (A6) (aE (B6) (aE (cJ xb em bO cj eA gQ gU nK bM dF dS du rs) (aE (jC) (aE (jJ eJ) oNx)))))
def hW:Ev->O:=(eO 1 (g2 Iu (ciz 10) (ciz 9)))
noncomputable def fj(av:List D->R D):Ev->O:=(aE (eO 4 (g2 fq (g2 fq (gOf lf (ac (rvz 3) nlz)) (csz [47])) (gOf lf (ac (rvz 2) nlz)))) (aE (eO 5 (g2 fq (g2 eS (ciz 2) (gOf iB (ac (gOf lf (ac (rvz 2) nlz)) nlz))) (ciz 1))) (aE (oIf (gB2 neF (aG 4 av (ac (ciz 6) (ac (rvz 3) (ac (rvz 2) (ac (λ_=>R.ok D.non) nlz))))) (g2 fq (g2 eS (csz [32]) (g2 lY (rvz 5) (gOf iB (ac (rvz 4) nlz)))) (rvz 4))) (aE (cr (λ_=>R.ok (D.bl false))) oNx) oNx) oNx)))
noncomputable def ff(av:List D->R D):Ev->O:=(aE (eO 8 (aO (fQ (ac (aG 4 av (ac (ciz 0) (ac (rvz 6) (ac (rvz 7) (ac (ciz 9) nlz))))) (ac (aG 4 av (ac (ciz 5) (ac (rvz 6) (ac (rvz 7) (ac (λ_=>R.ok D.non) nlz))))) (ac (aG 4 av (ac (ciz 6) (ac (rvz 6) (ac (rvz 7) (ac (λ_=>R.ok D.non) nlz))))) nlz)))))) (aE (oIf (gB2 neF (rvz 8) (g2 eS (aO (fQ (ac (csz [110,111,32,110,117,109,98,101,114]) nlz))) (ciz 3))) (aE (cr (λ_=>R.ok (D.bl false))) oNx) oNx) oNx))
noncomputable def fc(aR av:List D->R D):Ev->O:=(aE (Bm (ur 3) (aB bJ (aB mkT (ac (ciz 0) (ac (rvz 2) (ac (aG 3 aR (ac (rvz 0) (ac (ciz 3) (ac (g2 fq (rvz 2) (ciz 1)) nlz)))) nlz))))) (fj av)) (aE (Bm (CN [6,7]) (aB bJ (aB mkT (ac (aB mkT (ac (ciz 0) (ac (ciz 0) nlz))) (ac (aB mkT (ac (aB DY (ciz 1)) (ac (rvz 2) nlz))) (ac (aB mkT (ac (g2 fq (rvz 2) (ciz 1)) (ac (rvz 2) nlz))) (ac (aB mkT (ac (ciz 0) (ac (g2 fq (rvz 1) (ciz 1)) nlz))) nlz)))))) (ff av)) (aE (oIf (gB2 neF (aO (dD (aB bJ (aB mkT (ac (ciz 0) (ac (g2 fq (rvz 1) (ciz 1)) nlz)))) [] (λ_=>R.ok true) (aG 4 av (ac (ciz 4) (ac (csz [91,46,93]) (ac (rvz 0) (ac (λ_=>R.ok D.non) nlz))))))) (g2 eS (aO (fQ (ac (csz [110,111,32,110,117,109,98,101,114]) nlz))) (ciz 2))) (aE (cr (λ_=>R.ok (D.bl false))) oNx) oNx) (aE (oIf (gB2 neF (aO (dD (aB bJ (aB mkT (ac (ciz 3) (ac (ciz 40) nlz)))) [2] (λ_=>R.ok true) (aG 4 av (ac (ciz 0) (ac (rvz 1) (ac (rvz 1) (ac (rvz 0) nlz))))))) (aO (fQ (ac (csz [91,35,93]) (ac (g2 fq (g2 fq (csz [91]) (g2 eS (csz [35]) (ciz 38))) (csz [93])) nlz))))) (aE (cr (λ_=>R.ok (D.bl false))) oNx) oNx) oNx))))
noncomputable def hJ(aR av:List D->R D):Ev->O:=(Bm (ur 2) (aB bJ (aB mkT (ac (ciz 1) (ac (rvz 1) (ac (g2 fq (ciz 1) (aG 3 aR (ac (rvz 0) (ac (ciz 1) (ac (ciz 999) nlz))))) (ac (g2 fq (ciz 1) (aG 3 aR (ac (rvz 0) (ac (ciz 2) (ac (rvz 1) nlz))))) nlz)))))) (fc aR av))
noncomputable def ij(av:List D->R D):Ev->O:=(oIf (gB2 neF (aO (dD (aB bJ (aB mkT (ac (ciz 2) (ac (ciz 41) nlz)))) [] (λ_=>R.ok true) (aG 4 av (ac (ciz 0) (ac (ciz 1) (ac (ciz 2) (ac (rvz 0) nlz))))))) (g2 eS (aO (fQ (ac (csz [110,111,32,114,111,111,109]) nlz))) (ciz 2))) (aE (cr (λ_=>R.ok (D.bl false))) oNx) oNx)
noncomputable def ik(av:List D->R D):Ev->O:=(eO 8 (g2 fq (aO (dD (aB bJ (aB mkT (ac (aB DY (ciz 1)) (ac (g2 fq (rvz 1) (ciz 1)) (ac (λ_=>R.ok D.non) (ac (λ_=>R.ok (D.bl true)) nlz)))))) [] (λ_=>R.ok true) (aG 4 av (ac (ciz 9) (ac (rvz 0) (ac (λ_=>R.ok D.non) (ac (λ_=>R.ok D.non) nlz))))))) (aO (fQ (ac (aG 4 av (ac (ciz 1) (ac (aO (fQ nlz)) (ac (ciz 0) (ac (ciz 2) nlz))))) nlz)))))
noncomputable def hZ(av:List D->R D):Ev->O:=(cr (nS (g2 eqF (g2 fq (rvz 8) (aO (dD (aB bJ (aB mkT (ac (ciz 1) (ac (ciz 100) nlz)))) [] (λ_=>R.ok true) (aG 4 av (ac (ciz 1) (ac (aO (fQ nlz)) (ac (ciz 5) (ac (rvz 0) nlz)))))))) (g2 eS (aO (fQ (ac (csz [110,111,32,110,117,109,98,101,114]) nlz))) (ciz 7))) (g2 isF (aG 4 av (ac (ciz 1) (ac (aO (fQ nlz)) (ac (ciz 5) (ac (ciz 99) nlz))))) (λ_=>R.ok D.non))))
def cG(aR av:List D->R D):Ev->O:=(aE (hW) (aE (hJ aR av) (aE (ij av) (aE (ik av) (aE (hZ av) oNx)))))
def dL:Ev->O:=(eO 0 (csz [50,55,55,55,55,55,58,52,54,58,52,48]))
noncomputable def dN(av:List D->R D):Ev->O:=(oIf (ny (gB2 neF (aG 4 av (ac (ciz 9) (ac (g2 Iu (ciz 10) (ciz 9)) (ac (λ_=>R.ok D.non) (ac (λ_=>R.ok D.non) nlz))))) (rvz 0)) (gB2 neF (aG 4 av (ac (ciz 10) (ac (rvz 0) (ac (λ_=>R.ok D.non) (ac (λ_=>R.ok D.non) nlz))))) (g2 Iu (ciz 10) (ciz 9)))) (aE (cr (λ_=>R.ok (D.bl false))) oNx) oNx)
noncomputable def fN:Ev->O:=(eO 1 (aO (fQ (ac (csz [50,55,55,55,55,55,58,52,54,58,52,49]) (ac (csz [48,50,55,55,55,55,55,58,52,54,58,52,48]) (ac (csz [48,58,54,48]) (ac (csz [49,58,48,58,48,48]) (ac (csz [48,58,48]) (ac (csz []) (ac (csz [58]) (ac (csz [49,58,48,48,58,48,48,58,48,48]) (ac (csz [54,48,58,48,48]) (ac (csz [120,58,48,48]) nlz)))))))))))))
noncomputable def dJ(av:List D->R D):Ev->O:=(oIf (gB2 neF (aO (dD (aB bJ (rvz 1)) [] (λ_=>R.ok true) (aG 4 av (ac (ciz 10) (ac (rvz 0) (ac (λ_=>R.ok D.non) (ac (λ_=>R.ok D.non) nlz))))))) (g2 eS (aO (fQ (ac (csz [110,111,32,116,101,120,116]) nlz))) (ciz 10))) (aE (cr (λ_=>R.ok (D.bl false))) oNx) oNx)
noncomputable def dR:Ev->O:=(eO 2 (aO (fQ (ac (ciz 0) (ac (ciz 59) (ac (ciz 60) (ac (ciz 3599) (ac (ciz 3600) (ac (ciz 3661) nlz)))))))))
noncomputable def dU(av:List D->R D):Ev->O:=(cr (g2 eqF (aO (dD (aB bJ (rvz 2)) [] (λ_=>R.ok true) (aG 4 av (ac (ciz 9) (ac (rvz 0) (ac (λ_=>R.ok D.non) (ac (λ_=>R.ok D.non) nlz))))))) (aO (fQ (ac (csz [48,58,48,48]) (ac (csz [48,58,53,57]) (ac (csz [49,58,48,48]) (ac (csz [53,57,58,53,57]) (ac (csz [49,58,48,48,58,48,48]) (ac (csz [49,58,48,49,58,48,49]) nlz))))))))))
def bU(av:List D->R D):Ev->O:=(aE (dL) (aE (dN av) (aE (fN) (aE (dJ av) (aE (dR) (aE (dU av) oNx))))))
noncomputable def eT(aR:List D->R D):Ev->O:=(eO 1 (g2 fq (ciz 1) (aG 3 aR (ac (rvz 0) (ac (ciz 10) (ac (ciz 6) nlz))))))
noncomputable def dq:Ev->O:=(MI (CN [2,3]) (aB mkT (ac (g2 eS (aB mkT (ac (aB mkT (ac (csz [97,98]) (ac (csz [60]) nlz))) nlz)) (rvz 1)) (ac (g2 eS (aB mkT (ac (csz [120]) nlz)) (rvz 1)) nlz))))
noncomputable def dw(bB:List D->R D):Ev->O:=(Aa 4 (fQ (ac (aG 2 bB (ac (rvz 2) (ac (g2 eS (aO (fQ (ac (rvz 3) nlz))) (ciz 9)) nlz))) (ac (aG 2 bB (ac (rvz 2) (ac (g2 eS (aO (fQ (ac (rvz 3) nlz))) (ciz 10)) nlz))) nlz))))
noncomputable def dl(bB:List D->R D):Ev->O:=(Jc 4 (aO (fQ (ac (aG 2 bB (ac (g2 eS (aB mkT (ac (aB mkT (ac (csz [97]) (ac (csz [60]) nlz))) nlz)) (ciz 7)) (ac (aO (fQ nlz)) nlz))) (ac (aG 2 bB (ac (aB mkT nlz) (ac (aO (fQ nlz)) nlz))) nlz)))))
noncomputable def dj:Ev->O:=(oIf (gB2 neF (rvz 4) (aO (fQ (ac (λ_=>R.ok (D.bl true)) (ac (λ_=>R.ok (D.bl false)) (ac (λ_=>R.ok (D.bl false)) (ac (λ_=>R.ok (D.bl false)) nlz))))))) (aE (cr (λ_=>R.ok (D.bl false))) oNx) oNx)
noncomputable def dk(av:List D->R D):Ev->O:=(Aa 4 (dD (aB bJ (aB mkT (ac (g2 lY (g2 eS (ciz 2) (rvz 1)) (ciz 1)) (ac (g2 lY (g2 eS (ciz 2) (rvz 1)) (ciz 2)) (ac (ciz 40) (ac (ciz 41) nlz)))))) [2,3] (λ_=>R.ok true) (aG 4 av (ac (ciz 3) (ac (rvz 1) (ac (aO (fQ (ac (rvz 2) nlz))) (ac (rvz 0) nlz)))))))
noncomputable def di(kz:List D->R D):Ev->O:=(oIf (ny (gB2 neF (rvz 4) (aO (fQ (ac (g2 eS (aO (fQ (ac (ciz 1) nlz))) (rvz 1)) (ac (csz [110,111,32,114,111,111,109]) (ac (g2 eS (aO (fQ (ac (ciz 2) nlz))) (rvz 1)) (ac (csz [110,111,32,114,111,111,109]) nlz))))))) (gB2 neF (gOf iB (ac (aG 3 kz (ac (rvz 2) (ac (g2 eS (aO (fQ (ac (rvz 3) nlz))) (ciz 9)) (ac (ciz 40) nlz)))) nlz)) (ciz 11))) (aE (cr (λ_=>R.ok (D.bl false))) oNx) oNx)
noncomputable def dm(aR:List D->R D):Ev->O:=(eO 5 (gSl (csz [97,98,99,100,101,102,103,104,105,106]) (λ_=>R.ok none) (tz (g2 fq (ciz 1) (aG 3 aR (ac (rvz 0) (ac (ciz 11) (ac (ciz 10) nlz))))))))
noncomputable def cy(av:List D->R D):Ev->O:=(aE (eO 7 (gIf (gB2 leD (gOf iB (ac (rvz 5) nlz)) (rvz 6)) (rvz 5) (g2 fq (gSl (rvz 5) (λ_=>R.ok none) (tz (g2 lY (rvz 6) (ciz 1)))) (csz [126])))) (aE (oIf (ny (gB2 neF (aG 4 av (ac (ciz 7) (ac (rvz 5) (ac (rvz 6) (ac (λ_=>R.ok D.non) nlz))))) (rvz 7)) (gB2 neF (aG 4 av (ac (ciz 2) (ac (rvz 5) (ac (rvz 6) (ac (csz [60]) nlz))))) (g2 fq (rvz 7) (g2 eS (csz [32]) (g2 lY (rvz 6) (gOf iB (ac (rvz 7) nlz))))))) (aE (cr (λ_=>R.ok (D.bl false))) oNx) oNx) oNx))
def cV(av:List D->R D):Ev->O:=(Bm (ur 6) (aB rS (ac (ciz 1) (ac (ciz 12) nlz))) (cy av))
noncomputable def cR(av:List D->R D):Ev->O:=(eO 4 (g2 fq (aO (dD (aB bJ (aB mkT (ac (ciz 0) (ac (ciz 41) nlz)))) [5] (λ_=>R.ok true) (aG 4 av (ac (ciz 7) (ac (rvz 1) (ac (rvz 0) (ac (λ_=>R.ok D.non) nlz))))))) (aO (dD (aB bJ (aB mkT (ac (ciz 0) (ac (ciz 41) nlz)))) [] (λ_=>R.ok true) (aG 4 av (ac (ciz 8) (ac (rvz 0) (ac (ciz 1) (ac (λ_=>R.ok D.non) nlz)))))))))
noncomputable def cU(av bM:List D->R D):Ev->O:=(oIf (ny (gB2 neF (g2 fq (rvz 4) (aO (dD (aB bJ (aB mkT (ac (ciz 0) (ac (ciz 13) nlz)))) [] (λ_=>R.ok true) (aG 4 av (ac (ciz 8) (ac (ciz 1) (ac (rvz 0) (ac (λ_=>R.ok D.non) nlz)))))))) (g2 eS (aO (fQ (ac (csz [110,111,32,114,111,111,109]) nlz))) (ciz 6))) (gB2 neF (g2 ixD (aG 2 bM (ac (ciz 40) (ac (ciz 12) nlz))) (ciz 0)) (ciz 40))) (aE (cr (λ_=>R.ok (D.bl false))) oNx) oNx)
noncomputable def cS(cZ:List D->R D):Ev->O:=(cr (nS (g2 eqF (aG 2 cZ (ac (aO (fQ (ac (ciz 99) (ac (ciz 99) nlz)))) (ac (ciz 999) nlz))) (aO (fQ (ac (ciz 99) (ac (ciz 99) nlz))))) (g2 eqF (aG 2 cZ (ac (aO (fQ (ac (ciz 99) nlz))) (ac (ciz 0) nlz))) (aO (fQ (ac (ciz 0) nlz))))))
noncomputable def bL(aR bB:List D->R D)(av kz:List D->R D)(bM cZ:List D->R D):Ev->O:=(aE (eT aR) (aE (dq) (aE (dw bB) (aE (dl bB) (yW 4 (aE (dj) (aE (dk av) (yW 4 (aE (di kz) (aE (dm aR) (aE (cV av) (aE (cR av) (aE (cU av bM) (aE (cS cZ) oNx))))))))))))))
noncomputable def kX(aL:Addr)(ad bM:List D->R D)(ah:Addr):Ev->O:=(oIf (gBn (aB gG (aG 3 ad (ac (rvz 1) (ac (ciz 20) (ac (ciz 40) nlz)))))) (aE (dA ah (ac (csz [97,32,98,111,97,114,100,32,105,115,32,102,114,111,109,32,50,48,32,116,111,32,52,48,32,115,105,103,110,115,32,119,105,100,101]) nlz)) oNx) oNx)
def lz(aL:Addr)(ad bM:List D->R D)(ah:Addr):Ev->O:=(zb aL 0 2 (rvz 1))
noncomputable def lL(aL:Addr)(ad bM:List D->R D)(ah:Addr):Ev->O:=(zb aL 0 3 (aG 2 bM (ac (rvz 1) (ac (ciz 12) nlz))))
def lI(aL:Addr)(ad bM:List D->R D)(ah:Addr):Ev->O:=(Ez aL 0 4 (fQ nlz))
def lK(aL:Addr)(ad bM:List D->R D)(ah:Addr):Ev->O:=(E7 aL 0 5)
def kU(aL:Addr)(ad bM:List D->R D)(ah:Addr):Ev->O:=(zb aL 0 6 (ciz 0))
noncomputable def fG(aL:Addr)(ad bM:List D->R D)(ah:Addr):Ev->O:=(aE (kX aL ad bM ah) (aE (lz aL ad bM ah) (aE (lL aL ad bM ah) (aE (lI aL ad bM ah) (aE (lK aL ad bM ah) (aE (kU aL ad bM ah) oNx))))))
def nc(aL:Addr)(aQ ak:List D->R D)(ah:Addr):Ev->O:=(jK (aG 1 aQ (ac (rvz 1) nlz)))
def mY(aL:Addr)(aQ ak:List D->R D)(ah:Addr):Ev->O:=(jK (aG 1 ak (ac (rvz 2) nlz)))
noncomputable def mO(aL:Addr)(aQ ak:List D->R D)(ah:Addr):Ev->O:=(oIf (gB2 geD (yJ aL 0 5) (ciz 9)) (aE (dA ah (ac (csz [97,32,98,111,97,114,100,32,104,97,115,32,57,32,116,97,115,107,115,32,97,116,32,109,111,115,116]) nlz)) oNx) oNx)
def mH(aL:Addr)(aQ ak:List D->R D)(ah:Addr):Ev->O:=(eO 3 (ED aL 0 6))
noncomputable def mQ(aL:Addr)(aQ ak:List D->R D)(ah:Addr):Ev->O:=(yq aL 0 5 (rvz 3) (aB mkT (ac (rvz 3) (ac (rvz 1) (ac (ciz 0) (ac (rvz 2) nlz))))))
def mW(aL:Addr)(aQ ak:List D->R D)(ah:Addr):Ev->O:=(Dn aL 0 6 (ciz 1))
def mI(aL:Addr)(aQ ak:List D->R D)(ah:Addr):Ev->O:=(Lb (rvz 3))
noncomputable def gw(aL:Addr)(aQ ak:List D->R D)(ah:Addr):Ev->O:=(aE (nc aL aQ ak ah) (aE (mY aL aQ ak ah) (aE (mO aL aQ ak ah) (aE (mH aL aQ ak ah) (aE (mQ aL aQ ak ah) (aE (mW aL aQ ak ah) (aE (mI aL aQ ak ah) oNx)))))))
noncomputable def vb(bF bo bg:List D->R D):Ev->O:=(oIf (ny (gBn (aB gG (aG 1 bF (ac (rvz 0) nlz)))) (ny (gBn (aB gG (aG 0 bo nlz))) (gBn (aB gG (aG 1 bg (ac (rvz 0) nlz)))))) (aE (cr (λ_=>R.ok (D.bl false))) oNx) oNx)
def wa(aR:List D->R D):Ev->O:=(eO 1 (aG 3 aR (ac (rvz 0) (ac (ciz 20) (ac (ciz 41) nlz)))))
noncomputable def yc:Ev->O:=(Nh 2 3 (ac (g2 eS (csz [97]) (rvz 1)) (ac (g2 eS (csz [98]) (g2 lY (ciz 40) (rvz 1))) nlz)))
noncomputable def yM:Ev->O:=(Aa 4 (dD (aB bJ (aB mkT (ac (rvz 2) (ac (rvz 3) nlz)))) [] (gB2 neF (rvz 0) (csz [])) (aB mkT (ac (csz [115,97,121]) (ac (rvz 0) nlz)))))
def yg:Ev->O:=(eO 5 (aO (fQ (ac (aB mkT (ac (csz [115,97,121]) (ac (g2 fq (rvz 2) (rvz 3)) nlz))) nlz))))
noncomputable def yy(cm:List D->R D):Ev->O:=(eO 6 (aG 1 cm (ac (g2 fq (rvz 4) (aO (fQ (ac (aB mkT (ac (csz [115,97,121]) (ac (csz [99]) nlz))) nlz)))) nlz)))
noncomputable def yC(cm:List D->R D):Ev->O:=(oIf (ny (gB2 neF (aG 1 cm (ac (rvz 4) nlz)) (rvz 5)) (ny (gB2 neF (gOf iB (ac (rvz 6) nlz)) (ciz 2)) (gB2 neF (fk "str" zc (csz []) (ac (aO (dD (aB bJ (rvz 6)) [] (λ_=>R.ok true) (g2 ixD (rvz 0) (ciz 1)))) nlz)) (g2 fq (g2 fq (rvz 2) (rvz 3)) (csz [99]))))) (aE (cr (λ_=>R.ok (D.bl false))) oNx) oNx)
noncomputable def uZ:Ev->O:=(eO 7 (aO (fQ (ac (csz [103,111,32,49,10]) (ac (csz [103,111,32,49,32,49,48,48,10]) (ac (csz [103,111,32,49,48,48,32,49,10]) (ac (csz [103,111,32,48,49,32,49,10]) (ac (csz [103,111,32,49,50,32,49,10]) (ac (csz [103,111,32,49,32,52,49,10]) (ac (csz [103,111,32,49,32,49,32,49,10]) (ac (csz [115,97,121,32,10]) nlz)))))))))))
noncomputable def vh(av:List D->R D):Ev->O:=(oIf (gB2 neF (aO (dD (aB bJ (rvz 7)) [] (λ_=>R.ok true) (aG 4 av (ac (ciz 11) (ac (rvz 0) (ac (λ_=>R.ok D.non) (ac (λ_=>R.ok D.non) nlz))))))) (g2 eS (aO (fQ (ac (csz [110,111,32,116,101,120,116]) nlz))) (ciz 8))) (aE (cr (λ_=>R.ok (D.bl false))) oNx) oNx)
noncomputable def oV(av:List D->R D):Ev->O:=(oIf (gB2 neF (aG 4 av (ac (ciz 11) (ac (csz [103,111,32,49,49,32,52,48,10]) (ac (λ_=>R.ok D.non) (ac (λ_=>R.ok D.non) nlz))))) (aO (fQ (ac (aB mkT (ac (csz [103,111]) (ac (ciz 11) (ac (ciz 40) nlz)))) nlz)))) (aE (cr (λ_=>R.ok (D.bl false))) oNx) oNx)
noncomputable def xh(aL:Addr)(cO:MF):Ev->O:=(xW aL 8 2 cO (aB bJ (aB mkT (ac (ciz 1) (ac (g2 Iu (ciz 10) (ciz 9)) nlz)))) (ac (csz [120]) (ac (rvz 0) nlz)) (aO (fQ (ac (ciz 0) (ac (ciz 1) nlz)))))
def sI(aL:Addr)(cO:MF):Ev->O:=(aE (xh aL cO) oNx)
noncomputable def uh(aL:Addr)(cO fJ:MF)(bF bo:List D->R D)(bg aR:List D->R D)(cm av:List D->R D):Addr×Unit->Ev->O:=(oj (vb bF bo bg) (oj (wa aR) (oj (yc) (oj (yM) (oj (yg) (LI 4 (oj (yy cm) (oj (yC cm) (oj (uZ) (oj (vh av) (oj (oV av) (Ei aL 8 fJ 1 (ac (ciz 20) nlz) (EU (sI aL cO))))))))))))))
noncomputable def doF(Fs:Nat->List D->R D)(FW:List D->R D)(rs:List Addr):List D->R D:=λds=>aD (iR (Fs 0) (Fs 1) (Fs 2) (Fs 3) (Fs 4) (Fs 5) (Fs 6) (Fs 7) (Fs 8) (Fs 9) (Fs 10) (Fs 11) FW rs (aw 7 ds))
section
variable{Fs:Nat->List D->R D}{FW:List D->R D}{a c e v:D}
def oO(hC:C∈rs):wz rs C=some true:=by simp only[wz,hC,wO]
def Bc{gb gs:Ev->O}{f:Addr->Option Bool}{ρ':Ev}(h:gb ρ=.ex C ρ')(hf:f C=some true):Gd gb gs f i ρ=MH i (gs (ρ'.set i (some (.val (.exc C))))):=by rw[Ks,h,Aw hf]
def KU(hw:FW [.exc C]=.ok v):aD (aE jC (aE (jJ FW) oNx) [some (.val a),some (.val c),some (.val d),some (.val e),some (.val (.exc C)),some (.val .non),none])=.ok v:=by have e1:aD (aE jC (aE (jJ FW) oNx) [some (.val a),some (.val c),some (.val d),some (.val e),some (.val (.exc C)),some (.val .non),none])=aD (aE jC (aE (jJ (λ_=>FW [.exc C])) oNx) [some (.val a),some (.val c),some (.val d),some (.val e),some (.val (.exc C)),some (.val .non),none]):=rfl;rw[e1,hw];rfl
def gE(h:cJ (Fs 0) (Fs 1) (Fs 2) (Fs 3) (Fs 4) (Fs 5) (Fs 6) (Fs 7) (Fs 8) (Fs 9) (Fs 10) (Fs 11) rs [some (.val a),some (.val c),some (.val d),some (.val e),some (.val .non),some (.val .non),none]=.nx [some (.val a),some (.val c),some (.val d),some (.val e),some (.val (.exc C)),some (.val .non),none])(hw:FW [.exc C]=.ok v):doF Fs FW rs [a,c,d,e]=.ok v:=by show aD ((cJ (Fs 0) (Fs 1) (Fs 2) (Fs 3) (Fs 4) (Fs 5) (Fs 6) (Fs 7) (Fs 8) (Fs 9) (Fs 10) (Fs 11) rs [some (.val a),some (.val c),some (.val d),some (.val e),some (.val .non),some (.val .non),none]).seq (aE jC (aE (jJ FW) oNx)))=_;rw[h];exact KU hw
def OD(h:Fs 0 [c,d,e]=.ok v):doF Fs FW rs [.int 0,c,d,e]=.ok v:=by have e1:doF Fs FW rs [.int 0,c,d,e]=doF (λ_ _=>Fs 0 [c,d,e]) FW rs [.int 0,c,d,e]:=rfl;rw[e1,h];rfl
def IE(h:Fs 0 [c,d,e]=.ex C)(hC:C∈rs)(hw:FW [.exc C]=.ok v):doF Fs FW rs [.int 0,c,d,e]=.ok v:=by have e1:doF Fs FW rs [.int 0,c,d,e]=doF (λ_ _=>Fs 0 [c,d,e]) FW rs [.int 0,c,d,e]:=rfl;rw[e1,h];refine gE ?_ hw;unfold cJ;refine(Bc (ρ':=[some (.val (.int 0)),some (.val c),some (.val d),some (.val e),some (.val .non),some (.val .non),none]) ?_ (oO hC)).trans ?_ <;> rfl
def O7(h:Fs 1 [c,d,e]=.ok v):doF Fs FW rs [.int 1,c,d,e]=.ok v:=by have e1:doF Fs FW rs [.int 1,c,d,e]=doF (λ_ _=>Fs 1 [c,d,e]) FW rs [.int 1,c,d,e]:=rfl;rw[e1,h];rfl
def Hi(h:Fs 1 [c,d,e]=.ex C)(hC:C∈rs)(hw:FW [.exc C]=.ok v):doF Fs FW rs [.int 1,c,d,e]=.ok v:=by have e1:doF Fs FW rs [.int 1,c,d,e]=doF (λ_ _=>Fs 1 [c,d,e]) FW rs [.int 1,c,d,e]:=rfl;rw[e1,h];refine gE ?_ hw;unfold cJ;refine(Bc (ρ':=[some (.val (.int 1)),some (.val c),some (.val d),some (.val e),some (.val .non),some (.val .non),none]) ?_ (oO hC)).trans ?_ <;> rfl
def Qf(h:Fs 2 [c,d,e]=.ok v):doF Fs FW rs [.int 2,c,d,e]=.ok v:=by have e1:doF Fs FW rs [.int 2,c,d,e]=doF (λ_ _=>Fs 2 [c,d,e]) FW rs [.int 2,c,d,e]:=rfl;rw[e1,h];rfl
def O0(h:Fs 3 [c,d,e]=.ok v):doF Fs FW rs [.int 3,c,d,e]=.ok v:=by have e1:doF Fs FW rs [.int 3,c,d,e]=doF (λ_ _=>Fs 3 [c,d,e]) FW rs [.int 3,c,d,e]:=rfl;rw[e1,h];rfl
def Mm(h:Fs 3 [c,d,e]=.ex C)(hC:C∈rs)(hw:FW [.exc C]=.ok v):doF Fs FW rs [.int 3,c,d,e]=.ok v:=by have e1:doF Fs FW rs [.int 3,c,d,e]=doF (λ_ _=>Fs 3 [c,d,e]) FW rs [.int 3,c,d,e]:=rfl;rw[e1,h];refine gE ?_ hw;unfold cJ;refine(Bc (ρ':=[some (.val (.int 3)),some (.val c),some (.val d),some (.val e),some (.val .non),some (.val .non),none]) ?_ (oO hC)).trans ?_ <;> rfl
def Jp(h:Fs 4 [c,d]=.ex C)(hC:C∈rs)(hw:FW [.exc C]=.ok v):doF Fs FW rs [.int 4,c,d,e]=.ok v:=by have e1:doF Fs FW rs [.int 4,c,d,e]=doF (λ_ _=>Fs 4 [c,d]) FW rs [.int 4,c,d,e]:=rfl;rw[e1,h];refine gE ?_ hw;unfold cJ;refine(Bc (ρ':=[some (.val (.int 4)),some (.val c),some (.val d),some (.val e),some (.val .non),some (.val .non),none]) ?_ (oO hC)).trans ?_ <;> rfl
def N7(h:Fs 5 [c,d]=.ex C)(hC:C∈rs)(hw:FW [.exc C]=.ok v):doF Fs FW rs [.int 5,c,d,e]=.ok v:=by have e1:doF Fs FW rs [.int 5,c,d,e]=doF (λ_ _=>Fs 5 [c,d]) FW rs [.int 5,c,d,e]:=rfl;rw[e1,h];refine gE ?_ hw;unfold cJ;refine(Bc (ρ':=[some (.val (.int 5)),some (.val c),some (.val d),some (.val e),some (.val .non),some (.val .non),none]) ?_ (oO hC)).trans ?_ <;> rfl
def P0(h:Fs 6 [c,d]=.ok v):doF Fs FW rs [.int 6,c,d,e]=.ok v:=by have e1:doF Fs FW rs [.int 6,c,d,e]=doF (λ_ _=>Fs 6 [c,d]) FW rs [.int 6,c,d,e]:=rfl;rw[e1,h];rfl
def Nn(h:Fs 6 [c,d]=.ex C)(hC:C∈rs)(hw:FW [.exc C]=.ok v):doF Fs FW rs [.int 6,c,d,e]=.ok v:=by have e1:doF Fs FW rs [.int 6,c,d,e]=doF (λ_ _=>Fs 6 [c,d]) FW rs [.int 6,c,d,e]:=rfl;rw[e1,h];refine gE ?_ hw;unfold cJ;refine(Bc (ρ':=[some (.val (.int 6)),some (.val c),some (.val d),some (.val e),some (.val .non),some (.val .non),none]) ?_ (oO hC)).trans ?_ <;> rfl
def Qz(h:Fs 7 [c,d]=.ok v):doF Fs FW rs [.int 7,c,d,e]=.ok v:=by have e1:doF Fs FW rs [.int 7,c,d,e]=doF (λ_ _=>Fs 7 [c,d]) FW rs [.int 7,c,d,e]:=rfl;rw[e1,h];rfl
def Mt(h:Fs 7 [c,d]=.ex C)(hC:C∈rs)(hw:FW [.exc C]=.ok v):doF Fs FW rs [.int 7,c,d,e]=.ok v:=by have e1:doF Fs FW rs [.int 7,c,d,e]=doF (λ_ _=>Fs 7 [c,d]) FW rs [.int 7,c,d,e]:=rfl;rw[e1,h];refine gE ?_ hw;unfold cJ;refine(Bc (ρ':=[some (.val (.int 7)),some (.val c),some (.val d),some (.val e),some (.val .non),some (.val .non),none]) ?_ (oO hC)).trans ?_ <;> rfl
def DE(h:Fs 8 [c,d]=.ex C)(hC:C∈rs)(hw:FW [.exc C]=.ok v):doF Fs FW rs [.int 8,c,d,e]=.ok v:=by have e1:doF Fs FW rs [.int 8,c,d,e]=doF (λ_ _=>Fs 8 [c,d]) FW rs [.int 8,c,d,e]:=rfl;rw[e1,h];refine gE ?_ hw;unfold cJ;refine(Bc (ρ':=[some (.val (.int 8)),some (.val c),some (.val d),some (.val e),some (.val .non),some (.val .non),none]) ?_ (oO hC)).trans ?_ <;> rfl
def GF(h:Fs 9 [c]=.ok v):doF Fs FW rs [.int 9,c,d,e]=.ok v:=by have e1:doF Fs FW rs [.int 9,c,d,e]=doF (λ_ _=>Fs 9 [c]) FW rs [.int 9,c,d,e]:=rfl;rw[e1,h];rfl
def D7(h:Fs 9 [c]=.ex C)(hC:C∈rs)(hw:FW [.exc C]=.ok v):doF Fs FW rs [.int 9,c,d,e]=.ok v:=by have e1:doF Fs FW rs [.int 9,c,d,e]=doF (λ_ _=>Fs 9 [c]) FW rs [.int 9,c,d,e]:=rfl;rw[e1,h];refine gE ?_ hw;unfold cJ;refine(Bc (ρ':=[some (.val (.int 9)),some (.val c),some (.val d),some (.val e),some (.val .non),some (.val .non),none]) ?_ (oO hC)).trans ?_ <;> rfl
def MY(h:Fs 10 [c]=.ok v):doF Fs FW rs [.int 10,c,d,e]=.ok v:=by have e1:doF Fs FW rs [.int 10,c,d,e]=doF (λ_ _=>Fs 10 [c]) FW rs [.int 10,c,d,e]:=rfl;rw[e1,h];rfl
def Kt(h:Fs 10 [c]=.ex C)(hC:C∈rs)(hw:FW [.exc C]=.ok v):doF Fs FW rs [.int 10,c,d,e]=.ok v:=by have e1:doF Fs FW rs [.int 10,c,d,e]=doF (λ_ _=>Fs 10 [c]) FW rs [.int 10,c,d,e]:=rfl;rw[e1,h];refine gE ?_ hw;unfold cJ;refine(Bc (ρ':=[some (.val (.int 10)),some (.val c),some (.val d),some (.val e),some (.val .non),some (.val .non),none]) ?_ (oO hC)).trans ?_ <;> rfl
def ML(h:Fs 11 [c]=.ok v):doF Fs FW rs [.int 11,c,d,e]=.ok v:=by have e1:doF Fs FW rs [.int 11,c,d,e]=doF (λ_ _=>Fs 11 [c]) FW rs [.int 11,c,d,e]:=rfl;rw[e1,h];rfl
def Md(h:Fs 11 [c]=.ex C)(hC:C∈rs)(hw:FW [.exc C]=.ok v):doF Fs FW rs [.int 11,c,d,e]=.ok v:=by have e1:doF Fs FW rs [.int 11,c,d,e]=doF (λ_ _=>Fs 11 [c]) FW rs [.int 11,c,d,e]:=rfl;rw[e1,h];refine gE ?_ hw;unfold cJ;refine(Bc (ρ':=[some (.val (.int 11)),some (.val c),some (.val d),some (.val e),some (.val .non),some (.val .non),none]) ?_ (oO hC)).trans ?_ <;> rfl
end
def xJ(h:ki [d,.int 1,.int 1000000000]=.ok (.bl true)):bR C [d]=.ok .non:=by
 show aD (aE _ _ [some (.val d)])=_;unfold iE
 walk_at "run"
 all_goals rfl
def GI(h:ki [d,.int 1,.int 1000000000]=.ok (.bl false)):bR C [d]=.ex C:=by
 show aD (aE _ _ [some (.val d)])=_;unfold iE
 walk_at "run"
 all_goals rfl
def JV{t:D}(h1:bR C [t]=.ok .non)(h2:ki [d,.int 0,t]=.ok (.bl true)):cq C [d,t]=.ok .non:=by
 show aD (aE _ _ [some (.val d),some (.val t)])=_;unfold gj gm
 walk_at "run"
 all_goals rfl
def Hz{t:D}(h1:bR C [t]=.ex C):cq C [d,t]=.ex C:=by
 show aD (aE _ _ [some (.val d),some (.val t)])=_;unfold gj gm
 walk_at "run"
 all_goals rfl
def Ie{t:D}(h1:bR C [t]=.ok .non)(h2:ki [d,.int 0,t]=.ok (.bl false)):cq C [d,t]=.ex C:=by
 show aD (aE _ _ [some (.val d),some (.val t)])=_;unfold gj gm
 walk_at "run"
 all_goals rfl
def Fu{d T:Nat}(h1:1<=T)(h2:T<=1000000000)(h3:d<=T):cq C [.int (d:Int),.int (T:Int)]=.ok .non:=by
 refine JV (xJ ?_) ?_;·show R.ok (D.bl (decide ((1:Int)<=(T:Int)) && decide ((T:Int)<=1000000000)))=_;rw[uY (by omega),uY (by omega)];rfl
 ·show R.ok (D.bl (decide ((0:Int)<=(d:Int)) && decide ((d:Int)<=(T:Int))))=_;rw[uY (by omega),uY (by omega)];rfl
def Mv(f r:Nat):List Nat:=[91]++List.replicate f 35++List.replicate (r - f) 46++[93]
def AL{i:Int}(h1 : -1000<=i)(h2:i<=1000):eS (.str [c]) (.int i)=some (.str (List.replicate i.toNat c)):=by have lb:=gq;simp only[eS];rw[if_pos ⟨by omega,by omega,by simp;omega⟩,yQ]
def K2{f r:Nat}(hf:f<=100)(hr:r<=100):kL [.int (f:Int),.int (r:Int)]=.ok (.str (Mv f r)):=by
 have lb:=gq;have m1:eS (.str [35]) (.int (f:Int))=some (.str (List.replicate f 35)):=Nd (by omega);have m2:eS (.str [46]) (.int ((r:Int) - (f:Int)))=some (.str (List.replicate (r - f) 46)):=by rw[AL (by omega) (by omega),show((r:Int) - (f:Int)).toNat=r - f by omega]
 have a1:fq (.str [91]) (.str (List.replicate f 35))=some (.str ([91]++List.replicate f 35)):=rZ (by simp;omega);have a2:fq (.str ([91]++List.replicate f 35)) (.str (List.replicate (r - f) 46))=some (.str ([91]++List.replicate f 35++List.replicate (r - f) 46)):=rZ (by simp;omega);have a3:fq (.str ([91]++List.replicate f 35++List.replicate (r - f) 46)) (.str [93])=some (.str (Mv f r)):=rZ (by simp;omega);generalize [91]++List.replicate f 35=u1 at *;generalize u1++List.replicate (r - f) 46=u2 at *;show aD (aE _ _ [some (.val (.int (f:Int))),some (.val (.int (r:Int)))])=_;unfold pH;clear hf hr lb
 walk_at "run"
def Gz{d r T:Nat}(h:d<=T)(hT:1<=T):d * r / T<=r:=by rw[Nat.div_le_iff_le_mul_add_pred (by omega)];have:=Nat.mul_le_mul_right r h;omega
def HV{d T w:Nat}(h1:1<=T)(h2:T<=1000000000)(h3:d<=T)(h4:3<=w)(h5:w<=40):FP C1 C3 [.int (d:Int),.int (T:Int),.int (w:Int)]=.ok (.str (Mv (d * (w - 2) / T) (w - 2))):=by
 have e2:=Fu (C:=C1) h1 h2 h3;have e3:ki [.int (w:Int),.int 3,.int 40]=.ok (.bl true):=by show R.ok (D.bl (decide ((3:Int)<=(w:Int)) && decide ((w:Int)<=40)))=_;rw[uY (by omega),uY (by omega)];rfl
 have hr:(w:Int) - 2=((w - 2:Nat):Int):=by omega
 have fl:=Gz (d:=d) (r:=w - 2) (T:=T) h3 h1;generalize hr':w - 2=r at *;have m1:eS (.int (d:Int)) (.int (r:Int))=some (.int ((d * r:Nat):Int)):=by rw[Mn (by omega)];congr 2
 have m2:mx (.int ((d * r:Nat):Int)) (.int (T:Int))=some (.int ((d * r / T:Nat):Int)):=by simp only[mx];rw[if_pos (by omega)];congr 2
 have b1:=K2 (f:=d * r / T) (r:=r) (by omega) (by omega);show aD (aE _ _ [some (.val (.int (d:Int))),some (.val (.int (T:Int))),some (.val (.int (w:Int))),none])=_;unfold AB AI BP BQ;clear h1 h2 h3 h4 h5 hr' fl
 walk_at "run"
 all_goals rfl
def GC{t w:D}(h:cq C1 [d,t]=.ex C1):FP C1 C3 [d,t,w]=.ex C1:=by
 show aD (aE _ _ [some (.val d),some (.val t),some (.val w),none])=_;unfold AB AI BP BQ
 walk_at "run"
 all_goals rfl
def ke(hk:0<k)(h:n<10 ^ k):(qk n).length<=k:=by unfold qk;rw[List.length_map];exact(Nat.length_toDigits_le_iff (by decide) hk).2 h
def KM{t:D}(h:cq C1 [d,t]=.ex C1):nQ C1 [d,t]=.ex C1:=by
 show aD (aE _ _ [some (.val d),some (.val t)])=_;unfold rm qZ
 walk_at "run"
 all_goals rfl
def cnL(d T:Nat):List Nat:=qk d++[47]++qk T
def LX{t:D}(h:cq C1 [d,t]=.ex C1):kP C1 [d,t]=.ex C1:=by
 show aD (aE _ _ [some (.val d),some (.val t)])=_;unfold me mq
 walk_at "run"
 all_goals rfl
def J5{d T:Nat}(h1:1<=T)(h2:T<=1000000000)(h3:d<=T):kP C1 [.int (d:Int),.int (T:Int)]=.ok (.str (rj (cnL T T).length (cnL d T))):=by
 have lb:=gq;have e2:=Fu (C:=C1) h1 h2 h3;have f1:=J8 (n:=d) (by omega);have f2:=J8 (n:=T) (by omega);have l1:=ke (n:=d) (k:=10) (by decide) (by omega);have l2:=ke (n:=T) (k:=10) (by decide) (by omega);have lc:∀a:Nat,(qk a).length<=10->((qk a).length<=sizeLine/\(qk a++[47]).length<=sizeLine/\(cnL a T).length<=sizeLine/\(cnL a T).length<=1000):=λa ha=>by unfold cnL;simp only[List.length_append,List.length_cons,List.length_nil];omega
 obtain⟨z1,z2,z3,_⟩:=lc d l1;obtain⟨z4,z5,z6,z7⟩:=lc T l2;have kd:lm "str" (.str (cnL d T))=true:=rfl;have r1:mK (.str (cnL d T)) [.int ((cnL T T).length:Int)]=some (.str (rj (cnL T T).length (cnL d T))):=PV z7;have ec:∀a,qk a++[47]++qk T=cnL a T:=λ_=>rfl;have en:∀a:List Nat,([]:List Nat)++a=a:=λ_=>rfl;show aD (aE _ _ [some (.val (.int (d:Int))),some (.val (.int (T:Int)))])=_;unfold me mq;clear h1 h2 h3 l1 l2 lc lb z7
 walk_at "run"
 all_goals rfl
section
variable{ρ1 ρ2:Ev}{g1 g2':Ev->O}{t u:Ev->R Bool}{ga:Ev->R D}{v w x:D}
def bC(h:g1 ρ=.nx ρ1):aE g1 g2' ρ=g2' ρ1:=by rw[sk,h];rfl
def wy(h:t ρ=.ok false):oIf t g1 oNx ρ=.nx ρ:=by rw[OV,h];rfl
def uC(ha:ga ρ=.ok v)(hb:gb ρ=.ok w)(h:neF v w=some (.bl false)):gB2 neF ga gb ρ=.ok false:=by rw[On,MQ,ha,R.ok_bind,hb,R.ok_bind,h];rfl
def zF(h:t ρ=.ok false)(h2:u ρ=.ok false):ny t u ρ=.ok false:=by rw[Lx,h,R.ok_bind];exact h2
def Ao(h:ga ρ=.ok v):cr ga ρ=.rt v:=by rw[Ly,h];rfl
def gJ(h:ga ρ=.ok v):eO i ga ρ=.nx (ρ.set i (some (.val v))):=by rw[KS,h];rfl
def dE{f:D->D->Option D}(ha:ga ρ=.ok v)(hb:gb ρ=.ok w)(h:f v w=some x):g2 f ga gb ρ=.ok x:=by rw[MQ,ha,R.ok_bind,hb,R.ok_bind,h];rfl
def K9(h:gl ρ=.ok ds):aO gl ρ=.ok (.lst false ds):=by rw[A7,h];rfl
def nz{g:Ev->O}(h1:asg d ρ=.ok ρ1)(h2:g ρ1=.nx ρ2):iC asg g (d::ds) ρ=iC asg g ds ρ2:=by simp only[iC,h1,R.ok_out,h2]
def Fg{g:Ev->O}(h:gl ρ=.ok ds):Bm asg gl g ρ=iC asg g ds ρ:=by rw[JY,h];rfl
def cI(h:ga ρ=.ok v)(h2:gl ρ=.ok ds):ac ga gl ρ=.ok (v::ds):=by rw[Cb,h,R.ok_bind,h2];rfl
inductive Ats(ge:Ev->R D)(tl:Ev):List D->List D->Prop
 |nil:Ats ge tl [] []
 |cons {d v:D} {ds vs:List D} (h:ge (some (.val d)::tl)=.ok v) (t:Ats ge tl ds vs):Ats ge tl (d::ds) (v::vs)
theorem tw{ge:Ev->R D}{tl:Ev}:∀{ds vs:List D}(a:Option Sl),Ats ge tl ds vs->kA (λ_=>R.ok true) ge ds (a::tl)=.ok vs
 |_,_,_,.nil=>rfl
 |d::ds,v::vs,a,.cons h t=>by show(fA (R.ok (some (.val d)::tl))>>=λρ1=>fA (R.ok true)>>=λk=>if k=true then fA (ge ρ1)>>=λx=>kA (λ_=>R.ok true) ge ds ρ1>>=λxs=>.ok (x::xs)else kA (λ_=>R.ok true) ge ds ρ1)=_;simp only[jt,R.ok_bind,wO,h,tw _ t]
def bf{tl:Ev}{vs:List D}(hi:gi ρ=.ok ds)(hx:lR ix ρ=none::tl)(h:Ats ge tl ds vs)(hl:vs.length<=1000):aO (dD gi ix (λ_=>R.ok true) ge) ρ=.ok (.lst false vs):=by refine K9 ?_;rw[BC,hi,R.ok_bind,hx,tw none h,R.ok_bind,if_pos (xS hl (by decide))]
end
def rH:D:=.str [110,111,32,116,101,120,116]
def pU:D:=.str [110,111,32,110,117,109,98,101,114]
def dG:D:=.str [110,111,32,114,111,111,109]
structure Times(dd:List D->R D):Prop where
 c9:dd [.int 9,.int 1000000000,.non,.non]=.ok (.str [50,55,55,55,55,55,58,52,54,58,52,48])
 c10:dd [.int 10,.str [50,55,55,55,55,55,58,52,54,58,52,48],.non,.non]=.ok (.int 1000000000)
 x:∀s∈([[50,55,55,55,55,55,58,52,54,58,52,49],[48,50,55,55,55,55,55,58,52,54,58,52,48],[48,58,54,48],[49,58,48,58,48,48],[48,58,48],[],[58],[49,58,48,48,58,48,48,58,48,48],[54,48,58,48,48],[120,58,48,48]]:List (List Nat)),dd [.int 10,.str s,.non,.non]=.ok rH
 k0:dd [.int 9,.int 0,.non,.non]=.ok (.str [48,58,48,48])
 k1:dd [.int 9,.int 59,.non,.non]=.ok (.str [48,58,53,57])
 k2:dd [.int 9,.int 60,.non,.non]=.ok (.str [49,58,48,48])
 k3:dd [.int 9,.int 3599,.non,.non]=.ok (.str [53,57,58,53,57])
 k4:dd [.int 9,.int 3600,.non,.non]=.ok (.str [49,58,48,48,58,48,48])
 k5:dd [.int 9,.int 3661,.non,.non]=.ok (.str [49,58,48,49,58,48,49])
def rq(dd:List D->R D):List D->R D:=λds=>aD (bU dd (aw 3 ds))
theorem tZ{ge:Ev->R D}{tl:Ev}{v:D}:∀{ds:List D},(∀d∈ds,ge (some (.val d)::tl)=.ok v)->Ats ge tl ds (List.replicate ds.length v)
 | [],_=>.nil
 |d::ds,h=>.cons (h d (uS ..)) (tZ λd m=>h d (v9 _ m))
def C4{dd:List D->R D}(h:Times dd):rq dd []=.ok (.bl true):=by show aD (bU dd [none,none,none])=_;unfold bU dL dN fN dJ dR dU;rw[bC (gJ (v:=.str [50,55,55,55,55,55,58,52,54,58,52,48]) rfl)];rw[bC (wy (zF (uC h.c9 rfl rfl) (uC h.c10 rfl rfl)))];rw[bC (gJ (v:=.lst false [.str [50,55,55,55,55,55,58,52,54,58,52,49],.str [48,50,55,55,55,55,55,58,52,54,58,52,48],.str [48,58,54,48],.str [49,58,48,58,48,48],.str [48,58,48],.str [],.str [58],.str [49,58,48,48,58,48,48,58,48,48],.str [54,48,58,48,48],.str [120,58,48,48]]) rfl)];rw[bC (wy (uC (bf rfl rfl (tZ (v:=rH) λd m=>by obtain⟨s,ms,rfl⟩:=o9.1 (show d∈([[50,55,55,55,55,55,58,52,54,58,52,49],[48,50,55,55,55,55,55,58,52,54,58,52,48],[48,58,54,48],[49,58,48,58,48,48],[48,58,48],[],[58],[49,58,48,48,58,48,48,58,48,48],[54,48,58,48,48],[120,58,48,48]]:List (List Nat)).map D.str from m);exact h.x s ms) (by decide)) rfl rfl))];rw[bC (gJ (v:=.lst false [.int 0,.int 59,.int 60,.int 3599,.int 3600,.int 3661]) rfl)];rw[sk,Ao (dE (bf rfl rfl (.cons h.k0 (.cons h.k1 (.cons h.k2 (.cons h.k3 (.cons h.k4 (.cons h.k5 .nil)))))) (by decide)) rfl rfl)];rfl
section
variable{ga gc:Ev->R D}{v w x y:D}
def GO{g:Ev->O}:iC asg g [] ρ=.nx ρ:=rfl
def xE{f:List D->Option D}(h:gl ρ=.ok ds)(h2:f ds=some v):gOf f gl ρ=.ok v:=by rw[OT,h,R.ok_bind,h2];rfl
def jV(h:gl ρ=.ok ds)(hl:ds.length<=1000):aO (fQ gl) ρ=.ok (.lst false ds):=K9 (by rw[Iv,h,R.ok_bind,if_pos (xS hl (by decide))])
def yH(h:gl ρ=.ok ds)(hl:ds.length<=1000):aB bJ (aB mkT gl) ρ=.ok ds:=by rw[we,we,h,R.ok_bind,m_t hl];rfl
def ja(ha:ga ρ=.ok v)(hb:gb ρ=.ok w)(hc:gc ρ=.ok x)(h:F [v,w,x]=.ok y):aG 3 F (ac ga (ac gb (ac gc λ_=>.ok []))) ρ=.ok y:=by rw[BB,ha,R.ok_bind,hb,R.ok_bind,hc,R.ok_bind,h]
def FI(ha:ga ρ=.ok (.bl true))(hb:gb ρ=.ok v):nS ga gb ρ=.ok v:=by rw[Lu,ha,R.ok_bind,OC,R.ok_bind,if_pos rfl,hb]
end
def CM(a b:Int):Prop:=¬ (1<=b/\b<=1000000000/\0<=a/\a<=b)
structure Counts(dd:List D->R D):Prop where
 cn:∀{r t:Nat},1<=t->t<=1000000000->r<=t->dd [.int 6,.int (r:Int),.int (t:Int),.non]=.ok (.str (rj (cnL t t).length (cnL r t)))
 b0:∀{a b:Int},CM a b->dd [.int 0,.int a,.int b,.int 9]=.ok pU
 b5:∀{a b:Int},CM a b->dd [.int 5,.int a,.int b,.non]=.ok pU
 b6:∀{a b:Int},CM a b->dd [.int 6,.int a,.int b,.non]=.ok pU
 m0:dd [.int 4,.str [91,46,93],.int 0,.non]=.ok pU
 m1:dd [.int 4,.str [91,46,93],.int 1000000001,.non]=.ok pU
 f3:∀{t:Nat},1<=t->t<=1000000000->dd [.int 0,.int (t:Int),.int (t:Int),.int 3]=.ok (.str [91,35,93])
 f40:∀{t:Nat},1<=t->t<=1000000000->dd [.int 0,.int (t:Int),.int (t:Int),.int 40]=.ok (.str (91::(List.replicate 38 35++[93])))
 r2:dd [.int 0,.int 1,.int 2,.int 2]=.ok dG
 r41:dd [.int 0,.int 1,.int 2,.int 41]=.ok dG
 k0:dd [.int 9,.int (-1),.non,.non]=.ok pU
 k1:dd [.int 9,.int 1000000001,.non,.non]=.ok pU
 k2:dd [.int 9,.non,.non,.non]=.ok pU
 k3:dd [.int 9,.bl true,.non,.non]=.ok pU
 t0:dd [.int 1,.lst false [],.int 0,.int 2]=.ok pU
 t1:dd [.int 1,.lst false [],.int 5,.int 1]=.ok pU
 t2:dd [.int 1,.lst false [],.int 5,.int 100]=.ok pU
 t3:dd [.int 1,.lst false [],.int 5,.int 99]=.ok .non
section
variable{dd:List D->R D}{t r:Nat}{N B x2 x3 x4 x5 x6 x7 x8:Option Sl}{ns:List Int}
def I9(h:Counts dd)(h1:1<=t)(h2:t<=1000000000)(h3:r<=t):fj dd [N,B,some (.val (.int (t:Int))),some (.val (.int (r:Int))),x4,x5,x6,x7,x8]=.nx [N,B,some (.val (.int (t:Int))),some (.val (.int (r:Int))),some (.val (.str (cnL r t))),some (.val (.int (2 * ((qk t).length:Int)+1))),x6,x7,x8]:=by
 have l1:=ke (n:=r) (k:=10) (by decide) (by omega);have l2:=ke (n:=t) (k:=10) (by decide) (by omega);have lb:=gq;have lc:∀a:Nat,(cnL a t).length=(qk a).length+1+(qk t).length:=λa=>by unfold cnL;simp only[List.length_append,List.length_cons,List.length_nil]
 have c1:=lc r;have c2:=lc t;unfold fj;rw[bC (gJ (v:=.str (cnL r t)) (dE (dE (xE (ds:=[.int (r:Int)]) rfl (GD (by omega))) rfl (rZ (by simp only[wV,i9];omega))) (xE (ds:=[.int (t:Int)]) rfl (GD (by omega))) (rZ (by simp only[sg,wV,i9];omega))))];rw[bC (gJ (dE (dE rfl (xE (cI (xE (ds:=[.int (t:Int)]) rfl (GD (by omega))) rfl) rfl) (Au (by omega))) rfl rfl))];rw[bC (wy (uC (h.cn h1 h2 h3) (dE (dE rfl (dE rfl (xE (ds:=[.str (cnL r t)]) rfl rfl) rfl) (AL (by omega) (by omega))) rfl (rZ (by rw[qP];omega))) (by rw[MK,show(((2:Int) * ((qk t).length:Int)+1) - ((cnL r t).length:Int)).toNat=(cnL t t).length - (cnL r t).length by omega];unfold rj;simp)))];rfl
def EZ(h:Counts dd){a b:Int}(hb:CM a b):ff dd [N,B,x2,x3,x4,x5,some (.val (.int a)),some (.val (.int b)),x8]=.nx [N,B,x2,x3,x4,x5,some (.val (.int a)),some (.val (.int b)),some (.val (.lst false [pU,pU,pU]))]:=by unfold ff;rw[bC (gJ (jV (cI (h.b0 hb) (cI (h.b5 hb) (cI (h.b6 hb) rfl))) (by decide))),bC (wy (uC rfl rfl rfl))];rfl
def Fl(h:Counts dd)(h1:1<=t)(h2:t<=1000000000):∃y3 y4 y5 y6 y7 y8,fc nv dd [some (.val (.lst fz (ns.map .int))),some (.val (.int 1000000000)),some (.val (.int (t:Int))),x3,x4,x5,x6,x7,x8]=.nx [some (.val (.lst fz (ns.map .int))),some (.val (.int 1000000000)),some (.val (.int (t:Int))),y3,y4,y5,y6,y7,y8]:=by
 obtain⟨p1,p2⟩:=gz ns 3 (m:=(t:Int)+1) (by omega);have hp:=iK (fz:=fz) (ns:=ns) (n:=3) (m:=(t:Int)+1) (by omega);obtain⟨p,e⟩:∃p:Nat,zZ ns 3 ((t:Int)+1)=(p:Int):=⟨_,(pz p1).symm⟩
 rw[e]at hp p2;unfold fc;rw[sk,Fg (yH (cI rfl (cI rfl (cI (ja rfl rfl rfl hp) rfl))) (by simp)),nz rfl (I9 (r:=0) h h1 h2 (by omega)),nz rfl (I9 (r:=t) h h1 h2 (by omega)),nz rfl (I9 (r:=p) h h1 h2 (by omega))];rw[GO,MJ,sk,Fg (yH (ds:=[.tup [.int 0,.int 0],.tup [.int (-1),.int (t:Int)],.tup [.int ((t:Int)+1),.int (t:Int)],.tup [.int 0,.int 1000000001]]) rfl (by simp)),nz rfl (EZ h (by unfold CM;omega)),nz rfl (EZ h (by unfold CM;omega)),nz rfl (EZ h (by unfold CM;omega)),nz rfl (EZ h (by unfold CM;omega))];rw[GO,MJ,bC (wy (uC (bf (ds:=[.int 0,.int 1000000001]) rfl rfl (.cons h.m0 (.cons h.m1 .nil)) (by decide)) rfl rfl))];rw[bC (wy (uC (bf (ds:=[.int 3,.int 40]) rfl rfl (.cons (h.f3 h1 h2) (.cons (h.f40 h1 h2) .nil)) (by decide)) rfl rfl))];exact⟨_,_,_,_,_,_,rfl⟩
def mB(dd:List D->R D):List D->R D:=λds=>aD (cG nv dd (aw 9 ds))
def AD(h:Counts dd):mB dd [.lst fz (ns.map .int)]=.ok (.bl true):=by
 show aD (cG nv dd [some (.val (.lst fz (ns.map .int))),none,none,none,none,none,none,none,none])=_;obtain⟨p1,p2⟩:=gz ns 1 (m:=999) (by decide);have hp:=iK (fz:=fz) (ns:=ns) (n:=1) (m:=999) (by decide);obtain⟨p,e⟩:∃p:Nat,zZ ns 1 999=(p:Int):=⟨_,(pz p1).symm⟩
 rw[e]at hp p2;obtain⟨q1,q2⟩:=gz ns 2 (m:=1000000000) (by decide);have hq:=iK (fz:=fz) (ns:=ns) (n:=2) (m:=1000000000) (by decide);obtain⟨q,e⟩:∃p:Nat,zZ ns 2 1000000000=(p:Int):=⟨_,(pz q1).symm⟩
 rw[e]at hq q2;unfold cG hW hJ;rw[bC (gJ (v:=.int 1000000000) rfl)];rw[sk,Fg (yH (ds:=[.int 1,.int 1000000000,.int ((1+p:Nat):Int),.int ((1+q:Nat):Int)]) (cI rfl (cI rfl (cI (dE rfl (ja rfl rfl rfl hp) (by rw[Af];simp)) (cI (dE rfl (ja rfl rfl rfl hq) (by rw[Af];simp)) rfl)))) (by simp))];obtain⟨_,_,_,_,_,_,e⟩:=Fl (t:=1) (fz:=fz) (ns:=ns) (x3:=none) (x4:=none) (x5:=none) (x6:=none) (x7:=none) (x8:=none) h (by decide) (by decide);rw[nz rfl e];obtain⟨_,_,_,_,_,_,e⟩:=Fl (t:=1000000000) (fz:=fz) (ns:=ns) h (by decide) (by decide);rw[nz rfl e];obtain⟨_,_,_,_,_,_,e⟩:=Fl (t:=1+p) (fz:=fz) (ns:=ns) h (by omega) (by omega);rw[nz rfl e];obtain⟨_,_,_,_,_,_,e⟩:=Fl (t:=1+q) (fz:=fz) (ns:=ns) h (by omega) (by omega);rw[nz rfl e];rw[GO,MJ];unfold ij ik hZ;rw[bC (wy (uC (bf (ds:=[.int 2,.int 41]) rfl rfl (.cons h.r2 (.cons h.r41 .nil)) (by decide)) rfl rfl))];rw[bC (gJ (v:=.lst false [pU,pU,pU,pU,pU]) (dE (bf (ds:=[.int (-1),.int 1000000001,.non,.bl true]) rfl rfl (.cons h.k0 (.cons h.k1 (.cons h.k2 (.cons h.k3 .nil)))) (by decide)) (jV (cI h.t0 rfl) (by decide)) rfl))];rw[sk,Ao (FI (dE (dE rfl (bf (ds:=[.int 1,.int 100]) rfl rfl (.cons h.t1 (.cons h.t2 .nil)) (by decide)) rfl) rfl rfl) (dE h.t3 rfl rfl))];rfl
end
def jU(m:Nat):D:=.tup (List.replicate (m+1) (.tup [.str [97,98],.str [60]]))
def qW(m:Nat):D:=.tup (List.replicate (m+1) (.str [120]))
def pB(m:Nat)(i:Int):D:=.lst false (List.replicate (m+1) (.int i))
structure Cols(dd:List D->R D):Prop where
 w1:∀{m:Nat},m<6->dd [.int 3,jU m,.lst false [qW m],.int (2 * ((m+1:Nat):Int) - 1)]=.ok (pB m 1)
 w2:∀{m:Nat},m<6->dd [.int 3,jU m,.lst false [qW m],.int (2 * ((m+1:Nat):Int) - 2)]=.ok dG
 w3:∀{m:Nat},m<6->dd [.int 3,jU m,.lst false [qW m],.int 40]=.ok (pB m 2)
 w4:∀{m:Nat},m<6->dd [.int 3,jU m,.lst false [qW m],.int 41]=.ok dG
 cu:∀{x:List Nat}{w:Nat},plain x=true->x.length<=10->1<=w->w<=40->dd [.int 7,.str x,.int (w:Int),.non]=.ok (.str (xx w x))
 c0:∀{x:List Nat},plain x=true->x.length<=10->dd [.int 7,.str x,.int 0,.non]=.ok dG
 c41:∀{x:List Nat},plain x=true->x.length<=10->dd [.int 7,.str x,.int 41,.non]=.ok dG
 ft:∀{x:List Nat}{w:Nat},plain x=true->x.length<=10->1<=w->w<=40->dd [.int 2,.str x,.int (w:Int),.str [60]]=.ok (.str (lj w (xx w x)))
 b0:dd [.int 8,.int 0,.int 1,.non]=.ok dG
 b41:dd [.int 8,.int 41,.int 1,.non]=.ok dG
 b10:dd [.int 8,.int 1,.int 0,.non]=.ok dG
 b13:dd [.int 8,.int 1,.int 13,.non]=.ok dG
section
variable{m:Nat}{C6:Addr}
def N2:∀{m:Nat},m<6->eS (.tup [.tup [.str [97,98],.str [60]]]) (.int ((m+1:Nat):Int))=some (jU m)
 | 0,_=>rfl|1,_=>rfl|2,_=>rfl|3,_=>rfl|4,_=>rfl|5,_=>rfl
def NC:∀{m:Nat},m<6->eS (.tup [.str [120]]) (.int ((m+1:Nat):Int))=some (qW m)
 | 0,_=>rfl|1,_=>rfl|2,_=>rfl|3,_=>rfl|4,_=>rfl|5,_=>rfl
def KT{i:Int}:∀{m:Nat},m<6->eS (.lst false [.int i]) (.int ((m+1:Nat):Int))=some (pB m i)
 | 0,_=>rfl|1,_=>rfl|2,_=>rfl|3,_=>rfl|4,_=>rfl|5,_=>rfl
def Qq:∀{m:Nat},m<6->Fp [jU m,.lst false (List.replicate 9 (qW m))]=.ok (.bl true)
 | 0,_=>rfl|1,_=>rfl|2,_=>rfl|3,_=>rfl|4,_=>rfl|5,_=>rfl
def M8:∀{m:Nat},m<6->Fp [jU m,.lst false (List.replicate 10 (qW m))]=.ok (.bl false)
 | 0,_=>rfl|1,_=>rfl|2,_=>rfl|3,_=>rfl|4,_=>rfl|5,_=>rfl
def Nc:∀{m:Nat},m<6->∃L:List D,tbF C6 C7 C3 C1 [jU m,.lst false (List.replicate 9 (qW m)),.int 40]=.ok (.lst false L)/\iB [.lst false L]=some (.int 11)
 | 0,_=>⟨_,rfl,rfl⟩|1,_=>⟨_,rfl,rfl⟩|2,_=>⟨_,rfl,rfl⟩|3,_=>⟨_,rfl,rfl⟩|4,_=>⟨_,rfl,rfl⟩|5,_=>⟨_,rfl,rfl⟩
def PK:∀{m:Nat},m<6->neF (.lst false [pB m 1,dG,pB m 2,dG]) (.lst false [pB m 1,dG,pB m 2,dG])=some (.bl false)
 | 0,_=>rfl|1,_=>rfl|2,_=>rfl|3,_=>rfl|4,_=>rfl|5,_=>rfl
def Qj:∀{m:Nat},m<6->wdF C6 C3 [jU m,.lst false [qW m],.int (2 * ((m+1:Nat):Int) - 1)]=.ok (pB m 1)
 | 0,_=>rfl|1,_=>rfl|2,_=>rfl|3,_=>rfl|4,_=>rfl|5,_=>rfl
def PJ:∀{m:Nat},m<6->wdF C6 C3 [jU m,.lst false [qW m],.int (2 * ((m+1:Nat):Int) - 2)]=.ex C3
 | 0,_=>rfl|1,_=>rfl|2,_=>rfl|3,_=>rfl|4,_=>rfl|5,_=>rfl
def Nb:∀{m:Nat},m<6->wdF C6 C3 [jU m,.lst false [qW m],.int 40]=.ok (pB m 2)
 | 0,_=>rfl|1,_=>rfl|2,_=>rfl|3,_=>rfl|4,_=>rfl|5,_=>rfl
def Oo:∀{m:Nat},m<6->wdF C6 C3 [jU m,.lst false [qW m],.int 41]=.ex C3
 | 0,_=>rfl|1,_=>rfl|2,_=>rfl|3,_=>rfl|4,_=>rfl|5,_=>rfl
def Ob:soF C1 C3 [.lst false [.int 99,.int 99],.int 999]=.ok (.lst false [.int 99,.int 99]):=rfl
def Pv:soF C1 C3 [.lst false [.int 99],.int 0]=.ok (.lst false [.int 0]):=rfl
def Nm:∃d,fb C3 [.int 40,.int 12]=.ok d/\ixD d (.int 0)=some (.int 40):=⟨_,rfl,rfl⟩
end
section
variable{dd:List D->R D}{C6:Addr}{ns:List Int}{ρ1:Ev}{ga:Ev->R D}{v w':D}{g:Ev->O}
def FX(h:gl ρ=.ok ds):Aa i gl ρ=.nx (ρ.set i (some (.own ds))):=by rw[LM,h];rfl
def Ge(h:frz i ρ=ρ1):yW i g ρ=g ρ1:=by rw[JL,h]
def Gk(h:gl ρ=.ok ds)(hl:ds.length<=1000):aB mkT gl ρ=.ok (.tup ds):=by rw[we,h,R.ok_bind,m_t hl]
def JD(h:ga ρ=.ok v)(h2:asg v ρ=.ok ρ1):MI asg ga ρ=.nx ρ1:=by rw[J3,h,R.ok_out,h2];rfl
def LV{es:List D}(h0:ownAt ρ i=.ok ds)(h:ga ρ=.ok (.lst false es))(hl:ds.length+es.length<=1000):Jc i ga ρ=.nx (ρ.set i (some (.own (ds++es)))):=by rw[JS,h0,R.ok_out,h,R.ok_out,asl,R.ok_out,if_pos (xS hl (by decide))]
def jZ{y:D}(ha:ga ρ=.ok v)(hb:gb ρ=.ok w')(h:F [v,w']=.ok y):aG 2 F (ac ga (ac gb λ_=>.ok [])) ρ=.ok y:=by rw[CH,ha,R.ok_bind,hb,R.ok_bind,h]
def EL{tl:Ev}{vs:List D}(hi:gi ρ=.ok ds)(hx:lR ix ρ=none::tl)(h:Ats ge tl ds vs)(hl:vs.length<=1000):dD gi ix (λ_=>R.ok true) ge ρ=.ok vs:=by rw[BC,hi,R.ok_bind,hx,tw none h,R.ok_bind,if_pos (xS hl (by decide))]
def Gx(h:Cols dd){m:Nat}(hm:m<6)(k:Ev->O){N:Option Sl}:∃y4,aE dq (aE (dw Fp) (aE (dl Fp) (yW 4 (aE dj (aE (dk dd) (yW 4 (aE (di (tbF C6 C7 C3 C1)) k))))))) [N,some (.val (.int ((m+1:Nat):Int))),none,none,none,none,none,none]=k [N,some (.val (.int ((m+1:Nat):Int))),some (.val (jU m)),some (.val (qW m)),y4,none,none,none]:=by
 obtain⟨L,t1,t2⟩:=Nc (C6:=C6) (C7:=C7) (C3:=C3) (C1:=C1) hm;have lc:(List.replicate (m+1) (D.tup [.str [97,98],.str [60]])).length<=1000:=by rw[qP];omega
 unfold dq dw dl dj dk di;rw[bC (JD (Gk (cI (dE rfl rfl (N2 hm)) (cI (dE rfl rfl (NC hm)) rfl)) (by simp)) (ρ1:=[N,some (.val (.int ((m+1:Nat):Int))),some (.val (jU m)),some (.val (qW m)),none,none,none,none]) rfl)];rw[bC (FX (ds:=[.bl true,.bl false]) (by rw[Iv,cI (jZ rfl (dE (w:=.int 9) (jV (ds:=[qW m]) rfl (by simp)) rfl rfl) (Qq hm)) (cI (jZ rfl (dE (w:=.int 10) (jV (ds:=[qW m]) rfl (by simp)) rfl rfl) (M8 hm)) rfl)];rfl))];rw[bC (LV (ds:=[.bl true,.bl false]) rfl (jV (ds:=[.bl false,.bl false]) rfl (by decide)) (by decide))];rw[Ge (ρ1:=[N,some (.val (.int ((m+1:Nat):Int))),some (.val (jU m)),some (.val (qW m)),some (.val (.lst false [.bl true,.bl false,.bl false,.bl false])),none,none,none]) rfl];rw[bC (wy (uC rfl rfl rfl))];rw[bC (FX (EL (yH (ds:=[.int (2 * ((m+1:Nat):Int) - 1),.int (2 * ((m+1:Nat):Int) - 2),.int 40,.int 41]) (cI (dE (dE rfl rfl (Au (by decide))) rfl rfl) (cI (dE (dE rfl rfl (Au (by decide))) rfl rfl) rfl)) (by simp)) rfl (.cons (h.w1 hm) (.cons (h.w2 hm) (.cons (h.w3 hm) (.cons (h.w4 hm) .nil)))) (by simp)))];rw[Ge (ρ1:=[N,some (.val (.int ((m+1:Nat):Int))),some (.val (jU m)),some (.val (qW m)),some (.val (.lst false [pB m 1,dG,pB m 2,dG])),none,none,none]) rfl];rw[bC (wy (zF (uC rfl (jV (cI (dE (jV (ds:=[.int 1]) rfl (by decide)) rfl (KT hm)) (cI (v:=dG) rfl (cI (dE (jV (ds:=[.int 2]) rfl (by decide)) rfl (KT hm)) (cI (v:=dG) rfl rfl)))) (by simp)) (PK hm)) (uC (xE (cI (ja rfl (dE (w:=.int 9) (jV (ds:=[qW m]) rfl (by simp)) rfl rfl) rfl t1) rfl) t2) rfl rfl)))];exact⟨_,rfl⟩
variable{x:List Nat}{N M c r x4 x6 x7:Option Sl}
def Oa(h:Cols dd)(hp:plain x=true)(hl:x.length<=10){w:Nat}(h1:1<=w)(h2:w<=40):cy dd [N,M,c,r,x4,some (.val (.str x)),some (.val (.int (w:Int))),x7]=.nx [N,M,c,r,x4,some (.val (.str x)),some (.val (.int (w:Int))),some (.val (.str (xx w x)))]:=by
 have lb:=gq;have lw:=D1 h1 x;have e:gIf (gB2 leD (gOf iB (ac (rvz 5) nlz)) (rvz 6)) (rvz 5) (g2 fq (gSl (rvz 5) (λ_=>R.ok none) (tz (g2 lY (rvz 6) (ciz 1)))) (csz [126])) [N,M,c,r,x4,some (.val (.str x)),some (.val (.int (w:Int))),x7]=.ok (.str (xx w x)):=by
  have e0:gB2 leD (gOf iB (ac (rvz 5) nlz)) (rvz 6) [N,M,c,r,x4,some (.val (.str x)),some (.val (.int (w:Int))),x7]=.ok (decide ((x.length:Int)<=(w:Int))):=rfl;rw[Kn,e0,R.ok_bind];unfold xx;by_cases q:x.length<=w;·rw[if_pos (by rw[lT];omega),if_pos q];rfl
  ·rw[if_neg (by rw[lT];omega),if_neg q];refine dE (v:=.str (x.take (w - 1))) ?_ rfl (rZ (by rw[l6];simp only[wV,i9];omega));show R.ok (D.str (rC x none (some ((w:Int) - 1))))=_
   congr 2
   unfold rC;rw[show((w:Int) - 1)=((w - 1:Nat):Int) by omega];simp only[HT.sIx_none,HT.sIx_nat,j7,Nat.sub_zero];rw[Nat.min_eq_left (by omega)]
 unfold cy;rw[bC (gJ e)];rw[bC (wy (zF (uC (h.cu hp hl h1 h2) rfl (by rw[MK];simp)) (uC (h.ft hp hl h1 h2) (dE rfl (dE rfl (dE rfl (xE (ds:=[.str (xx w x)]) rfl rfl) rfl) (AL (by omega) (by omega))) (rZ (by rw[qP];omega))) (by rw[MK,show((w:Int) - ((xx w x).length:Int)).toNat=w - (xx w x).length by omega];unfold lj;simp))))];rfl
theorem B3(h:Cols dd)(hp:plain x=true)(hl:x.length<=10):∀(L:List Nat),(∀w∈L,1<=w/\w<=40)->∀x6 x7,∃y6 y7,iC (ur 6) (cy dd) (L.map λ(w:Nat)=>D.int (w:Int)) [N,M,c,r,x4,some (.val (.str x)),x6,x7]=.nx [N,M,c,r,x4,some (.val (.str x)),y6,y7]
 | [],_,x6,x7=>⟨_,_,rfl⟩
 |w::L,hL,x6,x7=>by obtain⟨h1,h2⟩:=hL w (uS ..);show ∃y6 y7,iC _ _ (D.int (w:Int)::L.map λ(w:Nat)=>D.int (w:Int)) _=_;rw[nz rfl (Oa h hp hl h1 h2)];exact B3 h hp hl L (λw m=>hL w (v9 _ m)) _ _
def zI(dd:List D->R D)(tb bk so:List D->R D):List D->R D:=λds=>aD (bL nv Fp dd tb bk so (aw 8 ds))
def Kq:∀{q:Nat},q<10->∃x:List Nat,plain x=true/\x.length<=10/\rC [97,98,99,100,101,102,103,104,105,106] none (some ((1+q:Nat):Int))=x
 | 0,_=>⟨_,rfl,by decide,rfl⟩|1,_=>⟨_,rfl,by decide,rfl⟩|2,_=>⟨_,rfl,by decide,rfl⟩|3,_=>⟨_,rfl,by decide,rfl⟩|4,_=>⟨_,rfl,by decide,rfl⟩|5,_=>⟨_,rfl,by decide,rfl⟩|6,_=>⟨_,rfl,by decide,rfl⟩|7,_=>⟨_,rfl,by decide,rfl⟩|8,_=>⟨_,rfl,by decide,rfl⟩|9,_=>⟨_,rfl,by decide,rfl⟩
def Gp(h:Cols dd):zI dd (tbF C6 C7 C3 C1) (fb C3) (soF C1 C3) [.lst fz (ns.map .int)]=.ok (.bl true):=by
 show aD (bL nv Fp dd (tbF C6 C7 C3 C1) (fb C3) (soF C1 C3) [some (.val (.lst fz (ns.map .int))),none,none,none,none,none,none,none])=_;obtain⟨p1,p2⟩:=gz ns 10 (m:=6) (by decide);have hp:=iK (fz:=fz) (ns:=ns) (n:=10) (m:=6) (by decide);obtain⟨p,e⟩:∃p:Nat,zZ ns 10 6=(p:Int):=⟨_,(pz p1).symm⟩
 rw[e]at hp p2;obtain⟨q1,q2⟩:=gz ns 11 (m:=10) (by decide);have hq:=iK (fz:=fz) (ns:=ns) (n:=11) (m:=10) (by decide);obtain⟨q,e⟩:∃p:Nat,zZ ns 11 10=(p:Int):=⟨_,(pz q1).symm⟩
 rw[e]at hq q2;obtain⟨x,xp,xl,ex⟩:=Kq (q:=q) (by omega);obtain⟨b,hb,b4⟩:=Nm (C3:=C3);unfold bL eT;rw[bC (gJ (v:=.int ((p+1:Nat):Int)) (dE rfl (ja rfl rfl rfl hp) (by rw[Af,Int.add_comm];rfl)))];obtain⟨y4,e4⟩:=Gx (C6:=C6) (C7:=C7) (C3:=C3) (C1:=C1) (N:=some (.val (.lst fz (ns.map .int)))) h (m:=p) (by omega) (aE (dm nv) (aE (cV dd) (aE (cR dd) (aE (cU dd (fb C3)) (aE (cS (soF C1 C3)) oNx)))));refine(t6 aD e4).trans ?_;unfold dm cV cR cU cS;rw[bC (gJ (v:=.str x) (by rw[OM,R.ok_bind,R.ok_bind,FA,dE (x:=.int ((1+q:Nat):Int)) rfl (ja rfl rfl rfl hq) (by rw[Af];simp)];rw[<- ex];rfl))];obtain⟨y6,y7,el⟩:=B3 h xp xl [1,2,3,4,5,6,7,8,9,10,11] (by decide) (N:=some (.val (.lst fz (ns.map .int)))) (M:=some (.val (.int ((p+1:Nat):Int)))) (c:=some (.val (jU p))) (r:=some (.val (qW p))) (x4:=y4) none none;refine(t6 aD (bC ((Fg (ds:=([1,2,3,4,5,6,7,8,9,10,11]:List Nat).map λ(w:Nat)=>D.int (w:Int)) rfl).trans el))).trans ?_;rw[bC (gJ (v:=.lst false [dG,dG,dG,dG]) (dE (bf (ds:=[.int 0,.int 41]) rfl rfl (.cons (h.c0 xp xl) (.cons (h.c41 xp xl) .nil)) (by decide)) (bf (ds:=[.int 0,.int 41]) rfl rfl (.cons h.b0 (.cons h.b41 .nil)) (by decide)) rfl))];rw[bC (wy (zF (uC (dE rfl (bf (ds:=[.int 0,.int 13]) rfl rfl (.cons h.b10 (.cons h.b13 .nil)) (by decide)) rfl) rfl rfl) (uC (dE (jZ rfl rfl hb) rfl b4) rfl rfl)))];rw[sk,Ao (FI (dE (jZ (jV (ds:=[.int 99,.int 99]) rfl (by decide)) rfl Ob) rfl rfl) (dE (jZ (jV (ds:=[.int 99]) rfl (by decide)) rfl Pv) rfl rfl))];rfl
end
def zn:D:=match fb 0 [.int 20,.int 12]with
 |.ok d=>d
 |_=>.non
noncomputable def bdS(a b:D)(c:List D)(kds:List (Int×D))(n:Int):List (Nat×Fd):=[(2,.val a),(3,.val b),(4,.own c),(5,.dic kds),(6,.val (.int n))]
def zP:MF
 | [],[.int i]=>if i=20 then .ok .non (bdS (.int 20) zn [] [] 0)else .no
 |_,_=>.no
noncomputable def bdD:List (Nat×Fd)->Option (D×D×List D×List (Int×D)×Int)
 | [(2,.val a),(3,.val b),(4,.own c),(5,.dic kds),(6,.val (.int n))]=>some (a,b,c,kds,n)
 |_=>none
def Ka{fs:List (Nat×Fd)}{a b:D}{c:List D}{n:Int}(h:bdD fs=some (a,b,c,kds,n)):fs=bdS a b c kds n:=by
 unfold bdD at h;split at h;·cases h;rfl
 ·cases h
noncomputable def GJ:MF:=λfs ds=>match bdD fs,ds with
 |some (a,b,c,kds,n),[.str x,.int t]=>if x=[120]/\1<=t/\t<=1000000000/\kds.length<9/\(kds.any λx=>x.1==n)=false then .ok (.int n) (bdS a b c (kds++[(n,.tup [.int n,.str x,.int 0,.int t])]) (n+1))else .no
 |_,_=>.no
section
variable{p:Addr}{fs:List (Nat×Fd)}{ga:Ev->R D}{v w:D}
def L6(h:ρ[i]?=some (some (.obj m C p fs))):Jb C ρ i=.ok fs:=by unfold Jb;rw[h];exact if_pos rfl
def yV(h:ρ[i]?=some (some (.obj true C p fs))):CP C ρ i=.ok (p,fs):=by unfold CP;rw[h];exact if_pos rfl
def wG(h:ρ[i]?=some (some (.obj true C p fs)))(h2:ga ρ=.ok d)(hl:fs.length<900):zb C i k ga ρ=.nx (ρ.set i (some (.obj true C p (ml k (.val d) fs)))):=by unfold zb;rw[yV h,R.ok_out,h2,R.ok_out,if_pos hl]
def HJ(h:ρ[i]?=some (some (.obj true C p fs)))(h2:gl ρ=.ok ds)(hl:fs.length<900):Ez C i k gl ρ=.nx (ρ.set i (some (.obj true C p (ml k (.own ds) fs)))):=by unfold Ez;rw[yV h,R.ok_out,h2,R.ok_out,if_pos hl]
def Hh(h:ρ[i]?=some (some (.obj true C p fs)))(hl:fs.length<900):E7 C i k ρ=.nx (ρ.set i (some (.obj true C p (ml k (.dic []) fs)))):=by unfold E7;rw[yV h,R.ok_out,if_pos hl]
def B4(h:ga ρ=.ok v):jK ga ρ=.nx ρ:=by rw[FZ,h];rfl
def nR(ha:ga ρ=.ok v)(h:F [v]=.ok w):aG 1 F (ac ga λ_=>.ok []) ρ=.ok w:=by rw[Co,ha,R.ok_bind,h]
def NF:fb C3 [.int 20,.int 12]=.ok zn:=rfl
def Ck{g:Ev->O}{F:MF}(h:∀p fs ds,F fs ds=.no\/∃d fs',F fs ds=.ok d fs'/\∃ρ',ρ'[0]?=some (some (.obj true C p fs'))/\(g (hU true C p fs n ds)=.re d ρ'\/(g (hU true C p fs n ds)=.nx ρ'/\d=.non))):rE C g n F:=by
 intro p fs ds;rcases h p fs ds with e|⟨d,fs',e,r⟩;·rw[e];trivial
 ·rw[e];exact r
def IR:rE C (fG C ki (fb C3) C3) 2 zP:=by
 refine Ck λp fs ds=>?_;unfold zP;split
 ·rename_i i;by_cases h:i=20;·subst h;refine .inr ⟨.non,bdS (.int 20) zn [] [] 0,if_pos rfl,[some (.obj true C p (bdS (.int 20) zn [] [] 0)),some (.val (.int 20))],rfl,.inr ⟨?_,rfl⟩⟩;show fG C ki (fb C3) C3 [some (.obj true C p []),some (.val (.int 20))]=_;unfold fG kX lz lL lI lK kU;rw[bC (wy rfl),bC (wG rfl rfl (by decide)),bC (wG rfl (jZ rfl rfl NF) (by decide)),bC (HJ rfl rfl (by decide)),bC (Hh rfl (by decide)),bC (wG rfl rfl (by decide))];rfl
  ·exact .inl (if_neg h)
 ·exact .inl rfl
def Qs(h:n<9):geD (.int (n:Int)) (.int 9)=some (.bl false):=by show some (D.bl (decide ((9:Int)<=(n:Int))))=_;rw[show decide ((9:Int)<=(n:Int))=false by rw[ZG];omega]
def EH{n:Int}(h:ρ[i]?=some (some (.obj true C p fs)))(h1:fs.lookup k=some (.dic kds))(h2:ga ρ=.ok d)(h3:gk ρ=.ok (.int n))(hl:kds.length<900/\(kds.any λx=>x.1==n)=false):yq C i k gk ga ρ=.nx (ρ.set i (some (.obj true C p (ml k (.dic (kds++[(n,d)])) fs)))):=by
 have e:Je fs k=.ok kds:=by unfold Je;rw[h1]
 unfold yq;rw[yV h,R.ok_out,e,R.ok_out,h2,jt,R.ok_out,h3,jt,R.ok_out];exact if_pos hl
def Ig{n m:Int}(h:ρ[i]?=some (some (.obj true C p fs)))(h1:fs.lookup k=some (.val (.int n)))(h2:ga ρ=.ok (.int m))(hl:fs.length<900):Dn C i k ga ρ=.nx (ρ.set i (some (.obj true C p (ml k (.val (.int (n+m))) fs)))):=by
 have e:Jf fs k=.ok (.int n):=by unfold Jf;rw[h1]
 unfold Dn;rw[yV h,R.ok_out,e,R.ok_out,h2,jt,R.ok_out];exact if_pos hl
def KG:rE C (gw C (DJ C7) (bR C1) C3) 4 GJ:=by
 refine Ck λp fs ds=>?_;unfold GJ;split
 ·rename_i a b c kds n x t hb;have:=Ka hb;subst this;by_cases h:x=[120]/\1<=t/\t<=1000000000/\kds.length<9/\(kds.any λx=>x.1==n)=false
  ·obtain⟨rfl,h1,h2,h3,h4⟩:=h;refine .inr ⟨_,_,if_pos ⟨rfl,h1,h2,h3,h4⟩,[some (.obj true C p (bdS a b c (kds++[(n,.tup [.int n,.str [120],.int 0,.int t])]) (n+1))),some (.val (.str [120])),some (.val (.int t)),some (.val (.int n))],rfl,.inl ?_⟩;show gw C (DJ C7) (bR C1) C3 [some (.obj true C p (bdS a b c kds n)),some (.val (.str [120])),some (.val (.int t)),none]=_;have et:bR C1 [.int t]=.ok .non:=xJ (by rw[nP,uY h1,uY h2];rfl);have e5:yJ C 0 5 [some (.obj true C p (bdS a b c kds n)),some (.val (.str [120])),some (.val (.int t)),none]=.ok (.int (kds.length:Int)):=by unfold yJ;rw[L6 (m:=true) (p:=p) (fs:=bdS a b c kds n) rfl,R.ok_bind];rfl
   have e6:ED C 0 6 [some (.obj true C p (bdS a b c kds n)),some (.val (.str [120])),some (.val (.int t)),none]=.ok (.int n):=by unfold ED;rw[L6 (m:=true) (p:=p) (fs:=bdS a b c kds n) rfl,R.ok_bind];rfl
   unfold gw nc mY mO mH mQ mW mI;rw[bC (B4 (nR (v:=.str [120]) (w:=.non) rfl rfl)),bC (B4 (nR rfl et))];rw[bC (wy (by rw[On,dE e5 rfl (Qs h3)];rfl)),bC (gJ e6)];rw[bC (EH rfl rfl (Gk (ds:=[.int n,.str [120],.int 0,.int t]) rfl (by simp)) rfl ⟨by omega,h4⟩)];rw[bC (Ig rfl rfl (m:=1) rfl (by show 5<900;decide))];rfl
  ·exact .inl (if_neg h)
 ·exact .inl rfl
end
def Nk(x:List Nat):D:=.tup [.str [115,97,121],.str x]
def l4(a:Nat):List D:=([List.replicate a 97,List.replicate (40 - a) 98].filter λx=>x != []).map Nk
def v6(a:Nat):D:=match eP 0 [.lst false (l4 a++[Nk [99]])]with
 |.ok d=>d
 |_=>.non
structure Ords(dd:List D->R D):Prop where
 x:∀s∈([[103,111,32,49,10],[103,111,32,49,32,49,48,48,10],[103,111,32,49,48,48,32,49,10],[103,111,32,48,49,32,49,10],[103,111,32,49,50,32,49,10],[103,111,32,49,32,52,49,10],[103,111,32,49,32,49,32,49,10],[115,97,121,32,10]]:List (List Nat)),dd [.int 11,.str s,.non,.non]=.ok rH
 o:dd [.int 11,.str [103,111,32,49,49,32,52,48,10],.non,.non]=.ok (.lst false [.tup [.str [103,111],.int 11,.int 40]])
section
variable{N:Option Sl}
def K4(k:Ev->O):∀{a:Nat},a<41->aE yc (aE yM (aE yg (yW 4 (aE (yy (eP C2)) (aE (yC (eP C2)) k))))) [N,some (.val (.int (a:Int))),none,none,none,none,none,none,none]=k [N,some (.val (.int (a:Int))),some (.val (.str (List.replicate a 97))),some (.val (.str (List.replicate (40 - a) 98))),some (.val (.lst false (l4 a))),some (.val (.lst false [Nk (List.replicate a 97++List.replicate (40 - a) 98)])),some (.val (v6 a)),none,none]
 | 0,_=>rfl|1,_=>rfl|2,_=>rfl|3,_=>rfl|4,_=>rfl|5,_=>rfl|6,_=>rfl|7,_=>rfl|8,_=>rfl|9,_=>rfl|10,_=>rfl|11,_=>rfl|12,_=>rfl|13,_=>rfl|14,_=>rfl|15,_=>rfl|16,_=>rfl|17,_=>rfl|18,_=>rfl|19,_=>rfl|20,_=>rfl|21,_=>rfl|22,_=>rfl|23,_=>rfl|24,_=>rfl|25,_=>rfl|26,_=>rfl|27,_=>rfl|28,_=>rfl|29,_=>rfl|30,_=>rfl|31,_=>rfl|32,_=>rfl|33,_=>rfl|34,_=>rfl|35,_=>rfl|36,_=>rfl|37,_=>rfl|38,_=>rfl|39,_=>rfl|40,_=>rfl|n+41,h=>absurd h (by omega)
end
noncomputable def FsZ(C1 C2 C3 C6 C7:Addr):Nat->List D->R D
 | 0=>FP C1 C3
 | 1=>fE C1
 | 2=>ftF C7 C3 C1
 | 3=>wdF C6 C3
 | 4=>iJ C1 C7
 | 5=>nQ C1
 | 6=>kP C1
 | 7=>FK C7 C3
 | 8=>fb C3
 | 9=>gF C1
 | 10=>gK C1 C7
 |_=>fM C7 C2
noncomputable def doZ(F0 F1 F2 F3 F4 F5 F6 F7 F8 F9 F10 F11 FW:List D->R D)(rs:List Addr):List D->R D:=λds=>aD (iR F0 F1 F2 F3 F4 F5 F6 F7 F8 F9 F10 F11 FW rs (aw 7 ds))
section
variable{C6:Addr}{FW:List D->R D}
def A5{a b:Int}(h:CM a b):cq C1 [.int a,.int b]=.ex C1:=by
 unfold CM at h;by_cases q:1<=b/\b<=1000000000
 ·refine Ie (xJ (by rw[nP,uY q.1,uY q.2];rfl)) ?_;rw[nP];by_cases z:0<=a;·rw[uY z,vF (show ¬ a<=b by omega)];rfl
  ·rw[vF z];rfl
 ·refine Hz (GI ?_);rw[nP];by_cases z:1<=b;·rw[uY z,vF (show ¬ b<=1000000000 by omega)];rfl
  ·rw[vF z];rfl
def yI{t w:Nat}(h1:1<=t)(h2:t<=1000000000)(h4:3<=w)(h5:w<=40):FP C1 C3 [.int (t:Int),.int (t:Int),.int (w:Int)]=.ok (.str (Mv (w - 2) (w - 2))):=by rw[HV h1 h2 (zE _) h4 h5,Nat.mul_div_cancel_left _ h1]
def DA(m1:C1∈rs)(m7:C7∈rs)(w1:FW [.exc C1]=.ok pU)(w7:FW [.exc C7]=.ok rH):Times (doF (FsZ C1 C2 C3 C6 C7) FW rs):=by refine⟨GF (Ln (C2:=C2) (C3:=C3) (C7:=C7)),MY (J1 (C2:=C2) (C3:=C3)),λs ms=>?_,GF (Ps (C2:=C2) (C3:=C3) (C7:=C7)),GF (PX (C2:=C2) (C3:=C3) (C7:=C7)),GF (P7 (C2:=C2) (C3:=C3) (C7:=C7)),GF (PN (C2:=C2) (C3:=C3) (C7:=C7)),GF (PZ (C2:=C2) (C3:=C3) (C7:=C7)),GF (Qy (C2:=C2) (C3:=C3) (C7:=C7))⟩;simp only[y9,w8,w9]at ms;rcases ms with rfl|rfl|rfl|rfl|rfl|rfl|rfl|rfl|rfl|rfl <;> exact Kt (show gK C1 C7 _=.ex C7 from rfl) m7 w7
def BW(m1:C1∈rs)(m3:C3∈rs)(w1:FW [.exc C1]=.ok pU)(w3:FW [.exc C3]=.ok dG):Counts (doF (FsZ C1 C2 C3 C6 C7) FW rs):=
 ⟨λh1 h2 h3=>P0 (J5 h1 h2 h3),λh=>IE (GC (A5 h)) m1 w1,λh=>N7 (KM (A5 h)) m1 w1,λh=>Nn (LX (A5 h)) m1 w1,
  Jp (show iJ C1 C7 _=.ex C1 from rfl) m1 w1,Jp (show iJ C1 C7 _=.ex C1 from rfl) m1 w1,λh1 h2=>OD (yI (w:=3) h1 h2 (by decide) (by decide)),λh1 h2=>OD (yI (w:=40) h1 h2 (by decide) (by decide)),
  IE (show FP C1 C3 _=.ex C3 from rfl) m3 w3,IE (show FP C1 C3 _=.ex C3 from rfl) m3 w3,
  D7 (show gF C1 _=.ex C1 from rfl) m1 w1,D7 (show gF C1 _=.ex C1 from rfl) m1 w1,D7 (show gF C1 _=.ex C1 from rfl) m1 w1,D7 (show gF C1 _=.ex C1 from rfl) m1 w1,
  Hi (show fE C1 _=.ex C1 from rfl) m1 w1,Hi (show fE C1 _=.ex C1 from rfl) m1 w1,Hi (show fE C1 _=.ex C1 from rfl) m1 w1,O7 (show fE C1 _=.ok .non from rfl)⟩
def GU(m3:C3∈rs)(w3:FW [.exc C3]=.ok dG):Cols (doF (FsZ C1 C2 C3 C6 C7) FW rs):=
 ⟨λh=>O0 (Qj h),λh=>Mm (PJ h) m3 w3,λh=>O0 (Nb h),λh=>Mm (Oo h) m3 w3,
  λhp hl h1 h2=>Qz (Bh hp (by omega) h1 h2),λhp hl=>Mt (ym (sU hp (by omega)) rfl) m3 w3,λhp hl=>Mt (ym (sU hp (by omega)) rfl) m3 w3,λhp hl h1 h2=>Qf (G0 hp (by omega) h1 h2),
  DE (show fb C3 _=.ex C3 from rfl) m3 w3,DE (show fb C3 _=.ex C3 from rfl) m3 w3,DE (show fb C3 _=.ex C3 from rfl) m3 w3,DE (show fb C3 _=.ex C3 from rfl) m3 w3⟩
def GP(m7:C7∈rs)(w7:FW [.exc C7]=.ok rH):Ords (doF (FsZ C1 C2 C3 C6 C7) FW rs):=by refine⟨λs ms=>?_,ML (show fM C7 C2 _=_ from rfl)⟩;simp only[y9,w8,w9]at ms;rcases ms with rfl|rfl|rfl|rfl|rfl|rfl|rfl|rfl <;> exact Md (show fM C7 C2 _=.ex C7 from rfl) m7 w7
end
section
variable{C6 CB:Addr}{dd:List D->R D}
def Jq{g1 g2:Ev->O}{v:D}(h:g1 ρ=.rt v):aE g1 g2 ρ=.rt v:=by rw[sk,h];rfl
def MX{ga:Ev->R D}(h:ga ρ=.ok (.bl true)):gBn (aB gG ga) ρ=.ok false:=by rw[OQ,we,h];rfl
def N9{q:Addr}{F:MF}{fs:List (Nat×Fd)}{rs:List D}{ib:Nat}(h:ρ[ib]?=some (some (.obj true CB q fs)))(hi:gi ρ=.ok items)(hf:uQ F n (λd=>gl [some (.val d),none]) items fs=some rs)(hl:rs.length<=1000)(he:ge (ρ.map λ_=>none)=.ok (.lst false rs))(hq:eqF (.lst false rs) (.lst false rs)=some (.bl true)):xW CB ib n F gi gl ge ρ=.rt (.bl true):=by unfold xW;rw[yV h,R.ok_out,hi,jt,R.ok_out];dsimp only;rw[hf];dsimp only;rw[if_pos hl,he,jt,R.ok_out,hq];rfl
def Eb:uQ GJ 2 (λd=>(ac (csz [120]) (ac (rvz 0) nlz)) [some (.val d),none]) [.int 1,.int 1000000000] (bdS (.int 20) zn [] [] 0)=some [.int 0,.int 1]:=rfl
def IJ(ht:Times dd)(hc:Counts dd)(hk:Cols dd)(ho:Ords dd)(ns:List Int)(fz:Bool)(q:Addr×Unit):aD (uh CB GJ zP (mB dd) (rq dd) (zI dd (tbF C6 C7 C3 C1) (fb C3) (soF C1 C3)) nv (eP C2) dd q (aw 9 [.lst fz (ns.map .int)]))=.ok (.bl true):=by
 obtain⟨p1,p2⟩:=gz ns 20 (m:=41) (by decide);have hp:=iK (fz:=fz) (ns:=ns) (n:=20) (m:=41) (by decide);obtain⟨a,e⟩:∃p:Nat,zZ ns 20 41=(p:Int):=⟨_,(pz p1).symm⟩
 rw[e]at hp p2;have z1:vb (mB dd) (rq dd) (zI dd (tbF C6 C7 C3 C1) (fb C3) (soF C1 C3)) [some (.val (.lst fz (ns.map .int))),none,none,none,none,none,none,none,none]=.nx [some (.val (.lst fz (ns.map .int))),none,none,none,none,none,none,none,none]:=by unfold vb;exact wy (zF (MX (nR rfl (AD hc))) (zF (MX (C4 ht)) (MX (nR rfl (Gp hk)))))
 have z2:wa nv [some (.val (.lst fz (ns.map .int))),none,none,none,none,none,none,none,none]=.nx [some (.val (.lst fz (ns.map .int))),some (.val (.int (a:Int))),none,none,none,none,none,none,none]:=by unfold wa;exact gJ (ja rfl rfl rfl hp)
 have zm:=K4 (C2:=C2) (N:=some (.val (.lst fz (ns.map .int)))) (aE uZ (aE (vh dd) (aE (oV dd) (Ei CB 8 zP 1 (ac (ciz 20) nlz) (EU (sI CB GJ)) q)))) (a:=a) (by omega);show aD (aE (vb (mB dd) (rq dd) (zI dd (tbF C6 C7 C3 C1) (fb C3) (soF C1 C3))) (aE (wa nv) (aE yc (aE yM (aE yg (yW 4 (aE (yy (eP C2)) (aE (yC (eP C2)) (aE uZ (aE (vh dd) (aE (oV dd) (Ei CB 8 zP 1 (ac (ciz 20) nlz) (EU (sI CB GJ)) q))))))))))) [some (.val (.lst fz (ns.map .int))),none,none,none,none,none,none,none,none])=_;rw[bC z1,bC z2,zm];clear zm z1 z2;unfold uZ vh oV sI xh;rw[bC (gJ (v:=.lst false (([[103,111,32,49,10],[103,111,32,49,32,49,48,48,10],[103,111,32,49,48,48,32,49,10],[103,111,32,48,49,32,49,10],[103,111,32,49,50,32,49,10],[103,111,32,49,32,52,49,10],[103,111,32,49,32,49,32,49,10],[115,97,121,32,10]]:List (List Nat)).map D.str)) rfl)];rw[bC (wy (uC (bf rfl rfl (tZ (v:=rH) λd m=>by obtain⟨s,ms,rfl⟩:=o9.1 m;exact ho.x s ms) (by decide)) rfl rfl))];rw[bC (wy (uC ho.o rfl rfl))];refine(t6 aD (Jq (N9 (q:=q.1) (fs:=bdS (.int 20) zn [] [] 0) rfl rfl Eb (by decide) rfl rfl))).trans rfl
end
section
def Am{F0 F1 F2 F3 F4 F5 F6 F7 F8 F9 F10 F11 FW:List D->R D}(nd:[aH,ao,ah,af,aA,aU,am].Nodup):∀ds:List D,ds.length=4->doZ F0 F1 F2 F3 F4 F5 F6 F7 F8 F9 F10 F11 FW rs ds=.no\/aD (iR F0 F1 F2 F3 F4 F5 F6 F7 F8 F9 F10 F11 FW rs (aw 7 ds))=doZ F0 F1 F2 F3 F4 F5 F6 F7 F8 F9 F10 F11 FW rs ds:=λ_ _=>.inr rfl
noncomputable def ddZ(aH ao ah af aA aU am:Addr)(rs:List Addr):List D->R D:=doZ (FP af ah) (fE af) (ftF am ah af) (wdF aA ah) (iJ af am) (nQ af) (kP af) (FK am ah) (fb ah) (gF af) (gK af am) (fM am ao) (zJ ah ao af aA aH am aU rs) rs
def NP(nd:[aH,ao,ah,af,aA,aU,am].Nodup)(ns:List Int)(fz:Bool)(q:Addr×Unit):aD (uh aL GJ zP (mB (ddZ aH ao ah af aA aU am [af,ao,ah,aA,am])) (rq (ddZ aH ao ah af aA aU am [af,ao,ah,aA,am])) (zI (ddZ aH ao ah af aA aU am [af,ao,ah,aA,am]) (tbF aA am ah af) (fb ah) (soF af ah)) nv (eP ao) (ddZ aH ao ah af aA aU am [af,ao,ah,aA,am]) q (aw 9 [.lst fz (ns.map .int)]))=.ok (.bl true):=by have w1:=sh (rs:=[af,ao,ah,aA,am]) nd (by simp);have w3:=wJ (rs:=[af,ao,ah,aA,am]) nd (by simp);have w7:=wM (rs:=[af,ao,ah,aA,am]) nd (by simp);exact IJ (dd:=doF (FsZ af ao ah aA am) _ _) (DA (by simp) (by simp) w1 w7) (BW (by simp) (by simp) w1 w3) (GU (by simp) w3) (GP (by simp) w7) ns fz q
end
end Q90
namespace Q
open PySem PySem.Spec PyProof.Rows L2
def kI(h:us.length=1):∃a,us=[a]:=by
 match us,h with
 | [a],_=>exact⟨a,rfl⟩
def rY(h:us.length=2):∃a b,us=[a,b]:=by
 match us,h with
 | [a,b],_=>exact⟨a,b,rfl⟩
def CS(h:us.length=3):∃a b c,us=[a,b,c]:=by
 match us,h with
 | [a,b,c],_=>exact⟨a,b,c,rfl⟩
def Pb(h:us.length=4):∃a b c d,us=[a,b,c,d]:=by
 match us,h with
 | [a,b,c,d],_=>exact⟨a,b,c,d,rfl⟩
def JB{K:PySem.W.Frag}{hp:Heap}{mg:Str->Option Value}{x:Str}{bm:List Value}{nid:String}(kin:K.In hp)(gl:hp.Ns mainGlobals mg)(e1:PySem.W.nsIn K mainGlobals x=some (some (.ref C)))(e2:PySem.W.excIn K C bm nid=true):OwnCls x C bm nid mg hp:=by
 constructor;·exact wo kin gl e1
 ·unfold PySem.W.excIn at e2;split at e2
  ·rename_i dct kl sls look;split at e2
   ·rename_i C0 more s0 s1 s2 s3 nw s5 hmro hsls;simp only[p6,qb,Bool.not_eq_true']at e2;obtain⟨⟨⟨⟨⟨eC,en⟩,edel⟩,etail⟩,ens⟩,einit⟩:=e2;obtain⟨f1,f2,f3,f4,f5,f6,f7,f8,f9,f10,f11⟩:=kl;dsimp only at hmro edel ens einit;have es:sls = #[s0,s1,s2,s3,some (.builtin nw),s5]:=by obtain⟨ls⟩:=sls;simp only at hsls;rw[hsls]
    subst hmro edel es eC en;exact⟨more,f4,f1,f5,f2,f6,f7,f8,f9,f10,dct,s0,s1,s2,s3,s5,_,kin _ _ look,.of_isNs (PySem.W.isNs_of_in kin ens),PySem.W.nsMap_none_of_in kin ens einit,PySem.W.tail_of_in kin etail⟩
   ·cases e2
  ·cases e2
def uu{K:PySem.W.Frag}{hp:Heap}{mg:Str->Option Value}{x:Str}(kin:K.In hp)(gl:hp.Ns mainGlobals mg)(e1:PySem.W.nsIn K mainGlobals x=some (some (.ref C)))(e2:PySem.W.excIn K C [.type "ValueError",.type "Exception",.type "BaseException",.type "object"] "ValueError.__new__"=true):Ref x C mg hp:=
 ⟨_,_,_,_,JB kin gl e1 e2,PySem.F.excBase_ValueError⟩
theorem vY{K:PySem.W.Frag}{G:Hp}:∀ns:List Int,Reps K G (ns.map V.int) (ns.map D.int)
 | []=>.nil
 |i::ns=>.cons (.int i) (vY ns)
def Ey:List D->R D
 | [.lst _ ds]=>match sy ds with
  |some _=>.ok (.bl true)
  |none=>.no
 |_=>.no
def Qc{l:PySem.W.OpenLaw}{XP:(Str->Option Value)->Heap->Prop}{YP:World->Heap->Prop}{d:DefRec}{K:Params->PySem.W.Frag}{L:Nat}(hL:Room L callerA)(hn:l.most=some 63)(hdf:d.params.defaults=[])(hY:∀(w:World)(h:Heap),YP w h->(K w.params).In h)(F:∀(w:World)(mg:Str->Option Value)(fa:Addr)(h:Heap),(K w.params).In h->h.Ns mainGlobals mg->mg d.name=some (.ref fa)->
 ∃fd:FuncData,(∀(s:Shared)(u:Value),BindsTo s fd ⟨[u],[]⟩ [("_law_script",u)])/\∀base:Heap,(K w.params).In base->base.Ns mainGlobals mg->FnF l.prog w (K w.params) mg base L fa fd ["_law_script"] Ey):
  PySem.W.WalkO q loose XP YP l.row.toRowW d [] (λf vs=>PySem.call f vs):=
 L2.Cp (n:=63) (k:=L) (x:="_law_script") (CX:=λw=>CXo l.prog w) (sp:=λw vs H Q E=>vs.length=1/\spF (K w.params) Ey vs H Q E) hn (by decide) hdf hL hY F
  (λw H a ns hl hO hS=>⟨rfl,H,[.lst true (ns.map .int)],.refl _,.cons (.fls hS (vY ns)) .nil,by
   have e:Ey [.lst true (ns.map .int)]=.ok (.bl true):=by simp only[Ey,uE]
   rw[e];exact λv G' H' u r=>r.bl_inv⟩)
  λw H s e s' z=>by obtain⟨a,C,H',_,_,z⟩:=z;exact z
def bb{K:PySem.W.Frag}{mg:Str->Option Value}{x:Str}{kV doc pm ct:Value}(X:K.In h)(G:h.Ns mainGlobals mg)(a:PySem.W.nsIn K mainGlobals x=some (some (.ref f)):=by k_is)(l:K.lookup f=some ⟨oc,od,.func (PySem.W.fnOf x x (ip st) (cg st) (ar st) .none kV doc pm an cdv ct),osl⟩:=by k_is)(c:PySem.W.codeIn K cdv x=true:=by k_is)(k:PySem.W.keepIn K (.ref f)=true:=by k_is):∃f fd,Fun K x x st f fd/\mg x=some (.ref f):=
 ⟨f,_,AK l c k,wo X G a⟩
def Jm{K:PySem.W.Frag}{mg:Str->Option Value}{x:Str}{its:Array Value}{ls:List (List Nat)}(X:K.In h)(G:h.Ns mainGlobals mg)(e:PySem.W.nsIn K mainGlobals x=some (some (.ref a)))(l:K.lookup a=some ⟨.type "tuple",od,.seq its n,osl⟩)(hz:its.size<=sizeLine)(v:Vals vs its.toList)(r:∀G,Reps K G vs (ls.map .str)):∃a,mg x=some (.ref a)/\KTup K a ls:=
 ⟨a,wo X G e,⟨_,its,n,vs,l,rfl,rfl,hz,v,r⟩⟩
section
variable{K:PySem.W.Frag}{T:Addr}
def EX:PySem.W.kitOne K (.ref C) (.ref C)=some (C==C):=by unfold PySem.W.kitOne;rw[if_pos (by simp)];simp
def ww{t:Value}{b:Bool}{cd:ClassData}(h1:PySem.W.clsIn K T=some cd)(h2:PySem.W.typeIn K (.ref T)=some (.type "type"))(h3:PySem.W.subIn K t (.ref T)=some b):PySem.W.kitCls K t (.ref T)=some b:=by unfold PySem.W.kitCls;dsimp only;rw[if_pos (by rw[h1,h2];simp),h3]
def KH{cd:ClassData}(h1:PySem.W.clsIn K T=some cd)(h2:PySem.W.typeIn K (.ref T)=some (.type "type"))(h3:PySem.W.subIn K (.ref C) (.ref T)=some false)(hne:C≠T):PySem.W.kitOne K (.ref C) (.ref T)=some (C==T):=by unfold PySem.W.kitOne;rw[if_neg (by simp[hne]),ww h1 h2 h3];simp[hne]
def Lp(h3:PySem.W.subIn K (.ref C) (.type "ValueError")=some true):PySem.W.kitOne K (.ref C) (.type "ValueError")=some true:=by unfold PySem.W.kitOne PySem.W.kitCls;rw[if_neg (by simp)];dsimp only;rw[if_pos (by decide +kernel),h3]
def Kh{cd:ClassData}(h0:PySem.W.subIn K (.ref T) (.type "BaseException")=some true)(h1:PySem.W.clsIn K T=some cd)(h2:PySem.W.typeIn K (.ref T)=some (.type "type"))(h3:PySem.W.subIn K (.ref C) (.ref T)=some true):PySem.W.exmOne K (.ref C) (.ref T)=some true:=by unfold PySem.W.exmOne;rw[if_pos (by rw[h0];rfl),ww h1 h2 h3]
end
def vi{K:PySem.W.Frag}{cd:ClassData}(g1:PySem.W.findIn K (.ref C) "__getattribute__"=some (some (.builtin "BaseException.__getattribute__")))(g2:PySem.W.findIn K (.ref C) "__getattr__"=some none)(g3:PySem.W.findIn K (.ref C) "__class__"=some (some (.builtin "object.__class__")))(g4:PySem.W.specialIn K (.builtin "object.__class__") "__get__"=some (some (.builtin "getset_descriptor.__get__")))(g5:PySem.W.takesIn K (.builtin "object.__class__")=some true)(g6:PySem.W.mroIn K C (.type "object")=some true)(g7:PySem.W.subIn K (.ref C) (.type "BaseException")=some true)(g8:PySem.W.clsIn K C=some cd):ExcCls K C:=⟨g1,g2,g3,g4,g5,g6,g7,by rw[g8];rfl⟩
noncomputable def TsOk(K:PySem.W.Frag):List (Str×Addr)->Prop
 | []=>True
 |t::ts=>PySem.W.nsIn K mainGlobals t.1=some (some (.ref t.2))/\(∃q,PySem.W.clsIn K t.2=some q)/\PySem.W.typeIn K (.ref t.2)=some (.type "type")/\TsOk K ts
noncomputable def SubOk(K:PySem.W.Frag)(r:Addr):List (Str×Addr)->Prop
 | []=>True
 |t::ts=>(r=t.2\/PySem.W.subIn K (.ref r) (.ref t.2)=some false)/\SubOk K r ts
noncomputable def RsOk(K:PySem.W.Frag)(L:Addr)(ts:List (Str×Addr)):List Addr->Prop
 | []=>True
 |r::rs=>ExcCls K r/\SubOk K r ts/\PySem.W.subIn K (.ref r) (.type "ValueError")=some true/\PySem.W.subIn K (.ref r) (.ref L)=some true/\RsOk K L ts rs
section
variable{K:PySem.W.Frag}
theorem TsOk.at:∀{ts:List (Str×Addr)},TsOk K ts->∀t∈ts,PySem.W.nsIn K mainGlobals t.1=some (some (.ref t.2))/\(∃q,PySem.W.clsIn K t.2=some q)/\PySem.W.typeIn K (.ref t.2)=some (.type "type")
 |_::_,⟨a,b,c,d⟩,t,h=>by
  rcases y9.1 h with rfl|h;·exact⟨a,b,c⟩
  ·exact TsOk.at d t h
theorem SubOk.at{r:Addr}:∀{ts:List (Str×Addr)},SubOk K r ts->∀t∈ts,r=t.2\/PySem.W.subIn K (.ref r) (.ref t.2)=some false
 |_::_,⟨a,d⟩,t,h=>by
  rcases y9.1 h with rfl|h;·exact a
  ·exact SubOk.at d t h
theorem RsOk.at:∀{rs:List Addr},RsOk K L ts rs->∀r∈rs,ExcCls K r/\SubOk K r ts/\PySem.W.subIn K (.ref r) (.type "ValueError")=some true/\PySem.W.subIn K (.ref r) (.ref L)=some true
 |_::_,⟨a,b,c,e,d⟩,t,h=>by
  rcases y9.1 h with rfl|h;·exact⟨a,b,c,e⟩
  ·exact RsOk.at d t h
def HK{mg:Str->Option Value}{cd:ClassData}(X:K.In h)(G:h.Ns mainGlobals mg)(nL:PySem.W.nsIn K mainGlobals "LineError"=some (some (.ref L)))(h1:TsOk K ts)(h2:RsOk K L ts rs)(tL:PySem.W.clsIn K L=some cd)(yL:PySem.W.typeIn K (.ref L)=some (.type "type"))(lb:PySem.W.subIn K (.ref L) (.type "BaseException")=some true):Errs K mg rs ts:=by
 refine⟨λt ht=>wo X G (h1.at t ht).1,λr hr=>(h2.at r hr).1,λr hr t ht=>?_,λr hr=>Lp (h2.at r hr).2.2.1,⟨L,wo X G nL,λr hr=>Kh lb tL yL (h2.at r hr).2.2.2⟩⟩;obtain⟨_,⟨q,c⟩,y⟩:=h1.at t ht;by_cases e:r=t.2;·rw[<- e];exact EX
 ·rcases (h2.at r hr).2.1.at t ht with z|z;·exact absurd z e
  ·exact KH c y z e
end
def IU{K:PySem.W.Frag}{x:Str}{kV doc pm ct:Value}(a:PySem.W.findIn K (.ref C) x=some (some (.ref f)))(i:PySem.W.isFn K (.ref f)=true)(l:K.lookup f=some ⟨oc,od,.func (PySem.W.fnOf x qual (ip st) (cg st) (ar st) .none kV doc pm an cdv ct),osl⟩)(c:PySem.W.codeIn K cdv qual=true)(k:PySem.W.keepIn K (.ref f)=true):∃f fd,Fun K x qual st f fd/\Meth K C x f:=
 ⟨f,_,AK l c k,⟨a,i,k⟩⟩
def HE{K:PySem.W.Frag}{kV doc pm ct:Value}(a:PySem.W.findIn K (.ref C) "__init__"=some (some (.ref f)))(i:PySem.W.isFn K (.ref f)=true)(l:K.lookup f=some ⟨oc,od,.func (PySem.W.fnOf "__init__" qual (ip st) (cg st) (ar st) .none kV doc pm an cdv ct),osl⟩)(c:PySem.W.codeIn K cdv qual=true)(k:PySem.W.keepIn K (.ref f)=true)(mk:PySem.W.makesIn K C=true)(kc:PySem.W.keepIn K (.ref C)=true):
  ∃f fd,Fun K "__init__" qual st f fd/\Mk K C f:=⟨f,_,AK l c k,⟨mk,a,i,kc⟩⟩
def LU{K:PySem.W.Frag}(ne:C≠DC)(pg:PySem.W.plainGet K C Str.empty=true)(hd:PySem.W.hasDictIn K C=true)(po:PySem.W.plainOver K C=true)(sa:PySem.W.findIn K (.ref C) "__setattr__"=some (some (.builtin "object.__setattr__"))):CF K C []:=
 ⟨⟨pg,hd,po,sa⟩,ne,λk hk=>by simp at hk⟩
def pN{K:PySem.W.Frag}{ks:List Nat}{x:Str}(k:Nat)(h:CF K C ks)(hk:k<fnames.length)(e:eD k=x)(n:PySem.W.findIn K (.ref C) x=some none):CF K C (k::ks):=
 ⟨h.cl,h.ne,λj hj=>by
  rcases y9.1 hj with rfl|hj;·exact⟨hk,by unfold NoAttr;rw[e];exact n⟩
  ·exact h.na j hj⟩
section
variable{w:World}{K:PySem.W.Frag}{mg:Str->Option Value}{base:Heap}{x:Str}{G:MF}
def GH(F:Fun K x qual st f fd)(m:Meth K C x f)(ok:FnM P w K mg base k f fd ps C G)(h:∀(kV doc pm:Value)(an:Option Addr)(cdv ct:Value)(us:List Value),us.length=ps.length->bindArgs (PySem.W.fnOf x qual (ip st) (cg st) (ar st) .none kV doc pm an cdv ct) ⟨us,[]⟩=pure (ps.zip us))(e:ps.length=n+1):MCallee P w K mg base C x k n G:=
 ⟨⟨f,fd,ps,ok,m,F.binds h,e⟩⟩
def mkc{cn:Str}(F:Fun K x qual st f fd)(m:Mk K C f)(hc:mg cn=some (.ref C))(ne:C≠DC)(ok:FnM P w K mg base k f fd ps C G)(h:∀(kV doc pm:Value)(an:Option Addr)(cdv ct:Value)(us:List Value),us.length=ps.length->bindArgs (PySem.W.fnOf x qual (ip st) (cg st) (ar st) .none kV doc pm an cdv ct) ⟨us,[]⟩=pure (ps.zip us))(e:ps.length=n+1):MkC P w K mg base C cn k n G:=
 ⟨⟨f,fd,ps,ok,m,hc,F.binds h,e⟩,ne⟩
def Eu{cn:Str}(c:MkC P w K mg base C cn k n G)(k':Nat)(h:k<=k':=by decide):MkC P w K mg base C cn k' n G:=by obtain⟨f,fd,ps,M,hm,hg,hb,e⟩:=c.ex;exact⟨⟨f,fd,ps,{ M with run:=λA outer s H args us vs Q E hr=>M.run A outer s H args us vs Q E (hr.mono h) },hm,hg,hb,e⟩,c.ne⟩
end
def Gn{α:Type}{g:α->List D->R D}(h:∀(ns:List Int)(fz:Bool)(q:α),g q [.lst fz (ns.map .int)]=.ok (.bl true)):∀ds:List D,ds.length=1->Ey ds=.no\/∀q,g q ds=Ey ds:=by
 intro ds hl
 match ds,hl with
 | [d],_=>
  cases d <;> first|exact Or.inl rfl|skip
  rename_i fz ds hl;cases hi:sy ds with
  |none=>exact Or.inl (by simp only[Ey,hi])
  |some ns=>have e:=yv hi;subst e;refine Or.inr λq=>?_;rw[h ns fz q];simp only[Ey,hi]
end Q
namespace G90
open PySem PySem.Spec PyProof.Rows L2 Q Q50 Q90
local macro_rules | `(tactic| walk_at "s") => `(tactic| exact⟨rfl,rfl,rfl,by decide +kernel,rfl,by decide +kernel,by decide +kernel⟩)
local macro_rules | `(tactic| walk_at "1") => `(tactic| (intro _ _ _ _ _ _ us hl;obtain⟨a,z⟩:=kI hl;subst z;rfl))
local macro_rules | `(tactic| walk_at "2") => `(tactic| (intro _ _ _ _ _ _ us hl;obtain⟨a,b,z⟩:=rY hl;subst z;rfl))
local macro_rules | `(tactic| walk_at "3") => `(tactic| (intro _ _ _ _ _ _ us hl;obtain⟨a,b,c,z⟩:=CS hl;subst z;rfl))
local macro_rules | `(tactic| walk_at "4") => `(tactic| (intro _ _ _ _ _ _ us hl;obtain⟨a,b,c,d,z⟩:=Pb hl;subst z;rfl))
noncomputable abbrev top(i:Nat):Stmt:=PySem.Challenge.pw_screenlines_k90_whole_bounds.main.body.getD i (.Pass ⟨0,0,0,0⟩)
abbrev FUz(K:PySem.W.Frag)(n:Str)(i:Nat):=Fun K n n (top i)
section
variable{w:World}{K:PySem.W.Frag}{mg:Str->Option Value}{base:Heap}
def xH:FnScope ["_law_script","_law_k"] ["_law_script","_law_k"] (ar (top 98)):=by walk_at "s"
def wB:FnScope ["_law_script","_law_k","_law_many","_law_drawn"] ["_law_script","_law_k","_law_many"] (ar (top 99)):=by walk_at "s"
def wQ:FnScope ["thing"] ["thing"] (ar (top 12)):=by walk_at "s"
def vt:FnScope ["thing","low","high"] ["thing","low","high"] (ar (top 13)):=by walk_at "s"
def qg:FnScope ["total"] ["total"] (ar (top 27)):=by walk_at "s"
def sQ:FnScope ["done","total"] ["done","total"] (ar (top 28)):=by walk_at "s"
def wE:FnScope ["full","room"] ["full","room"] (ar (top 30)):=by walk_at "s"
def Kp:FnScope ["done","total","width","room"] ["done","total","width"] (ar (top 31)):=by walk_at "s"
def J4{ka:Tok}(dB:mg "MOST_BAR"=some (.int 40 ka)){jj:Tok}(cM:mg "LEAST_BAR"=some (.int 3 jj)){gB:Tok}(cD:mg "BAR_ENDS"=some (.int 2 gB))(cf:Ref "NoRoom" ah mg base)(fP:Callee P w K mg base "check_done" 4 2 aI)(aN:Callee P w K mg base "is_within" 4 3 ad)(lP:Callee P w K mg base "bar_text" 4 2 bq)(Fn:FUz K "bar" 31 f fd):FnF P w K mg base 5 f fd ["done","total","width"] (λds=>aD (xO aI ad bq ah (aw 4 ds))):=by
 have hN:(["done","total","width","room"]:List Str).Nodup:=by decide
 refine Fn.okF Kp (k:=4) (g:=xO aI ad bq ah) λ_ _ _ _ _ _ hr=>?_;have hh:=hr.hd;exact(ag (hV (aC fP hr (aa (ai at0) (aa (ai at1) ae)))) (ag (dZ (bN (bQ (aC aN hr (aa (ai at2) (aa (aY rfl cM) (aa (aY rfl dB) ae)))))) (ag (cH cf hh (az (l:=[97,32,98,97,114,32,105,115,32,102,114,111,109,32,51,32,116,111,32,52,48,32,115,105,103,110,115,32,119,105,100,101]) rfl (by decide))) ax) ax) (ag (cC at3 hN (ee (ai at2) (aY rfl cD))) (ag (aX (aC lP hr (aa (jR (bP (ai at0) (ai at3)) (ai at1)) (aa (ai at3) ae)))) ax))))
def uB:FnScope ["thing","total"] ["thing","total"] (ar (top 40)):=by walk_at "s"
def qe:FnScope ["thing","total"] ["thing","total"] (ar (top 41)):=by walk_at "s"
def qy{df:List D->R D}(eR:mg "all"=none)(aq:mg "isinstance"=none)(ia:mg "list"=none)(vc:mg "zip"=none)(wK:Callee P w K mg base "is_sample" 3 2 df)(Fn:FUz K "are_samples" 41 f fd):FnF P w K mg base 4 f fd ["thing","total"] (λds=>aD (gW df (aw 2 ds))):=by exact Fn.okF qe (k:=3) (g:=gW df) λ_ _ _ _ _ _ hr=>(ag (dZ (ir (dY (bN (bQ (tj aq (ai at0) ia))) (dh (bN (bQ (qu rfl rfl eR (aa (cK (bD (N':=["part","total"]) (ix:=[1]) bf rfl (bT (ai at0)) (λC s₂ H₂ fp=>(aC wK hr (aa (bw at0) (aa (bw at1) ae)))) (λC s₂ H₂ fp=>bI))) ae))))))) (ag (aX fg) ax) ax) (ag (aX (qu rfl rfl eR (aa (cK (vW (n:=2) (N':=["one","other"]) (ix:=[]) yr rfl (λC s₂ H₂ fp=>oy rfl (dQ 0 (by show(["one","other"]:List Str).Nodup;decide) (dQ 1 (by show(["one","other"]:List Str).Nodup;decide) lN))) xU (JJ rfl vc (aa (ai at0) (aa (kf (ai at0) (rK aj) kg) ae))) (λC s₂ H₂ fp=>(eY (Op (ce (bw at0) aj) (ce (bw at1) aj)) (gC (KQ (ce (bw at0) aj) (ce (bw at1) aj))))) (λC s₂ H₂ fp=>bI))) ae))) ax))
def sN:FnScope ["number","divisor"] ["number","divisor"] (ar (top 29)):=by walk_at "s"
def uL:FnScope ["samples","total","many","first","last"] ["samples","total","many"] (ar (top 42)):=by walk_at "s"
def uG{aS:List D->R D}(bi:mg "len"=none){oF:Tok}(eK:mg "MOST_MANY"=some (.int 99 oF)){mG:Tok}(dI:mg "LEAST_MANY"=some (.int 2 mG))(bA:Ref "NoNumber" af mg base)(dv:Callee P w K mg base "check_total" 4 1 ak)(aN:Callee P w K mg base "is_within" 4 3 ad)(tu:Callee P w K mg base "are_samples" 4 2 aS)(ig:Callee P w K mg base "rounded_up" 4 2 ay)(Fn:FUz K "time_left" 42 f fd):FnF P w K mg base 5 f fd ["samples","total","many"] (λds=>aD (jb ak ad aS ay af (aw 5 ds))):=by
 have hN:(["samples","total","many","first","last"]:List Str).Nodup:=by decide
 refine Fn.okF uL (k:=4) (g:=jb ak ad aS ay af) λ_ _ _ _ _ _ hr=>?_;have hu:=hr.units;have hh:=hr.hd;exact(ag (hV (aC dv hr (aa (ai at1) ae))) (ag (dZ (bN (bQ (aC aN hr (aa (ai at2) (aa (aY rfl dI) (aa (aY rfl eK) ae)))))) (ag (cH bA hh (az (l:=[102,114,111,109,32,50,32,116,111,32,57,57,32,115,97,109,112,108,101,115,32,97,114,101,32,108,111,111,107,101,100,32,97,116]) rfl (by decide))) ax) ax) (ag (dZ (bN (bQ (aC tu hr (aa (ai at0) (aa (ai at1) ae))))) (ag (cH bA hh (az (l:=[116,104,101,115,101,32,97,114,101,32,110,111,32,115,97,109,112,108,101,115]) rfl (by decide))) ax) ax) (ag (dZ (pZ hu (eM rfl bi (aa (ai at0) ae)) aj) (ag (aX bS) ax) ax) (ag (cC at3 hN (ce (kf (ai at0) (rK (wN (ai at2))) kg) aj)) (ag (cC at4 hN (ce (ai at0) (wN aj))) (ag (dZ (pZ hu (ce (ai at4) aj) (ai at1)) (ag (aX aj) ax) ax) (ag (dZ (pZ hu (ce (ai at4) aj) (ce (ai at3) aj)) (ag (aX bS) ax) ax) (ag (aX (aC ig hr (aa (bP (ee (ai at1) (ce (ai at4) aj)) (ee (ce (ai at4) aj) (ce (ai at3) aj))) (aa (ee (ce (ai at4) aj) (ce (ai at3) aj)) ae)))) ax)))))))))
def xC:FnScope ["thing"] ["thing"] (ar (top 14)):=by walk_at "s"
def qh:FnScope ["thing"] ["thing"] (ar (top 15)):=by walk_at "s"
def qS:FnScope ["width"] ["width"] (ar (top 56)):=by walk_at "s"
def Lq:FnScope ["text","width"] ["text","width"] (ar (top 57)):=by walk_at "s"
def zq:FnScope ["thing"] ["thing"] (ar (top 52)):=by walk_at "s"
def wb:FnScope ["text","width","side","short","ahead"] ["text","width","side"] (ar (top 58)):=by walk_at "s"
def vK(bi:mg "len"=none)(bA:Ref "NoNumber" af mg base)(HI:Callee P w K mg base "cut" 4 2 nK)(pc:Callee P w K mg base "is_side" 4 1 dz)(Fn:FUz K "filled_to" 58 f fd):FnF P w K mg base 5 f fd ["text","width","side"] (λds=>aD (gf nK dz af (aw 5 ds))):=by
 have hN:(["text","width","side","short","ahead"]:List Str).Nodup:=by decide
 refine Fn.okF wb (k:=4) (g:=gf nK dz af) λ_ _ _ _ _ _ hr=>?_;have hu:=hr.units;have hh:=hr.hd;exact(ag (cC at3 hN (aC HI hr (aa (ai at0) (aa (ai at1) ae)))) (ag (dZ (bN (bQ (aC pc hr (aa (ai at2) ae)))) (ag (cH bA hh (az (l:=[116,104,101,114,101,32,105,115,32,110,111,32,115,117,99,104,32,115,105,100,101]) rfl (by decide))) ax) ax) (ag (dZ (pZ hu (ai at2) (az (l:=[60]) rfl (by decide))) (ag (aX (B1 (ai at3) (aa (ai at1) ae))) ax) ax) (ag (dZ (pZ hu (ai at2) (az (l:=[62]) rfl (by decide))) (ag (aX (wH (ai at3) (aa (ai at1) ae))) ax) ax) (ag (cC at4 hN (jR (ee (ai at1) (eM rfl bi (aa (ai at3) ae))) aj)) (ag (aX (B1 (bE (bP (az (l:=[32]) rfl (by decide)) (ai at4)) (ai at3)) (aa (ai at1) ae))) ax))))))
def uI:FnScope ["thing"] ["thing"] (ar (top 78)):=by walk_at "s"
def qD:FnScope ["thing"] ["thing"] (ar (top 79)):=by walk_at "s"
def oI:FnScope ["thing","many"] ["thing","many"] (ar (top 80)):=by walk_at "s"
def wS:FnScope ["columns","rows"] ["columns","rows"] (ar (top 81)):=by walk_at "s"
def qc:FnScope ["columns","rows"] ["columns","rows"] (ar (top 82)):=by walk_at "s"
def qx:FnScope ["columns","rows","number","texts"] ["columns","rows","number"] (ar (top 83)):=by walk_at "s"
def AO:FnScope ["wishes","room","given","left","number","wish"] ["wishes","room"] (ar (top 54)):=by walk_at "s"
def AE(gM:mg "enumerate"=none)(vz:mg "min"=none)(A8:mg "sum"=none)(Fn:FUz K "shares" 54 f fd):FnF P w K mg base 1 f fd ["wishes","room"] (λds=>aD (my (aw 6 ds))):=by
 have hN:(["wishes","room","given","left","number","wish"]:List Str).Nodup:=by decide
 exact Fn.okF AO (k:=0) (g:=my) λ_ _ _ _ _ _ hr=>(ag (sW 2 hN (N':=["wish"]) (ix:=[]) bf rfl (bT (ai at0)) (λC s₂ H₂ fp=>aj) (λC s₂ H₂ fp=>bI)) (ag (cC at3 hN (Jl rfl rfl vz (aa (ai at1) (aa (Od rfl rfl A8 (aa (ai at0) ae)) ae)))) (ag (GZ 1000 pG (zi (ai at3) aj) (ag (wr pG rfl (HH rfl gM (ai at0)) (oy rfl (dQ 4 hN (dQ 5 hN lN))) (ag (M0 2 (ir (Bd (zi (ai at3) aj) (ya (Bv (ce (ai at2) (ai at4)) (ai at5))))) (ag (AH 2 (ai at4) aj K6) (ag (JN 3 hN aj KI) ax)) ax) ax) (hn:=pd _)) ax)) (zt 2 (ag (aX (ai at2)) ax)))))
def Ah:FnScope ["columns","rows","room","many","gaps"] ["columns","rows","room"] (ar (top 84)):=by walk_at "s"
def Ci{bt br:List D->R D}(bi:mg "len"=none)(jA:mg "range"=none){cB:Tok}(bc:mg "MOST_WIDTH"=some (.int 40 cB))(cf:Ref "NoRoom" ah mg base)(sV:Callee P w K mg base "check_table" 5 2 bt)(aN:Callee P w K mg base "is_within" 5 3 ad)(rT:Callee P w K mg base "column_wish" 5 3 br)(sS:Callee P w K mg base "shares" 5 2 ck)(Fn:FUz K "widths" 84 f fd):FnF P w K mg base 6 f fd ["columns","rows","room"] (λds=>aD (md bt ad br ck ah (aw 5 ds))):=by
 have hN:(["columns","rows","room","many","gaps"]:List Str).Nodup:=by decide
 refine Fn.okF Ah (k:=5) (g:=md bt ad br ck ah) λ_ _ _ _ _ _ hr=>?_;have hh:=hr.hd;exact(ag (hV (aC sV hr (aa (ai at0) (aa (ai at1) ae)))) (ag (cC at3 hN (eM rfl bi (aa (ai at0) ae))) (ag (cC at4 hN (ee (ai at3) aj)) (ag (dZ (bN (bQ (aC aN hr (aa (ai at2) (aa (bE (ai at3) (ai at4)) (aa (aY rfl bc) ae)))))) (ag (cH cf hh (az (l:=[97,32,116,97,98,108,101,32,100,111,101,115,32,110,111,116,32,103,111,32,105,110,116,111,32,116,104,105,115,32,114,111,111,109]) rfl (by decide))) ax) ax) (ag (aX (aC sS hr (aa (cK (bD (N':=["number","columns","rows"]) (ix:=[0,1]) bf rfl (Dw rfl jA (aa (ai at3) ae)) (λC s₂ H₂ fp=>(aC rT hr (aa (bw at1) (aa (bw at2) (aa (bw at0) ae))))) (λC s₂ H₂ fp=>bI))) (aa (ee (ai at2) (ai at4)) ae)))) ax)))))
def AX:FnScope ["thing"] ["thing"] (ar (top 32)):=by walk_at "s"
def wc:FnScope ["text","total","room","full","low","high"] ["text","total"] (ar (top 33)):=by walk_at "s"
def wg{bZ:List D->R D}(bi:mg "len"=none)(vz:mg "min"=none){gB:Tok}(cD:mg "BAR_ENDS"=some (.int 2 gB))(cQ:Ref "NoText" am mg base)(DM:Callee P w K mg base "is_bar" 3 1 bZ)(dv:Callee P w K mg base "check_total" 3 1 ak)(ig:Callee P w K mg base "rounded_up" 3 2 ay)(Fn:FUz K "bar_means" 33 f fd):FnF P w K mg base 4 f fd ["text","total"] (λds=>aD (jr bZ ak ay am (aw 6 ds))):=by
 have hN:(["text","total","room","full","low","high"]:List Str).Nodup:=by decide
 refine Fn.okF wc (k:=3) (g:=jr bZ ak ay am) λ_ _ _ _ _ _ hr=>?_;have hh:=hr.hd;exact(ag (dZ (bN (bQ (aC DM hr (aa (ai at0) ae)))) (ag (cH cQ hh (az (l:=[116,104,105,115,32,105,115,32,110,111,32,98,97,114]) rfl (by decide))) ax) ax) (ag (hV (aC dv hr (aa (ai at1) ae))) (ag (cC at2 hN (ee (eM rfl bi (aa (ai at0) ae)) (aY rfl cD))) (ag (cC at3 hN (yB (ai at0) (aa (az (l:=[35]) rfl (by decide)) ae))) (ag (cC at4 hN (aC ig hr (aa (bP (ai at3) (ai at1)) (aa (ai at2) ae)))) (ag (cC at5 hN (Jl rfl rfl vz (aa (ai at1) (aa (ee (aC ig hr (aa (bP (bE (ai at3) aj) (ai at1)) (aa (ai at2) ae))) aj) ae)))) (ag (dZ (zi (ai at4) (ai at5)) (ag (cH cQ hh (az (l:=[110,111,32,99,111,117,110,116,32,111,102,32,116,104,105,115,32,116,111,116,97,108,32,104,97,115,32,116,104,105,115,32,98,97,114]) rfl (by decide))) ax) ax) (ag (aX (cX (aa (ai at4) (aa (ai at5) ae)))) ax))))))))
def zX:FnScope ["done","total"] ["done","total"] (ar (top 34)):=by walk_at "s"
def zR:FnScope ["done","total"] ["done","total"] (ar (top 35)):=by walk_at "s"
def EN:FnScope ["width","many"] ["width","many"] (ar (top 46)):=by walk_at "s"
def Ex{cB:Tok}(bc:mg "MOST_WIDTH"=some (.int 40 cB)){fC:Tok}(bV:mg "MOST_ROWS"=some (.int 12 fC))(cf:Ref "NoRoom" ah mg base)(aN:Callee P w K mg base "is_within" 2 3 ad)(Fn:FUz K "blank" 46 f fd):FnF P w K mg base 3 f fd ["width","many"] (λds=>aD (nX ad ah (aw 2 ds))):=by refine Fn.okF EN (k:=2) (g:=nX ad ah) λ_ _ _ _ _ _ hr=>?_;have hh:=hr.hd;exact(ag (dZ (ir (dY (bN (bQ (aC aN hr (aa (ai at0) (aa aj (aa (aY rfl bc) ae)))))) (dh (bN (bQ (aC aN hr (aa (ai at1) (aa aj (aa (aY rfl bV) ae))))))))) (ag (cH cf hh (az (l:=[110,111,32,115,99,114,101,101,110,32,104,97,115,32,116,104,105,115,32,115,105,122,101]) rfl (by decide))) ax) ax) (ag (aX (cX (aa (ai at0) (aa (bP (cX (aa (bP (az (l:=[32]) rfl (by decide)) (ai at0)) ae)) (ai at1)) (aa (cX (aa aj (aa aj ae))) ae))))) ax))
def qN:FnScope ["number"] ["number"] (ar (top 36)):=by walk_at "s"
def D6:FnScope ["seconds","end","minutes","hours","middle"] ["seconds"] (ar (top 37)):=by walk_at "s"
def Du{aZ:List D->R D}{cY:Tok}(bx:mg "MOST_COUNT"=some (.int 1000000000 cY)){yf:Tok}(fZ:mg "MINUTE"=some (.int 60 yf)){Gg:Tok}(lh:mg "HOUR"=some (.int 3600 Gg))(bA:Ref "NoNumber" af mg base)(aN:Callee P w K mg base "is_within" 2 3 ad)(lq:Callee P w K mg base "two_figures" 2 1 aZ)(Fn:FUz K "clock" 37 f fd):FnF P w K mg base 3 f fd ["seconds"] (λds=>aD (pS ad aZ af (aw 5 ds))):=by
 have hN:(["seconds","end","minutes","hours","middle"]:List Str).Nodup:=by decide
 refine Fn.okF D6 (k:=2) (g:=pS ad aZ af) λ_ _ _ _ _ _ hr=>?_;have hh:=hr.hd;exact(ag (dZ (bN (bQ (aC aN hr (aa (ai at0) (aa aj (aa (aY rfl bx) ae)))))) (ag (cH bA hh (az (l:=[97,32,99,108,111,99,107,32,104,97,115,32,102,114,111,109,32,48,32,116,111,32,49,48,48,48,48,48,48,48,48,48,32,115,101,99,111,110,100,115]) rfl (by decide))) ax) ax) (ag (cC at1 hN (aC lq hr (aa (rP (ai at0) (aY rfl fZ)) ae))) (ag (dZ (Bv (ai at0) (aY rfl lh)) (ag (cC at2 hN (jR (ai at0) (aY rfl fZ))) (ag (aX (tm (pR (ai at2)) (az (l:=[58]) rfl (by decide)) (pR (ai at1)))) ax)) ax) (ag (cC at3 hN (jR (ai at0) (aY rfl lh))) (ag (cC at4 hN (aC lq hr (aa (jR (rP (ai at0) (aY rfl lh)) (aY rfl fZ)) ae))) (ag (aX (Ij (pR (ai at3)) (az (l:=[58]) rfl (by decide)) (pR (ai at4)) (az (l:=[58]) rfl (by decide)) (pR (ai at1)))) ax))))))
def qA:FnScope ["text"] ["text"] (ar (top 16)):=by walk_at "s"
def lB:FnScope ["thing","parts","seconds","part"] ["thing"] (ar (top 38)):=by walk_at "s"
def lr(eR:mg "all"=none)(lA:mg "int"=none)(aq:mg "isinstance"=none)(bi:mg "len"=none)(fR:mg "str"=none){jS:Tok}(cE:mg "LONGEST_CLOCK"=some (.int 12 jS))(jp:Callee P w K mg base "are_figures" 1 1 aK)(Fn:FUz K "seconds_or_none" 38 f fd):FnF P w K mg base 2 f fd ["thing"] (λds=>aD (eE aK (aw 4 ds))):=by
 have hN:(["thing","parts","seconds","part"]:List Str).Nodup:=by decide
 exact Fn.okF lB (k:=1) (g:=eE aK) λ_ _ _ _ _ _ hr=>(ag (dZ (ir (dY (bN (bQ (tM aq (ai at0) fR))) (dh (zi (eM rfl bi (aa (ai at0) ae)) (aY rfl cE))))) (ag (aX bS) ax) ax) (ag (cC at1 hN (xM (ai at0) (aa (az (l:=[58]) rfl (by decide)) ae))) (ag (dZ (bN (bQ (qu rfl rfl eR (aa (cK (bD (N':=["part"]) (ix:=[]) bf rfl (bT (ai at1)) (λC s₂ H₂ fp=>(aC jp hr (aa (bw at0) ae))) (λC s₂ H₂ fp=>bI))) ae)))) (ag (aX bS) ax) ax) (ag (cC at2 hN aj) (ag (wr pG rfl (bT (ai at1)) (fF 3 hN) (ag (cC at2 hN (bE (bP (ai at2) aj) (AU rfl lA (aa (ai at3) ae)))) ax)) (ag (aX (ai at2)) ax))))))
def su:FnScope ["text","seconds"] ["text"] (ar (top 39)):=by walk_at "s"
def wD:FnScope ["thing"] ["thing"] (ar (top 92)):=by walk_at "s"
def xu(aq:mg "isinstance"=none)(fR:mg "str"=none)(cQ:Ref "NoText" am mg base)(Fn:FUz K "lines_of" 92 f fd):FnF P w K mg base 1 f fd ["thing"] (λds=>aD (jP am (aw 1 ds))):=by refine Fn.okF wD (k:=0) (g:=jP am) λ_ _ _ _ _ _ hr=>?_;have hu:=hr.units;have hh:=hr.hd;exact(ag (dZ (ir (dY (bN (bQ (tM aq (ai at0) fR))) (dh (ir (Bd (eB hu (ai at0) (az (l:=[]) rfl (by decide))) (ya (bN (bQ (Jo (ai at0) (aa (az (l:=[10]) rfl (by decide)) ae)))))))))) (ag (cH cQ hh (az (l:=[116,104,105,115,32,105,115,32,110,111,32,116,101,120,116,32,111,102,32,108,105,110,101,115,32,116,104,97,116,32,97,114,101,32,101,97,99,104,32,101,110,100,101,100,32,98,121,32,97,32,108,105,110,101,32,102,101,101,100]) rfl (by decide))) ax) ax) (ag (aX (kf (xM (ai at0) (aa (az (l:=[10]) rfl (by decide)) ae)) kg (rK (wN aj)))) ax))
def lF:FnScope ["text"] ["text"] (ar (top 90)):=by walk_at "s"
def pL:FnScope ["text","parts"] ["text"] (ar (top 91)):=by walk_at "s"
def oM{bn:List D->R D}(eR:mg "all"=none)(lA:mg "int"=none)(bi:mg "len"=none)(mz:Callee P w K mg base "is_short_number" 2 1 bn)(Fn:FUz K "spot_or_none" 91 f fd):FnF P w K mg base 3 f fd ["text"] (λds=>aD (fU bn (aw 2 ds))):=by
 have hN:(["text","parts"]:List Str).Nodup:=by decide
 refine Fn.okF pL (k:=2) (g:=fU bn) λ_ _ _ _ _ _ hr=>?_;have hu:=hr.units;exact(ag (cC at1 hN (xM (ai at0) (aa (az (l:=[32]) rfl (by decide)) ae))) (ag (dZ (ir (dY (eB hu (eM rfl bi (aa (ai at1) ae)) aj) (dh (bN (bQ (qu rfl rfl eR (aa (cK (bD (N':=["part"]) (ix:=[]) bf rfl (bT (ai at1)) (λC s₂ H₂ fp=>(aC mz hr (aa (bw at0) ae))) (λC s₂ H₂ fp=>bI))) ae))))))) (ag (aX bS) ax) ax) (ag (aX (cX (aa (AU rfl lA (aa (ce (ai at1) aj) ae)) (aa (AU rfl lA (aa (ce (ai at1) aj) ae)) ae)))) ax)))
def nD:FnScope ["line","parts","spot"] ["line"] (ar (top 94)):=by walk_at "s"
def nF{bu:List D->R D}(qv:Callee P w K mg base "spot_or_none" 3 1 bu)(Fn:FUz K "order_or_none" 94 f fd):FnF P w K mg base 4 f fd ["line"] (λds=>aD (fv bu (aw 3 ds))):=by
 have hN:(["line","parts","spot"]:List Str).Nodup:=by decide
 refine Fn.okF nD (k:=3) (g:=fv bu) λ_ _ _ _ _ _ hr=>?_;have hu:=hr.units;exact(ag (cC at1 hN (Kr (ai at0) (aa (az (l:=[32]) rfl (by decide)) ae))) (ag (dZ (pZ hu (ce (ai at1) aj) (az (l:=[115,97,121]) rfl (by decide))) (ag (aX (cX (aa (az (l:=[115,97,121]) rfl (by decide)) (aa (ce (ai at1) aj) ae)))) ax) ax) (ag (dZ (pZ hu (ce (ai at1) aj) (az (l:=[103,111]) rfl (by decide))) (ag (cC at2 hN (aC qv hr (aa (ce (ai at1) aj) ae))) (ag (aX (CZ (GN (ai at2) bS) bS (cX (aa (az (l:=[103,111]) rfl (by decide)) (aa (ce (ai at2) aj) (aa (ce (ai at2) aj) ae)))))) ax)) ax) (ag (aX (cX (aa (az (l:=[119,105,112,101]) rfl (by decide)) ae))) ax))))
def Ai:FnScope ["thing"] ["thing"] (ar (top 61)):=by walk_at "s"
def EJ:FnScope ["thing"] ["thing"] (ar (top 62)):=by walk_at "s"
def xr:FnScope ["thing"] ["thing"] (ar (top 63)):=by walk_at "s"
def qR:FnScope ["thing"] ["thing"] (ar (top 64)):=by walk_at "s"
def vR:FnScope ["row","column"] ["row","column"] (ar (top 89)):=by walk_at "s"
def sX:FnScope ["order"] ["order"] (ar (top 93)):=by walk_at "s"
def tO{bW:List D->R D}(ji:Callee P w K mg base "check_order" 5 1 aM)(xk:Callee P w K mg base "spot_text" 5 2 bW)(Fn:FUz K "order_text" 93 f fd):FnF P w K mg base 6 f fd ["order"] (λds=>aD (iH aM bW (aw 1 ds))):=by refine Fn.okF sX (k:=5) (g:=iH aM bW) λ_ _ _ _ _ _ hr=>?_;have hu:=hr.units;exact(ag (hV (aC ji hr (aa (ai at0) ae))) (ag (dZ (pZ hu (ce (ai at0) aj) (az (l:=[115,97,121]) rfl (by decide))) (ag (aX (bE (az (l:=[115,97,121,32]) rfl (by decide)) (ce (ai at0) aj))) ax) ax) (ag (dZ (pZ hu (ce (ai at0) aj) (az (l:=[103,111]) rfl (by decide))) (ag (aX (bE (az (l:=[103,111,32]) rfl (by decide)) (aC xk hr (aa (ce (ai at0) aj) (aa (ce (ai at0) aj) ae))))) ax) ax) (ag (aX (az (l:=[119,105,112,101]) rfl (by decide))) ax))))
def td:FnScope ["line","order"] ["line"] (ar (top 95)):=by walk_at "s"
def qm:FnScope ["text"] ["text"] (ar (top 96)):=by walk_at "s"
def xF:FnScope ["_law_kept","_law_kinds"] ["_law_kept"] (ar (top 100)):=by walk_at "s"
def wP(fL:mg "ValueError"=none)(aq:mg "isinstance"=none)(Er:Errs K mg rs [("NoScreen",aH),("NoOrder",ao),("NoRoom",ah),("NoNumber",af),("NoTable",aA),("NoTask",aU),("NoText",am)])(Fn:FUz K "_law_word" 100 f fd):FnF P w K mg base 1 f fd ["_law_kept"] (λds=>aD (il ah ao af aA aH am aU rs (aw 2 ds))):=by
 have hN:(["_law_kept","_law_kinds"]:List Str).Nodup:=by decide
 refine Fn.okF xF (k:=0) (g:=il ah ao af aA aH am aU rs) λ_ _ _ _ _ _ hr=>?_;have hu:=hr.units;exact(ag (Iz 1 hN (cF (aa (kr (T:=af) Er (.tail _ (.tail _ (.tail _ (.head _)))) aq (ai at0)) (aa (kr (T:=ao) Er (.tail _ (.head _)) aq (ai at0)) (aa (kr (T:=ah) Er (.tail _ (.tail _ (.head _))) aq (ai at0)) ae))))) (ag (tW 1 (bH (cF (aa (kr (T:=aH) Er (.head _) aq (ai at0)) (aa (kr (T:=aA) Er (.tail _ (.tail _ (.tail _ (.tail _ (.head _))))) aq (ai at0)) ae))))) (ag (tW 1 (bH (cF (aa (kr (T:=aU) Er (.tail _ (.tail _ (.tail _ (.tail _ (.tail _ (.head _)))))) aq (ai at0)) (aa (kr (T:=am) Er (.tail _ (.tail _ (.tail _ (.tail _ (.tail _ (.tail _ (.head _))))))) aq (ai at0)) ae))))) (zt 1 (ag (dZ (ir (dY (eB hu (HB (ai at1) (aa fg ae)) aj) (dh (bN (bQ (JW Er aq fL (ai at0))))))) (ag (aX (az (l:=[119,114,111,110,103]) rfl (by decide))) ax) ax) (ag (aX (ce (bH (cF (aa (az (l:=[110,111,32,110,117,109,98,101,114]) rfl (by decide)) (aa (az (l:=[110,111,32,111,114,100,101,114]) rfl (by decide)) (aa (az (l:=[110,111,32,114,111,111,109]) rfl (by decide)) (aa (az (l:=[110,111,32,115,99,114,101,101,110]) rfl (by decide)) (aa (az (l:=[110,111,32,116,97,98,108,101]) rfl (by decide)) (aa (az (l:=[110,111,32,116,97,115,107]) rfl (by decide)) (aa (az (l:=[110,111,32,116,101,120,116]) rfl (by decide)) ae))))))))) (IW (ai at1) (aa fg ae)))) ax))))))
def CJ:FnScope ["_law_what","_law_one","_law_other","_law_third","_law_kept","_law_answer","e"] ["_law_what","_law_one","_law_other","_law_third"] (ar (top 101)):=by walk_at "s"
def As{xb em:List D->R D}{eA gQ:List D->R D}{gU dS:List D->R D}{du eJ:List D->R D}(MR:Callee P w K mg base "bar" 8 3 xb)(xy:Callee P w K mg base "time_left" 8 3 em)(kB:Callee P w K mg base "filled_to" 8 3 bO)(tx:Callee P w K mg base "widths" 8 3 cj)(xn:Callee P w K mg base "bar_means" 8 2 eA)(BT:Callee P w K mg base "percent" 8 2 gQ)(BR:Callee P w K mg base "counted" 8 2 gU)(HI:Callee P w K mg base "cut" 8 2 nK)(pQ:Callee P w K mg base "blank" 8 2 bM)(wU:Callee P w K mg base "clock" 8 1 dF)(vv:Callee P w K mg base "read_clock" 8 1 dS)(si:Callee P w K mg base "read_orders" 8 1 du)(xo:Callee P w K mg base "_law_word" 8 1 eJ)(Er:Errs K mg rs [("NoScreen",aH),("NoOrder",ao),("NoRoom",ah),("NoNumber",af),("NoTable",aA),("NoTask",aU),("NoText",am)])(Fn:FUz K "_law_do" 101 f fd):FnF P w K mg base 9 f fd ["_law_what","_law_one","_law_other","_law_third"] (λds=>aD (iR xb em bO cj eA gQ gU nK bM dF dS du eJ rs (aw 7 ds))):=by
 have hN:(["_law_what","_law_one","_law_other","_law_third","_law_kept","_law_answer","e"]:List Str).Nodup:=by decide
 exact Fn.okF CJ (k:=8) (g:=iR xb em bO cj eA gQ gU nK bM dF dS du eJ rs) λ_ _ _ _ _ _ hr=>(ag (cC at4 hN bS) (ag (cC at5 hN bS) (ag (NM 6 Er hN rfl rfl rfl rfl (λpn xe=>(ag (dZ (Bv (jM at0) aj) (ag (B9 at5 hN (Bt (gy MR (gy xy (gy kB (gy tx Ch)))) hr (jM at0) (aa (jM at1) (aa (jM at2) (aa (jM at3) ae))))) ax) (ag (dZ (Bv (jM at0) aj) (ag (B9 at5 hN (Bt (gy xn (gy BT (gy BR (gy HI (gy pQ Ch))))) hr (ee (jM at0) aj) (aa (jM at1) (aa (jM at2) ae)))) ax) (ag (B9 at5 hN (GM wU vv si hr (ee (jM at0) aj) (aa (jM at1) ae))) ax)) ax)) ax)) (λa xe=>(ag (Ki at4 hN (Lm at6)) ax))) (ag (dZ (GN (ai at4) bS) (ag (aX (ai at5)) ax) ax) (ag (aX (aC xo hr (aa (ai at4) ae))) ax)))))
def lG:FnScope ["_law_script","_law_most","_law_total","_law_ready","_law_text","_law_wide","_law_one","_law_other","_law_told"] ["_law_script"] (ar (top 102)):=by walk_at "s"
def lC(bi:mg "len"=none)(fR:mg "str"=none)(dX:Callee P w K mg base "_law_pick" 9 3 aR)(bp:Callee P w K mg base "_law_do" 9 4 av)(Fn:FUz K "_law_are_counted" 102 f fd):FnF P w K mg base 10 f fd ["_law_script"] (λds=>aD (cG aR av (aw 9 ds))):=by
 have hN:(["_law_script","_law_most","_law_total","_law_ready","_law_text","_law_wide","_law_one","_law_other","_law_told"]:List Str).Nodup:=by decide
 refine Fn.okF lG (k:=9) (g:=cG aR av) λ_ _ _ _ _ _ hr=>?_;have hu:=hr.units;exact(ag (cC at1 hN (yb aj aj)) (ag (wr pG rfl (bT (cX (aa aj (aa (ai at1) (aa (bE aj (aC dX hr (aa (ai at0) (aa aj (aa aj ae))))) (aa (bE aj (aC dX hr (aa (ai at0) (aa aj (aa (ai at1) ae))))) ae)))))) (fF 2 hN) (ag (wr pG rfl (bT (cX (aa aj (aa (ai at2) (aa (aC dX hr (aa (ai at0) (aa aj (aa (bE (ai at2) aj) ae)))) ae))))) (fF 3 hN) (ag (cC at4 hN (bE (bE (oQ rfl fR (aa (ai at3) ae)) (az (l:=[47]) rfl (by decide))) (oQ rfl fR (aa (ai at2) ae)))) (ag (cC at5 hN (bE (bP aj (eM rfl bi (aa (oQ rfl fR (aa (ai at2) ae)) ae))) aj)) (ag (dZ (eB hu (aC bp hr (aa aj (aa (ai at3) (aa (ai at2) (aa bS ae))))) (bE (bP (az (l:=[32]) rfl (by decide)) (ee (ai at5) (eM rfl bi (aa (ai at4) ae)))) (ai at4))) (ag (aX fg) ax) ax) ax)))) (ag (wr pG rfl (bT (cX (aa (cX (aa aj (aa aj ae))) (aa (cX (aa (wN aj) (aa (ai at2) ae))) (aa (cX (aa (bE (ai at2) aj) (aa (ai at2) ae))) (aa (cX (aa aj (aa (bE (ai at1) aj) ae))) ae)))))) (oy rfl (dQ 6 hN (dQ 7 hN lN))) (ag (cC at8 hN (bH (cF (aa (aC bp hr (aa aj (aa (ai at6) (aa (ai at7) (aa aj ae))))) (aa (aC bp hr (aa aj (aa (ai at6) (aa (ai at7) (aa bS ae))))) (aa (aC bp hr (aa aj (aa (ai at6) (aa (ai at7) (aa bS ae))))) ae)))))) (ag (dZ (eB hu (ai at8) (bP (bH (cF (aa (az (l:=[110,111,32,110,117,109,98,101,114]) rfl (by decide)) ae))) aj)) (ag (aX fg) ax) ax) ax)) (hn:=pd _)) (ag (dZ (eB hu (cK (bD (N':=["_law_odd"]) (ix:=[]) bf rfl (bT (cX (aa aj (aa (bE (ai at1) aj) ae)))) (λC s₂ H₂ fp=>(aC bp hr (aa aj (aa (az (l:=[91,46,93]) rfl (by decide)) (aa (bw at0) (aa bS ae)))))) (λC s₂ H₂ fp=>bI))) (bP (bH (cF (aa (az (l:=[110,111,32,110,117,109,98,101,114]) rfl (by decide)) ae))) aj)) (ag (aX fg) ax) ax) (ag (dZ (eB hu (cK (bD (N':=["_law_wide","_law_total"]) (ix:=[2]) bf rfl (bT (cX (aa aj (aa aj ae)))) (λC s₂ H₂ fp=>(aC bp hr (aa aj (aa (bw at1) (aa (bw at1) (aa (bw at0) ae)))))) (λC s₂ H₂ fp=>bI))) (bH (cF (aa (az (l:=[91,35,93]) rfl (by decide)) (aa (bE (bE (az (l:=[91]) rfl (by decide)) (bP (az (l:=[35]) rfl (by decide)) aj)) (az (l:=[93]) rfl (by decide))) ae))))) (ag (aX fg) ax) ax) ax))))) (ag (dZ (eB hu (cK (bD (N':=["_law_wide"]) (ix:=[]) bf rfl (bT (cX (aa aj (aa aj ae)))) (λC s₂ H₂ fp=>(aC bp hr (aa aj (aa aj (aa aj (aa (bw at0) ae)))))) (λC s₂ H₂ fp=>bI))) (bP (bH (cF (aa (az (l:=[110,111,32,114,111,111,109]) rfl (by decide)) ae))) aj)) (ag (aX fg) ax) ax) (ag (cC at8 hN (bE (cK (bD (N':=["_law_odd"]) (ix:=[]) bf rfl (bT (cX (aa (wN aj) (aa (bE (ai at1) aj) (aa bS (aa fg ae)))))) (λC s₂ H₂ fp=>(aC bp hr (aa aj (aa (bw at0) (aa bS (aa bS ae)))))) (λC s₂ H₂ fp=>bI))) (bH (cF (aa (aC bp hr (aa aj (aa (bH (cF ae)) (aa aj (aa aj ae))))) ae))))) (ag (aX (eY (qI hu (bE (ai at8) (cK (bD (N':=["_law_odd"]) (ix:=[]) bf rfl (bT (cX (aa aj (aa aj ae)))) (λC s₂ H₂ fp=>(aC bp hr (aa aj (aa (bH (cF ae)) (aa aj (aa (bw at0) ae)))))) (λC s₂ H₂ fp=>bI)))) (bP (bH (cF (aa (az (l:=[110,111,32,110,117,109,98,101,114]) rfl (by decide)) ae))) aj)) (gC (Nz (aC bp hr (aa aj (aa (bH (cF ae)) (aa aj (aa aj ae))))) bS)))) ax)))))
def jH:FnScope ["_law_text","_law_odd","_law_some"] [] (ar (top 103)):=by walk_at "s"
def jx(bp:Callee P w K mg base "_law_do" 9 4 av)(Fn:FUz K "_law_are_times_read" 103 f fd):FnF P w K mg base 10 f fd [] (λds=>aD (bU av (aw 3 ds))):=by
 have hN:(["_law_text","_law_odd","_law_some"]:List Str).Nodup:=by decide
 refine Fn.okF jH (k:=9) (g:=bU av) λcdv A outer s H E hr=>?_;have hu:=hr.units;have key:∀es gl,PFA (fV (CXo P w) P w K mg base ["_law_text","_law_odd","_law_some"] "_law_are_times_read" (ar (top 103)) f cdv A outer s H E) es gl->lO (fV (CXo P w) P w K mg base ["_law_text","_law_odd","_law_some"] "_law_are_times_read" (ar (top 103)) f cdv A outer s H E) ((cg (top 103)).take 2++(.Assign [.Name "_law_odd" ⟨403,4,403,12⟩] (.List es ⟨403,15,403,113⟩) ⟨403,4,403,113⟩)::(cg (top 103)).drop 3) (aE dL (aE (dN av) (aE (eO 1 (aO (fQ gl))) (aE (dJ av) (aE dR (aE (dU av) oNx)))))):=λes gl h=>(ag (cC at0 hN (az (l:=[50,55,55,55,55,55,58,52,54,58,52,48]) rfl (by decide))) (ag (dZ (ir (dY (eB hu (aC bp hr (aa aj (aa (yb aj aj) (aa bS (aa bS ae))))) (ai at0)) (dh (eB hu (aC bp hr (aa aj (aa (ai at0) (aa bS (aa bS ae))))) (yb aj aj))))) (ag (aX fg) ax) ax) (ag (cC at1 hN (bH (cF h))) (ag (dZ (eB hu (cK (bD (N':=["_law_one"]) (ix:=[]) bf rfl (bT (ai at1)) (λC s₂ H₂ fp=>(aC bp hr (aa aj (aa (bw at0) (aa bS (aa bS ae)))))) (λC s₂ H₂ fp=>bI))) (bP (bH (cF (aa (az (l:=[110,111,32,116,101,120,116]) rfl (by decide)) ae))) aj)) (ag (aX fg) ax) ax) (ag (cC at2 hN (bH (cF (aa aj (aa aj (aa aj (aa aj (aa aj (aa aj ae))))))))) (ag (aX (qI hu (cK (bD (N':=["_law_one"]) (ix:=[]) bf rfl (bT (ai at2)) (λC s₂ H₂ fp=>(aC bp hr (aa aj (aa (bw at0) (aa bS (aa bS ae)))))) (λC s₂ H₂ fp=>bI))) (bH (cF (aa (az (l:=[48,58,48,48]) rfl (by decide)) (aa (az (l:=[48,58,53,57]) rfl (by decide)) (aa (az (l:=[49,58,48,48]) rfl (by decide)) (aa (az (l:=[53,57,58,53,57]) rfl (by decide)) (aa (az (l:=[49,58,48,48,58,48,48]) rfl (by decide)) (aa (az (l:=[49,58,48,49,58,48,49]) rfl (by decide)) ae)))))))))) ax))))))
 exact key _ _ (aa (az (l:=[50,55,55,55,55,55,58,52,54,58,52,49]) rfl (by decide)) (aa (az (l:=[48,50,55,55,55,55,55,58,52,54,58,52,48]) rfl (by decide)) (aa (az (l:=[48,58,54,48]) rfl (by decide)) (aa (az (l:=[49,58,48,58,48,48]) rfl (by decide)) (aa (az (l:=[48,58,48]) rfl (by decide)) (aa (az (l:=[]) rfl (by decide)) (aa (az (l:=[58]) rfl (by decide)) (aa (az (l:=[49,58,48,48,58,48,48,58,48,48]) rfl (by decide)) (aa (az (l:=[54,48,58,48,48]) rfl (by decide)) (aa (az (l:=[120,58,48,48]) rfl (by decide)) ae))))))))))
def AR:FnScope ["columns","sizes","texts"] ["columns","sizes","texts"] (ar (top 85)):=by walk_at "s"
def Bg(vc:mg "zip"=none)(kB:Callee P w K mg base "filled_to" 5 3 bO)(Fn:FUz K "fitted" 85 f fd):FnF P w K mg base 6 f fd ["columns","sizes","texts"] (λds=>aD (mi bO (aw 3 ds))):=by exact Fn.okF AR (k:=5) (g:=mi bO) λ_ _ _ _ _ _ hr=>(ag (aX (B5 (az (l:=[32]) rfl (by decide)) (aa (cK (vW (n:=3) (N':=["column","size","text"]) (ix:=[]) yr rfl (λC s₂ H₂ fp=>oy rfl (dQ 0 (by show(["column","size","text"]:List Str).Nodup;decide) (dQ 1 (by show(["column","size","text"]:List Str).Nodup;decide) (dQ 2 (by show(["column","size","text"]:List Str).Nodup;decide) lN)))) xU (Hu rfl vc (aa (ai at0) (aa (ai at1) (aa (ai at2) ae)))) (λC s₂ H₂ fp=>(aC kB hr (aa (bw at2) (aa (bw at1) (aa (ce (bw at0) aj) ae))))) (λC s₂ H₂ fp=>bI))) ae))) ax)
def Fm:FnScope ["columns","rows","room","sizes","names","line"] ["columns","rows","room"] (ar (top 86)):=by walk_at "s"
def EV{dH:List D->R D}(tx:Callee P w K mg base "widths" 6 3 cj)(xX:Callee P w K mg base "fitted" 6 3 dH)(Fn:FUz K "table" 86 f fd):FnF P w K mg base 7 f fd ["columns","rows","room"] (λds=>aD (oJ cj dH (aw 6 ds))):=by
 have hN:(["columns","rows","room","sizes","names","line"]:List Str).Nodup:=by decide
 exact Fn.okF Fm (k:=6) (g:=oJ cj dH) λ_ _ _ _ _ _ hr=>(ag (cC at3 hN (aC tx hr (aa (ai at0) (aa (ai at1) (aa (ai at2) ae))))) (ag (sW 4 hN (N':=["column"]) (ix:=[]) bf rfl (bT (ai at0)) (λC s₂ H₂ fp=>(ce (bw at0) aj)) (λC s₂ H₂ fp=>bI)) (ag (cC at5 hN (B5 (az (l:=[32]) rfl (by decide)) (aa (cK (bD (N':=["size"]) (ix:=[]) bf rfl (bT (ai at3)) (λC s₂ H₂ fp=>(bP (az (l:=[45]) rfl (by decide)) (bw at0))) (λC s₂ H₂ fp=>bI))) ae))) (zt 4 (ag (aX (bE (bH (cF (aa (aC xX hr (aa (ai at0) (aa (ai at3) (aa (ai at4) ae)))) (aa (ai at5) ae)))) (cK (bD (N':=["row","columns","sizes"]) (ix:=[0,3]) bf rfl (bT (ai at1)) (λC s₂ H₂ fp=>(aC xX hr (aa (bw at1) (aa (bw at2) (aa (bw at0) ae))))) (λC s₂ H₂ fp=>bI))))) ax)))))
def sx:FnScope ["thing"] ["thing"] (ar (top 53)):=by walk_at "s"
def tD:FnScope ["wishes","room"] ["wishes","room"] (ar (top 55)):=by walk_at "s"
def rX{fO:List D->R D}{lg:Tok}(dg:mg "MOST_SHARED"=some (.int 999 lg))(bA:Ref "NoNumber" af mg base)(cf:Ref "NoRoom" ah mg base)(vT:Callee P w K mg base "are_wishes" 3 1 fO)(aN:Callee P w K mg base "is_within" 3 3 ad)(sS:Callee P w K mg base "shares" 3 2 ck)(Fn:FUz K "shared_out" 55 f fd):FnF P w K mg base 4 f fd ["wishes","room"] (λds=>aD (iu fO ad ck af ah (aw 2 ds))):=by refine Fn.okF tD (k:=3) (g:=iu fO ad ck af ah) λ_ _ _ _ _ _ hr=>?_;have hh:=hr.hd;exact(ag (dZ (bN (bQ (aC vT hr (aa (ai at0) ae)))) (ag (cH bA hh (az (l:=[119,105,115,104,101,115,32,97,114,101,32,119,104,111,108,101,32,110,117,109,98,101,114,115,32,102,114,111,109,32,48,32,116,111,32,57,57]) rfl (by decide))) ax) ax) (ag (dZ (bN (bQ (aC aN hr (aa (ai at1) (aa aj (aa (aY rfl dg) ae)))))) (ag (cH cf hh (az (l:=[97,32,114,111,111,109,32,116,111,32,98,101,32,115,104,97,114,101,100,32,111,117,116,32,105,115,32,102,114,111,109,32,48,32,116,111,32,57,57,57,32,115,105,103,110,115,32,119,105,100,101]) rfl (by decide))) ax) ax) (ag (aX (aC sS hr (aa (ai at0) (aa (ai at1) ae)))) ax)))
def je:FnScope ["_law_script","_law_many","_law_columns","_law_row","_law_told","_law_text","_law_wide","_law_due"] ["_law_script"] (ar (top 104)):=by walk_at "s"
def jn{kz cZ:List D->R D}(bi:mg "len"=none)(jA:mg "range"=none)(dX:Callee P w K mg base "_law_pick" 9 3 aR)(gA:Callee P w K mg base "is_table" 9 2 bB)(bp:Callee P w K mg base "_law_do" 9 4 av)(GY:Callee P w K mg base "table" 9 3 kz)(pQ:Callee P w K mg base "blank" 9 2 bM)(ni:Callee P w K mg base "shared_out" 9 2 cZ)(Fn:FUz K "_law_are_columns_told" 104 f fd):FnF P w K mg base 10 f fd ["_law_script"] (λds=>aD (bL aR bB av kz bM cZ (aw 8 ds))):=by
 have hN:(["_law_script","_law_many","_law_columns","_law_row","_law_told","_law_text","_law_wide","_law_due"]:List Str).Nodup:=by decide
 refine Fn.okF je (k:=9) (g:=bL aR bB av kz bM cZ) λ_ _ _ _ _ _ hr=>?_;have hu:=hr.units;exact(ag (cC at1 hN (bE aj (aC dX hr (aa (ai at0) (aa aj (aa aj ae)))))) (ag (Mh (cX (aa (bP (cX (aa (cX (aa (az (l:=[97,98]) rfl (by decide)) (aa (az (l:=[60]) rfl (by decide)) ae))) ae)) (ai at1)) (aa (bP (cX (aa (az (l:=[120]) rfl (by decide)) ae)) (ai at1)) ae))) rfl (dQ 2 hN (dQ 3 hN lN))) (ag (Iz 4 hN (cF (aa (aC gA hr (aa (ai at2) (aa (bP (bH (cF (aa (ai at3) ae))) aj) ae))) (aa (aC gA hr (aa (ai at2) (aa (bP (bH (cF (aa (ai at3) ae))) aj) ae))) ae)))) (ag (tW 4 (bH (cF (aa (aC gA hr (aa (bP (cX (aa (cX (aa (az (l:=[97]) rfl (by decide)) (aa (az (l:=[60]) rfl (by decide)) ae))) ae)) aj) (aa (bH (cF ae)) ae))) (aa (aC gA hr (aa (cX ae) (aa (bH (cF ae)) ae))) ae))))) (zt 4 (ag (dZ (eB hu (ai at4) (bH (cF (aa fg (aa fg (aa fg (aa fg ae))))))) (ag (aX fg) ax) ax) (ag (sW 4 hN (N':=["_law_room","_law_columns","_law_row"]) (ix:=[2,3]) bf rfl (bT (cX (aa (ee (bP aj (ai at1)) aj) (aa (ee (bP aj (ai at1)) aj) (aa aj (aa aj ae)))))) (λC s₂ H₂ fp=>(aC bp hr (aa aj (aa (bw at1) (aa (bH (cF (aa (bw at2) ae))) (aa (bw at0) ae)))))) (λC s₂ H₂ fp=>bI)) (zt 4 (ag (dZ (ir (dY (eB hu (ai at4) (bH (cF (aa (bP (bH (cF (aa aj ae))) (ai at1)) (aa (az (l:=[110,111,32,114,111,111,109]) rfl (by decide)) (aa (bP (bH (cF (aa aj ae))) (ai at1)) (aa (az (l:=[110,111,32,114,111,111,109]) rfl (by decide)) ae))))))) (dh (eB hu (eM rfl bi (aa (aC GY hr (aa (ai at2) (aa (bP (bH (cF (aa (ai at3) ae))) aj) (aa aj ae)))) ae)) aj)))) (ag (aX fg) ax) ax) (ag (cC at5 hN (kf (az (l:=[97,98,99,100,101,102,103,104,105,106]) rfl (by decide)) kg (rK (bE aj (aC dX hr (aa (ai at0) (aa aj (aa aj ae)))))))) (ag (wr pG rfl (AW rfl jA (aa aj (aa aj ae))) (fF 6 hN) (ag (cC at7 hN (CZ (Gr (eM rfl bi (aa (ai at5) ae)) (ai at6)) (ai at5) (bE (kf (ai at5) kg (rK (ee (ai at6) aj))) (az (l:=[126]) rfl (by decide))))) (ag (dZ (ir (dY (eB hu (aC bp hr (aa aj (aa (ai at5) (aa (ai at6) (aa bS ae))))) (ai at7)) (dh (eB hu (aC bp hr (aa aj (aa (ai at5) (aa (ai at6) (aa (az (l:=[60]) rfl (by decide)) ae))))) (bE (ai at7) (bP (az (l:=[32]) rfl (by decide)) (ee (ai at6) (eM rfl bi (aa (ai at7) ae))))))))) (ag (aX fg) ax) ax) ax))) (ag (cC at4 hN (bE (cK (bD (N':=["_law_wide","_law_text"]) (ix:=[5]) bf rfl (bT (cX (aa aj (aa aj ae)))) (λC s₂ H₂ fp=>(aC bp hr (aa aj (aa (bw at1) (aa (bw at0) (aa bS ae)))))) (λC s₂ H₂ fp=>bI))) (cK (bD (N':=["_law_wide"]) (ix:=[]) bf rfl (bT (cX (aa aj (aa aj ae)))) (λC s₂ H₂ fp=>(aC bp hr (aa aj (aa (bw at0) (aa aj (aa bS ae)))))) (λC s₂ H₂ fp=>bI))))) (ag (dZ (ir (dY (eB hu (bE (ai at4) (cK (bD (N':=["_law_many"]) (ix:=[]) bf rfl (bT (cX (aa aj (aa aj ae)))) (λC s₂ H₂ fp=>(aC bp hr (aa aj (aa aj (aa (bw at0) (aa bS ae)))))) (λC s₂ H₂ fp=>bI)))) (bP (bH (cF (aa (az (l:=[110,111,32,114,111,111,109]) rfl (by decide)) ae))) aj)) (dh (eB hu (ce (aC pQ hr (aa aj (aa aj ae))) aj) aj)))) (ag (aX fg) ax) ax) (ag (aX (eY (qI hu (aC ni hr (aa (bH (cF (aa aj (aa aj ae)))) (aa aj ae))) (bH (cF (aa aj (aa aj ae))))) (gC (qI hu (aC ni hr (aa (bH (cF (aa aj ae))) (aa aj ae))) (bH (cF (aa aj ae))))))) ax))))))))))))))
def pi:FnScope ["thing","order"] ["thing"] (ar (top 65)):=by walk_at "s"
def lX:FnScope ["one","other","text"] ["one","other"] (ar (top 66)):=by walk_at "s"
def vC:FnScope ["orders","short","order","both"] ["orders"] (ar (top 67)):=by walk_at "s"
def vd:FnScope ["self","name","total","number"] ["self","name","total"] (ar (jT (top 74) 1)):=by walk_at "s"
def uz(bi:mg "len"=none){mU:Tok}(dP:mg "MOST_TASKS"=some (.int 9 mU))(cf:Ref "NoRoom" ah mg base)(jg:Callee P w K mg base "check_plain" 3 1 aQ)(dv:Callee P w K mg base "check_total" 3 1 ak)(cA:CF K aL [2,3,4,5,6]){F:MF}(ok:rE aL (gw aL aQ ak ah) 4 F)(Fn:Fun K "add" "Board.add" (jT (top 74) 1) f fd):FnM P w K mg base 4 f fd ["self","name","total"] aL F:=by
 have hN:(["self","name","total","number"]:List Str).Nodup:=by decide
 refine Fn.okM vd ok (k:=3) λ_ _ _ _ _ _ hr=>?_;have hh:=hr.hd;exact(ag (hV (aC jg hr (aa (ai at1) ae))) (ag (hV (aC dv hr (aa (ai at2) ae))) (ag (dZ (Np (Ip 0 5 cA (by decide) rfl bi) (aY rfl dP)) (ag (cH cf hh (az (l:=[97,32,98,111,97,114,100,32,104,97,115,32,57,32,116,97,115,107,115,32,97,116,32,109,111,115,116]) rfl (by decide))) ax) ax) (ag (cC at3 hN (Kx 0 6 cA (by decide))) (ag (Hn 0 5 cA (by decide) (cX (aa (ai at3) (aa (ai at1) (aa aj (aa (ai at2) ae))))) (ai at3)) (ag (JC 0 6 cA (by decide) aj) (ag (JZ (ai at3)) ax)))))))
def ss:FnScope ["self","width"] ["self","width"] (ar (jT (top 74) 0)):=by walk_at "s"
def tq{cB:Tok}(bc:mg "MOST_WIDTH"=some (.int 40 cB)){la:Tok}(dn:mg "LEAST_BOARD"=some (.int 20 la)){fC:Tok}(bV:mg "MOST_ROWS"=some (.int 12 fC))(cf:Ref "NoRoom" ah mg base)(aN:Callee P w K mg base "is_within" 3 3 ad)(pQ:Callee P w K mg base "blank" 3 2 bM)(cA:CF K aL [2,3,4,5,6]){F:MF}(ok:rE aL (fG aL ad bM ah) 2 F)(Fn:Fun K "__init__" "Board.__init__" (jT (top 74) 0) f fd):FnM P w K mg base 4 f fd ["self","width"] aL F:=by refine Fn.okM ss ok (k:=3) λ_ _ _ _ _ _ hr=>?_;have hh:=hr.hd;exact(ag (dZ (bN (bQ (aC aN hr (aa (ai at1) (aa (aY rfl dn) (aa (aY rfl bc) ae)))))) (ag (cH cf hh (az (l:=[97,32,98,111,97,114,100,32,105,115,32,102,114,111,109,32,50,48,32,116,111,32,52,48,32,115,105,103,110,115,32,119,105,100,101]) rfl (by decide))) ax) ax) (ag (Bu 0 2 cA (by decide) (ai at1)) (ag (Bu 0 3 cA (by decide) (aC pQ hr (aa (ai at1) (aa (aY rfl bV) ae)))) (ag (JF 0 4 cA (by decide) (cF ae)) (ag (KZ 0 5 cA (by decide)) (ag (Bu 0 6 cA (by decide) aj) ax))))))
def JU:FnScope ["_law_script","_law_many","_law_one","_law_other","_law_some","_law_whole","_law_told","_law_odd","_law_board"] ["_law_script"] (ar (top 105)):=by walk_at "s"
def Kf{cO fJ:MF}{bF bo cm:List D->R D}(bi:mg "len"=none)(lu:Callee P w K mg base "_law_are_counted" 10 1 bF)(jO:Callee P w K mg base "_law_are_times_read" 10 0 bo)(jc:Callee P w K mg base "_law_are_columns_told" 10 1 bg)(dX:Callee P w K mg base "_law_pick" 10 3 aR)(pp:Callee P w K mg base "shortened" 10 1 cm)(bp:Callee P w K mg base "_law_do" 10 4 av)(cA:CF K aL [2,3,4,5,6])(wW:MCallee P w K mg base aL "add" 10 2 cO)(C9:MkC P w K mg base aL "Board" 9 1 fJ){gr:List D->R D}(hg:∀ds:List D,ds.length=1->gr ds=.no\/∀q,aD (uh aL cO fJ bF bo bg aR cm av q (aw 9 ds))=gr ds)(Fn:FUz K "law" 105 f fd):FnF P w K mg base 11 f fd ["_law_script"] gr:=by
 have hN:(["_law_script","_law_many","_law_one","_law_other","_law_some","_law_whole","_law_told","_law_odd","_law_board"]:List Str).Nodup:=by decide
 refine Fn.okA JU (k:=10) (g:=uh aL cO fJ bF bo bg aR cm av) hg λcdv A outer s H E hr=>?_;have hu:=hr.units;have h_0:PSF (fV (CXo P w) P w K mg base ["_law_script","_law_many","_law_one","_law_other","_law_some","_law_whole","_law_told","_law_odd","_law_board"] "law" (ar (top 105)) f cdv A outer s H E) ((cg (top 105)).getD 0 (.Pass ⟨0,0,0,0⟩)) (vb bF bo bg):=(dZ (ir (dY (bN (bQ (aC lu hr (aa (ai at0) ae)))) (dY (bN (bQ (Hd jO hr))) (dh (bN (bQ (aC jc hr (aa (ai at0) ae)))))))) (ag (aX fg) ax) ax)
 have h_1:PSF (fV (CXo P w) P w K mg base ["_law_script","_law_many","_law_one","_law_other","_law_some","_law_whole","_law_told","_law_odd","_law_board"] "law" (ar (top 105)) f cdv A outer s H E) ((cg (top 105)).getD 1 (.Pass ⟨0,0,0,0⟩)) (wa aR):=(cC at1 hN (aC dX hr (aa (ai at0) (aa aj (aa aj ae)))))
 have h_2:PSF (fV (CXo P w) P w K mg base ["_law_script","_law_many","_law_one","_law_other","_law_some","_law_whole","_law_told","_law_odd","_law_board"] "law" (ar (top 105)) f cdv A outer s H E) ((cg (top 105)).getD 2 (.Pass ⟨0,0,0,0⟩)) (yc):=(Ov 2 3 rfl hN (aa (bP (az (l:=[97]) rfl (by decide)) (ai at1)) (aa (bP (az (l:=[98]) rfl (by decide)) (ee aj (ai at1))) ae)))
 have h_3:PSF (fV (CXo P w) P w K mg base ["_law_script","_law_many","_law_one","_law_other","_law_some","_law_whole","_law_told","_law_odd","_law_board"] "law" (ar (top 105)) f cdv A outer s H E) ((cg (top 105)).getD 3 (.Pass ⟨0,0,0,0⟩)) (yM):=(sW 4 hN (N':=["_law_text"]) (ix:=[]) bf rfl (bT (cX (aa (ai at2) (aa (ai at3) ae)))) (λC s₂ H₂ fp=>(cX (aa (az (l:=[115,97,121]) rfl (by decide)) (aa (bw at0) ae)))) (λC s₂ H₂ fp=>(GG (eB hu (bw at0) (az (l:=[]) rfl (by decide))))))
 have h_4:PSF (fV (CXo P w) P w K mg base ["_law_script","_law_many","_law_one","_law_other","_law_some","_law_whole","_law_told","_law_odd","_law_board"] "law" (ar (top 105)) f cdv A outer s H E) ((cg (top 105)).getD 4 (.Pass ⟨0,0,0,0⟩)) (yg):=(cC at5 hN (bH (cF (aa (cX (aa (az (l:=[115,97,121]) rfl (by decide)) (aa (bE (ai at2) (ai at3)) ae))) ae))))
 have h_5:PSF (fV (CXo P w) P w K mg base ["_law_script","_law_many","_law_one","_law_other","_law_some","_law_whole","_law_told","_law_odd","_law_board"] "law" (ar (top 105)) f cdv A outer s H E) ((cg (top 105)).getD 5 (.Pass ⟨0,0,0,0⟩)) (yy cm):=(cC at6 hN (aC pp hr (aa (bE (ai at4) (bH (cF (aa (cX (aa (az (l:=[115,97,121]) rfl (by decide)) (aa (az (l:=[99]) rfl (by decide)) ae))) ae)))) ae)))
 have h_6:PSF (fV (CXo P w) P w K mg base ["_law_script","_law_many","_law_one","_law_other","_law_some","_law_whole","_law_told","_law_odd","_law_board"] "law" (ar (top 105)) f cdv A outer s H E) ((cg (top 105)).getD 6 (.Pass ⟨0,0,0,0⟩)) (yC cm):=(dZ (ir (dY (eB hu (aC pp hr (aa (ai at4) ae)) (ai at5)) (dY (eB hu (eM rfl bi (aa (ai at6) ae)) aj) (dh (eB hu (B5 (az (l:=[]) rfl (by decide)) (aa (cK (bD (N':=["_law_order"]) (ix:=[]) bf rfl (bT (ai at6)) (λC s₂ H₂ fp=>(ce (bw at0) aj)) (λC s₂ H₂ fp=>bI))) ae)) (bE (bE (ai at2) (ai at3)) (az (l:=[99]) rfl (by decide)))))))) (ag (aX fg) ax) ax)
 have h_7:PSF (fV (CXo P w) P w K mg base ["_law_script","_law_many","_law_one","_law_other","_law_some","_law_whole","_law_told","_law_odd","_law_board"] "law" (ar (top 105)) f cdv A outer s H E) ((cg (top 105)).getD 7 (.Pass ⟨0,0,0,0⟩)) (uZ):=(cC at7 hN (bH (cF (aa (az (l:=[103,111,32,49,10]) rfl (by decide)) (aa (az (l:=[103,111,32,49,32,49,48,48,10]) rfl (by decide)) (aa (az (l:=[103,111,32,49,48,48,32,49,10]) rfl (by decide)) (aa (az (l:=[103,111,32,48,49,32,49,10]) rfl (by decide)) (aa (az (l:=[103,111,32,49,50,32,49,10]) rfl (by decide)) (aa (az (l:=[103,111,32,49,32,52,49,10]) rfl (by decide)) (aa (az (l:=[103,111,32,49,32,49,32,49,10]) rfl (by decide)) (aa (az (l:=[115,97,121,32,10]) rfl (by decide)) ae)))))))))))
 have h_8:PSF (fV (CXo P w) P w K mg base ["_law_script","_law_many","_law_one","_law_other","_law_some","_law_whole","_law_told","_law_odd","_law_board"] "law" (ar (top 105)) f cdv A outer s H E) ((cg (top 105)).getD 8 (.Pass ⟨0,0,0,0⟩)) (vh av):=(dZ (eB hu (cK (bD (N':=["_law_text"]) (ix:=[]) bf rfl (bT (ai at7)) (λC s₂ H₂ fp=>(aC bp hr (aa aj (aa (bw at0) (aa bS (aa bS ae)))))) (λC s₂ H₂ fp=>bI))) (bP (bH (cF (aa (az (l:=[110,111,32,116,101,120,116]) rfl (by decide)) ae))) aj)) (ag (aX fg) ax) ax)
 have h_9:PSF (fV (CXo P w) P w K mg base ["_law_script","_law_many","_law_one","_law_other","_law_some","_law_whole","_law_told","_law_odd","_law_board"] "law" (ar (top 105)) f cdv A outer s H E) ((cg (top 105)).getD 9 (.Pass ⟨0,0,0,0⟩)) (oV av):=(dZ (eB hu (aC bp hr (aa aj (aa (az (l:=[103,111,32,49,49,32,52,48,10]) rfl (by decide)) (aa bS (aa bS ae))))) (bH (cF (aa (cX (aa (az (l:=[103,111]) rfl (by decide)) (aa aj (aa aj ae)))) ae)))) (ag (aX fg) ax) ax)
 have h_11:PSF (fV (CXo P w) P w K mg base ["_law_script","_law_many","_law_one","_law_other","_law_some","_law_whole","_law_told","_law_odd","_law_board"] "law" (ar (top 105)) f cdv A outer s H E) ((cg (top 105)).getD 11 (.Pass ⟨0,0,0,0⟩)) (xh aL cO):=(Ik 8 hu (N':=["_law_total","_law_board"]) bf rfl cA wW hr (bT (cX (aa aj (aa (yb aj aj) ae)))) (λC s₂ H₂ fp=>(aa (az (l:=[120]) rfl (by decide)) (aa (bw at0) ae))) (bH (cF (aa aj (aa aj ae)))))
 exact(iw h_0 (iw h_1 (iw h_2 (iw h_3 (iw h_4 (Mb 4 (iw h_5 (iw h_6 (iw h_7 (iw h_8 (iw h_9 (Jn 8 C9 hr hN (aa aj ae) (Hk (ag h_11 ax))))))))))))))
end
def K3{w:World}{K:PySem.W.Frag}{mg:Str->Option Value}{fa:Addr}(hfa:mg "law"=some (.ref fa))(fL:mg "ValueError"=none)(eR:mg "all"=none)(vO:mg "bool"=none)(gM:mg "enumerate"=none)(lA:mg "int"=none)(aq:mg "isinstance"=none)(bi:mg "len"=none)(ia:mg "list"=none)(AY:mg "max"=none)(vz:mg "min"=none)(jA:mg "range"=none)(fR:mg "str"=none)(A8:mg "sum"=none)(cT:mg "tuple"=none)(vc:mg "zip"=none)(cD:∃t,mg "BAR_ENDS"=some (.int 2 t))(fw:∃t,mg "CUT_MARK"=some (.str "~" t))(gX:∃t,mg "FIGURES"=some (.str "0123456789" t))(lh:∃t,mg "HOUR"=some (.int 3600 t))(cM:∃t,mg "LEAST_BAR"=some (.int 3 t))(dn:∃t,mg "LEAST_BOARD"=some (.int 20 t))(dI:∃t,mg "LEAST_MANY"=some (.int 2 t))(cE:∃t,mg "LONGEST_CLOCK"=some (.int 12 t))(fZ:∃t,mg "MINUTE"=some (.int 60 t))(dB:∃t,mg "MOST_BAR"=some (.int 40 t))(cL:∃t,mg "MOST_COLUMNS"=some (.int 6 t))(bx:∃t,mg "MOST_COUNT"=some (.int 1000000000 t))(cP:∃t,mg "MOST_FIGURES"=some (.int 2 t))(eK:∃t,mg "MOST_MANY"=some (.int 99 t))(bV:∃t,mg "MOST_ROWS"=some (.int 12 t))(cN:∃t,mg "MOST_SAID"=some (.int 40 t))(dg:∃t,mg "MOST_SHARED"=some (.int 999 t))(bX:∃t,mg "MOST_TABLE_ROWS"=some (.int 9 t))(dP:∃t,mg "MOST_TASKS"=some (.int 9 t))(bc:∃t,mg "MOST_WIDTH"=some (.int 40 t))(eI:∃t,mg "MOST_WISH"=some (.int 99 t))(kJ:∃a,mg "SIDES"=some (.ref a)/\KTup K a [[60],[62],[94]])(mr:PySem.W.nsIn K mainGlobals "NoNumber"=some (some (.ref af)))(ma:PySem.W.excIn K af [.type "ValueError",.type "Exception",.type "BaseException",.type "object"] "ValueError.__new__"=true)(om:PySem.W.nsIn K mainGlobals "NoOrder"=some (some (.ref ao)))(oS:PySem.W.excIn K ao [.type "ValueError",.type "Exception",.type "BaseException",.type "object"] "ValueError.__new__"=true)(sA:PySem.W.nsIn K mainGlobals "NoRoom"=some (some (.ref ah)))(tB:PySem.W.excIn K ah [.type "ValueError",.type "Exception",.type "BaseException",.type "object"] "ValueError.__new__"=true)(pw:PySem.W.nsIn K mainGlobals "NoTable"=some (some (.ref aA)))(oW:PySem.W.excIn K aA [.type "ValueError",.type "Exception",.type "BaseException",.type "object"] "ValueError.__new__"=true)(sD:PySem.W.nsIn K mainGlobals "NoText"=some (some (.ref am)))(sC:PySem.W.excIn K am [.type "ValueError",.type "Exception",.type "BaseException",.type "object"] "ValueError.__new__"=true)(xP:PySem.W.nsIn K mainGlobals "Board"=some (some (.ref aL)))(cA:CF K aL [2,3,4,5,6])(nd:[aH,ao,ah,af,aA,aU,am].Nodup)(Er:Errs K mg [af,ao,ah,aA,am] [("NoScreen",aH),("NoOrder",ao),("NoRoom",ah),("NoNumber",af),("NoTable",aA),("NoTask",aU),("NoText",am)])(h98:∃f fd,FUz K "_law_cell" 98 f fd/\mg "_law_cell"=some (.ref f))(h99:∃f fd,FUz K "_law_pick" 99 f fd/\mg "_law_pick"=some (.ref f))(h12:∃f fd,FUz K "is_whole" 12 f fd/\mg "is_whole"=some (.ref f))(h13:∃f fd,FUz K "is_within" 13 f fd/\mg "is_within"=some (.ref f))(h27:∃f fd,FUz K "check_total" 27 f fd/\mg "check_total"=some (.ref f))(h28:∃f fd,FUz K "check_done" 28 f fd/\mg "check_done"=some (.ref f))(h30:∃f fd,FUz K "bar_text" 30 f fd/\mg "bar_text"=some (.ref f))(h31:∃f fd,FUz K "bar" 31 f fd/\mg "bar"=some (.ref f))(h40:∃f fd,FUz K "is_sample" 40 f fd/\mg "is_sample"=some (.ref f))(h41:∃f fd,FUz K "are_samples" 41 f fd/\mg "are_samples"=some (.ref f))(h29:∃f fd,FUz K "rounded_up" 29 f fd/\mg "rounded_up"=some (.ref f))(h42:∃f fd,FUz K "time_left" 42 f fd/\mg "time_left"=some (.ref f))(h14:∃f fd,FUz K "is_plain" 14 f fd/\mg "is_plain"=some (.ref f))(h15:∃f fd,FUz K "check_plain" 15 f fd/\mg "check_plain"=some (.ref f))(h56:∃f fd,FUz K "check_width" 56 f fd/\mg "check_width"=some (.ref f))(h57:∃f fd,FUz K "cut" 57 f fd/\mg "cut"=some (.ref f))(h52:∃f fd,FUz K "is_side" 52 f fd/\mg "is_side"=some (.ref f))(h58:∃f fd,FUz K "filled_to" 58 f fd/\mg "filled_to"=some (.ref f))(h78:∃f fd,FUz K "is_column" 78 f fd/\mg "is_column"=some (.ref f))(h79:∃f fd,FUz K "are_columns" 79 f fd/\mg "are_columns"=some (.ref f))(h80:∃f fd,FUz K "is_table_row" 80 f fd/\mg "is_table_row"=some (.ref f))(h81:∃f fd,FUz K "is_table" 81 f fd/\mg "is_table"=some (.ref f))(h82:∃f fd,FUz K "check_table" 82 f fd/\mg "check_table"=some (.ref f))(h83:∃f fd,FUz K "column_wish" 83 f fd/\mg "column_wish"=some (.ref f))(h54:∃f fd,FUz K "shares" 54 f fd/\mg "shares"=some (.ref f))(h84:∃f fd,FUz K "widths" 84 f fd/\mg "widths"=some (.ref f))(h32:∃f fd,FUz K "is_bar" 32 f fd/\mg "is_bar"=some (.ref f))(h33:∃f fd,FUz K "bar_means" 33 f fd/\mg "bar_means"=some (.ref f))(h34:∃f fd,FUz K "percent" 34 f fd/\mg "percent"=some (.ref f))(h35:∃f fd,FUz K "counted" 35 f fd/\mg "counted"=some (.ref f))(h46:∃f fd,FUz K "blank" 46 f fd/\mg "blank"=some (.ref f))(h36:∃f fd,FUz K "two_figures" 36 f fd/\mg "two_figures"=some (.ref f))(h37:∃f fd,FUz K "clock" 37 f fd/\mg "clock"=some (.ref f))(h16:∃f fd,FUz K "are_figures" 16 f fd/\mg "are_figures"=some (.ref f))(h38:∃f fd,FUz K "seconds_or_none" 38 f fd/\mg "seconds_or_none"=some (.ref f))(h39:∃f fd,FUz K "read_clock" 39 f fd/\mg "read_clock"=some (.ref f))(h92:∃f fd,FUz K "lines_of" 92 f fd/\mg "lines_of"=some (.ref f))(h90:∃f fd,FUz K "is_short_number" 90 f fd/\mg "is_short_number"=some (.ref f))(h91:∃f fd,FUz K "spot_or_none" 91 f fd/\mg "spot_or_none"=some (.ref f))(h94:∃f fd,FUz K "order_or_none" 94 f fd/\mg "order_or_none"=some (.ref f))(h61:∃f fd,FUz K "is_say" 61 f fd/\mg "is_say"=some (.ref f))(h62:∃f fd,FUz K "is_go" 62 f fd/\mg "is_go"=some (.ref f))(h63:∃f fd,FUz K "is_order" 63 f fd/\mg "is_order"=some (.ref f))(h64:∃f fd,FUz K "check_order" 64 f fd/\mg "check_order"=some (.ref f))(h89:∃f fd,FUz K "spot_text" 89 f fd/\mg "spot_text"=some (.ref f))(h93:∃f fd,FUz K "order_text" 93 f fd/\mg "order_text"=some (.ref f))(h95:∃f fd,FUz K "read_order" 95 f fd/\mg "read_order"=some (.ref f))(h96:∃f fd,FUz K "read_orders" 96 f fd/\mg "read_orders"=some (.ref f))(h100:∃f fd,FUz K "_law_word" 100 f fd/\mg "_law_word"=some (.ref f))(h101:∃f fd,FUz K "_law_do" 101 f fd/\mg "_law_do"=some (.ref f))(h102:∃f fd,FUz K "_law_are_counted" 102 f fd/\mg "_law_are_counted"=some (.ref f))(h103:∃f fd,FUz K "_law_are_times_read" 103 f fd/\mg "_law_are_times_read"=some (.ref f))(h85:∃f fd,FUz K "fitted" 85 f fd/\mg "fitted"=some (.ref f))(h86:∃f fd,FUz K "table" 86 f fd/\mg "table"=some (.ref f))(h53:∃f fd,FUz K "are_wishes" 53 f fd/\mg "are_wishes"=some (.ref f))(h55:∃f fd,FUz K "shared_out" 55 f fd/\mg "shared_out"=some (.ref f))(h104:∃f fd,FUz K "_law_are_columns_told" 104 f fd/\mg "_law_are_columns_told"=some (.ref f))(h65:∃f fd,FUz K "check_orders" 65 f fd/\mg "check_orders"=some (.ref f))(h66:∃f fd,FUz K "joined_or_none" 66 f fd/\mg "joined_or_none"=some (.ref f))(h67:∃f fd,FUz K "shortened" 67 f fd/\mg "shortened"=some (.ref f))(h74_1:∃f fd,Fun K "add" "Board.add" (jT (top 74) 1) f fd/\Meth K aL "add" f)(h74_0:∃f fd,Fun K "__init__" "Board.__init__" (jT (top 74) 0) f fd/\Mk K aL f)(h105:∃f fd,FUz K "law" 105 f fd/\mg "law"=some (.ref f)):
  ∃fd:FuncData,(∀(s:Shared)(u:Value),BindsTo s fd ⟨[u],[]⟩ [("_law_script",u)])/\∀base:Heap,K.In base->base.Ns mainGlobals mg->FnF P w K mg base 11 fa fd ["_law_script"] Ey:=by
 obtain⟨gB,cD⟩:=cD;obtain⟨rf,fw⟩:=fw;obtain⟨uU,gX⟩:=gX;obtain⟨Gg,lh⟩:=lh;obtain⟨jj,cM⟩:=cM;obtain⟨la,dn⟩:=dn;obtain⟨mG,dI⟩:=dI;obtain⟨jS,cE⟩:=cE;obtain⟨yf,fZ⟩:=fZ;obtain⟨ka,dB⟩:=dB;obtain⟨kq,cL⟩:=cL;obtain⟨cY,bx⟩:=bx;obtain⟨ko,cP⟩:=cP;obtain⟨oF,eK⟩:=eK;obtain⟨fC,bV⟩:=bV;obtain⟨jh,cN⟩:=cN;obtain⟨lg,dg⟩:=dg;obtain⟨iP,bX⟩:=bX;obtain⟨mU,dP⟩:=dP;obtain⟨cB,bc⟩:=bc;obtain⟨pf,eI⟩:=eI;obtain⟨xK,kJ,xT⟩:=kJ;obtain⟨f98,d98,F98⟩:=h98;obtain⟨f99,d99,F99⟩:=h99;obtain⟨f12,d12,F12⟩:=h12;obtain⟨f13,d13,F13⟩:=h13;obtain⟨f27,d27,F27⟩:=h27;obtain⟨f28,d28,F28⟩:=h28;obtain⟨f30,d30,F30⟩:=h30;obtain⟨f31,d31,F31⟩:=h31;obtain⟨f40,d40,F40⟩:=h40;obtain⟨f41,d41,F41⟩:=h41;obtain⟨f29,d29,F29⟩:=h29;obtain⟨f42,d42,F42⟩:=h42;obtain⟨f14,d14,F14⟩:=h14;obtain⟨f15,d15,F15⟩:=h15;obtain⟨f56,d56,F56⟩:=h56;obtain⟨f57,d57,F57⟩:=h57;obtain⟨f52,d52,F52⟩:=h52;obtain⟨f58,d58,F58⟩:=h58;obtain⟨f78,d78,F78⟩:=h78;obtain⟨f79,d79,F79⟩:=h79;obtain⟨f80,d80,F80⟩:=h80;obtain⟨f81,d81,F81⟩:=h81;obtain⟨f82,d82,F82⟩:=h82;obtain⟨f83,d83,F83⟩:=h83;obtain⟨f54,d54,F54⟩:=h54;obtain⟨f84,d84,F84⟩:=h84;obtain⟨f32,d32,F32⟩:=h32;obtain⟨f33,d33,F33⟩:=h33;obtain⟨f34,d34,F34⟩:=h34;obtain⟨f35,d35,F35⟩:=h35;obtain⟨f46,d46,F46⟩:=h46;obtain⟨f36,d36,F36⟩:=h36;obtain⟨f37,d37,F37⟩:=h37;obtain⟨f16,d16,F16⟩:=h16;obtain⟨f38,d38,F38⟩:=h38;obtain⟨f39,d39,F39⟩:=h39;obtain⟨f92,d92,F92⟩:=h92;obtain⟨f90,d90,F90⟩:=h90;obtain⟨f91,d91,F91⟩:=h91;obtain⟨f94,d94,F94⟩:=h94;obtain⟨f61,d61,F61⟩:=h61;obtain⟨f62,d62,F62⟩:=h62;obtain⟨f63,d63,F63⟩:=h63;obtain⟨f64,d64,F64⟩:=h64;obtain⟨f89,d89,F89⟩:=h89;obtain⟨f93,d93,F93⟩:=h93;obtain⟨f95,d95,F95⟩:=h95;obtain⟨f96,d96,F96⟩:=h96;obtain⟨f100,d100,F100⟩:=h100;obtain⟨f101,d101,F101⟩:=h101;obtain⟨f102,d102,F102⟩:=h102;obtain⟨f103,d103,F103⟩:=h103;obtain⟨f85,d85,F85⟩:=h85;obtain⟨f86,d86,F86⟩:=h86;obtain⟨f53,d53,F53⟩:=h53;obtain⟨f55,d55,F55⟩:=h55;obtain⟨f104,d104,F104⟩:=h104;obtain⟨f65,d65,F65⟩:=h65;obtain⟨f66,d66,F66⟩:=h66;obtain⟨f67,d67,F67⟩:=h67;obtain⟨f74_1,d74_1,F74_1⟩:=h74_1;obtain⟨f74_0,d74_0,F74_0⟩:=h74_0;obtain⟨f105,d105,F105⟩:=h105;have e:fa=f105:=by have:=hfa.symm.trans F105.2;injection this with this;injection this
 subst e;refine⟨d105,λs u=>?_,λbase kb nb=>?_⟩;·obtain⟨oc,od,kV,doc,pm,an,cdv,ct,osl,rfl,lk,hcd⟩:=F105.1.ex;exact .of_eq rfl
 ·have bA:=uu (x:="NoNumber") kb nb mr ma;have iQ:=uu (x:="NoOrder") kb nb om oS;have cf:=uu (x:="NoRoom") kb nb sA tB;have oY:=uu (x:="NoTable") kb nb pw oW;have cQ:=uu (x:="NoText") kb nb sD sC;have E4:=wo kb nb xP;have k98:=F98.1.callee F98.2 ((F98.1.okF (P:=P) (w:=w) (base:=base) xH (k:=0) (g:=fK) λ_ _ _ _ _ _ hr=>(ag (dZ (Bv (ai at1) (eM rfl bi (aa (ai at0) ae))) (ag (aX (ce (ai at0) (ai at1))) ax) ax) (ag (dZ (pZ hr.units (ai at0) (bH (cF ae))) (ag (aX aj) ax) ax) (ag (aX (bE (bP (ce (ai at0) (rP (ai at1) (eM rfl bi (aa (ai at0) ae)))) aj) (ai at1))) ax)))).to (tfr (F:=Dj))) (by walk_at "2");have k99:=F99.1.callee F99.2 ((F99.1.okF wB (k:=1) (g:=fH _) λ_ _ _ _ _ _ hr=>(ag (cC at3 wB.nd (rP (bP (bE (aC k98 hr (aa (ai at0) (aa (ai at1) ae))) (bP aj (bE (ai at1) aj))) aj) aj)) (ag (aX (rP (rP (bE (bP (ai at3) (ai at3)) (jR (ai at3) aj)) aj) (ai at2))) ax))).to (tfr (F:=nv))) (by walk_at "3");have k12:=F12.1.callee F12.2 ((F12.1.okF (P:=P) (w:=w) (base:=base) wQ (k:=0) (g:=ic) λ_ _ _ _ _ _ hr=>(ag (aX (eY (G9 aq (ai at0) lA) (gC (JP (Ew aq (ai at0) vO))))) ax)).to xA) (by walk_at "1");have k13:=F13.1.callee F13.2 ((F13.1.okF vt (k:=1) (g:=gv _) λ_ _ _ _ _ _ hr=>(ag (aX (eY (aC k12 hr (aa (ai at0) ae)) (gC (xa (ai at1) (ai at0) (ai at2))))) ax)).to wq) (by walk_at "3");have k27:=F27.1.callee F27.2 ((F27.1.okF qg (k:=2) (g:=gR _ _) λ_ _ _ _ _ _ hr=>(ag (dZ (bN (bQ (aC k13 hr (aa (ai at0) (aa aj (aa (aY rfl bx) ae)))))) (ag (cH bA hr.hd (az (l:=[97,32,116,111,116,97,108,32,105,115,32,97,32,119,104,111,108,101,32,110,117,109,98,101,114,32,102,114,111,109,32,49,32,116,111,32,49,48,48,48,48,48,48,48,48,48]) rfl (by decide))) ax) ax) ax)).to (tfr (F:=bR _))) (by walk_at "1");have k13m3:=k13.mono 3;have k28:=F28.1.callee F28.2 ((F28.1.okF sQ (k:=3) (g:=im _ _ _) λ_ _ _ _ _ _ hr=>(ag (hV (aC k27 hr (aa (ai at1) ae))) (ag (dZ (bN (bQ (aC k13m3 hr (aa (ai at0) (aa aj (aa (ai at1) ae)))))) (ag (cH bA hr.hd (az (l:=[119,104,97,116,32,105,115,32,100,111,110,101,32,105,115,32,97,32,119,104,111,108,101,32,110,117,109,98,101,114,32,102,114,111,109,32,48,32,116,111,32,116,104,101,32,116,111,116,97,108]) rfl (by decide))) ax) ax) ax))).to (tfr (F:=cq _))) (by walk_at "2");have k30:=F30.1.callee F30.2 ((F30.1.okF (P:=P) (w:=w) (base:=base) wE (k:=0) (g:=jE) λ_ _ _ _ _ _ hr=>(ag (aX (bE (bE (bE (az (l:=[91]) rfl (by decide)) (bP (az (l:=[35]) rfl (by decide)) (ai at0))) (bP (az (l:=[46]) rfl (by decide)) (ee (ai at1) (ai at0)))) (az (l:=[93]) rfl (by decide)))) ax)).to (tfr (F:=kL))) (by walk_at "2");have k31:=F31.1.callee F31.2 ((J4 dB cM cD cf k28 (k13.mono 4) (k30.mono 4) F31.1).to (tfr (F:=FP _ _))) (by walk_at "3");have k40:=F40.1.callee F40.2 ((F40.1.okF uB (k:=2) (g:=jm _) λ_ _ _ _ _ _ hr=>(ag (dZ (ir (dY (bN (bQ (jB aq (ai at0) cT))) (dh (eB hr.units (eM rfl bi (aa (ai at0) ae)) aj)))) (ag (aX fg) ax) ax) (ag (aX (eY (aC k13 hr (aa (ce (ai at0) aj) (aa aj (aa (aY rfl bx) ae)))) (gC (aC k13 hr (aa (ce (ai at0) aj) (aa aj (aa (ai at1) ae))))))) ax))).to (tfr (F:=rg))) (by walk_at "2");have k41:=F41.1.callee F41.2 ((qy eR aq ia vc k40 F41.1).to (tfr (F:=ng))) (by walk_at "2");have k29:=F29.1.callee F29.2 ((F29.1.okF (P:=P) (w:=w) (base:=base) sN (k:=0) (g:=iG) λ_ _ _ _ _ _ hr=>(ag (aX (jR (ee (bE (ai at0) (ai at1)) aj) (ai at1))) ax)).to (tfr (F:=kD))) (by walk_at "2");have k42:=F42.1.callee F42.2 ((uG bi eK dI bA (k27.mono 4) (k13.mono 4) k41 (k29.mono 4) F42.1).to (tfr (F:=fE _))) (by walk_at "3");have k14:=F14.1.callee F14.2 ((F14.1.okF (P:=P) (w:=w) (base:=base) xC (k:=0) (g:=ie) λ_ _ _ _ _ _ hr=>(ag (aX (eY (tM aq (ai at0) fR) (gC (qu rfl rfl eR (aa (cK (bD (N':=["sign"]) (ix:=[]) bf rfl (bT (ai at0)) (λC s₂ H₂ fp=>(xa (az (l:=[32]) rfl (by decide)) (bw at0) (az (l:=[126]) rfl (by decide)))) (λC s₂ H₂ fp=>bI))) ae))))) ax)).to wF) (by walk_at "1");have k15:=F15.1.callee F15.2 ((F15.1.okF qh (k:=1) (g:=eU _ _) λ_ _ _ _ _ _ hr=>(ag (dZ (bN (bQ (aC k14 hr (aa (ai at0) ae)))) (ag (cH cQ hr.hd (az (l:=[116,104,105,115,32,105,115,32,110,111,32,112,108,97,105,110,32,116,101,120,116]) rfl (by decide))) ax) ax) ax)).to qi) (by walk_at "1");have k56:=F56.1.callee F56.2 ((F56.1.okF qS (k:=2) (g:=eZ _ _) λ_ _ _ _ _ _ hr=>(ag (dZ (bN (bQ (aC k13 hr (aa (ai at0) (aa aj (aa (aY rfl bc) ae)))))) (ag (cH cf hr.hd (az (l:=[97,32,119,105,100,116,104,32,105,115,32,102,114,111,109,32,49,32,116,111,32,52,48,32,115,105,103,110,115]) rfl (by decide))) ax) ax) ax)).to qH) (by walk_at "1");have k15m3:=k15.mono 3;have k57:=F57.1.callee F57.2 ((F57.1.okF Lq (k:=3) (g:=uf _ _) λ_ _ _ _ _ _ hr=>(ag (hV (aC k15m3 hr (aa (ai at0) ae))) (ag (hV (aC k56 hr (aa (ai at1) ae))) (ag (dZ (Gr (eM rfl bi (aa (ai at0) ae)) (ai at1)) (ag (aX (ai at0)) ax) ax) (ag (aX (bE (kf (ai at0) kg (rK (ee (ai at1) aj))) (yK (l:=[126]) rfl fw rfl (by decide)))) ax))))).to Jt) (by walk_at "2");have k52:=F52.1.callee F52.2 ((F52.1.okF (P:=P) (w:=w) (base:=base) zq (k:=0) (g:=jo) λ_ _ _ _ _ _ hr=>(ag (aX (JI hr.units (ai at0) (CW (ls:=[[60],[62],[94]]) rfl kJ xT))) ax)).to zM) (by walk_at "1");have k58:=F58.1.callee F58.2 ((vK bi bA k57 (k52.mono 4) F58.1).to vH) (by walk_at "3");have k78:=F78.1.callee F78.2 ((F78.1.okF uI (k:=1) (g:=iW _ _) λ_ _ _ _ _ _ hr=>(ag (aX (eY (jB aq (ai at0) cT) (eY (qI hr.units (eM rfl bi (aa (ai at0) ae)) aj) (eY (aC k14 hr (aa (ce (ai at0) aj) ae)) (gC (aC k52 hr (aa (ce (ai at0) aj) ae))))))) ax)).to (tfr (F:=icF))) (by walk_at "1");have k79:=F79.1.callee F79.2 ((F79.1.okF qD (k:=2) (g:=gN _) λ_ _ _ _ _ _ hr=>(ag (dZ (ir (dY (bN (bQ (jB aq (ai at0) cT))) (dh (bN (Ae aj (eM rfl bi (aa (ai at0) ae)) (aY rfl cL)))))) (ag (aX fg) ax) ax) (ag (aX (qu rfl rfl eR (aa (cK (bD (N':=["part"]) (ix:=[]) bf rfl (bT (ai at0)) (λC s₂ H₂ fp=>(aC k78 hr (aa (bw at0) ae))) (λC s₂ H₂ fp=>bI))) ae))) ax))).to (tfr (F:=acF))) (by walk_at "1");have k80:=F80.1.callee F80.2 ((F80.1.okF oI (k:=1) (g:=fS _) λ_ _ _ _ _ _ hr=>(ag (aX (eY (jB aq (ai at0) cT) (eY (qI hr.units (eM rfl bi (aa (ai at0) ae)) (ai at1)) (gC (qu rfl rfl eR (aa (cK (bD (N':=["text"]) (ix:=[]) bf rfl (bT (ai at0)) (λC s₂ H₂ fp=>(aC k14 hr (aa (bw at0) ae))) (λC s₂ H₂ fp=>bI))) ae)))))) ax)).to (tfr (F:=OB))) (by walk_at "2");have k80m3:=k80.mono 3;have k81:=F81.1.callee F81.2 ((F81.1.okF wS (k:=3) (g:=jQ _ _) λ_ _ _ _ _ _ hr=>(ag (dZ (ir (dY (bN (bQ (aC k79 hr (aa (ai at0) ae)))) (dY (bN (bQ (tj aq (ai at1) ia))) (dh (zi (eM rfl bi (aa (ai at1) ae)) (aY rfl bX)))))) (ag (aX fg) ax) ax) (ag (aX (qu rfl rfl eR (aa (cK (bD (N':=["row","columns"]) (ix:=[0]) bf rfl (bT (ai at1)) (λC s₂ H₂ fp=>(aC k80m3 hr (aa (bw at0) (aa (eM rfl bi (aa (bw at1) ae)) ae)))) (λC s₂ H₂ fp=>bI))) ae))) ax))).to (tfr (F:=Fp))) (by walk_at "2");have k82:=F82.1.callee F82.2 ((F82.1.okF qc (k:=4) (g:=gS _ _) λ_ _ _ _ _ _ hr=>(ag (dZ (bN (bQ (aC k81 hr (aa (ai at0) (aa (ai at1) ae))))) (ag (cH oY hr.hd (az (l:=[116,104,105,115,32,105,115,32,110,111,32,116,97,98,108,101]) rfl (by decide))) ax) ax) ax)).to (tfr (F:=O6 _))) (by walk_at "2");have k83:=F83.1.callee F83.2 ((F83.1.okF (P:=P) (w:=w) (base:=base) qx (k:=0) (g:=gP) λ_ _ _ _ _ _ hr=>(ag (cC at3 qx.nd (bE (bH (cF (aa (ce (ce (ai at0) (ai at2)) aj) ae))) (cK (bD (N':=["row","number"]) (ix:=[2]) bf rfl (bT (ai at1)) (λC s₂ H₂ fp=>(ce (bw at0) (bw at1))) (λC s₂ H₂ fp=>bI))))) (ag (aX (Kc rfl rfl AY (aa (bE (bH (cF (aa aj ae))) (cK (bD (N':=["text"]) (ix:=[]) bf rfl (bT (ai at3)) (λC s₂ H₂ fp=>(eM rfl bi (aa (bw at0) ae))) (λC s₂ H₂ fp=>bI)))) ae))) ax))).to (tfr (F:=O4))) (by walk_at "3");have k54:=F54.1.callee F54.2 ((AE (P:=P) (w:=w) (base:=base) gM vz A8 F54.1).to Cw) (by walk_at "2");have k84:=F84.1.callee F84.2 ((Ci bi jA bc cf k82 (k13.mono 5) (k83.mono 5) (k54.mono 5) F84.1).to (tfr (F:=wdF _ _))) (by walk_at "3");have k32:=F32.1.callee F32.2 ((F32.1.okF AX (k:=1) (g:=lS _) λ_ _ _ _ _ _ hr=>(ag (dZ (ir (dY (bN (bQ (tM aq (ai at0) fR))) (dh (bN (Ae (aY rfl cM) (eM rfl bi (aa (ai at0) ae)) (aY rfl dB)))))) (ag (aX fg) ax) ax) (ag (aX (qI hr.units (ai at0) (aC k30 hr (aa (yB (ai at0) (aa (az (l:=[35]) rfl (by decide)) ae)) (aa (ee (eM rfl bi (aa (ai at0) ae)) (aY rfl cD)) ae))))) ax))).to (tfr (F:=Bf))) (by walk_at "1");have k33:=F33.1.callee F33.2 ((wg bi vz cD cQ (k32.mono 3) k27 (k29.mono 3) F33.1).to (tfr (F:=iJ _ _))) (by walk_at "2");have k34:=F34.1.callee F34.2 ((F34.1.okF zX (k:=4) (g:=kC _) λ_ _ _ _ _ _ hr=>(ag (hV (aC k28 hr (aa (ai at0) (aa (ai at1) ae)))) (ag (aX (wH (oQ rfl fR (aa (jR (bP (ai at0) aj) (ai at1)) ae)) (aa aj ae))) ax))).to (tfr (F:=nQ _))) (by walk_at "2");have k35:=F35.1.callee F35.2 ((F35.1.okF zR (k:=4) (g:=kE _) λ_ _ _ _ _ _ hr=>(ag (hV (aC k28 hr (aa (ai at0) (aa (ai at1) ae)))) (ag (aX (wH (tm (pR (ai at0)) (az (l:=[47]) rfl (by decide)) (pR (ai at1))) (aa (eM rfl bi (aa (tm (pR (ai at1)) (az (l:=[47]) rfl (by decide)) (pR (ai at1))) ae)) ae))) ax))).to (tfr (F:=kP _))) (by walk_at "2");have k46:=F46.1.callee F46.2 ((Ex bc bV cf k13 F46.1).to (tfr (F:=fb _))) (by walk_at "2");have k36:=F36.1.callee F36.2 ((F36.1.okF (P:=P) (w:=w) (base:=base) qN (k:=0) (g:=gZ) λ_ _ _ _ _ _ hr=>(ag (aX (HY (oQ rfl fR (aa (ai at0) ae)) (aa aj ae))) ax)).to (tfr (F:=mM))) (by walk_at "1");have k37:=F37.1.callee F37.2 ((Du bx fZ lh bA k13 (k36.mono 2) F37.1).to (tfr (F:=gF _))) (by walk_at "1");have k16:=F16.1.callee F16.2 ((F16.1.okF (P:=P) (w:=w) (base:=base) qA (k:=0) (g:=gO) λ_ _ _ _ _ _ hr=>(ag (aX (eY (NY hr.units (ai at0) (az (l:=[]) rfl (by decide))) (gC (qu rfl rfl eR (aa (cK (bD (N':=["sign"]) (ix:=[]) bf rfl (bT (ai at0)) (λC s₂ H₂ fp=>(Lv (bw at0) (yK (l:=[48,49,50,51,52,53,54,55,56,57]) rfl gX rfl (by decide)))) (λC s₂ H₂ fp=>bI))) ae))))) ax)).to (tfr (F:=jL))) (by walk_at "1");have k38:=F38.1.callee F38.2 ((lr eR lA aq bi fR cE k16 F38.1).to (tfr (F:=ju))) (by walk_at "1");have k38m3:=k38.mono 3;have k39:=F39.1.callee F39.2 ((F39.1.okF su (k:=3) (g:=iz _ _ _ _) λ_ _ _ _ _ _ hr=>(ag (cC at1 su.nd (aC k38m3 hr (aa (ai at0) ae))) (ag (dZ (ir (dY (bN (bQ (aC k13m3 hr (aa (ai at1) (aa aj (aa (aY rfl bx) ae)))))) (dh (eB hr.units (aC k37 hr (aa (ai at1) ae)) (ai at0))))) (ag (cH cQ hr.hd (az (l:=[110,111,32,99,108,111,99,107,32,114,101,97,100,115,32,115,111]) rfl (by decide))) ax) ax) (ag (aX (ai at1)) ax)))).to (tfr (F:=gK _ _))) (by walk_at "1");have k92:=F92.1.callee F92.2 ((xu (P:=P) (w:=w) (base:=base) aq fR cQ F92.1).to (tfr (F:=uo _))) (by walk_at "1");have k90:=F90.1.callee F90.2 ((F90.1.okF lF (k:=1) (g:=eG _) λ_ _ _ _ _ _ hr=>(ag (aX (eY (aC k16 hr (aa (ai at0) ae)) (gC (KQ (eM rfl bi (aa (ai at0) ae)) (aY rfl cP))))) ax)).to (tfr (F:=jv))) (by walk_at "1");have k91:=F91.1.callee F91.2 ((oM eR lA bi k90 F91.1).to (tfr (F:=kO))) (by walk_at "1");have k94:=F94.1.callee F94.2 ((nF k91 F94.1).to (tfr (F:=kj))) (by walk_at "1");have k61:=F61.1.callee F61.2 ((F61.1.okF Ai (k:=1) (g:=mC _) λ_ _ _ _ _ _ hr=>(ag (aX (eY (qI hr.units (eM rfl bi (aa (ai at0) ae)) aj) (eY (qI hr.units (ce (ai at0) aj) (az (l:=[115,97,121]) rfl (by decide))) (eY (aC k14 hr (aa (ce (ai at0) aj) ae)) (gC (xa aj (eM rfl bi (aa (ce (ai at0) aj) ae)) (aY rfl cN))))))) ax)).to (tfr (F:=Ag))) (by walk_at "1");have k62:=F62.1.callee F62.2 ((F62.1.okF EJ (k:=2) (g:=oB _) λ_ _ _ _ _ _ hr=>(ag (dZ (ir (dY (eB hr.units (eM rfl bi (aa (ai at0) ae)) aj) (dh (eB hr.units (ce (ai at0) aj) (az (l:=[103,111]) rfl (by decide)))))) (ag (aX fg) ax) ax) (ag (aX (eY (aC k13 hr (aa (ce (ai at0) aj) (aa aj (aa (ee (aY rfl bV) aj) ae)))) (gC (aC k13 hr (aa (ce (ai at0) aj) (aa aj (aa (aY rfl bc) ae))))))) ax))).to (tfr (F:=FS))) (by walk_at "1");have k61m3:=k61.mono 3;have k63:=F63.1.callee F63.2 ((F63.1.okF xr (k:=3) (g:=jG _ _) λ_ _ _ _ _ _ hr=>(ag (dZ (bN (bQ (jB aq (ai at0) cT))) (ag (aX fg) ax) ax) (ag (aX (Ld (aC k61m3 hr (aa (ai at0) ae)) (Ld (aC k62 hr (aa (ai at0) ae)) (gC (qI hr.units (ai at0) (cX (aa (az (l:=[119,105,112,101]) rfl (by decide)) ae))))))) ax))).to (tfr (F:=oX))) (by walk_at "1");have k64:=F64.1.callee F64.2 ((F64.1.okF qR (k:=4) (g:=gT _ _) λ_ _ _ _ _ _ hr=>(ag (dZ (bN (bQ (aC k63 hr (aa (ai at0) ae)))) (ag (cH iQ hr.hd (az (l:=[116,104,105,115,32,105,115,32,110,111,32,111,114,100,101,114]) rfl (by decide))) ax) ax) ax)).to (tfr (F:=jw _))) (by walk_at "1");have k89:=F89.1.callee F89.2 ((F89.1.okF (P:=P) (w:=w) (base:=base) vR (k:=0) (g:=iV) λ_ _ _ _ _ _ hr=>(ag (aX (tm (pR (ai at0)) (az (l:=[32]) rfl (by decide)) (pR (ai at1)))) ax)).to (tfr (F:=rl))) (by walk_at "2");have k93:=F93.1.callee F93.2 ((tO k64 (k89.mono 5) F93.1).to (tfr (F:=pK _))) (by walk_at "1");have k94m6:=k94.mono 6;have k63m6:=k63.mono 6;have k95:=F95.1.callee F95.2 ((F95.1.okF td (k:=6) (g:=iq _ _ _ _) λ_ _ _ _ _ _ hr=>(ag (cC at1 td.nd (aC k94m6 hr (aa (ai at0) ae))) (ag (dZ (ir (dY (bN (bQ (aC k63m6 hr (aa (ai at1) ae)))) (dh (eB hr.units (aC k93 hr (aa (ai at1) ae)) (ai at0))))) (ag (cH cQ hr.hd (az (l:=[110,111,32,111,114,100,101,114,32,105,115,32,119,114,105,116,116,101,110,32,115,111]) rfl (by decide))) ax) ax) (ag (aX (ai at1)) ax)))).to (tfr (F:=nV _ _))) (by walk_at "1");have k92m7:=k92.mono 7;have k96:=F96.1.callee F96.2 ((F96.1.okF qm (k:=7) (g:=gY _ _) λ_ _ _ _ _ _ hr=>(ag (aX (cK (Ay rfl rfl (N':=["line"]) (ix:=[]) bf rfl (bT (aC k92m7 hr (aa (ai at0) ae))) (λC s₂ H₂ fp pn xe=>(aC k95 hr (aa (GA at0) ae))) (λC s₂ H₂ fp=>bI)))) ax)).to (tfr (F:=fM _ _))) (by walk_at "1");have k100:=F100.1.callee F100.2 ((wP (P:=P) (w:=w) (base:=base) fL aq Er F100.1).to (wL nd)) (by walk_at "1");have k101:=F101.1.callee F101.2 ((As (k31.mono 8) (k42.mono 8) (k58.mono 8) (k84.mono 8) (k33.mono 8) (k34.mono 8) (k35.mono 8) (k57.mono 8) (k46.mono 8) (k37.mono 8) (k39.mono 8) k96 (k100.mono 8) Er F101.1).to (Am nd)) (by walk_at "4");have k102:=F102.1.callee F102.2 ((lC bi fR (k99.mono 9) k101 F102.1).to (tfr (F:=mB _))) (by walk_at "1");have k103:=F103.1.callee F103.2 ((jx k101 F103.1).to (tfr (F:=rq _))) λ_ _ _ _ _ _ us hl=>by cases us <;> first|rfl|cases hl
  have k85:=F85.1.callee F85.2 ((Bg vc k58 F85.1).to (tfr (F:=OY _ _ _))) (by walk_at "3");have k86:=F86.1.callee F86.2 ((EV k84 k85 F86.1).to (tfr (F:=tbF _ _ _ _))) (by walk_at "3");have k53:=F53.1.callee F53.2 ((F53.1.okF sx (k:=2) (g:=iy _) λ_ _ _ _ _ _ hr=>(ag (aX (eY (LP aq (ai at0) ia cT) (gC (qu rfl rfl eR (aa (cK (bD (N':=["wish"]) (ix:=[]) bf rfl (bT (ai at0)) (λC s₂ H₂ fp=>(aC k13 hr (aa (bw at0) (aa aj (aa (aY rfl eI) ae))))) (λC s₂ H₂ fp=>bI))) ae))))) ax)).to se) (by walk_at "1");have k55:=F55.1.callee F55.2 ((rX dg bA cf k53 (k13.mono 3) (k54.mono 3) F55.1).to tJ) (by walk_at "2");have k104:=F104.1.callee F104.2 ((jn bi jA (k99.mono 9) (k81.mono 9) k101 (k86.mono 9) (k46.mono 9) (k55.mono 9) F104.1).to (tfr (F:=zI _ _ _ _))) (by walk_at "1");have k65:=F65.1.callee F65.2 ((F65.1.okF pi (k:=5) (g:=fT _ _) λ_ _ _ _ _ _ hr=>(ag (dZ (bN (bQ (tj aq (ai at0) ia))) (ag (cH iQ hr.hd (az (l:=[116,104,105,115,32,105,115,32,110,111,32,108,105,115,116,32,111,102,32,111,114,100,101,114,115]) rfl (by decide))) ax) ax) (ag (wr pG rfl (bT (ai at0)) (fF 1 pi.nd) (ag (hV (aC k64 hr (aa (ai at1) ae))) ax)) ax))).to (tfr (F:=kZ _))) (by walk_at "1");have k66:=F66.1.callee F66.2 ((F66.1.okF (P:=P) (w:=w) (base:=base) lX (k:=0) (g:=fo) λ_ _ _ _ _ _ hr=>(ag (dZ (eB hr.units (ce (ai at0) aj) (ce (ai at1) aj)) (ag (aX bS) ax) ax) (ag (dZ (eB hr.units (ce (ai at0) aj) (az (l:=[115,97,121]) rfl (by decide))) (ag (aX (ai at1)) ax) ax) (ag (cC at2 lX.nd (bE (ce (ai at0) aj) (ce (ai at1) aj))) (ag (aX (CZ (Gr (eM rfl bi (aa (ai at2) ae)) (aY rfl cN)) (cX (aa (az (l:=[115,97,121]) rfl (by decide)) (aa (ai at2) ae))) bS)) ax))))).to (tfr (F:=jz))) (by walk_at "2");have k66m6:=k66.mono 6;have k67:=F67.1.callee F67.2 ((F67.1.okF vC (k:=6) (g:=jd _ _) λ_ _ _ _ _ _ hr=>(ag (hV (aC k65 hr (aa (ai at0) ae))) (ag (Iz 1 vC.nd (cF ae)) (ag (wr pG rfl (bT (ai at0)) (fF 2 vC.nd) (ag (LK 1 3 vC.nd (CZ (zi (eM rfl bi (aa (ai at1) ae)) aj) (aC k66m6 hr (aa (ce (ai at1) (wN aj)) (aa (ai at2) ae))) bS)) (ag (dZ (GN (ai at3) bS) (ag (DS 1 (ai at2)) ax) (ag (Jx 1 (ai at3) (wN aj)) ax)) ax))) (zt 1 (ag (aX (ai at1)) ax)))))).to (tfr (F:=eP _))) (by walk_at "1");have k74_1:=GH F74_1.1 F74_1.2 (uz (P:=P) (w:=w) (mg:=mg) (base:=base) bi dP cf (k15.mono 3) k27 cA KG F74_1.1) (by walk_at "3") (n:=2) rfl;have k74_0:=mkc F74_0.1 F74_0.2 E4 cA.ne (tq (P:=P) (w:=w) (mg:=mg) (base:=base) bc dn bV cf (k13.mono 3) k46 cA IR F74_0.1) (by walk_at "2") (n:=1) rfl;exact Kf bi k102 k103 k104 (k99.mono 10) (k67.mono 10) (k101.mono 10) cA (k74_1.mono 10) (Eu k74_0 9) (Gn (NP nd)) F105.1
end G90
namespace PySem.W.Fast
theorem tw147502382944416772:True:=⟨⟩
theorem tw11963948606726952490:True:=⟨⟩
theorem tw12110956027270760788:True:=⟨⟩
theorem tw17260111505527937390:True:=⟨⟩
theorem tw1990382404808507089:True:=⟨⟩
theorem tw1216524892306323094:True:=⟨⟩
theorem tw31535202698029158:True:=⟨⟩
theorem tw15612181486803857279:True:=⟨⟩
theorem tw12597914776961744146:True:=⟨⟩
theorem tw4944696063379339501:True:=⟨⟩
theorem tw18254027590443991859:True:=⟨⟩
theorem tw15134429820219189145:True:=⟨⟩
theorem tw7276538888658830485:True:=⟨⟩
theorem tw6411805755358172236:True:=⟨⟩
theorem tw3612527223822479731:True:=⟨⟩
theorem tw8853477356780273234:True:=⟨⟩
theorem tw17212590166602504649:True:=⟨⟩
theorem tw10983388591156992344:True:=⟨⟩
theorem tw17154815721651771644:True:=⟨⟩
theorem tw7733194326392099959:True:=⟨⟩
theorem tw2824560971945128525:True:=⟨⟩
theorem tw5802559749396579418:True:=⟨⟩
theorem tw8921336029265146909:True:=⟨⟩
theorem tw6591872039238607697:True:=⟨⟩
theorem tw207606156611064542:True:=⟨⟩
theorem tw12357270869990571605:True:=⟨⟩
theorem tw16477102863283323222:True:=⟨⟩
theorem tw15842459024499223264:True:=⟨⟩
theorem tw14124135971915060495:True:=⟨⟩
theorem tw12762299233867089363:True:=⟨⟩
theorem tw3310555679774262162:True:=⟨⟩
theorem tw10541578262052055239:True:=⟨⟩
theorem tw10113417399136374641:True:=⟨⟩
theorem tw15258514237279257515:True:=⟨⟩
theorem tw5147948056609955201:True:=⟨⟩
theorem tw3364890304616168477:True:=⟨⟩
theorem tw880613495190913050:True:=⟨⟩
theorem tw15795826051498257502:True:=⟨⟩
theorem tw2064707905227063138:True:=⟨⟩
theorem tw3549667056687772869:True:=⟨⟩
theorem tw4569572250687324614:True:=⟨⟩
theorem tw36823995154883399:True:=⟨⟩
theorem tw4201759082582766796:True:=⟨⟩
theorem tw1706733063826869805:True:=⟨⟩
theorem tw28197442334857198:True:=⟨⟩
theorem tw7689046439911656623:True:=⟨⟩
theorem tw3695905013975678319:True:=⟨⟩
theorem tw988419731482120818:True:=⟨⟩
theorem tw6373244305658638678:True:=⟨⟩
theorem tw17536953650687926871:True:=⟨⟩
theorem tw11541823828262531096:True:=⟨⟩
theorem tw7129518540642109435:True:=⟨⟩
theorem tw15508451884231684220:True:=⟨⟩
theorem tw17138402863344252220:True:=⟨⟩
theorem tw6161795257554743228:True:=⟨⟩
theorem tw6228714074523622493:True:=⟨⟩
theorem tw15024554219657356989:True:=⟨⟩
end PySem.W.Fast
open PySem PySem.W PyProof.Rows
set_option maxRecDepth 100000 in
set_option maxHeartbeats 0 in
theorem PySem.Challenge.cw_screenlines_k90_whole_bounds_holds : PySem.Challenge.rw_screenlines_k90_whole_bounds.Holds := by
 w_on;o_law;k_head;(case hw=>w_witness2)
 k_fill
 refine Q.Qc (l:=PySem.Challenge.rw_screenlines_k90_whole_bounds) (L:=11) ⟨rfl,by decide,by decide⟩ rfl rfl (λw h Y=>PySem.W.kIn_of Y) ?F
 case F=>
  intro w mg fa h KX G hmg;have fL:mg "ValueError"=none:=t7 KX G (by k_is);have eR:mg "all"=none:=t7 KX G (by k_is);have vO:mg "bool"=none:=t7 KX G (by k_is);have gM:mg "enumerate"=none:=t7 KX G (by k_is);have lA:mg "int"=none:=t7 KX G (by k_is);have aq:mg "isinstance"=none:=t7 KX G (by k_is);have bi:mg "len"=none:=t7 KX G (by k_is);have ia:mg "list"=none:=t7 KX G (by k_is);have AY:mg "max"=none:=t7 KX G (by k_is);have vz:mg "min"=none:=t7 KX G (by k_is);have jA:mg "range"=none:=t7 KX G (by k_is);have fR:mg "str"=none:=t7 KX G (by k_is);have A8:mg "sum"=none:=t7 KX G (by k_is);have cT:mg "tuple"=none:=t7 KX G (by k_is);have vc:mg "zip"=none:=t7 KX G (by k_is);have cD:∃t,mg "BAR_ENDS"=some (.int 2 t):=⟨_,wo KX G (by k_is)⟩
  have fw:∃t,mg "CUT_MARK"=some (.str "~" t):=⟨_,wo KX G (by k_is)⟩
  have gX:∃t,mg "FIGURES"=some (.str "0123456789" t):=⟨_,wo KX G (by k_is)⟩
  have lh:∃t,mg "HOUR"=some (.int 3600 t):=⟨_,wo KX G (by k_is)⟩
  have cM:∃t,mg "LEAST_BAR"=some (.int 3 t):=⟨_,wo KX G (by k_is)⟩
  have dn:∃t,mg "LEAST_BOARD"=some (.int 20 t):=⟨_,wo KX G (by k_is)⟩
  have dI:∃t,mg "LEAST_MANY"=some (.int 2 t):=⟨_,wo KX G (by k_is)⟩
  have cE:∃t,mg "LONGEST_CLOCK"=some (.int 12 t):=⟨_,wo KX G (by k_is)⟩
  have fZ:∃t,mg "MINUTE"=some (.int 60 t):=⟨_,wo KX G (by k_is)⟩
  have dB:∃t,mg "MOST_BAR"=some (.int 40 t):=⟨_,wo KX G (by k_is)⟩
  have cL:∃t,mg "MOST_COLUMNS"=some (.int 6 t):=⟨_,wo KX G (by k_is)⟩
  have bx:∃t,mg "MOST_COUNT"=some (.int 1000000000 t):=⟨_,wo KX G (by k_is)⟩
  have cP:∃t,mg "MOST_FIGURES"=some (.int 2 t):=⟨_,wo KX G (by k_is)⟩
  have eK:∃t,mg "MOST_MANY"=some (.int 99 t):=⟨_,wo KX G (by k_is)⟩
  have bV:∃t,mg "MOST_ROWS"=some (.int 12 t):=⟨_,wo KX G (by k_is)⟩
  have cN:∃t,mg "MOST_SAID"=some (.int 40 t):=⟨_,wo KX G (by k_is)⟩
  have dg:∃t,mg "MOST_SHARED"=some (.int 999 t):=⟨_,wo KX G (by k_is)⟩
  have bX:∃t,mg "MOST_TABLE_ROWS"=some (.int 9 t):=⟨_,wo KX G (by k_is)⟩
  have dP:∃t,mg "MOST_TASKS"=some (.int 9 t):=⟨_,wo KX G (by k_is)⟩
  have bc:∃t,mg "MOST_WIDTH"=some (.int 40 t):=⟨_,wo KX G (by k_is)⟩
  have eI:∃t,mg "MOST_WISH"=some (.int 99 t):=⟨_,wo KX G (by k_is)⟩
  have kJ:=Q.Jm (x:="SIDES") (vs:=[L2.V.str "<",L2.V.str ">",L2.V.str "^"]) (ls:=[[60],[62],[94]]) KX G (by k_is) (by k_is) (by decide) (.cons ⟨_,rfl⟩ (.cons ⟨_,rfl⟩ (.cons ⟨_,rfl⟩ .nil))) (λ_=>(.cons (.strL rfl (by decide)) (.cons (.strL rfl (by decide)) (.cons (.strL rfl (by decide)) .nil))));have h98:=Q.bb (x:="_law_cell") (st:=G90.top 98) KX G;have h99:=Q.bb (x:="_law_pick") (st:=G90.top 99) KX G;have h12:=Q.bb (x:="is_whole") (st:=G90.top 12) KX G;have h13:=Q.bb (x:="is_within") (st:=G90.top 13) KX G;have h27:=Q.bb (x:="check_total") (st:=G90.top 27) KX G;have h28:=Q.bb (x:="check_done") (st:=G90.top 28) KX G;have h30:=Q.bb (x:="bar_text") (st:=G90.top 30) KX G;have h31:=Q.bb (x:="bar") (st:=G90.top 31) KX G;have h40:=Q.bb (x:="is_sample") (st:=G90.top 40) KX G;have h41:=Q.bb (x:="are_samples") (st:=G90.top 41) KX G;have h29:=Q.bb (x:="rounded_up") (st:=G90.top 29) KX G;have h42:=Q.bb (x:="time_left") (st:=G90.top 42) KX G;have h14:=Q.bb (x:="is_plain") (st:=G90.top 14) KX G;have h15:=Q.bb (x:="check_plain") (st:=G90.top 15) KX G;have h56:=Q.bb (x:="check_width") (st:=G90.top 56) KX G;have h57:=Q.bb (x:="cut") (st:=G90.top 57) KX G;have h52:=Q.bb (x:="is_side") (st:=G90.top 52) KX G;have h58:=Q.bb (x:="filled_to") (st:=G90.top 58) KX G;have h78:=Q.bb (x:="is_column") (st:=G90.top 78) KX G;have h79:=Q.bb (x:="are_columns") (st:=G90.top 79) KX G;have h80:=Q.bb (x:="is_table_row") (st:=G90.top 80) KX G;have h81:=Q.bb (x:="is_table") (st:=G90.top 81) KX G;have h82:=Q.bb (x:="check_table") (st:=G90.top 82) KX G;have h83:=Q.bb (x:="column_wish") (st:=G90.top 83) KX G;have h54:=Q.bb (x:="shares") (st:=G90.top 54) KX G;have h84:=Q.bb (x:="widths") (st:=G90.top 84) KX G;have h32:=Q.bb (x:="is_bar") (st:=G90.top 32) KX G;have h33:=Q.bb (x:="bar_means") (st:=G90.top 33) KX G;have h34:=Q.bb (x:="percent") (st:=G90.top 34) KX G;have h35:=Q.bb (x:="counted") (st:=G90.top 35) KX G;have h46:=Q.bb (x:="blank") (st:=G90.top 46) KX G;have h36:=Q.bb (x:="two_figures") (st:=G90.top 36) KX G;have h37:=Q.bb (x:="clock") (st:=G90.top 37) KX G;have h16:=Q.bb (x:="are_figures") (st:=G90.top 16) KX G;have h38:=Q.bb (x:="seconds_or_none") (st:=G90.top 38) KX G;have h39:=Q.bb (x:="read_clock") (st:=G90.top 39) KX G;have h92:=Q.bb (x:="lines_of") (st:=G90.top 92) KX G;have h90:=Q.bb (x:="is_short_number") (st:=G90.top 90) KX G;have h91:=Q.bb (x:="spot_or_none") (st:=G90.top 91) KX G;have h94:=Q.bb (x:="order_or_none") (st:=G90.top 94) KX G;have h61:=Q.bb (x:="is_say") (st:=G90.top 61) KX G;have h62:=Q.bb (x:="is_go") (st:=G90.top 62) KX G;have h63:=Q.bb (x:="is_order") (st:=G90.top 63) KX G;have h64:=Q.bb (x:="check_order") (st:=G90.top 64) KX G;have h89:=Q.bb (x:="spot_text") (st:=G90.top 89) KX G;have h93:=Q.bb (x:="order_text") (st:=G90.top 93) KX G;have h95:=Q.bb (x:="read_order") (st:=G90.top 95) KX G;have h96:=Q.bb (x:="read_orders") (st:=G90.top 96) KX G;have h100:=Q.bb (x:="_law_word") (st:=G90.top 100) KX G;have h101:=Q.bb (x:="_law_do") (st:=G90.top 101) KX G;have h102:=Q.bb (x:="_law_are_counted") (st:=G90.top 102) KX G;have h103:=Q.bb (x:="_law_are_times_read") (st:=G90.top 103) KX G;have h85:=Q.bb (x:="fitted") (st:=G90.top 85) KX G;have h86:=Q.bb (x:="table") (st:=G90.top 86) KX G;have h53:=Q.bb (x:="are_wishes") (st:=G90.top 53) KX G;have h55:=Q.bb (x:="shared_out") (st:=G90.top 55) KX G;have h104:=Q.bb (x:="_law_are_columns_told") (st:=G90.top 104) KX G;have h65:=Q.bb (x:="check_orders") (st:=G90.top 65) KX G;have h66:=Q.bb (x:="joined_or_none") (st:=G90.top 66) KX G;have h67:=Q.bb (x:="shortened") (st:=G90.top 67) KX G;have h105:=Q.bb (x:="law") (st:=G90.top 105) KX G
  refine' G90.K3 (P:=_) (w:=w) (K:=L2.KOf KX) hmg fL eR vO gM lA aq bi ia AY vz jA fR A8 cT vc cD fw gX lh cM dn dI cE fZ dB cL bx cP eK bV cN dg bX dP bc eI kJ ?mr ?ma ?om ?oS ?sA ?tB ?pw ?oW ?sD ?sC ?xP ?cA ?nd (Q.HK KX G ?xq ?h1 ?h2 ?tL ?yL ?lb) h98 h99 h12 h13 h27 h28 h30 h31 h40 h41 h29 h42 h14 h15 h56 h57 h52 h58 h78 h79 h80 h81 h82 h83 h54 h84 h32 h33 h34 h35 h46 h36 h37 h16 h38 h39 h92 h90 h91 h94 h61 h62 h63 h64 h89 h93 h95 h96 h100 h101 h102 h103 h85 h86 h53 h55 h104 h65 h66 h67 ?h74_1 ?h74_0 h105
  all_goals (try dsimp only[L2.KOf])
  (case mr=>k_is)
  (case om=>k_is)
  (case sA=>k_is)
  (case pw=>k_is)
  (case sD=>k_is)
  (case xq=>k_is)
  (case h1=>dsimp only[Q.TsOk];exact⟨by k_is,⟨_,by k_is⟩,by k_is,by k_is,⟨_,by k_is⟩,by k_is,by k_is,⟨_,by k_is⟩,by k_is,by k_is,⟨_,by k_is⟩,by k_is,by k_is,⟨_,by k_is⟩,by k_is,by k_is,⟨_,by k_is⟩,by k_is,by k_is,⟨_,by k_is⟩,by k_is,trivial⟩)
  (case h2=>dsimp only[Q.RsOk,Q.SubOk];exact⟨Q.vi (by k_is) (by k_is) (by k_is) (by k_is) (by k_is) (by k_is) (by k_is) (by k_is),⟨.inr (by k_is),.inr (by k_is),.inr (by k_is),.inl rfl,.inr (by k_is),.inr (by k_is),.inr (by k_is),trivial⟩,by k_is,by k_is,Q.vi (by k_is) (by k_is) (by k_is) (by k_is) (by k_is) (by k_is) (by k_is) (by k_is),⟨.inr (by k_is),.inl rfl,.inr (by k_is),.inr (by k_is),.inr (by k_is),.inr (by k_is),.inr (by k_is),trivial⟩,by k_is,by k_is,Q.vi (by k_is) (by k_is) (by k_is) (by k_is) (by k_is) (by k_is) (by k_is) (by k_is),⟨.inr (by k_is),.inr (by k_is),.inl rfl,.inr (by k_is),.inr (by k_is),.inr (by k_is),.inr (by k_is),trivial⟩,by k_is,by k_is,Q.vi (by k_is) (by k_is) (by k_is) (by k_is) (by k_is) (by k_is) (by k_is) (by k_is),⟨.inr (by k_is),.inr (by k_is),.inr (by k_is),.inr (by k_is),.inl rfl,.inr (by k_is),.inr (by k_is),trivial⟩,by k_is,by k_is,Q.vi (by k_is) (by k_is) (by k_is) (by k_is) (by k_is) (by k_is) (by k_is) (by k_is),⟨.inr (by k_is),.inr (by k_is),.inr (by k_is),.inr (by k_is),.inr (by k_is),.inr (by k_is),.inl rfl,trivial⟩,by k_is,by k_is,trivial⟩)
  (case tL=>k_is)
  (case yL=>k_is)
  (case lb=>k_is)
  (case nd=>decide)
  (case ma=>k_exc)
  (case oS=>k_exc)
  (case tB=>k_exc)
  (case oW=>k_exc)
  (case sC=>k_exc)
  (case xP=>k_is)
  (case cA=>exact Q.pN 2 (x:="width") (Q.pN 3 (x:="screen") (Q.pN 4 (x:="last_notes") (Q.pN 5 (x:="tasks") (Q.pN 6 (x:="numbers_given") (Q.LU (by decide) (by k_is) (by k_is) (by k_is) (by k_is)) (by decide) rfl (by k_is)) (by decide) rfl (by k_is)) (by decide) rfl (by k_is)) (by decide) rfl (by k_is)) (by decide) rfl (by k_is))
  (case h74_1=>exact Q.IU (st:=(L2.jT (G90.top 74) 1)) (by k_is) (by k_is) (by k_is) (by k_is) (by k_is))
  (case h74_0=>exact Q.HE (st:=(L2.jT (G90.top 74) 0)) (by k_is) (by k_is) (by k_is) (by k_is) (by k_is) (by k_is) (by k_is))
end
end
