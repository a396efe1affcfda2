import PyProof.Rows.All
import Wide.All
import OpenK.AllK
import Wide.FinOn
import Lean
import PyProof.EqAt
import PyProof.EqKinds
import PyProof.TupleCall
import PyProof.NeKinds
import KE.KDictOf
import PyProof.Rows.TupDisplay
import PyProof.DictItems
import KE.KPairComp
import PyProof.Draws
import KE.KTupSum
import KE.KIntText
import PyProof.Rows.Range3
import PyProof.Rows.FStr
import PyProof.StrCalls2
import PyProof.StrLawsTight
import PyProof.StrLawsIn
import PyProof.StrCalls
import KE.KLam
import KE.KMinKey
import PyProof.Rows.RuleN_abs
import PyProof.Rows.StrCut
import PySem.Challenge.RW_screenlines_k90_whole_bounds
section
open PySem PySem.Spec PyProof.Rows
def z9:=@wpAny_bind
def zd:=@wpAny_pure
def zj:=@Heap.lt_size
def zq:=@Nat.le_refl
noncomputable def zL:=@Heap.get?_push_of_some
def y9:=@List.mem_cons
def yc:=@wpAny_mono
def yR:=@Ne.symm
noncomputable def x9:=@List.size_toArray
noncomputable def xf:=@Option.some.inj
def xh:=@Nat.ne_of_lt
noncomputable def xj:=@Heap.get?_push_size
def xk:=@Nat.le_trans
noncomputable def xu:=@List.mem_nil_iff
def xv:=@or_false
def xH:=@PySem.W.mg_of
def xK:=@if_true
noncomputable def xO:=@List.lookup_cons
noncomputable def xR:=@Bool.false_ne_true
noncomputable def w8:=@List.length_cons
def w9:=@wpAny_field
noncomputable def ww:=@Nat.lt_of_lt_of_le
noncomputable def wB:=@List.mem_cons_of_mem
def wG:=@Heap.size_push
noncomputable def wI:=@decide_eq_false
noncomputable def wK:=@List.getElem?_eq_some_iff
noncomputable def wU:=@List.length_map
noncomputable def wZ:=@List.getElem?_map
noncomputable def v4:=@List.getD_eq_getElem?_getD
noncomputable def v8:=@List.mem_cons_self
noncomputable def v9:=@List.getElem?_set_self
def vh:=@decide_eq_true
noncomputable def vB:=@List.getElem?_eq_getElem
def vF:=@congrArg
noncomputable def vM:=@PySem.W.mg_none_of
noncomputable def vU:=@List.getElem?_set_ne
noncomputable def u6:=@wpAny_newObj_type
def ub:=@List.map_cons
noncomputable def uC:=@List.length_append
noncomputable def uH:=@Int.toNat_natCast
def uM:=@if_false
def uR:=@call_meets
def uX:=@wpAny_holding
noncomputable def uZ:=@List.append_nil
noncomputable def t5:=@List.mem_append_right
def t6:=@beq_iff_eq
def t7:=@Nat.zero_le
noncomputable def t8:=@Option.map_some
noncomputable def t9:=@List.nodup_cons
def tz:=@Nat.not_lt
noncomputable def tD:=@wpAny_seqItems
def tH:=@Nat.lt_irrefl
noncomputable def tJ:=@wpAny_truthy_bool
def tO:=@IsTup.new
def sf:=@Nat.ne_of_gt
noncomputable def sh:=@List.length_replicate
noncomputable def sk:=@wpAny_callSpecial?_slot
noncomputable def sv:=@wpAny_call_entry
noncomputable def sH:=@Bool.and_eq_true
noncomputable def sM:=@List.replicate_succ
noncomputable def sO:=@List.all_eq_true
noncomputable def sT:=@lookup_relabel_local
noncomputable def r0:=@Int.toNat_of_nonneg
noncomputable def rX:=@PassesOwn.leaving
noncomputable def rZ:=@Nat.lt_succ_self
noncomputable def q9:=@List.getElem?_append_left
def qc:=@codeAny_mono
def qh:=@List.mem_map
noncomputable def qi:=@PySem.F.plainAttrs_str
noncomputable def qm:=@F.slot_tuple_iterator_next
def qu:=@wpAny_rule
noncomputable def qw:=@wpAny_passesOwn
noncomputable def qC:=@List.getElem?_append_right
noncomputable def qE:=@List.flatten_cons
def qF:=@wpAny_call
noncomputable def qJ:=@PySem.W.of_hideAll
noncomputable def qM:=@List.mem_append_left
def qQ:=@wpAny_standAt
noncomputable def qT:=@List.length_take
noncomputable def p0:=@PySem.mem_of_lookup
noncomputable def p6:=@List.getElem?_replicate
def p7:=@eq_of_beq
def p8:=@wpAny_attempt
def p9:=@wpAny_onRaise
noncomputable def pb:=@Obj.data_mapFields
noncomputable def pi:=@decide_eq_true_eq
noncomputable def pG:=@beq_eq_false_iff_ne
noncomputable def pY:=@Array.length_toList
noncomputable def o6:=@List.mem_filterMap
def o8:=@sizeLine_eq
noncomputable def o9:=@wpAny_Call_Name_kw
noncomputable def oq:=@List.length_drop
def oF:=@tupleItemsOf_
def oR:=@typeIs_str
noncomputable def n0:=@Heap.get?_update_self
def n6:=@typeIs_int
noncomputable def n8:=@List.append_assoc
noncomputable def n9:=@List.foldl_cons
noncomputable def nu:=@List.nil_append
noncomputable def nE:=@List.drop_zero
noncomputable def nK:=@Bool.false_eq_true
def ma:=@Nat.le_succ
noncomputable def md:=@Nat.lt_succ_of_lt
noncomputable def mf:=@List.drop_eq_getElem_cons
noncomputable def mP:=@wpAny_setField
noncomputable def l5:=@Heap.SameBut.update
noncomputable def l6:=@wpAny_setField_rec
noncomputable def l7:=@List.length_nil
noncomputable def l8:=@wpAny_execs_nil
noncomputable def l9:=@wpAny_bindName
noncomputable def li:=@List.of_mem_zip
noncomputable def lp:=@List.mem_of_getElem?
def lE:=@wpAny_typeOf
noncomputable def lT:=@F.slot_int_rmul
def lX:=@Nat.mul_comm
noncomputable def k6:=@wpAny_getItem_str_slice
noncomputable def k7:=@post_val_or_str
def k8:=@Txt.slice_le
noncomputable def k9:=@wpAny_pyIter_list
noncomputable def kG:=@wpAny_pyIter_tuple
noncomputable def kT:=@List.getElem?_set
noncomputable def kY:=@List.drop_length
def j0:=@eval_ListComp
noncomputable def j1:=@wpAny_comprehension_free
noncomputable def j2:=@PySem.F.plainAttrs_list
noncomputable def j3:=@PySem.W.callWith_K
noncomputable def j4:=@PySem.W.hideAll_get
noncomputable def j5:=@of_decide_eq_true
def j6:=@wpAny_of_eq
noncomputable def j7:=@beq_self_eq_true
noncomputable def j8:=@List.mem_singleton
def j9:=@List.sum_cons
def jb:=@List.map_map
noncomputable def jt:=@F.entry_tuple_iterator_next
noncomputable def i4:=@F.args_tuple_iterator_next_1
noncomputable def i5:=@wpAny_pyIter_enum
noncomputable def i6:=@wpAny_pyIter_zip
noncomputable def i7:=@Int.eq_ofNat_of_zero_le
noncomputable def i8:=@F.slot_zip_next
noncomputable def i9:=@StrLaws.subAt_one
noncomputable def il:=@List.filterMap_cons
noncomputable def io:=@assignInOrder_cons
noncomputable def iF:=@noFill_tuple_add
noncomputable def iN:=@Heap.get?_update_other
noncomputable def iO:=@List.length_set
noncomputable def fo:=@List.getElem_toArray
noncomputable def fG:=@List.map_append
noncomputable def eQ:=@List.map_congr_left
noncomputable def d0:=@List.toList_toArray
noncomputable def d3:=@List.getElem?_range
noncomputable def d4:=@List.getElem?_eq_none
noncomputable def d5:=@List.forIn_cons
noncomputable def d6:=@wpAny_newFunctionEnv
noncomputable def d7:=@codeAny_compStart_list
noncomputable def d8:=@PySem.W.funFrames_hide
noncomputable def d9:=@wpAny_noteFrame_againW
noncomputable def dO:=@wpAny_ite_false
noncomputable def c7:=@F.slot_tuple_mul
noncomputable def c8:=@F.entry_tuple_mul
noncomputable def b7:=@F.args_tuple_mul_2
noncomputable def b8:=@List.getElem?_cons_succ
noncomputable def b9:=@wpAny_loadPart'
noncomputable def bY:=@Obj.isFreed_of_fields
noncomputable def aT:=@wpAny_nextOf_list_end
noncomputable def Z0:=@Nat.le_antisymm
noncomputable def Z1:=@Nat.le_of_lt_succ
noncomputable def Z2:=@PyProof.Rows.callWith_type1
noncomputable def Z4:=@List.cons_append
noncomputable def Z5:=@F.slot_str_split
noncomputable def Z6:=@F.entry_str_split
noncomputable def Z7:=@F.args_str_split_2
noncomputable def Z8:=@decide_eq_false_iff_not
noncomputable def Z9:=@Calls.Name_function_global
noncomputable def Za:=@PyProof.Rows.slot_tuple_getitem
noncomputable def Zb:=@List.eq_nil_of_length_eq_zero
noncomputable def Zd:=@List.dropWhile_cons_of_pos
end
set_option Elab.async false
set_option linter.all false
set_option maxRecDepth 100000
noncomputable section
variable{us its:List Value}{a it C f l L C7 C3 C1 aH ao ah af aA aU am C2 aL:Addr}{P q:Program}{h h':Heap}{t' i j c k n:Nat}{ch fp rs:List Addr}{E:Value->Shared->Prop}{s' s:Shared}{pins:List (Addr×Obj)}{y qual y0 y1:Str}{es ifs:List Expr}{tg iter tgt:Expr}{py p:Pos}{body:List Stmt}{mA:Str->Option Value}{m fz:Bool}{fd:FuncData}{ps loose N':List Str}{scope:Scope}{cdv oc:Value}{an od:Option Addr}{osl:Array (Option Value)}{ws ix is:List Nat}{st:Stmt}{ts:List (Str×Addr)}
namespace L2
open PySem PySem.Spec PyProof.Rows
noncomputable abbrev Key:=Sum Int Str
noncomputable def E3:Key->Value->Bool
 |.inl k,v=>Value.isInt k v
 |.inr x,v=>Value.isStrOf x v
noncomputable def PP(w:World):Key->Int
 |.inl k=>hashInt k
 |.inr x=>hashStr w x
def du:∀{k:Key}{v:Value},E3 k v=true->(∃i t,k=Sum.inl i/\v=Value.int i t)\/(∃x t,k=Sum.inr x/\v=Value.str x t)
 |.inl i,v,h=>by obtain⟨t,e⟩:=Value.isInt_shape (k:=i) (v:=v) h;exact .inl ⟨i,t,rfl,e⟩
 |.inr x,v,h=>by obtain⟨t,e⟩:=Value.isStrOf_shape (x:=x) (v:=v) h;exact .inr ⟨x,t,rfl,e⟩
def B4(i:Int)(t:Tok):E3 (.inl i) (.int i t)=true:=by simp[E3,Value.isInt]
def LK(a b:Int):decide ((Sum.inl a:Key)=Sum.inl b)=(a==b):=by
 by_cases e:a=b;·subst e;simp
 ·have h : ¬ (Sum.inl a:Key)=Sum.inl b:=λq=>e (Sum.inl.inj q);rw[wI h];exact(pG.mpr e).symm
def L6(a b:Str):decide ((Sum.inr a:Key)=Sum.inr b)=decide (a=b):=by
 by_cases e:a=b;·subst e;simp
 ·have h : ¬ (Sum.inr a:Key)=Sum.inr b:=λq=>e (Sum.inr.inj q);rw[wI h,wI e]
def Kg(a:Int)(b:Str):decide ((Sum.inl a:Key)=Sum.inr b)=false:=wI (λq=>nomatch q)
def KO(a:Str)(b:Int):decide ((Sum.inr a:Key)=Sum.inl b)=false:=wI (λq=>nomatch q)
noncomputable def tT(prog:Program)(w:World):PySem.KeyKind prog w Key where
 is:=E3
 hash:=PP w
 inj:=λv a b ha hb=>by
  rcases du ha with⟨i,t,rfl,rfl⟩|⟨x,t,rfl,rfl⟩
  ·rcases du hb with⟨j,u,rfl,e⟩|⟨y,u,rfl,e⟩;·injection e with e1 _;rw[e1]
   ·exact nomatch e
  ·rcases du hb with⟨j,u,rfl,e⟩|⟨y,u,rfl,e⟩;·exact nomatch e
   ·injection e with e1 _;rw[e1]
 byValue:=λk v h=>by rcases du h with⟨i,t,rfl,rfl⟩|⟨x,t,rfl,rfl⟩ <;> rfl
 pyHash:=λhv h=>by
  rcases du hv with⟨i,t,rfl,rfl⟩|⟨x,t,rfl,rfl⟩;·exact wpAny_pyHash_int h
  ·exact wpAny_pyHash_str h
 eqBool:=λhu hv h=>by
  rcases du hu with⟨i,t,rfl,rfl⟩|⟨x,t,rfl,rfl⟩
  ·rcases du hv with⟨j,u,rfl,rfl⟩|⟨y,u,rfl,rfl⟩;·rw[LK]at h;exact wpAny_eqBool_int h
   ·rw[Kg]at h;exact SeqAt.EqAt.int_str i t y u _ _ _ _ h
  ·rcases du hv with⟨j,u,rfl,rfl⟩|⟨y,u,rfl,rfl⟩;·rw[KO]at h;exact SeqAt.EqAt.str_int x t j u _ _ _ _ h
   ·rw[L6]at h;exact wpAny_eqBool_str h
 «strs»:=λk x t v h=>by
  rcases du h with⟨i,u,rfl,e⟩|⟨y,u,rfl,e⟩;·exact nomatch e
  ·injection e with e1 _;subst e1;cases v <;> rfl
def xL(prog:Program)(w:World)(i:Int)(t:Tok):(tT prog w).is (.inl i) (.int i t)=true:=B4 i t
inductive V where
 |non|bl (b:Bool)|int (i:Int)|str (x:Str)|byt (b:Array UInt8)|flt (b:UInt64)|ref (a:Addr)|ty (n:String)
 deriving DecidableEq
noncomputable def RelV:V->Value->Prop
 |.non,u=>u=Value.none
 |.bl b,u=>u=Value.bool b
 |.int i,u=>∃t,u=Value.int i t
 |.str x,u=>∃t,u=Value.str x t
 |.byt b,u=>∃t,u=Value.bytes b t
 |.flt b,u=>∃t,u=Value.float b t
 |.ref a,u=>u=Value.ref a
 |.ty n,u=>u=Value.type n
noncomputable abbrev Vals:List V->List Value->Prop:=Paired RelV
def Vals.length{xs:List V}(r:Vals xs us):xs.length=us.length:=Paired.length r
theorem Vals.get:∀{xs:List V}{us:List Value}{i:Nat}{x:V},Vals xs us->xs[i]?=some x->∃u,us[i]?=some u/\RelV x u
 |_,_,_,_,.nil,e=>by simp at e
 |_,_,0,_,.cons r _,e=>by simp at e;subst e;exact⟨_,rfl,r⟩
 |_,_,i+1,x,.cons _ t,e=>by obtain⟨u,h1,h2⟩:=Vals.get (i:=i) (x:=x) t (by simpa using e);exact⟨u,by simpa using h1,h2⟩
theorem Vals.set{x:V}{u:Value}(r:RelV x u):∀{xs:List V}{us:List Value}(i:Nat),Vals xs us->Vals (xs.set i x) (us.set i u)
 |_,_,_,.nil=>.nil
 |_,_,0,.cons _ t=>.cons r t
 |_,_,i+1,.cons q t=>.cons q (Vals.set r i t)
theorem Vals.append:∀{xs ys:List V}{us ws:List Value},Vals xs us->Vals ys ws->Vals (xs++ys) (us++ws)
 |_,_,_,_,.nil,s=>s
 |_,_,_,_,.cons r t,s=>.cons r (Vals.append t s)
theorem Vals.take:∀{xs:List V}{us:List Value}(n:Nat),Vals xs us->Vals (xs.take n) (us.take n)
 |_,_,0,_=>.nil
 |_,_,_+1,.nil=>.nil
 |_,_,n+1,.cons r t=>.cons r (Vals.take n t)
theorem Vals.drop:∀{xs:List V}{us:List Value}(n:Nat),Vals xs us->Vals (xs.drop n) (us.drop n)
 |_,_,0,r=>r
 |_,_,_+1,.nil=>.nil
 |_,_,n+1,.cons _ t=>Vals.drop n t
noncomputable def RelO:Option V->Option Value->Prop
 |some v,some u=>RelV v u
 |none,none=>True
 |_,_=>False
noncomputable def KV{κ:Type}:List (κ×V)->List (κ×Value)->Prop:=Paired λ(p:κ×V) (q:κ×Value)=>p.1=q.1/\RelV p.2 q.2
noncomputable def kV:Key->V
 |.inl i=>.int i
 |.inr x=>.str x
inductive HO where
  |lst (xs : List V)
  |tup (xs : List V)
  |dK (kvs : List (Key × V))|dT (kvs : List (List Key × V))
  |set (S : Int -> Bool) (n : Nat)
  |ins (C dx : Addr) (fs : List (Str × V))
  |own (x : Addr)
  |xd (fs : List (Str × V))
  |met (f x : Addr)
  |rng (lo hi : Int)
  |frz (o : Obj) (u : HO)
  |tbl (ps : Array Value)
  |ext (φ : Heap -> Prop)

noncomputable abbrev Hp:=Addr->Option HO
noncomputable def upd(H:Hp)(a:Addr)(o:HO):Hp:=λb=>if b=a then some o else H b
def aV{H:Hp}{o:HO}:upd H a o a=some o:=by unfold upd;rw[if_pos rfl]
def aE{H:Hp}{b:Addr}{o:HO}(h:b≠a):upd H a o b=H b:=by unfold upd;rw[if_neg h]
def aJ{H:Hp}{b:Addr}{o:HO}(h:H a=some o)(h':H b=none):a≠b:=by intro e;subst e;rw[h]at h';cases h'
noncomputable def Jq(ps:Array Value):Str:=match ps.toList with
 |.str q _::_=>q
 |_=>Str.empty
section
variable(P:Program)(w:World)
noncomputable def ObjOk(H:Hp)(h:Heap)(a:Addr):HO->Prop
 |.lst xs=>xs.length<=sizeLine/\∃(its:List Value)(n:Nat),Vals xs its/\h.get? a=some { cls:=.type "list",data:=.seq its.toArray n }
 |.tup xs=>xs.length<=sizeLine/\∃its:List Value,Vals xs its/\IsTup h a its.toArray
 |.dK kvs=>kvs.length<=sizeLine/\(a==sysModules)=false/\∃vs,KV kvs vs/\h.DictOf (tT P w) a vs
 |.dT kvs=>kvs.length<=sizeLine/\(a==sysModules)=false/\∃xs:List (List Key×Addr×Value),
   Paired (λ(p:List Key×V) (q:List Key×Addr×Value)=>p.1=q.1/\H q.2.1=some (.tup (p.1.map kV))/\RelV p.2 q.2.2) kvs xs/\
   ∃o es ep,h.get? a=some o/\o.ExactDict/\o.data=.dict es ep/\es.toList=xs.map (entryOfKey (tupleKind (tT P w)))/\(xs.map (·.1)).Nodup
 |.set S n=>h.SetOf (intKind P w) a S n
 |.ins C dx fs=>H dx=some (.own a)/\fs.length<=1000/\dx≠a/\h.get? a=some (W.instObj C dx)/\
   ∃mA,h.Ns1 dx mA/\(∀f,RelO (fs.lookup f) (mA f))/\PySem.Within mA (fs.map (·.1))
 |.own _=>∃o,h.get? a=some o
 |.xd fs=>∃mA,h.Ns1 a mA/\∀f,RelO (fs.lookup f) (mA f)
 |.rng lo hi=>∃t u v,h.get? a=some { cls:=.type "range",data:=.fields #[.int lo t,.int hi u,.int 1 v] }
 |.frz o u=>h.get? a=some o/\ObjOk H h a u
 |.tbl ps=>∃qs:Array Value,h.get? a=some { cls:=.none,data:=.fields qs }/\TriplesOk qs.toList/\∀(pos:Pos)(cv:Value),codeAmong pos qs.toList=some cv->∃c o vs t,cv=.ref c/\H c=some (.frz o (.own a))/\o.data=.fields vs/\vs[1]?=some (.str (Jq ps) t)
 |.met f x=>h.get? a=some (W.methodObj (.ref f) (.ref x))
 |.ext φ=>φ h/\(∃o,h.get? a=some o)/\∀h1 h2:Heap,φ h1->(∀o,h1.get? a=some o->h2.get? a=some o)->φ h2
noncomputable def HOk(H:Hp)(h:Heap):Prop:=∀a o,H a=some o->ObjOk P w H h a o
end
section
variable{w:World}{H H':Hp}{o:HO}
def ObjOk.lt(x:ObjOk P w H h a o):a<h.objs.size:=by
 cases o with
 |lst xs=>obtain⟨_,_,_,_,e⟩:=x;exact zj e
 |tup xs=>obtain⟨_,_,_,p⟩:=x;exact p.lt
 |dK kvs=>obtain⟨_,_,_,_,o,_,_,e,_⟩:=x;exact zj e
 |dT kvs=>obtain⟨_,_,_,_,o,_,_,e,_⟩:=x;exact zj e
 |set S n=>obtain⟨o,_,_,_,e,_⟩:=x;exact zj e
 |ins C dx fs=>obtain⟨_,_,_,e,_⟩:=x;exact zj e
 |own y=>obtain⟨_,e⟩:=x;exact zj e
 |xd fs=>obtain⟨_,⟨_,_,_,e,_⟩,_⟩:=x;exact zj e
 |rng lo hi=>obtain⟨_,_,_,e⟩:=x;exact zj e
 |frz ob u=>obtain⟨e,_⟩:=x;exact zj e
 |tbl ps=>obtain⟨_,e,_⟩:=x;exact zj e
 |met f y=>exact zj (show h.get? a=some _ from x)
 |ext φ=>obtain⟨_,⟨_,e⟩,_⟩:=x;exact zj e
theorem Paired.mapP{α β:Type}{F G:α->β->Prop}:∀{l₁:List α}{l₂:List β},Paired F l₁ l₂->(∀a b,F a b->G a b)->Paired G l₁ l₂
 |_,_,.nil,_=>.nil
 |_,_,.cons r t,f=>.cons (f _ _ r) (Paired.mapP t f)
def ObjOk.stay(x:ObjOk P w H h a o)(k:∀b u,(b=a\/H b=some (.own a))->h.get? b=some u->h'.get? b=some u)(ho:∀b,H b=some (.own a)->H' b=some (.own a))(ht:∀b xs,H b=some (.tup xs)->H' b=some (.tup xs))(hz:∀b o u,H b=some (.frz o u)->H' b=some (.frz o u):=by exact λ_ _ _ q=>q):ObjOk P w H' h' a o:=by
 induction o with
 |lst xs=>obtain⟨z,its,n,r,e⟩:=x;exact⟨z,its,n,r,k _ _ (.inl rfl) e⟩
 |tup xs=>obtain⟨z,its,r,ob,e,c⟩:=x;exact⟨z,its,r,ob,k _ _ (.inl rfl) e,c⟩
 |dK kvs=>obtain⟨z,y,vs,r,ob,es,ep,e,c⟩:=x;exact⟨z,y,vs,r,ob,es,ep,k _ _ (.inl rfl) e,c⟩
 |dT kvs=>obtain⟨z,y,xs,r,ob,es,ep,e,c⟩:=x;exact⟨z,y,xs,Paired.mapP r λp q z=>⟨z.1,ht _ _ z.2.1,z.2.2⟩,ob,es,ep,k _ _ (.inl rfl) e,c⟩
 |set S n=>obtain⟨ob,es,ep,t,e,c⟩:=x;exact⟨ob,es,ep,t,k _ _ (.inl rfl) e,c⟩
 |ins C dx fs=>obtain⟨d,z,ne,e,mA,⟨od,es,ep,e2,c⟩,r⟩:=x;exact⟨ho _ d,z,ne,k _ _ (.inl rfl) e,mA,⟨od,es,ep,k _ _ (.inr d) e2,c⟩,r⟩
 |own y=>obtain⟨ob,e⟩:=x;exact⟨ob,k _ _ (.inl rfl) e⟩
 |xd fs=>obtain⟨mA,⟨od,es,ep,e,c⟩,r⟩:=x;exact⟨mA,⟨od,es,ep,k _ _ (.inl rfl) e,c⟩,r⟩
 |rng lo hi=>obtain⟨t,u,v,e⟩:=x;exact⟨t,u,v,k _ _ (.inl rfl) e⟩
 |frz ob u ih=>obtain⟨e,q⟩:=x;exact⟨k _ _ (.inl rfl) e,ih q⟩
 |tbl ps=>obtain⟨qs,e,tr,c⟩:=x;refine⟨qs,k _ _ (.inl rfl) e,tr,λpos cv q=>?_⟩;obtain⟨c',o',vs,tk,e1,e2,e3⟩:=c pos cv q;exact⟨c',o',vs,tk,e1,hz _ _ _ e2,e3⟩
 |met f y=>have e:h.get? a=some (W.methodObj (.ref f) (.ref y)):=x;show h'.get? a=some (W.methodObj (.ref f) (.ref y));exact k a _ (.inl rfl) e
 |ext φ=>obtain⟨p,⟨o,e⟩,st⟩:=x;exact⟨st _ _ p λo q=>k _ _ (.inl rfl) q,⟨o,k _ _ (.inl rfl) e⟩,st⟩
def HOk.lt(x:HOk P w H h)(e:H a=some o):a<h.objs.size:=(x a o e).lt
def HOk.fresh(x:HOk P w H h)(e:h.objs.size<=a):H a=none:=by
 cases q:H a with
 |none=>rfl
 |some u=>exact absurd (ww (x.lt q) e) (tH _)
def HOk.kept(x:HOk P w H h)(k:∀b u,h.get? b=some u->h'.get? b=some u):HOk P w H h':=λa o e=>(x a o e).stay (λb u _ q=>k b u q) (λ_ q=>q) λ_ _ q=>q
def HOk.laid(x:HOk P w H h)(k:∀b u,h.get? b=some u->h'.get? b=some u)(hp:h.objs.size<=a)(new:ObjOk P w (upd H a o) h' a o):HOk P w (upd H a o) h':=λb u e=>by
 have hn:=x.fresh hp;by_cases hb:b=a;·subst hb;rw[aV]at e;cases e;exact new
 ·rw[aE hb]at e;exact(x b u e).stay (λc v _ q=>k c v q) (λc q=>by rw[aE (aJ q hn)];exact q) (λc xs q=>by rw[aE (aJ q hn)];exact q) λc ob u q=>by rw[aE (aJ q hn)];exact q
end
noncomputable def Rd(H:Hp)(a:Addr)(u:HO):Prop:=H a=some u\/∃o,H a=some (.frz o u)
def Rd.ok{w:World}{H:Hp}{u:HO}(r:Rd H a u)(x:HOk P w H h):ObjOk P w H h a u:=by
 rcases r with r|⟨o,r⟩;·exact x a u r
 ·obtain⟨_,q⟩:=x a _ r;exact q
noncomputable def Mut:Option HO->Prop
 |some (.lst _)=>True
 |some (.dK _)=>True
 |some (.dT _)=>True
 |some (.set _ _)=>True
 |some (.ins _ _ _)=>True
 |some (.ext _)=>True
 |_=>False
section
variable{w:World}{H:Hp}{x e:Addr}{o':HO}
def HOk.write(ok:HOk P w H h)(mu:Mut (H x))(he:e=x\/H e=some (.own x))(k:∀b u,b≠e->h.get? b=some u->h'.get? b=some u)(heo:∃u,h'.get? e=some u)(new:ObjOk P w (upd H x o') h' x o'):HOk P w (upd H x o') h':=λb u q=>by
 have nown:∀c y,H c=some (.own y)->c≠x:=λc y r z=>by subst z;rw[r]at mu;exact mu
 have ntup:∀c xs,H c=some (.tup xs)->c≠x:=λc xs r z=>by subst z;rw[r]at mu;exact mu
 have nfrz:∀c ob u,H c=some (.frz ob u)->c≠x:=λc ob u r z=>by subst z;rw[r]at mu;exact mu
 by_cases hb:b=x;·subst hb;rw[aV]at q;cases q;exact new
 ·rw[aE hb]at q;by_cases hbe:b=e
  ·have q':H b=some (.own x):=by
    rcases he with z|z;·exact absurd (hbe.trans z) hb
    ·rw[hbe];exact z
   rw[q]at q';cases q';obtain⟨v,hv⟩:=heo;exact⟨v,by rw[hbe];exact hv⟩
  ·refine(ok b u q).stay (λc v hc r=>k c v ?_ r) (λc r=>by rw[aE (nown c b r)];exact r) (λc xs r=>by rw[aE (ntup c xs r)];exact r) λc ob u r=>by rw[aE (nfrz c ob u r)];exact r
   rcases hc with rfl|hc;·exact hbe
   ·rintro rfl;rcases he with z|z;·exact nown c b hc z
    ·rw[hc]at z;cases z;exact hb rfl
end
structure Un(fs ex:List Addr)(H H':Hp)(h h':Heap):Prop where
 keep:∀b o,h.get? b=some o->H b=none->b∉fs->b∉ex->h'.get? b=some o
 slot:∀b o,h.get? b=some o->H b=none->b∈fs->b∉ex->∃sl,h'.get? b=some { o with slots:=sl }
 free:∀b o,h.get? b=some o->H b=none->b∉ex->H' b=none
 there:∀b o,h.get? b=some o->b∉ex->∃o',h'.get? b=some o'
 tups:∀b xs,H b=some (.tup xs)->H' b=some (.tup xs)
 frzs:∀b o u,H b=some (.frz o u)->H' b=some (.frz o u)
 tbls:∀b ps,H b=some (.tbl ps)->∃more,H' b=some (.tbl (ps++more))
section
variable{fs fs' ex ex':List Addr}{H H1 H2:Hp}{h1 h2:Heap}{x e:Addr}{o:HO}
def Un.any(u:Un fs ex H H1 h h1){b:Addr}{ob:Obj}(q:h.get? b=some ob)(n:H b=none)(hx:b∉ex):∃sl,h1.get? b=some { ob with slots:=sl }:=by
 by_cases hb:b∈fs;·exact u.slot b ob q n hb hx
 ·exact⟨ob.slots,u.keep b ob q n hb hx⟩
def Un.kept(k:∀b u,h.get? b=some u->h'.get? b=some u):Un fs ex H H h h':=
 ⟨λb ob q _ _ _=>k b ob q,λb ob q _ _ _=>⟨ob.slots,k b ob q⟩,λ_ _ _ n _=>n,λb ob q _=>⟨ob,k b ob q⟩,λ_ _ q=>q,λ_ _ _ q=>q,λ_ ps q=>⟨#[],by rw[q];simp⟩⟩
def Un.refl:Un fs ex H H h h:=Un.kept λ_ _ q=>q
def Un.laid(k:∀b u,h.get? b=some u->h'.get? b=some u)(hp:h.objs.size<=a)(hn:H a=none):Un fs ex H (upd H a o) h h' where
 keep:=λb u q _ _ _=>k b u q
 slot:=λb u q _ _ _=>⟨u.slots,k b u q⟩
 free:=λb u q n _=>by rw[aE (xh (ww (zj q) hp))];exact n
 there:=λb u q _=>⟨u,k b u q⟩
 tups:=λb xs q=>by rw[aE (aJ q hn)];exact q
 frzs:=λb u xs q=>by rw[aE (aJ q hn)];exact q
 tbls:=λb ps q=>⟨#[],by rw[aE (aJ q hn),q];simp⟩
def Un.write(mu:Mut (H x))(he:e=x\/H e=some (.own x))(k:∀b u,b≠e->h.get? b=some u->h'.get? b=some u)(heo:∃u,h'.get? e=some u):Un fs ex H (upd H x o) h h':=by
 have hx:∀b,H b=none->b≠x:=λb n z=>by subst z;rw[n]at mu;exact mu
 have hb:∀b,H b=none->b≠e:=λb n z=>by
  subst z;rcases he with r|r;·exact hx b n r
  ·rw[n]at r;cases r
 have hm:∀b u,H b=some u->¬ Mut (some u)->b≠x:=λb u q nm z=>by subst z;rw[q]at mu;exact nm mu
 refine⟨λb u q n _ _=>k b u (hb b n) q,λb u q n _ _=>⟨u.slots,k b u (hb b n) q⟩,λb u q n _=>by rw[aE (hx b n)];exact n,λb u q _=>?_,
  λb xs q=>by rw[aE (hm b _ q λz=>z)];exact q,λb u xs q=>by rw[aE (hm b _ q λz=>z)];exact q,λb ps q=>⟨#[],by rw[aE (hm b _ q λz=>z),q];simp⟩⟩;by_cases hbe:b=e;·subst hbe;exact heo
 ·exact⟨u,k b u hbe q⟩
end
noncomputable def Fp:HO->Value
 |.tbl ps=>if ps.size=1 then ps.getD 0 .none else .none
 |_=>.none
noncomputable def Jj(H:Hp)(b:Addr)(o:Obj):Obj:=match H b with
 |none=>(match o.data with|.freed=>⟨.none,none,.freed,#[]⟩|_=>o)
 |some u=>⟨Fp u,none,.freed,#[]⟩
noncomputable def CO(h:Heap)(H:Hp):Heap:=⟨h.objs.mapIdx λb o=>Jj H b o,h.life⟩
def Br(h:Heap)(H:Hp):(CO h H).objs.size=h.objs.size:=Array.size_mapIdx
def get_objs{b:Addr}{o:Obj}:h.get? b=some o ↔ h.objs[b]?=some o/\o.data≠.freed:=by
 unfold Heap.get?;constructor
 ·intro e;split at e;·cases e
  ·rename_i z;refine⟨e,λq=>?_⟩;obtain⟨a,b,c,d⟩:=o;cases q;exact z _ _ _ e
 ·rintro ⟨e,n⟩;rw[e];obtain⟨a,b,c,d⟩:=o;split;·rename_i q;cases q;exact absurd rfl n
  ·rfl
def oa(h:Heap)(H:Hp)(b:Addr):(CO h H).objs[b]?=(h.objs[b]?).map (Jj H b):=Array.getElem?_mapIdx
def CW{H:Hp}{b:Addr}{o:Obj}(e:h.get? b=some o)(n:H b=none):(CO h H).get? b=some o:=by
 obtain⟨e1,e2⟩:=get_objs.1 e;have z:Jj H b o=o:=by unfold Jj;rw[n];cases q:o.data <;> first|rfl|exact absurd q e2
 exact get_objs.2 ⟨by rw[oa,e1,t8,z],e2⟩
def Hx{H:Hp}{b:Addr}{o:Obj}(e:(CO h H).get? b=some o):h.get? b=some o/\H b=none:=by
 obtain⟨e1,e2⟩:=get_objs.1 e;rw[oa]at e1;cases q:h.objs[b]? with
 |none=>rw[q]at e1;cases e1
 |some o'=>
  rw[q,t8]at e1;have e1:=xf e1;unfold Jj at e1;cases hq:H b with
  |none=>
   rw[hq]at e1;dsimp only at e1;split at e1;·rw[<- e1]at e2;exact absurd rfl e2
   ·exact⟨get_objs.2 ⟨by rw[q,e1],e2⟩,rfl⟩
  |some u=>rw[hq]at e1;dsimp only at e1;rw[<- e1]at e2;exact absurd rfl e2
noncomputable def Mw(base:Heap)(p:Addr)(q:Str):Prop:=base.objs[p]?=some ⟨.str q 0,none,.freed,#[]⟩
noncomputable def TabsIn(base:Heap)(H:Hp):Prop:=∀p q,Mw base p q->∃more,H p=some (.tbl (#[.str q 0]++more))
def B1(h : Heap)(H : Hp): TabsIn (CO h H) H := λp q e => by
  unfold Mw at e;rw[oa]at e;cases z : h.objs[p]? with
  |none => rw[z]at e; cases e
  |some o =>
    rw[z, t8]at e;have e := xf e;unfold Jj at e;cases hq : H p with
    |none =>
      rw[hq]at e;dsimp only at e;split at e;· cases e
      · rename_i n; rw[e]at n; exact absurd rfl n
    |some u =>
      rw[hq]at e;have e := vF Obj.cls e;cases u with
      |tbl ps =>
        dsimp only[Fp]at e;split at e
        · rename_i n;refine⟨#[], ?_⟩;obtain⟨l⟩ := ps
          match l, n with
          | [v], _ => have : v = .str q 0 := e
                      rw[this]; rfl
        · cases e
      |_ => cases e
def TabsIn.un{base:Heap}{fs ex:List Addr}{H H':Hp}(t:TabsIn base H)(u:Un fs ex H H' h h'):TabsIn base H':=λp q e=>by obtain⟨m1,z⟩:=t p q e;obtain⟨m2,z⟩:=u.tbls p _ z;exact⟨m1++m2,by rw[z,Array.append_assoc]⟩
noncomputable def HW(g h:Heap)(L:Addr):List (Addr×Obj):=(List.range h.objs.size).filterMap λa=>if a=L\/(g.get? a).isSome=true then none else (h.get? a).map λo=>(a,o)
noncomputable def fV(g h:Heap)(L d:Addr):List (Addr×Obj):=(HW g h L).filter λp=>decide (p.1≠d)
end L2
variable{xs vs:List L2.V}{H H' G G₀:L2.Hp}{v:L2.V}{sq:L2.Hp->List L2.V->Prop}
namespace L2
open PySem PySem.Spec PyProof.Rows
structure Mod(K:W.Frag)(mg:Str->Option Value)(base:Heap):Prop where
 kin:K.In base
 glob:base.Ns mainGlobals mg
 blt:∃mb,base.Ns builtinsNs mb/\∀x:Str,x≠"__name__"->mb x=bootBuiltins x
 nolimit:base.NoLimit
structure Cx where
 prog:Program
 w:World
 K:W.Frag
 mg:Str->Option Value
 base:Heap
 A:Around
 N:List Str
 s₀:Shared
 H₀:Hp
 env:Env
 outer:List Env
 stack:List Env
 ex:List Addr
 fn:Str->Bool
 calm:Bool
 pn:List (Addr×Obj)
 xe:Value->Shared->Prop
noncomputable def frs(l:List Env):List Addr:=l.filterMap (·.frame)
noncomputable abbrev Cx.fs(X:Cx):List Addr:=frs X.outer
noncomputable def Vis(sc:Scope)(x:Str):Prop:=sc.names.lookup x=some .local\/sc.names.lookup x=some .cell\/sc.names.lookup x=some .free
noncomputable def Loc(sc:Scope)(x:Str):Prop:=sc.names.lookup x=some .local\/sc.names.lookup x=some .cell
noncomputable def O3(env:Env)(h:Heap)(m:Str->Option Value)(x:Str)(u:Value):Prop:=
 (env.kindOf x=some .local/\m x=some u)\/((env.kindOf x=some .cell\/env.kindOf x=some .free)/\∃c,env.cells.lookup x=some c/\h.IsCell c (some u))
structure Cx.Ok(X:Cx):Prop where
 mod:Mod X.K X.mg X.base
 kind:X.env.scope.kind=.function
 glob:X.env.globals=mainGlobals
 blt:X.env.builtins=builtinsNs
 above:X.s₀.heap.objs.size<=X.env.locals
 inj:∀x y c,X.env.cells.lookup x=some c->X.env.cells.lookup y=some c->x=y
 has:∀x,(X.env.kindOf x=some .cell\/X.env.kindOf x=some .free)->∃c,X.env.cells.lookup x=some c
 cab:∀x c,X.fn x=true->X.env.cells.lookup x=some c->X.s₀.heap.objs.size<=c
 hd:X.calm=true->X.A.handled=none
 frames:X.A.frames=some X.stack
 stk:X.stack=X.outer\/(X.stack=X.env::X.outer/\X.env.frame=some X.env.locals)
 exf:∀b∈X.ex,b≠X.env.locals/\∀x c,X.env.cells.lookup x=some c->c≠b
 bs:∀b o,X.base.get? b=some o->X.s₀.heap.get? b=some o/\X.H₀ b=none
 bsz:X.base.objs.size<=X.s₀.heap.objs.size
 noex:∀b o,X.base.get? b=some o->b∉X.ex
 exfs:∀b∈X.ex,b∉X.fs
 funs:X.s₀.heap.FunFrames X.base X.outer
 frf:∀b∈X.fs,X.H₀ b=none
 tabs:TabsIn X.base X.H₀
structure Inv(X:Cx)(pins:List (Addr×Obj))(σ:List (Option V))(H:Hp)(s:Shared):Prop where
 ok:X.Ok
 os:s.os=X.s₀.os
 bare:AllBare s.gens
 base:Un X.fs X.ex X.H₀ H X.s₀.heap s.heap
 loc:∃m,s.heap.Ns X.env.locals m/\∀(i:Nat)(x:Str)(v:V),X.N[i]?=some x->σ[i]?=some (some v)->Vis X.env.scope x->∃u,RelV v u/\O3 X.env s.heap m x u
 cell:∀x c,X.env.cells.lookup x=some c->∃v,s.heap.IsCell c v
 free:H X.env.locals=none
 freeC:∀x c,X.env.cells.lookup x=some c->H c=none
 pin:∀p∈X.pn++pins,s.heap.get? p.1=some p.2/\H p.1=none/\p.1≠X.env.locals/\p.1∉X.fs/\∀v,p.2.data≠.cell v
 hok:HOk X.prog X.w H s.heap
 len:σ.length=X.N.length
section
variable{X:Cx}{σ:List (Option V)}
def Cx.Ok.nofr(ok:X.Ok){b:Addr}{o:Obj}(e:X.base.get? b=some o):b∉X.fs:=λhb=>by have:=(ok.funs.mem hb).1;rw[e]at this;cases this
def Inv.bs(I:Inv X pins σ H s):∀b o,X.base.get? b=some o->s.heap.get? b=some o/\H b=none:=λb o e=>⟨I.base.keep b o (I.ok.bs b o e).1 (I.ok.bs b o e).2 (I.ok.nofr e) (I.ok.noex b o e),I.base.free b o (I.ok.bs b o e).1 (I.ok.bs b o e).2 (I.ok.noex b o e)⟩
def Inv.bk(I:Inv X pins σ H s):∀b o,X.base.get? b=some o->s.heap.get? b=some o:=λb o e=>(I.bs b o e).1
def Inv.mod(I:Inv X pins σ H s):Mod X.K X.mg X.base:=I.ok.mod
def Inv.kIn(I:Inv X pins σ H s):X.K.In s.heap:=I.ok.mod.kin.keeps I.bk
def Inv.lt(I:Inv X pins σ H s):X.env.locals<s.heap.objs.size:=let⟨_,hn,_⟩:=I.loc;hn.lt
def Inv.sz(I:Inv X pins σ H s):X.s₀.heap.objs.size<=s.heap.objs.size:=xk I.ok.above (Nat.le_of_lt I.lt)
def Inv.nofs(I:Inv X pins σ H s)(h:s.heap.objs.size<=a):a∉X.fs:=λhb=>by obtain⟨_,o,ho,_⟩:=I.ok.funs.mem hb;exact absurd (ww (zj ho) (xk I.sz h)) (tH _)
def Inv.cne(I:Inv X pins σ H s):∀x c,X.env.cells.lookup x=some c->c≠X.env.locals:=λx c e z=>by obtain⟨v,o,ho,hd⟩:=I.cell x c e;obtain⟨m,⟨o',es,ep,ho',hd',_⟩,_⟩:=I.loc;rw[z,ho']at ho;cases ho;rw[hd']at hd;cases hd
def Inv.funs(I:Inv X pins σ H s):s.heap.FunFrames X.base X.outer:=by
 have all:∀(l:List Env),(∀b∈frs l,b∈X.fs)->X.s₀.heap.FunFrames X.base l->s.heap.FunFrames X.base l:=by
  intro l;induction l with
  |nil=>intro _ _;trivial
  |cons env r ih=>intro hs hl;obtain⟨hk,⟨L,o,hf,hn,ho,hd⟩,hr⟩:=hl;have hL:L∈X.fs:=hs L (by unfold frs;rw[List.filterMap_cons,hf];exact List.mem_cons_self);obtain⟨sl,e⟩:=I.base.slot L o ho (I.ok.frf L hL) hL λz=>I.ok.exfs L z hL;exact⟨hk,⟨L,_,hf,hn,e,hd⟩,ih (λb hb=>hs b (by unfold frs;rw[List.filterMap_cons,hf];exact List.mem_cons_of_mem _ hb)) hr⟩
 exact all X.outer (λ_ hb=>hb) I.ok.funs
def Inv.stack(I:Inv X pins σ H s):s.heap.FunFrames X.base X.stack:=by
 rcases I.ok.stk with e|⟨e,hf⟩;·rw[e];exact I.funs
 ·rw[e];obtain⟨m,hn,_⟩:=I.loc;refine .cons (by rw[I.ok.kind];decide) hf hn ?_ I.funs;exact Heap.get?_none_of_le (xk I.ok.bsz I.ok.above)
def Inv.stkSub(I:Inv X pins σ H s):∀b∈frs X.stack,b∈X.env.locals::X.fs:=λb hb=>by
 rcases I.ok.stk with e|⟨e,hf⟩;·rw[e]at hb;exact wB _ hb
 ·rw[e]at hb;unfold frs at hb;rw[il,hf]at hb;exact hb
def Inv.stkFree(I:Inv X pins σ H s):∀b∈frs X.stack,H b=none:=λb hb=>by
 rcases y9.mp (I.stkSub b hb)with e|hb;·rw[e];exact I.free
 ·obtain⟨_,o,ho,_⟩:=I.ok.funs.mem hb;exact I.base.free b o ho (I.ok.frf b hb) λz=>I.ok.exfs b z hb
def Inv.step{g':Array GenState}{t':Nat}{d':Drawn}(I:Inv X pins σ H s)(hch:∀b∈ch,(b∈X.ex\/X.s₀.heap.objs.size<=b)/\b≠X.env.locals/\(∀x c,X.env.cells.lookup x=some c->c≠b)/\∀p∈X.pn++pins,p.1≠b)(keep:∀b o,b≠X.env.locals->b∉X.fs->b∉ch->s.heap.get? b=some o->H b=none->h'.get? b=some o)(slot:∀b o,b≠X.env.locals->b∈X.fs->b∉ch->s.heap.get? b=some o->H b=none->∃sl,h'.get? b=some { o with slots:=sl })(free:∀b o,b∉ch->s.heap.get? b=some o->H b=none->H' b=none)(there:∀b o,b∉ch->s.heap.get? b=some o->∃o',h'.get? b=some o')(tups:∀b xs,H b=some (.tup xs)->H' b=some (.tup xs))(frzs:∀b o u,H b=some (.frz o u)->H' b=some (.frz o u))(tbls:∀b ps,H b=some (.tbl ps)->∃more,H' b=some (.tbl (ps++more)))(ns:∀m,s.heap.Ns X.env.locals m->h'.Ns X.env.locals m)(hok:HOk X.prog X.w H' h')(hg:AllBare g'):
  Inv X pins σ H' { s with heap:=h',gens:=g',drawn:=d',toks:=t' }:=by
 have neL:∀b o,X.s₀.heap.get? b=some o->b≠X.env.locals:=λb o e=>xh (ww (zj e) I.ok.above);have neC:∀b o,X.s₀.heap.get? b=some o->b∉X.ex->b∉ch:=λb o e hx hb=>by
  rcases (hch b hb).1 with z|z;·exact hx z
  ·exact absurd (ww (zj e) z) (tH _)
 have cellK:∀x c,X.env.cells.lookup x=some c->∀v,s.heap.IsCell c v->h'.IsCell c v:=λx c e v ⟨o,ho,hd⟩=>by
  have nch:c∉ch:=λz=>(hch c z).2.2.1 x c e rfl;by_cases hc:c∈X.fs;·obtain⟨sl,q⟩:=slot c o (I.cne x c e) hc nch ho (I.freeC x c e);exact⟨_,q,hd⟩
  ·exact⟨o,keep c o (I.cne x c e) hc nch ho (I.freeC x c e),hd⟩
 refine⟨I.ok,I.os,hg,⟨λb o e n hb hx=>?_,λb o e n hb hx=>?_,λb o e n hx=>?_,λb o e hx=>?_,λb xs e=>tups b xs (I.base.tups b xs e),λb o xs e=>frzs b o xs (I.base.frzs b o xs e),λb ps e=>?_⟩,?_,λx c e=>?_,?_,λx c e=>?_,λp hp=>?_,hok,I.len⟩;·exact keep b o (neL b o e) hb (neC b o e hx) (I.base.keep b o e n hb hx) (I.base.free b o e n hx)
 ·obtain⟨sl,e1⟩:=I.base.slot b o e n hb hx;obtain⟨sl',e2⟩:=slot b _ (neL b o e) hb (neC b o e hx) e1 (I.base.free b o e n hx);exact⟨sl',e2⟩
 ·obtain⟨o',e1⟩:=I.base.there b o e hx;exact free b o' (neC b o e hx) e1 (I.base.free b o e n hx)
 ·obtain⟨o',e1⟩:=I.base.there b o e hx;exact there b o' (neC b o e hx) e1
 ·obtain⟨m1,e1⟩:=I.base.tbls b ps e;obtain⟨m2,e2⟩:=tbls b _ e1;exact⟨m1++m2,by rw[e2,Array.append_assoc]⟩
 ·obtain⟨m,hn,hl⟩:=I.loc;refine⟨m,ns m hn,λi x v e1 e2 e3=>?_⟩;obtain⟨u,r,l⟩:=hl i x v e1 e2 e3;refine⟨u,r,?_⟩;rcases l with l|⟨k,c,e,z⟩;·exact .inl l
  ·exact .inr ⟨k,c,e,cellK x c e _ z⟩
 ·obtain⟨v,z⟩:=I.cell x c e;exact⟨v,cellK x c e v z⟩
 ·obtain⟨m,⟨o,_,_,ho,_⟩,_⟩:=I.loc;exact free _ o (λz=>(hch _ z).2.1 rfl) ho I.free
 ·obtain⟨v,o,ho,hd⟩:=I.cell x c e;exact free c o (λz=>(hch c z).2.2.1 x c e rfl) ho (I.freeC x c e)
 ·obtain⟨e,n,ne,nf,d⟩:=I.pin p hp;have nch:p.1∉ch:=λz=>(hch p.1 z).2.2.2 p hp rfl;exact⟨keep p.1 p.2 ne nf nch e n,free p.1 p.2 nch e n,ne,nf,d⟩
def Inv.un{t':Nat}(I:Inv X pins σ H s)(u:Un X.fs [] H H' s.heap h')(hok:HOk X.prog X.w H' h'):Inv X pins σ H' { s with heap:=h',toks:=t' }:=by obtain⟨m,⟨o,es,ep,ho,r⟩,_⟩:=id I.loc;obtain⟨sl,hL⟩:=u.any ho I.free (by simp);exact I.step (g':=s.gens) (d':=s.drawn) (ch:=[]) (λ_ z=>nomatch z) (λb o _ hb _ e n=>u.keep b o e n hb (by simp)) (λb o _ hb _ e n=>u.slot b o e n hb (by simp)) (λb o _ e n=>u.free b o e n (by simp)) (λb o _ e=>u.there b o e (by simp)) u.tups u.frzs u.tbls (λm' hm=>by obtain⟨o',es',ep',ho',r'⟩:=hm;rw[ho]at ho';cases ho';exact⟨_,es',ep',hL,r'⟩) hok I.bare
def Inv.call{g':Array GenState}{t':Nat}{d':Drawn}(I:Inv X pins σ H s)(u:Un (frs X.stack) ch H H' s.heap h')(hok:HOk X.prog X.w H' h')(hg:AllBare g')(hch:∀b∈ch,(b∈X.ex\/X.s₀.heap.objs.size<=b)/\b≠X.env.locals/\(∀x c,X.env.cells.lookup x=some c->c≠b)/\∀p∈X.pn++pins,p.1≠b):
  Inv X pins σ H' { s with heap:=h',gens:=g',drawn:=d',toks:=t' }:=by
 obtain⟨m,⟨o,es,ep,ho,r⟩,_⟩:=id I.loc;obtain⟨sl,hL⟩:=u.any ho I.free λz=>(hch _ z).2.1 rfl;exact I.step (ch:=ch) hch (λb o hL hb hc e n=>u.keep b o e n (λz=>(y9.mp (I.stkSub b z)).elim hL hb) hc) (λb o _ _ hc e n=>u.any e n hc) (λb o hc e n=>u.free b o e n hc) (λb o hc e=>u.there b o e hc) u.tups u.frzs u.tbls (λm' hm=>by obtain⟨o',es',ep',ho',r'⟩:=hm;rw[ho]at ho';cases ho';exact⟨_,es',ep',hL,r'⟩) hok hg
def Inv.turned{t':Nat}(I:Inv X pins σ H s)(k:∀b o,b≠it->s.heap.get? b=some o->h'.get? b=some o)(hn:H it=none)(hL:it≠X.env.locals)(h1:it∈X.ex\/X.s₀.heap.objs.size<=it)(h2:∀x c,X.env.cells.lookup x=some c->c≠it)(h3:∀p∈X.pn++pins,p.1≠it):Inv X pins σ H { s with heap:=h',toks:=t' }:=by
 have nit:∀b u,H b=some u->b≠it:=λb u e z=>by rw[z,hn]at e;cases e
 refine I.step (g':=s.gens) (d':=s.drawn) (ch:=[it]) (λb hb=>?_) (λb o _ _ hc e _=>k b o (λz=>hc (by simp[z])) e) (λb o _ _ hc e _=>⟨o.slots,k b o (λz=>hc (by simp[z])) e⟩) (λ_ _ _ _ n=>n)
  (λb o hc e=>⟨o,k b o (λz=>hc (by simp[z])) e⟩) (λ_ _ e=>e) (λ_ _ _ e=>e) (λb ps e=>⟨#[],by rw[e];simp⟩) (λm hm=>?_) (λb u e=>?_) I.bare
 ·have e:b=it:=by simpa using hb
  subst e;exact⟨h1,hL,h2,h3⟩
 ·obtain⟨o,es,ep,ho,r⟩:=hm;exact⟨o,es,ep,k _ o (yR hL) ho,r⟩
 ·refine(I.hok b u e).stay (λc v hc q=>k c v ?_ q) (λ_ q=>q) λ_ _ q=>q;rcases hc with z|z;·rw[z];exact nit b u e
  ·exact nit c _ z
def Inv.tok(I:Inv X pins σ H s)(t:Nat):Inv X pins σ H { s with toks:=t }:=I.un (h':=s.heap) (t':=t) Un.refl I.hok
def Inv.kept{t':Nat}(I:Inv X pins σ H s)(k:∀b u,s.heap.get? b=some u->h'.get? b=some u):Inv X pins σ H { s with heap:=h',toks:=t' }:=I.un (Un.kept k) (I.hok.kept k)
def Inv.laid{o:HO}{t':Nat}(I:Inv X pins σ H s)(k:∀b u,s.heap.get? b=some u->h'.get? b=some u)(hp:s.heap.objs.size<=a)(new:ObjOk X.prog X.w (upd H a o) h' a o):
  Inv X pins σ (upd H a o) { s with heap:=h',toks:=t' }:=I.un (Un.laid k hp (I.hok.fresh hp)) (I.hok.laid k hp new)
def Inv.write{x e:Addr}{o:HO}{t':Nat}(I:Inv X pins σ H s)(mu:Mut (H x))(he:e=x\/H e=some (.own x))(k:∀b u,b≠e->s.heap.get? b=some u->h'.get? b=some u)(heo:∃u,h'.get? e=some u)(new:ObjOk X.prog X.w (upd H x o) h' x o):Inv X pins σ (upd H x o) { s with heap:=h',toks:=t' }:=I.un (Un.write mu he k heo) (I.hok.write mu he k heo new)
def Inv.pins_of{pins':List (Addr×Obj)}(I:Inv X pins σ H s)(h:∀p∈pins',s.heap.get? p.1=some p.2/\H p.1=none/\p.1≠X.env.locals/\p.1∉X.fs/\∀v,p.2.data≠.cell v):Inv X pins' σ H s:=
 ⟨I.ok,I.os,I.bare,I.base,I.loc,I.cell,I.free,I.freeC,λp hp=>(List.mem_append.mp hp).elim (λz=>I.pin p (qM _ z)) (h p),I.hok,I.len⟩
def tu{N:List Str}(hN:N.Nodup){x:Str}(a:N[i]?=some x)(b:N[j]?=some x):i=j:=by obtain⟨h1,e1⟩:=wK.mp a;obtain⟨h2,e2⟩:=wK.mp b;exact(List.getElem_inj hN).mp (e1.trans e2.symm)
def lH{M:Model}{A:Around}{x:Str}{u:Value}{Q:Unit->Shared->Prop}(I:Inv X pins σ H s)(hN:X.N.Nodup)(hi:X.N[i]?=some x)(hx:Loc X.env.scope x)(r:RelV v u)(h:∀s',Inv X pins (σ.set i (some v)) H s'->(∃a,Heap.SameBut a s.heap s'.heap/\(a=X.env.locals\/X.env.cells.lookup x=some a))->Q () s')(hf:X.fn x=true\/X.env.scope.names.lookup x=some .local:=by first|exact .inl rfl|exact .inr rfl|assumption):wpAny M A (storeName X.env x u) Q E s:=by
 obtain⟨m,hn,hl⟩:=id I.loc;have hcls:(X.env.scope.kind==.class || (X.env.scope.kind==.module && X.env.locals != X.env.globals))=false:=by rw[I.ok.kind];rfl
 have hiσ:i<σ.length:=by rw[I.len];exact(wK.mp hi).1
 have cne:=I.cne;have tracked:∀{a:Addr}{h':Heap},(∃o,s.heap.get? a=some o/\H a=none)->Heap.SameBut a s.heap h'->HOk X.prog X.w H h':=λ{a h'} ha hs b ob e=>by
  obtain⟨_,_,hfree⟩:=ha;refine(I.hok b ob e).stay (λc w' hc q=>(hs.2 c ?_).trans q) (λ_ q=>q) λ_ _ q=>q;rintro rfl;rcases hc with rfl|hc;·rw[hfree]at e;cases e
  ·rw[hfree]at hc;cases hc
 rcases hx with hk|hk
 ·refine wpAny_storeName_local hk hn (λh' hn' hs=>?_) hcls;obtain⟨oL,_,_,hoL,_⟩:=id hn;refine h _ ⟨I.ok,I.os,I.bare,⟨λb o e n hb hx=>?_,λb o e n hb hx=>?_,I.base.free,λb o e hx=>?_,I.base.tups,I.base.frzs,I.base.tbls⟩,⟨_,hn',λj y v' e1 e2 e3=>?_⟩,λy c e=>?_,I.free,I.freeC,λp hp=>?_,tracked ⟨oL,hoL,I.free⟩ hs,by simpa using I.len⟩ ⟨_,hs,.inl rfl⟩;·exact(hs.2 b (xh (ww (zj e) I.ok.above))).trans (I.base.keep b o e n hb hx)
  ·obtain⟨sl,e1⟩:=I.base.slot b o e n hb hx;exact⟨sl,(hs.2 b (xh (ww (zj e) I.ok.above))).trans e1⟩
  ·obtain⟨o',e1⟩:=I.base.there b o e hx;exact⟨o',(hs.2 b (xh (ww (zj e) I.ok.above))).trans e1⟩
  ·by_cases hj:j=i;·subst hj;rw[hi]at e1;cases e1;rw[v9 hiσ]at e2;cases e2;exact⟨u,r,.inl ⟨hk,by simp⟩⟩
   ·rw[vU (yR hj)]at e2;obtain⟨u',r',q⟩:=hl j y v' e1 e2 e3;refine⟨u',r',?_⟩;rcases q with⟨k,e⟩|⟨k,c,e,z⟩
    ·refine .inl ⟨k,?_⟩;have:y≠x:=λe=>hj (tu hN e1 (e▸hi));simp[this,e]
    ·exact .inr ⟨k,c,e,z.sameBut hs (cne y c e)⟩
  ·obtain⟨w',z⟩:=I.cell y c e;exact⟨w',z.sameBut hs (cne y c e)⟩
  ·obtain⟨e,n,ne,nf,d⟩:=I.pin p hp;exact⟨(hs.2 p.1 ne).trans e,n,ne,nf,d⟩
 ·have hfn:X.fn x=true:=by
   rcases hf with z|z;·exact z
   ·rw[z]at hk;cases hk
  obtain⟨c,hc⟩:=I.ok.has x (.inl hk);obtain⟨w',z⟩:=I.cell x c hc;refine wpAny_storeName_cell I.ok.kind hk hc z (λh' hc' hs=>?_);obtain⟨oc,hoc,hocd⟩:=id z;refine h { s with heap:=h' } ⟨I.ok,I.os,I.bare,⟨λb o e n hb hx=>?_,λb o e n hb hx=>?_,I.base.free,λb o e hx=>?_,I.base.tups,I.base.frzs,I.base.tbls⟩,⟨m,hn.sameBut hs (yR (cne x c hc)),λj y v' e1 e2 e3=>?_⟩,λy c' e=>?_,I.free,I.freeC,λp hp=>?_,tracked ⟨oc,hoc,I.freeC x c hc⟩ hs,by simpa using I.len⟩ ⟨c,hs,.inr hc⟩;·exact(hs.2 b (xh (ww (zj e) (I.ok.cab x c hfn hc)))).trans (I.base.keep b o e n hb hx)
  ·obtain⟨sl,e1⟩:=I.base.slot b o e n hb hx;exact⟨sl,(hs.2 b (xh (ww (zj e) (I.ok.cab x c hfn hc)))).trans e1⟩
  ·obtain⟨o',e1⟩:=I.base.there b o e hx;exact⟨o',(hs.2 b (xh (ww (zj e) (I.ok.cab x c hfn hc)))).trans e1⟩
  ·by_cases hj:j=i;·subst hj;rw[hi]at e1;cases e1;rw[v9 hiσ]at e2;cases e2;exact⟨u,r,.inr ⟨.inl hk,c,hc,hc'⟩⟩
   ·rw[vU (yR hj)]at e2;obtain⟨u',r',q⟩:=hl j y v' e1 e2 e3;refine⟨u',r',?_⟩;rcases q with q|⟨k,c',e,z'⟩;·exact .inl q
    ·refine .inr ⟨k,c',e,z'.sameBut hs ?_⟩;rintro rfl;exact hj (tu hN e1 (I.ok.inj _ _ _ e hc▸hi))
  ·by_cases hcc:c'=c;·subst hcc;exact⟨_,hc'⟩
   ·obtain⟨w2,z2⟩:=I.cell y c' e;exact⟨w2,z2.sameBut hs hcc⟩
  ·obtain⟨e,n,ne,nf,d⟩:=I.pin p hp;refine⟨(hs.2 p.1 ?_).trans e,n,ne,nf,d⟩;intro q;rw[q,hoc]at e;have q':oc=p.2:=xf e;exact d w' (by rw[<- q'];exact hocd)
def lx{M:Model}{A:Around}{x:Str}{u:Value}{Q:Unit->Shared->Prop}(I:Inv X pins σ H s)(hN:X.N.Nodup)(hi:X.N[i]?=some x)(hx:Loc X.env.scope x)(r:RelV v u)(h:∀s',Inv X pins (σ.set i (some v)) H s'->Q () s')(hf:X.fn x=true\/X.env.scope.names.lookup x=some .local:=by first|exact .inl rfl|exact .inr rfl|assumption):wpAny M A (storeName X.env x u) Q E s:=
 lH I hN hi hx r (λs' I' _=>h s' I') hf
def Inv.call'(I:Inv X pins σ H s)(ho:s'.os=s.os)(u:Un (frs X.stack) ch H H' s.heap s'.heap)(hok:HOk X.prog X.w H' s'.heap)(hg:AllBare s'.gens)(hch:∀b∈ch,(b∈X.ex\/X.s₀.heap.objs.size<=b)/\b≠X.env.locals/\(∀x c,X.env.cells.lookup x=some c->c≠b)/\∀p∈X.pn++pins,p.1≠b):Inv X pins σ H' s':=by
 obtain⟨h',g',d',t',o'⟩:=s';have e:o'=s.os:=ho;subst e;exact I.call (g':=g') (t':=t') (d':=d') u hok hg hch
end
noncomputable abbrev XK:=Value->Option Addr->Hp->Prop
noncomputable abbrev St:=List (Option V)
abbrev VK:=V->Hp->Prop
noncomputable abbrev TE:=St->Hp->VK->Prop
noncomputable abbrev TT:=St->Hp->(Bool->Hp->Prop)->Prop
noncomputable abbrev TA:=St->Hp->(List V->Hp->Prop)->Prop
structure Ends where
 nx:St->Hp->Prop
 rt:VK
 bk:St->Hp->Prop:=λ_ _=>False
 ct:St->Hp->Prop:=λ_ _=>False
noncomputable abbrev TS:=Ends->St->Hp->Prop
noncomputable def EP(X:Cx)(pins:List (Addr×Obj))(σ:St)(Q:VK)(u:Value)(s':Shared):Prop:=∃v H',Inv X pins σ H' s'/\RelV v u/\Q v H'
noncomputable def TP(X:Cx)(pins:List (Addr×Obj))(σ:St)(Q:Bool->Hp->Prop)(b:Bool)(s':Shared):Prop:=∃H',Inv X pins σ H' s'/\Q b H'
noncomputable def AP(X:Cx)(pins:List (Addr×Obj))(σ:St)(Q:List V->Hp->Prop)(us:List Value)(s':Shared):Prop:=∃vs H',Inv X pins σ H' s'/\Vals vs us/\Q vs H'
noncomputable def SP(X:Cx)(pins:List (Addr×Obj))(D:Ends)(f:Flow)(s':Shared):Prop:=
 match f with
 |.next=>∃σ' H',Inv X pins σ' H' s'/\D.nx σ' H'
 |.brk=>∃σ' H',Inv X pins σ' H' s'/\D.bk σ' H'
 |.cont=>∃σ' H',Inv X pins σ' H' s'/\D.ct σ' H'
 |.ret u=>∃v σ' H',Inv X pins σ' H' s'/\RelV v u/\D.rt v H'
noncomputable def PE(X:Cx)(e:Expr)(t:TE):Prop:=
 ∀(pins:List (Addr×Obj))(s:Shared)(σ:St)(H:Hp)(Q:VK),Inv X pins σ H s->t σ H Q->wpAny (model X.prog X.w) X.A (eval e X.env) (EP X pins σ Q) X.xe s
noncomputable def PT(X:Cx)(e:Expr)(t:TT):Prop:=
 ∀(pins:List (Addr×Obj))(s:Shared)(σ:St)(H:Hp)(Q:Bool->Hp->Prop),Inv X pins σ H s->t σ H Q->wpAny (model X.prog X.w) X.A (isTrue e X.env (eval e X.env)) (TP X pins σ Q) X.xe s
noncomputable def PW(X:Cx)(e:Expr)(t:TT):Prop:=
 ∀(whole:Sem Value)(pins:List (Addr×Obj))(s:Shared)(σ:St)(H:Hp)(Q:Bool->Hp->Prop),Inv X pins σ H s->t σ H Q->wpAny (model X.prog X.w) X.A (isTrue e X.env whole) (TP X pins σ Q) X.xe s
noncomputable def PA(X:Cx)(es:List Expr)(t:TA):Prop:=
 ∀(pos:Pos)(pins:List (Addr×Obj))(s:Shared)(σ:St)(H:Hp)(Q:List V->Hp->Prop),Inv X pins σ H s->t σ H Q->wpAny (model X.prog X.w) X.A (spliced (backTo pos (starEach es X.env))) (AP X pins σ Q) X.xe s
noncomputable def PS(X:Cx)(st:Stmt)(t:TS):Prop:=
 ∀(pins:List (Addr×Obj))(s:Shared)(σ:St)(H:Hp)(D:Ends),Inv X pins σ H s->t D σ H->wpAny (model X.prog X.w) X.A (exec st X.env) (SP X pins D) X.xe s
noncomputable def PSs(X:Cx)(st:List Stmt)(t:TS):Prop:=
 ∀(pins:List (Addr×Obj))(s:Shared)(σ:St)(H:Hp)(D:Ends),Inv X pins σ H s->t D σ H->wpAny (model X.prog X.w) X.A (execs st X.env) (SP X pins D) X.xe s
def thn{α:Type}{t:Sem α}{Q Q':α->Shared->Prop}{M:Model}{A:Around}(h:wpAny M A t Q E s)(hQ:∀a s,Q a s->Q' a s):wpAny M A t Q' E s:=yc h hQ λ_ _ x=>x
end L2
variable{σ:L2.St}{X:L2.Cx}
namespace L2
open PySem PySem.Spec PyProof.Rows
section
noncomputable def Oy(i:Nat):TE:=λσ H Q=>∃v,σ[i]?=some (some v)/\Q v H
noncomputable def tC(v:V):TE:=λ_ H Q=>Q v H
def iK{x:Str}{pos:Pos}(hN:X.N[i]?=some x)(hv:Vis X.env.scope x)(hd:(x==("__debug__":Str))=false:=by decide)(hcd:(x==("__classdict__":Str))=false:=by decide):PE X (.Name x pos) (Oy i):=by
 intro pins s σ H Q I h;obtain⟨v,e,h⟩:=h;obtain⟨m,hn,hl⟩:=I.loc;obtain⟨u,r,l⟩:=hl i x v hN e hv;have fin:EP X pins σ Q u s:=⟨v,H,I,r,h⟩
 rcases l with⟨hk,hm⟩|⟨hk,c,hc,hcell⟩;·exact wpAny_Name (wpAny_loadName_local I.ok.kind hk hn hm fin) hd
 ·rcases hk with hk|hk;·exact wpAny_Name (wpAny_loadName_cell I.ok.kind hk hc hcell fin) hd
  ·exact wpAny_Name (wpAny_loadName_free I.ok.kind hk hc hcell fin hcd) hd
def Km {i j pos}:PE X (.Constant (.int i) j pos) (tC (.int i)):=λ_ _ _ H _ I h=>wpAny_Constant_int ⟨.int i,H,I.tok _,⟨_,rfl⟩,h⟩
def Oh {b j pos}:PE X (.Constant (.bool b) j pos) (tC (.bl b)):=λ_ _ _ H _ I h=>Constant_bool ⟨.bl b,H,I,rfl,h⟩
def J2 {j pos}:PE X (.Constant .none j pos) (tC .non):=λ_ _ _ H _ I h=>Constant_none ⟨.non,H,I,rfl,h⟩
def JR {x j pos}:PE X (.Constant (.str x) j pos) (tC (.str x)):=λ_ _ _ H _ I h=>Calls.Constant_str ⟨.str x,H,I.tok _,⟨_,rfl⟩,h⟩
noncomputable def Gl(X:Cx)(x:Str):Prop:=X.env.kindOf x=some .globalImplicit
def mq{x:Str}{u:Value}{pos:Pos}{Q:Value->Shared->Prop}(I:Inv X pins σ H s)(hg:Gl X x)(hm:X.mg x=some u)(h:Q u s)(hd:(x==("__debug__":Str))=false:=by decide):wpAny (model X.prog X.w) X.A (eval (.Name x pos) X.env) Q E s:=
 Z9 I.ok.kind hg (Calls.loadGlobal_global (by rw[I.ok.glob];exact I.mod.glob.keeps I.bk) hm h) hd
def mJ{x:Str}{u:Value}{pos:Pos}{Q:Value->Shared->Prop}(I:Inv X pins σ H s)(hg:Gl X x)(hm:X.mg x=none)(hv:bootBuiltins x=some u)(h:Q u s)(hn:x≠"__name__":=by decide)(hd:(x==("__debug__":Str))=false:=by decide):wpAny (model X.prog X.w) X.A (eval (.Name x pos) X.env) Q E s:=by
 obtain⟨mb,h1,h2⟩:=I.mod.blt;exact Z9 I.ok.kind hg (Calls.loadGlobal_builtin (by rw[I.ok.glob];exact I.mod.glob.keeps I.bk) hm (by rw[I.ok.blt];exact h1.keeps I.bk) ((h2 x hn).trans hv) h) hd
def jV{x:Str}{u:Value}{pos:Pos}(hg:Gl X x)(hm:X.mg x=some u)(r:RelV v u)(hd:(x==("__debug__":Str))=false:=by decide):PE X (.Name x pos) (tC v):=
 λ_ _ _ H _ I h=>mq I hg hm ⟨v,H,I,r,h⟩ hd
def sg{x:Str}{u:Value}{pos:Pos}(hg:Gl X x)(hm:X.mg x=none)(hv:bootBuiltins x=some u)(r:RelV v u)(hn:x≠"__name__":=by decide)(hd:(x==("__debug__":Str))=false:=by decide):PE X (.Name x pos) (tC v):=
 λ_ _ _ H _ I h=>mJ I hg hm hv ⟨v,H,I,r,h⟩ hn hd
variable{a b:Expr}{ta tb:TE}{pos:Pos}
variable{tA tB':TT}{fV:List Expr}
noncomputable def Qk(t u:TT):TT:=λσ H Q=>t σ H λc H1=>if c=true then u σ H1 Q else Q false H1
noncomputable def tOr(t u:TT):TT:=λσ H Q=>t σ H λc H1=>if c=true then Q true H1 else u σ H1 Q
noncomputable def Qc(t:TT):TT:=λσ H Q=>t σ H λc H1=>Q (!c) H1
def Hw(ha:PT X a tA):PW X (.BoolOp .And [a] pos) tA:=by
 intro wh pins s σ H Q I h;refine isTrue_and (thn (ha pins s σ H Q I h) λc s1 e=>?_);cases c with
 |true=>exact isTrue_and_nil e
 |false=>exact e
def JG(ha:PT X a tA):PW X (.BoolOp .Or [a] pos) tA:=by
 intro wh pins s σ H Q I h;refine isTrue_or (thn (ha pins s σ H Q I h) λc s1 e=>?_);cases c with
 |false=>exact isTrue_or_nil e
 |true=>exact e
def KL(ha:PT X a tA)(hb:PW X (.BoolOp .And (b::fV) pos) tB'):PW X (.BoolOp .And (a::b::fV) pos) (Qk tA tB'):=by
 intro wh pins s σ H Q I h;refine isTrue_and (thn (ha pins s σ H _ I h) λc s1 ⟨H1,I1,q1⟩=>?_);cases c with
 |true=>exact hb wh pins s1 σ H1 Q I1 q1
 |false=>exact⟨H1,I1,q1⟩
def On(ha:PT X a tA)(hb:PW X (.BoolOp .Or (b::fV) pos) tB'):PW X (.BoolOp .Or (a::b::fV) pos) (tOr tA tB'):=by
 intro wh pins s σ H Q I h;refine isTrue_or (thn (ha pins s σ H _ I h) λc s1 ⟨H1,I1,q1⟩=>?_);cases c with
 |true=>exact⟨H1,I1,q1⟩
 |false=>exact hb wh pins s1 σ H1 Q I1 q1
def Lo(ha:PT X a tA):PT X (.UnaryOp .Not a pos) (Qc tA):=by intro pins s σ H Q I h;exact isTrue_not (ha pins s σ H (λc H1=>Q (!c) H1) I h)
noncomputable def Nx(ta tb:TE):TE:=λσ H Q=>ta σ H λx H1=>∃c,x=.bl c/\if c=true then tb σ H1 Q else Q (.bl false) H1
noncomputable def Pa(ta tb:TE):TE:=λσ H Q=>ta σ H λx H1=>∃c,x=.bl c/\if c=true then Q (.bl true) H1 else tb σ H1 Q
noncomputable def Oe(ta:TE):TE:=λσ H Q=>ta σ H λx H1=>∃c,x=.bl c/\Q (.bl (!c)) H1
def Mb {op} {t:TE} (h:PE X a t):PE X (.BoolOp op [a] pos) t:=λpins s σ H Q I hw=>BoolOp_one (h pins s σ H Q I hw)
def Jo(ha:PE X a ta)(hb:PE X (.BoolOp .And (b::fV) pos) tb):PE X (.BoolOp .And (a::b::fV) pos) (Nx ta tb):=by
 intro pins s σ H Q I h;refine BoolOp_and (thn (ha pins s σ H _ I h) λv s1 ⟨x,H1,I1,r1,q1⟩=>?_);obtain⟨c,rfl,q1⟩:=q1;cases r1;refine tJ ?_;cases c with
 |true=>exact hb pins s1 σ H1 Q I1 q1
 |false=>exact⟨.bl false,H1,I1,rfl,q1⟩
def Nh(ha:PE X a ta)(hb:PE X (.BoolOp .Or (b::fV) pos) tb):PE X (.BoolOp .Or (a::b::fV) pos) (Pa ta tb):=by
 intro pins s σ H Q I h;refine BoolOp_or (thn (ha pins s σ H _ I h) λv s1 ⟨x,H1,I1,r1,q1⟩=>?_);obtain⟨c,rfl,q1⟩:=q1;cases r1;refine tJ ?_;cases c with
 |false=>exact hb pins s1 σ H1 Q I1 q1
 |true=>exact⟨.bl true,H1,I1,rfl,q1⟩
def K6(ha:PE X a ta):PE X (.UnaryOp .Not a pos) (Oe ta):=by intro pins s σ H Q I h;refine UnaryOp_ (thn (ha pins s σ H _ I h) λv s1 ⟨x,H1,I1,r1,q1⟩=>?_);obtain⟨c,rfl,q1⟩:=q1;cases r1;exact not_of (tJ ⟨.bl (!c),H1,I1,rfl,q1⟩)
noncomputable def tIf(t:TT)(ta tb:TE):TE:=λσ H Q=>t σ H λc H1=>if c=true then ta σ H1 Q else tb σ H1 Q
def Ey{c:Expr}(hc:PT X c tA)(ha:PE X a ta)(hb:PE X b tb):PE X (.IfExp c a b pos) (tIf tA ta tb):=by
 intro pins s σ H Q I h;refine wpAny_IfExp (thn (hc pins s σ H _ I h) λd s1 ⟨H1,I1,q1⟩=>?_);cases d with
 |true=>exact ha pins s1 σ H1 Q I1 q1
 |false=>exact hb pins s1 σ H1 Q I1 q1
end
noncomputable def SqL(K:W.Frag)(H:Hp)(a:Addr)(xs:List V):Prop:=
 Rd H a (.lst xs)\/
  ∃(o:Obj)(its:Array Value)(n:Nat),K.lookup a=some o/\o.cls=.type "list"/\o.dict=none/\o.data=.seq its n/\its.size<=sizeLine/\Vals xs its.toList
noncomputable def SqT(K:W.Frag)(H:Hp)(a:Addr)(xs:List V):Prop:=
 Rd H a (.tup xs)\/
  ∃(o:Obj)(its:Array Value)(n:Nat),K.lookup a=some o/\o.cls=.type "tuple"/\o.data=.seq its n/\its.size<=sizeLine/\Vals xs its.toList
noncomputable def Qs:Value->Option V
 |.none=>some .non
 |.bool b=>some (.bl b)
 |.int i _=>some (.int i)
 |.str x _=>some (.str x)
 |.bytes b _=>some (.byt b)
 |.float b _=>some (.flt b)
 |.ref a=>some (.ref a)
 |.type n=>some (.ty n)
 |_=>none
def RelV.abs{x:V}{u:Value}(r:RelV x u):Qs u=some x:=by
 cases x with
 |non=>cases r;rfl
 |bl _=>cases r;rfl
 |int _=>obtain⟨t,rfl⟩:=r;rfl
 |str _=>obtain⟨t,rfl⟩:=r;rfl
 |byt _=>obtain⟨t,rfl⟩:=r;rfl
 |flt _=>obtain⟨t,rfl⟩:=r;rfl
 |ref _=>cases r;rfl
 |ty _=>cases r;rfl
def RelV.inj{x y:V}{u:Value}(r:RelV x u)(q:RelV y u):x=y:=xf (r.abs.symm.trans q.abs)
theorem Vals.inj:∀{xs ys:List V}{us:List Value},Vals xs us->Vals ys us->xs=ys
 |_,_,_,.nil,.nil=>rfl
 |_,_,_,.cons r t,.cons r' t'=>by rw[r.inj r',Vals.inj t t']
section
variable{ys:List V}
def SqL.of{K:W.Frag}(h:H a=some (.lst xs)):SqL K H a xs:=.inl (.inl h)
def SqT.of{K:W.Frag}(h:H a=some (.tup xs)):SqT K H a xs:=.inl (.inl h)
def Inv.list(I:Inv X pins σ H s)(h:SqL X.K H a xs):∃its:List Value,Vals xs its/\PlainL s.heap a its.toArray/\xs.length<=sizeLine:=by
 rcases h with h|⟨o,its,n,hk,hc,hd,hs,hz,r⟩;·obtain⟨z,its,n,r,e⟩:=h.ok I.hok;exact⟨its,r,⟨_,n,e,rfl,rfl,rfl⟩,z⟩
 ·refine⟨its.toList,r,⟨o,n,I.kIn a o hk,hc,hd,by simpa using hs⟩,?_⟩;have e:=r.length;simp only[pY]at e;omega
def Inv.tuple(I:Inv X pins σ H s)(h:SqT X.K H a xs):∃its:List Value,Vals xs its/\IsTup s.heap a its.toArray/\xs.length<=sizeLine:=by
 rcases h with h|⟨o,its,n,hk,hc,hs,hz,r⟩;·obtain⟨z,its,r,p⟩:=h.ok I.hok;exact⟨its,r,p,z⟩
 ·refine⟨its.toList,r,⟨o,I.kIn a o hk,hc,n,by simpa using hs⟩,?_⟩;have e:=r.length;simp only[pY]at e;omega
def Inv.list_inj(I:Inv X pins σ H s)(h:SqL X.K H a xs)(h':SqL X.K H a ys):xs=ys:=by
 obtain⟨its,r,⟨o,n,e,_,_,d⟩,_⟩:=I.list h;obtain⟨its',r',⟨o',n',e',_,_,d'⟩,_⟩:=I.list h';rw[e]at e';cases e';rw[d]at d';injection d' with d1 _;have:its=its':=by simpa using vF Array.toList d1
 subst this;exact r.inj r'
def Inv.tuple_inj(I:Inv X pins σ H s)(h:SqT X.K H a xs)(h':SqT X.K H a ys):xs=ys:=by
 obtain⟨its,r,⟨o,e,_,n,d⟩,_⟩:=I.tuple h;obtain⟨its',r',⟨o',e',_,n',d'⟩,_⟩:=I.tuple h';rw[e]at e';cases e';rw[d]at d';injection d' with d1 _;have:its=its':=by simpa using vF Array.toList d1
 subst this;exact r.inj r'
end
noncomputable abbrev Cx.wish(X:Cx)(E:Value->Shared->Prop):Cx:={ X with xe:=E }
section
variable{fV:List Stmt}{t u:TS}{e:Expr}{te:TE}{pos:Pos}
noncomputable def N1:TS:=λD σ H=>D.nx σ H
noncomputable def Qu(t u:TS):TS:=λD σ H=>t { D with nx:=u D } σ H
def GK:PSs X [] N1:=λ_ _ σ H _ I h=>l8 ⟨σ,H,I,h⟩
def sD(h1:PS X st t)(h2:PSs X fV u):PSs X (st::fV) (Qu t u):=by
 intro pins s σ H D I h;refine wpAny_execs_cons (thn (h1 pins s σ H { D with nx:=u D } I h) λf s1 q=>?_);cases f with
 |next=>obtain⟨σ',H',I',q⟩:=q;exact h2 pins s1 σ' H' D I' q
 |ret v=>exact q
 |brk=>exact q
 |cont=>exact q
def Inv.quiet(I:Inv X pins σ H s):interactive X.env=false:=by simp[interactive,I.ok.kind]
noncomputable def Oa(te:TE):TS:=λD σ H=>te σ H λ_ H1=>D.nx σ H1
def xP(he:PE X e te)(hs:swapsWith e none pos.line X.env=pure false:=by rfl):PS X (.Expr e pos) (Oa te):=by intro pins s σ H D I h;exact wpAny_Expr_any (thn (he pins s σ H _ I h) λv s1 ⟨x,H1,I1,r1,q1⟩=>⟨σ,H1,I1,q1⟩) I.quiet hs
noncomputable def Qv(te:TE):TS:=λD σ H=>te σ H D.rt
def As(he:PE X e te):PS X (.Return (some e) pos) (Qv te):=by intro pins s σ H D I h;exact wpAny_Return_some (thn (he pins s σ H _ I h) λv s1 ⟨x,H1,I1,r1,q1⟩=>⟨x,σ,H1,I1,r1,q1⟩)
noncomputable def Qp(c:TT)(t u:TS):TS:=λD σ H=>c σ H λb H1=>if b=true then t D σ H1 else u D σ H1
def Lx{c:Expr}{a b:List Stmt}{tc:TT}(hc:PT X c tc)(ha:PSs X a t)(hb:PSs X b u):PS X (.If c a b pos) (Qp tc t u):=by
 intro pins s σ H D I h;refine wpAny_If (thn (hc pins s σ H _ I h) λd s1 ⟨H1,I1,q1⟩=>?_);cases d with
 |true=>exact ha pins s1 σ H1 D I1 q1
 |false=>exact hb pins s1 σ H1 D I1 q1
end
noncomputable abbrev TG:=V->St->Hp->(St->Hp->Prop)->Prop
noncomputable abbrev TGs:=List V->St->Hp->(St->Hp->Prop)->Prop
noncomputable def PG(X:Cx)(target:Expr)(t:TG):Prop:=
 ∀(pins:List (Addr×Obj))(s:Shared)(σ:St)(H:Hp)(v:V)(u:Value)(Q:St->Hp->Prop),Inv X pins σ H s->RelV v u->t v σ H Q->
  wpAny (model X.prog X.w) X.A (assign target X.env u) (λ_ s'=>∃σ' H',Inv X pins σ' H' s'/\Q σ' H') X.xe s
noncomputable def PGs(X:Cx)(ts:List Expr)(t:TGs):Prop:=
 ∀(pins:List (Addr×Obj))(s:Shared)(σ:St)(H:Hp)(vs:List V)(us:List Value)(Q:St->Hp->Prop),Inv X pins σ H s->Vals vs us->t vs σ H Q->
  wpAny (model X.prog X.w) X.A (assignInOrder ((assignEach ts X.env).map (·.2)) us) (λ_ s'=>∃σ' H',Inv X pins σ' H' s'/\Q σ' H') X.xe s
noncomputable abbrev Jh:=V->V->V->Hp->(Hp->Prop)->Prop
noncomputable def MI(X:Cx)(t:Jh):Prop:=
 ∀(pins:List (Addr×Obj))(s:Shared)(σ:St)(H:Hp)(o i v:V)(ov iv u:Value)(Q:Hp->Prop),Inv X pins σ H s->RelV o ov->RelV i iv->RelV v u->t o i v H Q->
  wpAny (model X.prog X.w) X.A (setItem ov iv u) (λ_ s'=>∃H',Inv X pins σ H' s'/\Q H') X.xe s
noncomputable abbrev TIp:=V->V->Hp->VK->Prop
noncomputable def PIp(X:Cx)(op:Operator)(t:TIp):Prop:=
 ∀(pins:List (Addr×Obj))(s:Shared)(σ:St)(H:Hp)(x y:V)(v u:Value)(Q:VK),Inv X pins σ H s->RelV x v->RelV y u->t x y H Q->
  wpAny (model X.prog X.w) X.A (inplaceOp op v u) (EP X pins σ Q) X.xe s
section
variable{pos:Pos}
noncomputable def Ov(i:Nat):TG:=λv σ H Q=>Q (σ.set i (some v)) H
def mj{x:Str}(hN:X.N.Nodup)(hi:X.N[i]?=some x)(hx:Loc X.env.scope x)(hf:X.fn x=true\/X.env.scope.names.lookup x=some .local:=by first|exact .inl rfl|exact .inr rfl|assumption):PG X (.Name x pos) (Ov i):=by intro pins s σ H v u Q I r h;exact wpAny_assign_Name (lx I hN hi hx r (λs' I'=>⟨_,H,I',h⟩) hf)
noncomputable def Qj:TGs:=λvs σ H Q=>vs=[]/\Q σ H
noncomputable def NT(t:TG)(u:TGs):TGs:=λvs σ H Q=>∃v r,vs=v::r/\t v σ H λσ' H'=>u r σ' H' Q
def IX:PGs X [] Qj:=by intro pins s σ H vs us Q I r h;obtain⟨e,h⟩:=h;subst e;cases r;exact assignInOrder_nil ⟨σ,H,I,h⟩
def Ee{e:Expr}{t:TG}{u:TGs}(h1:PG X e t)(h2:PGs X es u)(hs:(assignEach (e::es) X.env).map (·.2)=assign e X.env::(assignEach es X.env).map (·.2):=by rfl):PGs X (e::es) (NT t u):=by
 intro pins s σ H vs us Q I r h;obtain⟨v,vr,e1,h⟩:=h;subst e1;cases r with
 |cons r rr=>rw[hs];refine io (thn (h1 pins s σ H _ _ _ I r h) λ_ s1 ⟨σ1,H1,I1,q1⟩=>?_);exact h2 pins s1 σ1 H1 _ _ Q I1 rr q1
noncomputable def O8(K:W.Frag)(n:Nat)(t:TGs):TG:=λv σ H Q=>∃a xs,v=.ref a/\SqT K H a xs/\xs.length=n/\t xs σ H Q
def Lu{t:TGs}(hc:X.calm=true)(h:PGs X es t)(hn:(assignEach es X.env).length=n:=by rfl)(hst:(assignEach es X.env).findIdx? (·.1)=none:=by rfl):PG X (.Tuple es k pos) (O8 X.K n t):=by
 intro pins s σ H v u Q I r hw;obtain⟨a,xs,e1,hq,hl,hw⟩:=hw;subst e1;cases r;obtain⟨its,rv,ht,hz⟩:=I.tuple hq;refine assign_Tuple_tuple (I.ok.hd hc) ht (by simp[hn,<- hl,rv.length]) hst λh' hx=>?_;have I1:Inv X pins σ H { s with heap:=h' }:=I.kept (t':=s.toks) λb o e=>hx b o (xh (zj e)) e;exact h pins _ σ H xs _ Q I1 (by simpa using rv) hw
noncomputable def O2(to ti:TE)(t:Jh):TG:=λv σ H Q=>to σ H λo H1=>ti σ H1 λi H2=>t o i v H2 λH3=>Q σ H3
def FG{o i:Expr}{to ti:TE}{t:Jh}(ho:PE X o to)(hi:PE X i ti)(hs:MI X t)(ha:∀v,assign (.Subscript o i pos) X.env v=(do
 let ov <- holding [v] (eval o X.env);let iv <- holding [v,ov] (eval i X.env)
 standAt pos
 holding [v,ov,iv] (setItem ov iv v)
 release [v,ov,iv] []):=by intro _;rfl):PG X (.Subscript o i pos) (O2 to ti t):=by
 intro pins s σ H v u Q I r h;rw[ha];refine z9 (uX (thn (ho pins s σ H _ I h) λov s1 ⟨x,H1,I1,r1,q1⟩=>?_));refine z9 (uX (thn (hi pins s1 σ H1 _ I1 q1) λiv s2 ⟨y,H2,I2,r2,q2⟩=>?_));refine z9 (qQ (z9 (uX (thn (hs pins s2 σ H2 x y v ov iv u _ I2 r1 r2 r q2) λ_ s3 ⟨H3,I3,q3⟩=>?_))));exact wpAny_release ⟨σ,H3,I3,q3⟩
noncomputable def Pq(te:TE)(g:TG):TS:=λD σ H=>te σ H λx H1=>g x σ H1 D.nx
def rQ{e:Expr}{te:TE}{g:TG}(he:PE X e te)(hg:PG X tg g)(hs:swapsWithSole [tg] e pos.line X.env=pure false:=by rfl)(hw:swappedStores [tg] e X.env=pure none:=by rfl)(h1:(assignEach [tg] X.env).map (·.2)=[assign tg X.env]:=by rfl):PS X (.Assign [tg] e pos) (Pq te g):=by
 intro pins s σ H D I h;refine wpAny_Assign_stores (thn (he pins s σ H _ I h) λv s1 ⟨x,H1,I1,r1,q1⟩=>?_) hs hw;rw[h1];exact thn (hg pins s1 σ H1 x v _ I1 r1 q1) λ_ s2 q=>q
noncomputable def Qf(i j:Nat)(ta:TA):TS:=λD σ H=>ta σ H λvs H1=>∃v w,vs=[v,w]/\D.nx ((σ.set i (some v)).set j (some w)) H1
def Lf{x:Str}{a b:Expr}{ta:TA}{px pt:Pos} {kt k2 pt2} (hc:X.calm=true) (hN:X.N.Nodup) (hi:X.N[i]?=some x) (hj:X.N[j]?=some y) (hij:i≠j)
 (hx:X.env.scope.names.lookup x=some .local) (hy:X.env.scope.names.lookup y=some .local) (ha:PA X [a,b] ta)
 (hw:swappedStores [.Tuple [.Name x px,.Name y py] kt pt] (.Tuple [a,b] k2 pt2) X.env=pure (some [x,y]))
 (hs:swapsWithSole [.Tuple [.Name x px,.Name y py] kt pt] (.Tuple [a,b] k2 pt2) pos.line X.env=pure false:=by rfl) :
  PS X (.Assign [.Tuple [.Name x px,.Name y py] kt pt] (.Tuple [a,b] k2 pt2) pos) (Qf i j ta):=by
 intro pins s σ H D I h;rw[exec_Assign_arm];refine z9 (qQ ?_);rw[hs];refine z9 (zd ?_);rw[if_neg (by decide)];refine z9 (Tuple_ (thn (ha _ pins s σ H _ I h) λus s1 ⟨vs,H1,I1,r1,q1⟩=>?_));obtain⟨v,w,e1,q1⟩:=q1;subst e1;obtain⟨u1,u2,rfl,rv,rw'⟩:∃u1 u2,us=[u1,u2]/\RelV v u1/\RelV w u2:=by
  cases r1 with
  |cons p q=>
   cases q with
   |cons p' q'=>cases q';exact⟨_,_,rfl,p,p'⟩
 refine u6 ?_ (by show 2<=sizeLine;decide);have I2:Inv X pins σ H1 { s1 with heap:=s1.heap.push { cls:=.type "tuple",data:=.seq [u1,u2].toArray } }:=I1.kept (t':=s1.toks) λb o e=>zL _ e;rw[hw];refine z9 (zd ?_);show wpAny (model X.prog X.w) X.A (do rule "assign.swapped-stores";let items <- unpackItems (.ref s1.heap.objs.size) 2 none;assignInOrder [λv=>bindName X.env y v,λv=>bindName X.env x v] items.reverse;pure Flow.next) _ _ _;refine z9 (qu (z9 (unpackItems_tuple (items:=#[u1,u2]) (I.ok.hd hc) (tO s1.heap _) λh' hx'=>?_)));have I3:=I2.kept (h':=h') (t':=s1.toks) λb o e=>hx' b o (xh (zj e)) e;show wpAny _ _ (assignInOrder [λv=>bindName X.env y v,λv=>bindName X.env x v] [u2,u1]>>=λ_=>pure Flow.next) _ _ _;refine z9 (io (l9 (lx I3 hN hj (.inl hy) rw' (λs2 I4=>?_) (.inr hy))));refine io (l9 (lx I4 hN hi (.inl hx) rv (λs3 I5=>assignInOrder_nil (zd ?_)) (.inr hx)));rw[List.set_comm _ _ (yR hij)]at I5;exact⟨_,H1,I5,q1⟩
noncomputable def P7(i:Nat)(te:TE)(ti:TIp):TS:=λD σ H=>∃x,σ[i]?=some (some x)/\te σ H λy H1=>ti x y H1 λz H2=>D.nx (σ.set i (some z)) H2
def KT{x:Str}{e:Expr}{te:TE}{op:Operator}{ti:TIp}{pos':Pos}(hN:X.N.Nodup)(hi:X.N[i]?=some x)(hx:Loc X.env.scope x)(he:PE X e te)(ho:PIp X op ti)(hf:X.fn x=true\/X.env.scope.names.lookup x=some .local:=by first|exact .inl rfl|exact .inr rfl|assumption):
  PS X (.AugAssign (.Name x pos') op e pos) (P7 i te ti):=by
 intro pins s σ H D I h;obtain⟨v,e1,h⟩:=h;obtain⟨m,hn,hl⟩:=I.loc;have vis:Vis X.env.scope x:=by rcases hx with k|k;exact .inl k;exact .inr (.inl k)
 obtain⟨u,r,l⟩:=hl i x v hi e1 vis;refine wpAny_AugAssign_Name ?_;have go:wpAny (model X.prog X.w) X.A (eval e X.env) (λw s₂=>wpAny (model X.prog X.w) X.A (inplaceOp op u w) (λr s₃=>wpAny (model X.prog X.w) X.A (storeName X.env x r) (λ_=>SP X pins D .next) X.xe s₃) X.xe s₂) X.xe s:=by refine thn (he pins s σ H _ I h) λw s1 ⟨y,H1,I1,r1,q1⟩=>?_;refine thn (ho pins s1 σ H1 v y u w _ I1 r r1 q1) λz s2 ⟨zv,H2,I2,r2,q2⟩=>?_;exact lx I2 hN hi hx r2 (λs3 I3=>⟨_,H2,I3,q2⟩) hf
 rcases l with⟨hk,hm⟩|⟨hk,c,hc,hcell⟩;·exact wpAny_loadName_local I.ok.kind hk hn hm go
 ·rcases hk with hk|hk;·exact wpAny_loadName_cell I.ok.kind hk hc hcell go
  ·rcases hx with k|k;·have:X.env.scope.names.lookup x=some .free:=hk;rw[k]at this;cases this
   ·have:X.env.scope.names.lookup x=some .free:=hk;rw[k]at this;cases this
noncomputable def Ng(to ti te:TE)(tget:V->V->Hp->VK->Prop)(tip:TIp)(tset:Jh):TS:=λD σ H=>to σ H λo H1=>ti σ H1 λi H2=>tget o i H2 λx H3=>te σ H3 λy H4=>tip x y H4 λz H5=>tset o i z H5 λH6=>D.nx σ H6
noncomputable def OD(X:Cx)(t:V->V->Hp->VK->Prop):Prop:=
 ∀(pins:List (Addr×Obj))(s:Shared)(σ:St)(H:Hp)(o i:V)(ov iv:Value)(Q:VK),Inv X pins σ H s->RelV o ov->RelV i iv->t o i H Q->
  wpAny (model X.prog X.w) X.A (getItem ov iv) (EP X pins σ Q) X.xe s
def Ie{o i e:Expr}{to ti te:TE}{tget:V->V->Hp->VK->Prop}{tip:TIp}{tset:Jh}{op:Operator}{tpos:Pos}(ho:PE X o to)(hi:PE X i ti)(hg:OD X tget)(he:PE X e te)(hp:PIp X op tip)(hs:MI X tset)(ha:∀ov iv new,augStore i ov iv new=(do holding [new,ov,iv] (setItem ov iv new);release [new,ov,iv] [];pure .next):=by intros;rfl):PS X (.AugAssign (.Subscript o i tpos) op e pos) (Ng to ti te tget tip tset):=by
 intro pins s σ H D I h;refine wpAny_AugAssign_SubscriptAny (thn (ho pins s σ H _ I h) λov s1 ⟨x1,H1,I1,r1,q1⟩=>?_) ha;refine thn (hi pins s1 σ H1 _ I1 q1) λiv s2 ⟨x2,H2,I2,r2,q2⟩=>?_;refine thn (hg pins s2 σ H2 x1 x2 ov iv _ I2 r1 r2 q2) λold s3 ⟨x3,H3,I3,r3,q3⟩=>?_;refine thn (he pins s3 σ H3 _ I3 q3) λv s4 ⟨x4,H4,I4,r4,q4⟩=>?_;refine thn (hp pins s4 σ H4 x3 x4 old v _ I4 r3 r4 q4) λnew s5 ⟨x5,H5,I5,r5,q5⟩=>?_;exact thn (hs pins s5 σ H5 x1 x2 x5 ov iv new _ I5 r1 r2 r5 q5) λ_ s6 ⟨H6,I6,q6⟩=>⟨σ,H6,I6,q6⟩
noncomputable def ipI(f:Int->Int->Int):TIp:=λx y H Q=>∃i j,x=.int i/\y=.int j/\Q (.int (f i j)) H
def Jm:PIp X .Add (ipI λi j=>i+j):=by intro pins s σ H x y v u Q I r1 r2 h;obtain⟨i,j,e1,e2,q⟩:=h;subst e1;subst e2;obtain⟨t,rfl⟩:=r1;obtain⟨t',rfl⟩:=r2;exact iadd_int ⟨.int _,H,I.tok _,⟨_,rfl⟩,q⟩
def Ly:PIp X .Sub (ipI λi j=>i - j):=by intro pins s σ H x y v u Q I r1 r2 h;obtain⟨i,j,e1,e2,q⟩:=h;subst e1;subst e2;obtain⟨t,rfl⟩:=r1;obtain⟨t',rfl⟩:=r2;exact isub_int ⟨.int _,H,I.tok _,⟨_,rfl⟩,q⟩
end
section
variable{pos:Pos}
noncomputable def Kk(c:TT)(tb:TS):TS:=λD σ H=>∃W:Nat->St->Hp->Prop,(∃m,W m σ H)/\∀m σ H,W m σ H->
 c σ H λb H1=>if b=true then ∃N:St->Hp->Prop,(∀σ' H',N σ' H'->∃m',m'<m/\W m' σ' H')/\tb { D with nx:=N,ct:=N,bk:=D.nx } σ H1 else D.nx σ H1
def E5{c:Expr}{tc:TT}{tb:TS}(hp:PassesOwn (model X.prog X.w) X.A X.env X.xe)(hc:PT X c tc)(hb:PSs X body tb):PS X (.While c body [] pos) (Kk tc tb):=by
 intro pins s σ H D I h;obtain⟨W,⟨m0,w0⟩,CS⟩:=h;refine wpAny_While (codeAny_whileLoop (λn s'=>∃σ' H',Inv X pins σ' H' s'/\W n σ' H') ?_ m0 ⟨σ,H,I,w0⟩);rintro n s1 ⟨σ1,H1,I1,w1⟩;refine qw hp (thn (hc pins s1 σ1 H1 _ I1 (CS n σ1 H1 w1)) λb s2 ⟨H2,I2,q2⟩=>?_);cases b with
 |true=>
  obtain⟨N,hN,q2⟩:=q2;rw[if_pos rfl];refine qw hp (thn (hb pins s2 σ1 H2 _ I2 q2) λf s3 q3=>?_);cases f with
  |next=>obtain⟨σ3,H3,I3,n3⟩:=q3;obtain⟨m',hm,w3⟩:=hN σ3 H3 n3;exact⟨m',hm,σ3,H3,I3,w3⟩
  |cont=>obtain⟨σ3,H3,I3,n3⟩:=q3;obtain⟨m',hm,w3⟩:=hN σ3 H3 n3;exact⟨m',hm,σ3,H3,I3,w3⟩
  |brk=>exact q3
  |ret v=>exact q3
 |false=>rw[if_neg xR];exact l8 ⟨σ1,H2,I2,q2⟩
end
structure It where
 go:Nat->Hp->Prop
 yld:Nat->Hp->V->Hp->Prop
 stop:Nat->Hp->Prop
noncomputable def qq(X:Cx)(pins:List (Addr×Obj))(H:Hp)(b:Addr):Prop:=
 H b=none/\b≠X.env.locals/\b∉X.fs/\(b∈X.ex\/X.s₀.heap.objs.size<=b)/\(∀x c,X.env.cells.lookup x=some c->c≠b)/\∀p∈X.pn++pins,p.1≠b
def Inv.fpOk{b:Addr}(I:Inv X pins σ H s)(hb:s.heap.objs.size<=b)(hn:H' b=none):qq X pins H' b:=by
 refine⟨hn,sf (ww I.lt hb),I.nofs hb,.inr (xk I.sz hb),λx c e z=>?_,λp hp z=>?_⟩;·obtain⟨v,q⟩:=I.cell x c e;exact absurd (ww q.lt (by rw[z];exact hb)) (tH _)
 ·exact absurd (ww (zj (I.pin p hp).1) (by rw[z];exact hb)) (tH _)
structure Turn(P:Program)(w:World)(K:W.Frag)(tg:Expr)(J:It)(fp:List Addr)(it:Addr)(tn:Nat->Heap->Prop):Prop where
 mem:it∈fp
 obj:∀i h,tn i h->∀b∈fp,∃o,h.get? b=some o/\∀v,o.data≠.cell v
 keep:∀i h h',tn i h->(∀b∈fp,∀o,h.get? b=some o->h'.get? b=some o)->tn i h'
 item:∀(X:Cx),X.prog=P->X.w=w->X.K=K->X.calm=true->∀(i:Nat)(pins:List (Addr×Obj))(s:Shared)(σ:St)(H:Hp)(E:Value->Shared->Prop),Inv X pins σ H s->(∀b∈fp,qq X pins H b)->tn i s.heap->J.go i H->
  wpAny (model P w) X.A (pyNext (.ref it)) (λr s1=>∃u,r=some u/\
   wpAny (model P w) X.A (letOwnedTupleGo tg (.ref it) u) (λ_ s2=>∃x H',Inv X pins σ H' s2/\RelV x u/\J.yld i H x H'/\tn (i+1) s2.heap/\∀b∈fp,H' b=none) E s1) E s
 done:∀(X:Cx),X.prog=P->X.w=w->X.K=K->X.calm=true->∀(i:Nat)(pins:List (Addr×Obj))(s:Shared)(σ:St)(H:Hp)(E:Value->Shared->Prop),Inv X pins σ H s->(∀b∈fp,qq X pins H b)->tn i s.heap->J.stop i H->
  wpAny (model P w) X.A (pyNext (.ref it)) (λr s1=>r=none/\Inv X pins σ H s1) E s
 self:∀(A:Around)(i:Nat)(s:Shared)(Q:Value->Shared->Prop)(E:Value->Shared->Prop),tn i s.heap->Q (.ref it) s->wpAny (model P w) A (pyIter (.ref it)) Q E s
noncomputable abbrev TI:=St->Hp->(It->Hp->Prop)->Prop
noncomputable def PIE(X:Cx)(pins:List (Addr×Obj))(σ:St)(tg:Expr)(R:It->Hp->Prop)(itv:Value)(s2:Shared):Prop:=
 ∃(it:Addr)(fp:List Addr)(tn:Nat->Heap->Prop)(J:It)(H':Hp),itv=.ref it/\Inv X pins σ H' s2/\Turn X.prog X.w X.K tg J fp it tn/\tn 0 s2.heap/\(∀b∈fp,qq X pins H' b)/\R J H'
noncomputable def PI(X:Cx)(tg iter:Expr)(wi:TI):Prop:=
 ∀(pins:List (Addr×Obj))(s:Shared)(σ:St)(H:Hp)(R:It->Hp->Prop),Inv X pins σ H s->wi σ H R->
  wpAny (model X.prog X.w) X.A (eval iter X.env) (λv s1=>wpAny (model X.prog X.w) X.A (pyIter v) (PIE X pins σ tg R) X.xe s1) X.xe s
def B0{M : Model}{A : Around}{u : Value}{o : Obj}{n : String}{vs : Array Value}{Q : Unit -> Shared -> Prop}(ho : s.heap.get? it = some o)(hc : o.cls = .type n)(hd : o.data = .fields vs)(hn : ["enumerate", "zip", "dict_itemiterator", "dict_reverseitemiterator", "odict_iterator", "itertools.zip_longest", "itertools.pairwise"].contains n = false)(hQ : Q () s): wpAny M A (letOwnedTupleGo tg (.ref it) u) Q E s := by
  unfold letOwnedTupleGo;cases tg <;> first
    |exact zd hQ
    | (cases u <;> first
        |exact zd hQ
        | (refine z9 (wpAny_load ho ?_)
           rw[hc, hd];show wpAny M A (if (["enumerate", "zip", "dict_itemiterator", "dict_reverseitemiterator", "odict_iterator", "itertools.zip_longest", "itertools.pairwise"].contains n && vs[0]? == some (rawInt _)) = true then _ else _) Q E s;rw[if_neg (by intro h; rw[hn, Bool.false_and]at h; cases h)];exact zd hQ))

noncomputable def Itl(K:W.Frag)(a:Addr):It:=
 ⟨λi H=>∃xs x,SqL K H a xs/\xs[i]?=some x,λi H x H'=>H'=H/\∀xs,SqL K H a xs->xs[i]?=some x,λi H=>∃xs,SqL K H a xs/\xs.length<=i⟩
noncomputable def Itt(K:W.Frag)(a:Addr):It:=
 ⟨λi H=>∃xs x,SqT K H a xs/\xs[i]?=some x,λi H x H'=>H'=H/\∀xs,SqT K H a xs->xs[i]?=some x,λi H=>∃xs,SqT K H a xs/\xs.length<=i⟩
noncomputable def Itr(lo:Int)(n:Nat):It:=⟨λi _=>i<n,λi H x H'=>H'=H/\x=.int (lo+i),λi _=>n<=i⟩
def B5{w:World}{K:W.Frag}(a it:Addr):Turn P w K tg (Itl K a) [it] it (λi h=>h.IsListIter it a i) where
 mem:=by simp
 obj:=λi h st b hb=>by
  have e:b=it:=by simpa using hb
  subst e;obtain⟨o,e,c,d⟩:=st;exact⟨o,e,λv z=>by rw[d]at z;cases z⟩
 keep:=λi h h' st k=>st.at λo e=>k it (by simp) o e
 item:=by intro X hP hw hK hc i pins s σ H E I hf st hg;subst hP hw hK;obtain⟨xs,x,hq,hx⟩:=hg;obtain⟨its,rv,p,hz⟩:=I.list hq;obtain⟨u,hu,ru⟩:=rv.get hx;obtain⟨f0,f1,f2,f3,f4,f5⟩:=hf it (by simp);refine wpAny_pyNext_list_item st p.isList (x:=u) (by simpa using hu) λh' st' sb=>?_;have I1:Inv X pins σ H { s with heap:=h' }:=I.turned (t':=s.toks) (λb o hb e=>(sb.2 b hb).trans e) f0 f1 f3 f4 f5;obtain⟨o,e,c,d⟩:=id st';exact⟨u,rfl,B0 (s:={ s with heap:=h' }) e c d (by decide) ⟨x,H,I1,ru,⟨rfl,λys hy=>by rw[I.list_inj hy hq];exact hx⟩,st',λb hb=>(hf b hb).1⟩⟩
 done:=by intro X hP hw hK hc i pins s σ H E I hf st hg;subst hP hw hK;obtain⟨xs,hq,hx⟩:=hg;obtain⟨its,rv,p,hz⟩:=I.list hq;obtain⟨f0,f1,f2,f3,f4,f5⟩:=hf it (by simp);have hl:=rv.length;exact wpAny_pyNext_list_end (I.ok.hd hc) st p.isList (by simp;omega) λh' eb=>⟨rfl,I.turned (t':=s.toks) (λb o hb e=>eb b o hb e) f0 f1 f3 f4 f5⟩
 self:=λ_ _ _ _ _ st h=>wpAny_pyIter_listiter st h
def yW{w:World}{K:W.Frag}(a it:Addr):Turn P w K tg (Itt K a) [it] it (λi h=>h.IsTupleIter it a i) where
 mem:=by simp
 obj:=λi h st b hb=>by
  have e:b=it:=by simpa using hb
  subst e;obtain⟨o,e,c,d⟩:=st;exact⟨o,e,λv z=>by rw[d]at z;cases z⟩
 keep:=λi h h' st k=>st.at λo e=>k it (by simp) o e
 item:=by intro X hP hw hK hc i pins s σ H E I hf st hg;subst hP hw hK;obtain⟨xs,x,hq,hx⟩:=hg;obtain⟨its,rv,p,hz⟩:=I.tuple hq;obtain⟨u,hu,ru⟩:=rv.get hx;obtain⟨f0,f1,f2,f3,f4,f5⟩:=hf it (by simp);refine wpAny_pyNext_tuple_item st (show s.heap.IsTuple a its.toArray from p) (x:=u) (by simpa using hu) λh' st' sb=>?_;have I1:Inv X pins σ H { s with heap:=h' }:=I.turned (t':=s.toks) (λb o hb e=>(sb.2 b hb).trans e) f0 f1 f3 f4 f5;obtain⟨o,e,c,d⟩:=id st';exact⟨u,rfl,B0 (s:={ s with heap:=h' }) e c d (by decide) ⟨x,H,I1,ru,⟨rfl,λys hy=>by rw[I.tuple_inj hy hq];exact hx⟩,st',λb hb=>(hf b hb).1⟩⟩
 done:=by intro X hP hw hK hc i pins s σ H E I hf st hg;subst hP hw hK;obtain⟨xs,hq,hx⟩:=hg;obtain⟨its,rv,p,hz⟩:=I.tuple hq;obtain⟨f0,f1,f2,f3,f4,f5⟩:=hf it (by simp);have hl:=rv.length;exact wpAny_pyNext_tuple_end (I.ok.hd hc) st (show s.heap.IsTuple a its.toArray from p) (by simp;omega) λh' eb=>⟨rfl,I.turned (t':=s.toks) (λb o hb e=>eb b o hb e) f0 f1 f3 f4 f5⟩
 self:=λ_ _ _ _ _ st h=>wpAny_pyIter_tupleiter st h
def yU{w:World}{K:W.Frag}(it:Addr)(lo:Int)(n:Nat):Turn P w K tg (Itr lo n) [it] it (λi h=>IsRangeIter h it (lo+(i:Nat) * 1) ((n:Int) - (i:Nat)) 1) where
 mem:=by simp
 obj:=λi h st b hb=>by
  have e:b=it:=by simpa using hb
  subst e;exact⟨_,st,λv z=>by have z':Data.fields _=Data.cell v:=z;cases z'⟩
 keep:=λi h h' st k=>k it (by simp) _ st
 item:=by intro X hP hw hK hc i pins s σ H E I hf st hg;subst hP hw hK;obtain⟨f0,f1,f2,f3,f4,f5⟩:=hf it (by simp);have W:=Walks.range (prog:=X.prog) (w:=X.w) (I.ok.hd hc) it lo 1 n;refine W.item i s _ _ hg st λv h' tk hv st' kk=>?_;obtain⟨t,rfl⟩:=hv;have I1:Inv X pins σ H { s with heap:=h',toks:=tk }:=I.turned (λb o hb e=>kk b o (by simpa using hb) e) f0 f1 f3 f4 f5;refine⟨_,rfl,B0 (s:={ s with heap:=h',toks:=tk }) (n:="range_iterator") st' rfl rfl (by decide) ⟨.int (lo+i),H,I1,⟨t,?_⟩,⟨rfl,rfl⟩,st',λb hb=>(hf b hb).1⟩⟩;rw[Int.mul_one]
 done:=by intro X hP hw hK hc i pins s σ H E I hf st hg;subst hP hw hK;obtain⟨f0,f1,f2,f3,f4,f5⟩:=hf it (by simp);exact wpAny_pyNext_range_end (I.ok.hd hc) st (by have:n<=i:=hg;omega) λh' eb=>⟨rfl,I.turned (t':=s.toks) (λb o hb e=>eb b o hb e) f0 f1 f3 f4 f5⟩
 self:=λ_ _ _ _ _ st h=>wpAny_pyIter_rangeiter st h
section
def yi{R:It->Hp->Prop}{lo hi:Int}{t u v:Tok}{tk:Nat}(I:Inv X pins σ H s)(h1 : -(2 ^ 62)<=lo)(h2:lo<2 ^ 62)(h3 : -(2 ^ 62)<=hi)(h4:hi<2 ^ 62)(q:R (Itr lo (hi - lo).toNat) H):wpAny (model X.prog X.w) X.A (pyIter (.ref s.heap.objs.size)) (PIE X pins σ tg R) E { s with heap:=s.heap.push { cls:=.type "range",data:=.fields #[.int lo t,.int hi u,.int 1 v] },toks:=tk }:=by
 refine wpAny_pyIter_range (IsRange.new ..) (small_one h1 h2 h3 h4) ?_;have I1:Inv X pins σ H { s with heap:=s.heap.push { cls:=.type "range",data:=.fields #[.int lo t,.int hi u,.int 1 v] },toks:=tk }:=I.kept λb o e=>zL _ e;refine⟨(s.heap.push { cls:=.type "range",data:=.fields #[.int lo t,.int hi u,.int 1 v] }).objs.size,[(s.heap.push { cls:=.type "range",data:=.fields #[.int lo t,.int hi u,.int 1 v] }).objs.size],_,_,H,rfl,
  I1.kept (t':=tk) λb o e=>zL _ e,yU _ lo (hi - lo).toNat,?_,λb hb=>?_,q⟩
 ·have e1:lo+((0:Nat):Int) * 1=lo:=by simp
  have e2:(((hi - lo).toNat:Nat):Int) - ((0:Nat):Int)=Builtin.Range.rangeSize lo hi 1:=by rw[rangeSize_one];split <;> omega
  show IsRangeIter _ _ (lo+((0:Nat):Int) * 1) ((((hi - lo).toNat:Nat):Int) - ((0:Nat):Int)) 1;rw[e1,e2];exact xj _ rfl
 ·have e:b=(s.heap.push { cls:=.type "range",data:=.fields #[.int lo t,.int hi u,.int 1 v] }).objs.size:=by simpa using hb
  subst e;exact I1.fpOk (zq _) (I1.hok.fresh (zq _))
noncomputable def Oi(ta:TA):TI:=λσ H R=>ta σ H λvs H1=>∃j:Int,vs=[.int j]/\-(2 ^ 62)<=j/\j<2 ^ 62/\R (Itr 0 j.toNat) H1
noncomputable def Nv(ta:TA):TI:=λσ H R=>ta σ H λvs H1=>∃i j:Int,vs=[.int i,.int j]/\(-(2 ^ 62)<=i/\i<2 ^ 62/\-(2 ^ 62)<=j/\j<2 ^ 62)/\R (Itr i (j - i).toNat) H1
def Bx{a:Expr}{ta:TA}{pos:Pos}(hg:Gl X "range")(hm:X.mg "range"=none)(ha:PA X [a] ta)(hs:starEach [a] X.env=[(false,eval a X.env)]:=by rfl):PI X tg (.Call (.Name "range" p) [a] [] pos) (Oi ta):=by
 intro pins s σ H R I h;refine Call_ (mJ I hg hm boot_range (callWith_type1 (thn (ha pos pins s σ H _ I h) λus s1 ⟨vs,H1,I1,r1,q1⟩=>?_) hs rfl));obtain⟨j,e,q1,q2,q⟩:=q1;subst e;cases r1 with
 |cons r rr=>cases rr;obtain⟨t,rfl⟩:=r;exact call_range_1 (yi I1 (by omega) (by omega) q1 q2 (by simpa using q))
def Bg{a b:Expr}{ta:TA}{pos:Pos}(hg:Gl X "range")(hm:X.mg "range"=none)(ha:PA X [a,b] ta)(hs:starEach [a,b] X.env=[(false,eval a X.env),(false,eval b X.env)]:=by rfl)(hs2:starEach [b] X.env=[(false,eval b X.env)]:=by rfl):
  PI X tg (.Call (.Name "range" p) [a,b] [] pos) (Nv ta):=by
 intro pins s σ H R I h;refine Call_ (mJ I hg hm boot_range (callWith_type1 (thn (ha pos pins s σ H _ I h) λus s1 ⟨vs,H1,I1,r1,q1⟩=>?_) (by rw[hs,hs2]) (by rw[hs2];rfl)));obtain⟨i,j,e,⟨q1,q2,q3,q4⟩,q⟩:=q1;subst e;cases r1 with
 |cons r rr=>
  cases rr with
  |cons r' rr=>cases rr;obtain⟨t,rfl⟩:=r;obtain⟨t',rfl⟩:=r';exact call_range_2 (yi I1 q1 q2 q3 q4 q)
noncomputable def Ql(wi:TI)(g:TG)(tb:TS):TS:=λD σ H=>wi σ H λJ H1=>∃W:Nat->Nat->St->Hp->Prop,(∃m,W 0 m σ H1)/\∀i m σ H,W i m σ H->
 (J.stop i H/\D.nx σ H)\/(J.go i H/\∃N:St->Hp->Prop,(∀σ' H',N σ' H'->∃m',m'<m/\W (i+1) m' σ' H')/\∀x H',J.yld i H x H'->g x σ H' λσ2 H2=>tb { D with nx:=N,ct:=N,bk:=D.nx } σ2 H2)
noncomputable def gY(fp:List Addr)(h:Heap):List (Addr×Obj):=fp.filterMap λb=>(h.get? b).map λo=>(b,o)
def fu{b:Addr}{o:Obj}(hb:b∈fp)(e:h.get? b=some o):(b,o)∈gY fp h:=o6.mpr ⟨b,hb,by rw[e];rfl⟩
def Bm{p:Addr×Obj}(hp:p∈gY fp h):p.1∈fp/\h.get? p.1=some p.2:=by
 obtain⟨b,hb,e⟩:=o6.mp hp;cases q:h.get? b with
 |none=>rw[q]at e;cases e
 |some o=>rw[q]at e;have e':(b,o)=p:=xf e;subst e';exact⟨hb,q⟩
def Inv.pinned(I:Inv X pins σ H s)(hf:∀b∈fp,qq X pins H b)(ho:∀b∈fp,∃o,s.heap.get? b=some o/\∀v,o.data≠.cell v):Inv X (pins++gY fp s.heap) σ H s:=
 I.pins_of λp hp=>(List.mem_append.mp hp).elim (λz=>I.pin p (t5 _ z)) λz=>by obtain⟨hb,e⟩:=Bm z;obtain⟨f0,f1,f2,_⟩:=hf p.1 hb;obtain⟨o,e',d⟩:=ho p.1 hb;rw[e]at e';cases e';exact⟨e,f0,f1,f2,d⟩
def Inv.unpinned{pl:List (Addr×Obj)}(I:Inv X (pins++pl) σ H s):Inv X pins σ H s:=I.pins_of λp hp=>I.pin p (t5 _ (qM _ hp))
def FC{wi:TI}{g:TG}{tb:TS}{pos:Pos}(hp:PassesOwn (model X.prog X.w) X.A X.env X.xe)(hc:X.calm=true)(hi:PI X tg iter wi)(hg:PG X tg g)(hb:PSs X body tb)(hs:∀x,foldedSetIterable iter X.env x=pure x:=by intro _;rfl):PS X (.For tg iter body [] pos) (Ql wi g tb):=by
 intro pins s σ H D I h;refine wpAny_For (thn (hi pins s σ H _ I h) λv s1 h1=>thn h1 λitv s2 h2=>?_) hs;obtain⟨it,fp,tn,J,H2,e,I2,T,st2,f2,W,⟨m0,w0⟩,CS⟩:=h2;subst e;have stat:∀{H':Hp},(∀b∈fp,H' b=none)->∀b∈fp,qq X pins H' b:=λhn b hb=>⟨hn b hb,(f2 b hb).2⟩
 refine codeAny_forLoop_any (λn s'=>∃i σ' H',Inv X pins σ' H' s'/\tn i s'.heap/\(∀b∈fp,H' b=none)/\W i n σ' H') ?_ m0 ⟨0,σ,H2,I2,st2,λb hb=>(f2 b hb).1,w0⟩;rintro n s3 ⟨i,σ3,H3,I3,st3,fr3,w3⟩;rcases CS i n σ3 H3 w3 with⟨stop,qn⟩|⟨go,N,hN,step⟩
 ·refine qw hp (thn (T.done X rfl rfl rfl hc i pins s3 σ3 H3 X.xe I3 (stat fr3) st3 stop) λr s4 ⟨hr,I4⟩=>?_);subst hr;exact l8 ⟨σ3,H3,I4,qn⟩
 ·refine qw hp (thn (T.item X rfl rfl rfl hc i pins s3 σ3 H3 X.xe I3 (stat fr3) st3 go) λr s4 ⟨u,hr,h4⟩=>?_);subst hr;refine qw hp (thn h4 λ_ s5 ⟨x,H5,I5,r5,y5,st5,fr5⟩=>?_);have I5':=I5.pinned (stat fr5) (T.obj _ _ st5);refine qw hp (thn (hg _ s5 σ3 H5 x u _ I5' r5 (step x H5 y5)) λ_ s6 ⟨σ6,H6,I6,q6⟩=>?_);refine qw hp (thn (hb _ s6 σ6 H6 _ I6 q6) λf s7 q7=>?_);have again:∀{σ7:St}{H7:Hp},Inv X (pins++gY fp s5.heap) σ7 H7 s7->N σ7 H7->∃m,m<n/\∃i σ' H',Inv X pins σ' H' s7/\tn i s7.heap/\(∀b∈fp,H' b=none)/\W i m σ' H':=λ{σ7 H7} I7 n7=>by obtain⟨m',hm,w7⟩:=hN σ7 H7 n7;refine⟨m',hm,i+1,σ7,H7,I7.unpinned,T.keep _ _ _ st5 λb hb o e=>(I7.pin (b,o) (t5 _ (t5 _ (fu hb e)))).1,λb hb=>?_,w7⟩;obtain⟨o,e,d⟩:=T.obj _ _ st5 b hb;exact(I7.pin (b,o) (t5 _ (t5 _ (fu hb e)))).2.1
  cases f with
  |next=>obtain⟨σ7,H7,I7,n7⟩:=q7;exact again I7 n7
  |cont=>obtain⟨σ7,H7,I7,n7⟩:=q7;exact again I7 n7
  |brk=>obtain⟨σ7,H7,I7,q7⟩:=q7;exact⟨σ7,H7,I7.unpinned,q7⟩
  |ret v=>obtain⟨x7,σ7,H7,I7,r7,q7⟩:=q7;exact⟨x7,σ7,H7,I7.unpinned,r7,q7⟩
end
noncomputable abbrev R2:=V->V->Hp->VK->Prop
noncomputable def OpR(X:Cx)(f:Value->Value->Sem Value)(r:R2):Prop:=
 ∀(pins:List (Addr×Obj))(s:Shared)(σ:St)(H:Hp)(x y:V)(v u:Value)(Q:VK),Inv X pins σ H s->RelV x v->RelV y u->r x y H Q->
  wpAny (model X.prog X.w) X.A (f v u) (EP X pins σ Q) X.xe s
noncomputable def UnR(X:Cx)(f:Value->Sem Value)(r:V->Hp->VK->Prop):Prop:=
 ∀(pins:List (Addr×Obj))(s:Shared)(σ:St)(H:Hp)(x:V)(v:Value)(Q:VK),Inv X pins σ H s->RelV x v->r x H Q->
  wpAny (model X.prog X.w) X.A (f v) (EP X pins σ Q) X.xe s
noncomputable def kz(X:Cx)(f:Value)(r:List V->Hp->VK->Prop):Prop:=
 ∀(pins:List (Addr×Obj))(s:Shared)(σ:St)(H:Hp)(xs:List V)(us:List Value)(Q:VK),Inv X pins σ H s->Vals xs us->r xs H Q->
  wpAny (model X.prog X.w) X.A (call f us) (EP X pins σ Q) X.xe s
noncomputable def Qm(X:Cx)(r:V->Hp->(Bool->Hp->Prop)->Prop):Prop:=
 ∀(pins:List (Addr×Obj))(s:Shared)(σ:St)(H:Hp)(x:V)(v:Value)(Q:Bool->Hp->Prop),Inv X pins σ H s->RelV x v->r x H Q->
  wpAny (model X.prog X.w) X.A (truthy v) (TP X pins σ Q) X.xe s
noncomputable def tOp(r:R2)(ta tb:TE):TE:=λσ H Q=>ta σ H λx H1=>tb σ H1 λy H2=>r x y H2 Q
noncomputable def tUn(r:V->Hp->VK->Prop)(ta:TE):TE:=λσ H Q=>ta σ H λx H1=>r x H1 Q
noncomputable def rI(C:Int->Int->Prop)(g:Int->Int->V):R2:=λx y H Q=>∃i j,x=.int i/\y=.int j/\C i j/\Q (g i j) H
noncomputable def rI0(g:Int->Int->V):R2:=λx y H Q=>∃i j,x=.int i/\y=.int j/\Q (g i j) H
noncomputable def rU(g:Int->V):V->Hp->VK->Prop:=λx H Q=>∃i,x=.int i/\Q (g i) H
section
variable{a b c:Expr}{ta tb tc:TE}{pos:Pos}
def MO(ha:PE X a ta)(hb:PE X b tb){R:V->V->Hp->Prop}(I:Inv X pins σ H s)(h:ta σ H λx H1=>tb σ H1 λy H2=>R x y H2){Q:Value->Shared->Prop}{f:Value->Value->Sem Value}(hf:∀v u s2 x y H2,Inv X pins σ H2 s2->RelV x v->RelV y u->R x y H2->wpAny (model X.prog X.w) X.A (f v u) Q X.xe s2):
  wpAny (model X.prog X.w) X.A (eval a X.env) (λv s₁=>wpAny (model X.prog X.w) X.A (eval b X.env) (λu s₂=>wpAny (model X.prog X.w) X.A (f v u) Q X.xe s₂) X.xe s₁) X.xe s:=by
 refine thn (ha pins s σ H _ I h) λv s1 ⟨x,H1,I1,r1,q1⟩=>?_;refine thn (hb pins s1 σ H1 _ I1 q1) λu s2 ⟨y,H2,I2,r2,q2⟩=>?_;exact hf v u s2 x y H2 I2 r1 r2 q2
def N4{op:Operator}{r:R2}(ho:OpR X (binaryOp op) r)(ha:PE X a ta)(hb:PE X b tb):PE X (.BinOp a op b pos) (tOp r ta tb):=by intro pins s σ H Q I h;exact wpAny_BinOp (MO ha hb I h λv u s2 x y H2 I2 rx ry q=>ho pins s2 σ H2 x y v u Q I2 rx ry q)
def NP{op:UnaryOp}{r:V->Hp->VK->Prop}(ho:UnR X (unaryOp op) r)(ha:PE X a ta):PE X (.UnaryOp op a pos) (tUn r ta):=by intro pins s σ H Q I h;exact UnaryOp_ (thn (ha pins s σ H _ I h) λv s1 ⟨x,H1,I1,r1,q1⟩=>ho pins s1 σ H1 x v Q I1 r1 q1)
def opI{f:Value->Value->Sem Value}{C:Int->Int->Prop}{g:Int->Int->Int}(rule:∀(i j:Int)(t u:Tok)(s:Shared)(Q:Value->Shared->Prop)(E:Value->Shared->Prop),C i j->Q (.int (g i j) s.toks) { s with toks:=s.toks+1 }->wpAny (model X.prog X.w) X.A (f (.int i t) (.int j u)) Q E s):
  OpR X f (rI C λi j=>.int (g i j)):=by
 intro pins s σ H x y v u Q I rx ry h;obtain⟨i,j,rfl,rfl,hc,q⟩:=h;obtain⟨t,rfl⟩:=rx;obtain⟨t',rfl⟩:=ry;exact rule i j t t' s _ _ hc ⟨.int (g i j),H,I.tok _,⟨_,rfl⟩,q⟩
def Oz{f:Value->Value->Sem Value}{g:Int->Int->Int}(rule:∀(i j:Int)(t u:Tok)(s:Shared)(Q:Value->Shared->Prop)(E:Value->Shared->Prop),Q (.int (g i j) s.toks) { s with toks:=s.toks+1 }->wpAny (model X.prog X.w) X.A (f (.int i t) (.int j u)) Q E s):
  OpR X f (rI0 λi j=>.int (g i j)):=by
 intro pins s σ H x y v u Q I rx ry h;obtain⟨i,j,rfl,rfl,q⟩:=h;obtain⟨t,rfl⟩:=rx;obtain⟨t',rfl⟩:=ry;exact rule i j t t' s _ _ ⟨.int (g i j),H,I.tok _,⟨_,rfl⟩,q⟩
def MJ{f:Value->Value->Sem Value}{g:Int->Int->Bool}(rule:∀(i j:Int)(t u:Tok)(s:Shared)(Q:Value->Shared->Prop)(E:Value->Shared->Prop),Q (.bool (g i j)) s->wpAny (model X.prog X.w) X.A (f (.int i t) (.int j u)) Q E s):
  OpR X f (rI0 λi j=>.bl (g i j)):=by
 intro pins s σ H x y v u Q I rx ry h;obtain⟨i,j,rfl,rfl,q⟩:=h;obtain⟨t,rfl⟩:=rx;obtain⟨t',rfl⟩:=ry;exact rule i j t t' s _ _ ⟨.bl (g i j),H,I,rfl,q⟩
noncomputable def PM(i j:Int):Prop:=0<j/\j<1073741824
noncomputable def CMul(i j:Int):Prop:=(-(2 ^ 64)<i/\i<2 ^ 64)\/(-(2 ^ 64)<j/\j<2 ^ 64)
def CMul.ok{i j:Int}(h:CMul i j):IntMulOk i j:=by
 rcases h with⟨h1,h2⟩|⟨h1,h2⟩;·exact .of_left (intBits_le_64 h1 h2)
 ·exact .of_right (intBits_le_64 h1 h2)
def op_add:OpR X (binaryOp .Add) (rI0 λi j=>.int (i+j)):=Oz λ_ _ _ _ _ _ _ q=>add_int q
def LG:OpR X (binaryOp .Sub) (rI0 λi j=>.int (i - j)):=Oz λ_ _ _ _ _ _ _ q=>sub_int q
def op_mul:OpR X (binaryOp .Mult) (rI CMul λi j=>.int (i * j)):=opI λ_ _ _ _ _ _ _ hc q=>mul_int q hc.ok
def IY:OpR X (binaryOp .FloorDiv) (rI PM λi j=>.int (i / j)):=opI λi j _ _ _ _ _ hc q=>by have h1:(0:Int)<j:=hc.1;have h2:j<1073741824:=hc.2;exact floordiv_int (by omega) (by rw[Int.fdiv_eq_ediv_of_nonneg i (by omega)];exact q) (.inl (PyProof.noPylong_small (by omega)))
def K0:OpR X (binaryOp .Mod) (rI (λ_ j=>0<j) λi j=>.int (i % j)):=opI λi j _ _ _ _ _ hc q=>by have h1:(0:Int)<j:=hc;exact mod_int' (by omega) (by rw[Int.fmod_eq_emod_of_nonneg i (by omega)];exact q)
def unI{f:Value->Sem Value}{g:Int->Int}(rule:∀(i:Int)(t:Tok)(s:Shared)(Q:Value->Shared->Prop)(E:Value->Shared->Prop),Q (.int (g i) s.toks) { s with toks:=s.toks+1 }->wpAny (model X.prog X.w) X.A (f (.int i t)) Q E s):
  UnR X f (rU λi=>.int (g i)):=by
 intro pins s σ H x v Q I rx h;obtain⟨i,rfl,q⟩:=h;obtain⟨t,rfl⟩:=rx;exact rule i t s _ _ ⟨.int (g i),H,I.tok _,⟨_,rfl⟩,q⟩
def Lm:UnR X (unaryOp .USub) (rU λi=>.int (-i)):=unI λ_ _ _ _ _ q=>neg_int q
end
section
variable{a b c:Expr}{ta tb tc:TE}{pos:Pos}
def ye{Q:VK}{k k':Bool}(I:Inv X pins σ H s)(q:Q (.bl k) H)(e:k=k'):EP X pins σ Q (.bool k') s:=by subst e;exact⟨.bl k,H,I,rfl,q⟩
def op_lt:OpR X (compareOp .Lt) (rI0 λi j=>.bl (decide (i<j))):=MJ λ_ _ _ _ _ _ _ q=>lt_int q
def op_le:OpR X (compareOp .LtE) (rI0 λi j=>.bl (decide (i<=j))):=MJ λ_ _ _ _ _ _ _ q=>le_int q
def Nm:OpR X (compareOp .Gt) (rI0 λi j=>.bl (decide (j<i))):=MJ λ_ _ _ _ _ _ _ q=>gt_int q
def Nf:OpR X (compareOp .GtE) (rI0 λi j=>.bl (decide (j<=i))):=MJ λ_ _ _ _ _ _ _ q=>ge_int q
def AX:OpR X (compareOp .Lt) (λx y H Q=>∃i j,x=.str i/\y=.str j/\Q (.bl (decide (i.cps.toList<j.cps.toList))) H):=by intro pins s σ H x y v u Q I rx ry h;obtain⟨i,j,rfl,rfl,q⟩:=h;obtain⟨t,rfl⟩:=rx;obtain⟨t',rfl⟩:=ry;exact lt_str (ye I q rfl)
def BZ:OpR X (compareOp .In) (λx y H Q=>∃i j,x=.str i/\y=.str j/\Q (.bl (!(Builtin.Str.occurrences j i 0 j.length 1).isEmpty)) H):=by intro pins s σ H x y v u Q I rx ry h;obtain⟨i,j,rfl,rfl,q⟩:=h;obtain⟨t,rfl⟩:=rx;obtain⟨t',rfl⟩:=ry;exact in_str (ye I q rfl)
def op_isN:OpR X (compareOp .Is) (λx y H Q=>y=.non/\Q (.bl (decide (x=.non))) H):=by
 intro pins s σ H x y v u Q I rx ry h;obtain⟨rfl,q⟩:=h;cases ry;refine is_none_gen (ye I q ?_);cases x <;> first
  | (cases rx;rfl)
  | (obtain⟨t,rfl⟩:=rx;rfl)
def OpR.or{f:Value->Value->Sem Value}{r r':R2}(h:OpR X f r)(h':OpR X f r'):OpR X f (λx y H Q=>r x y H Q\/r' x y H Q):=by
 intro pins s σ H x y v u Q I rx ry q;rcases q with q|q;·exact h pins s σ H x y v u Q I rx ry q
 ·exact h' pins s σ H x y v u Q I rx ry q
def iQ(b:Expr){op:CmpOp}(h:op≠.In:=by decide)(h2:op≠.NotIn:=by decide):behindInMarks op b=false:=by
 have e1:(op==CmpOp.In)=false:=by cases op <;> first|rfl|exact absurd rfl h
 have e2:(op==CmpOp.NotIn)=false:=by cases op <;> first|rfl|exact absurd rfl h2
 cases b <;> simp[behindInMarks,e1,e2]
def A8{op:CmpOp}{r:R2}(ho:OpR X (compareOp op) r)(ha:PE X a ta)(hb:PE X b tb)(hm:behindInMarks op b=false):PE X (.Compare a [op] [b] pos) (tOp r ta tb):=by intro pins s σ H Q I h;exact wpAny_Compare1 (MO ha hb I h λv u s2 x y H2 I2 rx ry q=>ho pins s2 σ H2 x y v u Q I2 rx ry q) hm
noncomputable def LH(t:TE):TT:=λσ H Q=>t σ H λx H'=>∃k,x=.bl k/\Q k H'
def II{op:CmpOp}{r:R2}(ho:OpR X (compareOp op) r)(ha:PE X a ta)(hb:PE X b tb)(hm:behindInMarks op b=false):PT X (.Compare a [op] [b] pos) (LH (tOp r ta tb)):=by intro pins s σ H Q I h;refine wpAny_isTrue_Compare1 (thn (ha pins s σ H _ I h) λv s1 ⟨x,H1,I1,r1,q1⟩=>thn (hb pins s1 σ H1 _ I1 q1) λu s2 ⟨y,H2,I2,r2,q2⟩=>thn (ho pins s2 σ H2 x y v u _ I2 r1 r2 q2) λc s3 ⟨z,H3,I3,r3,k,e,q3⟩=>?_) hm;subst e;cases r3;exact tJ ⟨H3,I3,q3⟩
noncomputable def Gh(r r':R2)(ta tb tc:TE):TE:=λσ H Q=>ta σ H λx H1=>tb σ H1 λy H2=>r x y H2 λz H3=>∃k,z=.bl k/\
 (if k=true then tc σ H3 λw' H4=>r' y w' H4 Q else Q (.bl false) H3)
def Eg{op op':CmpOp}{r r':R2}(ho:OpR X (compareOp op) r)(ho':OpR X (compareOp op') r')(ha:PE X a ta)(hb:PE X b tb)(hc:PE X c tc)(hm:lastMarks [op,op'] [b,c]=false:=by with_unfolding_all rfl):PE X (.Compare a [op,op'] [b,c] pos) (Gh r r' ta tb tc):=by
 intro pins s σ H Q I h;refine Compare_chain (thn (ha pins s σ H _ I h) λv s1 ⟨x,H1,I1,r1,q1⟩=>chain_link (thn (hb pins s1 σ H1 _ I1 q1) λu s2 ⟨y,H2,I2,r2,q2⟩=>thn (ho pins s2 σ H2 x y v u _ I2 r1 r2 q2) λd s3 ⟨z,H3,I3,r3,k,e,q3⟩=>?_)) hm;subst e;cases r3;refine tJ ?_;cases k with
 |false=>exact ite_ff ⟨.bl false,H3,I3,rfl,q3⟩
 |true=>exact ite_tt (chain_last (thn (hc pins s3 σ H3 _ I3 q3) λw' s4 ⟨z',H4,I4,r4,q4⟩=>ho' pins s4 σ H4 y z' u w' Q I4 r2 r4 q4))
def Ez{op op':CmpOp}{r r':R2}(ho:OpR X (compareOp op) r)(ho':OpR X (compareOp op') r')(ha:PE X a ta)(hb:PE X b tb)(hc:PE X c tc)(hm:lastMarks [op,op'] [b,c]=false:=by with_unfolding_all rfl):PT X (.Compare a [op,op'] [b,c] pos) (LH (Gh r r' ta tb tc)):=by
 intro pins s σ H Q I h;refine isTrue_chain (thn (ha pins s σ H _ I h) λv s1 ⟨x,H1,I1,r1,q1⟩=>test_link (thn (hb pins s1 σ H1 _ I1 q1) λu s2 ⟨y,H2,I2,r2,q2⟩=>thn (ho pins s2 σ H2 x y v u _ I2 r1 r2 q2) λd s3 ⟨z,H3,I3,r3,k,e,q3⟩=>?_)) hm;subst e;cases r3;refine tJ ?_;cases k with
 |false=>obtain⟨k',e',q'⟩:=q3;cases e';exact ite_ff ⟨H3,I3,q'⟩
 |true=>refine ite_tt (test_last (thn (hc pins s3 σ H3 _ I3 q3) λw' s4 ⟨z',H4,I4,r4,q4⟩=>thn (ho' pins s4 σ H4 y z' u w' _ I4 r2 r4 q4) λd' s5 ⟨z2,H5,I5,r5,k2,e2,q5⟩=>?_));subst e2;cases r5;exact tJ ⟨H5,I5,q5⟩
noncomputable def OZ(K:W.Frag)(x:V)(H:Hp)(k:Bool):Prop:=
 match x with
 |.non=>k=false
 |.bl b=>k=b
 |.int i=>k=(i != 0)
 |.str y=>y.length<=sizeLine/\k=((y.length:Int) != 0)
 |.byt y=>y.size<=sizeLine/\k=((y.size:Int) != 0)
 |.ref p=>(∃xs,SqL K H p xs/\k = !xs.isEmpty)\/(∃xs,SqT K H p xs/\k = !xs.isEmpty)\/∃kvs,H p=some (.dK kvs)/\k = !kvs.isEmpty
 |_=>False
def zM{κ:Type}{kvs:List (κ×V)}{vs:List (κ×Value)}(r:KV kvs vs):(!vs.isEmpty) = !kvs.isEmpty:=by cases r <;> rfl
def rB(r:Vals xs its):(!its.toArray.isEmpty) = !xs.isEmpty:=by cases r <;> simp
def mR:(sizeLine:Nat)<2 ^ 63:=by rw[o8];decide
def Li:Qm X (λx H Q=>∃k,OZ X.K x H k/\Q k H):=by
 intro pins s σ H x v Q I rx h;obtain⟨k,e,q⟩:=h;have hl:=mR;have hs:sizeLine=16777216:=o8;cases x with
 |non=>cases rx;have e':k=false:=e;subst e';exact truthy_none ⟨H,I,q⟩
 |bl b=>cases rx;have e':k=b:=e;subst e';exact tJ ⟨H,I,q⟩
 |int i=>obtain⟨t,rfl⟩:=rx;have e':k=(i != 0):=e;subst e';exact PySem.P.truthy_int ⟨H,I,q⟩
 |str y=>obtain⟨t,rfl⟩:=rx;obtain⟨hy,e'⟩:y.length<=sizeLine/\k=((y.length:Int) != 0):=e;subst e';exact PySem.P.truthy_str (by omega) ⟨H,I.tok _,q⟩
 |byt y=>obtain⟨t,rfl⟩:=rx;obtain⟨hy,e'⟩:y.size<=sizeLine/\k=((y.size:Int) != 0):=e;subst e';exact W.truthy_bytes (by omega) ⟨H,I.tok _,q⟩
 |ref p=>
  cases rx;have e':(∃xs,SqL X.K H p xs/\k = !xs.isEmpty)\/(∃xs,SqT X.K H p xs/\k = !xs.isEmpty)\/∃kvs,H p=some (.dK kvs)/\k = !kvs.isEmpty:=e;rcases e' with⟨xs,hx,e'⟩|⟨xs,hx,e'⟩|⟨kvs,hx,e'⟩
  ·subst e';obtain⟨its,r,pl,hz⟩:=I.list hx;have hlen:=r.length;exact wpAny_truthy_list pl.isList (by simp only[x9];omega) ⟨H,I.tok _,by rw[rB r];exact q⟩
  ·subst e';obtain⟨its,r,pl,hz⟩:=I.tuple hx;have hlen:=r.length;exact truthy_tuple pl (by simp only[x9];omega) ⟨H,I.tok _,by rw[rB r];exact q⟩
  ·subst e';obtain⟨hz,hS,vs,r,m⟩:kvs.length<=sizeLine/\(p==sysModules)=false/\∃vs,KV kvs vs/\s.heap.DictOf (tT X.prog X.w) p vs:=I.hok p _ hx;have hlen:kvs.length=vs.length:=Paired.length r;exact wpAny_truthy_dict hS m (by omega) ⟨H,I.tok _,by rw[zM r];exact q⟩
 |_=>exact(show False from e).elim
def ED(ha:PE X a ta)(he:∀whole,isTrue a X.env whole=(do let v <- whole;standAt a.pos;holding [v] (truthy v))):
  PT X a (λσ H Q=>ta σ H λx H'=>∃k,OZ X.K x H' k/\Q k H'):=by
 intro pins s σ H Q I h;exact isTrue_plain (thn (ha pins s σ H _ I h) λv s1 ⟨x,H1,I1,r1,q1⟩=>Li pins s1 σ H1 x v Q I1 r1 q1) (he _)
def op_add_str:OpR X (binaryOp .Add) (λx y H Q=>∃i j,x=.str i/\y=.str j/\i.length+j.length<=sizeLine/\Q (.str (i++j)) H):=by intro pins s σ H x y v u Q I rx ry h;obtain⟨i,j,rfl,rfl,hz,q⟩:=h;obtain⟨t,rfl⟩:=rx;obtain⟨t',rfl⟩:=ry;exact add_str (λt' tk=>⟨.str (i++j),H,I.tok _,⟨_,rfl⟩,q⟩) hz
def Jn{x:V}(r:Vals [x] us):∃u,us=[u]/\RelV x u:=by
 cases r with
 |cons r1 r2=>cases r2;exact⟨_,rfl,r1⟩
def NR{x y:V}(r:Vals [x,y] us):∃u w',us=[u,w']/\RelV x u/\RelV y w':=by
 cases r with
 |cons r1 r2=>
  cases r2 with
  |cons r3 r4=>cases r4;exact⟨_,_,rfl,r1,r3⟩
def AW(hc:X.calm=true):kz X (.builtin "min") (λxs H Q=>∃i j,xs=[.int i,.int j]/\Q (.int (if j<i then j else i)) H):=by
 intro pins s σ H xs us Q I r h;obtain⟨i,j,rfl,q⟩:=h;obtain⟨u,w',rfl,⟨t,rfl⟩,⟨t',rfl⟩⟩:=NR r;refine min_two_ints (I.ok.hd hc) λh' tk k=>⟨_,H,I.kept k,?_,q⟩
 by_cases hj:j<i;·rw[if_pos hj,if_pos hj];exact⟨_,rfl⟩
 ·rw[if_neg hj,if_neg hj];exact⟨_,rfl⟩
noncomputable def PV(K:W.Frag)(x:V)(H:Hp)(n:Nat):Prop:=
 match x with
 |.str y=>y.length<=sizeLine/\n=y.length
 |.byt y=>y.size<=sizeLine/\n=y.size
 |.ref p=>(∃xs,SqL K H p xs/\n=xs.length)\/∃xs,SqT K H p xs/\n=xs.length
 |_=>False
def C8:kz X (.builtin "len") (λxs H Q=>∃x n,xs=[x]/\PV X.K x H n/\Q (.int n) H):=by
 intro pins s σ H xs us Q I r h;obtain⟨x,n,rfl,e,q⟩:=h;obtain⟨u,rfl,rx⟩:=Jn r;have hl:=mR;have hs:sizeLine=16777216:=o8;cases x with
 |str y=>obtain⟨t,rfl⟩:=rx;obtain⟨hy,e'⟩:y.length<=sizeLine/\n=y.length:=e;subst e';exact len_str (by omega) ⟨.int _,H,I.tok _,⟨_,rfl⟩,q⟩
 |byt y=>obtain⟨t,rfl⟩:=rx;obtain⟨hy,e'⟩:y.size<=sizeLine/\n=y.size:=e;subst e';exact W.len_bytes (by omega) ⟨.int _,H,I.tok _,⟨_,rfl⟩,q⟩
 |ref p=>
  cases rx;have e':(∃xs,SqL X.K H p xs/\n=xs.length)\/∃xs,SqT X.K H p xs/\n=xs.length:=e;rcases e' with⟨xs,hx,e'⟩|⟨xs,hx,e'⟩
  ·subst e';obtain⟨its,r',pl,hz⟩:=I.list hx;have hlen:=r'.length;exact Calls.call_len_list pl.isList (by simp only[x9];omega) ⟨.int xs.length,H,I.tok _,⟨_,by simp only[x9];rw[hlen]⟩,q⟩
  ·subst e';obtain⟨its,r',pl,hz⟩:=I.tuple hx;have hlen:=r'.length;exact len_tuple pl (by simp only[x9];omega) ⟨.int xs.length,H,I.tok _,⟨_,by simp only[x9];rw[hlen]⟩,q⟩
 |_=>exact(show False from e).elim
end
structure ObjM(h:Heap)(x dx C:Addr)(mA:Str->Option Value):Prop where
 obj:h.get? x=some (W.instObj C dx)
 ns:h.Ns1 dx mA
 ne:dx≠x
def Af{dx:Addr}(n:h.Ns1 dx mA):∃od,h.get? dx=some od/\∀name,W.lookIn name od=some (mA name):=by
 obtain⟨o,es,ep,ho,hd,hk,_,hm⟩:=n;refine⟨o,ho,λname=>?_⟩;have e:=hm name;unfold nsFind findBy at e;rw[<- Array.find?_toList]at e;unfold W.lookIn;rw[hd];dsimp only;split;·rename_i y q;rw[q]at e;exact vF some e
 ·rename_i q;rw[q]at e;have a:es.toList.any (·.refKey)=false:=by rw[List.any_eq_false];intro y hy;obtain⟨z,t,hkey⟩:=hk y (Array.mem_toList_iff.mp hy);simp[DictEntry.refKey,hkey]
  have a' : ¬ es.toList.any (·.refKey)=true:=by rw[a];exact xR
  rw[if_neg a'];exact vF some e
def ObjM.look{x dx:Addr}(I:ObjM h x dx C mA):∃od,W.InstAt h x (W.instObj C dx) C (some od)/\∀name,W.lookIn name od=some (mA name):=
 let⟨od,ho,hl⟩:=Af I.ns
 ⟨od,⟨I.obj,rfl,rfl,ho⟩,hl⟩
section
variable{prog:Program}{w:World}{A:Around}{K:W.Frag}{x dx:Addr}{name:Str}{v:Value}
def IW{expr:Bool}{Q:Value->Shared->Prop}(X:K.In s.heap)(I:ObjM s.heap x dx C mA)(hg:W.plainGet K C name=true)(hh:W.hasDictIn K C=true)(ha:W.findIn K (.ref C) name=some none)(hv:mA name=some v)(hv':W.handedIn v=true)(h:Q v { s with toks:=s.toks+1 }):
  wpAny (model prog w) A (getAttr (.ref x) name expr) Q E s:=by
 obtain⟨od,J,hl⟩:=I.look;exact W.get_value X J (W.plainGet_of hg).1 (W.findObj_own hh ha rfl (by rw[hl,hv])) hv' h
def CY{pl:Sem Bool}{Q:Value×List Value->Shared->Prop}(X:K.In s.heap)(I:ObjM s.heap x dx C mA)(hg:W.plainGet K C name=true)(hf:W.findIn K (.ref C) name=some (some (.ref f)))(ht:W.isFn K (.ref f)=true)(hv:mA name=none)(h:Q (.ref f,[.ref x]) s):
  wpAny (model prog w) A (getMethod (.ref x) name pl) Q E s:=by
 obtain⟨od,J,hl⟩:=I.look;exact W.method_fn X J (W.plainGet_of hg).1 (W.plainGet_of hg).2 hf (t6.mp ht) (by show(W.lookIn name od).map (·.isSome)=some false;rw[hl,hv];rfl) h
def Ix{ns:List Str}{Q:Unit->Shared->Prop}(X:K.In s.heap)(I:ObjM s.heap x dx C mA)(hs:W.findIn K (.ref C) "__setattr__"=some (some (.builtin "object.__setattr__")))(hp:W.plainOver K C=true)(ht:W.takerIn K C name=some none)(hh:W.hasDictIn K C=true)(hw:PySem.Within mA ns)(hsz:ns.length<=sizeLine)(h:∀h',ObjM h' x dx C (λy=>if y=name then some v else mA y)->Heap.SameBut dx s.heap h'->Q () { s with heap:=h',toks:=s.toks+2 }):
  wpAny (model prog w) A (setAttr (.ref x) name v) Q E s:=by
 obtain⟨od,J,hl⟩:=I.look;refine W.set_plain X J hs (W.osa_open (s:={ s with toks:=s.toks+1 }) (r:=none) X J hp ht λb=>?_);obtain⟨cd,hc,hd'⟩:=W.any_some hh;have hx:s.heap.get? x=some ⟨.ref C,some dx,.plain,#[]⟩:=I.obj;refine z9 (zd (z9 (z9 (wpAny_loadPart hx (z9 (W.Looks.here (s:={ s with toks:=s.toks+1 }) (W.looks_clsIn X hc) ?_))))));rw[hd'];refine zd (a:=some dx) (z9 (zd (z9 ?_)));refine wpAny_nsSet1 (s:={ s with toks:=s.toks+1 }) I.ns λh' hn2 hs2=>?_;obtain⟨oD,esD,epD,hoD,hdD,hcD⟩:=hn2.count (PySem.Within.cons name v hw);refine z9 (wpAny_lookBehind hoD (by rw[hdD];exact pastItsLine_dict (xk hcD (by rw[w8];omega))) ?_);exact zd (h _ ⟨(hs2.2 _ (yR I.ne)).trans I.obj,hn2,I.ne⟩ hs2)
def Ep{R:Result->Shared->Prop}{vs:List Value}{kw:List (Str×Value)}(X:K.In s.heap)(hm:W.makesIn K C=true)(hi:W.findIn K (.ref C) "__init__"=some (some (.ref f)))(hf:W.typeIn K (.ref f)=some (.type "function"))(h:codeAny (model prog w) (A.under (.builtin "type.__call__" ⟨.ref C::vs,kw⟩)) (.call (.ref f) ⟨.ref (s.heap.objs.size+1)::vs,kw⟩) (W.InitBack (s.heap.objs.size+1) R)
 { s with heap:=(s.heap.push W.emptyDict).push (W.instObj C s.heap.objs.size) }):
  codeAny (model prog w) A (.call (.ref C) ⟨vs,kw⟩) R s:=by
 obtain⟨hh,g,d,t,os⟩:=s;exact W.make_core (W.makes_of X hm) (W.looks_findIn X hi) (λself=>W.bind_fn X self hf) (.inl rfl) h
end
noncomputable def pK(f:Str)(v:V):List (Str×V)->List (Str×V)
 | []=>[(f,v)]
 | (g,x)::r=>if g=f then (g,v)::r else (g,x)::pK f v r
theorem oy(f g:Str)(v:V):∀fs:List (Str×V),(pK f v fs).lookup g=if g=f then some v else fs.lookup g
 | []=>by
  show List.lookup g [(f,v)]=_;by_cases h:g=f;·have hb:(g==f)=true:=t6.mpr h;simp only[List.lookup,hb,if_pos h]
  ·have hb:(g==f)=false:=pG.mpr h;simp only[List.lookup,hb,if_neg h]
 | (k,x)::r=>by
  have ih:=oy f g v r;rw[show pK f v ((k,x)::r)=(if k=f then (k,v)::r else (k,x)::pK f v r) from rfl];by_cases hk:k=f
  ·rw[if_pos hk];by_cases h:g=k;·have hb:(g==k)=true:=t6.mpr h;simp only[List.lookup,hb,if_pos (h.trans hk)]
   ·have hb:(g==k)=false:=pG.mpr h;simp only[List.lookup,hb,if_neg (λe:g=f=>h (e.trans hk.symm))]
  ·rw[if_neg hk];by_cases h:g=k;·have hb:(g==k)=true:=t6.mpr h;simp only[List.lookup,hb,if_neg (λe:g=f=>hk (h.symm.trans e))]
   ·have hb:(g==k)=false:=pG.mpr h;simp only[List.lookup,hb];exact ih
theorem pM(f:Str)(v:V):∀fs:List (Str×V),f∈(pK f v fs).map (·.1)/\∀g,g∈fs.map (·.1)->g∈(pK f v fs).map (·.1)
 | []=>⟨by simp[pK],λg h=>by simp at h⟩
 | (k,x)::r=>by
  obtain⟨i1,i2⟩:=pM f v r;rw[show pK f v ((k,x)::r)=(if k=f then (k,v)::r else (k,x)::pK f v r) from rfl];by_cases hk:k=f;·rw[if_pos hk];subst hk;exact⟨by simp,λg h=>by simpa using h⟩
  ·rw[if_neg hk];refine⟨?_,λg h=>?_⟩;·rw[ub];exact wB _ i1
   ·rw[ub]at h⊢;rcases y9.mp h with e|e;·exact y9.mpr (.inl e)
    ·exact wB _ (i2 g e)
theorem oY(f:Str)(v:V):∀fs:List (Str×V),(pK f v fs).length<=fs.length+1
 | []=>by simp[pK]
 | (k,x)::r=>by
  have ih:=oY f v r;rw[show pK f v ((k,x)::r)=(if k=f then (k,v)::r else (k,x)::pK f v r) from rfl];by_cases hk:k=f;·rw[if_pos hk,w8,w8];omega
  ·rw[if_neg hk,w8,w8];omega
def RelO.some_of{o:Option Value}(r:RelO (some v) o):∃u,o=some u/\RelV v u:=by
 cases o with
 |none=>exact(show False from r).elim
 |some u=>exact⟨u,rfl,r⟩
def RelO.none_of{o:Option Value}(r:RelO none o):o=none:=by
 cases o with
 |none=>rfl
 |some u=>exact(show False from r).elim
def BG{u:Value}(r:RelV v u):W.handedIn u=true:=by
 cases v with
 |non=>cases (show u=Value.none from r);rfl
 |bl b=>cases (show u=Value.bool b from r);rfl
 |int i=>obtain⟨t,e⟩:=(show ∃t,u=Value.int i t from r);cases e;rfl
 |str x=>obtain⟨t,e⟩:=(show ∃t,u=Value.str x t from r);cases e;rfl
 |byt b=>obtain⟨t,e⟩:=(show ∃t,u=Value.bytes b t from r);cases e;rfl
 |flt b=>obtain⟨t,e⟩:=(show ∃t,u=Value.float b t from r);cases e;rfl
 |ref a=>cases (show u=Value.ref a from r);rfl
 |ty n=>cases (show u=Value.type n from r);rfl
section
variable{w:World}{dx:Addr}{fs fs':List (Str×V)}
def wW(hok:HOk P w H h)(e:H a=some (.ins C dx fs)):∃mA,ObjM h a dx C mA/\(∀f,RelO (fs.lookup f) (mA f))/\PySem.Within mA (fs.map (·.1))/\fs.length<=1000/\H dx=some (.own a):=by
 obtain⟨d,z,ne,ob,mA,n,r,q⟩:=(show ObjOk P w H h a (.ins C dx fs) from hok a _ e)
 exact⟨mA,⟨ob,n,ne⟩,r,q,z,d⟩
end
structure Cls(K:W.Frag)(C:Addr):Prop where
 pg:W.plainGet K C Str.empty=true
 hd:W.hasDictIn K C=true
 po:W.plainOver K C=true
 sa:W.findIn K (.ref C) "__setattr__"=some (some (.builtin "object.__setattr__"))
def Cls.get{K:W.Frag}(c:Cls K C)(f:Str):W.plainGet K C f=true:=c.pg
noncomputable def NoAttr(K:W.Frag)(C:Addr)(f:Str):Prop:=W.findIn K (.ref C) f=some none
def NoAttr.taker{K:W.Frag}{f:Str}(n:NoAttr K C f):W.takerIn K C f=some none:=by unfold W.takerIn;rw[show W.findIn K (.ref C) f=some none from n];rfl
structure Con(K:W.Frag)(C:Addr)(f:Str)(v:V)(u:Value):Prop where
 at_:W.findIn K (.ref C) f=some (some u)
 rel:RelV v u
 get:W.specialIn K u "__get__"=some none
 cp:W.copiedNames.contains f=false
structure Meth(K:W.Frag)(C:Addr)(m:Str)(f:Addr):Prop where
 at_:W.findIn K (.ref C) m=some (some (.ref f))
 fn:W.isFn K (.ref f)=true
 kp:W.keepIn K (.ref f)=true
section
variable{dx:Addr}{fs:List (Str×V)}{f:Str}{A:Around}
def rf{b:Bool}{Q:Value->Shared->Prop}(I:Inv X pins σ H s)(e:H a=some (.ins C dx fs))(c:Cls X.K C)(n:NoAttr X.K C f)(l:fs.lookup f=some v)(h:∀u s',Inv X pins σ H s'->RelV v u->Q u s'):wpAny (model X.prog X.w) A (getAttr (.ref a) f b) Q E s:=by
 obtain⟨mA,O,r,_,_,_⟩:=wW I.hok e;obtain⟨u,hu,ru⟩:=RelO.some_of (v:=v) (o:=mA f) (by rw[<- l];exact r f);exact IW I.kIn O (c.get f) c.hd n hu (BG ru) (h u _ (I.tok _) ru)
def zf{m:Str}{g:Addr}{pl:Sem Bool}{Q:Value×List Value->Shared->Prop}(I:Inv X pins σ H s)(e:H a=some (.ins C dx fs))(c:Cls X.K C)(k:Meth X.K C m g)(l:fs.lookup m=none)(h:Q (.ref g,[.ref a]) s):wpAny (model X.prog X.w) A (getMethod (.ref a) m pl) Q E s:=by
 obtain⟨mA,O,r,_,_,_⟩:=wW I.hok e;have hn:mA m=none:=RelO.none_of (by rw[<- l];exact r m);exact CY I.kIn O (c.get m) k.at_ k.fn hn h
def rl{y:V}{u:Value}{Q:Unit->Shared->Prop}(I:Inv X pins σ H s)(e:H a=some (.ins C dx fs))(c:Cls X.K C)(n:NoAttr X.K C f)(hl:fs.length<1000)(ry:RelV y u)(h:∀s',Inv X pins σ (upd H a (.ins C dx (pK f y fs))) s'->Q () s'):wpAny (model X.prog X.w) A (setAttr (.ref a) f u) Q E s:=by
 obtain⟨mA,O,r,wi,_,ho⟩:=wW I.hok e;have hz:(fs.map (·.1)).length<=sizeLine:=by rw[wU,o8];omega
 refine Ix I.kIn O c.sa c.po n.taker c.hd wi hz λh' O' sb=>h _ ?_;have hd:∃o,h'.get? dx=some o:=let⟨o,_,_,e',_⟩:=O'.ns;⟨o,e'⟩;refine I.write (x:=a) (e:=dx) (by rw[e];exact True.intro) (.inr ho) (λb q hb z=>(sb.2 b hb).trans z) hd ?_;refine⟨by rw[aE O.ne];exact ho,?_,O.ne,O'.obj,_,O'.ns,λg=>?_,λg hg=>?_⟩;·have:=oY f y fs;omega
 ·show RelO ((pK f y fs).lookup g) (if g=f then some u else mA g);rw[oy];by_cases q:g=f;·rw[if_pos q,if_pos q];exact ry
  ·rw[if_neg q,if_neg q];exact r g
 ·by_cases q:g=f;·rw[q];exact(pM f y fs).1
  ·refine(pM f y fs).2 g (wi g λz=>hg ?_);show(if g=f then some u else mA g)=none;rw[if_neg q];exact z
def Inv.made(I:Inv X pins σ H s):Inv X pins σ (upd (upd H s.heap.objs.size (.own (s.heap.objs.size+1))) (s.heap.objs.size+1) (.ins C s.heap.objs.size []))
  { s with heap:=(s.heap.push W.emptyDict).push (W.instObj C s.heap.objs.size) }:=by
 have e1:(s.heap.push W.emptyDict).get? s.heap.objs.size=some W.emptyDict:=xj s.heap rfl;have e2:((s.heap.push W.emptyDict).push (W.instObj C s.heap.objs.size)).get? (s.heap.objs.size+1)=some (W.instObj C s.heap.objs.size):=by
  have:=xj (s.heap.push W.emptyDict) (o:=W.instObj C s.heap.objs.size) rfl
  rwa [wG]at this
 have e3:(s.heap.push W.emptyDict).Ns s.heap.objs.size (λ_=>none):=⟨W.emptyDict,#[],_,e1,rfl,(λe he=>absurd he (by simp)),λ_=>rfl⟩
 have I1:=I.laid (a:=s.heap.objs.size) (o:=.own (s.heap.objs.size+1)) (h':=s.heap.push W.emptyDict) (t':=s.toks) (λb u q=>zL _ q) (zq _) ⟨_,e1⟩;refine I1.laid (a:=s.heap.objs.size+1) (o:=.ins C s.heap.objs.size []) (t':=s.toks) (λb u q=>zL _ q) (Nat.le_of_eq (wG _ _)) ?_;have ne:s.heap.objs.size≠s.heap.objs.size+1:=xh (rZ _);refine⟨by rw[aE ne,aV],t7 _,ne,e2,λ_=>none,(Heap.Ns1.of_empty e3).at λo q=>zL _ q,λ_=>True.intro,λy hy=>absurd rfl hy⟩
def GV{prog:Program}{w:World}{env:Env}{e:Expr}{f:Str}{pos:Pos}{Q:Value->Shared->Prop}(hb:attributeBase e f env (eval e env)=eval e env)(h:wpAny (model prog w) A (eval e env) (λo s₁=>wpAny (model prog w) A (getAttr o f true) Q E s₁) E s):wpAny (model prog w) A (eval (.Attribute e f pos) env) Q E s:=
 Attribute_any_ h (by rw[arm_eval_Attribute,hb])
end
noncomputable def Pe(K:W.Frag)(ta:TE)(f:Str):TE:=λσ H Q=>ta σ H λx H1=>∃a C dx fs v,x=.ref a/\H1 a=some (.ins C dx fs)/\Cls K C/\NoAttr K C f/\fs.lookup f=some v/\Q v H1
noncomputable def P9(K:W.Frag)(ta tv:TE)(f:Str):TS:=λD σ H=>tv σ H λy H1=>ta σ H1 λx H2=>∃a C dx fs,x=.ref a/\H2 a=some (.ins C dx fs)/\Cls K C/\NoAttr K C f/\fs.length<1000/\
 D.nx σ (upd H2 a (.ins C dx (pK f y fs)))
noncomputable def OX(X:Cx)(op:Operator)(rd:V->V->Hp->VK->Prop):Prop:=
 ∀(pins:List (Addr×Obj))(s:Shared)(σ:St)(H:Hp)(x y:V)(u v:Value)(Q:VK),Inv X pins σ H s->RelV x u->RelV y v->rd x y H Q->wpAny (model X.prog X.w) X.A (inplaceOp op u v) (EP X pins σ Q) X.xe s
noncomputable def GO(K:W.Frag)(ta tv:TE)(rd:V->V->Hp->VK->Prop)(f:Str):TS:=λD σ H=>ta σ H λx H1=>∃a C dx fs v,x=.ref a/\H1 a=some (.ins C dx fs)/\Cls K C/\NoAttr K C f/\fs.lookup f=some v/\
 tv σ H1 λy H2=>rd v y H2 λz H3=>∃dx' fs',H3 a=some (.ins C dx' fs')/\fs'.length<1000/\D.nx σ (upd H3 a (.ins C dx' (pK f z fs')))
section
variable{o e value:Expr}{f:Str}{pos pos' tpos:Pos}{ta tv:TE}
def AO(he:PE X e ta)(hb:attributeBase e f X.env (eval e X.env)=eval e X.env):PE X (.Attribute e f pos) (Pe X.K ta f):=by intro pins s σ H Q I h;refine GV hb (thn (he pins s σ H _ I h) λu s1 ⟨x,H1,I1,rx,a,C,dx,fs,v,ex,ea,c,n,l,q⟩=>?_);subst ex;obtain rfl:u=Value.ref a:=rx;exact rf I1 ea c n l λu' s2 I2 ru=>⟨v,H1,I2,ru,q⟩
def BU(ha:PE X o ta)(hv:PE X value tv)(hs:swapsWith value (some (.Attribute o f pos')) pos.line X.env=pure false):PS X (.Assign [.Attribute o f pos'] value pos) (P9 X.K ta tv f):=by intro pins s σ H D I h;refine plainObj_wpAny_Assign_Attribute (thn (hv pins s σ H _ I h) λu s1 ⟨y,H1,I1,ry,q⟩=>thn (ha pins s1 σ H1 _ I1 q) λov s2 ⟨x,H2,I2,rx,a,C,dx,fs,ex,ea,c,n,l,q2⟩=>?_) hs;subst ex;obtain rfl:ov=Value.ref a:=rx;exact rl I2 ea c n l ry λs3 I3=>⟨σ,_,I3,q2⟩
def Cw{op:Operator}{rd:V->V->Hp->VK->Prop}(ha:PE X o ta)(hv:PE X value tv)(hop:OX X op rd):PS X (.AugAssign (.Attribute o f tpos) op value pos) (GO X.K ta tv rd f):=by intro pins s σ H D I h;refine wpAny_AugAssign_AttributeAny (thn (ha pins s σ H _ I h) λov s1 ⟨x,H1,I1,rx,a,C,dx,fs,v,ex,ea,c,n,l,q⟩=>?_);subst ex;obtain rfl:ov=Value.ref a:=rx;refine rf I1 ea c n l λu s2 I2 ru=>thn (hv pins s2 σ H1 _ I2 q) λw3 s3 ⟨y,H2,I3,ry,q3⟩=>thn (hop pins s3 σ H2 v y u w3 _ I3 ru ry q3) λw4 s4 ⟨z,H3,I4,rz,dx',fs',ea',l',q4⟩=>?_;exact rl I4 ea' c n l' rz λs5 I5=>⟨σ,_,I5,q4⟩
noncomputable def Qt:V->V->Hp->VK->Prop:=λx y H Q=>∃i j,x=.int i/\y=.int j/\Q (.int (i+j)) H
def L4:OX X .Add Qt:=by
 rintro pins s σ H x y u v Q I rx ry ⟨i,j,rfl,rfl,q⟩;obtain⟨t,rfl⟩:=(show ∃t,u=Value.int i t from rx)
 obtain⟨t',rfl⟩:=(show ∃t',v=Value.int j t' from ry)
 exact iadd_int ⟨.int (i+j),H,I.tok _,⟨_,rfl⟩,q⟩
end
section
variable{A:Around}{Q:Value->Shared->Prop}{c:Value}{b:Bool}
inductive TyOf(K:W.Frag)(H:Hp):V->Value->Prop where
 |non:TyOf K H .non (.type "NoneType")
 |bl (x:Bool):TyOf K H (.bl x) (.type "bool")
 |int (i:Int):TyOf K H (.int i) (.type "int")
 |str (x:Str):TyOf K H (.str x) (.type "str")
 |flt (x:UInt64):TyOf K H (.flt x) (.type "float")
 |lst {a:Addr} {xs:List V} (e:H a=some (.lst xs)):TyOf K H (.ref a) (.type "list")
 |frz {a:Addr} {o:Obj} {xs:List V} (e:H a=some (.frz o (.lst xs))):TyOf K H (.ref a) (.type "list")
 |tup {a:Addr} {xs:List V} (e:H a=some (.tup xs)):TyOf K H (.ref a) (.type "tuple")
 |dK {a:Addr} {kvs:List (Key×V)} (e:H a=some (.dK kvs)):TyOf K H (.ref a) (.type "dict")
 |dT {a:Addr} {kvs:List (List Key×V)} (e:H a=some (.dT kvs)):TyOf K H (.ref a) (.type "dict")
 |ins {a C dx:Addr} {fs:List (Str×V)} (e:H a=some (.ins C dx fs)) (cl:Cls K C) (ha:W.findIn K (.ref C) "__class__"=some (some (.builtin "object.__class__")))
   (hn:W.specialIn K (.builtin "object.__class__") "__get__"=some (some (.builtin "getset_descriptor.__get__"))) (htk:W.takesIn K (.builtin "object.__class__")=some true)
   (hm:W.mroIn K C (.type "object")=some true):TyOf K H (.ref a) (.ref C)
end
structure Room(k:Nat)(A:Around):Prop where
 hd:A.handled=none
 dp:A.depth+3 * k+5<recursionLimit
 un:A.units+16 * k+200<cLine
def Room.mono{A:Around}(r:Room k A)(h:j<=k):Room j A:=⟨r.hd,by have:=r.dp;omega,by have:=r.un;omega⟩
def Room.deeper{A:Around}(r:Room (k+1) A)(env:Env):Room k (A.deeper env):=
 ⟨r.hd,by have:=r.dp;show A.depth+1+3 * k+5<_;omega,by have:=r.un;show A.units+3+16 * k+200<_;omega⟩
def zQ{A:Around}{kw:List (Str×Value)}:(A.under (.builtin "type.__call__" ⟨.ref C::us,kw⟩)).depth=A.depth+1:=by first|rfl|simp[Around.under,Code.weight,Code.isCreation,Code.isGuard,Code.isCaller,Code.frames,Code.isFrame,guardIds]
def zX{A:Around}{kw:List (Str×Value)}:(A.under (.builtin "type.__call__" ⟨.ref C::us,kw⟩)).units=A.units+1:=by first|rfl|simp[Around.under,Code.cUnits,Code.frames,Code.isFrame]
def Room.make{A:Around}(r:Room (k+1) A)(C:Addr)(us:List Value)(kw:List (Str×Value)):Room k (A.under (.builtin "type.__call__" ⟨.ref C::us,kw⟩)):=
 ⟨r.hd,by have:=r.dp;rw[zQ];omega,by have:=r.un;rw[zX];omega⟩
def Room.depth{A:Around}(r:Room k A):A.depth<recursionLimit:=by have:=r.dp;omega
def Room.units{A:Around}(r:Room k A):A.units+64<cLine:=by have:=r.un;omega
noncomputable def MK:TA:=λ_ H Q=>Q [] H
noncomputable def zY(ta:TE)(tr:TA):TA:=λσ H Q=>ta σ H λx H1=>tr σ H1 λxs H2=>Q (x::xs) H2
section
variable{e:Expr}{te:TE}{t:TA}{pos:Pos}
def jE:PA X [] MK:=λ_ _ _ _ H Q I h=>Calls.spliced_nil ⟨[],H,I,.nil,h⟩
def dQ(ha:PE X e te)(hr:PA X es t)(hs:starEach (e::es) X.env=(false,eval e X.env)::starEach es X.env:=by rfl):PA X (e::es) (zY te t):=by intro pos pins s σ H Q I h;rw[hs];show wpAny _ _ (spliced ((false,eval e X.env)::backTo pos (starEach es X.env))) _ _ s;refine Calls.spliced_cons (thn (ha pins s σ H _ I h) λu s1 ⟨x,H1,I1,r1,q1⟩=>?_);exact thn (hr pos pins s1 σ H1 _ I1 q1) λus s2 ⟨xs,H2,I2,r2,q2⟩=>⟨x::xs,H2,I2,.cons r1 r2,q2⟩
noncomputable def Px(t:TA):TE:=λσ H Q=>t σ H λxs H1=>xs.length<=sizeLine/\∀p,H1 p=none->Q (.ref p) (upd H1 p (.tup xs))
noncomputable def NO(t:TA):TE:=λσ H Q=>t σ H λxs H1=>xs.length<=sizeLine/\∀p,H1 p=none->Q (.ref p) (upd H1 p (.lst xs))
def Ge {x1} (h:PA X es t):PE X (.Tuple es x1 pos) (Px t):=by intro pins s σ H Q I hq;refine wpAny_Tuple_spliced (thn (h pos pins s σ H _ I hq) λus s1 ⟨xs,H1,I1,r,z,q⟩=>⟨by rw[<- r.length];exact z,?_⟩);have hf:H1 s1.heap.objs.size=none:=I1.hok.fresh (zq _);refine⟨.ref s1.heap.objs.size,upd H1 s1.heap.objs.size (.tup xs),I1.laid (t':=s1.toks) (λb u e=>zL _ e) (zq _) ?_,rfl,q _ hf⟩;exact⟨z,us,r,⟨_,xj _ rfl,rfl,_,rfl⟩⟩
def AN(h:PA X es t):PE X (.List es pos) (NO t):=by intro pins s σ H Q I hq;refine wpAny_List_spliced (thn (h pos pins s σ H _ I hq) λus s1 ⟨xs,H1,I1,r,z,q⟩=>⟨by rw[<- r.length];exact z,?_⟩);have hf:H1 s1.heap.objs.size=none:=I1.hok.fresh (zq _);refine⟨.ref s1.heap.objs.size,upd H1 s1.heap.objs.size (.lst xs),I1.laid (t':=s1.toks) (λb u e=>zL _ e) (zq _) ?_,rfl,q _ hf⟩;exact⟨z,us,0,r,xj _ rfl⟩
end
noncomputable abbrev Sp:=List V->Hp->VK->XK->Prop
noncomputable abbrev CXT:=List Env->Hp->Shared->XK->Value->Shared->Prop
structure Env0(P:Program)(w:World)(K:W.Frag)(mg:Str->Option Value)(base:Heap)(A:Around)(outer:List Env)(s:Shared)(H:Hp):Prop where
 frames:A.frames=some outer
 mod:Mod K mg base
 bs:∀b o,base.get? b=some o->s.heap.get? b=some o/\H b=none
 bsz:base.objs.size<=s.heap.objs.size
 funs:s.heap.FunFrames base outer
 frf:∀b∈frs outer,H b=none
 hok:HOk P w H s.heap
 bare:AllBare s.gens
 tabs:TabsIn base H
noncomputable def CE(outer:List Env)(P:Program)(w:World)(H:Hp)(s:Shared)(Q:VK)(u:Value)(s':Shared):Prop:=
 ∃v H',s'.os=s.os/\AllBare s'.gens/\Un (frs outer) [] H H' s.heap s'.heap/\HOk P w H' s'.heap/\RelV v u/\Q v H'
noncomputable def CR(CX:CXT)(outer:List Env)(P:Program)(w:World)(H:Hp)(s:Shared)(Q:VK)(E:XK)(r:Result)(s':Shared):Prop:=
 match r with
 |.ok (.ret u)=>CE outer P w H s Q u s'
 |.ok _=>False
 |.error e=>CX outer H s E e s'
structure FnOk(P:Program)(w:World)(K:W.Frag)(mg:Str->Option Value)(base:Heap)(CX:CXT)(k:Nat)(f:Addr)(fd:FuncData)(ps:List Str)(sp:Sp):Prop where
 len:∀vs H Q E,sp vs H Q E->vs.length=ps.length
 run:∀(A:Around)(outer:List Env)(s:Shared)(H:Hp)(args:Args)(us:List Value)(vs:List V)(Q:VK)(E:XK),Room k A->Env0 P w K mg base A outer s H->BindsTo s fd args (ps.zip us)->Vals vs us->sp vs H Q E->
  codeAny (model P w) A (.call (.ref f) args) (CR CX outer P w H s Q E) s
def FnOk.imp{w:World}{K:W.Frag}{mg:Str->Option Value}{base:Heap}{CX:CXT}{sp sp':Sp}(F:FnOk P w K mg base CX k f fd ps sp)(h:∀vs H Q E,sp' vs H Q E->sp vs H Q E):FnOk P w K mg base CX k f fd ps sp':=
 ⟨λvs H Q E q=>F.len vs H Q E (h _ _ _ _ q),λA outer s H args us vs Q E hr he hb hv hs=>F.run A outer s H args us vs Q E hr he hb hv (h _ _ _ _ hs)⟩
def Env0.make{w:World}{K:W.Frag}{mg:Str->Option Value}{base:Heap}{A:Around}{outer:List Env}(e:Env0 P w K mg base A outer s H)(C:Addr)(us:List Value)(kw:List (Str×Value)):
  Env0 P w K mg base (A.under (.builtin "type.__call__" ⟨.ref C::us,kw⟩)) outer s H:=⟨by first|exact e.frames|(simpa[Around.under,Code.envs,Code.isFrame,pushEnvs]using e.frames),e.mod,e.bs,e.bsz,e.funs,e.frf,e.hok,e.bare,e.tabs⟩
section
def Inv.env0(I:Inv X pins σ H s):Env0 X.prog X.w X.K X.mg X.base X.A X.stack s H:=
 ⟨I.ok.frames,I.ok.mod,I.bs,xk I.ok.bsz I.sz,I.stack,I.stkFree,I.hok,I.bare,I.ok.tabs.un I.base⟩
def Inv.after{Q:VK}{u:Value}(I:Inv X pins σ H s)(h:CE X.stack X.prog X.w H s Q u s'):EP X pins σ Q u s':=by obtain⟨v,H',os,bare,un,hok,r,q⟩:=h;obtain⟨hh,g,d,t,os'⟩:=s';obtain rfl:os'=s.os:=os;exact⟨v,H',I.call (h':=hh) (g':=g) (d':=d) (t':=t) (ch:=[]) un hok bare (λb z=>absurd z (by simp)),r,q⟩
end
noncomputable def Binds(K:W.Frag)(fd:FuncData)(ps:List Str)(ds:List Value):Prop:=
 ∀(s:Shared)(us:List Value),K.In s.heap->(us++ds).length=ps.length->BindsTo s fd ⟨us,[]⟩ (ps.zip (us++ds))
def Binds.all{K:W.Frag}(h:∀us:List Value,us.length=ps.length->bindArgs fd ⟨us,[]⟩=pure (ps.zip us)):Binds K fd ps []:=λs us _ hl=>by rw[uZ]at hl⊢;exact .of_eq (h us hl)
section
variable{CX:CXT}{sp:Sp}{dvs:List V}{ds:List Value}{E:XK}{x m:Str}{pos apos:Pos}{e o:Expr}{ta:TE}{t:TA}
structure Mk(K:W.Frag)(C f:Addr):Prop where
 makes:W.makesIn K C=true
 init:W.findIn K (.ref C) "__init__"=some (some (.ref f))
 fn:W.isFn K (.ref f)=true
 kp:W.keepIn K (.ref C)=true
end
section
variable{CX:CXT}{ks:List Str}{sp:Sp}{E:XK}{x m:Str}{pos apos kpos:Pos}{e o:Expr}{kws:List Keyword}{te ta:TE}{t tk:TA}{nm:Option Str}
structure KBinds(K:W.Frag)(fd:FuncData)(ps ks:List Str)(g:List Value->List Value->List Value)(gV:List V->List V->List V):Prop where
 to:∀(s:Shared)(us ws:List Value),K.In s.heap->(g us ws).length=ps.length->BindsTo s fd ⟨us,ks.zip ws⟩ (ps.zip (g us ws))
 rel:∀{vs:List V}{us:List Value}{zs:List V}{ws:List Value},Vals vs us->Vals zs ws->Vals (gV vs zs) (g us ws)
variable{g:List Value->List Value->List Value}{gV:List V->List V->List V}
end
structure FnScope(N P:List Str)(sc:Scope):Prop where
 kind:sc.kind=.function
 co:sc.isCoroutine=false
 gen:sc.isGenerator=false
 nd:N.Nodup
 pre:N.take P.length=P
 par:∀x∈P,sc.names.lookup x=some .local\/sc.names.lookup x=some .cell
 nofree:∀y∈sc.names,y.2≠.free
theorem vo{kindOf:Str->Option NameKind}{x:Str}:∀{binds:List (Str×Value)}{m:Str->Option Value},(∀v,(x,v)∉binds)->bindL kindOf binds m x=m x
 | [],_,_=>rfl
 | (n,v)::r,m,h=>by
  unfold bindL;rw[vo λw hw=>h w (wB _ hw)];split
  ·have:x≠n:=by rintro rfl;exact h v v8
   simp[this]
  ·rfl
theorem vd{kindOf:Str->Option NameKind}{x:Str}:∀{binds:List (Str×Value)}{m:Str->Option Value},(∀v,(x,v)∉binds)->bindC kindOf binds m x=m x
 | [],_,_=>rfl
 | (n,v)::r,m,h=>by
  unfold bindC;rw[vd λw hw=>h w (wB _ hw)];split;·rfl
  ·have:x≠n:=by rintro rfl;exact h v v8
   simp[this]
theorem uk{kindOf:Str->Option NameKind}{x:Str}{v:Value}:∀{P:List Str}{vs:List Value}{i:Nat}{m:Str->Option Value},P.Nodup->P[i]?=some x->vs[i]?=some v->kindOf x=some .local->
  bindL kindOf (P.zip vs) m x=some v
 | [],_,_,_,_,h,_,_=>by simp at h
 |_::_,[],_,_,_,_,h,_=>by simp at h
 |p::P,w::vs,0,m,nd,h1,h2,hk=>by simp at h1 h2;subst h1;subst h2;show bindL kindOf ((p,w)::P.zip vs) m p=_;unfold bindL;rw[vo λv hv=>(t9.mp nd).1 (li hv).1,if_pos hk];simp
 |p::P,w::vs,i+1,m,nd,h1,h2,hk=>by show bindL kindOf ((p,w)::P.zip vs) m x=_;unfold bindL;exact uk (i:=i) (t9.mp nd).2 (by simpa using h1) (by simpa using h2) hk
theorem ur{kindOf:Str->Option NameKind}{x:Str}{v:Value}:∀{P:List Str}{vs:List Value}{i:Nat}{m:Str->Option Value},P.Nodup->P[i]?=some x->vs[i]?=some v->kindOf x≠some .local->
  bindC kindOf (P.zip vs) m x=some v
 | [],_,_,_,_,h,_,_=>by simp at h
 |_::_,[],_,_,_,_,h,_=>by simp at h
 |p::P,w::vs,0,m,nd,h1,h2,hk=>by simp at h1 h2;subst h1;subst h2;show bindC kindOf ((p,w)::P.zip vs) m p=_;unfold bindC;rw[vd λv hv=>(t9.mp nd).1 (li hv).1,if_neg hk];simp
 |p::P,w::vs,i+1,m,nd,h1,h2,hk=>by show bindC kindOf ((p,w)::P.zip vs) m x=_;unfold bindC;exact ur (i:=i) (t9.mp nd).2 (by simpa using h1) (by simpa using h2) hk
noncomputable def kE(N:List Str)(vs:List V):St:=vs.map some++List.replicate (N.length - vs.length) none
noncomputable def gB(CX:CXT)(P:Program)(w:World)(K:W.Frag)(mg:Str->Option Value)(base:Heap)(N:List Str)(qual:Str)(scope:Scope)(f:Addr)(cd:Value)(A:Around)(outer:List Env)(s:Shared)(H:Hp)(E:XK):Cx where
 prog:=P
 w:=w
 K:=K
 mg:=mg
 base:=base
 A:=A.deeper (envOfC qual scope s.heap.objs.size f cd)
 N:=N
 s₀:=s
 H₀:=H
 env:=envOfC qual scope s.heap.objs.size f cd
 outer:=outer
 stack:=envOfC qual scope s.heap.objs.size f cd::outer
 ex:=[]
 calm:=true
 fn:=λ_=>true
 pn:=[]
 xe:=λe s'=>wpAny (model P w) (A.deeper (envOfC qual scope s.heap.objs.size f cd)) (leaving (envOfC qual scope s.heap.objs.size f cd) e) (λ_ s''=>CX outer H s E e s'') (λe' s''=>CX outer H s E e' s'') s'
def yz{sc:Scope}{x:Str}(h:sc.names.lookup x=some .cell):∃c,(cellsFrom n sc.names []).lookup x=some c:=by have q:=W.cellsFrom_some sc.names n [] (.inl h);exact Option.isSome_iff_exists.mp q
def Cd{CX:CXT}{w:World}{K:W.Frag}{mg:Str->Option Value}{base:Heap}{N:List Str}{cd:Value}{A:Around}{outer:List Env}{s1:Shared}{E:XK}(S:FnScope N ps scope)(hd:A.handled=none)(e0:Env0 P w K mg base A outer s H)(hl:vs.length=ps.length)(r:Vals vs us)(x:InCallC s s.heap.objs.size (bindL (envOfC qual scope s.heap.objs.size f cd).kindOf (ps.zip us) λ_=>none) (cellsFrom (s.heap.objs.size+1) scope.names []) (bindC (envOfC qual scope s.heap.objs.size f cd).kindOf (ps.zip us) λ_=>none) s1):
  Inv (gB CX P w K mg base N qual scope f cd A outer s H E) [] (kE N vs) H s1:=by
 have hpl:ps.length<=N.length:=by have:=vF List.length S.pre;rw[qT]at this;omega
 obtain⟨h1,tk,rfl,hk⟩:=x.done;have noA:∀b:Addr,b∉(gB CX P w K mg base N qual scope f cd A outer s H E).ex:=λb z=>absurd (show b∈([]:List Addr) from z) (by simp);refine⟨⟨e0.mod,S.kind,rfl,rfl,zq _,λy z c h1 h2=>?_,λy hy=>?_,λy c _ h=>?_,λ_=>hd,Around.frames_deeper e0.frames,.inr ⟨rfl,rfl⟩,λb z=>absurd z (noA b),e0.bs,e0.bsz,λb _ _=>noA b,λb z=>absurd z (noA b),e0.funs,e0.frf,e0.tabs⟩,
  rfl,e0.bare,Un.kept hk,⟨_,x.toInCall.ns,λi y v h1 h2 h3=>?_⟩,λy c h=>⟨_,x.cell y c h⟩,e0.hok.fresh (zq _),λy c h=>?_,λp hp=>absurd (show p∈([]:List (Addr×Obj)) from hp) (by simp),e0.hok.kept hk,?_⟩;·exact name_of_addr x.apart (p0 h1) (p0 h2)
 ·have hy:scope.names.lookup y=some .cell\/scope.names.lookup y=some .free:=hy;rcases hy with hy|hy;·exact yz hy
  ·exact absurd rfl (S.nofree _ (p0 hy))
 ·exact Nat.le_of_lt (x.above y c (p0 h))
 ·have hi:i<vs.length:=by
   unfold kE at h2;by_cases hi:i<vs.length;·exact hi
   ·rw[qC (by simpa using hi)]at h2;rw[p6]at h2;split at h2 <;> cases h2
  have ha:vs[i]?=some v:=by
   unfold kE at h2;rw[q9 (by simpa using hi),wZ]at h2;cases e:vs[i]? with
   |none=>rw[e]at h2;cases h2
   |some a=>rw[e]at h2;cases h2;rfl
  obtain⟨u,hu,rv⟩:=r.get ha;have hp:ps[i]?=some y:=by rw[<- S.pre,List.getElem?_take_of_lt (by omega)];exact h1
  have ndP:ps.Nodup:=by rw[<- S.pre];exact S.nd.sublist (List.take_sublist _ _)
  refine⟨u,rv,?_⟩;rcases S.par y (lp hp)with k|k;·exact .inl ⟨k,uk ndP hp hu k⟩
  ·obtain⟨c,e⟩:=yz (n:=s.heap.objs.size+1) k;refine .inr ⟨.inl k,c,e,?_⟩;have q:=x.cell y c e;rw[ur ndP hp hu (by show scope.names.lookup y≠_;rw[k];decide)]at q;exact q
 ·exact e0.hok.fresh (Nat.le_of_lt (x.above y c (p0 h)))
 ·unfold kE;show _=N.length;rw[uC,wU,sh];omega
def Hj{CX:CXT}{w:World}{K:W.Frag}{mg:Str->Option Value}{base:Heap}{name:Str}{params:Arguments}{dV kV doc pm ct:Value}{N:List Str}{sp:Sp}(lk:K.lookup f=some ⟨oc,od,.func (W.fnOf name qual params body scope dV kV doc pm an cdv ct),osl⟩)(hcd:W.codeIn K cdv qual=true)(S:FnScope N ps scope)(len:∀vs H Q E,sp vs H Q E->vs.length=ps.length)(hbody:∀(A:Around)(outer:List Env)(s:Shared)(H:Hp)(vs:List V)(Q:VK)(E:XK),Room k (A.deeper (envOfC qual scope s.heap.objs.size f cdv))->sp vs H Q E->
 ∃t,PSs (gB CX P w K mg base N qual scope f cdv A outer s H E) body t/\t { nx:=λ_ H'=>Q .non H',rt:=Q } (kE N vs) H):
  FnOk P w K mg base CX (k+1) f (W.fnOf name qual params body scope dV kV doc pm an cdv ct) ps sp:=by
 refine⟨len,λA outer s H args us vs Q E hr e0 hb r hsp=>?_⟩;have hl:=len _ _ _ _ hsp;have KX:K.In s.heap:=e0.mod.kin.keeps λb o e=>(e0.bs b o e).1;have lim:s.heap.NoLimit:=e0.mod.nolimit.keeps λb o e=>(e0.bs b o e).1;have hkind:∀y∈ps.zip us,scope.names.lookup y.1=some .local\/(scope.names.lookup y.1=some .cell/\((cellsFrom (s.heap.objs.size+1) scope.names []).lookup y.1).isSome=true):=λ⟨n,v⟩ hy=>by
  rcases S.par n (li hy).1 with q|q;·exact .inl q
  ·exact .inr ⟨q,W.cellsFrom_some _ _ _ (.inl q)⟩
 refine codeAny_call_function hr.depth (KX _ _ lk) rfl S.co S.gen rfl (W.codeRec_of KX hcd) (hb _ _ _ _ ?_);refine wpAny_newFunctionEnv_cells S.kind hkind λenv he s1 x=>?_;subst he;refine⟨lim.keeps x.toInCall.keep,codeAny_func ?_⟩;obtain⟨t,ht,hq⟩:=hbody A outer s H vs Q E (hr.deeper _) hsp;have I:Inv (gB CX P w K mg base N qual scope f cdv A outer s H E) [] (kE N vs) H s1:=Cd S hr.hd e0 hl r x;refine yc (ht [] s1 (kE N vs) H _ I hq) (λfl s' hs=>?_) λe s' hs=>hs;have fin:∀{σ':St}{H':Hp}{v:V}{u:Value},Inv (gB CX P w K mg base N qual scope f cdv A outer s H E) [] σ' H' s'->RelV v u->Q v H'->CE outer P w H s Q u s':=
  λ{σ' H' v u} J rv q=>⟨v,H',J.os,J.bare,J.base,J.hok,rv,q⟩
 cases fl with
 |ret u=>obtain⟨v,σ',H',J,rv,q⟩:=hs;exact fin J rv q
 |next=>obtain⟨σ',H',J,q⟩:=hs;exact fin (v:=V.non) (u:=Value.none) J rfl q
 |brk=>obtain⟨_,_,_,q⟩:=hs;exact False.elim q
 |cont=>obtain⟨_,_,_,q⟩:=hs;exact False.elim q
end L2
variable{CX:L2.CXT}
namespace L2
open PySem PySem.Spec PyProof.Rows
section
variable{x:Str}{pos:Pos}{e:Expr}{t:TA}{id T:String}{r:List V->Hp->VK->Prop}
noncomputable def tCB(r:List V->Hp->VK->Prop)(t:TA):TE:=λσ H Q=>t σ H λvs H1=>r vs H1 Q
def kL(hc:kz X (.builtin id) r)(hg:Gl X x)(hm:X.mg x=none)(hv:bootBuiltins x=some (.builtin id))(ha:PA X (e::es) t)(hn:x≠"__name__":=by decide)(hdb:(x==("__debug__":Str))=false:=by decide)(he:starEach (e::es) X.env=(false,eval e X.env)::starEach es X.env:=by rfl)(hpl:(backTo pos (starEach es X.env)).any (·.1)=false:=by rfl):PE X (.Call (.Name x p) (e::es) [] pos) (tCB r t):=by
 intro pins s σ H Q I h;refine o9 (mJ I hg hm hv ?_ hn hdb);exact callWith_builtin1 (thn (ha pos pins s σ H _ I h) λus s1 ⟨vs,H1,I1,r1,q1⟩=>hc pins s1 σ H1 vs us Q I1 r1 q1) he hpl
def AG(hc:kz X (.type T) r)(hg:Gl X x)(hm:X.mg x=none)(hv:bootBuiltins x=some (.type T))(ha:PA X (e::es) t)(hn:x≠"__name__":=by decide)(hdb:(x==("__debug__":Str))=false:=by decide)(he:starEach (e::es) X.env=(false,eval e X.env)::starEach es X.env:=by rfl)(hpl:(backTo pos (starEach es X.env)).any (·.1)=false:=by rfl):PE X (.Call (.Name x p) (e::es) [] pos) (tCB r t):=by
 intro pins s σ H Q I h;refine o9 (mJ I hg hm hv ?_ hn hdb);exact callWith_type1 (thn (ha pos pins s σ H _ I h) λus s1 ⟨vs,H1,I1,r1,q1⟩=>hc pins s1 σ H1 vs us Q I1 r1 q1) he hpl
end
end L2
namespace HT
open PySem PyProof.Rows
section
open PySem.SeqAt
open PySem.AutoSeq1 (wpAny_loadPart')
open PySem.MeetsSeq PySem.MeetsSeq2 PySem.MeetsSeq3
end
section
variable{prog:Program}{w:World}{A:Around}
theorem cat_tup{t b:Addr}{vs ws:List Value}{Q:Value->Shared->Prop}(ht:IsTup s.heap t vs.toArray)(hb:IsTup s.heap b ws.toArray)(hv:vs≠[])(h1:ws=[]->Q (.ref t) s)(h2:ws≠[]->Q (.ref s.heap.objs.size) { s with heap:=s.heap.push { cls:=.type "tuple",data:=.seq (vs++ws).toArray } })(hsz:vs.length+ws.length<=sizeLine):wpAny (model prog w) A (binaryOp .Add (.ref t) (.ref b)) Q E s:=by
 obtain⟨⟨cls,dd,data,sl⟩,ho,hc,n,hd⟩:=id ht;obtain⟨⟨cls2,dd2,data2,sl2⟩,ho2,hc2,n2,hd2⟩:=id hb;simp only at hc hd hc2 hd2;subst hc hd hc2 hd2;have e:vs.toArray++ws.toArray=(vs++ws).toArray:=by simp
 by_cases hw:ws=[]
 ·exact concat_meets ⟨_,ho,rfl⟩ ⟨_,ho2,rfl⟩ iF seq_tuple_add F.slot_tuple_add F.entry_tuple_add (F.args_tuple_add_2 _ _)
   (tuple_addW1 t b vs.toArray ws.toArray n n2 dd dd2 sl sl2 (by simpa using hv) (by simp[hw])) ⟨ho,ho2,h1 hw⟩
 ·refine concat_meets ⟨_,ho,rfl⟩ ⟨_,ho2,rfl⟩ iF seq_tuple_add F.slot_tuple_add F.entry_tuple_add (F.args_tuple_add_2 _ _)
   (tuple_addW2 t b vs.toArray ws.toArray n n2 dd dd2 sl sl2 (by simpa using hv) (by simpa using hw) (by rw[x9,x9];exact hsz)) ⟨ho,ho2,?_⟩;rw[e];exact h2 hw
noncomputable def sIx(n d:Nat):Option Int->Nat
 |none=>d
 |some v=>if v<0 then (v+(n:Int)).toNat else min v.toNat n
def sIx_none(n d:Nat):sIx n d none=d:=rfl
def sIx_nat(n d k:Nat):sIx n d (some (k:Int))=min k n:=by show(if (k:Int)<0 then ((k:Int)+(n:Int)).toNat else min (k:Int).toNat n)=min k n;rw[if_neg (by omega),uH]
def sIx_le(n d:Nat)(hd:d<=n)(o:Option Int):sIx n d o<=n:=by
 cases o with
 |none=>exact hd
 |some v=>
  show(if v<0 then (v+(n:Int)).toNat else min v.toNat n)<=n;by_cases hv:v<0;·rw[if_pos hv];omega
  ·rw[if_neg hv];exact Nat.min_le_right _ _
def B7(v:Int)(n d:Nat):(if v<0 then max (v+(n:Int)) 0 else min v (n:Int))=((sIx n d (some v):Nat):Int):=by
 show(if v<0 then max (v+(n:Int)) 0 else min v (n:Int))=(((if v<0 then (v+(n:Int)).toNat else min v.toNat n):Nat):Int);by_cases hv:v<0;·simp only[if_pos hv];omega
 ·simp only[if_neg hv];omega
def zy(lo hi:Option Int)(n:Nat):Builtin.Slice.sliceAdjust lo hi 1 (n:Int)=(((sIx n 0 lo:Nat):Int),((sIx n n hi:Nat):Int)):=by
 have h1 : ¬ ((1:Int)<0):=by omega
 unfold Builtin.Slice.sliceAdjust;simp only[h1,uM];refine Prod.ext ?_ ?_
 ·cases lo with
  |none=>rfl
  |some v=>exact B7 v n 0
 ·cases hi with
  |none=>rfl
  |some v=>exact B7 v n n
def zn(i j:Nat):Builtin.Slice.slicePlaces (i:Int) (j:Int) 1=j - i:=by
 unfold Builtin.Slice.slicePlaces;have h1:(1:Int) > 0:=by omega
 simp only[h1,xK,Int.ediv_one];split <;> omega
def rF{v:Value}{o:Option Int}{Q:Option Int->Shared->Prop}(p:IsPart v o)(h:Q o s):wpAny (model prog w) A (Builtin.Slice.slicePartIndex v) Q E s:=by
 cases p with
 |none=>exact slicePart_none h
 |int i t=>exact slicePart_int h
def sliceApplied_gen{sl:Addr}{vl vu:Value}{lo hi:Option Int}{Q:Int×Int×Nat->Shared->Prop}(hs:s.heap.IsSliceOf sl vl vu .none)(pl:IsPart vl lo)(pu:IsPart vu hi)(h:Q (((sIx n 0 lo:Nat):Int),1,sIx n n hi - sIx n 0 lo) s):wpAny (model prog w) A (Builtin.Slice.sliceApplied (.ref sl) (pure (n:Int))) Q E s:=by
 obtain⟨os,hos,hcs,hds⟩:=id hs;unfold Builtin.Slice.sliceApplied Builtin.Slice.sliceFields;refine z9 (z9 (w9 hos hds (x:=vl) rfl (z9 (w9 hos hds (x:=vu) rfl (z9 (w9 hos hds (x:=.none) rfl (zd ?_)))))));refine z9 (slicePart_none ?_);show wpAny _ _ (if ((1:Int)==0)=true then _ else _) _ _ s;rw[if_neg (by decide)];refine z9 (rF pl (z9 (rF pu (z9 (zd ?_)))));show wpAny _ _ (match Builtin.Slice.sliceAdjust lo hi 1 (n:Int)with|(lo,hi)=>pure (lo,(1:Int),Builtin.Slice.slicePlaces lo hi 1)) _ _ s;rw[zy lo hi n];show wpAny _ _ (pure (((sIx n 0 lo:Nat):Int),(1:Int),Builtin.Slice.slicePlaces ((sIx n 0 lo:Nat):Int) ((sIx n n hi:Nat):Int) 1)) _ _ s;rw[zn];exact zd h
def EL(xs:Array Value)(i k:Nat):((List.range k).filterMap λ(m:Nat)=>xs[((i:Int)+(m:Int) * 1).toNat]?).toArray=((xs.toList.drop i).take k).toArray:=by
 have e:(λ(m:Nat)=>xs[((i:Int)+(m:Int) * 1).toNat]?)=λm=>xs[i+m]?:=by
  funext m
  have:((i:Int)+(m:Int) * 1).toNat=i+m:=by omega
  rw[this]
 rw[e];have:=pick_run xs i k;rw[List.filterMap_map]at this;have e2:((λx=>xs[x]?) ∘ λx=>i+x)=λm=>xs[i+m]?:=rfl;rw[e2]at this;rw[this]
def getItem_tuple_cut{t sl:Addr}{items:Array Value}{vl vu:Value}{lo hi:Option Int}{Q:Value->Shared->Prop}(ht:IsTup s.heap t items)(hs:s.heap.IsSliceOf sl vl vu .none)(pl:IsPart vl lo)(pu:IsPart vu hi)(hw : ¬ (sIx items.size 0 lo=0/\sIx items.size items.size hi=items.size))(h:Q (.ref s.heap.objs.size) { s with heap:=s.heap.push { cls:=.type "tuple",data:=.seq ((items.toList.drop (sIx items.size 0 lo)).take (sIx items.size items.size hi - sIx items.size 0 lo)).toArray } })(hsz:items.size<=sizeLine):wpAny (model prog w) A (getItem (.ref t) (.ref sl)) Q E s:=by
 have htake:sizeOk (.seq ((items.toList.drop (sIx items.size 0 lo)).take (sIx items.size items.size hi - sIx items.size 0 lo)).toArray):=by show((items.toList.drop (sIx items.size 0 lo)).take (sIx items.size items.size hi - sIx items.size 0 lo)).toArray.size<=sizeLine;rw[x9,qT,oq,pY];omega
 have hj:sIx items.size items.size hi<=items.size:=sIx_le _ _ (zq _) hi;obtain⟨os,hos,hcs,hds⟩:=id hs;have hTs:s.TypeIs (.ref sl) "slice":=⟨os,hos,hcs⟩
 unfold getItem
 try with_reducible refine uX ?_
 first|refine z9 (zd ?_)|skip
 refine z9 (wpAny_sequenceKey ht.typeIs (by decide) ?_);refine z9 (sk (name:=Str.ofString "__getitem__") ht.typeIs slot_tuple_getitem
  (sv slot_tuple_getitem ht.typeIs entry_tuple_getitem ?_ (args_tuple_getitem _ _)));show wpAny _ _ (Builtin.Tuple.tupleItemsOf (.ref t)>>=_) _ _ s;refine z9 (oF ht ?_);refine z9 (lE hTs ?_);rw[if_pos (by decide)];refine z9 (sliceApplied_gen hs pl pu ?_);have hno : ¬ ((((sIx items.size 0 lo:Nat):Int)==0 && (1:Int)==1 && (sIx items.size items.size hi - sIx items.size 0 lo)==items.size)=true):=by
  intro q;rw[sH,sH]at q;have q1:((sIx items.size 0 lo:Nat):Int)=0:=p7 q.1.1;have q2:sIx items.size items.size hi - sIx items.size 0 lo=items.size:=p7 q.2;exact hw ⟨by omega,by omega⟩
 show wpAny _ _ (if (((sIx items.size 0 lo:Nat):Int)==0 && (1:Int)==1 && (sIx items.size items.size hi - sIx items.size 0 lo)==items.size)=true then _ else _) _ _ s;rw[if_neg hno,EL]
 first
  |exact z9 (m:=Builtin.Tuple.tupleExact _) (u6 (zd ⟨_,rfl,zd h⟩) htake)
  |exact z9 (m:=Builtin.Tuple.tupleExact _) (u6 (z9 (zd (zd ⟨_,rfl,zd h⟩))) htake)
  |exact z9 (z9 (m:=Builtin.Tuple.tupleExact _) (u6 (zd (zd ⟨_,rfl,zd h⟩)) htake))
  |exact z9 (z9 (m:=Builtin.Tuple.tupleExact _) (u6 (zd ⟨_,rfl,zd h⟩) htake))
end
end HT
namespace L2
open PySem PySem.Spec PyProof.Rows
noncomputable abbrev TO:=St->Hp->(Option Int->Hp->Prop)->Prop
noncomputable def PO(X:Cx)(e:Option Expr)(t:TO):Prop:=
 ∀(pins:List (Addr×Obj))(s:Shared)(σ:St)(H:Hp)(Q:Option Int->Hp->Prop),Inv X pins σ H s->t σ H Q->
  wpAny (model X.prog X.w) X.A (evalPart e X.env) (λu s'=>∃o H',Inv X pins σ H' s'/\IsPart u o/\Q o H') X.xe s
noncomputable def HE:TO:=λ_ H Q=>Q none H
noncomputable def MR(t:TE):TO:=λσ H Q=>t σ H λx H1=>∃i,x=.int i/\Q (some i) H1
section
variable{e:Expr}{te:TE}{lo hi:Option Expr}{tl th:TO}{pos p2:Pos}
def Iq:PO X none HE:=by intro pins s σ H Q I h;rw[evalPart_none];exact zd ⟨none,H,I,.none,h⟩
def G8(h:PE X e te):PO X (some e) (MR te):=by intro pins s σ H Q I hw;rw[evalPart_some];refine thn (h pins s σ H _ I hw) λu s1 ⟨x,H1,I1,r1,q1⟩=>?_;obtain⟨i,rfl,q⟩:=q1;obtain⟨t,rfl⟩:=r1;exact⟨some i,H1,I1,.int i t,q⟩
noncomputable def SlR(X:Cx)(r:V->Option Int->Option Int->Hp->VK->Prop):Prop:=
 ∀(pins:List (Addr×Obj))(s:Shared)(σ:St)(H:Hp)(x:V)(v vl vu:Value)(lo hi:Option Int)(sl:Addr)(Q:VK),Inv X pins σ H s->RelV x v->s.heap.IsSliceOf sl vl vu .none->IsPart vl lo->IsPart vu hi->r x lo hi H Q->
  ∃T id,typeLookup (.type T) "__getitem__"=pure (some (.builtin id))/\s.TypeIs v T/\wpAny (model X.prog X.w) X.A (getItem v (.ref sl)) (EP X pins σ Q) X.xe s
def SlR.or{r r':V->Option Int->Option Int->Hp->VK->Prop}(h:SlR X r)(h':SlR X r'):SlR X (λx lo hi H Q=>r x lo hi H Q\/r' x lo hi H Q):=by
 intro pins s σ H x v vl vu lo hi sl Q I rx hs pl pu q;rcases q with q|q;·exact h pins s σ H x v vl vu lo hi sl Q I rx hs pl pu q
 ·exact h' pins s σ H x v vl vu lo hi sl Q I rx hs pl pu q
noncomputable def tSl(r:V->Option Int->Option Int->Hp->VK->Prop)(te:TE)(tl th:TO):TE:=λσ H Q=>te σ H λx H1=>tl σ H1 λl H2=>th σ H2 λu H3=>r x l u H3 Q
def DL{r:V->Option Int->Option Int->Hp->VK->Prop}(hr:SlR X r)(he:PE X e te)(hl:PO X lo tl)(hu:PO X hi th):PE X (.Subscript e (.Slice lo hi none p2) pos) (tSl r te tl th):=by intro pins s σ H Q I h;refine Subscript_ (thn (he pins s σ H _ I h) λv s1 ⟨x,H1,I1,r1,q1⟩=>?_);refine wpAny_Slice (thn (hl pins s1 σ H1 _ I1 q1) λvl s2 ⟨l,H2,I2,pl,q2⟩=>thn (hu pins s2 σ H2 _ I2 q2) λvu s3 ⟨u,H3,I3,pu,q3⟩=>?_);rw[evalPart_none];refine zd ?_;have I4:Inv X pins σ H3 { s3 with heap:=s3.heap.push { cls:=.type "slice",data:=.fields #[vl,vu,.none] } }:=I3.kept (t':=s3.toks) λb ob q=>zL _ q;obtain⟨T,id,hT,ht,hg⟩:=hr pins { s3 with heap:=s3.heap.push { cls:=.type "slice",data:=.fields #[vl,vu,.none] } } σ H3 x v vl vu l u s3.heap.objs.size Q I4 r1 (Heap.IsSliceOf.new ..) pl pu q3;show wpAny (model X.prog X.w) X.A (subscriptTail e (.Slice lo hi none p2) v (.ref s3.heap.objs.size)) (EP X pins σ Q) X.xe { s3 with heap:=s3.heap.push { cls:=.type "slice",data:=.fields #[vl,vu,.none] } };exact tail_any (ops:=[.ref s3.heap.objs.size,v]) ht hT hg (by with_unfolding_all rfl)
noncomputable def Gf(xs:List V)(lo hi:Option Int):List V:=(xs.drop (HT.sIx xs.length 0 lo)).take (HT.sIx xs.length xs.length hi - HT.sIx xs.length 0 lo)
def ph(xs:List V)(lo hi:Option Int):(Gf xs lo hi).length<=xs.length:=by unfold Gf;rw[qT,oq];omega
noncomputable def OW(K:W.Frag):V->Option Int->Option Int->Hp->VK->Prop:=λx lo hi H Q=>∃a xs,x=.ref a/\SqT K H a xs/\
 ¬ (HT.sIx xs.length 0 lo=0/\HT.sIx xs.length xs.length hi=xs.length)/\∀p,H p=none->Q (.ref p) (upd H p (.tup (Gf xs lo hi)))
def sl_tup:SlR X (OW X.K):=by
 intro pins s σ H x v vl vu lo hi sl Q I rx hs pl pu h;obtain⟨a,xs,rfl,hx,hw,q⟩:=h;cases rx;obtain⟨its,r,ht,hz⟩:=I.tuple hx;have hlen:its.toArray.size=xs.length:=by rw[x9];exact r.length.symm
 refine⟨"tuple",_,slot_tuple_getitem.lookup,ht.typeIs,?_⟩;refine HT.getItem_tuple_cut ht hs pl pu (by rw[hlen];exact hw) ?_ (by rw[hlen];exact hz);rw[hlen];refine⟨.ref s.heap.objs.size,_,I.laid (t':=s.toks) (o:=.tup (Gf xs lo hi)) (λb ob q=>zL _ q) (zq _) ?_,rfl,q _ (I.hok.fresh (zq _))⟩;exact⟨xk (ph xs lo hi) hz,_,(r.drop (HT.sIx xs.length 0 lo)).take (HT.sIx xs.length xs.length hi - HT.sIx xs.length 0 lo),tO _ _⟩
noncomputable def MT(K:W.Frag):R2:=λx y H Q=>∃a b xs ys,x=.ref a/\y=.ref b/\SqT K H a xs/\SqT K H b ys/\xs≠[]/\xs.length+ys.length<=sizeLine/\
 (ys=[]->Q (.ref a) H)/\(ys≠[]->∀p,H p=none->Q (.ref p) (upd H p (.tup (xs++ys))))
def Vals.nil_iff(r:Vals xs us):us=[] ↔ xs=[]:=by
 cases r with
 |nil=>simp
 |cons _ _=>simp
def IE:OpR X (binaryOp .Add) (MT X.K):=by intro pins s σ H x y v u Q I rx ry h;obtain⟨a,b,xs,ys,rfl,rfl,ha,hb,hx,hz,q1,q2⟩:=h;cases rx;cases ry;obtain⟨its,r1,p1,_⟩:=I.tuple ha;obtain⟨its2,r2,p2,_⟩:=I.tuple hb;refine HT.cat_tup p1 p2 (λz=>hx (r1.nil_iff.mp z)) (λz=>⟨.ref a,H,I,rfl,q1 (r2.nil_iff.mp z)⟩) (λz=>?_) (by rw[<- r1.length,<- r2.length];exact hz);refine⟨.ref s.heap.objs.size,_,I.laid (t':=s.toks) (o:=.tup (xs++ys)) (λb ob q=>zL _ q) (zq _) ?_,rfl,q2 (λw=>z (r2.nil_iff.mpr w)) _ (I.hok.fresh (zq _))⟩;exact⟨by rw[uC];exact hz,_,r1.append r2,tO _ _⟩
end
noncomputable def ixN(n:Nat)(i:Int):Option Nat:=if 0<=i then (if i<n then some i.toNat else none)else if -(n:Int)<=i then some (i+n).toNat else none
noncomputable def atI{α:Type}(xs:List α)(i:Int):Option α:=(ixN xs.length i).bind λj=>xs[j]?
def Bd{i:Int}(h:ixN n i=some j):seqIndex? i n=some j/\j<n/\-(n:Int)<=i/\i<n:=by
 unfold ixN at h;by_cases h0:0<=i
 ·rw[if_pos h0]at h;by_cases h1:i<n;·rw[if_pos h1]at h;have e:i.toNat=j:=xf h;exact⟨by rw[seqIndex_of h0 h1,e],by omega,by omega,h1⟩
  ·rw[if_neg h1]at h;cases h
 ·rw[if_neg h0]at h;by_cases h1 : -(n:Int)<=i;·rw[if_pos h1]at h;have e:(i+n).toNat=j:=xf h;exact⟨by rw[seqIndex_neg (by omega) h1,e],by omega,h1,by omega⟩
  ·rw[if_neg h1]at h;cases h
def wS{α:Type}{xs:List α}{i:Int}{v:α}(h:atI xs i=some v):∃j,seqIndex? i xs.length=some j/\xs[j]?=some v/\j<xs.length/\-(xs.length:Int)<=i/\i<xs.length:=by
 unfold atI at h;cases e:ixN xs.length i with
 |none=>rw[e]at h;cases h
 |some j=>rw[e]at h;obtain⟨h1,h2,h3,h4⟩:=Bd e;exact⟨j,h1,h,h2,h3,h4⟩
def Cl{α:Type}{xs:List α}{v:α}(h:xs[j]?=some v):atI xs (j:Int)=some v:=by
 have hj:j<xs.length:=(wK.mp h).1;have e:ixN xs.length (j:Int)=some j:=by unfold ixN;rw[if_pos (by omega),if_pos (by omega)];simp
 unfold atI;rw[e];exact h
noncomputable def tj(b:Expr):Prop:=∀o i,subscripted b false o i=operate [o,i] (getItem o i)
noncomputable def IxR(X:Cx)(r:R2):Prop:=
 ∀(value slice:Expr)(pins:List (Addr×Obj))(s:Shared)(σ:St)(H:Hp)(x y:V)(v u:Value)(Q:VK),Inv X pins σ H s->RelV x v->RelV y u->r x y H Q->
  subscripted slice false v u=operate [v,u] (getItem v u)->wpAny (model X.prog X.w) X.A (subscriptTail value slice v u) (EP X pins σ Q) X.xe s
noncomputable def MtR(X:Cx)(id:String)(r:V->List V->Hp->VK->Prop):Prop:=
 ∀(pins:List (Addr×Obj))(s:Shared)(σ:St)(H:Hp)(x:V)(xs:List V)(v:Value)(us:List Value)(Q:VK),Inv X pins σ H s->RelV x v->Vals xs us->r x xs H Q->
  wpAny (model X.prog X.w) X.A (call (.builtin id) (v::us)) (EP X pins σ Q) X.xe s
section
variable{a b:Expr}{ta tb:TE}{pos:Pos}
def IxR.or{r r':R2}(h:IxR X r)(h':IxR X r'):IxR X (λx y H Q=>r x y H Q\/r' x y H Q):=by
 intro value slice pins s σ H x y v u Q I rx ry q hs;rcases q with q|q;·exact h value slice pins s σ H x y v u Q I rx ry q hs
 ·exact h' value slice pins s σ H x y v u Q I rx ry q hs
def Hl{r:R2}(hr:IxR X r)(ha:PE X a ta)(hb:PE X b tb)(hs:tj b):PE X (.Subscript a b pos) (tOp r ta tb):=by intro pins s σ H Q I h;exact Subscript_ (MO ha hb I h λv u s2 x y H2 I2 rx ry q=>hr a b pins s2 σ H2 x y v u Q I2 rx ry q (hs _ _))
noncomputable def MB(K:W.Frag):R2:=λx y H Q=>∃p xs i v,x=.ref p/\y=.int i/\SqL K H p xs/\atI xs i=some v/\Q v H
noncomputable def OJ(K:W.Frag):R2:=λx y H Q=>∃p xs i v,x=.ref p/\y=.int i/\SqT K H p xs/\atI xs i=some v/\Q v H
noncomputable def OQ:R2:=λx y H Q=>∃z i c,x=.str z/\y=.int i/\z.length<=sizeLine/\atI z.cps.toList i=some c/\Q (.str ⟨#[c]⟩) H
def ix_list:IxR X (MB X.K):=by
 intro value slice pins s σ H x y v u Q I rx ry h hs;obtain⟨p,xs,i,z,rfl,rfl,hq,he,q⟩:=h;cases rx;obtain⟨t,rfl⟩:=ry;obtain⟨its,r,pl,hz⟩:=I.list hq;obtain⟨j,h1,h2,h3,h4,h5⟩:=wS he;obtain⟨w,ew,rw'⟩:=r.get h2;have hl:=r.length;have hn:=mR;have fin:EP X pins σ Q w s:=⟨z,H,I,rw',q⟩
 by_cases h0:0<=i
 ·have hj:i.toNat=j:=by rw[seqIndex_of h0 h5]at h1;exact xf h1
  exact item_listR pl.isList h0 (by omega) (by rw[hj];simpa using ew) fin hs
 ·have hj:(i+(its.toArray.size:Int)).toNat=j:=by rw[seqIndex_neg (by omega) h4]at h1;rw[x9,<- hl];exact xf h1
  exact subscriptTail_builtinR (x:=w) pl.isList.typeIs slot_list_getitem.lookup
   (wpAny_getItem_list_neg (Q:=λr s'=>r=w/\EP X pins σ Q r s') pl.isList (by omega) (by rw[x9] <;> omega) (by omega) (by rw[hj];simpa using ew) ⟨rfl,fin⟩) hs
def ix_tup:IxR X (OJ X.K):=by
 intro value slice pins s σ H x y v u Q I rx ry h hs;obtain⟨p,xs,i,z,rfl,rfl,hq,he,q⟩:=h;cases rx;obtain⟨t,rfl⟩:=ry;obtain⟨its,r,pl,hz⟩:=I.tuple hq;obtain⟨j,h1,h2,h3,h4,h5⟩:=wS he;obtain⟨w,ew,rw'⟩:=r.get h2;have hl:=r.length;have hn:=mR;have fin:EP X pins σ Q w s:=⟨z,H,I,rw',q⟩
 exact subscriptTail_builtinR (x:=w) pl.typeIs slot_tuple_getitem.lookup
  (getItem_tuple (j:=j) (Q:=λr s'=>r=w/\EP X pins σ Q r s') pl (by omega) (by omega) (by rw[x9,<- hl];exact h1) (by simpa using ew) ⟨rfl,fin⟩) hs
def J6:IxR X OQ:=by
 intro value slice pins s σ H x y v u Q I rx ry h hs;obtain⟨z,i,c,rfl,rfl,hz,he,q⟩:=h;obtain⟨t,rfl⟩:=rx;obtain⟨t',rfl⟩:=ry;obtain⟨j,h1,h2,h3,h4,h5⟩:=wS he;have hl:z.cps.toList.length=z.length:=by simp[Str.length]
 rw[hl]at h1 h4 h5;have hn:=mR;exact tail_any (oR s z t) slot_str_getitem.lookup (getItem_str (c:=c) (by have e1:decide (i < -(2 ^ 63:Int))=false:=wI (by omega);have e2:decide (i ≥ 2 ^ 63)=false:=wI (by omega);rw[e1,e2,Bool.or_false]) (by rw[h1];simpa using h2) ⟨.str ⟨#[c]⟩,H,I.tok _,⟨_,rfl⟩,q⟩) hs
noncomputable def rIx(K:W.Frag):R2:=λx y H Q=>MB K x y H Q\/OJ K x y H Q\/OQ x y H Q
def Jy:IxR X (rIx X.K):=ix_list.or (ix_tup.or J6)
def zr(its:List Value)(n j:Nat)(u:Value):Obj.mapSeq (·.setIfInBounds j u) { cls:=.type "list",data:=.seq its.toArray n }={ cls:=.type "list",data:=.seq (its.set j u).toArray n }:=by simp[Obj.mapSeq]
def Inv.lst{p:Addr}(I:Inv X pins σ H s)(h:H p=some (.lst xs)):
  ∃(its:List Value)(n:Nat),Vals xs its/\s.heap.get? p=some { cls:=.type "list",data:=.seq its.toArray n }/\xs.length<=sizeLine:=by
 obtain⟨z,its,n,r,e⟩:=I.hok p _ h;exact⟨its,n,r,e,z⟩
def Inv.lstUpd{p:Addr}{ys:List V}{its':List Value}{n':Nat}{f:Obj->Obj}(I:Inv X pins σ H s)(h:H p=some (.lst xs))(ho:s.heap.get? p=some { cls:=.type "list",data:=.seq its.toArray n })(hf:f { cls:=.type "list",data:=.seq its.toArray n }={ cls:=.type "list",data:=.seq its'.toArray n' })(r:Vals ys its')(hz:ys.length<=sizeLine)(t:Nat):
  Inv X pins σ (upd H p (.lst ys)) { s with heap:=s.heap.update p f,toks:=t }:=by
 have e:(s.heap.update p f).get? p=some { cls:=.type "list",data:=.seq its'.toArray n' }:=by rw[n0 f ho (by rw[hf] <;> rfl),hf]
 refine I.write (x:=p) (e:=p) (by rw[h];trivial) (.inl rfl) (λb u hb q=>(iN _ _ (yR hb)).trans q) ⟨_,e⟩ ?_;exact⟨hz,its',n',r,e⟩
noncomputable def Ni:V->V->V->Hp->(Hp->Prop)->Prop:=λo i v H Q=>∃p xs k j,o=.ref p/\i=.int k/\H p=some (.lst xs)/\ixN xs.length k=some j/\Q (upd H p (.lst (xs.set j v)))
def yg:MI X Ni:=by
 intro pins s σ H o i v ov iv u Q I ro ri rv h;obtain⟨p,xs,k,j,rfl,rfl,hp,hj,q⟩:=h;cases ro;obtain⟨t,rfl⟩:=ri;obtain⟨its,n,r,ho,hz⟩:=I.lst hp;obtain⟨h1,h2,h3,h4⟩:=Bd hj;have hl:=r.length;have hn:=mR;have I':Inv X pins σ (upd H p (.lst (xs.set j v))) { s with heap:=s.heap.update p (Obj.mapSeq (·.setIfInBounds j u)) }:=
  I.lstUpd hp ho (zr its n j u) (r.set rv j) (by rw[iO];exact hz) s.toks;by_cases h0:0<=k
 ·have hk:k.toNat=j:=by rw[seqIndex_of h0 h4]at h1;exact xf h1
  exact W.ki_setAt ho h0 (by omega) (by rw[x9,<- hl];exact h4) (by rw[hk];exact⟨_,I',q⟩)
 ·have hk:(k+(its.toArray.size:Int)).toNat=j:=by rw[seqIndex_neg (by omega) h3]at h1;rw[x9,<- hl];exact xf h1
  exact W.ki_setBack ho (by omega) (by rw[x9,<- hl];exact h3) (by omega) (by rw[hk];exact⟨_,I',q⟩)
def vn(lo hi:Option Int)(n:Nat):(sliceBounds lo hi none n).1=((HT.sIx n 0 lo:Nat):Int)/\(sliceBounds lo hi none n).2.1=((HT.sIx n n hi:Nat):Int)/\(sliceBounds lo hi none n).2.2=1:=by
 refine⟨?_,?_,rfl⟩
 ·cases lo with
  |none=>simp[sliceBounds,HT.sIx]
  |some i=>
   simp only[sliceBounds,HT.sIx,Option.getD_none,show(1:Int) > 0 by decide,xK];by_cases h:i<0;·simp only[h,xK] <;> omega
   ·simp only[h,uM] <;> omega
 ·cases hi with
  |none=>simp[sliceBounds,HT.sIx]
  |some i=>
   simp only[sliceBounds,HT.sIx,Option.getD_none,show(1:Int) > 0 by decide,xK];by_cases h:i<0;·simp only[h,xK] <;> omega
   ·simp only[h,uM] <;> omega
def tY(its:List Value)(lo hi:Option Int):slicePick its.toArray lo hi none=((its.drop (HT.sIx its.length 0 lo)).take (HT.sIx its.length its.length hi - HT.sIx its.length 0 lo)).toArray:=by obtain⟨h1,h2,h3⟩:=vn lo hi its.toArray.size;unfold slicePick;rw[h1,h2,h3];simp only[sliceRange_one,pick_run,x9] <;> rfl
noncomputable def OC(K:W.Frag):V->Option Int->Option Int->Hp->VK->Prop:=λx lo hi H Q=>∃a xs,x=.ref a/\SqL K H a xs/\∀p,H p=none->Q (.ref p) (upd H p (.lst (Gf xs lo hi)))
def GB:SlR X (OC X.K):=by intro pins s σ H x v vl vu lo hi sl Q I rx hs pl pu h;obtain⟨a,xs,rfl,hx,q⟩:=h;cases rx;obtain⟨its,r,ht,hz⟩:=I.list hx;have hlen:=r.length;refine⟨"list",_,slot_list_getitem.lookup,ht.isList.typeIs,?_⟩;refine wpAny_getItem_list_slice ht.isList hs pl pu .none (by simp) ?_ (by rw[x9] <;> omega);rw[tY,<- hlen];refine⟨.ref s.heap.objs.size,_,I.laid (t':=s.toks) (o:=.lst (Gf xs lo hi)) (λb ob q=>zL _ q) (zq _) ?_,rfl,q _ (I.hok.fresh (zq _))⟩;exact⟨xk (ph xs lo hi) hz,_,0,(r.drop (HT.sIx xs.length 0 lo)).take (HT.sIx xs.length xs.length hi - HT.sIx xs.length 0 lo),xj _ rfl⟩
noncomputable def tyV(K:W.Frag)(T:String)(x:V)(H:Hp):Prop:=match x with
 |.str _=>T="str"
 |.int _=>T="int"
 |.ref p=>(T="list"/\∃xs,SqL K H p xs)\/(T="tuple"/\∃o,K.lookup p=some o/\o.cls=.type "tuple"/\o.dict=none)\/
   (T="dict"/\((∃kvs,H p=some (.dK kvs))\/∃kvs,H p=some (.dT kvs)))\/(T="set"/\∃S n,H p=some (.set S n))
 |_=>False
def La{T:String}{x:V}{v:Value}(I:Inv X pins σ H s)(r:RelV x v)(ty:tyV X.K T x H):
  s.TypeIs v T/\∀a,v=.ref a->∃ob,s.heap.get? a=some ob/\ob.dict=none:=by
 cases x with
 |str z=>obtain⟨t,rfl⟩:=r;cases (show T="str" from ty);exact⟨oR s z t,λ_ e=>nomatch e⟩
 |int i=>obtain⟨t,rfl⟩:=r;cases (show T="int" from ty);exact⟨n6 s i t,λ_ e=>nomatch e⟩
 |ref p=>
  cases r;rcases ty with⟨rfl,xs,hq⟩|⟨rfl,o,hk,hc,hd⟩|⟨rfl,hk⟩|⟨rfl,S,n,hk⟩
  ·obtain⟨its,_,pl,_⟩:=I.list hq;refine⟨pl.isList.typeIs,λa e=>?_⟩;cases e;obtain⟨o,n,e,c,hd,_⟩:=pl;exact⟨o,e,hd⟩
  ·refine⟨⟨o,I.kIn p o hk,hc⟩,λa e=>?_⟩;cases e;exact⟨o,I.kIn _ o hk,hd⟩
  ·have z:∃o,s.heap.get? p=some o/\o.ExactDict:=by
    rcases hk with⟨kvs,hk⟩|⟨kvs,hk⟩;·obtain⟨_,_,_,_,o,_,_,e,ex,_⟩:=I.hok p _ hk;exact⟨o,e,ex⟩
    ·obtain⟨_,_,_,_,o,_,_,e,ex,_⟩:=I.hok p _ hk;exact⟨o,e,ex⟩
   obtain⟨o,e,ex⟩:=z;refine⟨⟨o,e,ex.1⟩,λa e2=>?_⟩;cases e2;exact⟨o,e,ex.2.1⟩
  ·obtain⟨o,_,_,_,e,ex,_⟩:=I.hok p _ hk;refine⟨⟨o,e,ex.1⟩,λa e2=>?_⟩;cases e2;exact⟨o,e,ex.2.1⟩
 |_=>exact False.elim ty
noncomputable def tBM(K:W.Frag)(T:String)(r:V->List V->Hp->VK->Prop)(to:TE)(t:TA):TE:=λσ H Q=>to σ H λx H1=>tyV K T x H1/\t σ H1 λxs H2=>r x xs H2 Q
variable{o e:Expr}{to:TE}{t:TA}{name:Str}{apos cpos:Pos}{T id:String}{r:V->List V->Hp->VK->Prop}
def G0(pa:PlainAttrs T)(slot:Slot T name id)(hty:typeOf (.builtin id)=pure (.type "method_descriptor"))(hm:MtR X id r)(ho:PE X o to)(ha:PA X (e::es) t)(hbase:attributeBase o name X.env (eval o X.env)=eval o X.env:=by rfl)(hfew:((backTo cpos (starEach (e::es) X.env)).all (λx=>!x.1) && (backToKw cpos (keywordEach [] X.env)).all (λx=>x.1.isSome)
 && decide ((e::es).length+([]:List Keyword).length+(if ([]:List Keyword).isEmpty then 0 else 1)<30))=true:=by rfl)(hline:(apos.endLine==cpos.line)=true:=by rfl)(hs:starEach (e::es) X.env=(false,eval e X.env)::starEach es X.env:=by rfl)(hplain:(backTo cpos (starEach es X.env)).any (·.1)=false:=by rfl):
  PE X (.Call (.Attribute o name apos) (e::es) [] cpos) (tBM X.K T r to t):=by
 intro pins s σ H Q I h;refine wpAny_Call_method_late hbase hfew hline rfl (thn (ho pins s σ H _ I h) λv s1 ⟨x,H1,I1,r1,ty,q1⟩=>?_);obtain⟨h1,h2⟩:=La I1 r1 ty;refine⟨T,id,pa,slot,hty,h1,h2,?_⟩;have hA:=ha cpos pins s1 σ H1 _ I1 q1;rw[hs]at hA⊢;refine Calls.callWith_builtin (by show(false || (backTo cpos (starEach es X.env)).any (·.1))=false;rw[hplain] <;> rfl) (Calls.evalArgs_plain ?_);exact thn hA λus s2 ⟨vs,H2,I2,r2,q2⟩=>hm pins s2 σ H2 x vs v us Q I2 r1 r2 q2
/- xs.append(e),list.index on a module's tuple .. are MtR facts of 06m -/
end
noncomputable def MtM(X:Cx)(id:String)(r:V->List V->Hp->VK->Prop):Prop:=
 ∀(pins:List (Addr×Obj))(s:Shared)(σ:St)(H:Hp)(x:V)(xs:List V)(v:Value)(us:List Value)(Q:VK),Inv X pins σ H s->RelV x v->Vals xs us->r x xs H Q->
  wpAny (model X.prog X.w) X.A (call (.builtin id) (v::us)) (EP X pins σ Q) X.xe s
def Vals.one:∀{x:V}{us:List Value},Vals [x] us->∃u,us=[u]/\RelV x u
 |_,_,.cons r .nil=>⟨_,rfl,r⟩
def Vals.two:∀{x y:V}{us:List Value},Vals [x,y] us->∃u v,us=[u,v]/\RelV x u/\RelV y v
 |_,_,_,.cons r (.cons q .nil)=>⟨_,_,rfl,r,q⟩
theorem Vals.rep(h:Vals xs us):∀k:Nat,Vals (List.replicate k xs).flatten (List.replicate k us).flatten
 | 0=>.nil
 |k+1=>by rw[sM,sM,qE,qE];exact Vals.append h (Vals.rep h k)
theorem lG(its:List Value):∀(k:Nat)(acc:List Value),
  List.foldl (λx1 x2=>x1++x2) acc.toArray (List.replicate k its.toArray)=(acc++(List.replicate k its).flatten).toArray
 | 0,acc=>by simp
 |k+1,acc=>by
  have e:acc.toArray++its.toArray=(acc++its).toArray:=by simp
  have e2:(acc++its)++(List.replicate k its).flatten=acc++(List.replicate (k+1) its).flatten:=by rw[sM,qE,n8]
  rw[<- e2,<- lG its k (acc++its),<- e,sM,n9]
section
variable{b:Addr}{ys zs:List V}
def Inv.lset{its':List Value}{f:Array Value->Array Value}{t':Nat}(I:Inv X pins σ H s)(hH:H l=some (.lst xs))(e:s.heap.get? l=some { cls:=.type "list",data:=.seq its.toArray n })(hf:f its.toArray=its'.toArray)(hv:Vals ys its')(hz:ys.length<=sizeLine):
  Inv X pins σ (upd H l (.lst ys)) { s with heap:=s.heap.update l (Obj.mapSeq f),toks:=t' }:=by
 have q:=PySem.IsL.update e f;rw[hf]at q;refine I.write (x:=l) (e:=l) (by rw[hH];exact trivial) (.inl rfl) (λb' u hb hu=>(iN s.heap (Obj.mapSeq f) (yR hb)).trans hu) ⟨_,q⟩ ?_;exact⟨hz,its',_,hv,q⟩
def Inv.lnew{t':Nat}(I:Inv X pins σ H s)(hv:Vals ys its)(hz:ys.length<=sizeLine):
  Inv X pins σ (upd H s.heap.objs.size (.lst ys)) { s with heap:=s.heap.push { cls:=.type "list",data:=.seq its.toArray },toks:=t' }:=
 I.laid (λ_ _ q=>zL _ q) (zq _) ⟨hz,its,0,hv,xj _ rfl⟩
def Inv.fresh(I:Inv X pins σ H s):H s.heap.objs.size=none:=I.hok.fresh (zq _)
def Inv.lstM(I:Inv X pins σ H s)(hH:H l=some (.lst xs)):xs.length<=sizeLine/\∃(its:List Value)(n:Nat),Vals xs its/\xs.length=its.length/\s.heap.get? l=some { cls:=.type "list",data:=.seq its.toArray n }:=by obtain⟨z,its,n,r,e⟩:=I.hok l _ hH;exact⟨z,its,n,r,r.length,e⟩
def yq(h:n<=sizeLine):Builtin.List.listTooLong n=false:=by unfold Builtin.List.listTooLong;exact wI (by omega)
end
section
noncomputable def GM:V->List V->Hp->VK->Prop:=λx vs H Q=>∃l xs y,x=.ref l/\vs=[y]/\H l=some (.lst xs)/\xs.length<sizeLine/\Q .non (upd H l (.lst (xs++[y])))
theorem lM:MtM X "list.append" GM:=by intro pins s σ H x vs v us Q I rx rv h;obtain⟨l,xs,y,rfl,rfl,hH,hz,q⟩:=h;cases rx;obtain⟨u,rfl,ru⟩:=rv.one;obtain⟨z,its,n,r,hl,e⟩:=I.lstM hH;refine uR F.slot_list_append ⟨_,e,rfl⟩ F.entry_list_append (F.args_list_append_2 _ _) (PySem.list_append l its.toArray n u (by rw[x9];omega)) ⟨e,?_⟩;refine⟨.non,_,I.lset (its':=its++[u]) hH e (by simp) (r.append (.cons ru .nil)) ?_,rfl,q⟩;rw[uC,List.length_singleton];omega
noncomputable def Gm:V->List V->Hp->VK->Prop:=λx vs H Q=>∃l b xs zs,x=.ref l/\vs=[.ref b]/\H l=some (.lst xs)/\H b=some (.lst zs)/\xs.length+zs.length<=sizeLine/\Q .non (upd H l (.lst (xs++zs)))
theorem Bv:MtM X "list.extend" Gm:=by
 intro pins s σ H x vs v us Q I rx rv h;obtain⟨l,b,xs,zs,rfl,rfl,hH,hB,hz,q⟩:=h;cases rx;obtain⟨u,rfl,ru⟩:=rv.one;cases ru;obtain⟨z,its,n,r,hl,e⟩:=I.lstM hH;obtain⟨z2,its2,n2,r2,hl2,e2⟩:=I.lstM hB;have hsz:its.toArray.size+its2.toArray.size<=sizeLine:=by rw[x9,x9];omega
 have hlong : ¬ (!its.toArray.isEmpty && Builtin.List.listTooLong (its.toArray.size+its2.toArray.size))=true:=by rw[yq hsz,Bool.and_false];exact xR
 refine uR F.slot_list_extend ⟨_,e,rfl⟩ F.entry_list_extend (F.args_list_extend_2 _ _)
  (AutoSeq1.list_extend_list_list_0 l its.toArray n b its2.toArray n2 hlong (by rw[x9];omega) (by omega)) ⟨e,e2,?_⟩;refine⟨.non,_,I.lset (its':=its++its2) hH e (by simp) (r.append r2) ?_,rfl,q⟩;rw[uC];omega
noncomputable def OK:R2:=λx y H Q=>∃l b xs zs,x=.ref l/\y=.ref b/\H l=some (.lst xs)/\H b=some (.lst zs)/\xs.length+zs.length<=sizeLine/\∀p,H p=none->Q (.ref p) (upd H p (.lst (xs++zs)))
def op_cat:OpR X (binaryOp .Add) OK:=by
 intro pins s σ H x y v u Q I rx ry h;obtain⟨l,b,xs,zs,rfl,rfl,hH,hB,hz,q⟩:=h;cases rx;cases ry;obtain⟨z,its,n,r,hl,e⟩:=I.lstM hH;obtain⟨z2,its2,n2,r2,hl2,e2⟩:=I.lstM hB;refine PySem.P.add_list e e2 ?_ (by rw[x9,x9];omega);have ea:its.toArray++its2.toArray=(its++its2).toArray:=by simp
 rw[ea];exact⟨.ref _,_,I.lnew (t':=s.toks) (r.append r2) (by rw[uC];omega),rfl,q _ I.fresh⟩
noncomputable def O1:R2:=λx y H Q=>∃l k xs,x=.ref l/\y=.int k/\H l=some (.lst xs)/\-(2 ^ 63)<=k/\k<2 ^ 63/\xs.length * k.toNat<=sizeLine/\
 ∀p,H p=none->Q (.ref p) (upd H p (.lst (List.replicate k.toNat xs).flatten))
def si{α:Type}(xs:List α)(k:Nat):(List.replicate k xs).flatten.length=k * xs.length:=by
 induction k with
 |zero=>simp
 |succ k ih=>rw[sM,qE,uC,ih,Nat.succ_mul,Nat.add_comm]
theorem JF:OpR X (binaryOp .Mult) O1:=by
 intro pins s σ H x y v u Q I rx ry h;obtain⟨l,k,xs,rfl,rfl,hH,h1,h2,hz,q⟩:=h;cases rx;obtain⟨t,rfl⟩:=ry;obtain⟨z,its,n,r,hl,e⟩:=I.lstM hH;have hlen:its.toArray.size * k.toNat<=sizeLine:=by rw[x9,<- hl];exact hz
 have hcap : ¬ its.toArray.size * k.toNat > (2 ^ 63 - 1) / 8:=by
  have:(sizeLine:Nat)<=(2 ^ 63 - 1) / 8:=by decide
  omega
 have hfit : ¬ (!Builtin.List.listFitsIndex k)=true:=by rw[fitsIndex_both h1 h2];exact xR
 have hlong : ¬ Builtin.List.listTooLong (its.toArray.size * k.toNat)=true:=by rw[yq hlen];exact xR
 have hnew:List.foldl (λx1 x2=>x1++x2) #[] (List.replicate (if its.toArray.isEmpty=true then 0 else k.toNat) its.toArray)=(List.replicate k.toNat its).flatten.toArray:=by
  have f0:∀m:Nat,List.foldl (λx1 x2=>x1++x2) #[] (List.replicate m its.toArray)=(List.replicate m its).flatten.toArray:=λm=>by have:=lG its m [];rw[nu]at this;exact this
  rw[f0];cases its with
  |nil=>simp
  |cons a r'=>rw[if_neg (by simp)]
 refine wpAny_binaryOp_repeat_ref (T:="list") (U:="int") (by decide) ⟨_,e,rfl⟩ (λs'=>n6 s' k t) noFill_list_mul F.fills_int_mul lT repeat_list F.slot_int_index.lookup
  (uR lT (n6 s k t) F.entry_int_rmul (F.args_int_rmul_2 _ _) (int___rmul___int_list k t l its.toArray n)
   ⟨e,rfl,⟨_,e,rfl⟩,uR F.slot_list_mul ⟨_,e,rfl⟩ F.entry_list_mul (F.args_list_mul_2 _ _) (AutoListH.list___mul___list_int_3 l its.toArray n k t hfit hcap hlong) ⟨e,?_⟩⟩);rw[hnew];exact⟨.ref _,_,I.lnew (t':=s.toks) (r.rep k.toNat) (by rw[si,lX];exact hz),rfl,q _ I.fresh⟩
end
end L2
namespace Att
open PySem PySem.W PySem.Calls PyProof.Rows
def oA{P:Params}:∀(ns:List Int)(vs:List Value),WellAll P h vs (ns.map WData.int)->IntsAre vs ns:=by
 intro ns;induction ns with
 |nil=>intro vs w;rw[List.map_nil]at w;cases w;exact .nil
 |cons n ns ih=>
  intro vs w;rw[ub]at w;cases w with
  |cons a b=>cases a;exact .cons _ _ (ih _ b)
def Cb{l:OpenLaw}(hn:l.most=some n){P:Params}{args:List WData}{vals:List Value}(hpre:l.row.toRowW.claim.pre args=true)(hwl:WellAll P h vals args):
  ∃a vs ns,vals=[Value.ref a]/\args=[WData.list (ns.map WData.int)]/\h.get? a=some { cls:=.type "list",data:=.seq vs.toArray }/\IntsAre vs ns/\ns.length<=n:=by
 have hsh:WShape.hasAll [] args [.list .int]=true:=(pre_splitW hpre).1;have hc:l.pre.holds [] { args:=args }=true:=(pre_splitW hpre).2;obtain⟨d,r,rfl,h1,h2⟩:=hasAllW_cons hsh;obtain rfl:=hasAllW_nil h2;obtain⟨xs,rfl,h3⟩:=hasW_list h1;obtain⟨ns,rfl⟩:=items_int h3;have hlen:ns.length<=n:=by
  unfold OpenLaw.pre at hc;have h4:(WTm.not (.lt (.lit (.int (n:Int))) (.len (.arg 0)))).holds [] { args:=[.list (ns.map .int)] }=true:=by have h4:=(holds_andW hc).1;rw[hn]at h4;exact h4
  have h5:=condW_of h4 (w_not (w_lt w_lit (w_len_list (w_arg rfl))));rw[wU]at h5;refine Nat.le_of_not_lt λq=>?_;have q':(n:Int)<((ns.length:Nat):Int):=by omega
  first
   | (rw[vh q']at h5;exact absurd h5 (by decide))
   | (simp at h5;omega)
 cases hwl with
 |cons w1 w2=>
  cases w2;cases w1 with
  |list ho hall=>exact⟨_,_,ns,rfl,rfl,ho,oA ns _ hall,hlen⟩
def AA(l:OpenLaw)(args:List WData):l.row.toRowW.claim.post args (.bool true) args=true:=
 postW_of (r:=l.row.toRowW) (X:=(true==true))
  (show WShape.has [] (.bool true) .bool=true by first|rfl|decide|simp[WShape.has,WShape.arms,WShape.armsAll])
  (show(WTm.eq .res (.lit (.bool true))).value [] { args:=args,res:=some (.bool true),after:=args }=some (.bool (true==true)) from w_eq_bool (w_res rfl) w_lit) rfl
def attach_call{l:OpenLaw}{XP:(Str->Option Value)->Heap->Prop}{YP:World->Heap->Prop}{d:DefRec}(hn:l.most=some n)(hdf:d.params.defaults=[])(call:∀(w:World)(s₀ s₁:Shared)(mg mb:Str->Option Value)(fa:Addr)(o:Obj)(pm cd doc:Value)(a:Addr)(vs:List Value)(ns:List Int),
 Ground q loose [] XP w s₀ mg mb s₁.heap->YP w s₁.heap->
 s₁.heap.get? fa=some o->o.data=.func (docDef d.name d.params d.body d.scope pm cd doc)->s₁.heap.CodeRec cd d.name->mg d.name=some (.ref fa)->
 s₁.heap.get? a=some { cls:=.type "list",data:=.seq vs.toArray }->IntsAre vs ns->ns.length<=n->s₁.gens = #[]->
 codeAny (model l.prog w) callerA (.call (.ref fa) ⟨[.ref a],[]⟩) (λr s'=>r=.ok (.ret (.bool true))/\OldK s₁.heap s'.heap/\s'.os=s₁.os/\AllBare s'.gens) s₁):
  WalkO q loose XP YP l.row.toRowW d [] (λf vs=>PySem.call f vs):=by
 intro w s₀ s₁ mg mb G Y fa o pm cd doc dV kV ho hd hcd hD hmg hg args vals as hpre hlay hrd hwl hlo;obtain rfl:dV=.none:=Dflts.none hD hdf;obtain rfl:kV=.none:=Dflts.noKw hD;obtain⟨a,vs,ns,rfl,rfl,hobj,hints,hlen⟩:=Cb hn hpre hwl;refine enter_call (qc (call w s₀ s₁ mg mb fa o pm cd doc a vs ns G Y ho (fd_plain hd) hcd hmg hobj hints hlen hg) λr s' hq=>?_);obtain⟨rfl,h2,h3,h4⟩:=hq;exact⟨.inl ⟨.bool true,.bool true,[],rfl,λ_=>rfl,.bool true,AA l _,λ_=>⟨List.Pairwise.nil,λ_ hm=>(nomatch hm)⟩⟩,h2,h3,h4⟩
section
variable{prog:Program}{w:World}{A:Around}{K:Frag}
noncomputable def OI(h:Heap)(L d:Addr):List (Addr×Obj):=(List.range h.objs.size).filterMap λa=>if a=L\/a=d then none else (h.get? a).map λo=>(a,o)
end
end Att
namespace L2
open PySem PySem.Spec PyProof.Rows
theorem vX:∀{vs:List Value}{ns:List Int},IntsAre vs ns->Vals (ns.map V.int) vs
 |_,_,.nil=>.nil
 |_,_,.cons n t h=>.cons ⟨t,rfl⟩ (vX h)
noncomputable def Ny(H:Hp):Prop:=∀b,H b=none\/∃o xs,H b=some (.frz o (.lst xs))
def E2{w:World}{K:W.Frag}{mg mb:Str->Option Value}{fa:Addr}{x:Str}{sp:Sp}{s₁:Shared}{vs:List Value}{ns:List Int}(KX:K.In s₁.heap)(hns:s₁.heap.Ns mainGlobals mg)(hb:s₁.heap.Ns builtinsNs mb)(hbb:∀x:Str,x≠"__name__"->mb x=bootBuiltins x)(hlim:s₁.heap.NoLimit)(hg:s₁.gens = #[])(ha:s₁.heap.get? a=some { cls:=.type "list",data:=.seq vs.toArray })(hi:IntsAre vs ns)(hl:ns.length<=sizeLine)(hr:Room k callerA)(F:∀base:Heap,K.In base->base.Ns mainGlobals mg->FnOk P w K mg base CX k fa fd [x] sp)(hbind:∀(s:Shared)(u:Value),BindsTo s fd ⟨[u],[]⟩ [(x,u)])(hsp:∀H:Hp,Ny H->SqL K H a (ns.map V.int)->sp [.ref a] H (λv _=>v=.bl true) λ_ _ _=>False)(hCX:∀H e s',CX [] H s₁ (λ_ _ _=>False) e s'->False):
  codeAny (model P w) callerA (.call (.ref fa) ⟨[.ref a],[]⟩) (λr s'=>r=.ok (.ret (.bool true))/\OldK s₁.heap s'.heap/\s'.os=s₁.os/\AllBare s'.gens) s₁:=by
 have rv:=vX hi;have lenV:=hi.length;have core:∀H:Hp,Ny H->SqL K H a (ns.map V.int)->HOk P w H s₁.heap->(∀b,H b≠none->b=a)->(H a≠none->K.lookup a=none)->
   codeAny (model P w) callerA (.call (.ref fa) ⟨[.ref a],[]⟩) (λr s'=>r=.ok (.ret (.bool true))/\OldK s₁.heap s'.heap/\s'.os=s₁.os/\AllBare s'.gens) s₁:=by
  intro H hO hS hok hA hK;have base_of:∀{b:Addr}{o:Obj},s₁.heap.get? b=some o->H b=none->(CO s₁.heap H).get? b=some o:=λe n=>CW e n;have noA:∀{b:Addr}{o:Obj}{es:Array DictEntry}{ep:Nat},s₁.heap.get? b=some o->o.data=.dict es ep->H b=none:=λ{b o es ep} e d=>by
   cases q:H b with
   |none=>rfl
   |some u=>have e':b=a:=hA b (by rw[q];simp);subst e';rw[ha]at e;cases e;have d':Data.seq vs.toArray _=Data.dict es ep:=d;cases d'
  have nsK:∀{b:Addr}{m:Str->Option Value},s₁.heap.Ns b m->(CO s₁.heap H).Ns b m:=λ{b m} ⟨o,es,ep,e,d,r⟩=>⟨o,es,ep,base_of e (noA e d),d,r⟩
  have hKb:K.In (CO s₁.heap H):=λb o e=>base_of (KX b o e) (by
   cases q:H b with
   |none=>rfl
   |some u=>have e':b=a:=hA b (by rw[q];simp);subst e';rw[hK (by rw[q];simp)]at e;cases e);have hM:Mod K mg (CO s₁.heap H):=⟨hKb,nsK hns,⟨mb,nsK hb,hbb⟩,let⟨mc,h1,h2⟩:=hlim;⟨mc,nsK h1,h2⟩⟩
  have e0:Env0 P w K mg (CO s₁.heap H) callerA [] s₁ H:=⟨rfl,hM,λb o e=>Hx e,Nat.le_of_eq (Br _ _),trivial,λb hb=>absurd (show b∈([]:List Addr) from hb) (by simp),hok,.of_eq hg,B1 _ _⟩
  refine qc ((F _ hKb (nsK hns)).run callerA [] s₁ H ⟨[.ref a],[]⟩ [.ref a] [.ref a] _ _ hr e0 (hbind s₁ (.ref a)) (.cons rfl .nil) (hsp H hO hS)) λr s' h=>?_;cases r with
  |error e=>exact(hCX H e s' h).elim
  |ok fl=>
   cases fl with
   |next=>exact False.elim h
   |brk=>exact False.elim h
   |cont=>exact False.elim h
   |ret u=>
    obtain⟨v,H',os,bare,un,hok',r',q⟩:=h;have q':v=.bl true:=q;subst q';obtain rfl:u=Value.bool true:=r';refine⟨rfl,OldK.of_keep λb o e=>?_,os,bare⟩;cases q:H b with
    |none=>exact un.keep b o e q (by intro z;exact absurd (show b∈([]:List Addr) from z) (by simp)) (by simp)
    |some u=>
     rcases hO b with z|⟨ob,xs,z⟩;·rw[q]at z;cases z
     ·have z2:=un.frzs b ob _ z;obtain⟨e1,_⟩:=hok b _ z;obtain⟨e2,_⟩:=hok' b _ z2;rw[e]at e1;cases e1;exact e2
 cases hk:K.lookup a with
 |some o=>have e:=KX a o hk;rw[ha]at e;cases e;refine core (λ_=>none) (λ_=>.inl rfl) (.inr ⟨_,vs.toArray,_,hk,rfl,rfl,rfl,by rw[x9,lenV];exact hl,by simpa using rv⟩) (λb u z=>by have z':(none:Option HO)=some u:=z;cases z') (λb z=>absurd rfl z) λz=>absurd rfl z
 |none=>
  refine core (λb=>if b=a then some (.frz { cls:=.type "list",data:=.seq vs.toArray } (.lst (ns.map V.int)))else none) (λb=>?_) (.inl (.inr ⟨{ cls:=.type "list",data:=.seq vs.toArray },if_pos rfl⟩)) (λb u z=>?_) (λb z=>?_) λ_=>hk
  ·by_cases hb:b=a;·exact .inr ⟨_,_,if_pos hb⟩
   ·exact .inl (if_neg hb)
  ·by_cases hb:b=a;·have z':=(if_pos hb).symm.trans z;cases z';subst hb;exact⟨ha,by rw[wU];exact hl,vs,_,rv,ha⟩
   ·have z':=(if_neg hb).symm.trans z;cases z'
  ·by_cases hb:b=a;·exact hb
   ·exact absurd (if_neg hb) z
noncomputable abbrev KOf{K:W.Frag}{h:Heap}(_:K.In h):W.Frag:=K
def Ch{l:W.OpenLaw}{XP:(Str->Option Value)->Heap->Prop}{YP:World->Heap->Prop}{d:DefRec}{K:Params->W.Frag}{CX:World->CXT}{sp:World->Sp}{x:Str}(hn:l.most=some n)(hn2:n<=sizeLine)(hdf:d.params.defaults=[])(hr:Room k callerA)(hY:∀(w:World)(h:Heap),YP w h->(K w.params).In h)(F:∀(w:World)(mg:Str->Option Value)(fa:Addr)(h:Heap),(K w.params).In h->h.Ns mainGlobals mg->mg d.name=some (.ref fa)->
 ∃fd:FuncData,(∀(s:Shared)(u:Value),BindsTo s fd ⟨[u],[]⟩ [(x,u)])/\
 ∀base:Heap,(K w.params).In base->base.Ns mainGlobals mg->FnOk l.prog w (K w.params) mg base (CX w) k fa fd [x] (sp w))(hsp:∀(w:World)(H:Hp)(a:Addr)(ns:List Int),ns.length<=n->Ny H->SqL (K w.params) H a (ns.map V.int)->sp w [.ref a] H (λv _=>v=.bl true) λ_ _ _=>False)(hCX:∀(w:World)(H:Hp)(s:Shared)(e:Value)(s':Shared),CX w [] H s (λ_ _ _=>False) e s'->False):
  W.WalkO q loose XP YP l.row.toRowW d [] (λf vs=>PySem.call f vs):=by
 refine Att.attach_call hn hdf λw s₀ s₁ mg mb fa o pm cd doc a vs ns G Y ho hd hcd hmg hobj hints hlen hg=>?_;have KX:=hY w _ Y;obtain⟨fd,hb,hF⟩:=F w mg fa _ KX G.T.g hmg;exact E2 KX G.T.g G.T.b G.T.builtins G.T.nolimit hg hobj hints (xk hlen hn2) hr hF hb (λH hO hS=>hsp w H a ns hlen hO hS) λH e s'=>hCX w H s₁ e s'
end L2
/- THE LAST THEOREM (shape;LID,My.* are yours):
  My.Adr: a structure of the addresses that your layer names (classes,functions);My.Txt K t: a structure (Prop) of the equations over K;
  My.txt_mk:{K} {implicit addresses ..} (e1:nsIn K mainGlobals "law"=some (some (.ref f))) (e2:K.lookup f=some ⟨oc,od,.func (fnOf "law" "law" params body scope dV kV doc pm an cdv ct),sl⟩) (e3:codeIn K cdv "law"=true) .. : ∃ t,My.Txt K t
set_option maxRecDepth 100000 in
set_option maxHeartbeats 0 in
def PySem.Challenge.cw_LID_holds : PySem.Challenge.rw_LID.Holds := by
 w_on;o_law;k_head;(case hw=>w_witness2)
 k_fill
 refine L2.Ch (l:=PySem.Challenge.rw_LID) (n:=63) (k:=40) (x:="script") (CX:=λw=>..) (sp:=λ_=>My.sp_law) rfl (by decide) rfl ⟨rfl,by decide,by decide⟩ (λw h Y=>PySem.W.kIn_of Y) ?F ?S ?C
 case F=>
  intro w mg fa h KX G hmg;have T:∃t,My.Txt (L2.KOf KX) t:=by
   dsimp only[L2.KOf]
   refine' My.txt_mk ?e1 ?e2 ?e3 ..
   (case e1=>PySem.W.k_is)
   (case e2=>PySem.W.k_is)
   ..
  obtain⟨t,T⟩:=T;have e0:=hmg.symm.trans (xH KX G T.law);cases e0;exact⟨_,λs u=>.of_eq rfl,λbase kb nb=>My.law_fn T kb nb⟩
 case S=>exact λw H a ns hl hO hS=>..
 case C=>exact ..
(the tactic k_is has no namespace: write k_is) -/
namespace L2
open PySem PySem.Spec PyProof.Rows
noncomputable def jU(s:Stmt)(j:Nat):Stmt:=match s with
 |.ClassDef _ _ _ body _ _ _ _ _ _ _=>body.getD j (.Pass ⟨0,0,0,0⟩)
 |_=>.Pass ⟨0,0,0,0⟩
noncomputable def iw(s:Stmt):Arguments:=match s with
 |.FunctionDef _ a _ _ _ _ _ _ _ _=>a
 |_=>{ posonlyargs:=[],args:=[],vararg:=none,kwonlyargs:=[],kw_defaults:=[],kwarg:=none,defaults:=[] }
noncomputable def cz(s:Stmt):List Stmt:=match s with
 |.FunctionDef _ _ b _ _ _ _ _ _ _=>b
 |_=>[]
noncomputable def ar(s:Stmt):Scope:=match s with
 |.FunctionDef _ _ _ _ _ _ sc _ _ _=>sc
 |_=>{ kind:=.function,names:=[],isGenerator:=false,isCoroutine:=false }
structure Fun(K:PySem.W.Frag)(x qual:Str)(st:Stmt)(f:Addr)(fd:FuncData):Prop where
 ex:∃(oc:Value)(od:Option Addr)(kV doc pm:Value)(an:Option Addr)(cdv ct:Value)(osl:Array (Option Value)),
  fd=PySem.W.fnOf x qual (iw st) (cz st) (ar st) .none kV doc pm an cdv ct/\K.lookup f=some ⟨oc,od,.func fd,osl⟩/\PySem.W.codeIn K cdv qual=true
 kp:PySem.W.keepIn K (.ref f)=true
section
variable{w:World}{K:PySem.W.Frag}{mg:Str->Option Value}{base:Heap}
def Fun.binds{x:Str}(F:Fun K x qual st f fd)(h:∀(kV doc pm:Value)(an:Option Addr)(cdv ct:Value)(us:List Value),us.length=ps.length->bindArgs (PySem.W.fnOf x qual (iw st) (cz st) (ar st) .none kV doc pm an cdv ct) ⟨us,[]⟩=pure (ps.zip us)):Binds K fd ps []:=by
 obtain⟨oc,od,kV,doc,pm,an,cdv,ct,osl,rfl,lk,hcd⟩:=F.ex;exact .all (h kV doc pm an cdv ct)
def BK{x:Str}{kV doc pm ct:Value}(l:K.lookup f=some ⟨oc,od,.func (PySem.W.fnOf x qual (iw st) (cz st) (ar st) .none kV doc pm an cdv ct),osl⟩)(c:PySem.W.codeIn K cdv qual=true)(k:PySem.W.keepIn K (.ref f)=true):Fun K x qual st f (PySem.W.fnOf x qual (iw st) (cz st) (ar st) .none kV doc pm an cdv ct):=⟨⟨oc,od,kV,doc,pm,an,cdv,ct,osl,rfl,l,c⟩,k⟩
end
noncomputable def Same(H H':Hp):Prop:=∀b o,H b=some o->H' b=some o
def Same.refl(H:Hp):Same H H:=λ_ _ h=>h
def Same.trans{H1 H2:Hp}(a:Same H H1)(b:Same H1 H2):Same H H2:=λc o h=>b c o (a c o h)
def Same.free(e:Same H H')(h:H' l=Option.none):H l=Option.none:=by
 cases q:H l with
 |none=>rfl
 |some o=>rw[e l o q]at h;cases h
def Same.seq{K:PySem.W.Frag}(e:Same H H')(h:SqL K H a xs):SqL K H' a xs:=by
 rcases h with (h|⟨o,h⟩)|h;·exact .inl (.inl (e _ _ h))
 ·exact .inl (.inr ⟨o,e _ _ h⟩)
 ·exact .inr h
end L2
namespace L2
open PySem PySem.Spec PyProof.Rows
open PySem.MeetsSeq PySem.MeetsSeq2 PySem.MeetsSeq3
noncomputable abbrev DX:=List (List Bool×Addr×V)
noncomputable abbrev DU:=List (List Bool×Addr×Value)
noncomputable def KC(bs:List Bool):Int:=reduceHash (Builtin.Tuple.tupleHashOf (bs.map λk=>if k then 1 else 0))
noncomputable abbrev Qn:DX->DU->Prop:=Paired λp q=>p.1=q.1/\p.2.1=q.2.1/\RelV p.2.2 q.2.2
noncomputable def N0(a:Addr)(o:Obj)(xs:DX):Heap->Prop:=λh=>h.get? a=some o/\xs.length<=sizeLine/\(a==sysModules)=false/\o.ExactDict/\∃us:DU,Qn xs us/\
 ∃es ep,o.data=.dict es ep/\es.toList=us.map (λx=>⟨KC x.1,.ref x.2.1,x.2.2⟩)/\(us.map (·.1)).Nodup
noncomputable def OT(a:Addr)(o:Obj)(xs:DX):HO:=.ext (N0 a o xs)
end L2
set_option maxRecDepth 100000
set_option maxHeartbeats 0
namespace L2
open PySem PySem.Spec PyProof.Rows
inductive D where
  |non|bl (b : Bool)|int (i : Int)|str (x : List Nat)|tup (xs : List D)|lst (fz : Bool) (xs : List D)|exc (C : Addr)
  |dct (ks : List Nat) (xs : List D)
noncomputable def code(a b:Bool):Nat:=(if a then 1 else 0)+(if b then 2 else 0)
inductive KeysAt(K:PySem.W.Frag)(G:Hp):DX->List Nat->Prop
 |nil:KeysAt K G [] []
 |cons {q:Addr} {v:V} {a b:Bool} {xs:DX} {ks:List Nat} (h:SqT K G q [.bl a,.bl b]) (t:KeysAt K G xs ks):KeysAt K G (([a,b],q,v)::xs) (code a b::ks)
noncomputable def kj(a C:Addr):Heap->Prop:=λh=>∃ob,h.get? a=some ob/\ob.cls=.ref C
mutual
inductive Rep(K:PySem.W.Frag)(G:Hp):V->D->Prop
 |non:Rep K G .non .non
 |bl (b:Bool):Rep K G (.bl b) (.bl b)
 |int (i:Int):Rep K G (.int i) (.int i)
 |str (x:Str) (h:x.length<=sizeLine):Rep K G (.str x) (.str x.cps.toList)
 |tup {a:Addr} {vs:List V} {ds:List D} (h:SqT K G a vs) (r:Reps K G vs ds):Rep K G (.ref a) (.tup ds)
 |lst {a:Addr} {vs:List V} {ds:List D} (h:G a=some (.lst vs)) (r:Reps K G vs ds):Rep K G (.ref a) (.lst false ds)
 |fls {a:Addr} {vs:List V} {ds:List D} (h:SqL K G a vs) (r:Reps K G vs ds):Rep K G (.ref a) (.lst true ds)
 |exc {a C:Addr} (h:G a=some (.ext (kj a C))):Rep K G (.ref a) (.exc C)
 |dct {a:Addr} {o:Obj} {xs:DX} {ks:List Nat} {ds:List D} (h:G a=some (OT a o xs)) (k:KeysAt K G xs ks) (r:Reps K G (xs.map (·.2.2)) ds):Rep K G (.ref a) (.dct ks ds)
inductive Reps(K:PySem.W.Frag)(G:Hp):List V->List D->Prop
 |nil:Reps K G [] []
 |cons {v:V} {d:D} {vs:List V} {ds:List D} (r:Rep K G v d) (t:Reps K G vs ds):Reps K G (v::vs) (d::ds)
end
section
variable{K:PySem.W.Frag}{G' G1 H1 G2 H2:Hp}
def SqT.mono(e:Same G G')(h:SqT K G a xs):SqT K G' a xs:=by
 rcases h with (h|⟨o,h⟩)|h;·exact .inl (.inl (e _ _ h))
 ·exact .inl (.inr ⟨o,e _ _ h⟩)
 ·exact .inr h
def KeysAt.mono(e:Same G G'):∀{xs:DX}{ks:List Nat},KeysAt K G xs ks->KeysAt K G' xs ks
 |_,_,.nil=>.nil
 |_,_,.cons h t=>.cons (h.mono e) (t.mono e)
def SqL.mono(e:Same G G')(h:SqL K G a xs):SqL K G' a xs:=e.seq h
mutual
theorem Rep.mono(e:Same G G'):∀{v:V}{d:D},Rep K G v d->Rep K G' v d
 |_,_,.non=>.non
 |_,_,.bl b=>.bl b
 |_,_,.int i=>.int i
 |_,_,.str x h=>.str x h
 |_,_,.tup h r=>.tup (h.mono e) (Reps.mono e r)
 |_,_,.lst h r=>.lst (e _ _ h) (Reps.mono e r)
 |_,_,.fls h r=>.fls (h.mono e) (Reps.mono e r)
 |_,_,.exc h=>.exc (e _ _ h)
 |_,_,.dct h k r=>.dct (e _ _ h) (k.mono e) (Reps.mono e r)
theorem Reps.mono(e:Same G G'):∀{vs:List V}{ds:List D},Reps K G vs ds->Reps K G' vs ds
 |_,_,.nil=>.nil
 |_,_,.cons r t=>.cons (Rep.mono e r) (Reps.mono e t)
end
section inv
def Rep.int_inv{i:Int}(r:Rep K G v (.int i)):v=.int i:=by cases r;rfl
def Rep.bl_inv{b:Bool}(r:Rep K G v (.bl b)):v=.bl b:=by cases r;rfl
def Rep.non_inv(r:Rep K G v .non):v=.non:=by cases r;rfl
def Rep.str_inv{x:List Nat}(r:Rep K G v (.str x)):∃y:Str,v=.str y/\y.cps.toList=x/\y.length<=sizeLine:=by
 generalize e:D.str x=d at r;cases r with
 |str y h=>cases e;exact⟨y,rfl,rfl,h⟩
 |_=>cases e
def Rep.tup_inv{ds:List D}(r:Rep K G v (.tup ds)):∃a vs,v=.ref a/\SqT K G a vs/\Reps K G vs ds:=by
 cases r with
 |tup h t=>exact⟨_,_,rfl,h,t⟩
def Rep.lst_inv{ds:List D}(r:Rep K G v (.lst false ds)):∃a vs,v=.ref a/\G a=some (.lst vs)/\Reps K G vs ds:=by
 cases r with
 |lst h t=>exact⟨_,_,rfl,h,t⟩
def Rep.seq_inv{f:Bool}{ds:List D}(r:Rep K G v (.lst f ds)):∃a vs,v=.ref a/\SqL K G a vs/\Reps K G vs ds:=by
 cases r with
 |lst h t=>exact⟨_,_,rfl,.of h,t⟩
 |fls h t=>exact⟨_,_,rfl,h,t⟩
def Rep.exc_inv(r:Rep K G v (.exc C)):∃a,v=.ref a/\G a=some (.ext (kj a C)):=by
 cases r with
 |exc h=>exact⟨_,rfl,h⟩
def Rep.strL{x:List Nat}(e:y.cps.toList=x)(h:x.length<=sizeLine):Rep K G (.str y) (.str x):=by subst e;exact .str y (by simpa[Str.length]using h)
end inv
theorem Reps.length:∀{vs:List V}{ds:List D},Reps K G vs ds->vs.length=ds.length
 |_,_,.nil=>rfl
 |_,_,.cons _ t=>by simp[Reps.length t]
theorem Reps.get:∀{vs:List V}{ds:List D}{i:Nat}{d:D},Reps K G vs ds->ds[i]?=some d->∃v,vs[i]?=some v/\Rep K G v d
 |_,_,_,_,.nil,e=>by simp at e
 |_,_,0,_,.cons r _,e=>by simp at e;subst e;exact⟨_,rfl,r⟩
 |_,_,i+1,d,.cons _ t,e=>by obtain⟨v,h1,h2⟩:=Reps.get (i:=i) (d:=d) t (by simpa using e);exact⟨v,by simpa using h1,h2⟩
theorem Reps.append:∀{vs ws:List V}{ds es:List D},Reps K G vs ds->Reps K G ws es->Reps K G (vs++ws) (ds++es)
 |_,_,_,_,.nil,s=>s
 |_,_,_,_,.cons r t,s=>.cons r (Reps.append t s)
theorem Reps.take:∀{vs:List V}{ds:List D}(n:Nat),Reps K G vs ds->Reps K G (vs.take n) (ds.take n)
 |_,_,0,_=>by simpa using Reps.nil
 |_,_,_+1,.nil=>.nil
 |_,_,n+1,.cons r t=>.cons r (Reps.take n t)
theorem Reps.drop:∀{vs:List V}{ds:List D}(n:Nat),Reps K G vs ds->Reps K G (vs.drop n) (ds.drop n)
 |_,_,0,r=>r
 |_,_,_+1,.nil=>.nil
 |_,_,n+1,.cons _ t=>Reps.drop n t
theorem Reps.set{d:D}(r:Rep K G v d):∀{vs:List V}{ds:List D}(i:Nat),Reps K G vs ds->Reps K G (vs.set i v) (ds.set i d)
 |_,_,_,.nil=>.nil
 |_,_,0,.cons _ t=>.cons r t
 |_,_,i+1,.cons q t=>.cons q (Reps.set r i t)
theorem Reps.rep{ds:List D}(r:Reps K G vs ds):∀n:Nat,Reps K G (List.replicate n vs).flatten (List.replicate n ds).flatten
 | 0=>.nil
 |n+1=>by simp only[sM,qE];exact Reps.append r (Reps.rep r n)
structure Up(G H G' H':Hp):Prop where
 sub:Same G' H'
 gg:Same G G'
 hh:Same H H'
 fr:∀a o,G' a=some o->G a=some o\/H a=none
def Up.refl(s:Same G H):Up G H G H:=⟨s,.refl _,.refl _,λ_ _ h=>.inl h⟩
def Up.trans(a:Up G H G1 H1)(b:Up G1 H1 G2 H2):Up G H G2 H2:=⟨b.sub,a.gg.trans b.gg,a.hh.trans b.hh,λc o h=>by
 rcases b.fr c o h with h|h;·exact a.fr c o h
 ·exact .inr (a.hh.free h)⟩
def Same.both{p:Addr}{o:HO}(s:Same G H):Same (upd G p o) (upd H p o):=λa u h=>by
 unfold L2.upd at h⊢;split;·rename_i e;rw[if_pos e]at h;exact h
 ·rename_i e;rw[if_neg e]at h;exact s a u h
def Same.into{p:Addr}{o:HO}(h:H p=none):Same H (upd H p o):=λa u e=>by rw[aE (aJ e h)];exact e
def Up.new{p:Addr}{o:HO}(s:Same G H)(hp:H p=none):Up G H (upd G p o) (upd H p o):=
 ⟨s.both,.into (s.free hp),.into hp,λa u h=>by
  by_cases e:a=p;·subst e;exact .inr hp
  ·rw[aE e]at h;exact .inl h⟩
end
inductive R(α:Type) where
 |ok (a:α)|ex (C:Addr)|no
noncomputable def R.bind{α β:Type}:R α->(α->R β)->R β
 |.ok a,f=>f a
 |.ex C,_=>.ex C
 |.no,_=>.no
noncomputable instance:Monad R where
 pure:=.ok
 bind:=R.bind
section
variable{α β:Type}
@[simp] theorem R.ok_bind(a:α)(f:α->R β):(R.ok a>>=f)=f a:=rfl
@[simp] theorem R.ex_bind(C:Addr)(f:α->R β):((R.ex C:R α)>>=f)=.ex C:=rfl
noncomputable def R.post(m:R α)(P:α->Prop)(E:Addr->Prop):Prop:=match m with
 |.ok a=>P a
 |.ex C=>E C
 |.no=>False
def R.post.mono{m:R α}{P P':α->Prop}{E E':Addr->Prop}(h:m.post P E)(hp:∀a,P a->P' a)(he:∀C,E C->E' C):m.post P' E':=by
 cases m with
 |ok a=>exact hp a h
 |ex C=>exact he C h
 |no=>exact h
noncomputable def ofO:Option α->R α
 |some a=>.ok a
 |none=>.no
@[simp] theorem jY(a:α):ofO (some a)=R.ok a:=rfl
theorem ofO.ok{o:Option α}{P:α->Prop}{E:Addr->Prop}(h:(ofO o).post P E):∃a,o=some a/\P a:=by
 cases o with
 |none=>exact h.elim
 |some a=>exact⟨a,rfl,h⟩
end
inductive Fd where
  |val (d : D)|own (ds : List D)
  |dic (kds : List (Int × D))
inductive Sl where
  |val (d : D)
  |own (ds : List D)
  |obj (m : Bool) (C p : Addr) (fs : List (Nat × Fd))
noncomputable abbrev Ev:=List (Option Sl)
noncomputable def rdV(ρ:Ev)(i:Nat):R D:=match ρ[i]? with
 |some (some (.val d))=>.ok d
 |_=>.no
noncomputable abbrev rvz(i:Nat):Ev->R D:=λρ=>rdV ρ i
noncomputable abbrev ciz(n:Int):Ev->R D:=λ_=>R.ok (D.int n)
noncomputable abbrev nlz:Ev->R (List D):=λ_=>R.ok []
noncomputable abbrev csz(x:List Nat):Ev->R D:=λ_=>R.ok (D.str x)
noncomputable def fnames:List Str:=["states","taken_back","width","screen","last_notes","tasks","numbers_given"]
noncomputable def eB(k:Nat):Str:=fnames.getD k ""
noncomputable abbrev kK:=Addr->Option (Nat×Nat)
noncomputable def FdAt(K:PySem.W.Frag)(H₀ G H:Hp)(ow:kK)(i:Nat)(m:Bool)(k:Nat):Fd->V->Prop
 |.val d,v=>Rep K G v d
 |.own ds,v=>∃l ws,v=.ref l/\H l=some (.lst ws)/\G l=none/\(m=true->H₀ l=none)/\Reps K G ws ds/\ow l=some (i,k+1)
 |.dic kds,v=>∃l ws,v=.ref l/\H l=some (.dK ((kds.map λx=>(Sum.inl x.1:Key)).zip ws))/\G l=none/\(m=true->H₀ l=none)/\Reps K G ws (kds.map (·.2))/\ow l=some (i,k+1)
inductive FdsAt(K:PySem.W.Frag)(H₀ G H:Hp)(ow:kK)(i:Nat)(m:Bool):List (Nat×Fd)->List (Str×V)->Prop
 |nil:FdsAt K H₀ G H ow i m [] []
 |cons {k:Nat} {fd:Fd} {v:V} {fs:List (Nat×Fd)} {vs:List (Str×V)} (h:k<fnames.length) (nk:fs.lookup k=none) (r:FdAt K H₀ G H ow i m k fd v) (t:FdsAt K H₀ G H ow i m fs vs):FdsAt K H₀ G H ow i m ((k,fd)::fs) ((eB k,v)::vs)
noncomputable def InsAt(K:PySem.W.Frag)(H₀ G H:Hp)(ow:kK)(i:Nat)(m:Bool)(C p:Addr)(fs:List (Nat×Fd)):Prop:=
 ∃dx vs,H p=some (.ins C dx vs)/\H dx=some (.own p)/\G p=none/\G dx=none/\(m=true->H₀ p=none/\H₀ dx=none)/\ow p=some (i,0)/\ow dx=some (i,0)/\FdsAt K H₀ G H ow i m fs vs
noncomputable def DcoAt(K:PySem.W.Frag)(H₀ G H:Hp)(ow:kK)(i:Nat)(m:Bool)(p:Addr)(fs:List (Nat×Fd)):Prop:=
 ∃o xs ks ds,H p=some (OT p o xs)/\G p=none/\(m=true->H₀ p=none)/\ow p=some (i,0)/\KeysAt K G xs ks/\Reps K G (xs.map (·.2.2)) ds/\fs=ks.zip (ds.map Fd.val)
abbrev DC:Addr:=0
noncomputable def ObjAt(K:PySem.W.Frag)(H₀ G H:Hp)(ow:kK)(i:Nat)(m:Bool)(C p:Addr)(fs:List (Nat×Fd)):Prop:=(C≠DC/\InsAt K H₀ G H ow i m C p fs)\/(C=DC/\DcoAt K H₀ G H ow i m p fs)
section
variable{K:PySem.W.Frag}{H₀:Hp}{ow:kK}{p:Addr}{fs:List (Nat×Fd)}
def ObjAt.ins(h:ObjAt K H₀ G H ow i m C p fs)(ne:C≠DC):InsAt K H₀ G H ow i m C p fs:=(h.resolve_right λz=>ne z.1).2
def ObjAt.insH{C' dx:Addr}{vs:List (Str×V)}(h:ObjAt K H₀ G H ow i m C p fs)(e:H p=some (.ins C' dx vs)):C≠DC/\InsAt K H₀ G H ow i m C p fs:=h.resolve_right λ⟨_,o,xs,ks,ds,z,_⟩=>by rw[z]at e;cases e
end
section
variable{K:PySem.W.Frag}{H₀ H₀' G':Hp}{ow ow':kK}
structure ObKeep(H₀ H₀' G H G' H':Hp)(ow ow':kK)(i:Nat):Prop where
 hh:∀a t o,ow a=some (i,t)->H a=some o->H' a=some o
 gg:Same G G'
 gn:∀a t o,ow a=some (i,t)->H a=some o->G a=none->G' a=none
 oo:∀a t o,ow a=some (i,t)->H a=some o->ow' a=some (i,t)
 h0:∀a o,H a=some o->G a=none->H₀ a=none->H₀' a=none
def FdAt.keep(k:ObKeep H₀ H₀' G H G' H' ow ow' i):∀{fd:Fd}{v:V},FdAt K H₀ G H ow i m n fd v->FdAt K H₀' G' H' ow' i m n fd v
 |.val d,v,r=>Rep.mono k.gg (show Rep K G v d from r)
 |.own ds,v,⟨l,ws,e,h1,h2,h3,h4,h5⟩=>⟨l,ws,e,k.hh l _ _ h5 h1,k.gn l _ _ h5 h1 h2,λz=>k.h0 l _ h1 h2 (h3 z),h4.mono k.gg,k.oo l _ _ h5 h1⟩
 |.dic _,v,⟨l,ws,e,h1,h2,h3,h4,h5⟩=>⟨l,ws,e,k.hh l _ _ h5 h1,k.gn l _ _ h5 h1 h2,λz=>k.h0 l _ h1 h2 (h3 z),h4.mono k.gg,k.oo l _ _ h5 h1⟩
theorem FdsAt.keep(k:ObKeep H₀ H₀' G H G' H' ow ow' i):∀{fs:List (Nat×Fd)}{vs:List (Str×V)},FdsAt K H₀ G H ow i m fs vs->FdsAt K H₀' G' H' ow' i m fs vs
 |_,_,.nil=>.nil
 |_,_,.cons h nk r t=>.cons h nk (FdAt.keep k r) (FdsAt.keep k t)
def InsAt.keep(k:ObKeep H₀ H₀' G H G' H' ow ow' i){p:Addr}{fs:List (Nat×Fd)}(h:InsAt K H₀ G H ow i m C p fs):InsAt K H₀' G' H' ow' i m C p fs:=by obtain⟨dx,vs,h1,h2,h3,h4,h5,h6,h7,h8⟩:=h;exact⟨dx,vs,k.hh p _ _ h6 h1,k.hh dx _ _ h7 h2,k.gn p _ _ h6 h1 h3,k.gn dx _ _ h7 h2 h4,λz=>⟨k.h0 p _ h1 h3 (h5 z).1,k.h0 dx _ h2 h4 (h5 z).2⟩,k.oo p _ _ h6 h1,k.oo dx _ _ h7 h2,h8.keep k⟩
def DcoAt.keep(k:ObKeep H₀ H₀' G H G' H' ow ow' i){p:Addr}{fs:List (Nat×Fd)}(h:DcoAt K H₀ G H ow i m p fs):DcoAt K H₀' G' H' ow' i m p fs:=
 let⟨o,xs,ks,ds,h1,h2,h3,h4,h5,h6,h7⟩:=h
 ⟨o,xs,ks,ds,k.hh p _ _ h4 h1,k.gn p _ _ h4 h1 h2,λz=>k.h0 p _ h1 h2 (h3 z),k.oo p _ _ h4 h1,h5.mono k.gg,h6.mono k.gg,h7⟩
def ObjAt.keep(k:ObKeep H₀ H₀' G H G' H' ow ow' i){p:Addr}{fs:List (Nat×Fd)}(h:ObjAt K H₀ G H ow i m C p fs):ObjAt K H₀' G' H' ow' i m C p fs:=h.imp (λz=>⟨z.1,z.2.keep k⟩) λz=>⟨z.1,z.2.keep k⟩
def ObKeep.up(u:Up G H G' H'):ObKeep H₀ H₀ G H G' H' ow ow i:=by
 have gn:∀a o,H a=some o->G a=none->G' a=none:=λa o e n=>by
  cases q:G' a with
  |none=>rfl
  |some o'=>
   rcases u.fr a o' q with z|z;·rw[n]at z;cases z
   ·rw[e]at z;cases z
 exact⟨λa t o _ e=>u.hh a o e,u.gg,λa t o _ e n=>gn a o e n,λa t o e _=>e,λa o _ _ n=>n⟩
end
def ObjAt.rd{K:PySem.W.Frag}{H₀:Hp}{ow:kK}{p:Addr}{fs:List (Nat×Fd)}(h:ObjAt K H₀ G H ow i m C p fs):ObjAt K (λ_=>none) G H ow i m C p fs:=
 h.keep ⟨λ_ _ _ _ e=>e,.refl _,λ_ _ _ _ _ n=>n,λ_ _ _ e _=>e,λ_ _ _ _ _=>rfl⟩
structure StE(K:PySem.W.Frag)(G H:Hp)(σ:St)(ρ:Ev):Prop where
 sub:Same G H
 len:σ.length=ρ.length
 val:∀(i:Nat) d,ρ[i]?=some (some (.val d))->∃v,σ[i]?=some (some v)/\Rep K G v d
 obs:∀(i:Nat) m C p fs,ρ[i]?=some (some (.obj m C p fs))->σ[i]?=some (some (.ref p))/\∃ow,ObjAt K (λ_=>none) G H ow i m C p fs
def StE.up{K:PySem.W.Frag}{G':Hp}{ρ:Ev}(s:StE K G H σ ρ)(u:Up G H G' H'):StE K G' H' σ ρ:=
 ⟨u.sub,s.len,λi d e=>let⟨v,h1,h2⟩:=s.val i d e;⟨v,h1,h2.mono u.gg⟩,λi m C p fs e=>let⟨h1,ow,h2⟩:=s.obs i m C p fs e;⟨h1,ow,h2.keep (.up u)⟩⟩
noncomputable def Ec(P:Program)(w:World)(outer:List Env)(H:Hp)(s:Shared)(a C:Addr)(H':Hp)(s':Shared):Prop:=
 s'.os=s.os/\AllBare s'.gens/\Un (frs outer) [] H H' s.heap s'.heap/\HOk P w H' s'.heap/\H' a=none/\
 ∃(B:Heap)(a0:Value),Heap.FlyingW B outer a (.ref C) a0 s'.heap/\∀b o,b∉frs outer->((∃o0,s.heap.get? b=some o0)\/∃u,H' b=some u)->s'.heap.get? b=some o->B.get? b=some o
noncomputable def CXo(P:Program)(w:World):CXT:=λouter H s E e s'=>∃a C H',e=.ref a/\Ec P w outer H s a C H' s'/\E (.ref C) none H'
noncomputable def Mc(X:Cx)(pins:List (Addr×Obj))(b:Addr):Prop:=
 (b∈X.ex\/X.s₀.heap.objs.size<=b)/\b≠X.env.locals/\(∀x c,X.env.cells.lookup x=some c->c≠b)/\∀p∈X.pn++pins,p.1≠b
noncomputable def Bf(X:Cx)(pins:List (Addr×Obj))(L:Addr)(H:Hp)(s:Shared)(a C:Addr)(H':Hp)(s':Shared):Prop:=
 s'.os=s.os/\AllBare s'.gens/\(∃ch,(∀b∈ch,Mc X pins b)/\Un (frs X.stack) ch H H' s.heap s'.heap)/\HOk X.prog X.w H' s'.heap/\H' a=none/\s.heap.get? a=none/\
 ∃(B:Heap)(a0:Value),Heap.HeldW B X.stack a (.ref C) a0 L s'.heap/\∀b o,b∉frs X.stack->((∃o0,s.heap.get? b=some o0)\/∃u,H' b=some u)->s'.heap.get? b=some o->B.get? b=some o
noncomputable def OM(X:Cx)(σ:St)(G₁ H₁:Hp)(C:Addr)(e:Value)(s':Shared):Prop:=
 ∃pins s₁ a,e=.ref a/\Inv X pins σ H₁ s₁/\
  ((∃h' vs,Heap.MadeExcOf s₁.heap h' a (.ref C) vs/\s'={ s₁ with heap:=h' })\/(∃G' H',Ec X.prog X.w X.stack H₁ s₁ a C H' s'/\Up G₁ H₁ G' H')\/∃G' H' L,X.env.frame=some L/\Bf X pins L H₁ s₁ a C H' s'/\Up G₁ H₁ G' H')
noncomputable def Fly(X:Cx)(σ:St)(G H:Hp)(C:Addr)(e:Value)(s':Shared):Prop:=∃G₁ H₁,Up G H G₁ H₁/\OM X σ G₁ H₁ C e s'
def Fly.up{G1 H1:Hp}{e:Value}(u:Up G H G1 H1)(f:Fly X σ G1 H1 C e s'):Fly X σ G H C e s':=
 let⟨G2,H2,v,q⟩:=f;⟨G2,H2,u.trans v,q⟩
section
variable{α β:Type}
noncomputable def Fin(G H:Hp)(rep:Hp->β->α->Prop)(Q:β->Hp->Prop):α->Prop:=λd=>∀v G' H',Up G H G' H'->rep G' v d->Q v H'
noncomputable def Exx(X:Cx)(σ:St)(G H:Hp):Addr->Prop:=λC=>∀e s',Fly X σ G H C e s'->X.xe e s'
def Fin.up{G1 H1:Hp}{rep:Hp->β->α->Prop}{Q:β->Hp->Prop}{d:α}(u:Up G H G1 H1)(h:Fin G H rep Q d):Fin G1 H1 rep Q d:=λv G' H' u' r=>h v G' H' (u.trans u') r
def Exx.up{G1 H1:Hp}(u:Up G H G1 H1)(h:Exx X σ G H C):Exx X σ G1 H1 C:=λe s' f=>h e s' (f.up u)
def lW{G1 H1:Hp}{rep:Hp->β->α->Prop}{Q:β->Hp->Prop}{m:R α}(u:Up G H G1 H1)(h:m.post (Fin G H rep Q) (Exx X σ G H)):m.post (Fin G1 H1 rep Q) (Exx X σ G1 H1):=
 h.mono (λ_=>Fin.up u) λ_=>Exx.up u
noncomputable def tG(X:Cx)(rep:Hp->β->α->Prop)(g:Ev->R α):St->Hp->(β->Hp->Prop)->Prop:=λσ H Q=>∃G ρ,StE X.K G H σ ρ/\(g ρ).post (Fin G H rep Q) (Exx X σ G H)
def tG.intro{γ δ:Type}{ρ:Ev}{rep:Hp->β->α->Prop}{rep':Hp->δ->γ->Prop}{g:Ev->R α}{k:α->R γ}{Q:β->Hp->Prop}{Q':δ->Hp->Prop}(st:StE X.K G H σ ρ)(h:(g ρ>>=k).post (Fin G H rep' Q') (Exx X σ G H))(hk:∀a,∀v G1 H1,Up G H G1 H1->StE X.K G1 H1 σ ρ->rep G1 v a->(k a).post (Fin G1 H1 rep' Q') (Exx X σ G1 H1)->Q v H1):tG X rep g σ H Q:=by
 refine⟨G,ρ,st,?_⟩;cases e:g ρ with
 |ok a=>rw[e]at h;exact λv G' H' u r=>hk a v G' H' u (st.up u) r (lW u h)
 |ex C=>rw[e]at h;exact h
 |no=>rw[e]at h;exact h
def tG.last{ρ:Ev}{rep:Hp->β->α->Prop}{g:Ev->R α}{Q:β->Hp->Prop}(st:StE X.K G H σ ρ)(h:(g ρ).post (Fin G H rep Q) (Exx X σ G H)):tG X rep g σ H Q:=⟨G,ρ,st,h⟩
end
noncomputable abbrev tF(X:Cx)(g:Ev->R D):TE:=tG X (Rep X.K) g
noncomputable abbrev tTF(X:Cx)(g:Ev->R Bool):TT:=tG X (λ_ b c=>b=c) g
noncomputable abbrev tAF(X:Cx)(g:Ev->R (List D)):TA:=tG X (Reps X.K) g
noncomputable def PF(X:Cx)(e:Expr)(g:Ev->R D):Prop:=PE X e (tF X g)
noncomputable def PB(X:Cx)(e:Expr)(g:Ev->R Bool):Prop:=PT X e (tTF X g)
noncomputable def PBW(X:Cx)(e:Expr)(g:Ev->R Bool):Prop:=PW X e (tTF X g)
noncomputable def PFA(X:Cx)(es:List Expr)(g:Ev->R (List D)):Prop:=PA X es (tAF X g)
end L2
variable{ds items:List L2.D}{d:L2.D}{ow:L2.kK}{ρ:L2.Ev}{gb ge gk:L2.Ev->L2.R L2.D}{gl gi:L2.Ev->L2.R (List L2.D)}{asg:L2.D->L2.Ev->L2.R L2.Ev}{gs:List (L2.Ev->L2.R L2.D)}{F ad ak aI bq ay ba aQ nz dz bA ci aK dF bG aM bO cj bM aR av bf:List L2.D->L2.R L2.D}{kds:List (Int×L2.D)}
namespace L2
open PySem PySem.Spec PyProof.Rows
def rdV.ok{P:D->Prop}{E:Addr->Prop}(h:(rdV ρ i).post P E):∃d,ρ[i]?=some (some (.val d))/\P d:=by
 unfold rdV at h;split at h;·rename_i d e;exact⟨d,e,h⟩
 ·exact h.elim
section
variable{e a b c:Expr}{ga gc:Ev->R D}{pos:Pos}
def vS(i:Nat){x:Str}(hN:X.N[i]?=some x:=by rfl)(hv:Vis X.env.scope x:=by first|exact Or.inl rfl|exact Or.inr (Or.inl rfl)|exact Or.inr (Or.inr rfl))(hd:(x==("__debug__":Str))=false:=by decide)(hcd:(x==("__classdict__":Str))=false:=by decide):PF X (.Name x pos) (λρ=>rdV ρ i):=by
 intro pins s σ H Q I h;obtain⟨G,ρ,st,h⟩:=h;refine iK hN hv hd hcd pins s σ H Q I ?_;obtain⟨d,e,q⟩:=rdV.ok h;obtain⟨v,e',r⟩:=st.val i d e;exact⟨v,e',q v G H (.refl st.sub) r⟩
def jX(h:PE X e (tC v))(hr:∀K G,Rep K G v d):PF X e (λ_=>.ok d):=by intro pins s σ H Q I q;obtain⟨G,ρ,st,q⟩:=q;exact h pins s σ H Q I (q v G H (.refl st.sub) (hr _ _))
def aj{i:Int}:PF X (.Constant (.int i) j pos) (λ_=>.ok (.int i)):=jX Km λ_ _=>.int i
def ff{k:Bool}:PF X (.Constant (.bool k) j pos) (λ_=>.ok (.bl k)):=jX Oh λ_ _=>.bl k
def bQ:PF X (.Constant .none j pos) (λ_=>.ok .non):=jX J2 λ_ _=>.non
def az{x:Str}{l:List Nat}(hl:x.cps.toList=l:=by rfl)(hz:l.length<=1000:=by decide):PF X (.Constant (.str x) j pos) (λ_=>.ok (.str l)):=
 jX JR λ_ _=>.strL hl (xk hz (by decide))
def aZ{x:Str}{i:Int}{t:Tok}(hg:Gl X x)(hm:X.mg x=some (.int i t))(hd:(x==("__debug__":Str))=false:=by decide):PF X (.Name x pos) (λ_=>.ok (.int i)):=
 jX (jV (v:=.int i) hg hm ⟨t,rfl⟩ hd) λ_ _=>.int i
noncomputable def ROk(K:PySem.W.Frag)(r:R2)(f:D->D->Option D):Prop:=∀(G H:Hp)(x y:V)(dx dy d:D)(Q:VK),Same G H->Rep K G x dx->Rep K G y dy->f dx dy=some d->Fin G H (Rep K) Q d->r x y H Q
noncomputable def g2(f:D->D->Option D)(ga gb:Ev->R D):Ev->R D:=λρ=>ga ρ>>=λx=>gb ρ>>=λy=>ofO (f x y)
def DP{r:R2}{f:D->D->Option D}(hf:ROk X.K r f){Q:VK}(h:tF X (g2 f ga gb) σ H Q):tOp r (tF X ga) (tF X gb) σ H Q:=by obtain⟨G,ρ,st,h⟩:=h;refine tG.intro st h λx v G1 H1 u1 st1 r1 h1=>?_;refine tG.intro st1 h1 λy w G2 H2 u2 st2 r2 h2=>?_;obtain⟨d,e,q⟩:=ofO.ok h2;exact hf G2 H2 v w x y d Q st2.sub (r1.mono u2.gg) r2 e q
def rq{op:Operator}{r:R2}{f:D->D->Option D}(ho:OpR X (binaryOp op) r)(hf:ROk X.K r f)(ha:PF X a ga)(hb:PF X b gb):PF X (.BinOp a op b pos) (g2 f ga gb):=
 λpins s σ H Q I h=>N4 ho ha hb pins s σ H Q I (DP hf h)
def ox{op:CmpOp}{r:R2}{f:D->D->Option D}(ho:OpR X (compareOp op) r)(hf:ROk X.K r f)(ha:PF X a ga)(hb:PF X b gb)(hm:behindInMarks op b=false):PF X (.Compare a [op] [b] pos) (g2 f ga gb):=
 λpins s σ H Q I h=>A8 ho ha hb hm pins s σ H Q I (DP hf h)
noncomputable def g3(f f':D->D->Option D)(ga gb gc:Ev->R D):Ev->R D:=λρ=>ga ρ>>=λx=>gb ρ>>=λy=>ofO (f x y)>>=λz=>match z with
 |.bl true=>gc ρ>>=λw=>ofO (f' y w)
 |.bl false=>.ok (.bl false)
 |_=>.no
def Dn{op op':CmpOp}{r r':R2}{f f':D->D->Option D}(ho:OpR X (compareOp op) r)(ho':OpR X (compareOp op') r')(hf:ROk X.K r f)(hf':ROk X.K r' f')(ha:PF X a ga)(hb:PF X b gb)(hc:PF X c gc)(hm:lastMarks [op,op'] [b,c]=false:=by with_unfolding_all rfl):PF X (.Compare a [op,op'] [b,c] pos) (g3 f f' ga gb gc):=by
 intro pins s σ H Q I h;refine Eg ho ho' ha hb hc hm pins s σ H Q I ?_;obtain⟨G,ρ,st,h⟩:=h;refine tG.intro st h λx v G1 H1 u1 st1 r1 h1=>?_;refine tG.intro st1 h1 λy w G2 H2 u2 st2 r2 h2=>?_;cases e:f x y with
 |none=>rw[e]at h2;exact h2.elim
 |some d=>
  rw[e]at h2;refine hf G2 H2 v w x y d _ st2.sub (r1.mono u2.gg) r2 e λz G3 H3 u3 r3=>?_;have h3:=lW u3 h2;have st3:=st2.up u3;cases r3 with
  |bl k=>
   refine⟨k,rfl,?_⟩;cases k with
   |false=>rw[if_neg xR];exact h3 _ G3 H3 (.refl st3.sub) (.bl false)
   |true=>rw[if_pos rfl];refine tG.intro st3 (show(gc ρ>>=λw=>ofO (f' y w)).post _ _ from h3) λq vq G4 H4 u4 st4 r4 h4=>?_;obtain⟨d,e',q'⟩:=ofO.ok h4;exact hf' G4 H4 w vq y q d Q st4.sub ((r2.mono u3.gg).mono u4.gg) r4 e' q'
  |_=>exact h3.elim
end
section
noncomputable def fg:D->D->Option D
 |.int i,.int j=>some (.int (i+j))
 |.str x,.str y=>if x.length+y.length<=sizeLine then some (.str (x++y))else none
 |.lst false xs,.lst false ys=>if xs.length+ys.length<=sizeLine then some (.lst false (xs++ys))else none
 |.tup xs,.tup ys=>if xs.length+ys.length<=sizeLine then some (.tup (xs++ys))else none
 |_,_=>none
noncomputable def FK(K:PySem.W.Frag):R2:=λx y H Q=>∃a b xs ys,x=.ref a/\y=.ref b/\SqT K H a xs/\SqT K H b ys/\xs.length+ys.length<=sizeLine/\
 (xs=[]->Q (.ref b) H)/\(xs≠[]->ys=[]->Q (.ref a) H)/\(xs≠[]->ys≠[]->∀p,H p=none->Q (.ref p) (upd H p (.tup (xs++ys))))
def Fc:OpR X (binaryOp .Add) (FK X.K):=by
 intro pins s σ H x y v u Q I rx ry h;obtain⟨a,b,xs,ys,rfl,rfl,ha,hb,hz,q0,q1,q2⟩:=h;by_cases hx:xs=[]
 ·cases rx;cases ry;obtain⟨its,r1,p1,_⟩:=I.tuple ha;obtain⟨its2,r2,p2,_⟩:=I.tuple hb;have hi:its=[]:=r1.nil_iff.mpr hx;obtain⟨⟨cls,dd,data,sl⟩,ho,hc,n,hd⟩:=id p1;obtain⟨⟨cls2,dd2,data2,sl2⟩,ho2,hc2,n2,hd2⟩:=id p2;simp only at hc hd hc2 hd2;subst hc hd hc2 hd2;exact concat_meets ⟨_,ho,rfl⟩ ⟨_,ho2,rfl⟩ iF seq_tuple_add PySem.F.slot_tuple_add PySem.F.entry_tuple_add (PySem.F.args_tuple_add_2 _ _)
   (tuple_addW0 a b its.toArray its2.toArray n n2 dd dd2 sl sl2 (by simp[hi])) ⟨ho,ho2,.ref b,H,I,rfl,q0 hx⟩
 ·exact IE pins s σ H _ _ v u Q I rx ry ⟨a,b,xs,ys,rfl,rfl,ha,hb,hx,hz,q1 hx,q2 hx⟩
noncomputable def KI(K:PySem.W.Frag):R2:=λx y H Q=>(rI0 λi j=>.int (i+j)) x y H Q\/(∃i j,x=.str i/\y=.str j/\i.length+j.length<=sizeLine/\Q (.str (i++j)) H)\/OK x y H Q\/FK K x y H Q
def Gz:OpR X (binaryOp .Add) (KI X.K):=op_add.or (op_add_str.or (op_cat.or Fc))
def Str.app_list(x y:Str):(x++y).cps.toList=x.cps.toList++y.cps.toList:=by show(x.cps++y.cps).toList=_;simp
def Str.len_list(x:Str):x.cps.toList.length=x.length:=by simp[Str.length]
def Kf(K:PySem.W.Frag):ROk K (KI K) fg:=by
 intro G H x y dx dy d Q s rx ry e q;unfold fg at e;split at e;·cases e;exact .inl ⟨_,_,rx.int_inv,ry.int_inv,q _ G H (.refl s) (.int _)⟩
 ·split at e;·rename_i hz;cases e;obtain⟨i,rfl,ei,hi⟩:=rx.str_inv;obtain⟨j,rfl,ej,hj⟩:=ry.str_inv;subst ei ej;rw[Str.len_list,Str.len_list]at hz;exact .inr (.inl ⟨i,j,rfl,rfl,hz,q _ G H (.refl s) (.strL (Str.app_list i j) (by rw[uC,Str.len_list,Str.len_list];exact hz))⟩)
  ·cases e
 ·split at e;·rename_i hz;cases e;obtain⟨a,vs,rfl,ha,ra⟩:=rx.lst_inv;obtain⟨b,ws,rfl,hb,rb⟩:=ry.lst_inv;refine .inr (.inr (.inl ⟨a,b,vs,ws,rfl,rfl,s _ _ ha,s _ _ hb,by rw[ra.length,rb.length];exact hz,λp hp=>q _ _ _ (.new s hp) (.lst aV ?_)⟩));exact(ra.append rb).mono (.into (s.free hp))
  ·cases e
 ·split at e
  ·rename_i hz;cases e;obtain⟨a,vs,rfl,ha,ra⟩:=rx.tup_inv;obtain⟨b,ws,rfl,hb,rb⟩:=ry.tup_inv;refine .inr (.inr (.inr ⟨a,b,vs,ws,rfl,rfl,ha.mono s,hb.mono s,by rw[ra.length,rb.length];exact hz,λz=>?_,λ_ z=>?_,λ_ _ p hp=>?_⟩));·subst z;cases ra;exact q _ G H (.refl s) (.tup hb rb)
   ·subst z;cases rb;rw[uZ]at q;exact q _ G H (.refl s) (.tup ha ra)
   ·exact q _ _ _ (.new s hp) (.tup (.of aV) ((ra.append rb).mono (.into (s.free hp))))
  ·cases e
 ·cases e
def bF{a b:Expr}{ga:Ev->R D}{pos:Pos}(ha:PF X a ga)(hb:PF X b gb):PF X (.BinOp a .Add b pos) (g2 fg ga gb):=rq Gz (Kf _) ha hb
noncomputable def mx:D->D->Option D
 |.int i,.int j=>some (.int (i - j))
 |_,_=>none
def dR{a b:Expr}{ga:Ev->R D}{pos:Pos}(ha:PF X a ga)(hb:PF X b gb):PF X (.BinOp a .Sub b pos) (g2 mx ga gb):=rq LG (by
 intro G H x y dx dy d Q s rx ry e q;unfold mx at e;split at e;·cases e;exact⟨_,_,rx.int_inv,ry.int_inv,q _ G H (.refl s) (.int _)⟩
 ·cases e) ha hb
noncomputable def me:D->D->Option D
 |.int i,.int j=>if 0<j/\j<1073741824 then some (.int (i / j))else none
 |_,_=>none
def jS{a b:Expr}{ga:Ev->R D}{pos:Pos}(ha:PF X a ga)(hb:PF X b gb):PF X (.BinOp a .FloorDiv b pos) (g2 me ga gb):=rq IY (by
 intro G H x y dx dy d Q s rx ry e q;unfold me at e;split at e
 ·split at e;·rename_i hc;cases e;exact⟨_,_,rx.int_inv,ry.int_inv,hc,q _ G H (.refl s) (.int _)⟩
  ·cases e
 ·cases e) ha hb
noncomputable def zt:D->D->Option D
 |.int i,.int j=>if 0<j then some (.int (i % j))else none
 |_,_=>none
def rJ{a b:Expr}{ga:Ev->R D}{pos:Pos}(ha:PF X a ga)(hb:PF X b gb):PF X (.BinOp a .Mod b pos) (g2 zt ga gb):=rq K0 (by
 intro G H x y dx dy d Q s rx ry e q;unfold zt at e;split at e
 ·split at e;·rename_i hc;cases e;exact⟨_,_,rx.int_inv,ry.int_inv,hc,q _ G H (.refl s) (.int _)⟩
  ·cases e
 ·cases e) ha hb
end
section
variable{a b c e:Expr}{ga gc:Ev->R D}{pos:Pos}
noncomputable def leD:D->D->Option D
 |.int i,.int j=>some (.bl (decide (i<=j)))
 |.str x,.str y=>some (.bl (!decide (y<x)))
 |_,_=>none
noncomputable def ltD:D->D->Option D
 |.int i,.int j=>some (.bl (decide (i<j)))
 |.str x,.str y=>some (.bl (decide (x<y)))
 |_,_=>none
noncomputable def gtD:D->D->Option D
 |.int i,.int j=>some (.bl (decide (j<i)))
 |_,_=>none
noncomputable def geD:D->D->Option D
 |.int i,.int j=>some (.bl (decide (j<=i)))
 |_,_=>none
def BI:OpR X (compareOp .LtE) (λx y H Q=>∃i j:Str,x=.str i/\y=.str j/\Q (.bl (!decide (j.cps.toList<i.cps.toList))) H):=by intro pins s σ H x y v u Q I rx ry h;obtain⟨i,j,rfl,rfl,q⟩:=h;obtain⟨t,rfl⟩:=rx;obtain⟨t',rfl⟩:=ry;exact PySem.P.le_str (ye I q rfl)
def zO(K:PySem.W.Frag):ROk K (λx y H Q=>(rI0 λi j=>.bl (decide (i<=j))) x y H Q\/∃i j:Str,x=.str i/\y=.str j/\Q (.bl (!decide (j.cps.toList<i.cps.toList))) H) leD:=by
 intro G H x y dx dy d Q s rx ry e q;unfold leD at e;split at e;·cases e;exact .inl ⟨_,_,rx.int_inv,ry.int_inv,q _ G H (.refl s) (.bl _)⟩
 ·cases e;obtain⟨i,rfl,ei,hi⟩:=rx.str_inv;obtain⟨j,rfl,ej,hj⟩:=ry.str_inv;subst ei ej;exact .inr ⟨i,j,rfl,rfl,q _ G H (.refl s) (.bl _)⟩
 ·cases e
def Kq(K:PySem.W.Frag):ROk K (λx y H Q=>(rI0 λi j=>.bl (decide (i<j))) x y H Q\/∃i j:Str,x=.str i/\y=.str j/\Q (.bl (decide (i.cps.toList<j.cps.toList))) H) ltD:=by
 intro G H x y dx dy d Q s rx ry e q;unfold ltD at e;split at e;·cases e;exact .inl ⟨_,_,rx.int_inv,ry.int_inv,q _ G H (.refl s) (.bl _)⟩
 ·cases e;obtain⟨i,rfl,ei,hi⟩:=rx.str_inv;obtain⟨j,rfl,ej,hj⟩:=ry.str_inv;subst ei ej;exact .inr ⟨i,j,rfl,rfl,q _ G H (.refl s) (.bl _)⟩
 ·cases e
def NJ(K:PySem.W.Frag):ROk K (rI0 λi j=>.bl (decide (j<i))) gtD:=by
 intro G H x y dx dy d Q s rx ry e q;unfold gtD at e;split at e;·cases e;exact⟨_,_,rx.int_inv,ry.int_inv,q _ G H (.refl s) (.bl _)⟩
 ·cases e
def Ol(K:PySem.W.Frag):ROk K (rI0 λi j=>.bl (decide (j<=i))) geD:=by
 intro G H x y dx dy d Q s rx ry e q;unfold geD at e;split at e;·cases e;exact⟨_,_,rx.int_inv,ry.int_inv,q _ G H (.refl s) (.bl _)⟩
 ·cases e
def rL:OpR X (compareOp .LtE) (λx y H Q=>(rI0 λi j=>.bl (decide (i<=j))) x y H Q\/∃i j:Str,x=.str i/\y=.str j/\Q (.bl (!decide (j.cps.toList<i.cps.toList))) H):=op_le.or BI
def FA:OpR X (compareOp .Lt) (λx y H Q=>(rI0 λi j=>.bl (decide (i<j))) x y H Q\/∃i j:Str,x=.str i/\y=.str j/\Q (.bl (decide (i.cps.toList<j.cps.toList))) H):=op_lt.or AX
def LA(ha:PF X a ga)(hb:PF X b gb):PF X (.Compare a [.LtE] [b] pos) (g2 leD ga gb):=ox rL (zO _) ha hb (iQ _)
def NY(ha:PF X a ga)(hb:PF X b gb):PF X (.Compare a [.Lt] [b] pos) (g2 ltD ga gb):=ox FA (Kq _) ha hb (iQ _)
def xE(ha:PF X a ga)(hb:PF X b gb)(hc:PF X c gc)(hm:lastMarks [.LtE,.LtE] [b,c]=false:=by with_unfolding_all rfl):PF X (.Compare a [.LtE,.LtE] [b,c] pos) (g3 leD leD ga gb gc):=Dn rL rL (zO _) (zO _) ha hb hc hm
end
noncomputable def eqZ(f:D->D->Option Bool):List D->List D->Option (List Bool)
 |x::xs,y::ys=>(f x y).bind λb=>(eqZ f xs ys).map (b::·)
 |_,_=>some []
noncomputable def eqD:Nat->D->D->Option Bool
 | 0,_,_=>none
 |n+1,a,b=>match a,b with
  |.non,.non=>some true
  |.bl x,.bl y=>some (x==y)
  |.int i,.int j=>some (i==j)
  |.str x,.str y=>some (x==y)
  |.bl x,.int j=>some ((if x then 1 else 0)==j)
  |.int i,.bl y=>some (i==(if y then 1 else 0))
  |.lst _ xs,.lst _ ys=>if xs.length=ys.length then (eqZ (eqD n) xs ys).map λbs=>bs.all id else some false
  |.tup xs,.tup ys=>(eqZ (eqD n) xs ys).map λbs=>bs.all id && xs.length==ys.length
  |.exc _,_=>none
  |.dct _ _,_=>none
  |_,.exc _=>none
  |_,.dct _ _=>none
  |_,_=>some false
theorem eqZ.get{f:D->D->Option Bool}:∀{xs ys:List D}{bs:List Bool},eqZ f xs ys=some bs->bs.length=min xs.length ys.length/\∀(j:Nat)(x y:D),xs[j]?=some x->ys[j]?=some y->∃b,bs[j]?=some b/\f x y=some b
 | [],_,_,e=>by simp[eqZ]at e;subst e;exact⟨by simp,λj x y h=>by simp at h⟩
 |_::_,[],_,e=>by simp[eqZ]at e;subst e;exact⟨by simp,λj x y _ h=>by simp at h⟩
 |x::xs,y::ys,bs,e=>by
  unfold eqZ at e;cases e1:f x y with
  |none=>rw[e1]at e;cases e
  |some b=>
   rw[e1]at e;cases e2:eqZ f xs ys with
   |none=>rw[e2]at e;cases e
   |some cs=>
    rw[e2]at e;cases e;obtain⟨h1,h2⟩:=eqZ.get e2;refine⟨by simp[h1],λj=>?_⟩;cases j with
    |zero=>intro x' y' hx hy;simp at hx hy;subst hx hy;exact⟨b,rfl,e1⟩
    |succ j=>intro x' y' hx hy;exact h2 j x' y' (by simpa using hx) (by simpa using hy)
def oj{bs:List Bool}(h:bs.length=n):(List.range n).all (λj=>bs.getD j true)=bs.all id:=by
 subst h;rw[Bool.eq_iff_iff,sO,sO];constructor;·intro h b hb;obtain⟨i,hi,rfl⟩:=List.mem_iff_getElem.mp hb;have:=h i (by simpa using hi);simpa[v4,hi]using this
 ·intro h j hj;have hj':j<bs.length:=by simpa using hj
  have:=h bs[j] (List.getElem_mem hj');simpa[v4,hj']using this
def fX:(Value.type "list":Value)≠.type "tuple":=by intro h;injection h with h;exact absurd h (by decide)
section
open SeqAt
def iT(I:Inv X pins σ H s)(sub:Same G H):∀(n:Nat)(a b:D)(k:Bool)(x:V),eqD n a b=some k->Rep X.K G x a->Rep X.K G x b->k=true:=by
 intro n;induction n with
 |zero=>intro a b k x e;cases e
 |succ n ih=>
  have sq:∀(vs:List V)(xs ys:List D),Reps X.K G vs xs->Reps X.K G vs ys->∀bs,eqZ (eqD n) xs ys=some bs->bs.all id=true:=by
   intro vs;induction vs with
   |nil=>intro xs ys h1 h2 bs e;cases h1;cases h2;simp[eqZ]at e;subst e;rfl
   |cons v vs ihv=>
    intro xs ys h1 h2 bs e;cases h1 with
    |cons r1 t1=>
     cases h2 with
     |cons r2 t2=>
      unfold eqZ at e;rename_i d1 ds1 d2 ds2;cases e1:eqD n d1 d2 with
      |none=>rw[e1]at e;cases e
      |some b=>
       rw[e1]at e;cases e2:eqZ (eqD n) ds1 ds2 with
       |none=>rw[e2]at e;cases e
       |some cs=>rw[e2]at e;cases e;rw[List.all_cons,ih _ _ _ _ e1 r1 r2,ihv _ _ t1 t2 _ e2];rfl
  intro a b k x e ra rb;cases ra with
  |non=>cases rb;simp[eqD]at e;exact e
  |bl y=>cases rb;simp[eqD]at e;exact e
  |int i=>cases rb;simp[eqD]at e;exact e
  |str y h=>
   cases rb with
   |str z h'=>simp[eqD]at e;exact e
  |tup h r=>
   cases rb with
   |tup h' r'=>
    have q:=I.tuple_inj (h.mono sub) (h'.mono sub);subst q;simp only[eqD]at e;rename_i ds es;cases e2:eqZ (eqD n) ds es with
    |none=>rw[e2]at e;cases e
    |some cs=>rw[e2]at e;have this:(cs.all id && ds.length==es.length)=k:=xf e;rw[sq _ _ _ r r' _ e2,Bool.true_and]at this;rw[<- this,<- r.length,<- r'.length];simp
   |lst h' r'=>obtain⟨its,_,⟨o,e1,c1,_⟩,_⟩:=I.tuple (h.mono sub);obtain⟨_,its',n',_,e2⟩:=I.hok _ _ (sub _ _ h');rw[e1]at e2;cases e2;exact absurd c1 fX
   |fls h' r'=>obtain⟨its,_,⟨o,e1,c1,_⟩,_⟩:=I.tuple (h.mono sub);obtain⟨its',_,⟨o',n',e2,c2,_⟩,_⟩:=I.list (h'.mono sub);rw[e1]at e2;cases e2;rw[c1]at c2;exact absurd c2.symm fX
   |exc h'=>simp[eqD]at e
   |dct _ _ _=>simp[eqD]at e
  |lst h r=>
   have hl:SqL X.K G _ _:=SqL.of h;cases rb with
   |tup h' r'=>obtain⟨its,_,⟨o,e1,c1,_⟩,_⟩:=I.tuple (h'.mono sub);obtain⟨_,its',n',_,e2⟩:=I.hok _ _ (sub _ _ h);rw[e1]at e2;cases e2;exact absurd c1 fX
   |lst h' r'=>
    rw[h]at h';cases h';simp only[eqD]at e;rw[if_pos (by rw[<- r.length,<- r'.length])]at e;rename_i ds es;cases e2:eqZ (eqD n) ds es with
    |none=>rw[e2]at e;cases e
    |some cs=>rw[e2]at e;have:=xf e;rw[<- this];exact sq _ _ _ r r' _ e2
   |fls h' r'=>
    have q:=I.list_inj (hl.mono sub) (h'.mono sub);subst q;simp only[eqD]at e;rw[if_pos (by rw[<- r.length,<- r'.length])]at e;rename_i ds es;cases e2:eqZ (eqD n) ds es with
    |none=>rw[e2]at e;cases e
    |some cs=>rw[e2]at e;have:=xf e;rw[<- this];exact sq _ _ _ r r' _ e2
   |exc h'=>simp[eqD]at e
   |dct _ _ _=>simp[eqD]at e
  |fls h r=>
   cases rb with
   |tup h' r'=>obtain⟨its,_,⟨o,e1,c1,_⟩,_⟩:=I.tuple (h'.mono sub);obtain⟨its',_,⟨o',n',e2,c2,_⟩,_⟩:=I.list (h.mono sub);rw[e1]at e2;cases e2;rw[c1]at c2;exact absurd c2.symm fX
   |lst h' r'=>
    have q:=I.list_inj (h.mono sub) ((SqL.of h':SqL X.K G _ _).mono sub);subst q;simp only[eqD]at e;rw[if_pos (by rw[<- r.length,<- r'.length])]at e;rename_i ds es;cases e2:eqZ (eqD n) ds es with
    |none=>rw[e2]at e;cases e
    |some cs=>rw[e2]at e;have:=xf e;rw[<- this];exact sq _ _ _ r r' _ e2
   |fls h' r'=>
    have q:=I.list_inj (h.mono sub) (h'.mono sub);subst q;simp only[eqD]at e;rw[if_pos (by rw[<- r.length,<- r'.length])]at e;rename_i ds es;cases e2:eqZ (eqD n) ds es with
    |none=>rw[e2]at e;cases e
    |some cs=>rw[e2]at e;have:=xf e;rw[<- this];exact sq _ _ _ r r' _ e2
   |exc h'=>simp[eqD]at e
   |dct _ _ _=>simp[eqD]at e
  |exc h=>simp[eqD]at e
  |dct _ _ _=>simp[eqD]at e
structure Eqs(A:Around)(s:Shared)(v u:Value)(k:Bool):Prop where
 eq:EqAt A s v u k
 rc:RcAt A s v u k
 ne:RcNeAt A s v u (!k)
def kI{f:Bool}{x:V}{u:Value}(I:Inv X pins σ H s)(sub:Same G H)(r:Rep X.K G x (.lst f ds))(ru:RelV x u):∃a its vs,u=.ref a/\s.heap.IsList a (List.toArray its)/\Vals vs its/\Reps X.K G vs ds:=by obtain⟨a,vs,rfl,h,t⟩:=r.seq_inv;cases ru;obtain⟨its,rv,⟨o,n,e1,c1,_,d1⟩,_⟩:=I.list (h.mono sub);exact⟨a,its,vs,rfl,⟨o,e1,c1,n,d1⟩,rv,t⟩
def mT{x:V}{u:Value}(I:Inv X pins σ H s)(sub:Same G H)(r:Rep X.K G x (.tup ds))(ru:RelV x u):∃a its vs,u=.ref a/\s.heap.IsTuple a (List.toArray its)/\Vals vs its/\Reps X.K G vs ds:=by obtain⟨a,vs,rfl,h,t⟩:=r.tup_inv;cases ru;obtain⟨its,rv,p,_⟩:=I.tuple (h.mono sub);exact⟨a,its,vs,rfl,p,rv,t⟩
def xm(I:Inv X pins σ H s)(sub:Same G H):∀(n:Nat)(A:Around)(a b:D)(k:Bool)(x y:V)(v u:Value),A.units+n<cLine->eqD n a b=some k->Rep X.K G x a->Rep X.K G y b->RelV x v->RelV y u->Eqs A s v u k:=by
 intro n;induction n with
 |zero=>intro A a b k x y v u _ e;cases e
 |succ n ih=>
  have sq:∀(A:Around)(vs ws:List V)(xs ys:List D)(is js:List Value)(bs:List Bool),A.units+(n+1)<cLine->Reps X.K G vs xs->Reps X.K G ws ys->Vals vs is->Vals ws js->eqZ (eqD n) xs ys=some bs->
    bs.length=min is.length js.length/\∀j (h1:j<is.toArray.size) (h2:j<js.toArray.size),EqAt A.in1 s is.toArray[j] js.toArray[j] (bs.getD j true):=by
   intro A vs ws xs ys is js bs hA r1 r2 v1 v2 e;obtain⟨h1,h2⟩:=eqZ.get e;refine⟨by rw[h1,<- r1.length,<- r2.length,v1.length,v2.length],λj q1 q2=>?_⟩;rw[x9]at q1 q2;have p1:j<xs.length:=by rw[<- r1.length,v1.length];exact q1
   have p2:j<ys.length:=by rw[<- r2.length,v2.length];exact q2
   obtain⟨b,e1,e2⟩:=h2 j xs[j] ys[j] (by simp[p1]) (by simp[p2]);obtain⟨x',ex,rx⟩:=r1.get (i:=j) (d:=xs[j]) (by simp[p1]);obtain⟨y',ey,ry⟩:=r2.get (i:=j) (d:=ys[j]) (by simp[p2]);obtain⟨u1,eu1,ru1⟩:=v1.get ex;obtain⟨u2,eu2,ru2⟩:=v2.get ey;have g1:is.toArray[j]=u1:=by simpa[q1]using eu1
   have g2:js.toArray[j]=u2:=by simpa[q2]using eu2
   rw[v4,e1];simp only[fo]at g1 g2⊢;rw[g1,g2];exact(ih A.in1 _ _ b x' y' u1 u2 (by show A.units+1+n<cLine;omega) e2 rx ry ru1 ru2).eq
  intro A a b k x y v u hA e ra rb rv ru;have hu:A.units<cLine:=by omega
  have same:∀c d:Addr,v=.ref c->u=.ref d->c=d->k=true:=λc d h1 h2 h3=>by
   subst h1 h2 h3;cases ra with
   |tup h r=>cases rv;cases rb with
    |tup h' r'=>cases ru;exact iT I sub (n+1) _ _ k _ e (.tup h r) (.tup h' r')
    |lst h' r'=>cases ru;exact iT I sub (n+1) _ _ k _ e (.tup h r) (.lst h' r')
    |fls h' r'=>cases ru;exact iT I sub (n+1) _ _ k _ e (.tup h r) (.fls h' r')
    |exc h'=>simp[eqD]at e
    |dct _ _ _=>simp[eqD]at e
    |str _ _=>obtain⟨t,z⟩:=ru;cases z
    |int _=>obtain⟨t,z⟩:=ru;cases z
    |non=>cases ru
    |bl _=>cases ru
   |lst h r=>cases rv;cases rb with
    |tup h' r'=>cases ru;exact iT I sub (n+1) _ _ k _ e (.lst h r) (.tup h' r')
    |lst h' r'=>cases ru;exact iT I sub (n+1) _ _ k _ e (.lst h r) (.lst h' r')
    |fls h' r'=>cases ru;exact iT I sub (n+1) _ _ k _ e (.lst h r) (.fls h' r')
    |exc h'=>simp[eqD]at e
    |dct _ _ _=>simp[eqD]at e
    |str _ _=>obtain⟨t,z⟩:=ru;cases z
    |int _=>obtain⟨t,z⟩:=ru;cases z
    |non=>cases ru
    |bl _=>cases ru
   |fls h r=>cases rv;cases rb with
    |tup h' r'=>cases ru;exact iT I sub (n+1) _ _ k _ e (.fls h r) (.tup h' r')
    |lst h' r'=>cases ru;exact iT I sub (n+1) _ _ k _ e (.fls h r) (.lst h' r')
    |fls h' r'=>cases ru;exact iT I sub (n+1) _ _ k _ e (.fls h r) (.fls h' r')
    |exc h'=>simp[eqD]at e
    |dct _ _ _=>simp[eqD]at e
    |str _ _=>obtain⟨t,z⟩:=ru;cases z
    |int _=>obtain⟨t,z⟩:=ru;cases z
    |non=>cases ru
    |bl _=>cases ru
   |exc h=>simp[eqD]at e
   |dct _ _ _=>simp[eqD]at e
   |str _ _=>obtain⟨t,z⟩:=rv;cases z
   |int _=>obtain⟨t,z⟩:=rv;cases z
   |non=>cases rv
   |bl _=>cases rv
  have refs:∀c d:Addr,v=.ref c->u=.ref d->RcAt A s v u k->EqAt A s v u k:=λc d h1 h2 h=>by
   subst h1 h2;by_cases h3:c=d;·have:=same c d rfl rfl h3;subst h3 this;exact EqAt.same _
   ·exact EqAt.of_refs h3 h
  cases a with
  |exc C=>simp[eqD]at e
  |dct _ _=>simp[eqD]at e
  |non=>
   obtain rfl:=ra.non_inv;cases rv;cases b with
   |exc C=>simp[eqD]at e
   |dct _ _=>simp[eqD]at e
   |non=>obtain rfl:=rb.non_inv;cases ru;simp[eqD]at e;subst e;exact⟨EqAt.same _,RcAt.none_none,RcNeAt.none_none⟩
   |bl z=>obtain rfl:=rb.bl_inv;cases ru;simp[eqD]at e;subst e;exact⟨EqAt.none_bool _,RcAt.none_bool _,RcNeAt.none_bool _⟩
   |int z=>obtain rfl:=rb.int_inv;obtain⟨t,rfl⟩:=ru;simp[eqD]at e;subst e;exact⟨EqAt.none_int _ _,RcAt.none_int _ _,RcNeAt.none_int _ _⟩
   |str z=>obtain⟨z,rfl,-,-⟩:=rb.str_inv;obtain⟨t,rfl⟩:=ru;simp[eqD]at e;subst e;exact⟨EqAt.none_str _ _,RcAt.none_str _ _,RcNeAt.none_str _ _⟩
   |tup ds=>obtain⟨c,its,vs,rfl,p,_,_⟩:=mT I sub rb ru;simp[eqD]at e;subst e;exact⟨EqAt.none_tuple p hu,RcAt.none_tuple p hu,RcNeAt.none_tuple p hu⟩
   |lst f ds=>obtain⟨c,its,vs,rfl,p,_,_⟩:=kI I sub rb ru;simp[eqD]at e;subst e;exact⟨EqAt.none_list p hu,RcAt.none_list p hu,RcNeAt.none_list p hu⟩
  |bl w=>
   obtain rfl:=ra.bl_inv;cases rv;cases b with
   |exc C=>simp[eqD]at e
   |dct _ _=>simp[eqD]at e
   |non=>obtain rfl:=rb.non_inv;cases ru;simp[eqD]at e;subst e;exact⟨EqAt.bool_none _,RcAt.bool_none _,RcNeAt.bool_none _⟩
   |bl z=>obtain rfl:=rb.bl_inv;cases ru;simp only[eqD]at e;cases e;exact⟨EqAt.bool_bool _ _,RcAt.bool_bool _ _,RcNeAt.bool_bool _ _⟩
   |int z=>obtain rfl:=rb.int_inv;obtain⟨t,rfl⟩:=ru;simp only[eqD]at e;cases e;exact⟨EqAt.bool_int _ _ _,RcAt.bool_int _ _ _,RcNeAt.bool_int _ _ _⟩
   |str z=>obtain⟨z,rfl,-,-⟩:=rb.str_inv;obtain⟨t,rfl⟩:=ru;simp[eqD]at e;subst e;exact⟨EqAt.bool_str _ _ _,RcAt.bool_str _ _ _,RcNeAt.bool_str _ _ _⟩
   |tup ds=>obtain⟨c,its,vs,rfl,p,_,_⟩:=mT I sub rb ru;simp[eqD]at e;subst e;exact⟨EqAt.bool_tuple _ p hu,RcAt.bool_tuple _ p hu,RcNeAt.bool_tuple _ p hu⟩
   |lst f ds=>obtain⟨c,its,vs,rfl,p,_,_⟩:=kI I sub rb ru;simp[eqD]at e;subst e;exact⟨EqAt.bool_list _ p hu,RcAt.bool_list _ p hu,RcNeAt.bool_list _ p hu⟩
  |int w=>
   obtain rfl:=ra.int_inv;obtain⟨t0,rfl⟩:=rv;cases b with
   |exc C=>simp[eqD]at e
   |dct _ _=>simp[eqD]at e
   |non=>obtain rfl:=rb.non_inv;cases ru;simp[eqD]at e;subst e;exact⟨EqAt.int_none _ _,RcAt.int_none _ _,RcNeAt.int_none _ _⟩
   |bl z=>obtain rfl:=rb.bl_inv;cases ru;simp only[eqD]at e;cases e;exact⟨EqAt.int_bool _ _ _,RcAt.int_bool _ _ _,RcNeAt.int_bool _ _ _⟩
   |int z=>obtain rfl:=rb.int_inv;obtain⟨t,rfl⟩:=ru;simp only[eqD]at e;cases e;exact⟨EqAt.int_int _ _ _ _,RcAt.int_int _ _ _ _,RcNeAt.int_int _ _ _ _⟩
   |str z=>obtain⟨z,rfl,-,-⟩:=rb.str_inv;obtain⟨t,rfl⟩:=ru;simp[eqD]at e;subst e;exact⟨EqAt.int_str _ _ _ _,RcAt.int_str _ _ _ _,RcNeAt.int_str _ _ _ _⟩
   |tup ds=>obtain⟨c,its,vs,rfl,p,_,_⟩:=mT I sub rb ru;simp[eqD]at e;subst e;exact⟨EqAt.int_tuple _ _ p hu,RcAt.int_tuple _ _ p hu,RcNeAt.int_tuple _ _ p hu⟩
   |lst f ds=>obtain⟨c,its,vs,rfl,p,_,_⟩:=kI I sub rb ru;simp[eqD]at e;subst e;exact⟨EqAt.int_list _ _ p hu,RcAt.int_list _ _ p hu,RcNeAt.int_list _ _ p hu⟩
  |str w=>
   obtain⟨w,rfl,ew,-⟩:=ra.str_inv;obtain⟨t0,rfl⟩:=rv;cases b with
   |exc C=>simp[eqD]at e
   |dct _ _=>simp[eqD]at e
   |non=>obtain rfl:=rb.non_inv;cases ru;simp[eqD]at e;subst e;exact⟨EqAt.str_none _ _,RcAt.str_none _ _,RcNeAt.str_none _ _⟩
   |bl z=>obtain rfl:=rb.bl_inv;cases ru;simp[eqD]at e;subst e;exact⟨EqAt.str_bool _ _ _,RcAt.str_bool _ _ _,RcNeAt.str_bool _ _ _⟩
   |int z=>obtain rfl:=rb.int_inv;obtain⟨t,rfl⟩:=ru;simp[eqD]at e;subst e;exact⟨EqAt.str_int _ _ _ _,RcAt.str_int _ _ _ _,RcNeAt.str_int _ _ _ _⟩
   |str z=>obtain⟨z,rfl,ez,-⟩:=rb.str_inv;obtain⟨t,rfl⟩:=ru;simp only[eqD]at e;subst ew ez;rw[str_beq]at e;cases e;exact⟨EqAt.str_str _ _ _ _,RcAt.str_str _ _ _ _,RcNeAt.str_str _ _ _ _⟩
   |tup ds=>obtain⟨c,its,vs,rfl,p,_,_⟩:=mT I sub rb ru;simp[eqD]at e;subst e;exact⟨EqAt.str_tuple _ _ p hu,RcAt.str_tuple _ _ p hu,RcNeAt.str_tuple _ _ p hu⟩
   |lst f ds=>obtain⟨c,its,vs,rfl,p,_,_⟩:=kI I sub rb ru;simp[eqD]at e;subst e;exact⟨EqAt.str_list _ _ p hu,RcAt.str_list _ _ p hu,RcNeAt.str_list _ _ p hu⟩
  |tup ds1=>
   obtain⟨c1,its1,vs1,rfl,p1,w1,q1⟩:=mT I sub ra rv;cases b with
   |exc C=>simp[eqD]at e
   |dct _ _=>simp[eqD]at e
   |non=>obtain rfl:=rb.non_inv;cases ru;simp[eqD]at e;subst e;exact⟨EqAt.tuple_none p1 hu,RcAt.tuple_none p1 hu,RcNeAt.tuple_none p1 hu⟩
   |bl z=>obtain rfl:=rb.bl_inv;cases ru;simp[eqD]at e;subst e;exact⟨EqAt.tuple_bool _ p1 hu,RcAt.tuple_bool _ p1 hu,RcNeAt.tuple_bool _ p1 hu⟩
   |int z=>obtain rfl:=rb.int_inv;obtain⟨t,rfl⟩:=ru;simp[eqD]at e;subst e;exact⟨EqAt.tuple_int _ _ p1 hu,RcAt.tuple_int _ _ p1 hu,RcNeAt.tuple_int _ _ p1 hu⟩
   |str z=>obtain⟨z,rfl,-,-⟩:=rb.str_inv;obtain⟨t,rfl⟩:=ru;simp[eqD]at e;subst e;exact⟨EqAt.tuple_str _ _ p1 hu,RcAt.tuple_str _ _ p1 hu,RcNeAt.tuple_str _ _ p1 hu⟩
   |lst f ds=>obtain⟨c,its,vs,rfl,p,_,_⟩:=kI I sub rb ru;simp[eqD]at e;subst e;exact⟨EqAt.tuple_list p1 p hu,RcAt.tuple_list p1 p hu,RcNeAt.tuple_list p1 p hu⟩
   |tup ds2=>
    obtain⟨c2,its2,vs2,rfl,p2,w2,q2⟩:=mT I sub rb ru;simp only[eqD]at e;cases e2:eqZ (eqD n) ds1 ds2 with
    |none=>rw[e2]at e;cases e
    |some bs=>
     rw[e2]at e;have ek:=xf e;obtain⟨hl,he⟩:=sq A _ _ _ _ _ _ bs hA q1 q2 w1 w2 e2;have e3:((List.range (min its1.toArray.size its2.toArray.size)).all (λj=>bs.getD j true) && its1.toArray.size==its2.toArray.size)=k:=by rw[<- ek,x9,x9,oj hl,<- w1.length,<- w2.length,q1.length,q2.length]
     have hrc:RcAt A s (.ref c1) (.ref c2) k:=by rw[<- e3];exact RcAt.tuples p1 p2 hu he
     have hne:RcNeAt A s (.ref c1) (.ref c2) (!k):=by rw[<- e3];exact RcNeAt.tuples p1 p2 hu he
     exact⟨refs _ _ rfl rfl hrc,hrc,hne⟩
  |lst f1 ds1=>
   obtain⟨c1,its1,vs1,rfl,p1,w1,q1⟩:=kI I sub ra rv;cases b with
   |exc C=>simp[eqD]at e
   |dct _ _=>simp[eqD]at e
   |non=>obtain rfl:=rb.non_inv;cases ru;simp[eqD]at e;subst e;exact⟨EqAt.list_none p1 hu,RcAt.list_none p1 hu,RcNeAt.list_none p1 hu⟩
   |bl z=>obtain rfl:=rb.bl_inv;cases ru;simp[eqD]at e;subst e;exact⟨EqAt.list_bool _ p1 hu,RcAt.list_bool _ p1 hu,RcNeAt.list_bool _ p1 hu⟩
   |int z=>obtain rfl:=rb.int_inv;obtain⟨t,rfl⟩:=ru;simp[eqD]at e;subst e;exact⟨EqAt.list_int _ _ p1 hu,RcAt.list_int _ _ p1 hu,RcNeAt.list_int _ _ p1 hu⟩
   |str z=>obtain⟨z,rfl,-,-⟩:=rb.str_inv;obtain⟨t,rfl⟩:=ru;simp[eqD]at e;subst e;exact⟨EqAt.list_str _ _ p1 hu,RcAt.list_str _ _ p1 hu,RcNeAt.list_str _ _ p1 hu⟩
   |tup ds=>obtain⟨c,its,vs,rfl,p,_,_⟩:=mT I sub rb ru;simp[eqD]at e;subst e;exact⟨EqAt.list_tuple p1 p hu,RcAt.list_tuple p1 p hu,RcNeAt.list_tuple p1 p hu⟩
   |lst f2 ds2=>
    obtain⟨c2,its2,vs2,rfl,p2,w2,q2⟩:=kI I sub rb ru;simp only[eqD]at e;by_cases hlen:ds1.length=ds2.length
    ·rw[if_pos hlen]at e;cases e2:eqZ (eqD n) ds1 ds2 with
     |none=>rw[e2]at e;cases e
     |some bs=>
      rw[e2]at e;have ek:=xf e;obtain⟨hl,he⟩:=sq A _ _ _ _ _ _ bs hA q1 q2 w1 w2 e2;have hz:its1.toArray.size=its2.toArray.size:=by rw[x9,x9,<- w1.length,<- w2.length,q1.length,q2.length];exact hlen
      have e3:(List.range its1.toArray.size).all (λj=>bs.getD j true)=k:=by rw[<- ek,oj];rw[hl,x9];simp only[x9]at hz;omega
      have hrc:RcAt A s (.ref c1) (.ref c2) k:=by rw[<- e3];exact RcAt.lists p1 p2 hz hu he
      have hne:RcNeAt A s (.ref c1) (.ref c2) (!k):=by rw[<- e3];exact RcNeAt.lists p1 p2 hz hu he
      exact⟨refs _ _ rfl rfl hrc,hrc,hne⟩
    ·rw[if_neg hlen]at e;cases e;have hz:(its1.toArray.size != its2.toArray.size)=true:=by rw[x9,x9,<- w1.length,<- w2.length,q1.length,q2.length];simpa using hlen
     have hrc:RcAt A s (.ref c1) (.ref c2) false:=RcAt.lists_lengths p1 p2 hz hu;exact⟨refs _ _ rfl rfl hrc,hrc,RcNeAt.lists_lengths p1 p2 hz hu⟩
end
section
variable{a b:Expr}{ga:Ev->R D}{pos:Pos}
noncomputable def eqF(x y:D):Option D:=(eqD 40 x y).map .bl
noncomputable def neF(x y:D):Option D:=(eqD 40 x y).map λk=>.bl (!k)
noncomputable def NU(K:PySem.W.Frag)(neg:Bool):R2:=λx y H Q=>∃G dx dy k,Same G H/\Rep K G x dx/\Rep K G y dy/\eqD 40 dx dy=some k/\Q (.bl (if neg then !k else k)) H
def AD(hu:X.A.units+64<cLine):OpR X (compareOp .Eq) (NU X.K false):=by intro pins s σ H x y v u Q I rx ry h;obtain⟨G,dx,dy,k,sub,r1,r2,e,q⟩:=h;exact(xm I sub 40 X.A dx dy k x y v u (by omega) e r1 r2 rx ry).rc _ _ _ _ ⟨.bl k,H,I,rfl,q⟩
def Fw(hu:X.A.units+64<cLine):OpR X (compareOp .NotEq) (NU X.K true):=by intro pins s σ H x y v u Q I rx ry h;obtain⟨G,dx,dy,k,sub,r1,r2,e,q⟩:=h;exact(xm I sub 40 X.A dx dy k x y v u (by omega) e r1 r2 rx ry).ne _ _ _ _ ⟨.bl (!k),H,I,rfl,q⟩
def qR(hu:X.A.units+64<cLine)(ha:PF X a ga)(hb:PF X b gb):PF X (.Compare a [.Eq] [b] pos) (g2 eqF ga gb):=ox (AD hu) (by
 intro G H x y dx dy d Q s rx ry e q;unfold eqF at e;cases e1:eqD 40 dx dy with
 |none=>rw[e1]at e;cases e
 |some k=>rw[e1]at e;cases e;exact⟨G,dx,dy,k,s,rx,ry,e1,q _ G H (.refl s) (.bl k)⟩) ha hb (iQ _)
def M4(hu:X.A.units+64<cLine)(ha:PF X a ga)(hb:PF X b gb):PF X (.Compare a [.NotEq] [b] pos) (g2 neF ga gb):=ox (Fw hu) (by
 intro G H x y dx dy d Q s rx ry e q;unfold neF at e;cases e1:eqD 40 dx dy with
 |none=>rw[e1]at e;cases e
 |some k=>rw[e1]at e;cases e;exact⟨G,dx,dy,k,s,rx,ry,e1,q _ G H (.refl s) (.bl (!k))⟩) ha hb (iQ _)
end
end L2
namespace L2
open PySem PySem.Spec PyProof.Rows
section
variable{a b c e:Expr}{fV:List Expr}{ga gc:Ev->R D}{gt gu:Ev->R Bool}{pos:Pos}
noncomputable def isD:D->D->Option Bool
 |.non,.non=>some true
 |_,.non=>some false
 |.bl x,.bl y=>some (x==y)
 |_,_=>none
noncomputable def isF(x y:D):Option D:=(isD x y).map .bl
noncomputable def rIs(neg:Bool):R2:=λx y H Q=>(y=.non/\Q (.bl (if neg then !decide (x=.non)else decide (x=.non))) H)\/∃i j,x=.bl i/\y=.bl j/\Q (.bl (if neg then !(i==j)else (i==j))) H
def FX:OpR X (compareOp .Is) (rIs false):=op_isN.or (r':=λx y H Q=>∃i j,x=.bl i/\y=.bl j/\Q (.bl (i==j)) H) (by intro pins s σ H x y v u Q I rx ry h;obtain⟨i,j,rfl,rfl,q⟩:=h;cases rx;cases ry;exact is_bool ⟨.bl _,H,I,rfl,q⟩)
def K8(K:PySem.W.Frag)(neg:Bool):ROk K (rIs neg) (λx y=>(isD x y).map λk=>.bl (if neg then !k else k)):=by
 intro G H x y dx dy d Q s rx ry e q;dsimp only at e;cases e1:isD dx dy with
 |none=>rw[e1]at e;cases e
 |some k=>
  rw[e1]at e;have ed:D.bl (if neg=true then !k else k)=d:=xf e;subst ed;unfold isD at e1;split at e1;·cases e1;exact .inl ⟨ry.non_inv,by rw[rx.non_inv];exact q _ G H (.refl s) (.bl _)⟩
  ·rename_i hx;cases e1;have hn:x≠.non:=λz=>by subst z;cases rx;exact hx rfl
   refine .inl ⟨ry.non_inv,?_⟩;rw[wI hn];exact q _ G H (.refl s) (.bl _)
  ·cases e1;exact .inr ⟨_,_,rx.bl_inv,ry.bl_inv,q _ G H (.refl s) (.bl _)⟩
  ·cases e1
def Oq(ha:PF X a ga)(hb:PF X b gb):PF X (.Compare a [.Is] [b] pos) (g2 isF ga gb):=ox FX (K8 _ false) ha hb (iQ _)
noncomputable def asB:D->R Bool
 |.bl k=>.ok k
 |_=>.no
noncomputable def nS(ga gb:Ev->R D):Ev->R D:=λρ=>ga ρ>>=λx=>asB x>>=λk=>if k=true then gb ρ else .ok (.bl false)
noncomputable def gOr(ga gb:Ev->R D):Ev->R D:=λρ=>ga ρ>>=λx=>asB x>>=λk=>if k=true then .ok (.bl true)else gb ρ
noncomputable def Nr(ga:Ev->R D):Ev->R D:=λρ=>ga ρ>>=λx=>asB x>>=λk=>.ok (.bl (!k))
def asB.ok{β:Type}{K:PySem.W.Frag}{k:Bool->R β}{P:β->Prop}{E:Addr->Prop}(r:Rep K G v d)(h:(asB d>>=k).post P E):∃c,v=.bl c/\d=.bl c/\(k c).post P E:=by
 cases r with
 |bl c=>exact⟨c,rfl,rfl,h⟩
 |_=>exact h.elim
def gP{op:BoolOp}(h:PF X a ga):PF X (.BoolOp op [a] pos) ga:=Mb h
def eX(ha:PF X a ga)(hb:PF X (.BoolOp .And (b::fV) pos) gb):PF X (.BoolOp .And (a::b::fV) pos) (nS ga gb):=by
 intro pins s σ H Q I h;refine Jo ha hb pins s σ H Q I ?_;obtain⟨G,ρ,st,h⟩:=h;refine tG.intro st h λx v G1 H1 u1 st1 r1 h1=>?_;obtain⟨c,ec,ed,h2⟩:=asB.ok r1 h1;subst ec ed;refine⟨c,rfl,?_⟩;cases c with
 |true=>rw[if_pos rfl]at h2⊢;exact tG.last st1 h2
 |false=>rw[if_neg xR]at h2⊢;exact h2 _ G1 H1 (.refl st1.sub) (.bl false)
def LR(ha:PF X a ga)(hb:PF X (.BoolOp .Or (b::fV) pos) gb):PF X (.BoolOp .Or (a::b::fV) pos) (gOr ga gb):=by
 intro pins s σ H Q I h;refine Nh ha hb pins s σ H Q I ?_;obtain⟨G,ρ,st,h⟩:=h;refine tG.intro st h λx v G1 H1 u1 st1 r1 h1=>?_;obtain⟨c,ec,ed,h2⟩:=asB.ok r1 h1;subst ec ed;refine⟨c,rfl,?_⟩;cases c with
 |true=>rw[if_pos rfl]at h2⊢;exact h2 _ G1 H1 (.refl st1.sub) (.bl true)
 |false=>rw[if_neg xR]at h2⊢;exact tG.last st1 h2
def K4(ha:PF X a ga):PF X (.UnaryOp .Not a pos) (Nr ga):=by intro pins s σ H Q I h;refine K6 ha pins s σ H Q I ?_;obtain⟨G,ρ,st,h⟩:=h;refine tG.intro st h λx v G1 H1 u1 st1 r1 h1=>?_;obtain⟨c,ec,ed,h2⟩:=asB.ok r1 h1;subst ec ed;exact⟨c,rfl,h2 _ G1 H1 (.refl st1.sub) (.bl _)⟩
noncomputable def E6:D->R D
 |.int i=>.ok (.int (-i))
 |_=>.no
def KP(ha:PF X a ga):PF X (.UnaryOp .USub a pos) (λρ=>ga ρ>>=E6):=by
 intro pins s σ H Q I h;refine NP Lm ha pins s σ H Q I ?_;obtain⟨G,ρ,st,h⟩:=h;refine tG.intro st h λx v G1 H1 u1 st1 r1 h1=>?_;cases r1 with
 |int i=>exact⟨i,rfl,h1 _ G1 H1 (.refl st1.sub) (.int _)⟩
 |_=>exact h1.elim
noncomputable def gU:D->R Bool
 |.non=>.ok false
 |.bl k=>.ok k
 |.int i=>.ok (i != 0)
 |.str x=>.ok (!x.isEmpty)
 |.tup xs=>.ok (!xs.isEmpty)
 |.lst _ xs=>.ok (!xs.isEmpty)
 |.exc _=>.no
 |.dct _ _=>.no
def Reps.isEmpty{K:PySem.W.Frag}(r:Reps K G vs ds):vs.isEmpty=ds.isEmpty:=by cases r <;> rfl
def K1(h:PF X e ga)(he:∀whole,isTrue e X.env whole=(do let v <- whole;standAt e.pos;holding [v] (truthy v)):=by intro _;rfl):PB X e (λρ=>ga ρ>>=gU):=by
 intro pins s σ H Q I hq;refine ED h he pins s σ H Q I ?_;obtain⟨G,ρ,st,hq⟩:=hq;refine tG.intro st hq λx v G1 H1 u1 st1 r1 h1=>?_;have fin:∀k,gU x=.ok k->Q k H1:=λk ek=>by rw[ek]at h1;exact h1 k G1 H1 (.refl st1.sub) rfl
 cases r1 with
 |non=>exact⟨_,rfl,fin _ rfl⟩
 |bl k=>exact⟨_,rfl,fin _ rfl⟩
 |int i=>exact⟨_,rfl,fin _ rfl⟩
 |str y hy=>
  refine⟨_,⟨hy,rfl⟩,fin _ ?_⟩;show R.ok _=R.ok _
  congr 1
  have:y.cps.toList.length=y.length:=Str.len_list y;cases h:y.cps.toList with
  |nil=>rw[h]at this;rw[<- this];rfl
  |cons c cs=>rw[h]at this;rw[<- this];simp;omega
 |tup h r=>exact⟨_,.inr (.inl ⟨_,h.mono st1.sub,rfl⟩),fin _ (by show R.ok _=R.ok _;rw[r.isEmpty])⟩
 |lst h r=>exact⟨_,.inl ⟨_,.of (st1.sub _ _ h),rfl⟩,fin _ (by show R.ok _=R.ok _;rw[r.isEmpty])⟩
 |fls h r=>exact⟨_,.inl ⟨_,h.mono st1.sub,rfl⟩,fin _ (by show R.ok _=R.ok _;rw[r.isEmpty])⟩
 |_=>exact h1.elim
def nW{op:CmpOp}{r:R2}{f:D->D->Option D}(ho:OpR X (compareOp op) r)(hf:ROk X.K r f)(ha:PF X a ga)(hb:PF X b gb)(hm:behindInMarks op b=false):PB X (.Compare a [op] [b] pos) (λρ=>g2 f ga gb ρ>>=asB):=by
 intro pins s σ H Q I h;refine II ho ha hb hm pins s σ H Q I ?_;obtain⟨G,ρ,st,h⟩:=h;refine DP hf ?_;refine tG.intro st h λx v G1 H1 u1 st1 r1 h1=>?_;cases r1 with
 |bl k=>exact⟨k,rfl,h1 k G1 H1 (.refl st1.sub) rfl⟩
 |_=>exact h1.elim
def N3(ha:PF X a ga)(hb:PF X b gb):PB X (.Compare a [.Lt] [b] pos) (λρ=>g2 ltD ga gb ρ>>=asB):=nW FA (Kq _) ha hb (iQ _)
def Ob(ha:PF X a ga)(hb:PF X b gb):PB X (.Compare a [.LtE] [b] pos) (λρ=>g2 leD ga gb ρ>>=asB):=nW rL (zO _) ha hb (iQ _)
def Nk(ha:PF X a ga)(hb:PF X b gb):PB X (.Compare a [.Gt] [b] pos) (λρ=>g2 gtD ga gb ρ>>=asB):=nW Nm (NJ _) ha hb (iQ _)
def NQ(ha:PF X a ga)(hb:PF X b gb):PB X (.Compare a [.GtE] [b] pos) (λρ=>g2 geD ga gb ρ>>=asB):=nW Nf (Ol _) ha hb (iQ _)
def FL(K:PySem.W.Frag)(neg:Bool):ROk K (NU K neg) (λx y=>(eqD 40 x y).map λk=>.bl (if neg then !k else k)):=by
 intro G H x y dx dy d Q s rx ry e q;dsimp only at e;cases e1:eqD 40 dx dy with
 |none=>rw[e1]at e;cases e
 |some k=>rw[e1]at e;cases e;exact⟨G,dx,dy,k,s,rx,ry,e1,q _ G H (.refl s) (.bl _)⟩
def Ot(hu:X.A.units+64<cLine)(ha:PF X a ga)(hb:PF X b gb):PB X (.Compare a [.Eq] [b] pos) (λρ=>g2 eqF ga gb ρ>>=asB):=nW (AD hu) (FL _ false) ha hb (iQ _)
def NV(hu:X.A.units+64<cLine)(ha:PF X a ga)(hb:PF X b gb):PB X (.Compare a [.NotEq] [b] pos) (λρ=>g2 neF ga gb ρ>>=asB):=nW (Fw hu) (FL _ true) ha hb (iQ _)
def Og(ha:PF X a ga)(hb:PF X b gb):PB X (.Compare a [.Is] [b] pos) (λρ=>g2 isF ga gb ρ>>=asB):=nW FX (K8 _ false) ha hb (iQ _)
def Ef{op op':CmpOp}{r r':R2}{f f':D->D->Option D}(ho:OpR X (compareOp op) r)(ho':OpR X (compareOp op') r')(hf:ROk X.K r f)(hf':ROk X.K r' f')(ha:PF X a ga)(hb:PF X b gb)(hc:PF X c gc)(hm:lastMarks [op,op'] [b,c]=false:=by with_unfolding_all rfl):PB X (.Compare a [op,op'] [b,c] pos) (λρ=>g3 f f' ga gb gc ρ>>=asB):=by
 intro pins s σ H Q I h;refine Ez ho ho' ha hb hc hm pins s σ H Q I ?_;obtain⟨G,ρ,st,h⟩:=h;have h':(ga ρ>>=λx=>gb ρ>>=λy=>ofO (f x y)>>=λz=>(match z with|.bl true=>gc ρ>>=λw=>ofO (f' y w)|.bl false=>.ok (.bl false)|_=>.no)>>=asB).post (Fin G H (λ_ b c=>b=c) Q) (Exx X σ G H):=by
  have e:(g3 f f' ga gb gc ρ>>=asB)=(ga ρ>>=λx=>gb ρ>>=λy=>ofO (f x y)>>=λz=>(match z with|.bl true=>gc ρ>>=λw=>ofO (f' y w)|.bl false=>.ok (.bl false)|_=>.no)>>=asB):=by
   unfold g3;cases ga ρ with
   |ok x=>cases gb ρ with
    |ok y=>simp only[R.ok_bind];cases ofO (f x y) <;> rfl
    |_=>rfl
   |_=>rfl
  rw[<- e];exact h
 refine tG.intro st h' λx v G1 H1 u1 st1 r1 h1=>?_;refine tG.intro st1 h1 λy w G2 H2 u2 st2 r2 h2=>?_;cases e:f x y with
 |none=>rw[e]at h2;exact h2.elim
 |some d=>
  rw[e]at h2;refine hf G2 H2 v w x y d _ st2.sub (r1.mono u2.gg) r2 e λz G3 H3 u3 r3=>?_;have h3:=lW u3 h2;have st3:=st2.up u3;cases r3 with
  |bl k=>
   refine⟨k,rfl,?_⟩;cases k with
   |false=>rw[if_neg xR];exact⟨false,rfl,h3 _ G3 H3 (.refl st3.sub) rfl⟩
   |true=>
    rw[if_pos rfl];have h3':(gc ρ>>=λw=>ofO (f' y w)>>=asB).post (Fin G3 H3 (λ_ b c=>b=c) Q) (Exx X σ G3 H3):=by
     have e:((gc ρ>>=λw=>ofO (f' y w))>>=asB)=(gc ρ>>=λw=>ofO (f' y w)>>=asB):=by cases gc ρ <;> rfl
     rw[<- e];exact h3
    refine tG.intro st3 h3' λq vq G4 H4 u4 st4 r4 h4=>?_;cases e':f' y q with
    |none=>rw[e']at h4;exact h4.elim
    |some d'=>
     rw[e']at h4;refine hf' G4 H4 w vq y q d' _ st4.sub ((r2.mono u3.gg).mono u4.gg) r4 e' λz' G5 H5 u5 r5=>?_;have h5:=lW u5 h4;cases r5 with
     |bl k'=>exact⟨k',rfl,h5 k' G5 H5 (.refl u5.sub) rfl⟩
     |_=>exact h5.elim
  |_=>exact h3.elim
def Hu(ha:PF X a ga)(hb:PF X b gb)(hc:PF X c gc)(hm:lastMarks [.LtE,.LtE] [b,c]=false:=by with_unfolding_all rfl):PB X (.Compare a [.LtE,.LtE] [b,c] pos) (λρ=>g3 leD leD ga gb gc ρ>>=asB):=Ef rL rL (zO _) (zO _) ha hb hc hm
noncomputable def E8(t u:Ev->R Bool):Ev->R Bool:=λρ=>t ρ>>=λk=>if k=true then u ρ else .ok false
noncomputable def nM(t u:Ev->R Bool):Ev->R Bool:=λρ=>t ρ>>=λk=>if k=true then .ok true else u ρ
def yC(ha:PB X a gt):PBW X (.BoolOp .And [a] pos) gt:=Hw ha
def dw(ha:PB X a gt):PBW X (.BoolOp .Or [a] pos) gt:=JG ha
def AM(ha:PB X a gt)(hb:PBW X (.BoolOp .And (b::fV) pos) gu):PBW X (.BoolOp .And (a::b::fV) pos) (E8 gt gu):=by
 intro whole pins s σ H Q I h;refine KL ha hb whole pins s σ H Q I ?_;obtain⟨G,ρ,st,h⟩:=h;refine tG.intro st h λx v G1 H1 u1 st1 r1 h1=>?_;subst r1;cases v with
 |true=>rw[if_pos rfl]at h1⊢;exact tG.last st1 h1
 |false=>rw[if_neg xR]at h1⊢;exact h1 _ G1 H1 (.refl st1.sub) rfl
def dS(ha:PB X a gt)(hb:PBW X (.BoolOp .Or (b::fV) pos) gu):PBW X (.BoolOp .Or (a::b::fV) pos) (nM gt gu):=by
 intro whole pins s σ H Q I h;refine On ha hb whole pins s σ H Q I ?_;obtain⟨G,ρ,st,h⟩:=h;refine tG.intro st h λx v G1 H1 u1 st1 r1 h1=>?_;subst r1;cases v with
 |true=>rw[if_pos rfl]at h1⊢;exact h1 _ G1 H1 (.refl st1.sub) rfl
 |false=>rw[if_neg xR]at h1⊢;exact tG.last st1 h1
def Ln(ha:PB X a gt):PB X (.UnaryOp .Not a pos) (λρ=>gt ρ>>=λk=>.ok (!k)):=by intro pins s σ H Q I h;refine Lo ha pins s σ H Q I ?_;obtain⟨G,ρ,st,h⟩:=h;refine tG.intro st h λx v G1 H1 u1 st1 r1 h1=>?_;subst r1;exact h1 _ G1 H1 (.refl st1.sub) rfl
noncomputable def gIf(gt:Ev->R Bool)(ga gb:Ev->R D):Ev->R D:=λρ=>gt ρ>>=λk=>if k=true then ga ρ else gb ρ
def Fb(hc:PB X c gt)(ha:PF X a ga)(hb:PF X b gb):PF X (.IfExp c a b pos) (gIf gt ga gb):=by
 intro pins s σ H Q I h;refine Ey hc ha hb pins s σ H Q I ?_;obtain⟨G,ρ,st,h⟩:=h;refine tG.intro st h λx v G1 H1 u1 st1 r1 h1=>?_;subst r1;cases v with
 |true=>rw[if_pos rfl]at h1⊢;exact tG.last st1 h1
 |false=>rw[if_neg xR]at h1⊢;exact tG.last st1 h1
def ae:PFA X [] (λ_=>.ok []):=by intro pos pins s σ H Q I h;obtain⟨G,ρ,st,h⟩:=h;exact jE pos pins s σ H Q I (h [] G H (.refl st.sub) .nil)
def DW(ha:PF X e ga)(hr:PFA X es gl)(hs:starEach (e::es) X.env=(false,eval e X.env)::starEach es X.env:=by rfl):PFA X (e::es) (λρ=>ga ρ>>=λx=>gl ρ>>=λxs=>.ok (x::xs)):=by intro pos pins s σ H Q I h;refine dQ ha hr hs pos pins s σ H Q I ?_;obtain⟨G,ρ,st,h⟩:=h;refine tG.intro st h λx v G1 H1 u1 st1 r1 h1=>?_;refine tG.intro st1 h1 λy w G2 H2 u2 st2 r2 h2=>?_;exact h2 _ G2 H2 (.refl st2.sub) (.cons (r1.mono u2.gg) r2)
noncomputable def mkT(ds:List D):R D:=if ds.length<=sizeLine then .ok (.tup ds)else .no
def Jl(h:PFA X es gl):PF X (.Tuple es k pos) (λρ=>gl ρ>>=mkT):=by
 intro pins s σ H Q I hq;refine Ge h pins s σ H Q I ?_;obtain⟨G,ρ,st,hq⟩:=hq;refine tG.intro st hq λds vs G1 H1 u1 st1 r1 h1=>?_;unfold mkT at h1;split at h1;·rename_i hz;exact⟨by rw[r1.length];exact hz,λp hp=>h1 _ _ _ (.new st1.sub hp) (.tup (.of aV) (r1.mono (.into (st1.sub.free hp))))⟩
 ·exact h1.elim
def FT{c:Nat}:[c].length<=sizeLine:=by show 1<=sizeLine;decide
noncomputable def ixD:D->D->Option D
 |.lst _ xs,.int i=>atI xs i
 |.tup xs,.int i=>atI xs i
 |.str x,.int i=>(atI x i).map λc=>.str [c]
 |_,_=>none
def Reps.atI{K:PySem.W.Frag}{G:Hp}{vs:List V}{ds:List D}{i:Int}{d:D}(r:Reps K G vs ds)(h:atI ds i=some d):∃v,atI vs i=some v/\Rep K G v d:=by
 unfold L2.atI at h⊢;rw[r.length];cases e:ixN ds.length i with
 |none=>rw[e]at h;cases h
 |some j=>rw[e]at h;exact r.get h
def MZ(K:PySem.W.Frag):ROk K (rIx K) ixD:=by
 intro G H x y dx dy d Q s rx ry e q;unfold ixD at e;split at e;·obtain⟨a,vs,rfl,h,r⟩:=rx.seq_inv;obtain⟨v,e1,r1⟩:=r.atI e;exact .inl ⟨a,vs,_,v,rfl,ry.int_inv,h.mono s,e1,q v G H (.refl s) r1⟩
 ·obtain⟨a,vs,rfl,h,r⟩:=rx.tup_inv;obtain⟨v,e1,r1⟩:=r.atI e;exact .inr (.inl ⟨a,vs,_,v,rfl,ry.int_inv,h.mono s,e1,q v G H (.refl s) r1⟩)
 ·rename_i z i;obtain⟨y',rfl,ey,hy⟩:=rx.str_inv;subst ey;cases e1:L2.atI y'.cps.toList i with
  |none=>rw[e1]at e;cases e
  |some c=>rw[e1]at e;cases e;exact .inr (.inr ⟨y',i,c,rfl,ry.int_inv,hy,e1,q _ G H (.refl s) (.strL (by simp) FT)⟩)
 ·cases e
def cb(ha:PF X a ga)(hb:PF X b gb)(hs:tj b:=by exact λ_ _=>rfl):PF X (.Subscript a b pos) (g2 ixD ga gb):=
 λpins s σ H Q I h=>Hl Jy ha hb hs pins s σ H Q I (DP (MZ _) h)
end
noncomputable def rm{α:Type}(xs:List α)(lo hi:Option Int):List α:=(xs.drop (HT.sIx xs.length 0 lo)).take (HT.sIx xs.length xs.length hi - HT.sIx xs.length 0 lo)
def GQ{α:Type}(xs:List α)(lo hi:Option Int):(rm xs lo hi).length<=xs.length:=by unfold rm;rw[qT,oq];omega
def Reps.cut{K:PySem.W.Frag}(r:Reps K G vs ds)(lo hi:Option Int):Reps K G (Gf vs lo hi) (rm ds lo hi):=by unfold Gf rm;rw[r.length];exact(r.drop _).take _
section
variable{a b c e:Expr}{fV:List Expr}{lo hi:Option Expr}{ga gc:Ev->R D}{go gp:Ev->R (Option Int)}{pos p2:Pos}
noncomputable def Jx(K:PySem.W.Frag):V->Option Int->Option Int->Hp->VK->Prop:=λx lo hi H Q=>∃a xs,x=.ref a/\SqT K H a xs/\
 (HT.sIx xs.length 0 lo=0/\HT.sIx xs.length xs.length hi=xs.length)/\Q (.ref a) H
def sl_tup_whole:SlR X (Jx X.K):=by
 intro pins s σ H x v vl vu lo hi sl Q I rx hs pl pu h;obtain⟨a,xs,rfl,hx,⟨hw1,hw2⟩,q⟩:=h;cases rx;obtain⟨its,r,ht,hz⟩:=I.tuple hx;have hlen:its.toArray.size=xs.length:=by rw[x9];exact r.length.symm
 refine⟨"tuple",_,PyProof.Rows.slot_tuple_getitem.lookup,ht.typeIs,?_⟩;obtain⟨os,hos,hcs,hds⟩:=id hs;have hTs:s.TypeIs (.ref sl) "slice":=⟨os,hos,hcs⟩
 unfold getItem
 try with_reducible refine uX ?_
 first|refine z9 (zd ?_)|skip
 refine z9 (wpAny_sequenceKey ht.typeIs (by decide) ?_);refine z9 (sk (name:=Str.ofString "__getitem__") ht.typeIs Za
  (sv Za ht.typeIs entry_tuple_getitem ?_ (args_tuple_getitem _ _)));show wpAny _ _ (Builtin.Tuple.tupleItemsOf (.ref a)>>=_) _ _ s;refine z9 (oF ht ?_);refine z9 (lE hTs ?_);rw[if_pos (by decide)];refine z9 (HT.sliceApplied_gen hs pl pu ?_);rw[hlen,hw1,hw2];dsimp only;rw[if_pos (by simp)];have fin:EP X pins σ Q (.ref a) s:=⟨.ref a,H,I,rfl,q⟩
 obtain⟨o,ho,hc,n,hd⟩:=id ht;unfold Builtin.Tuple.tupleIsExact;refine z9 (z9 (lE ht.typeIs (zd ?_)));rw[if_pos (by decide)];exact z9 (qu (zd ⟨_,rfl,zd fin⟩))
theorem Md{α:Type}(xs:List α)(a:Nat):∀k:Nat,((List.range k).map (a + ·)).filterMap (λi:Nat=>xs[i]?)=(xs.drop a).take k
 | 0=>by simp
 |k+1=>by
  rw[List.range_succ,fG,List.filterMap_append,Md xs a k,List.take_add_one,List.getElem?_drop]
  congr 1
  try (simp only[ub,List.map_nil,il,List.filterMap_nil];cases xs[a+k]? <;> rfl)
def yf(n d:Nat)(v:Option Int):(match v with|none=>(d:Int)|some i=>max 0 (min (if i<0 then i+(n:Int)else i) (n:Int)))=((HT.sIx n d v:Nat):Int):=by
 cases v with
 |none=>rfl
 |some i=>show max 0 (min (if i<0 then i+(n:Int)else i) (n:Int))=(((if i<0 then (i+(n:Int)).toNat else min i.toNat n):Nat):Int);split <;> omega
def HU(lo hi:Option Int)(n:Nat):Builtin.Str.strSliceIndices lo hi 1 n=(List.range (HT.sIx n n hi - HT.sIx n 0 lo)).map (HT.sIx n 0 lo + ·):=by
 have e:Builtin.Str.strSliceIndices lo hi 1 n=sliceRange ((HT.sIx n 0 lo:Nat):Int) ((HT.sIx n n hi:Nat):Int) 1:=by rw[<- yf n 0 lo,<- yf n n hi];rfl
 rw[e];generalize HT.sIx n 0 lo=a;generalize HT.sIx n n hi=b;unfold sliceRange;have hc:(if (1:Int) > 0 then (if (a:Int)<(b:Int)then ((b:Int) - (a:Int)+1 - 1) / 1 else 0)else (if (a:Int) > (b:Int)then ((a:Int) - (b:Int) - 1 - 1) / (-1)else 0)).toNat=b - a:=by
  rw[if_pos (by decide)];split;·rw[Int.ediv_one];omega
  ·omega
 simp only[hc];apply eQ;intro k _;omega
def Bu(x:Str)(lo hi:Option Int):(Txt.slice x lo hi).cps.toList=rm x.cps.toList lo hi:=by
 have hn:x.cps.toList.length=x.length:=Str.len_list x;unfold Txt.slice rm;rw[hn,HU];have hb:HT.sIx x.length x.length hi<=x.length:=HT.sIx_le _ _ (zq _) hi;by_cases hc:((1:Int)==1 && ((List.range (HT.sIx x.length x.length hi - HT.sIx x.length 0 lo)).map (HT.sIx x.length 0 lo + ·)).length==x.length)=true
 ·rw[if_pos hc];have h2:HT.sIx x.length x.length hi - HT.sIx x.length 0 lo=x.length:=by simpa using hc
  have h3:HT.sIx x.length 0 lo=0\/x.length=0:=by omega
  rw[h2];rcases h3 with h3|h3;·rw[h3,nE,<- hn,List.take_length]
  ·have:x.cps.toList=[]:=Zb (by rw[hn];exact h3);rw[this];simp
 ·rw[if_neg hc];have e:(λi:Nat=>x.cps[i]?)=(λi:Nat=>x.cps.toList[i]?):=by funext i;simp
  show(List.filterMap (λi:Nat=>x.cps[i]?) _).toArray.toList=_;rw[d0,e,Md]
noncomputable def OO:V->Option Int->Option Int->Hp->VK->Prop:=λx lo hi H Q=>∃y:Str,x=.str y/\y.length<=sizeLine/\Q (.str (Txt.slice y lo hi)) H
theorem sl_str:SlR X OO:=by
 intro pins s σ H x v vl vu lo hi sl Q I rx hs pl pu h;obtain⟨y,rfl,hz,q⟩:=h;obtain⟨t,rfl⟩:=rx;refine⟨"str",_,F.slot_str_getitem.lookup,oR _ _ _,?_⟩;cases pl with
 |none=>
  cases pu with
  |none=>exact k6 (l:=none) (u:=none) (st:=none) hs rfl (k7 ⟨xk (k8 y _ _) hz,λt' k=>⟨.str _,H,I.tok k,⟨t',rfl⟩,q⟩⟩)
  |int j uj=>exact k6 (l:=none) (u:=some (j,uj)) (st:=none) hs rfl (k7 ⟨xk (k8 y _ _) hz,λt' k=>⟨.str _,H,I.tok k,⟨t',rfl⟩,q⟩⟩)
 |int i ui=>
  cases pu with
  |none=>exact k6 (l:=some (i,ui)) (u:=none) (st:=none) hs rfl (k7 ⟨xk (k8 y _ _) hz,λt' k=>⟨.str _,H,I.tok k,⟨t',rfl⟩,q⟩⟩)
  |int j uj=>exact k6 (l:=some (i,ui)) (u:=some (j,uj)) (st:=none) hs rfl (k7 ⟨xk (k8 y _ _) hz,λt' k=>⟨.str _,H,I.tok k,⟨t',rfl⟩,q⟩⟩)
noncomputable def Je(lo hi:Option Int):D->Option D
 |.str x=>some (.str (rm x lo hi))
 |.tup xs=>some (.tup (rm xs lo hi))
 |.lst _ xs=>some (.lst false (rm xs lo hi))
 |_=>none
noncomputable def rSl(K:PySem.W.Frag):V->Option Int->Option Int->Hp->VK->Prop:=λx lo hi H Q=>OO x lo hi H Q\/Jx K x lo hi H Q\/OW K x lo hi H Q\/OC K x lo hi H Q
def Mg:SlR X (rSl X.K):=sl_str.or (sl_tup_whole.or (sl_tup.or GB))
noncomputable def PFO(X:Cx)(o:Option Expr)(g:Ev->R (Option Int)):Prop:=PO X o (tG X (λ_ b c=>b=c) g)
def jW:PFO X none (λ_=>.ok none):=by intro pins s σ H Q I h;obtain⟨G,ρ,st,h⟩:=h;exact Iq pins s σ H Q I (h none G H (.refl st.sub) rfl)
noncomputable def asI:D->R Int
 |.int i=>.ok i
 |_=>.no
def DF(h:PF X e ga):PFO X (some e) (λρ=>ga ρ>>=λx=>asI x>>=λi=>.ok (some i)):=by
 intro pins s σ H Q I hq;refine G8 h pins s σ H Q I ?_;obtain⟨G,ρ,st,hq⟩:=hq;refine tG.intro st hq λx v G1 H1 u1 st1 r1 h1=>?_;cases r1 with
 |int i=>exact⟨i,rfl,h1 (some i) G1 H1 (.refl st1.sub) rfl⟩
 |_=>exact h1.elim
noncomputable def gSl(ga:Ev->R D)(go gp:Ev->R (Option Int)):Ev->R D:=λρ=>ga ρ>>=λx=>go ρ>>=λl=>gp ρ>>=λu=>ofO (Je l u x)
def kg(ha:PF X a ga)(hl:PFO X lo go)(hu:PFO X hi gp):PF X (.Subscript a (.Slice lo hi none p2) pos) (gSl ga go gp):=by
 intro pins s σ H Q I h;refine DL Mg ha hl hu pins s σ H Q I ?_;obtain⟨G,ρ,st,h⟩:=h;refine tG.intro st h λx v G1 H1 u1 st1 r1 h1=>?_;refine tG.intro st1 h1 λl l' G2 H2 u2 st2 r2 h2=>?_;subst r2;refine tG.intro st2 h2 λu u' G3 H3 u3 st3 r3 h3=>?_;subst r3;obtain⟨d,e,q⟩:=ofO.ok h3;have r:=(r1.mono u2.gg).mono u3.gg;unfold Je at e;split at e;·cases e;obtain⟨y,rfl,ey,hy⟩:=r.str_inv;subst ey;exact .inl ⟨y,rfl,hy,q _ G3 H3 (.refl st3.sub) (.strL (Bu y _ _) (xk (GQ _ _ _) (by rw[Str.len_list];exact hy)))⟩
 ·rename_i xs0;cases e;obtain⟨a,vs,rfl,h,t⟩:=r.tup_inv;by_cases hw:HT.sIx vs.length 0 l'=0/\HT.sIx vs.length vs.length u'=vs.length
  ·refine .inr (.inl ⟨a,vs,rfl,h.mono st3.sub,hw,q _ G3 H3 (.refl st3.sub) ?_⟩);have e1:rm xs0 l' u'=xs0:=by unfold rm;rw[<- t.length,hw.1,hw.2,nE,Nat.sub_zero,t.length,List.take_length]
   rw[e1];exact .tup h t
  ·exact .inr (.inr (.inl ⟨a,vs,rfl,h.mono st3.sub,hw,λp hp=>q _ _ _ (.new st3.sub hp) (.tup (.of aV) ((t.cut _ _).mono (.into (st3.sub.free hp))))⟩))
 ·cases e;obtain⟨a,vs,rfl,h,t⟩:=r.seq_inv;exact .inr (.inr (.inr ⟨a,vs,rfl,h.mono st3.sub,λp hp=>q _ _ _ (.new st3.sub hp) (.lst aV ((t.cut _ _).mono (.into (st3.sub.free hp))))⟩))
 ·cases e
noncomputable def IV(K:PySem.W.Frag)(r:List V->Hp->VK->Prop)(f:List D->Option D):Prop:=∀(G H:Hp)(xs:List V)(ds:List D)(d:D)(Q:VK),Same G H->Reps K G xs ds->f ds=some d->Fin G H (Rep K) Q d->r xs H Q
def kN{id:String}{x:Str}{r:List V->Hp->VK->Prop}{f:List D->Option D}(hc:kz X (.builtin id) r)(hf:IV X.K r f)(hg:Gl X x)(hm:X.mg x=none)(hv:bootBuiltins x=some (.builtin id))(ha:PFA X (e::es) gl)(hn:x≠"__name__":=by decide)(hdb:(x==("__debug__":Str))=false:=by decide)(he:starEach (e::es) X.env=(false,eval e X.env)::starEach es X.env:=by rfl)(hpl:(backTo pos (starEach es X.env)).any (·.1)=false:=by rfl):PF X (.Call (.Name x p) (e::es) [] pos) (λρ=>gl ρ>>=λds=>ofO (f ds)):=by
 intro pins s σ H Q I h;refine kL hc hg hm hv ha hn hdb he hpl pins s σ H Q I ?_;obtain⟨G,ρ,st,h⟩:=h;refine tG.intro st h λds vs G1 H1 u1 st1 r1 h1=>?_;obtain⟨d,e,q⟩:=ofO.ok h1;exact hf G1 H1 vs ds d Q st1.sub r1 e q
def ul{T:String}{x:Str}{r:List V->Hp->VK->Prop}{f:List D->Option D}(hc:kz X (.type T) r)(hf:IV X.K r f)(hg:Gl X x)(hm:X.mg x=none)(hv:bootBuiltins x=some (.type T))(ha:PFA X (e::es) gl)(hn:x≠"__name__":=by decide)(hdb:(x==("__debug__":Str))=false:=by decide)(he:starEach (e::es) X.env=(false,eval e X.env)::starEach es X.env:=by rfl)(hpl:(backTo pos (starEach es X.env)).any (·.1)=false:=by rfl):PF X (.Call (.Name x p) (e::es) [] pos) (λρ=>gl ρ>>=λds=>ofO (f ds)):=by
 intro pins s σ H Q I h;refine AG hc hg hm hv ha hn hdb he hpl pins s σ H Q I ?_;obtain⟨G,ρ,st,h⟩:=h;refine tG.intro st h λds vs G1 H1 u1 st1 r1 h1=>?_;obtain⟨d,e,q⟩:=ofO.ok h1;exact hf G1 H1 vs ds d Q st1.sub r1 e q
def Reps.one{K:PySem.W.Frag}(r:Reps K G vs [d]):∃v,vs=[v]/\Rep K G v d:=by
 cases r with
 |cons r t=>cases t;exact⟨_,rfl,r⟩
def Reps.two{K:PySem.W.Frag}{d':D}(r:Reps K G vs [d,d']):∃v w,vs=[v,w]/\Rep K G v d/\Rep K G w d':=by
 cases r with
 |cons r t=>obtain⟨w,rfl,r'⟩:=t.one;exact⟨_,w,rfl,r,r'⟩
noncomputable def iC:List D->Option D
 | [.str x]=>some (.int x.length)
 | [.tup xs]=>some (.int xs.length)
 | [.lst _ xs]=>some (.int xs.length)
 |_=>none
def KH(hg:Gl X "len")(hm:X.mg "len"=none)(ha:PFA X [e] gl)(he:starEach [e] X.env=[(false,eval e X.env)]:=by rfl):PF X (.Call (.Name "len" p) [e] [] pos) (λρ=>gl ρ>>=λds=>ofO (iC ds)):=
 kN C8 (by
  intro G H xs ds d Q s r e q;unfold iC at e;split at e;·cases e;obtain⟨v,rfl,r1⟩:=r.one;obtain⟨y,rfl,ey,hy⟩:=r1.str_inv;subst ey;exact⟨_,y.length,rfl,⟨hy,rfl⟩,by rw[<- Str.len_list];exact q _ G H (.refl s) (.int _)⟩
  ·cases e;obtain⟨v,rfl,r1⟩:=r.one;obtain⟨a,vs,rfl,h,t⟩:=r1.tup_inv;exact⟨_,vs.length,rfl,.inr ⟨vs,h.mono s,rfl⟩,by rw[t.length];exact q _ G H (.refl s) (.int _)⟩
  ·cases e;obtain⟨v,rfl,r1⟩:=r.one;obtain⟨a,vs,rfl,h,t⟩:=r1.seq_inv;exact⟨_,vs.length,rfl,.inl ⟨vs,h.mono s,rfl⟩,by rw[t.length];exact q _ G H (.refl s) (.int _)⟩
  ·cases e) hg hm PySem.boot_len ha (he:=by rw[he];rfl)
noncomputable def Jd:List D->Option D
 | [.int i,.int j]=>some (.int (if j<i then j else i))
 |_=>none
def J3(K:PySem.W.Frag):IV K (λxs H Q=>∃i j,xs=[.int i,.int j]/\Q (.int (if j<i then j else i)) H) Jd:=by
 intro G H xs ds d Q s r e q;unfold Jd at e;split at e;·cases e;obtain⟨v,w,rfl,r1,r2⟩:=r.two;obtain rfl:=r1.int_inv;obtain rfl:=r2.int_inv;exact⟨_,_,rfl,q _ G H (.refl s) (.int _)⟩
 ·cases e
end
noncomputable def ItOk(K:PySem.W.Frag)(G₁:Hp)(J:It)(items:List D):Prop:=∀(i:Nat)(G H:Hp),Same G₁ G->Same G H->
 (∀d,items[i]?=some d->J.go i H/\∀x H',J.yld i H x H'->∃G',Up G H G' H'/\Rep K G' x d)/\(items.length<=i->J.stop i H)
noncomputable def PIF(X:Cx)(tg iter:Expr)(g:Ev->R (List D)):Prop:=PI X tg iter (tG X (λG J items=>ItOk X.K G J items) g)
noncomputable def Its(x:Str):It:=⟨λi _=>i<x.cps.size,λi H v H'=>H'=H/\∃c,x.cps[i]?=some c/\v=.str ⟨#[c]⟩,λi _=>x.cps.size<=i⟩
section
variable{a e:Expr}{ga:Ev->R D}{pos:Pos}
def Ad{Rr:It->Hp->Prop}(I:Inv X pins σ H s)(h:SqL X.K H l xs)(q:Rr (Itl X.K l) H):
  wpAny (model X.prog X.w) X.A (pyIter (.ref l)) (PIE X pins σ tg Rr) X.xe s:=by
 obtain⟨its,rv,p,hz⟩:=I.list h;refine k9 p.isList ?_;refine⟨s.heap.objs.size,[s.heap.objs.size],_,_,H,rfl,I.kept (t':=s.toks) λb o e=>zL _ e,B5 l _,⟨_,xj _ rfl,rfl,rfl⟩,λb hb=>?_,q⟩;have e:b=s.heap.objs.size:=by simpa using hb
 subst e;exact I.fpOk (zq _) (I.hok.fresh (zq _))
def KZ{Rr:It->Hp->Prop}(I:Inv X pins σ H s)(h:SqT X.K H l xs)(q:Rr (Itt X.K l) H):
  wpAny (model X.prog X.w) X.A (pyIter (.ref l)) (PIE X pins σ tg Rr) X.xe s:=by
 obtain⟨its,rv,p,hz⟩:=I.tuple h;refine kG (show s.heap.IsTuple l its.toArray from p) ?_;refine⟨s.heap.objs.size,[s.heap.objs.size],_,_,H,rfl,I.kept (t':=s.toks) λb o e=>zL _ e,yW l _,⟨_,xj _ rfl,rfl,rfl⟩,λb hb=>?_,q⟩;have e:b=s.heap.objs.size:=by simpa using hb
 subst e;exact I.fpOk (zq _) (I.hok.fresh (zq _))
def zK{w:World}{K:PySem.W.Frag}(it:Addr)(x:Str)(t:Tok):Turn P w K tg (Its x) [it] it (λi h=>h.IsStrIter it "str_ascii_iterator" x t i) where
 mem:=by simp
 obj:=λi h st b hb=>by
  have e:b=it:=by simpa using hb
  subst e;obtain⟨o,e,c,d⟩:=st;exact⟨o,e,λv z=>by rw[d]at z;cases z⟩
 keep:=λi h h' st k=>let⟨o,ho,r⟩:=st;⟨o,k it (by simp) o ho,r⟩
 item:=by intro X hP hw hK hc i pins s σ H E I hf st hg;subst hP hw hK;have hg':i<x.cps.size:=hg;obtain⟨f0,f1,f2,f3,f4,f5⟩:=hf it (by simp);refine wpAny_pyNext_ascii_item st (c:=x.cps[i]) (by simp[hg']) λh' st' sb=>?_;have I1:Inv X pins σ H { s with heap:=h',toks:=s.toks+1 }:=I.turned (t':=s.toks+1) (λb o hb e=>(sb.2 b hb).trans e) f0 f1 f3 f4 f5;obtain⟨o,e,c,d⟩:=id st';exact⟨_,rfl,B0 (s:={ s with heap:=h',toks:=s.toks+1 }) e c d (by decide) ⟨.str ⟨#[x.cps[i]]⟩,H,I1,⟨_,rfl⟩,⟨rfl,_,by simp[hg'],rfl⟩,st',λb hb=>(hf b hb).1⟩⟩
 done:=by intro X hP hw hK hc i pins s σ H E I hf st hg;subst hP hw hK;obtain⟨f0,f1,f2,f3,f4,f5⟩:=hf it (by simp);have hg':x.cps.size<=i:=hg;exact wpAny_pyNext_ascii_end (I.ok.hd hc) st (by simp;omega) λh' eb=>⟨rfl,I.turned (t':=s.toks) (λb o hb e=>eb b o hb e) f0 f1 f3 f4 f5⟩
 self:=λ_ _ _ _ _ st h=>wpAny_pyIter_striter_ascii st h
def Bh{w:World}{K:PySem.W.Frag}(it:Addr)(x:Str)(t:Tok):Turn P w K tg (Its x) [it] it (λi h=>h.IsStrIter it "str_iterator" x t i) where
 mem:=by simp
 obj:=λi h st b hb=>by
  have e:b=it:=by simpa using hb
  subst e;obtain⟨o,e,c,d⟩:=st;exact⟨o,e,λv z=>by rw[d]at z;cases z⟩
 keep:=λi h h' st k=>let⟨o,ho,r⟩:=st;⟨o,k it (by simp) o ho,r⟩
 item:=by intro X hP hw hK hc i pins s σ H E I hf st hg;subst hP hw hK;have hg':i<x.cps.size:=hg;obtain⟨f0,f1,f2,f3,f4,f5⟩:=hf it (by simp);refine wpAny_pyNext_wide_item st (c:=x.cps[i]) (by simp[hg']) λh' st' sb=>?_;have I1:Inv X pins σ H { s with heap:=h',toks:=s.toks+1 }:=I.turned (t':=s.toks+1) (λb o hb e=>(sb.2 b hb).trans e) f0 f1 f3 f4 f5;obtain⟨o,e,c,d⟩:=id st';exact⟨_,rfl,B0 (s:={ s with heap:=h',toks:=s.toks+1 }) e c d (by decide) ⟨.str ⟨#[x.cps[i]]⟩,H,I1,⟨_,rfl⟩,⟨rfl,_,by simp[hg'],rfl⟩,st',λb hb=>(hf b hb).1⟩⟩
 done:=by intro X hP hw hK hc i pins s σ H E I hf st hg;subst hP hw hK;obtain⟨f0,f1,f2,f3,f4,f5⟩:=hf it (by simp);have hg':x.cps.size<=i:=hg;exact wpAny_pyNext_wide_end (I.ok.hd hc) st (by simp;omega) λh' eb=>⟨rfl,I.turned (t':=s.toks) (λb o hb e=>eb b o hb e) f0 f1 f3 f4 f5⟩
 self:=λ_ _ _ _ _ st h=>wpAny_pyIter_striter_wide st h
def KG{x:Str}{t:Tok}{Rr:It->Hp->Prop}(I:Inv X pins σ H s)(q:Rr (Its x) H):
  wpAny (model X.prog X.w) X.A (pyIter (.str x t)) (PIE X pins σ tg Rr) X.xe s:=by
 have fp:∀(o:Obj),∀b∈[s.heap.objs.size],qq X pins H b:=λo b hb=>by
  have e:b=s.heap.objs.size:=by simpa using hb
  subst e;exact I.fpOk (zq _) (I.hok.fresh (zq _))
 cases ha:x.cps.all (· < 128);·refine wpAny_pyIter_wide ha ⟨s.heap.objs.size,[s.heap.objs.size],_,_,H,rfl,I.kept (t':=s.toks) λb o e=>zL _ e,Bh _ x t,⟨_,xj _ rfl,rfl,rfl⟩,fp default,q⟩
 ·refine wpAny_pyIter_ascii ha ⟨s.heap.objs.size,[s.heap.objs.size],_,_,H,rfl,I.kept (t':=s.toks) λb o e=>zL _ e,zK _ x t,⟨_,xj _ rfl,rfl,rfl⟩,fp default,q⟩
noncomputable def bH:D->R (List D)
 |.lst _ xs=>.ok xs
 |.tup xs=>.ok xs
 |.str x=>.ok (x.map λc=>.str [c])
 |_=>.no
def ItOk.list{K:PySem.W.Frag}(h:SqL K G l vs)(r:Reps K G vs ds):ItOk K G (Itl K l) ds:=by intro i G1 H1 s1 s2;refine⟨λd e=>?_,λhl=>⟨vs,(h.mono s1).mono s2,by rw[r.length];exact hl⟩⟩;obtain⟨v,ev,rv⟩:=r.get e;refine⟨⟨vs,v,(h.mono s1).mono s2,ev⟩,λx H' y=>?_⟩;obtain⟨rfl,y⟩:=y;have:=y vs ((h.mono s1).mono s2);rw[ev]at this;cases this;exact⟨G1,.refl s2,rv.mono s1⟩
def ItOk.tup{K:PySem.W.Frag}(h:SqT K G l vs)(r:Reps K G vs ds):ItOk K G (Itt K l) ds:=by intro i G1 H1 s1 s2;refine⟨λd e=>?_,λhl=>⟨vs,(h.mono s1).mono s2,by rw[r.length];exact hl⟩⟩;obtain⟨v,ev,rv⟩:=r.get e;refine⟨⟨vs,v,(h.mono s1).mono s2,ev⟩,λx H' y=>?_⟩;obtain⟨rfl,y⟩:=y;have:=y vs ((h.mono s1).mono s2);rw[ev]at this;cases this;exact⟨G1,.refl s2,rv.mono s1⟩
def ItOk.str{K:PySem.W.Frag}(x:Str):ItOk K G (Its x) (x.cps.toList.map λc=>.str [c]):=by
 intro i G1 H1 s1 s2;refine⟨λd e=>?_,λhl=>show x.cps.size<=i by simpa using hl⟩;rw[wZ]at e;cases ec:x.cps.toList[i]? with
 |none=>rw[ec]at e;cases e
 |some c=>
  rw[ec]at e;cases e;have hi:i<x.cps.size:=by have:=(wK.mp ec).1;simpa using this
  refine⟨hi,λv H' y=>?_⟩;obtain⟨rfl,c',e',rfl⟩:=y;have:c'=c:=by
   have h2:x.cps.toList[i]?=x.cps[i]?:=by simp
   rw[h2,e']at ec;exact xf ec
  subst this;exact⟨G1,.refl s2,.strL rfl FT⟩
def ItOk.range{K:PySem.W.Frag}(lo:Int)(n:Nat):ItOk K G (Itr lo n) ((List.range n).map λi=>.int (lo+(i:Nat))):=by
 intro i G1 H1 s1 s2;refine⟨λd e=>?_,λhl=>show n<=i by simpa using hl⟩;rw[wZ]at e;by_cases hi:i<n;·rw[d3 hi]at e;cases e;refine⟨hi,λv H' y=>?_⟩;obtain⟨rfl,rfl⟩:=y;exact⟨G1,.refl s2,.int _⟩
 ·rw[d4 (by simpa using hi)]at e;cases e
def HM(ha:PF X a ga):PIF X tg a (λρ=>ga ρ>>=bH):=by
 intro pins s σ H Rr I h;obtain⟨G,ρ,st,h⟩:=h;have t:tF X ga σ H (λx H1=>∃G1 d,Same G1 H1/\Rep X.K G1 x d/\(bH d).post (Fin G1 H1 (λG J items=>ItOk X.K G J items) Rr) (Exx X σ G1 H1)):=
  tG.intro st h λx v G1 H1 u1 st1 r1 h1=>⟨G1,x,st1.sub,r1,h1⟩
 refine thn (ha pins s σ H _ I t) λv s1 ⟨x,H1,I1,r1,G1,d,sub,rd,h1⟩=>?_;cases rd with
 |lst hh r=>cases r1;exact Ad I1 (.of (sub _ _ hh)) (h1 _ G1 H1 (.refl sub) (.list (.of hh) r))
 |fls hh r=>cases r1;exact Ad I1 (hh.mono sub) (h1 _ G1 H1 (.refl sub) (.list hh r))
 |tup hh r=>cases r1;exact KZ I1 (hh.mono sub) (h1 _ G1 H1 (.refl sub) (.tup hh r))
 |str y hy=>obtain⟨t,rfl⟩:=r1;exact KG I1 (h1 _ G1 H1 (.refl sub) (.str y))
 |_=>exact h1.elim
noncomputable def tR:List D->R (List D)
 | [.int j]=>if -(2 ^ 62)<=j/\j<2 ^ 62 then .ok ((List.range j.toNat).map λi=>.int (0+(i:Nat)))else .no
 |_=>.no
noncomputable def sx:List D->R (List D)
 | [.int i,.int j]=>if -(2 ^ 62)<=i/\i<2 ^ 62/\-(2 ^ 62)<=j/\j<2 ^ 62 then .ok ((List.range (j - i).toNat).map λk=>.int (i+(k:Nat)))else .no
 |_=>.no
def zo(hg:Gl X "range")(hm:X.mg "range"=none)(ha:PFA X [a] gl)(hs:starEach [a] X.env=[(false,eval a X.env)]:=by rfl):PIF X tg (.Call (.Name "range" p) [a] [] pos) (λρ=>gl ρ>>=tR):=by
 intro pins s σ H Rr I h;refine Bx hg hm ha hs pins s σ H Rr I ?_;obtain⟨G,ρ,st,h⟩:=h;refine tG.intro st h λds vs G1 H1 u1 st1 r1 h1=>?_;unfold tR at h1;split at h1
 ·split at h1;·rename_i hj;obtain⟨v,rfl,r⟩:=r1.one;obtain rfl:=r.int_inv;exact⟨_,rfl,hj.1,hj.2,h1 _ G1 H1 (.refl st1.sub) (.range 0 _)⟩
  ·exact h1.elim
 ·exact h1.elim
def zg{b:Expr}(hg:Gl X "range")(hm:X.mg "range"=none)(ha:PFA X [a,b] gl)(hs:starEach [a,b] X.env=[(false,eval a X.env),(false,eval b X.env)]:=by rfl)(hs2:starEach [b] X.env=[(false,eval b X.env)]:=by rfl):
  PIF X tg (.Call (.Name "range" p) [a,b] [] pos) (λρ=>gl ρ>>=sx):=by
 intro pins s σ H Rr I h;refine Bg hg hm ha hs hs2 pins s σ H Rr I ?_;obtain⟨G,ρ,st,h⟩:=h;refine tG.intro st h λds vs G1 H1 u1 st1 r1 h1=>?_;unfold sx at h1;split at h1
 ·split at h1;·rename_i hj;obtain⟨v,w,rfl,r,r'⟩:=r1.two;obtain rfl:=r.int_inv;obtain rfl:=r'.int_inv;exact⟨_,_,rfl,hj,h1 _ G1 H1 (.refl st1.sub) (.range _ _)⟩
  ·exact h1.elim
 ·exact h1.elim
end
noncomputable def ObSt(K:PySem.W.Frag)(H₀ G H:Hp)(σ:St)(ρ:Ev):Prop:=
 ∃ow:kK,(∀(i:Nat) ds l,ρ[i]?=some (some (.own ds))->σ[i]?=some (some (.ref l))->ow l=some (i,0))/\
  ∀(i:Nat) m C p fs,ρ[i]?=some (some (.obj m C p fs))->σ[i]?=some (some (.ref p))/\ObjAt K H₀ G H ow i m C p fs
def ObSt.rd{K:PySem.W.Frag}{H₀:Hp}(h:ObSt K H₀ G H σ ρ):∀(i:Nat) m C p fs,ρ[i]?=some (some (.obj m C p fs))->σ[i]?=some (some (.ref p))/\∃ow,ObjAt K (λ_=>none) G H ow i m C p fs:=λi m C p fs e=>by obtain⟨ow,_,o2⟩:=h;exact⟨(o2 i m C p fs e).1,ow,(o2 i m C p fs e).2.rd⟩
noncomputable def NoOwn(ρ:Ev):Prop:=∀(j:Nat)(x:Sl),ρ[j]?=some (some x)->∃d,x=.val d
def NoOwn.own(h:NoOwn ρ)(j:Nat)(ds:List D):ρ[j]?≠some (some (.own ds)):=λe=>by obtain⟨d,z⟩:=h j _ e;cases z
def NoOwn.obj(h:NoOwn ρ)(j:Nat)(m:Bool)(C p:Addr)(fs:List (Nat×Fd)):ρ[j]?≠some (some (.obj m C p fs)):=λe=>by obtain⟨d,z⟩:=h j _ e;cases z
def NoOwn.ob{K:PySem.W.Frag}{H₀:Hp}(h:NoOwn ρ):ObSt K H₀ G H σ ρ:=
 ⟨λ_=>none,λi ds l e=>absurd e (h.own i ds),λi m C p fs e=>absurd e (h.obj i m C p fs)⟩
structure StR(K:PySem.W.Frag)(G₀ H₀ G H:Hp)(σ:St)(ρ:Ev):Prop where
 e:StE K G H σ ρ
 sub0:Same G₀ H₀
 up:Up G₀ H₀ G H
 own:∀(i:Nat) ds,ρ[i]?=some (some (.own ds))->∃l vs,σ[i]?=some (some (.ref l))/\H l=some (.lst vs)/\G l=none/\H₀ l=none/\Reps K G vs ds
 inj:∀(i j:Nat) ds es l,ρ[i]?=some (some (.own ds))->ρ[j]?=some (some (.own es))->σ[i]?=some (some (.ref l))->σ[j]?=some (some (.ref l))->i=j
 ob:ObSt K H₀ G H σ ρ
section
variable{K:PySem.W.Frag}{H₀ G':Hp}
def StR.ups(s:StR K G₀ H₀ G H σ ρ)(u:Up G H G' H'):StR K G₀ H₀ G' H' σ ρ:=⟨s.e.up u,s.sub0,s.up.trans u,(λi ds e=>by
 obtain⟨l,vs,h1,h2,h3,h4,h5⟩:=s.own i ds e;refine⟨l,vs,h1,u.hh _ _ h2,?_,h4,h5.mono u.gg⟩;cases q:G' l with
 |none=>rfl
 |some o=>
  rcases u.fr l o q with z|z;·rw[h3]at z;cases z
  ·rw[h2]at z;cases z),s.inj,by
 obtain⟨ow,o1,o2⟩:=s.ob;exact⟨ow,o1,λi m C p fs e=>⟨(o2 i m C p fs e).1,(o2 i m C p fs e).2.keep (.up u)⟩⟩⟩
def StR.set(s:StR K G₀ H₀ G H σ ρ)(r:Rep K G v d)(i:Nat):StR K G₀ H₀ G H (σ.set i (some v)) (ρ.set i (some (.val d))):=by
 have get:∀(j:Nat) x,(ρ.set i (some (.val d)))[j]?=some (some x)->(j=i/\x=.val d/\i<σ.length)\/(j≠i/\ρ[j]?=some (some x)/\(σ.set i (some v))[j]?=σ[j]?):=λj x h=>by
  by_cases e:i=j
  ·subst e;have hl:i<ρ.length:=by have:=(wK.mp h).1;simpa using this
   rw[v9 hl]at h;exact .inl ⟨rfl,by injection (xf h)with q;exact q.symm,by rw[s.e.len];exact hl⟩
  ·rw[vU e]at h;exact .inr ⟨λz=>e z.symm,h,vU e⟩
 have ob:ObSt K H₀ G H (σ.set i (some v)) (ρ.set i (some (.val d))):=by
  obtain⟨ow,o1,o2⟩:=s.ob;refine⟨ow,λj ds l h1 h2=>?_,λj m C p fs h1=>?_⟩
  ·rcases get j _ h1 with⟨_,e,_⟩|⟨_,e,e'⟩;·cases e
   ·exact o1 j ds l e (e'▸h2)
  ·rcases get j _ h1 with⟨_,e,_⟩|⟨_,e,e'⟩;·cases e
   ·rw[e'];exact o2 j m C p fs e
 refine⟨⟨s.e.sub,by simp[s.e.len],λj d' h=>?_,ob.rd⟩,s.sub0,s.up,λj ds h=>?_,λj k ds es l h1 h2 h3 h4=>?_,ob⟩
 ·rcases get j _ h with⟨rfl,e,hl⟩|⟨_,e,e'⟩;·cases e;exact⟨v,v9 hl,r⟩
  ·rw[e'];exact s.e.val j d' e
 ·rcases get j _ h with⟨_,e,_⟩|⟨_,e,e'⟩;·cases e
  ·rw[e'];exact s.own j ds e
 ·rcases get j _ h1 with⟨_,e,_⟩|⟨_,e,e'⟩;·cases e
  ·rcases get k _ h2 with⟨_,f,_⟩|⟨_,f,f'⟩;·cases f
   ·exact s.inj j k ds es l e f (e'▸h3) (f'▸h4)
end
noncomputable def PGF(X:Cx)(tg:Expr)(asg:D->Ev->R Ev):Prop:=PG X tg (λv σ H Q=>∃G₀ H₀ G ρ d ρ',StR X.K G₀ H₀ G H σ ρ/\Rep X.K G v d/\asg d ρ=.ok ρ'/\∀σ',StR X.K G₀ H₀ G H σ' ρ'->Q σ' H)
section
variable{pos:Pos}
noncomputable def wb(i:Nat):D->Ev->R Ev:=λd ρ=>.ok (ρ.set i (some (.val d)))
def fB(i:Nat){x:Str}(hN:X.N.Nodup)(hi:X.N[i]?=some x:=by rfl)(hx:Loc X.env.scope x:=by first|exact Or.inl rfl|exact Or.inr rfl)(hf:X.fn x=true\/X.env.scope.names.lookup x=some .local:=by first|exact .inl rfl|exact .inr rfl):PGF X (.Name x pos) (wb i):=by
 intro pins s σ H v u Q I r h;obtain⟨G₀,H₀,G,ρ,d,ρ',st,rd,e,q⟩:=h;cases e;exact mj hN hi hx hf pins s σ H v u Q I r (q _ (st.set rd i))
end
noncomputable def pT(K:PySem.W.Frag)(G H:Hp)(Q:VK):List D->Prop:=λds=>∀l vs G' H',Up G H G' H'->H' l=none->Reps K G' vs ds->Q (.ref l) (upd H' l (.lst vs))
noncomputable def tL(X:Cx)(g:Ev->R (List D)):TE:=λσ H Q=>∃G ρ,StE X.K G H σ ρ/\(g ρ).post (pT X.K G H Q) (Exx X σ G H)
noncomputable def PFL(X:Cx)(e:Expr)(g:Ev->R (List D)):Prop:=PE X e (tL X g)
def xY{e:Expr}{g:Ev->R (List D)}(h:PFL X e g):PF X e (λρ=>g ρ>>=λds=>.ok (.lst false ds)):=by
 intro pins s σ H Q I hq;refine h pins s σ H Q I ?_;obtain⟨G,ρ,st,hq⟩:=hq
 try dsimp only at hq
 refine⟨G,ρ,st,?_⟩;cases e:g ρ with
 |ok ds=>rw[e]at hq;intro l vs G' H' u hl r;exact hq _ _ _ (u.trans (.new u.sub hl)) (.lst aV (r.mono (.into (u.sub.free hl))))
 |ex C=>rw[e]at hq;exact hq
 |no=>rw[e]at hq;exact hq
def IU{pos:Pos}(h:PFA X es gl):PFL X (.List es pos) (λρ=>gl ρ>>=λds=>if ds.length<=sizeLine then .ok ds else .no):=by
 intro pins s σ H Q I hq;refine AN h pins s σ H Q I ?_;obtain⟨G,ρ,st,hq⟩:=hq
 try dsimp only at hq
 refine⟨G,ρ,st,?_⟩;cases e:gl ρ with
 |ok ds=>
  rw[e]at hq;intro vs G' H' u r;simp only[R.ok_bind]at hq;split at hq;·rename_i hz;exact⟨by rw[r.length];exact hz,λp hp=>hq p vs G' H' u hp r⟩
  ·exact hq.elim
 |ex C=>rw[e]at hq;exact hq
 |no=>rw[e]at hq;exact hq
noncomputable def nD(env:Env):List (Str×NameKind)->List (Str×Addr)->List (Str×Addr)
 | [],cs=>cs
 | (n,k)::r,cs=>nD env r (if (k==.free)=true then (match env.cells.lookup n with|some c=>(n,c)::cs|none=>cs)else cs)
theorem yk{env:Env}{F:Str×NameKind->List (Str×Addr)->Sem (ForInStep (List (Str×Addr)))}(hF:∀n k r,(k=NameKind.free->∃c,env.cells.lookup n=some c)->F (n,k) r=pure (ForInStep.yield (if (k==.free)=true then (match env.cells.lookup n with|some c=>(n,c)::r|none=>r)else r))):
  ∀(l:List (Str×NameKind))(cs:List (Str×Addr)),(∀x∈l,x.2=.free->∃c,env.cells.lookup x.1=some c)->forIn l cs F=pure (nD env l cs)
 | [],cs,_=>rfl
 | (n,k)::l,cs,h=>by rw[d5,hF n k cs (h (n,k) v8),pure_bind];exact yk hF l _ λy hy=>h y (wB _ hy)
def eN{env:Env}(h:∀x∈scope.names,x.2=.free->∃c,env.cells.lookup x.1=some c):closureFor scope env=pure (nD env scope.names []):=by
 simp only[closureFor];rw[yk (env:=env) (λn k r hk=>?_) scope.names [] h];·rfl
 ·by_cases hf:(k==NameKind.free)=true;·obtain⟨c,hc⟩:=hk (by simpa using hf);simp only[hf,xK,cellOf,hc,pure_bind]
  ·simp only[hf,uM];rfl
theorem yM{env:Env}:∀(l:List (Str×NameKind))(cs:List (Str×Addr)),(∀x c,cs.lookup x=some c->env.cells.lookup x=some c)->∀x c,(nD env l cs).lookup x=some c->env.cells.lookup x=some c
 | [],cs,h,x,c,e=>h x c e
 | (n,k)::l,cs,h,x,c,e=>by
  unfold nD at e;refine yM l _ (λy d ed=>?_) x c e;split at ed
  ·split at ed
   ·rename_i c' hc';rw[xO]at ed;split at ed;·rename_i q;rw[p7 q];rw[<- xf ed];exact hc'
    ·exact h y d ed
   ·exact h y d ed
  ·exact h y d ed
theorem sB{env:Env}:∀(l:List (Str×NameKind))(cs:List (Str×Addr))(x:Str),((∃c,cs.lookup x=some c)\/((x,NameKind.free)∈l/\∃c,env.cells.lookup x=some c))->∃c,(nD env l cs).lookup x=some c
 | [],cs,x,h=>by
  rcases h with h|⟨h,_⟩;·exact h
  ·cases h
 | (n,k)::l,cs,x,h=>by
  unfold nD;refine sB l _ x ?_;rcases h with⟨c,h⟩|⟨h,c,hc⟩
  ·left;split
   ·split
    ·rename_i c' _;rw[xO];split;·exact⟨_,rfl⟩
     ·exact⟨c,h⟩
    ·exact⟨c,h⟩
   ·exact⟨c,h⟩
  ·rcases y9.mp h with e|h;·cases e;left;rw[if_pos (by rfl),hc];exact⟨c,by simp[xO]⟩
   ·exact .inr ⟨h,c,hc⟩
noncomputable def aO(X:Cx)(N':List Str)(scope:Scope)(C:Addr)(s₂:Shared)(H₂:Hp)(fp:List Addr):Cx:=
 { X with N:=N',s₀:=s₂,H₀:=H₂,env:=compEnvC scope (nD X.env scope.names []) C X.env,outer:=X.stack,stack:=X.stack,ex:=fp,fn:=λ_=>false,pn:=[],xe:=λ_ _=>False }
noncomputable def fq{α:Type}:R α->R α
 |.ok a=>.ok a
 |_=>.no
noncomputable def mz(ix:List Nat)(ρ:Ev):Ev:=none::ix.map λ(i:Nat)=>match ρ[i]? with
 |some (some (.val d))=>some (.val d)
 |_=>none
noncomputable def fh(n:Nat)(ix:List Nat)(ρ:Ev):Ev:=List.replicate n none++ix.map λ(i:Nat)=>match ρ[i]? with
 |some (some (.val d))=>some (.val d)
 |_=>none
noncomputable def iZ(asg:D->Ev->R Ev)(gt:Ev->R Bool)(ge:Ev->R D):List D->Ev->R (List D)
 | [],_=>.ok []
 |d::ds,ρ=>fq (asg d ρ)>>=λρ1=>fq (gt ρ1)>>=λk=>if k=true then fq (ge ρ1)>>=λx=>iZ asg gt ge ds ρ1>>=λxs=>.ok (x::xs)else iZ asg gt ge ds ρ1
noncomputable def kr(gt:Ev->R Bool)(ge:Ev->R D):List D->Ev->R (List D):=iZ (wb 0) gt ge
theorem mm{asg:D->Ev->R Ev}{gt:Ev->R Bool}{ge:Ev->R D}:∀(ds:List D)(ρ:Ev),(∃xs,iZ asg gt ge ds ρ=.ok xs)\/iZ asg gt ge ds ρ=.no
 | [],ρ=>.inl ⟨[],rfl⟩
 |d::ds,ρ=>by
  unfold iZ;cases asg d ρ with
  |ok ρ1=>
   simp only[fq,R.ok_bind];cases gt ρ1 with
   |ok k=>
    simp only[fq,R.ok_bind];cases k with
    |true=>
     simp only[xK];cases ge ρ1 with
     |ok x=>
      simp only[fq,R.ok_bind];rcases mm (asg:=asg) ds ρ1 with⟨xs,e⟩|e;·rw[e];exact .inl ⟨_,rfl⟩
      ·rw[e];exact .inr rfl
     |ex C=>exact .inr rfl
     |no=>exact .inr rfl
    |false=>simp only[nK,uM];exact mm ds _
   |ex C=>exact .inr rfl
   |no=>exact .inr rfl
  |ex C=>exact .inr rfl
  |no=>exact .inr rfl
noncomputable def dD(gi:Ev->R (List D))(ix:List Nat)(gt:Ev->R Bool)(ge:Ev->R D):Ev->R (List D):=λρ=>gi ρ>>=λitems=>kr gt ge items (mz ix ρ)>>=λds=>if ds.length<=sizeLine then .ok ds else .no
noncomputable def kh(n:Nat)(asg:D->Ev->R Ev)(gi:Ev->R (List D))(ix:List Nat)(gt:Ev->R Bool)(ge:Ev->R D):Ev->R (List D):=λρ=>gi ρ>>=λitems=>iZ asg gt ge items (fh n ix ρ)>>=λds=>if ds.length<=sizeLine then .ok ds else .no
noncomputable def PTs(X:Cx)(ifs:List Expr)(gt:Ev->R Bool):Prop:=∀(pins:List (Addr×Obj))(s:Shared)(σ:St)(H:Hp)(Q:Bool->Hp->Prop),Inv X pins σ H s->tTF X gt σ H Q->
 wpAny (model X.prog X.w) X.A (forIn ifs true λc r=>if r=true then do let ok <- isTrue c X.env (eval c X.env);pure (ForInStep.yield ok)else pure (ForInStep.yield r)) (TP X pins σ Q) X.xe s
def bI:PTs X [] (λ_=>.ok true):=by intro pins s σ H Q I h;obtain⟨G,ρ,st,h⟩:=h;exact zd ⟨H,I,h true G H (.refl st.sub) rfl⟩
def Iz{c:Expr}{gt:Ev->R Bool}(h:PB X c gt):PTs X [c] gt:=λpins s σ H Q I q=>wpAny_tests_one (h pins s σ H Q I q)
def Un.sameBut{fs ex:List Addr}{h1 h2:Heap}(u:Un fs ex H H' h h1)(k:∀b o,b≠C->h1.get? b=some o->h2.get? b=some o)(hC:h.objs.size<=C):Un fs ex H H' h h2:=by have ne:∀b o,h.get? b=some o->b≠C:=λb o e=>xh (ww (zj e) hC);exact⟨λb o e n hb hx=>k b o (ne b o e) (u.keep b o e n hb hx),λb o e n hb hx=>let⟨sl,q⟩:=u.slot b o e n hb hx;⟨sl,k b _ (ne b o e) q⟩,u.free,λb o e hx=>let⟨o',q⟩:=u.there b o e hx;⟨o',k b o' (ne b o e) q⟩,u.tups,u.frzs,u.tbls⟩
def HOk.sameBut{w:World}(x:HOk P w H h)(k:∀b o,b≠C->h.get? b=some o->h'.get? b=some o)(hC:H C=none):HOk P w H h':=λa o e=>by
 refine(x a o e).stay (λb u hb q=>k b u ?_ q) (λ_ z=>z) (λ_ _ z=>z);rcases hb with rfl|hb;·exact aJ e hC
 ·exact aJ hb hC
section
variable{elt:Expr}{x:Str}{px pos:Pos}{gt:Ev->R Bool}
structure CompOk(X:Cx)(scope:Scope)(x:Str)(N':List Str)(ix:List Nat):Prop where
 kind:scope.kind=.function
 cell:∀y∈scope.names,y.2≠.cell
 names:∀y∈scope.names,y.2=.local->scope.names.lookup y.1=some .local
 loc:scope.names.lookup x=some .local
 fr:∀y∈scope.names,y.2=.free->X.env.kindOf y.1=some .cell
 nd:N'.Nodup
 hd:N'[0]?=some x
 tl:N'.tail=ix.map λ(i:Nat)=>X.N.getD i Str.empty
 lt:∀i∈ix,i<X.N.length
 fre:∀y∈N'.tail,scope.names.lookup y=some .free/\(y,NameKind.free)∈scope.names
structure CompOkT(X:Cx)(scope:Scope)(n:Nat)(N':List Str)(ix:List Nat):Prop where
 kind:scope.kind=.function
 cell:∀y∈scope.names,y.2≠.cell
 names:∀y∈scope.names,y.2=.local->scope.names.lookup y.1=some .local
 fr:∀y∈scope.names,y.2=.free->X.env.kindOf y.1=some .cell
 le:n<=N'.length
 tl:N'.drop n=ix.map λ(i:Nat)=>X.N.getD i Str.empty
 lt:∀i∈ix,i<X.N.length
 fre:∀y∈N'.drop n,scope.names.lookup y=some .free/\(y,NameKind.free)∈scope.names
def CompOk.t(ok:CompOk X scope x N' ix):CompOkT X scope 1 N' ix:=
 ⟨ok.kind,ok.cell,ok.names,ok.fr,(wK.mp ok.hd).1,List.drop_one▸ok.tl,ok.lt,List.drop_one▸ok.fre⟩
theorem mF{env:Env}(hk:env.scope.kind=.function):∀{names:List (Str×NameKind)}{x:Str},names.lookup x=some .free->env.kindOf x=some .cell->
  (names.map λ(n,k)=>if (k==NameKind.free && env.scope.kind==.function && env.kindOf n==some .cell)then (n,NameKind.cell)else (n,k)).lookup x=some .cell
 | [],_,h,_=>by simp at h
 | (n,k)::r,x,h,hc=>by
  have ih:=@mF env hk r x;show List.lookup x ((if (k==NameKind.free && env.scope.kind==.function && env.kindOf n==some .cell)=true then (n,NameKind.cell)else (n,k))::_)=_;cases hx:x==n with
  |true=>simp only[xO,hx]at h;cases h;have e:=p7 hx;subst e;rw[if_pos (by rw[hk,hc];rfl)];simp[xO]
  |false=>
   simp only[xO,hx]at h;by_cases hc':(k==NameKind.free && env.scope.kind==.function && env.kindOf n==some .cell)=true;·rw[if_pos hc'];simp only[xO,hx];exact ih h hc
   ·rw[if_neg hc'];simp only[xO,hx];exact ih h hc
def Bc(h:(fh n ix ρ)[j]?=some (some (.val d))):∃k i,j=k+n/\ix[k]?=some i/\ρ[i]?=some (some (.val d)):=by
 unfold fh at h;by_cases hj:j<n;·rw[q9 (by simpa using hj),p6,if_pos hj]at h;cases h
 ·rw[qC (by simpa using tz.1 hj),sh,wZ]at h;cases e:ix[j - n]? with
  |none=>rw[e]at h;cases h
  |some i=>
   rw[e]at h;refine⟨j - n,i,by omega,e,?_⟩;simp only[t8,Option.some.injEq]at h;split at h;·rename_i d' e';cases h;exact e'
   ·cases h
noncomputable def fW(n:Nat)(ix:List Nat)(σ:St):St:=List.replicate n none++ix.map λ(i:Nat)=>(σ[i]?).join
def jO:NoOwn (fh n ix ρ):=λj x h=>by
 unfold fh at h;by_cases hj:j<n;·rw[q9 (by simpa using hj),p6,if_pos hj]at h;cases h
 ·rw[qC (by simpa using tz.1 hj),sh,wZ]at h;cases e:ix[j - n]? with
  |none=>rw[e]at h;cases h
  |some i=>
   rw[e]at h;simp only[t8,Option.some.injEq]at h;split at h;·cases h;exact⟨_,rfl⟩
   ·cases h
def nN{K:PySem.W.Frag}(st:StE K G H σ ρ)(n:Nat)(ix:List Nat):StE K G H (fW n ix σ) (fh n ix ρ):=by refine⟨st.sub,by simp[fh,fW],λj d h=>?_,λj m C p fs h=>absurd h (NoOwn.obj jO j m C p fs)⟩;obtain⟨k,i,rfl,e1,e2⟩:=Bc h;obtain⟨v,h1,h2⟩:=st.val i d e2;refine⟨v,?_,h2⟩;unfold fW;rw[qC (by simp),sh,Nat.add_sub_cancel,wZ,e1];simp[h1]
def tN{h₁:Heap}{tk:Nat}{m:Str->Option Value}(ok:CompOkT X scope n N' ix)(hcalm:X.calm=true)(I:Inv X pins σ H s)(hf:∀b∈fp,qq X pins H b)(hfl:∀b∈fp,b<s.heap.objs.size)(hC:s.heap.objs.size<=C)(hn:h₁.Ns C m)(old:∀b o,s.heap.get? b=some o->h₁.get? b=some o)(un:Un (frs X.stack) fp H H' s.heap h₁)(hok:HOk X.prog X.w H' h₁)(hfC:H' C=none)(hfc:∀c:Addr,c<s.heap.objs.size->H c=none->H' c=none):
  Inv (aO X N' scope C s H fp) [] (fW n ix σ) H' { s with heap:=h₁,toks:=tk }:=by
 have cl:∀y c,(nD X.env scope.names []).lookup y=some c->X.env.cells.lookup y=some c:=yM scope.names [] (λy c h=>by simp at h);have nlt:N'.length=n+ix.length:=by have h1:=vF List.length ok.tl;rw[oq,wU]at h1;have:=ok.le;omega
 refine⟨⟨I.ok.mod,by show(relabel scope X.env).kind=_;exact ok.kind,I.ok.glob,I.ok.blt,hC,?_,?_,?_,I.ok.hd,I.ok.frames,.inl rfl,?_,I.bs,xk I.ok.bsz I.sz,?_,?_,I.stack,I.stkFree,I.ok.tabs.un I.base⟩,rfl,I.bare,un,?_,?_,hfC,?_,?_,hok,?_⟩;·intro y z c h1 h2;exact I.ok.inj y z c (cl y c h1) (cl z c h2)
 ·intro y hy;have h1:(y,NameKind.free)∈scope.names:=by
   have hy':(relabel scope X.env).names.lookup y=some .cell\/(relabel scope X.env).names.lookup y=some .free:=hy;have mem:∀k,(relabel scope X.env).names.lookup y=some k->(k=.cell\/k=.free)->(y,NameKind.free)∈scope.names:=λk e hk=>by
    have hm:=p0 e;obtain⟨⟨n,k'⟩,hm1,hm2⟩:=qh.mp hm;dsimp only at hm2;split at hm2
    ·rename_i hc;cases hm2;have:k'=.free:=by have:=(sH _ _▸(sH _ _▸hc).1).1;simpa using this
     rw[<- this];exact hm1
    ·cases hm2;rcases hk with rfl|rfl;·exact absurd rfl (ok.cell _ hm1)
     ·exact hm1
   rcases hy' with h|h;·exact mem _ h (.inl rfl)
   ·exact mem _ h (.inr rfl)
  have hc:=I.ok.has y (.inl (ok.fr _ h1 rfl));exact sB scope.names [] y (.inr ⟨h1,hc⟩)
 ·intro y c hfn;cases hfn
 ·intro b hb;obtain⟨f0,f1,f2,f3,f4,f5⟩:=hf b hb;exact⟨λz=>absurd (hfl b hb) (by rw[z];exact tz.mpr hC),λy c h=>f4 y c (cl y c h)⟩
 ·intro b o e hb;obtain⟨f0,f1,f2,f3,f4,f5⟩:=hf b hb;rcases f3 with f3|f3;·exact I.ok.noex b o e f3
  ·exact absurd (zj (I.ok.bs b o e).1) (tz.mpr f3)
 ·intro b hb hb';obtain⟨f0,f1,f2,f3,f4,f5⟩:=hf b hb;rcases y9.mp (I.stkSub b hb')with e|e;·exact f1 e
  ·exact f2 e
 ·refine⟨m,hn,λi y v h1 h2 h3=>?_⟩;have h1:N'[i]?=some y:=h1;have h2:(fW n ix σ)[i]?=some (some v):=h2;by_cases hi:i<n;·unfold fW at h2;rw[q9 (by simpa using hi),p6,if_pos hi]at h2;cases h2
  ·unfold fW at h2;rw[qC (by simpa using tz.1 hi),sh,wZ]at h2;cases e:ix[i - n]? with
   |none=>rw[e]at h2;cases h2
   |some i0=>
    rw[e]at h2;have h2':σ[i0]?=some (some v):=by
     cases q:σ[i0]? with
     |none=>rw[t8,q]at h2;cases h2
     |some z=>rw[t8,q]at h2;have:=xf h2;rw[<- this];rfl
    have ht:(N'.drop n)[i - n]?=some y:=by rw[List.getElem?_drop,Nat.add_sub_cancel' (tz.1 hi)];exact h1
    have hy:X.N[i0]?=some y:=by have ht2:=ht;rw[ok.tl,wZ,e]at ht2;have hl:=ok.lt i0 (lp e);have q:=xf ht2;rw[vB hl];rw[<- q];show some X.N[i0]=some (X.N.getD i0 Str.empty);rw[v4,vB hl];rfl
    obtain⟨fr1,fr2⟩:=ok.fre y (lp ht);have kc:=ok.fr _ fr2 rfl;obtain⟨m0,hn0,hl⟩:=I.loc;obtain⟨u,ru,lk⟩:=hl i0 y v hy h2' (.inr (.inl kc));refine⟨u,ru,.inr ⟨.inl (mF I.ok.kind fr1 kc),?_⟩⟩;rcases lk with⟨z,_⟩|⟨_,c,hc,hcell⟩;·rw[kc]at z;cases z
    ·obtain⟨c',hc'⟩:=sB scope.names [] y (.inr ⟨fr2,c,hc⟩);have:=cl y c' hc';rw[hc]at this;cases this;exact⟨c,hc',hcell.keeps old⟩
 ·intro y c h;obtain⟨v,q⟩:=I.cell y c (cl y c h);exact⟨v,q.keeps old⟩
 ·intro y c h;obtain⟨v,q⟩:=I.cell y c (cl y c h);exact hfc c q.lt (I.freeC y c (cl y c h))
 ·intro p hp;exact absurd (show p∈([]:List (Addr×Obj)) from hp) (by simp)
 ·show(fW n ix σ).length=N'.length;rw[nlt];simp[fW]
def qV{prog:Program}{w:World}{A:Around}{R':Result->Shared->Prop}{elt target:Expr}{pos:Pos}{it acc:Value}{env:Env}(I:Nat->Shared->Prop)(CS:∀n s,I n s->wpAny (model prog w) A (pyNext it) (λr s₁=>match r with
 |none=>R' (.ok .next) s₁
 |some v=>wpAny (model prog w) A (letOwnedTupleGo target it v) (λ_ s₁'=>wpAny (model prog w) A (assign target env v) (λ_ s₂=>
 wpAny (model prog w) A (forIn ifs true λc r=>if r=true then do let ok <- isTrue c env (eval c env);pure (ForInStep.yield ok)else pure (ForInStep.yield r)) (λok s₃=>
 if ok=true then wpAny (model prog w) A (eval elt env) (λx s₄=>
 wpAny (model prog w) A (call (.builtin "list.append") [acc,x]) (λ_ s₅=>∃m,m<n/\I m s₅) (λ_ _=>False) s₄) (λ_ _=>False) s₃
 else ∃m,m<n/\I m s₃) (λ_ _=>False) s₂) (λ_ _=>False) s₁') (λ_ _=>False) s₁) (λ_ _=>False) s)(n:Nat)(h:I n s):
  codeAny (model prog w) A (.compLoop (.ListComp elt [⟨target,iter,ifs,0⟩] scope pos) 0 it acc env) R' s:=by
 refine codeAny_loop rfl I (λn s hI=>?_) n h;show wpAny _ A ((compTurn (.ListComp elt [⟨target,iter,ifs,0⟩] scope pos) 0 it acc env).onRaise (λx=>do noteFrame x env;theTreesLotGoes x)) _ _ s;refine wpAny_noted ?_;rw[compTurn_list];refine z9 (qQ (z9 (yc (CS n s hI) (λr s₁ h₁=>?_) λ_ _ z=>z.elim)));cases r with
 |none=>exact zd h₁
 |some v=>
  refine z9 (yc h₁ (λ_ s₁' h₁'=>?_) λ_ _ z=>z.elim);refine z9 (yc h₁' (λ_ s₂ h₂=>z9 (yc h₂ (λok s₃ h₃=>?_) λ_ _ z=>z.elim)) λ_ _ z=>z.elim);cases ok with
  |false=>exact zd ⟨rfl,h₃⟩
  |true=>exact z9 (z9 (yc h₃ (λx s₄ h₄=>z9 (yc h₄ (λ_ s₅ h₅=>zd (zd ⟨rfl,h₅⟩)) λ_ _ z=>z.elim)) λ_ _ z=>z.elim))
def nQ:∀d ρ ρ',wb i d ρ=.ok ρ'->NoOwn ρ->NoOwn ρ':=by
 intro d ρ ρ' e h j x q;have e':ρ.set i (some (.val d))=ρ':=R.ok.inj e;rw[<- e',kT]at q;split at q
 ·split at q;·cases q;exact⟨d,rfl⟩
  ·cases q
 ·exact h j x q
def kD{tn : Nat -> Heap -> Prop}{J : It}{Q : VK}{RR : Value -> Addr -> Result -> Shared -> Prop}{E : Value -> Shared -> Prop}(ok : CompOkT X scope n N' ix)(hcalm : X.calm = true)(hg : ∀C s₂ H₂ fp, PGF (aO X N' scope C s₂ H₂ fp) tgt asg)(hown : ∀d ρ ρ', asg d ρ = .ok ρ' -> (NoOwn ρ) -> NoOwn ρ')(he : ∀C s₂ H₂ fp, PF (aO X N' scope C s₂ H₂ fp) elt ge)(ht : ∀C s₂ H₂ fp, PTs (aO X N' scope C s₂ H₂ fp) ifs gt)(I : Inv X pins σ H s)(T : Turn X.prog X.w X.K tgt J fp it tn)(st0 : tn 0 s.heap)(hf : ∀b ∈ fp, qq X pins H b)(st : StE X.K G H σ ρ)(hi : ItOk X.K G J items)(h : (iZ asg gt ge items (fh n ix ρ) >>= λds => if ds.length <= sizeLine then R.ok ds else .no).post (pT X.K G H Q) (Exx X σ G H))(hR : ∀(Dd C : Addr)(s' : Shared)(m : Str -> Option Value)(vs : List V)(G' H' : Hp), Up G H G' H' -> H' Dd = none -> C≠Dd -> (∀ds, Reps X.K G' vs ds -> True) -> Q (.ref Dd) (upd H' Dd (.lst vs)) -> s'.heap.Ns C m -> s'.os = s.os -> AllBare s'.gens -> H' C = none -> s.heap.objs.size <= C ->
 Un (frs X.stack) fp H (upd H' Dd (.lst vs)) s.heap s'.heap -> HOk X.prog X.w (upd H' Dd (.lst vs)) s'.heap -> RR (.ref Dd) C (.ok .next) s'):
    wpAny (model X.prog X.w) X.A (newList []) (λacc s₃ => wpAny (model X.prog X.w) X.A (newFunctionEnv scope X.env.globals (nD X.env scope.names []) [] X.env.qual none .none (some X.env)) (λcenv s₄ =>codeAny (model X.prog X.w) X.A (.compStart (.ListComp elt [⟨tgt, iter, ifs, 0⟩] scope pos) 0 (.ref it) acc { cenv with scope := relabel scope X.env }) (RR acc cenv.locals) s₄) E s₃) E s := by
  have hfl : ∀b ∈ fp, b < s.heap.objs.size := λb hb => let⟨o, e, _⟩ := T.obj 0 s.heap st0 b hb; zj e;refine u6 (d6 ok.cell (by intro y hy; simp at hy) (λh₁ hns₁ hsb₁ => ?_) ok.kind);dsimp only at hns₁ hsb₁⊢;generalize hH2 : s.heap.push { cls := .type "list", dict := none, data := .seq ([] : List Value).toArray } = Hq at hns₁ hsb₁⊢;have hC : Hq.objs.size = s.heap.objs.size + 1 := by rw[<- hH2, wG]
  have hDC : s.heap.objs.size≠Hq.objs.size := by rw[hC]; exact xh (rZ _)
  have hCle : s.heap.objs.size <= Hq.objs.size := by rw[hC]; exact ma _
  have old : ∀b o, s.heap.get? b = some o -> h₁.get? b = some o := λb o e =>
    hsb₁.extBut b o (by rw[hC]; exact xh (md (zj e))) (zL _ (hH2▸zL _ e));have hacc : h₁.get? s.heap.objs.size = some { cls := .type "list", data := .seq ([] : List Value).toArray } := hsb₁.extBut _ _ hDC (zL _ (hH2▸xj _ rfl));have hD0 : H s.heap.objs.size = none := I.fresh;have hC0 : H Hq.objs.size = none := I.hok.fresh hCle;have st0' : tn 0 h₁ := T.keep 0 _ _ st0 λb hb o e => old b o e;have I0 : ∀tk, Inv (aO X N' scope Hq.objs.size s H fp) [] (fW n ix σ) (upd H s.heap.objs.size (.lst [])) { s with heap := h₁, toks := tk } := λtk => by
    refine tN ok hcalm I hf hfl hCle hns₁ old (Un.laid old (zq _) hD0) (I.hok.laid old (zq _) ⟨t7 _, [], 0, .nil, hacc⟩) (by rw[aE hDC.symm]; exact hC0) λc hc e => ?_;rw[aE (xh hc)]; exact e
  have loop : ∀tk, codeAny (model X.prog X.w) X.A (.compLoop (.ListComp elt [⟨tgt, iter, ifs, 0⟩] scope pos) 0 (.ref it) (.ref s.heap.objs.size) (compEnvC scope (nD X.env scope.names []) Hq.objs.size X.env))
      (RR (.ref s.heap.objs.size) Hq.objs.size) { s with heap := h₁, toks := tk } := λtk => by
    have fpk : ∀{pins' : List (Addr × Obj)}{σ' : St}{H' : Hp}{s' : Shared}, Inv (aO X N' scope Hq.objs.size s H fp) pins' σ' H' s' -> pins' = [] -> (∀b ∈ fp, H' b = none) -> ∀b ∈ fp, qq (aO X N' scope Hq.objs.size s H fp) pins' H' b := λI' e hn b hb =>⟨hn b hb, (I'.ok.exf b hb).1, I'.ok.exfs b hb, .inl hb, (I'.ok.exf b hb).2, by subst e; intro p hp; exact absurd (show p ∈ ([] : List (Addr × Obj)) from hp) (by simp)⟩
    refine qV (λnn s' => ∃(i : Nat)(σ' : St)(G' H' : Hp)(ρ' : Ev)(vs : List V)(ys : List D), nn = items.length - i /\ i <= items.length /\ Inv (aO X N' scope Hq.objs.size s H fp) [] σ' H' s' /\ tn i s'.heap /\ (∀b ∈ fp, H' b = none) /\
      H' s.heap.objs.size = some (.lst vs) /\ G' s.heap.objs.size = none /\ Up G H G' H' /\ StE X.K G' H' σ' ρ' /\ (NoOwn ρ') /\ Reps X.K G' vs ys /\
      (iZ asg gt ge (items.drop i) ρ' >>= λzs => if (ys ++ zs).length <= sizeLine then R.ok (ys ++ zs)else .no).post (pT X.K G H Q) (Exx X σ G H)) ?_ items.length
      ⟨0, fW n ix σ, G, upd H s.heap.objs.size (.lst []), fh n ix ρ, [], [], by simp, t7 _, I0 tk, st0', λb hb => by rw[aE (xh (hfl b hb))]; exact(hf b hb).1, aV, st.sub.free hD0,
        ⟨λa o e => by rw[aE (aJ e (st.sub.free hD0))]; exact st.sub a o e, .refl _, .into hD0, λ_ _ e => .inl e⟩,
        ⟨λa o e => by rw[aE (aJ e (st.sub.free hD0))]; exact st.sub a o e, (nN st n ix).len, (nN st n ix).val, λj m C p fs h => absurd h (NoOwn.obj jO j m C p fs)⟩, jO, .nil, by simpa using h⟩;rintro nn s' ⟨i, σ', G', H', ρ', vs, ys, rfl, hil, I', tn', fr', hD', gD', up', st', no', rp', h'⟩;have hIt := hi i G' H' up'.gg st'.sub;by_cases hlt : i < items.length
    ·
      have hd : items.drop i = items[i] :: items.drop (i + 1) := mf hlt;rw[hd]at h';obtain⟨go, yl⟩ := hIt.1 items[i] (by simp[hlt]);refine yc (T.item (aO X N' scope Hq.objs.size s H fp) rfl rfl rfl hcalm i [] s' σ' H' (λ_ _ => False) I' (fpk I' rfl fr') tn' go) (λr s1 ⟨u, hr, h1⟩ => ?_) λ_ _ z => z;subst hr;refine yc h1 (λ_ s2 ⟨x2, H2, I2, r2, y2, tn2, fr2⟩ => ?_) λ_ _ z => z;obtain⟨G2, up2, rep2⟩ := yl x2 H2 y2;have I2p := I2.pinned (fpk I2 rfl fr2) (T.obj _ _ tn2);have st2 : StE X.K G2 H2 σ' ρ' := st'.up up2;have sr2 : StR X.K G2 H2 G2 H2 σ' ρ' := ⟨st2, up2.sub, .refl up2.sub, λj ds e => absurd e (no'.own j ds), λj k ds es l e => absurd e (no'.own j ds), no'.ob⟩
      have ea : ∃ρ1, asg items[i] ρ' = .ok ρ1 := by
        unfold iZ at h';cases q : asg items[i] ρ' with
        |ok k => exact⟨k, rfl⟩
        |_ => rw[q]at h'; exact h'.elim
      obtain⟨ρ1, ea⟩ := ea;unfold iZ at h';rw[ea]at h';simp only[fq, R.ok_bind]at h';refine yc (hg Hq.objs.size s H fp _ s2 σ' H2 x2 u (λσ3 H3 => H3 = H2 /\ StR X.K G2 H2 G2 H2 σ3 ρ1) I2p r2
        ⟨G2, H2, G2, ρ', items[i], _, sr2, rep2, ea, λσ3 q => ⟨rfl, q⟩⟩) (λ_ s3 ⟨σ3, H3, I3, e3, sr3⟩ => ?_) λ_ _ z => z;subst e3;have no3 := hown _ _ _ ea no';have hD2 : H3 s.heap.objs.size = some (.lst vs) := up2.hh _ _ hD';have gD2 : G2 s.heap.objs.size = none := by
        cases q : G2 s.heap.objs.size with
        |none => rfl
        |some o =>
          rcases up2.fr _ _ q with z|z;· rw[gD']at z; cases z
          · rw[hD']at z; cases z
      have ek : ∃k, gt ρ1 = .ok k := by
        cases q : gt ρ1 with
        |ok k => exact⟨k, rfl⟩
        |_ => rw[q]at h'; exact h'.elim
      obtain⟨k, ek⟩ := ek;rw[ek]at h';simp only[fq, R.ok_bind]at h';refine yc (ht Hq.objs.size s H fp _ s3 σ3 H3 (λb H4 => b = k /\ ∃G4, Up G2 H3 G4 H4) I3 ⟨G2, _, sr3.e, by rw[ek]; exact λb G4 H4 u4 e4 => ⟨e4, G4, u4⟩⟩) (λb s4 ⟨H4, I4, eb, G4, up4⟩ => ?_) λ_ _ z => z;subst eb;have next : ∀{H7 : Hp}{s7 : Shared}{G7 : Hp}{vs7 : List V}{ys7 : List D}, Inv (aO X N' scope Hq.objs.size s H fp) ([] ++ gY fp s2.heap) σ3 H7 s7 -> H7 s.heap.objs.size = some (.lst vs7) -> G7 s.heap.objs.size = none -> Up G H G7 H7 -> StE X.K G7 H7 σ3 ρ1 -> Reps X.K G7 vs7 ys7 ->
          (iZ asg gt ge (items.drop (i + 1)) ρ1 >>= λzs => if (ys7 ++ zs).length <= sizeLine then R.ok (ys7 ++ zs)else .no).post (pT X.K G H Q) (Exx X σ G H) ->
          ∃m, m < items.length - i /\ ∃(i : Nat)(σ' : St)(G' H' : Hp)(ρ' : Ev)(vs : List V)(ys : List D), m = items.length - i /\ i <= items.length /\ Inv (aO X N' scope Hq.objs.size s H fp) [] σ' H' s7 /\ tn i s7.heap /\ (∀b ∈ fp, H' b = none) /\
            H' s.heap.objs.size = some (.lst vs) /\ G' s.heap.objs.size = none /\ Up G H G' H' /\ StE X.K G' H' σ' ρ' /\ (NoOwn ρ') /\ Reps X.K G' vs ys /\
            (iZ asg gt ge (items.drop i) ρ' >>= λzs => if (ys ++ zs).length <= sizeLine then R.ok (ys ++ zs)else .no).post (pT X.K G H Q) (Exx X σ G H) := λ{H7 s7 G7 vs7 ys7} I7 hD7 gD7 up7 st7 rp7 h7 => by
        have pin : ∀b ∈ fp, ∀o, s2.heap.get? b = some o -> s7.heap.get? b = some o /\ H7 b = none := λb hb o e => by have := I7.pin (b, o) (t5 _ (t5 _ (fu hb e)));exact⟨this.1, this.2.1⟩
        refine⟨items.length - (i + 1), by omega, i + 1, σ3, G7, H7, _, vs7, ys7, rfl, hlt, I7.unpinned, T.keep _ _ _ tn2 λb hb o e => (pin b hb o e).1, λb hb => ?_, hD7, gD7, up7, st7, no3, rp7, h7⟩;obtain⟨o, e, _⟩ := T.obj _ _ tn2 b hb;exact(pin b hb o e).2
      have hD4 : H4 s.heap.objs.size = some (.lst vs) := up4.hh _ _ hD2;have gD4 : G4 s.heap.objs.size = none := by
        cases q : G4 s.heap.objs.size with
        |none => rfl
        |some o =>
          rcases up4.fr _ _ q with z|z;· rw[gD2]at z; cases z
          · rw[hD2]at z; cases z
      cases b with
      |false =>simp only[nK, uM]at h'⊢;exact next I4 hD4 gD4 ((up'.trans up2).trans up4) (sr3.e.up up4) ((rp'.mono up2.gg).mono up4.gg) h'
      |true =>
        simp only[xK]at h'⊢;have ex : ∃y, ge ρ1 = .ok y := by
          cases q : ge ρ1 with
          |ok y => exact⟨y, rfl⟩
          |_ => rw[q]at h'; exact h'.elim
        obtain⟨y, ey⟩ := ex;rw[ey]at h';simp only[fq, R.ok_bind]at h';refine yc (he Hq.objs.size s H fp _ s4 σ3 H4 (λv H5 => ∃G5, Up G4 H4 G5 H5 /\ Rep X.K G5 v y) I4 ⟨G4, _, sr3.e.up up4, by rw[ey]; exact λv G5 H5 u5 r5 => ⟨G5, u5, r5⟩⟩) (λu5 s5 ⟨v5, H5, I5, r5, G5, up5, rep5⟩ => ?_) λ_ _ z => z;have hD5 : H5 s.heap.objs.size = some (.lst vs) := up5.hh _ _ hD4;have gD5 : G5 s.heap.objs.size = none := by
          cases q : G5 s.heap.objs.size with
          |none => rfl
          |some o =>
            rcases up5.fr _ _ q with z|z;· rw[gD4]at z; cases z
            · rw[hD4]at z; cases z
        have ups := ((up'.trans up2).trans up4).trans up5;rcases mm (asg := asg) (gt := gt) (ge := ge) (items.drop (i + 1)) ρ1 with⟨zs, ez⟩|ez
        · rw[ez]at h';simp only[R.ok_bind]at h';have hz : (ys ++ y :: zs).length <= sizeLine := by
            by_cases hz : (ys ++ y :: zs).length <= sizeLine;· exact hz
            · rw[if_neg hz]at h'; exact h'.elim
          have hvl : vs.length < sizeLine := by rw[rp'.length];rw[uC, w8]at hz;omega
          refine yc (lM (X := aO X N' scope Hq.objs.size s H fp) _ s5 σ3 H5 (.ref s.heap.objs.size) [v5] (.ref s.heap.objs.size) [u5] (λ_ H6 => H6 = upd H5 s.heap.objs.size (.lst (vs ++ [v5]))) I5 rfl (.cons r5 .nil)
            ⟨_, vs, v5, rfl, rfl, hD5, hvl, rfl⟩) (λ_ s6 ⟨_, H6, I6, _, e6⟩ => ?_) λ_ _ z => z;subst e6;have sub6 : Same G5 (upd H5 s.heap.objs.size (.lst (vs ++ [v5]))) := λa o e => by rw[aE (aJ e gD5)]; exact up5.sub a o e
          refine next I6 aV gD5 ⟨sub6, ups.gg, λa o e => ?_, ups.fr⟩ ?_ (ys7 := ys ++ [y]) ((((rp'.mono up2.gg).mono up4.gg).mono up5.gg).append (.cons rep5 .nil)) ?_
          · rw[aE (aJ e hD0)]; exact ups.hh a o e
          · exact⟨sub6, ((sr3.e.up up4).up up5).len, ((sr3.e.up up4).up up5).val, λj m C p fs h => absurd h (no3.obj j m C p fs)⟩
          · rw[ez];simp only[R.ok_bind, n8, List.singleton_append];exact h'
        · rw[ez]at h'; exact h'.elim
    ·
      have hie : i = items.length := by omega
      subst hie;rw[kY]at h';unfold iZ at h';simp only[R.ok_bind, uZ]at h';refine yc (T.done (aO X N' scope Hq.objs.size s H fp) rfl rfl rfl hcalm items.length [] s' σ' H' (λ_ _ => False) I' (fpk I' rfl fr') tn' (hIt.2 (zq _))) (λr s1 ⟨hr, I1⟩ => ?_) λ_ _ z => z;subst hr;have hz : ys.length <= sizeLine := by
        by_cases hz : ys.length <= sizeLine;· exact hz
        · rw[if_neg hz]at h'; exact h'.elim
      rw[if_pos hz]at h';have eH : upd (λa => if a = s.heap.objs.size then none else H' a) s.heap.objs.size (.lst vs) = H' := by
        funext a
        unfold upd;by_cases e : a = s.heap.objs.size;· subst e; rw[if_pos rfl]; exact hD'.symm
        · rw[if_neg e];show(if a = s.heap.objs.size then none else H' a) = _;rw[if_neg e]
      have hn : (λa => if a = s.heap.objs.size then none else H' a) s.heap.objs.size = none := by simp
      have upn : Up G H G' (λa => if a = s.heap.objs.size then none else H' a) := by
        refine⟨λa o e => ?_, up'.gg, λa o e => ?_, up'.fr⟩;· have : a≠s.heap.objs.size := aJ e gD';simp only[this, uM]; exact up'.sub a o e
        · have : a≠s.heap.objs.size := aJ e hD0;simp only[this, uM]; exact up'.hh a o e
      obtain⟨m1, hm1, _⟩ := I1.loc;refine hR s.heap.objs.size Hq.objs.size s1 m1 vs G' _ upn hn hDC.symm (λ_ _ => trivial) (h' _ vs G' _ upn hn rp') hm1 I1.os I1.bare ?_ hCle (by rw[eH]; exact I1.base) (by rw[eH]; exact I1.hok);have := I1.free;show(if Hq.objs.size = s.heap.objs.size then none else H' Hq.objs.size) = none;rw[if_neg hDC.symm]; exact this
  exact d7 (loop _) (T.self X.A 0 _ _ _ st0' (loop _))

def zD{tn:Nat->Heap->Prop}{J:It}{Q:VK}{RR:Value->Addr->Result->Shared->Prop}{E:Value->Shared->Prop}(ok:CompOk X scope x N' ix)(hcalm:X.calm=true)(he:∀C s₂ H₂ fp,PF (aO X N' scope C s₂ H₂ fp) elt ge)(ht:∀C s₂ H₂ fp,PTs (aO X N' scope C s₂ H₂ fp) ifs gt)(I:Inv X pins σ H s)(T:Turn X.prog X.w X.K (.Name x px) J fp it tn)(st0:tn 0 s.heap)(hf:∀b∈fp,qq X pins H b)(st:StE X.K G H σ ρ)(hi:ItOk X.K G J items)(h:(kr gt ge items (mz ix ρ)>>=λds=>if ds.length<=sizeLine then R.ok ds else .no).post (pT X.K G H Q) (Exx X σ G H))(hR:∀(Dd C:Addr)(s':Shared)(m:Str->Option Value)(vs:List V)(G' H':Hp),Up G H G' H'->H' Dd=none->C≠Dd->(∀ds,Reps X.K G' vs ds->True)->Q (.ref Dd) (upd H' Dd (.lst vs))->s'.heap.Ns C m->s'.os=s.os->AllBare s'.gens->H' C=none->s.heap.objs.size<=C->
 Un (frs X.stack) fp H (upd H' Dd (.lst vs)) s.heap s'.heap->HOk X.prog X.w (upd H' Dd (.lst vs)) s'.heap->RR (.ref Dd) C (.ok .next) s'):
  wpAny (model X.prog X.w) X.A (newList []) (λacc s₃=>wpAny (model X.prog X.w) X.A (newFunctionEnv scope X.env.globals (nD X.env scope.names []) [] X.env.qual none .none (some X.env)) (λcenv s₄=>codeAny (model X.prog X.w) X.A (.compStart (.ListComp elt [⟨.Name x px,iter,ifs,0⟩] scope pos) 0 (.ref it) acc { cenv with scope:=relabel scope X.env }) (RR acc cenv.locals) s₄) E s₃) E s:=
 kD (n:=1) (asg:=wb 0) ok.t hcalm (λC s₂ H₂ fp=>fB (X:=aO X N' scope C s₂ H₂ fp) (pos:=px) 0 ok.nd ok.hd (.inl (sT ok.loc)) (.inr (sT ok.loc))) nQ he ht I T st0 hf st hi h hR
def bD(ok:CompOk X scope x N' ix)(hcalm:X.calm=true)(hi:PIF X (.Name x px) iter gi)(he:∀C s₂ H₂ fp,PF (aO X N' scope C s₂ H₂ fp) elt ge)(ht:∀C s₂ H₂ fp,PTs (aO X N' scope C s₂ H₂ fp) ifs gt)(hs:∀x,foldedSetIterable iter X.env x=pure x:=by intro _;rfl):PFL X (.ListComp elt [⟨.Name x px,iter,ifs,0⟩] scope pos) (dD gi ix gt ge):=by
 intro pins s σ H Q I h;obtain⟨G,ρ,st,h⟩:=h;rw[j0];refine j1 (use:=none) rfl hs (eN λy hy hy2=>I.ok.has y.1 (.inl (ok.fr y hy hy2))) ok.kind ok.names ?_;have t:tG X (λG J items=>ItOk X.K G J items) gi σ H (λJ H1=>∃G1 items,Up G H G1 H1/\StE X.K G1 H1 σ ρ/\ItOk X.K G1 J items/\(kr gt ge items (mz ix ρ)>>=λds=>if ds.length<=sizeLine then R.ok ds else .no).post (pT X.K G H Q) (Exx X σ G H)):=by
  refine⟨G,ρ,st,?_⟩;unfold dD at h;cases e:gi ρ with
  |ok items=>rw[e]at h;exact λJ G1 H1 u r=>⟨G1,items,u,st.up u,r,h⟩
  |ex C=>rw[e]at h;exact h
  |no=>rw[e]at h;exact h
 refine thn (hi pins s σ H _ I t) λv s1 h1=>thn h1 λitv s2 h2=>?_;obtain⟨it,fp,tn,J,H2,e,I2,T,st2,f2,G2,items,u2,sE2,iok,h2⟩:=h2;subst e;have h2':(kr gt ge items (mz ix ρ)>>=λds=>if ds.length<=sizeLine then R.ok ds else .no).post (pT X.K G2 H2 Q) (Exx X σ G2 H2):=
  h2.mono (λds q l vs G' H' u hl r=>q l vs G' H' (u2.trans u) hl r) λC q=>q.up u2;refine zD (iter:=iter) (pos:=pos) (RR:=λacc C=>compPost (model X.prog X.w) X.A X.xe none (EP X pins σ Q) acc C) ok hcalm he ht I2 T st2 f2 sE2 iok h2' ?_;intro Dd C s' m vs G' H' up hd hCD _ q hm hos hb hC hCl un hok;refine⟨m,hm,λh' hs'=>?_⟩;have I3:=I2.call' (H':=upd H' Dd (.lst vs)) (s':={ s' with heap:=h' }) (ch:=fp) hos (un.sameBut (λb o hbc e=>hs'.extBut b o hbc e) hCl) (hok.sameBut (λb o hbc e=>hs'.extBut b o hbc e) (by rw[aE hCD];exact hC)) hb λb hb'=>by
  obtain⟨f0,f1,f2',f3,f4,f5⟩:=f2 b hb';exact⟨f3,f1,f4,f5⟩
 exact⟨.ref Dd,_,I3,rfl,q⟩
end
inductive O where
 |nx (ρ:Ev)|rt (d:D)|re (d:D) (ρ:Ev)|bk (ρ:Ev)|ct (ρ:Ev)|ex (C:Addr) (ρ:Ev)|no
noncomputable def FlyS(X:Cx)(G₀ H₀:Hp)(ρ:Ev)(C:Addr)(e:Value)(s':Shared):Prop:=∃σ H₁ pins s₁ a,e=.ref a/\Inv X pins σ H₁ s₁/\
 ((∃G₁ h' vs,StR X.K G₀ H₀ G₁ H₁ σ ρ/\Heap.MadeExcOf s₁.heap h' a (.ref C) vs/\s'={ s₁ with heap:=h' })\/(∃G' H',Ec X.prog X.w X.stack H₁ s₁ a C H' s'/\StR X.K G₀ H₀ G' H' σ ρ)\/
  ∃G' H' L,X.env.frame=some L/\Bf X pins L H₁ s₁ a C H' s'/\StR X.K G₀ H₀ G' H' σ ρ)
def FlyS.of{H₀ G₁ H₁:Hp}{e:Value}(sr:StR X.K G₀ H₀ G₁ H₁ σ ρ)(f:OM X σ G₁ H₁ C e s'):FlyS X G₀ H₀ ρ C e s':=by
 obtain⟨pins,s₁,a,e,I,way⟩:=f;refine⟨σ,H₁,pins,s₁,a,e,I,?_⟩;rcases way with⟨h',vs,m,z⟩|⟨G',H',fl,u⟩|⟨G',H',L,hL,fl,u⟩;·exact .inl ⟨G₁,h',vs,sr,m,z⟩
 ·exact .inr (.inl ⟨G',H',fl,sr.ups u⟩)
 ·exact .inr (.inr ⟨G',H',L,hL,fl,sr.ups u⟩)
def FlyS.map{A B A' B':Hp}{ρ':Ev}{e:Value}(f:FlyS X A B ρ C e s')(h:∀σ G H,StR X.K A B G H σ ρ->StR X.K A' B' G H σ ρ'):FlyS X A' B' ρ' C e s':=by
 obtain⟨σ,H₁,pins,s₁,a,e,I,way⟩:=f;refine⟨σ,H₁,pins,s₁,a,e,I,?_⟩;rcases way with⟨G₁,h',vs,sr,m,z⟩|⟨G',H',fl,sr⟩|⟨G',H',L,hL,fl,sr⟩;·exact .inl ⟨G₁,h',vs,h _ _ _ sr,m,z⟩
 ·exact .inr (.inl ⟨G',H',fl,h _ _ _ sr⟩)
 ·exact .inr (.inr ⟨G',H',L,hL,fl,h _ _ _ sr⟩)
noncomputable def ka(X:Cx)(G₀ H₀:Hp)(D:Ends)(o:O):Prop:=match o with
 |.nx ρ=>∀σ G H,StR X.K G₀ H₀ G H σ ρ->D.nx σ H
 |.rt d=>∀v G H,Up G₀ H₀ G H->Rep X.K G v d->D.rt v H
 |.re d ρ=>∀v σ G H,StR X.K G₀ H₀ G H σ ρ->Rep X.K G v d->D.rt v H
 |.bk ρ=>∀σ G H,StR X.K G₀ H₀ G H σ ρ->D.bk σ H
 |.ct ρ=>∀σ G H,StR X.K G₀ H₀ G H σ ρ->D.ct σ H
 |.ex C ρ=>∀e s',FlyS X G₀ H₀ ρ C e s'->X.xe e s'
 |.no=>False
noncomputable def tS(X:Cx)(G₀ H₀:Hp)(g:Ev->O):TS:=λD σ H=>∃G ρ,StR X.K G₀ H₀ G H σ ρ/\ka X G₀ H₀ D (g ρ)
noncomputable def PSF(X:Cx)(st:Stmt)(g:Ev->O):Prop:=∀G₀ H₀,PS X st (tS X G₀ H₀ g)
noncomputable def lR(X:Cx)(st:List Stmt)(g:Ev->O):Prop:=∀G₀ H₀,PSs X st (tS X G₀ H₀ g)
noncomputable def R.out{α:Type}(m:R α)(ρ:Ev)(k:α->O):O:=match m with
 |.ok a=>k a
 |.ex C=>.ex C ρ
 |.no=>.no
noncomputable def O.seq(o:O)(k:Ev->O):O:=match o with
 |.nx ρ=>k ρ
 |o=>o
section
variable{fV a b:List Stmt}{e c:Expr}{g g1 g2:Ev->O}{ga:Ev->R D}{gt:Ev->R Bool}{pos:Pos}
def Exx.of{H₀:Hp}{D:Ends}(sr:StR X.K G₀ H₀ G H σ ρ)(h:ka X G₀ H₀ D (.ex C ρ)):Exx X σ G H C:=λe s' ⟨G1,H1,u,f⟩=>h e s' (.of (sr.ups u) f)
def A4:lR X [] (λρ=>.nx ρ):=λG₀ H₀ pins s σ H D I h=>by
 obtain⟨G,ρ,sr,h⟩:=h
 try dsimp only at h
 exact GK pins s σ H D I (h σ G H sr)
def zc(h1:PSF X st g1)(h2:lR X fV g2):lR X (st::fV) (λρ=>(g1 ρ).seq g2):=λG₀ H₀ pins s σ H D I h=>by
 refine sD (h1 G₀ H₀) (h2 G₀ H₀) pins s σ H D I ?_;obtain⟨G,ρ,sr,h⟩:=h
 try dsimp only at h
 refine⟨G,ρ,sr,?_⟩;cases q:g1 ρ with
 |nx ρ'=>rw[q]at h;exact λσ' G' H' sr'=>⟨G',ρ',sr',h⟩
 |rt d=>rw[q]at h;exact h
 |re d ρ'=>rw[q]at h;exact h
 |bk ρ'=>rw[q]at h;exact h
 |ct ρ'=>rw[q]at h;exact h
 |ex C ρ'=>rw[q]at h;exact h
 |no=>rw[q]at h;exact h
def CV(he:PF X e ga):PSF X (.Return (some e) pos) (λρ=>(ga ρ).out ρ .rt):=λG₀ H₀ pins s σ H D I h=>by
 refine As he pins s σ H D I ?_;obtain⟨G,ρ,sr,h⟩:=h
 try dsimp only at h
 refine⟨G,ρ,sr.e,?_⟩;cases q:ga ρ with
 |ok d=>rw[q]at h;exact λv G' H' u r=>h v G' H' (sr.up.trans u) r
 |ex C=>rw[q]at h;exact Exx.of sr h
 |no=>rw[q]at h;exact h
def Am(he:PF X e ga)(hs:swapsWith e none pos.line X.env=pure false:=by rfl):PSF X (.Expr e pos) (λρ=>(ga ρ).out ρ λ_=>.nx ρ):=λG₀ H₀ pins s σ H D I h=>by
 refine xP he hs pins s σ H D I ?_;obtain⟨G,ρ,sr,h⟩:=h
 try dsimp only at h
 refine⟨G,ρ,sr.e,?_⟩;cases q:ga ρ with
 |ok d=>rw[q]at h;exact λv G' H' u r=>h σ G' H' (sr.ups u)
 |ex C=>rw[q]at h;exact Exx.of sr h
 |no=>rw[q]at h;exact h
def Gv(hc:PB X c gt)(ha:lR X a g1)(hb:lR X b g2):PSF X (.If c a b pos) (λρ=>(gt ρ).out ρ λk=>if k=true then g1 ρ else g2 ρ):=λG₀ H₀ pins s σ H D I h=>by
 refine Lx hc (ha G₀ H₀) (hb G₀ H₀) pins s σ H D I ?_;obtain⟨G,ρ,sr,h⟩:=h
 try dsimp only at h
 refine⟨G,ρ,sr.e,?_⟩;cases q:gt ρ with
 |ok k=>
  rw[q]at h;intro b' G' H' u r;subst r;cases b' with
  |true=>rw[if_pos rfl];exact⟨G',ρ,sr.ups u,by simpa[R.out]using h⟩
  |false=>rw[if_neg xR];exact⟨G',ρ,sr.ups u,by simpa[R.out]using h⟩
 |ex C=>rw[q]at h;exact Exx.of sr h
 |no=>rw[q]at h;exact h
def xX(he:PF X e ga)(hg:PGF X tg asg)(hs:swapsWithSole [tg] e pos.line X.env=pure false:=by rfl)(hw:swappedStores [tg] e X.env=pure none:=by rfl)(hn:∀d ρ C,asg d ρ≠.ex C:=by intro _ _ _ z;cases z)(h1:(assignEach [tg] X.env).map (·.2)=[assign tg X.env]:=by rfl):PSF X (.Assign [tg] e pos) (λρ=>(ga ρ).out ρ λd=>(asg d ρ).out ρ .nx):=λG₀ H₀ pins s σ H D I h=>by
 refine rQ he hg hs hw h1 pins s σ H D I ?_;obtain⟨G,ρ,sr,h⟩:=h
 try dsimp only at h
 refine⟨G,ρ,sr.e,?_⟩;cases q:ga ρ with
 |ok d=>
  rw[q]at h;simp only[R.out]at h;intro v G' H' u r;cases q2:asg d ρ with
  |ok ρ'=>rw[q2]at h;exact⟨G₀,H₀,G',ρ,d,ρ',sr.ups u,r,q2,λσ' sr'=>h σ' G' H' sr'⟩
  |ex C=>exact absurd q2 (hn d ρ C)
  |no=>rw[q2]at h;exact h.elim
 |ex C=>rw[q]at h;exact Exx.of sr h
 |no=>rw[q]at h;exact h
def ER(i:Nat){x:Str}(hN:X.N.Nodup)(he:PF X e ga)(hi:X.N[i]?=some x:=by rfl)(hx:Loc X.env.scope x:=by first|exact Or.inl rfl|exact Or.inr rfl)(hs:swapsWithSole [.Name x p] e pos.line X.env=pure false:=by rfl)(hw:swappedStores [.Name x p] e X.env=pure none:=by rfl)(hf:X.fn x=true\/X.env.scope.names.lookup x=some .local:=by first|exact .inl rfl|exact .inr rfl):
  PSF X (.Assign [.Name x p] e pos) (λρ=>(ga ρ).out ρ λd=>.nx (ρ.set i (some (.val d)))):=xX he (fB i hN hi hx hf) hs hw
def StR.setOwn{K:PySem.W.Frag}{H₀:Hp}(s:StR K G₀ H₀ G H σ ρ)(hl:H l=none)(r:Reps K G vs ds)(i:Nat):
  StR K G₀ H₀ G (upd H l (.lst vs)) (σ.set i (some (.ref l))) (ρ.set i (some (.own ds))):=by
 have gl:G l=none:=s.e.sub.free hl;have sub:Same G (upd H l (.lst vs)):=λa o e=>by rw[aE (aJ e gl)];exact s.e.sub a o e
 have get:∀(j:Nat) x,(ρ.set i (some (.own ds)))[j]?=some (some x)->(j=i/\x=.own ds/\i<σ.length)\/(j≠i/\ρ[j]?=some (some x)/\(σ.set i (some (.ref l)))[j]?=σ[j]?):=λj x h=>by
  by_cases e:i=j
  ·subst e;have hl:i<ρ.length:=by have:=(wK.mp h).1;simpa using this
   rw[v9 hl]at h;exact .inl ⟨rfl,by injection (xf h)with q;exact q.symm,by rw[s.e.len];exact hl⟩
  ·rw[vU e]at h;exact .inr ⟨λz=>e z.symm,h,vU e⟩
 have ob:ObSt K H₀ G (upd H l (.lst vs)) (σ.set i (some (.ref l))) (ρ.set i (some (.own ds))):=by
  obtain⟨ow,o1,o2⟩:=s.ob;have nl:∀{a:Addr}{o:HO},H a=some o->a≠l:=λe z=>by rw[z,hl]at e;cases e
  refine⟨λa=>if a=l then some (i,0)else ow a,λj es l' h1 h2=>?_,λj m C p fs h1=>?_⟩
  ·rcases get j _ h1 with⟨rfl,e,hj⟩|⟨_,e,e'⟩;·rw[v9 hj]at h2;cases h2;exact if_pos rfl
   ·rw[e']at h2;obtain⟨l2,vs2,q1,q2,_⟩:=s.own j es e;rw[h2]at q1;cases q1;exact(if_neg (nl q2)).trans (o1 j es l' e h2)
  ·rcases get j _ h1 with⟨_,e,_⟩|⟨_,e,e'⟩;·cases e
   ·rw[e'];refine⟨(o2 j m C p fs e).1,(o2 j m C p fs e).2.keep ⟨λa t o _ q=>?_,.refl _,λa t o _ _ n=>n,λa t o q1 q2=>?_,λa o _ _ n=>n⟩⟩;·rw[aE (nl q)];exact q
    ·exact(if_neg (nl q2)).trans q1
 refine⟨⟨sub,by simp[s.e.len],λj d' h=>?_,ob.rd⟩,s.sub0,⟨sub,s.up.gg,λa o e=>?_,s.up.fr⟩,λj es h=>?_,λj k es fs l' h1 h2 h3 h4=>?_,ob⟩
 ·rcases get j _ h with⟨_,e,_⟩|⟨_,e,e'⟩;·cases e
  ·rw[e'];exact s.e.val j d' e
 ·rw[aE (aJ (s.up.hh a o e) hl)];exact s.up.hh a o e
 ·rcases get j _ h with⟨rfl,e,hj⟩|⟨_,e,e'⟩;·cases e;exact⟨l,vs,v9 hj,aV,gl,s.up.hh.free hl,r⟩
  ·obtain⟨l',vs',h1,h2,h3,h4,h5⟩:=s.own j es e;exact⟨l',vs',by rw[e'];exact h1,by rw[aE (aJ h2 hl)];exact h2,h3,h4,h5⟩
 ·rcases get j _ h1 with⟨rfl,e,hj⟩|⟨nj,e,e'⟩
  ·rcases get k _ h2 with⟨rfl,f,_⟩|⟨nk,f,f'⟩;·rfl
   ·obtain⟨l2,vs2,q1,q2,_⟩:=s.own k fs f;rw[v9 hj]at h3;rw[f',q1]at h4;cases h3;cases h4;rw[hl]at q2;cases q2
  ·rcases get k _ h2 with⟨rfl,f,hk⟩|⟨nk,f,f'⟩;·obtain⟨l2,vs2,q1,q2,_⟩:=s.own j es e;rw[v9 hk]at h4;rw[e',q1]at h3;cases h3;cases h4;rw[hl]at q2;cases q2
   ·exact s.inj j k es fs l' e f (e'▸h3) (f'▸h4)
def EE(i:Nat){x:Str}(hN:X.N.Nodup)(he:PFL X e gl)(hi:X.N[i]?=some x:=by rfl)(hx:Loc X.env.scope x:=by first|exact Or.inl rfl|exact Or.inr rfl)(hs:swapsWithSole [.Name x p] e pos.line X.env=pure false:=by rfl)(hw:swappedStores [.Name x p] e X.env=pure none:=by rfl)(hf:X.fn x=true\/X.env.scope.names.lookup x=some .local:=by first|exact .inl rfl|exact .inr rfl):
  PSF X (.Assign [.Name x p] e pos) (λρ=>(gl ρ).out ρ λds=>.nx (ρ.set i (some (.own ds)))):=λG₀ H₀ pins s σ H D I h=>by
 refine rQ he (mj (i:=i) hN hi hx hf) hs hw rfl pins s σ H D I ?_;obtain⟨G,ρ,sr,h⟩:=h
 try dsimp only at h
 refine⟨G,ρ,sr.e,?_⟩;cases q:gl ρ with
 |ok ds=>rw[q]at h;exact λl vs G' H' u hl r=>h _ G' _ ((sr.ups u).setOwn hl r i)
 |ex C=>rw[q]at h;exact Exx.of sr h
 |no=>rw[q]at h;exact h
def StR.mut{K:PySem.W.Frag}{H₀:Hp}(s:StR K G₀ H₀ G H σ ρ){es:List D}(e:ρ[i]?=some (some (.own ds)))(hs:σ[i]?=some (some (.ref l)))(r:Reps K G vs es):
  StR K G₀ H₀ G (upd H l (.lst vs)) σ (ρ.set i (some (.own es))):=by
 obtain⟨l0,vs0,h1,h2,h3,h4,h5⟩:=s.own i ds e;rw[hs]at h1;cases h1;have sub:Same G (upd H l (.lst vs)):=λa o e=>by rw[aE (aJ e h3)];exact s.e.sub a o e
 have hl:i<ρ.length:=(wK.mp e).1;have get:∀(j:Nat) x,(ρ.set i (some (.own es)))[j]?=some (some x)->(j=i/\x=.own es)\/(j≠i/\ρ[j]?=some (some x)):=λj x h=>by
  by_cases e:i=j;·subst e;rw[v9 hl]at h;exact .inl ⟨rfl,by injection (xf h)with q;exact q.symm⟩
  ·rw[vU e]at h;exact .inr ⟨λz=>e z.symm,h⟩
 have ob:ObSt K H₀ G (upd H l (.lst vs)) σ (ρ.set i (some (.own es))):=by
  obtain⟨ow,o1,o2⟩:=s.ob;have ol:=o1 i ds l e hs;refine⟨ow,λj fs l' q1 q2=>?_,λj m C p fs q1=>?_⟩
  ·rcases get j _ q1 with⟨rfl,_⟩|⟨nj,f1⟩;·exact o1 j ds l' e q2
   ·exact o1 j fs l' f1 q2
  ·rcases get j _ q1 with⟨_,e'⟩|⟨nj,f1⟩;·cases e'
   ·have ne:∀a t,ow a=some (j,t)->a≠l:=λa t q z=>by rw[z,ol]at q;cases q;exact nj rfl
    refine⟨(o2 j m C p fs f1).1,(o2 j m C p fs f1).2.keep ⟨λa t o q1 q=>?_,.refl _,λa t o _ _ n=>n,λa t o q1 _=>q1,λa o _ _ n=>n⟩⟩;·rw[aE (ne a t q1)];exact q
 refine⟨⟨sub,by simp[s.e.len],λj d' h=>?_,ob.rd⟩,s.sub0,⟨sub,s.up.gg,λa o e=>?_,s.up.fr⟩,λj fs h=>?_,λj k fs gs l' q1 q2 q3 q4=>?_,ob⟩
 ·rcases get j _ h with⟨_,e⟩|⟨_,e⟩;·cases e
  ·exact s.e.val j d' e
 ·rw[aE (aJ e h4)];exact s.up.hh a o e
 ·rcases get j _ h with⟨rfl,e'⟩|⟨nj,e'⟩;·cases e';exact⟨l,vs,hs,aV,h3,h4,r⟩
  ·obtain⟨l',vs',p1,p2,p3,p4,p5⟩:=s.own j fs e';have:l'≠l:=λz=>by subst z;exact nj (s.inj j i fs ds l' e' e p1 hs)
   exact⟨l',vs',p1,by rw[aE this];exact p2,p3,p4,p5⟩
 ·rcases get j _ q1 with⟨rfl,_⟩|⟨nj,f1⟩
  ·rcases get k _ q2 with⟨rfl,_⟩|⟨nk,f2⟩;·rfl
   ·exact s.inj j k ds gs l' e f2 q3 q4
  ·rcases get k _ q2 with⟨rfl,_⟩|⟨nk,f2⟩;·exact s.inj j k fs ds l' f1 e q3 q4
   ·exact s.inj j k fs gs l' f1 f2 q3 q4
noncomputable def frz(i:Nat)(ρ:Ev):Ev:=match ρ[i]? with
 |some (some (.own ds))=>ρ.set i (some (.val (.lst false ds)))
 |_=>ρ
def StR.frzTo{K:PySem.W.Frag}{H₀:Hp}(s:StR K G₀ H₀ G H σ ρ)(i:Nat):∃G',StR K G₀ H₀ G' H σ (L2.frz i ρ)/\(G'=G\/∃l vs,G l=none/\G'=upd G l (.lst vs)):=by
 unfold L2.frz;split
 ·rename_i ds e;obtain⟨l,vs,h1,h2,h3,h4,h5⟩:=s.own i ds e;have hl:i<ρ.length:=(wK.mp e).1;have g0:G₀ l=none:=s.sub0.free h4;have into:Same G (upd G l (.lst vs)):=.into h3;have sub:Same (upd G l (.lst vs)) H:=λa o q=>by
   by_cases ea:a=l;·subst ea;rw[aV]at q;rw[<- q];exact h2
   ·rw[aE ea]at q;exact s.e.sub a o q
  have get:∀(j:Nat) x,(ρ.set i (some (.val (.lst false ds))))[j]?=some (some x)->(j=i/\x=.val (.lst false ds))\/(j≠i/\ρ[j]?=some (some x)):=λj x h=>by
   by_cases e:i=j;·subst e;rw[v9 hl]at h;exact .inl ⟨rfl,by injection (xf h)with q;exact q.symm⟩
   ·rw[vU e]at h;exact .inr ⟨λz=>e z.symm,h⟩
  have ob:ObSt K H₀ (upd G l (.lst vs)) H σ (ρ.set i (some (.val (.lst false ds)))):=by
   obtain⟨ow,o1,o2⟩:=s.ob;have ol:=o1 i ds l e h1;refine⟨ow,λj fs l' q1 q2=>?_,λj m C p fs q1=>?_⟩
   ·rcases get j _ q1 with⟨_,e'⟩|⟨nj,f1⟩;·cases e'
    ·exact o1 j fs l' f1 q2
   ·rcases get j _ q1 with⟨_,e'⟩|⟨nj,f1⟩;·cases e'
    ·have ne:∀a t,ow a=some (j,t)->a≠l:=λa t q z=>by rw[z,ol]at q;cases q;exact nj rfl
     refine⟨(o2 j m C p fs f1).1,(o2 j m C p fs f1).2.keep ⟨λa t o _ q=>q,into,λa t o q1 _ n=>?_,λa t o q1 _=>q1,λa o _ _ n=>n⟩⟩;·rw[aE (ne a t q1)];exact n
  refine⟨upd G l (.lst vs),⟨⟨sub,by simp[s.e.len],λj d' h=>?_,ob.rd⟩,s.sub0,⟨sub,s.up.gg.trans into,s.up.hh,λa o q=>?_⟩,λj fs h=>?_,λj k fs gs l' q1 q2 q3 q4=>?_,ob⟩,.inr ⟨l,vs,h3,rfl⟩⟩
  ·rcases get j _ h with⟨rfl,e'⟩|⟨_,e'⟩;·cases e';exact⟨.ref l,h1,.lst aV (h5.mono into)⟩
   ·obtain⟨v,p1,p2⟩:=s.e.val j d' e';exact⟨v,p1,p2.mono into⟩
  ·by_cases ea:a=l;·subst ea;exact .inr h4
   ·rw[aE ea]at q;exact s.up.fr a o q
  ·rcases get j _ h with⟨_,e'⟩|⟨nj,e'⟩;·cases e'
   ·obtain⟨l',vs',p1,p2,p3,p4,p5⟩:=s.own j fs e';have:l'≠l:=λz=>by subst z;exact nj (s.inj j i fs ds l' e' e p1 h1)
    exact⟨l',vs',p1,p2,by rw[aE this];exact p3,p4,p5.mono into⟩
  ·rcases get j _ q1 with⟨_,e'⟩|⟨nj,f1⟩;·cases e'
   ·rcases get k _ q2 with⟨_,e'⟩|⟨nk,f2⟩;·cases e'
    ·exact s.inj j k fs gs l' f1 f2 q3 q4
 ·exact⟨G,s,.inl rfl⟩
def StR.frz{K:PySem.W.Frag}{H₀:Hp}(s:StR K G₀ H₀ G H σ ρ)(i:Nat):∃G',StR K G₀ H₀ G' H σ (L2.frz i ρ):=
 let⟨G',h,_⟩:=s.frzTo i;⟨G',h⟩
def A9{sts:List Stmt}(i:Nat)(h:lR X sts g):lR X sts (λρ=>g (frz i ρ)):=λG₀ H₀ pins s σ H D I q=>by obtain⟨G,ρ,sr,q⟩:=q;obtain⟨G',sr'⟩:=sr.frz i;exact h G₀ H₀ pins s σ H D I ⟨G',_,sr',q⟩
noncomputable def ownAt(ρ:Ev)(i:Nat):R (List D):=match ρ[i]? with
 |some (some (.own ds))=>.ok ds
 |_=>.no
def ownAt.ok{k:List D->O}{D:Ends}{H₀:Hp}(h:ka X G₀ H₀ D ((ownAt ρ i).out ρ k)):∃ds,ρ[i]?=some (some (.own ds))/\ka X G₀ H₀ D (k ds):=by
 unfold ownAt at h;split at h;·rename_i ds e;exact⟨ds,e,h⟩
 ·exact h.elim
def xS(i:Nat){x:Str}{ap cp:Pos}(he:PF X e ga)(hi:X.N[i]?=some x:=by rfl)(hv:Vis X.env.scope x:=by first|exact Or.inl rfl|exact Or.inr (Or.inl rfl))(hd:(x==("__debug__":Str))=false:=by decide)(hcd:(x==("__classdict__":Str))=false:=by decide)(hs1:starEach [e] X.env=(false,eval e X.env)::starEach [] X.env:=by rfl)(hbase:attributeBase (.Name x p) "append" X.env (eval (.Name x p) X.env)=eval (.Name x p) X.env:=by rfl)(hfew:((backTo cp (starEach [e] X.env)).all (λx=>!x.1) && (backToKw cp (keywordEach [] X.env)).all (λx=>x.1.isSome)
 && decide ([e].length+([]:List Keyword).length+(if ([]:List Keyword).isEmpty then 0 else 1)<30))=true:=by rfl)(hline:(ap.endLine==cp.line)=true:=by rfl)(hs:swapsWith (.Call (.Attribute (.Name x p) "append" ap) [e] [] cp) none pos.line X.env=pure false:=by rfl):
  PSF X (.Expr (.Call (.Attribute (.Name x p) "append" ap) [e] [] cp) pos) (λρ=>(ownAt ρ i).out ρ λds=>(ga ρ).out ρ λd=>if ds.length<sizeLine then .nx (ρ.set i (some (.own (ds++[d]))))else .no):=λG₀ H₀ pins s σ H D I h=>by
 refine xP (G0 j2 PySem.F.slot_list_append PySem.F.type_list_append lM (iK hi hv hd hcd) (dQ he jE hs1) hbase hfew hline hs1 rfl) hs pins s σ H D I ?_;obtain⟨G,ρ,sr,h⟩:=h
 try dsimp only at h
 obtain⟨ds,e1,h⟩:=ownAt.ok h;obtain⟨l,vs,h1,h2,h3,h4,h5⟩:=sr.own i ds e1;refine⟨.ref l,h1,.inl ⟨rfl,vs,.of h2⟩,G,ρ,sr.e,?_⟩;cases q:ga ρ with
 |ok d=>
  rw[q]at h;simp only[R.out]at h;intro v G' H' u r;by_cases hz:ds.length<sizeLine;·rw[if_pos hz]at h;refine⟨l,vs,v,rfl,rfl,u.hh _ _ h2,by rw[h5.length];exact hz,h _ G' _ ?_⟩;exact(sr.ups u).mut e1 h1 ((h5.mono u.gg).append (.cons r .nil))
  ·rw[if_neg hz]at h;exact h.elim
 |ex C=>rw[q]at h;exact Exx.of sr h
 |no=>rw[q]at h;exact h
noncomputable def asL:D->R (List D)
 |.lst false xs=>.ok xs
 |_=>.no
def wL(i:Nat){x:Str}{ap cp:Pos}(he:PF X e ga)(hi:X.N[i]?=some x:=by rfl)(hv:Vis X.env.scope x:=by first|exact Or.inl rfl|exact Or.inr (Or.inl rfl))(hd:(x==("__debug__":Str))=false:=by decide)(hcd:(x==("__classdict__":Str))=false:=by decide)(hs1:starEach [e] X.env=(false,eval e X.env)::starEach [] X.env:=by rfl)(hbase:attributeBase (.Name x p) "extend" X.env (eval (.Name x p) X.env)=eval (.Name x p) X.env:=by rfl)(hfew:((backTo cp (starEach [e] X.env)).all (λx=>!x.1) && (backToKw cp (keywordEach [] X.env)).all (λx=>x.1.isSome)
 && decide ([e].length+([]:List Keyword).length+(if ([]:List Keyword).isEmpty then 0 else 1)<30))=true:=by rfl)(hline:(ap.endLine==cp.line)=true:=by rfl)(hs:swapsWith (.Call (.Attribute (.Name x p) "extend" ap) [e] [] cp) none pos.line X.env=pure false:=by rfl):
  PSF X (.Expr (.Call (.Attribute (.Name x p) "extend" ap) [e] [] cp) pos) (λρ=>(ownAt ρ i).out ρ λds=>(ga ρ).out ρ λd=>(asL d).out ρ λes=>if ds.length+es.length<=sizeLine then .nx (ρ.set i (some (.own (ds++es))))else .no):=λG₀ H₀ pins s σ H D I h=>by
 refine xP (G0 j2 PySem.F.slot_list_extend PySem.F.type_list_extend Bv (iK hi hv hd hcd) (dQ he jE hs1) hbase hfew hline hs1 rfl) hs pins s σ H D I ?_;obtain⟨G,ρ,sr,h⟩:=h
 try dsimp only at h
 obtain⟨ds,e1,h⟩:=ownAt.ok h;obtain⟨l,vs,h1,h2,h3,h4,h5⟩:=sr.own i ds e1;refine⟨.ref l,h1,.inl ⟨rfl,vs,.of h2⟩,G,ρ,sr.e,?_⟩;cases q:ga ρ with
 |ok d=>
  rw[q]at h;simp only[R.out]at h;intro v G' H' u r;cases r with
  |lst hb t=>
   rename_i b ws es;have h:ka X G₀ H₀ D (if ds.length+es.length<=sizeLine then .nx (ρ.set i (some (.own (ds++es))))else .no):=h;by_cases hz:ds.length+es.length<=sizeLine;·rw[if_pos hz]at h;refine⟨l,b,vs,ws,rfl,rfl,u.hh _ _ h2,u.sub _ _ hb,by rw[h5.length,t.length];exact hz,h _ G' _ ?_⟩;exact(sr.ups u).mut e1 h1 ((h5.mono u.gg).append t)
   ·rw[if_neg hz]at h;exact h.elim
  |_=>exact h.elim
 |ex C=>rw[q]at h;exact Exx.of sr h
 |no=>rw[q]at h;exact h
noncomputable def iH(asg:D->Ev->R Ev)(g:Ev->O):List D->Ev->O
 | [],ρ=>.nx ρ
 |d::ds,ρ=>(asg d ρ).out ρ λρ1=>match g ρ1 with
  |.nx ρ2=>iH asg g ds ρ2
  |.ct ρ2=>iH asg g ds ρ2
  |.bk ρ2=>.nx ρ2
  |.rt d=>.rt d
  |.re d ρ2=>.re d ρ2
  |.ex C ρ2=>.ex C ρ2
  |.no=>.no
noncomputable def mix(H₀ G₁:Hp):Hp:=λa=>match G₁ a with
 |some o=>some o
 |none=>H₀ a
theorem tw{H₀ G₁:Hp}{a:Addr}(h:mix H₀ G₁ a=none):G₁ a=none/\H₀ a=none:=by
 unfold mix at h;cases q:G₁ a with
 |none=>rw[q]at h;exact⟨rfl,h⟩
 |some o=>rw[q]at h;cases h
section
variable{K:PySem.W.Frag}{H₀ G₁ H₁:Hp}
def StR.to(s:StR K G₀ H₀ G₁ H₁ σ ρ):StR K G₁ (mix H₀ G₁) G₁ H₁ σ ρ:=by
 refine⟨s.e,λa o e=>?_,⟨s.e.sub,.refl _,λa o e=>?_,λ_ _ e=>.inl e⟩,λi ds e=>?_,s.inj,?_⟩;·unfold mix;rw[e]
 ·unfold mix at e;cases q:G₁ a with
  |none=>rw[q]at e;exact s.up.hh a o e
  |some o'=>rw[q]at e;cases e;exact s.e.sub a o q
 ·obtain⟨l,vs,h1,h2,h3,h4,h5⟩:=s.own i ds e;exact⟨l,vs,h1,h2,h3,by unfold mix;rw[h3];exact h4,h5⟩
 ·obtain⟨ow,o1,o2⟩:=s.ob;exact⟨ow,o1,λi m C p fs e=>⟨(o2 i m C p fs e).1,(o2 i m C p fs e).2.keep ⟨λa t o _ q=>q,.refl _,λa t o _ _ n=>n,λa t o q1 _=>q1,λa o _ g n=>by unfold mix;rw[g];exact n⟩⟩⟩
def Up.back(u:Up G₀ H₀ G₁ H₁)(v:Up G₁ (mix H₀ G₁) G H):Up G₀ H₀ G H:=by
 refine⟨v.sub,u.gg.trans v.gg,λa o e=>?_,λa o e=>?_⟩
 ·cases q:G₁ a with
  |none=>exact v.hh a o (by unfold mix;rw[q];exact e)
  |some o'=>have h1:=u.sub a o' q;have h2:=u.hh a o e;rw[h1]at h2;cases h2;exact v.hh a o (by unfold mix;rw[q])
 ·rcases v.fr a o e with h|h;·exact u.fr a o h
  ·exact .inr (tw h).2
def StR.back(s0:Same G₀ H₀)(u:Up G₀ H₀ G₁ H₁)(s:StR K G₁ (mix H₀ G₁) G H σ ρ):StR K G₀ H₀ G H σ ρ:=
 ⟨s.e,s0,u.back s.up,λi ds e=>let⟨l,vs,h1,h2,h3,h4,h5⟩:=s.own i ds e;⟨l,vs,h1,h2,h3,(tw h4).2,h5⟩,s.inj,by
 obtain⟨ow,o1,o2⟩:=s.ob;exact⟨ow,o1,λi m C p fs e=>⟨(o2 i m C p fs e).1,(o2 i m C p fs e).2.keep ⟨λa t o _ q=>q,.refl _,λa t o _ _ n=>n,λa t o q1 _=>q1,λa o _ _ n=>(tw n).2⟩⟩⟩⟩
end
def D4(hp:PassesOwn (model X.prog X.w) X.A X.env X.xe)(hcalm:X.calm=true)(hi:PIF X tg iter gi)(hg:PGF X tg asg)(hb:lR X body g)(hs:∀x,foldedSetIterable iter X.env x=pure x:=by intro _;rfl)(hn:∀d ρ C,asg d ρ≠.ex C:=by intro _ _ _ z;cases z):PSF X (.For tg iter body [] pos) (λρ=>(gi ρ).out ρ λitems=>iH asg g items ρ):=λG₀ H₀ pins s σ H D I h=>by
 obtain⟨G,ρ,sr,h⟩:=h
 try dsimp only at h
 cases q:gi ρ with
 |ok items=>
  rw[q]at h;simp only[R.out]at h;have key:∀(J:It)(G1 H1:Hp),Up G H G1 H1->ItOk X.K G1 J items->∃W:Nat->Nat->St->Hp->Prop,(∃m,W 0 m σ H1)/\∀i m σ H,W i m σ H->
    (J.stop i H/\D.nx σ H)\/(J.go i H/\∃N:St->Hp->Prop,(∀σ' H',N σ' H'->∃m',m'<m/\W (i+1) m' σ' H')/\∀x H',J.yld i H x H'->(λv σ H Q=>∃G₀ H₀ G ρ d ρ',StR X.K G₀ H₀ G H σ ρ/\Rep X.K G v d/\asg d ρ=.ok ρ'/\∀σ',StR X.K G₀ H₀ G H σ' ρ'->Q σ' H) x σ H' λσ2 H2=>(λD σ H=>∃G₀ H₀,tS X G₀ H₀ g D σ H) { D with nx:=N,ct:=N,bk:=D.nx } σ2 H2):=by
   intro J G1 H1 u1 iok;have sr1:=sr.ups u1;refine⟨λi m σ' H'=>m=items.length - i/\i<=items.length/\∃G' ρ',StR X.K G1 (mix H₀ G1) G' H' σ' ρ'/\ka X G₀ H₀ D (iH asg g (items.drop i) ρ'),⟨items.length,by simp,t7 _,G1,ρ,sr1.to,by simpa using h⟩,?_⟩;rintro i m σ' H' ⟨rfl,hil,G',ρ',sr',h'⟩;have hIt:=iok i G' H' sr'.up.gg sr'.e.sub;by_cases hlt:i<items.length
   ·have hd:items.drop i=items[i]::items.drop (i+1):=mf hlt;rw[hd]at h';obtain⟨go,yl⟩:=hIt.1 items[i] (by simp[hlt]);refine .inr ⟨go,λσ2 H2=>i+1<=items.length/\∃G2 ρ2,StR X.K G1 (mix H₀ G1) G2 H2 σ2 ρ2/\ka X G₀ H₀ D (iH asg g (items.drop (i+1)) ρ2),λσ2 H2 q2=>⟨items.length - (i+1),by omega,rfl,q2⟩,λx H2 y=>?_⟩;obtain⟨G2,up2,rep2⟩:=yl x H2 y;unfold iH at h';cases q2:asg items[i] ρ' with
    |ok ρ1=>
     rw[q2]at h';simp only[R.out]at h';refine⟨G1,mix H₀ G1,G2,ρ',items[i],ρ1,sr'.ups up2,rep2,q2,λσ3 sr3=>⟨G1,mix H₀ G1,G2,ρ1,sr3,?_⟩⟩;cases q3:g ρ1 with
     |nx ρ2=>rw[q3]at h';exact λσ4 G4 H4 sr4=>⟨hlt,G4,ρ2,sr4,h'⟩
     |ct ρ2=>rw[q3]at h';exact λσ4 G4 H4 sr4=>⟨hlt,G4,ρ2,sr4,h'⟩
     |bk ρ2=>rw[q3]at h';exact λσ4 G4 H4 sr4=>h' σ4 G4 H4 (sr4.back sr.sub0 sr1.up)
     |rt d=>rw[q3]at h';exact λv G4 H4 u4 r4=>h' v G4 H4 (sr1.up.back u4) r4
     |re d ρ2=>rw[q3]at h';exact λv σ4 G4 H4 sr4 r4=>h' v σ4 G4 H4 (sr4.back sr.sub0 sr1.up) r4
     |ex C ρ2=>rw[q3]at h';exact λe s' f4=>h' e s' (f4.map λσ4 G4 H4 sr4=>sr4.back sr.sub0 sr1.up)
     |no=>rw[q3]at h';exact h'
    |ex C=>exact absurd q2 (hn _ _ C)
    |no=>rw[q2]at h';exact h'.elim
   ·have hie:i=items.length:=by omega
    subst hie;rw[kY]at h';exact .inl ⟨hIt.2 (zq _),h' σ' G' H' (sr'.back sr.sub0 sr1.up)⟩
  have hb':PSs X body (λD σ H=>∃G₀ H₀,tS X G₀ H₀ g D σ H):=λpins s σ H D I ⟨G₀,H₀,q⟩=>hb G₀ H₀ pins s σ H D I q;refine FC hp hcalm hi hg hb' hs pins s σ H D I ⟨G,ρ,sr.e,?_⟩;rw[q];exact λJ G1 H1 u1 iok=>key J G1 H1 u1 iok
 |ex C=>rw[q]at h;have hb':PSs X body (λD σ H=>∃G₀ H₀,tS X G₀ H₀ g D σ H):=λpins s σ H D I ⟨G₀,H₀,q⟩=>hb G₀ H₀ pins s σ H D I q;refine FC hp hcalm hi hg hb' hs pins s σ H D I ⟨G,ρ,sr.e,?_⟩;rw[q];exact Exx.of sr h
 |no=>rw[q]at h;exact h.elim
end
noncomputable def spF(K:PySem.W.Frag)(f:List D->R D):Sp:=λvs H Q E=>∃G ds,Same G H/\Reps K G vs ds/\(f ds).post (Fin G H (Rep K) Q) (λC=>∀G' H',Up G H G' H'->E (.ref C) none H')
noncomputable abbrev FnF(P:Program)(w:World)(K:PySem.W.Frag)(mg:Str->Option Value)(base:Heap)(k:Nat)(f:Addr)(fd:FuncData)(ps:List Str)(g:List D->R D):Prop:=FnOk P w K mg base (CXo P w) k f fd ps (λvs H Q E=>vs.length=ps.length/\spF K g vs H Q E)
section
variable{x:Str}{pos:Pos}{e:Expr}{g:List D->R D}
def IK(F:FnF X.prog X.w X.K X.mg X.base k f fd ps g)(hr:Room k X.A)(hg:Gl X x)(hm:X.mg x=some (.ref f))(hk:PySem.W.keepIn X.K (.ref f)=true)(hb:Binds X.K fd ps [])(ha:PFA X (e::es) gl)(hdb:(x==("__debug__":Str))=false:=by decide)(he:starEach (e::es) X.env=(false,eval e X.env)::starEach es X.env:=by rfl)(hpl:(backTo pos (starEach es X.env)).any (·.1)=false:=by rfl):
  PF X (.Call (.Name x p) (e::es) [] pos) (λρ=>gl ρ>>=λds=>if ds.length=ps.length then g ds else .no):=by
 intro pins s σ H Q I h;obtain⟨G,ρ,st,h⟩:=h;have t:tAF X gl σ H (λvs H1=>∃G1 ds,Up G H G1 H1/\Same G1 H1/\Reps X.K G1 vs ds/\ds.length=ps.length/\(g ds).post (Fin G1 H1 (Rep X.K) Q) (Exx X σ G1 H1)):=by
  refine tG.intro st h λds vs G1 H1 u1 st1 r1 h1=>?_;by_cases hl:ds.length=ps.length;·rw[if_pos hl]at h1;exact⟨G1,ds,u1,st1.sub,r1,hl,h1⟩
  ·rw[if_neg hl]at h1;exact h1.elim
 refine o9 (mq I hg hm ?_ hdb);refine j3 (h₀:=X.base) I.ok.mod.kin hk (thn (ha pos pins s σ H _ I t) λus s1 q=>⟨?_,?_⟩) he hpl;·obtain⟨vs,H1,I1,r,_⟩:=q;exact I1.kIn
 obtain⟨vs,H1,I1,r,G1,ds,u1,sub1,rp,hl,h1⟩:=q;have hvl:vs.length=ps.length:=by rw[rp.length];exact hl
 have hul:(us++[]).length=ps.length:=by rw[uZ,<- r.length];exact hvl
 have hbb:=hb s1 us I1.kIn hul;rw[uZ]at hbb;refine qF (qc (F.run X.A X.stack s1 H1 ⟨us,[]⟩ us vs Q (λc _ H'=>∃C G',c=.ref C/\Up G1 H1 G' H'/\Exx X σ G1 H1 C) hr I1.env0 hbb r ⟨hvl,G1,ds,sub1,rp,h1.mono (λ_ q=>q) λC q G' H' u=>⟨C,G',rfl,u,q⟩⟩) λr' s' hq=>?_);cases r' with
 |error e'=>obtain⟨a,C,H',rfl,fl,C',G',ec,u,q⟩:=hq;cases ec;exact q _ _ ⟨G1,H1,.refl sub1,pins,s1,a,rfl,I1,.inr (.inl ⟨G',H',fl,u⟩)⟩
 |ok fl=>
  cases fl with
  |ret u=>exact I1.after hq
  |_=>exact False.elim hq
end
def ObjOk.there{w:World}{o:HO}(x:ObjOk P w H h a o):∃ob,h.get? a=some ob:=by
 cases o with
 |lst xs=>obtain⟨_,_,_,_,e⟩:=x;exact⟨_,e⟩
 |tup xs=>obtain⟨_,_,_,o,e,_⟩:=x;exact⟨_,e⟩
 |dK kvs=>obtain⟨_,_,_,_,o,_,_,e,_⟩:=x;exact⟨_,e⟩
 |dT kvs=>obtain⟨_,_,_,_,o,_,_,e,_⟩:=x;exact⟨_,e⟩
 |set S n=>obtain⟨o,_,_,_,e,_⟩:=x;exact⟨_,e⟩
 |ins C dx fs=>obtain⟨_,_,_,e,_⟩:=x;exact⟨_,e⟩
 |own y=>obtain⟨_,e⟩:=x;exact⟨_,e⟩
 |xd fs=>obtain⟨_,⟨_,_,_,e,_⟩,_⟩:=x;exact⟨_,e⟩
 |rng lo hi=>obtain⟨_,_,_,e⟩:=x;exact⟨_,e⟩
 |frz ob u=>obtain⟨e,_⟩:=x;exact⟨_,e⟩
 |tbl ps=>obtain⟨_,e,_⟩:=x;exact⟨_,e⟩
 |met f y=>exact⟨_,show h.get? a=some _ from x⟩
 |ext φ=>obtain⟨_,⟨_,e⟩,_⟩:=x;exact⟨_,e⟩
def tB{env:Env}{outer:List Env}(h:env.frame=some L):frs (env::outer)=L::frs outer:=by unfold frs;rw[il,h]
section
variable{w:World}{h1 h2 hm:Heap}{l l':List Addr}{B:Heap}
def HOk.flight(x:HOk P w H' h1)(hb:B.StaysIn h2)(hk:∀b o,b∉l->((∃o0,hm.get? b=some o0)\/∃u,H' b=some u)->h1.get? b=some o->B.get? b=some o)(hl:∀b∈l,H' b=none):HOk P w H' h2:=λa o e=>by
 refine(x a o e).stay (λb u hbb q=>hb b u (hk b u (λz=>?_) (.inr ?_) q)) (λ_ z=>z) (λ_ _ z=>z)
 ·rcases hbb with rfl|hbb;·rw[hl _ z]at e;cases e
  ·rw[hl _ z]at hbb;cases hbb
 ·rcases hbb with rfl|hbb;·exact⟨_,e⟩
  ·exact⟨_,hbb⟩
def Un.flight{ex:List Addr}(u:Un l' ex H H' h h1)(hb:B.StaysIn h2)(sm:h1.UpToSlots h2)(hk:∀b o,b∉l->((∃o0,hm.get? b=some o0)\/∃u,H' b=some u)->h1.get? b=some o->B.get? b=some o)(lt:∀b o,h.get? b=some o->∃o0,hm.get? b=some o0)(hl:∀b∈l,b∈l'\/h.objs.size<=b)(hd:∀b∈l,∀o,h1.get? b=some o->∀vs,o.data≠.fields vs):Un l' ex H H' h h2:=by
 refine⟨λb o e nn hb' hx=>?_,λb o e nn hb' hx=>?_,u.free,λb o e hx=>?_,u.tups,u.frzs,u.tbls⟩
 ·have q:=u.keep b o e nn hb' hx;refine hb b o (hk b o (λz=>?_) (.inl (lt b o e)) q);rcases hl b z with z|z;·exact hb' z
  ·exact absurd (zj e) (tz.mpr z)
 ·obtain⟨sl,q⟩:=u.slot b o e nn hb' hx;by_cases z:b∈l;·obtain⟨sl',q'⟩:=sm b _ q (hd b z _ q);exact⟨sl',q'⟩
  ·exact⟨sl,hb b _ (hk b _ z (.inl (lt b o e)) q)⟩
 ·obtain⟨o',q⟩:=u.there b o e hx;by_cases z:b∈l;·obtain⟨sl',q'⟩:=sm b _ q (hd b z _ q);exact⟨_,q'⟩
  ·exact⟨o',hb b _ (hk b _ z (.inl (lt b o e)) q)⟩
end
def FunFrames.data{base:Heap}:∀{l:List Env},h.FunFrames base l->∀b∈frs l,∃o,h.get? b=some o/\(∀vs,o.data≠.fields vs)/\base.get? b=none:=λ{l} hf b hb=>by obtain⟨h1,o,h2,h3⟩:=hf.mem hb;exact⟨o,h2,h3,h1⟩
noncomputable def gCx(P:Program)(w:World)(K:PySem.W.Frag)(mg:Str->Option Value)(base:Heap)(N:List Str)(env:Env)(fn:Str->Bool)(A:Around)(outer:List Env)(s:Shared)(H:Hp)(E:XK):Cx where
 prog:=P
 w:=w
 K:=K
 mg:=mg
 base:=base
 A:=A.deeper env
 N:=N
 s₀:=s
 H₀:=H
 env:=env
 outer:=outer
 stack:=env::outer
 ex:=[]
 calm:=true
 fn:=fn
 pn:=[]
 xe:=λe s'=>wpAny (model P w) (A.deeper env) (leaving env e) (λ_ s''=>CXo P w outer H s E e s'') (λe' s''=>CXo P w outer H s E e' s'') s'
def Iw{w : World}{K : PySem.W.Frag}{mg : Str -> Option Value}{base : Heap}{N : List Str}{env : Env}{fn : Str -> Bool}{A : Around}{outer : List Env}{E : XK}{e : Value}(hloc : env.locals = s.heap.objs.size)(hf : env.frame = some s.heap.objs.size)(fl : FlyS (gCx P w K mg base N env fn A outer s H E) G H ρ C e s')(hE : ∀G' H', Up G H G' H' -> E (.ref C) none H'): (gCx P w K mg base N env fn A outer s H E).xe e s' := by
  obtain⟨σ, H₁, pins, s₁, a, rfl, I, way⟩ := fl;have hfr : (A.deeper (env)).frames = some (env :: outer) := I.ok.frames;have hst : frs (env :: outer) = s.heap.objs.size :: frs outer := tB hf;have old : ∀b o, s.heap.get? b = some o -> ∃o0, s₁.heap.get? b = some o0 := λb o e => I.base.there b o e (by show b∉([] : List Addr); simp);show wpAny (model P w) (A.deeper (env)) (leaving (env) (.ref a)) (λ_ s'' => CXo P w outer H s E (.ref a) s'') (λe' s'' => CXo P w outer H s E e' s'') s';have fin : ∀{H' : Hp}{G' : Hp}{s' : Shared}{h'' B : Heap}{a0 : Value}, Inv (gCx P w K mg base N env fn A outer s H E) pins σ H' s' -> StR K G H G' H' σ ρ -> H' a = none -> Heap.FlyingW B outer a (.ref C) a0 h'' -> s'.heap.UpToSlots h'' ->
      (∀b o, b∉s.heap.objs.size :: frs outer -> ((∃o0, s₁.heap.get? b = some o0) \/ ∃u, H' b = some u) -> s'.heap.get? b = some o -> B.get? b = some o) -> CXo P w outer H s E (.ref a) { s' with heap := h'' } := by
    intro H' G' s' h'' B a0 J up ha fl sm hk;have J0 : H' s.heap.objs.size = none := by have q : H' env.locals = none := J.free; rw[hloc]at q; exact q
    have fr0 : ∀b ∈ frs outer, H' b = none := λb hb => J.stkFree b (by show b ∈ frs (env :: outer); rw[hst]; exact wB _ hb);have frA : ∀b ∈ s.heap.objs.size :: frs outer, H' b = none := λb hb => by
      rcases y9.mp hb with rfl|hb;· exact J0
      · exact fr0 b hb
    have dat : ∀b ∈ s.heap.objs.size :: frs outer, ∀o, s'.heap.get? b = some o -> ∀vs, o.data≠.fields vs := λb hb o e => by obtain⟨o', e', d', _⟩ := FunFrames.data J.stack b (by show b ∈ frs (env :: outer); rw[hst]; exact hb);rw[e]at e'; cases e'; exact d'
    have hok : HOk P w H' h'' := J.hok.flight fl.1 hk frA;have un : Un (frs outer) [] H H' s.heap h'' := Un.flight J.base fl.1 sm hk old (λb hb => (y9.mp hb).elim (λz => .inr (by rw[z]; exact zq _)) .inl) dat;refine⟨a, C, H', rfl, ⟨J.os, J.bare, un, hok, ha, B, a0, fl, λb o hb ho e => ?_⟩, hE G' H' up.up⟩;have nb : b∉s.heap.objs.size :: frs outer := λz => by
      rcases y9.mp z with z|z
      · rcases ho with⟨o0, ho⟩ | ⟨u, ho⟩;· rw[z]at ho; exact tH _ (zj ho)
        · rw[z, J0]at ho; cases ho
      · exact hb z
    have ho' : (∃o0, s₁.heap.get? b = some o0) \/ ∃u, H' b = some u := ho.imp (λ⟨o0, z⟩ => old b o0 z) id;have ex : ∃o', s'.heap.get? b = some o' := by
      rcases ho with⟨o0, ho⟩ | ⟨u, ho⟩;· exact J.base.there b o0 ho (by show b∉([] : List Addr); simp)
      · exact(J.hok b u ho).there
    obtain⟨o', e'⟩ := ex;have q := hk b o' nb ho' e';have q2 := fl.1 b o' q;have e2 : h''.get? b = some o := e;rw[q2]at e2;cases e2;exact q
  rcases way with⟨G₁, h', vs, sr, made, rfl⟩ | ⟨G', H', ⟨os, bare, un, hok, ha, B, a0, fl, hk⟩, up⟩ | ⟨G', H', L', hL, ⟨os, bare, ⟨ch, hch, un⟩, hok, ha, _, B, a0, fl, hk⟩, up⟩
  ·
    have J : Inv (gCx P w K mg base N env fn A outer s H E) pins σ H₁ { s₁ with heap := h' } := I.kept (t' := s₁.toks) made.keeps;have hin : ∀en ∈ (env :: outer), ∀b, en.frame = some b -> b ∈ s.heap.objs.size :: frs outer := λen he b hb => by rw[<- hst]; exact o6.mpr ⟨en, he, hb⟩
    refine wpAny_leaves_madeW (base := PySem.W.hideAll s₁.heap (s.heap.objs.size :: frs outer)) hfr hf (λb o q => qJ _ q) (d8 I.stack hin) made λh'' t fl' _ _ sm => ?_;have ha : H₁ a = none := by
      cases q : H₁ a with
      |none => rfl
      |some u =>obtain⟨ob, e⟩ := (I.hok a u q).there;rw[made.new]at e; cases e
    refine fin J sr ha fl' sm λb o hb ho e => ?_;have e1 : s₁.heap.get? b = some o := by
      rcases ho with⟨o0, ho⟩ | ⟨u, ho⟩;· have q := made.keeps b o0 ho;have e' : h'.get? b = some o := e;rw[q]at e'; cases e'; exact ho
      · obtain⟨ob, ho⟩ := (I.hok b u ho).there;have q := made.keeps b ob ho;have e' : h'.get? b = some o := e;rw[q]at e'; cases e'; exact ho
    exact j4 _ e1 hb
  · have J := I.call' (s' := s') (ch := []) os un hok bare (λb z => absurd z (by simp));exact wpAny_leaves_onW hfr hf fl λh'' fl' sm => fin J up ha fl' sm λb o hb ho e => hk b o (by show b∉frs (env :: outer); rw[hst]; exact hb) ho e
  · have J := I.call' (s' := s') (ch := ch) os un hok bare hch;have eL : s.heap.objs.size = L' := xf (hf.symm.trans hL);rw[<- eL]at fl;refine z9 (d9 hf fl.2.2.2 (wpAny_landsW fl λh'' fl' sm => ?_));obtain⟨k1, k2, ⟨_, _, k3⟩, k4⟩ := fl';exact fin J up ha ⟨k1, k2, k3, k4⟩ sm λb o hb ho e => hk b o (by show b∉frs (env :: outer); rw[hst]; exact hb) ho e

def tx{w:World}{K:PySem.W.Frag}{mg:Str->Option Value}{base:Heap}{N:List Str}{cd:Value}{A:Around}{outer:List Env}{E:XK}{e:Value}(fl:FlyS (gB (CXo P w) P w K mg base N qual scope f cd A outer s H E) G H ρ C e s')(hE:∀G' H',Up G H G' H'->E (.ref C) none H'):(gB (CXo P w) P w K mg base N qual scope f cd A outer s H E).xe e s':=
 Iw (env:=envOfC qual scope s.heap.objs.size f cd) (fn:=λ_=>true) rfl rfl fl hE
noncomputable def aw(n:Nat)(ds:List D):Ev:=ds.map (λd=>some (.val d))++List.replicate (n - ds.length) none
noncomputable def aD(o:O):R D:=match o with
 |.rt d=>.ok d
 |.re d _=>.ok d
 |.nx _=>.ok .non
 |.ex C _=>.ex C
 |_=>.no
def yI{K:PySem.W.Frag}{N:List Str}(sub:Same G H)(r:Reps K G vs ds):StR K G H G H (kE N vs) (aw N.length ds):=by
 have hl:=r.length;have get:∀(i:Nat) x,(aw N.length ds)[i]?=some (some x)->∃d,ds[i]?=some d/\x=.val d:=λi x e=>by
  unfold aw at e;by_cases hi:i<ds.length
  ·rw[q9 (by simpa using hi),wZ]at e;cases q:ds[i]? with
   |none=>rw[q]at e;cases e
   |some d=>rw[q]at e;cases e;exact⟨d,rfl,rfl⟩
  ·rw[qC (by simpa using hi),p6]at e;split at e <;> cases e
 have no:NoOwn (aw N.length ds):=λi x e=>by obtain⟨d',_,q⟩:=get i _ e;exact⟨d',q⟩
 refine⟨⟨sub,by simp[kE,aw,hl],λi d e=>?_,λi m C p fs e=>absurd e (no.obj i m C p fs)⟩,sub,.refl sub,λi es e=>?_,λi j es fs l e=>?_,no.ob⟩;·obtain⟨d',e',q⟩:=get i _ e;cases q;obtain⟨v,ev,rv⟩:=r.get e';refine⟨v,?_,rv⟩;unfold kE;rw[q9 (by have:=(wK.mp ev).1;simpa using this),wZ,ev];rfl
 ·obtain⟨d',_,q⟩:=get i _ e;cases q
 ·obtain⟨d',_,q⟩:=get i _ e;cases q
def Fun.okF{w:World}{K:PySem.W.Frag}{mg:Str->Option Value}{base:Heap}{x:Str}{N:List Str}(F:Fun K x qual st f fd)(S:FnScope N ps (ar st)){g:Ev->O}(hbody:∀(cdv:Value)(A:Around)(outer:List Env)(s:Shared)(H:Hp)(E:XK),Room k (A.deeper (envOfC qual (ar st) s.heap.objs.size f cdv))->lR (gB (CXo P w) P w K mg base N qual (ar st) f cdv A outer s H E) (cz st) g):
  FnF P w K mg base (k+1) f fd ps (λds=>aD (g (aw N.length ds))):=by
 obtain⟨oc,od,kV,doc,pm,an,cdv,ct,osl,rfl,lk,hcd⟩:=F.ex;refine Hj lk hcd S (λvs H Q E h=>h.1) λA outer s H vs Q E hr hsp=>?_;obtain⟨hl,G,ds,sub,r,h⟩:=hsp;refine⟨_,hbody cdv A outer s H E hr G H,G,aw N.length ds,yI sub r,?_⟩;dsimp only at h;cases q:g (aw N.length ds)with
 |nx ρ=>rw[q]at h;exact λσ G' H' sr=>h .non G' H' sr.up .non
 |rt d=>rw[q]at h;exact λv G' H' u rv=>h v G' H' u rv
 |re d ρ=>rw[q]at h;exact λv σ G' H' sr rv=>h v G' H' sr.up rv
 |bk ρ=>rw[q]at h;exact h.elim
 |ct ρ=>rw[q]at h;exact h.elim
 |ex C ρ=>rw[q]at h;exact λe s' fl=>tx fl h
 |no=>rw[q]at h;exact h.elim
theorem pW:fillsNumberSlot (.type "tuple") "mul"=pure false:=
 PySem.fillsNumberSlot_seq (id:="tuple.__mul__") (r:=some (.builtin "tuple.__rmul__")) F.slot_tuple_mul.lookup (by decide +kernel) F.slot_tuple_rmul.lookup (by decide +kernel)
theorem Gs:seqRepeat? (.type "tuple")=pure (some (.builtin "tuple.__mul__")):=by unfold seqRepeat?;rw[PySem.seqSlot_of (T:="tuple") (name:="__mul__") (id:="tuple.__mul__") F.slot_tuple_mul.lookup (by decide +kernel),PySem.seqSlot_of (T:="tuple") (name:="__rmul__") (id:="tuple.__rmul__") F.slot_tuple_rmul.lookup (by decide +kernel)];rfl
open Builtin in
def uK(a:Int)(t:Tok)(l:Addr)(items:Array Value)(n:Nat)(dd:Option Addr)(sl:Array (Option Value)):
  Meets (Builtin.«int.__rmul__» ⟨[.int a t,.ref l],[]⟩) (λ_ Rr s=>s.heap.get? l=some { cls:=.type "tuple",dict:=dd,data:=.seq items n,slots:=sl }/\Rr (.ok (.ret Value.notImplemented)) s):=
 .of_wp λprog w A Rr s h=>by obtain⟨hp,g,d,tk,os⟩:=s;obtain⟨hl,h⟩:=h;wp_walk;exact⟨_,rfl,h⟩
section
open Builtin AutoSeq1
variable(l:Addr)(items:Array Value)(n:Nat)(dd:Option Addr)(sl:Array (Option Value))(x:Int)(u:Tok)(h1:(decide (x < -(2 ^ 63)) || decide (x ≥ 2 ^ 63))=false)
include h1
def CT(hc:(items.isEmpty || x==1)=true):
  Meets (Builtin.«tuple.__mul__» ⟨[.ref l,.int x u],[]⟩) (λ_ Rr s=>s.heap.get? l=some { cls:=.type "tuple",dict:=dd,data:=.seq items n,slots:=sl }/\Rr (.ok (.ret (.ref l))) s):=
 .of_wp λprog w A Rr s h=>by
  obtain⟨hp,g,d,tk,os⟩:=s;obtain⟨hl,h⟩:=h;have f1:=idx_int
  wp_walk
  refine dO (by rw[h1];rfl) ?_;refine z9 (oF (show IsTup hp l items from⟨_,hl,rfl,n,rfl⟩) ?_);dsimp only;rw[if_pos hc];unfold Tuple.tupleIsExact;refine z9 (z9 (lE ⟨_,hl,rfl⟩ (zd ?_)));rw[if_pos (by decide)];exact z9 (qu (zd ⟨_,rfl,h⟩))
def EG(hc : ¬ (items.isEmpty || x==1)=true)(h2:(decide (x<=0) || items.isEmpty)=true):
  Meets (Builtin.«tuple.__mul__» ⟨[.ref l,.int x u],[]⟩) (λ_ Rr s=>s.heap.get? l=some { cls:=.type "tuple",dict:=dd,data:=.seq items n,slots:=sl }/\Rr (.ok (.ret (.ref s.heap.objs.size))) { s with heap:=s.heap.push { cls:=.type "tuple",data:=.seq #[] } }):=
 .of_wp λprog w A Rr s h=>by
  obtain⟨hp,g,d,tk,os⟩:=s;obtain⟨hl,h⟩:=h;have f1:=idx_int
  wp_walk
  refine dO (by rw[h1];rfl) ?_;refine z9 (oF (show IsTup hp l items from⟨_,hl,rfl,n,rfl⟩) ?_);dsimp only;rw[if_neg hc,if_pos h2];exact z9 (m:=Builtin.Tuple.tupleExact _) (u6 (zd ⟨_,rfl,h⟩) (t7 _))
def Ea(hc : ¬ (items.isEmpty || x==1)=true)(h2 : ¬ (decide (x<=0) || items.isEmpty)=true)(hz:items.size * x.toNat<=sizeLine):
  Meets (Builtin.«tuple.__mul__» ⟨[.ref l,.int x u],[]⟩) (λ_ Rr s=>s.heap.get? l=some { cls:=.type "tuple",dict:=dd,data:=.seq items n,slots:=sl }/\
   Rr (.ok (.ret (.ref s.heap.objs.size))) { s with heap:=s.heap.push { cls:=.type "tuple",data:=.seq (List.foldl (λx1 x2=>x1++x2) #[] (List.replicate x.toNat items)) } }):=
 .of_wp λprog w A Rr s h=>by
  obtain⟨hp,g,d,tk,os⟩:=s;obtain⟨hl,h⟩:=h;have f1:=idx_int;have hx:0<x:=by
   cases q:decide (x<=0)with
   |true=>rw[q]at h2;exact absurd rfl h2
   |false=>exact Int.not_le.mp (of_decide_eq_false q)
  have ez:(items.size:Int) * x=((items.size * x.toNat:Nat):Int):=by rw[Int.natCast_mul,r0 (Int.le_of_lt hx)]
  have hlim:(sizeLine:Nat)<=(2 ^ 63 - 1) / 8:=by decide
  have h3 : ¬ ((items.size:Int) * x > (2 ^ 63 - 1) / 8):=by
   rw[ez];have:((sizeLine:Nat):Int)<=(2 ^ 63 - 1) / 8:=by decide
   omega
  have h4 : ¬ (Tuple.tupleTooMany ((items.size:Int) * x)=true):=by unfold Tuple.tupleTooMany;rw[ez];intro q;have:=j5 q;omega
  have hfz:(List.foldl (λx1 x2=>x1++x2) #[] (List.replicate x.toNat items)).size<=sizeLine:=by have e:=lG items.toList x.toNat [];simp only[nu,Array.toArray_toList]at e;rw[e,x9,si,pY,lX];exact hz
  wp_walk
  refine dO (by rw[h1];rfl) ?_;refine z9 (oF (show IsTup hp l items from⟨_,hl,rfl,n,rfl⟩) ?_);dsimp only;rw[if_neg hc,if_neg h2,if_neg h3,if_neg h4];exact z9 (m:=Builtin.Tuple.tupleExact _) (u6 (zd ⟨_,rfl,h⟩) hfz)
end
section
noncomputable def KQ(K:PySem.W.Frag):R2:=λx y H Q=>∃l k xs,x=.ref l/\y=.int k/\SqT K H l xs/\-(2 ^ 63)<=k/\k<2 ^ 63/\xs.length * k.toNat<=sizeLine/\
 (xs=[]\/k=1->Q (.ref l) H)/\(xs≠[]->k≠1->∀p,H p=none->Q (.ref p) (upd H p (.tup (List.replicate k.toNat xs).flatten)))
theorem op_repT:OpR X (binaryOp .Mult) (KQ X.K):=by
 intro pins s σ H x y v u Q I rx ry h;obtain⟨l,k,xs,rfl,rfl,hH,h1,h2,hz,q0,q1⟩:=h;cases rx;obtain⟨t,rfl⟩:=ry;obtain⟨its,r,p,hzz⟩:=I.tuple hH;obtain⟨⟨cls,dd,data,sl⟩,ho,hc,n,hd⟩:=id p;simp only at hc hd;subst hc hd;have hlen:its.length=xs.length:=r.length.symm;have hin:(decide (k < -(2 ^ 63)) || decide (k ≥ 2 ^ 63))=false:=by rw[wI (by omega),wI (by omega)];rfl
 have emp:its.toArray.isEmpty=decide (xs=[]):=by
  cases its with
  |nil=>cases r;rfl
  |cons a b=>cases r;rfl
 refine wpAny_binaryOp_repeat_ref (T:="tuple") (U:="int") (by decide) ⟨_,ho,rfl⟩ (λs'=>n6 s' k t) pW F.fills_int_mul lT Gs F.slot_int_index.lookup
  (uR lT (n6 s k t) F.entry_int_rmul (F.args_int_rmul_2 _ _) (uK k t l its.toArray n dd sl) ⟨ho,rfl,⟨_,ho,rfl⟩,?_⟩);by_cases hc:(its.toArray.isEmpty || k==1)=true;·refine uR c7 ⟨_,ho,rfl⟩ c8 (b7 _ _) (CT l its.toArray n dd sl k t hin hc) ⟨ho,.ref l,H,I,rfl,q0 ?_⟩;rw[emp]at hc;simpa using hc
 ·have hne:xs≠[]/\k≠1:=by rw[emp]at hc;simpa using hc
  have fin:∀its',its'=(List.replicate k.toNat its).flatten->EP X pins σ Q (.ref s.heap.objs.size) { s with heap:=s.heap.push { cls:=.type "tuple",data:=.seq its'.toArray } }:=λits' e=>by subst e;refine⟨.ref s.heap.objs.size,_,I.laid (t':=s.toks) (o:=.tup (List.replicate k.toNat xs).flatten) (λb ob q=>zL _ q) (zq _) ?_,rfl,q1 hne.1 hne.2 _ I.fresh⟩;exact⟨by rw[si,lX];exact hz,_,r.rep k.toNat,tO _ _⟩
  by_cases h0:(decide (k<=0) || its.toArray.isEmpty)=true
  ·refine uR c7 ⟨_,ho,rfl⟩ c8 (b7 _ _) (EG l its.toArray n dd sl k t hin hc h0) ⟨ho,?_⟩;refine fin [] ?_;have:k<=0:=by rw[emp,wI hne.1,Bool.or_false]at h0;exact j5 h0
   rw[Int.toNat_of_nonpos this];rfl
  ·refine uR c7 ⟨_,ho,rfl⟩ c8 (b7 _ _) (Ea l its.toArray n dd sl k t hin hc h0 (by rw[x9,hlen];exact hz)) ⟨ho,?_⟩;have e:=lG its k.toNat [];simp only[nu]at e;rw[e];exact fin _ rfl
def Ig(x:Str)(n:Int):(Txt.mul x n).cps.toList=(List.replicate n.toNat x.cps.toList).flatten:=by
 unfold Txt.mul;by_cases h1:n<1;·rw[if_pos h1,Int.toNat_of_nonpos (by omega)];rfl
 ·rw[if_neg h1];by_cases h2:(n==1 || x.length==0)=true
  ·rw[if_pos h2];rcases Bool.or_eq_true_iff.mp h2 with h|h
   ·have:n=1:=by simpa using h
    subst this;show _=(List.replicate 1 x.cps.toList).flatten;simp
   ·have:x.cps.toList=[]:=Zb (by rw[Str.len_list];simpa using h);rw[this];simp
  ·rw[if_neg h2];have:∀(m:Nat)(acc:Array Nat),((List.replicate m x.cps).foldl (·++·) acc).toList=acc.toList++(List.replicate m x.cps.toList).flatten:=by
    intro m;induction m with
    |zero=>intro acc;simp
    |succ m ih=>intro acc;rw[sM,n9,ih,sM,qE];simp
   simpa using this n.toNat #[]
def op_mul_str:OpR X (binaryOp .Mult) (λx y H Q=>∃(i:Str)(k:Int),x=.str i/\y=.int k/\-(2 ^ 63)<=k/\k<2 ^ 63/\i.length * k.toNat<=sizeLine/\Q (.str (Txt.mul i k)) H):=by
 intro pins s σ H x y v u Q I rx ry h;obtain⟨i,k,rfl,rfl,h1,h2,hz,q⟩:=h;obtain⟨t,rfl⟩:=rx;obtain⟨t',rfl⟩:=ry;refine SB.mul ⟨by rw[wI (by omega),wI (by omega)];rfl,λh3 h4=>?_,λh3 h4=>?_⟩ λt'' n=>⟨.str _,H,I.tok _,⟨_,rfl⟩,q⟩
 ·have hk:0<k:=by omega
  intro h5;have h6:(2 ^ 63 - 1) / k * k<=2 ^ 63 - 1:=Int.ediv_mul_le _ (by omega);have h7:(((i.length * k.toNat:Nat)):Int)=(i.length:Int) * k:=by rw[Int.natCast_mul,r0 (by omega)]
  have h8:((2 ^ 63 - 1) / k+1) * k<=(i.length:Int) * k:=Int.mul_le_mul_of_nonneg_right (by omega) (by omega);have h9:2 ^ 63 - 1<((2 ^ 63 - 1) / k+1) * k:=Int.lt_ediv_add_one_mul_self _ hk;have h10:((sizeLine:Nat):Int)<2 ^ 63 - 1:=by decide
  omega
 ·unfold Builtin.Str.tooLong;exact wI (by omega)
noncomputable def eM:D->D->Option D
 |.int i,.int j=>if (-(2 ^ 64)<i/\i<2 ^ 64)\/(-(2 ^ 64)<j/\j<2 ^ 64)then some (.int (i * j))else none
 |.str x,.int k=>if -(2 ^ 63)<=k/\k<2 ^ 63/\x.length * k.toNat<=sizeLine then some (.str (List.replicate k.toNat x).flatten)else none
 |.tup xs,.int k=>if -(2 ^ 63)<=k/\k<2 ^ 63/\xs.length * k.toNat<=sizeLine then some (.tup (List.replicate k.toNat xs).flatten)else none
 |.lst false xs,.int k=>if -(2 ^ 63)<=k/\k<2 ^ 63/\xs.length * k.toNat<=sizeLine then some (.lst false (List.replicate k.toNat xs).flatten)else none
 |_,_=>none
noncomputable def KJ(K:PySem.W.Frag):R2:=λx y H Q=>rI CMul (λi j=>.int (i * j)) x y H Q\/(∃(i:Str)(k:Int),x=.str i/\y=.int k/\-(2 ^ 63)<=k/\k<2 ^ 63/\i.length * k.toNat<=sizeLine/\Q (.str (Txt.mul i k)) H)\/KQ K x y H Q\/O1 x y H Q
def GS:OpR X (binaryOp .Mult) (KJ X.K):=op_mul.or (op_mul_str.or (op_repT.or JF))
def Mh(K:PySem.W.Frag):ROk K (KJ K) eM:=by
 intro G H x y dx dy d Q s rx ry e q;unfold eM at e;split at e
 ·split at e;·rename_i hc;cases e;exact .inl ⟨_,_,rx.int_inv,ry.int_inv,hc,q _ G H (.refl s) (.int _)⟩
  ·cases e
 ·split at e;·rename_i hc;cases e;obtain⟨i,rfl,ei,hi⟩:=rx.str_inv;subst ei;rw[Str.len_list]at hc;exact .inr (.inl ⟨i,_,rfl,ry.int_inv,hc.1,hc.2.1,hc.2.2,q _ G H (.refl s) (.strL (Ig i _) (by rw[si,Str.len_list,lX];exact hc.2.2))⟩)
  ·cases e
 ·split at e
  ·rename_i k hc;cases e;obtain⟨a,vs,rfl,ha,ra⟩:=rx.tup_inv;refine .inr (.inr (.inl ⟨a,_,vs,rfl,ry.int_inv,ha.mono s,hc.1,hc.2.1,by rw[ra.length];exact hc.2.2,λz=>?_,λ_ _ p hp=>q _ _ _ (.new s hp) (.tup (.of aV) ((ra.rep _).mono (.into (s.free hp))))⟩));rcases z with z|z
   ·subst z;cases ra;have e:(List.replicate k.toNat ([]:List D)).flatten=[]:=by simp
    rw[e]at q;exact q _ G H (.refl s) (.tup ha .nil)
   ·subst z;have e:∀l:List D,(List.replicate (1:Int).toNat l).flatten=l:=λl=>by show(List.replicate 1 l).flatten=l;simp
    rw[e]at q;exact q _ G H (.refl s) (.tup ha ra)
  ·cases e
 ·split at e;·rename_i hc;cases e;obtain⟨a,vs,rfl,ha,ra⟩:=rx.lst_inv;exact .inr (.inr (.inr ⟨a,_,vs,rfl,ry.int_inv,s _ _ ha,hc.1,hc.2.1,by rw[ra.length];exact hc.2.2,λp hp=>q _ _ _ (.new s hp) (.lst aV ((ra.rep _).mono (.into (s.free hp))))⟩))
  ·cases e
 ·cases e
def bP{a b:Expr}{ga:Ev->R D}{pos:Pos}(ha:PF X a ga)(hb:PF X b gb):PF X (.BinOp a .Mult b pos) (g2 eM ga gb):=rq GS (Mh _) ha hb
end
end L2
namespace L2
open PySem PySem.W PySem.Spec PySem.Calls PyProof.Rows
structure ExcCls(K:Frag)(C:Addr):Prop where
 ga:findIn K (.ref C) "__getattribute__"=some (some (.builtin "BaseException.__getattribute__"))
 gt:findIn K (.ref C) "__getattr__"=some none
 cl:findIn K (.ref C) "__class__"=some (some (.builtin "object.__class__"))
 sp:specialIn K (.builtin "object.__class__") "__get__"=some (some (.builtin "getset_descriptor.__get__"))
 tk:takesIn K (.builtin "object.__class__")=some true
 mo:mroIn K C (.type "object")=some true
 be:subIn K (.ref C) (.type "BaseException")=some true
 some:(clsIn K C).isSome=true
section
variable{prog:Program}{w:World}{A:Around}{K:Frag}
section
open Builtin Builtin.ObjectAttr Builtin.Getset_descriptor
def HF{tp:Value}{Rr:Result->Shared->Prop}(X:K.In s.heap)(L0:Looks (model prog w) s.heap (typeOf (.ref a)) (.ref C))(hm:mroIn K C (.type "object")=some true)(h:Rr (.ok (.ret (.ref C))) s):
  codeAny (model prog w) A (.call (.builtin "getset_descriptor.__get__") ⟨[.builtin "object.__class__",.ref a,tp],[]⟩) Rr s:=by
 obtain⟨hh,gg,dd,tt,oo⟩:=s;have L1:=looks_mroIn (M:=model prog w) X hm;refine codeAny_call_builtin KF.slot_gs.plain KF.entry_gs
  (KF.slot_gs.check _ _ _ _ _ _ _ _ KF.type_class (KF.args_gs _ _ _) ?_);unfold Builtin.«getset_descriptor.__get__» descrGet;rw[dga_obj];refine z9 (zd ?_);unfold descrGetter descrCheckInstance descrNameAndClass isInstance;simp only[KF.owner_class]
 repeat lk
 refine⟨Code.quiet_builtin _ (by decide +kernel),
  codeAny_builtin KF.entry_class ?_⟩;unfold Builtin.«object.__class__» shownTypeOf
 repeat lk
 exact h
end
theorem CK{Q:Option Value->Shared->Prop}(X:K.In s.heap)(T:ExcCls K C)(L0:Looks (model prog w) s.heap (typeOf (.ref a)) (.ref C))(h:Q (some (.ref C)) { s with toks:=s.toks+1 }):wpAny (model prog w) A (getAttr? (.ref a) "__class__") Q E s:=by
 obtain⟨hh,g,d,t,os⟩:=s;have L1:=looks_findIn (M:=model prog w) X T.ga;have L2:=looks_findIn (M:=model prog w) X T.gt;have L3:Looks (model prog w) hh (Builtin.ObjectAttr.find (.ref a) (.ref C) "__class__") (.bind (.builtin "getset_descriptor.__get__") (.builtin "object.__class__")):=by have M1:=looks_findIn (M:=model prog w) X T.cl;have M2:Looks (model prog w) hh (Builtin.ObjectAttr.getOf (some (.builtin "object.__class__"))) (some (.builtin "getset_descriptor.__get__")):=looks_specialIn X T.sp;have M3:=looks_takesIn (M:=model prog w) X T.tk;refine M1.andThen (M2.andThen ?_);exact(show Looks (model prog w) hh (Builtin.ObjectAttr.dataDescriptor? (some (.builtin "object.__class__")) (some (.builtin "getset_descriptor.__get__"))) (some (.builtin "getset_descriptor.__get__",.builtin "object.__class__")) from M3.andThen .now).andThen (Looks.tag .now)
 unfold getAttr? getAttrBy? getAttrBy;refine z9 (wpAny_mkText (z9 (p8 (uX (z9 (L0.at (z9 (L1.at ?_))))))));have hx2:(Value.builtin "BaseException.__getattribute__"==Value.builtin "object.__getattribute__")=false:=by decide +kernel
 dsimp only;rw[if_neg (by rw[hx2,Bool.and_false];exact xR)];unfold getAttrByItsOwn hookBefore;rw[if_pos (show onTheHeap (Value.ref C)=true from rfl)];refine z9 (L2.at ?_);refine z9 (p8 (uX ?_));unfold callGetattribute;rw[if_neg (by rw[Bool.false_and];exact xR)];unfold boundAndCalled;rw[F.attr_ValueError.ga.bind (.ref a)];refine z9 (zd ?_);show wpAny _ _ (call (.builtin "BaseException.__getattribute__") [.ref a,.str "__class__" t]) _ _ _;have LB:Looks (model prog w) hh (isInstance (.ref a) (.type "BaseException")) true:=L0.andThen (looks_subIn X T.be);have hk:builtinKind "BaseException.__getattribute__"=some .slot:=by decide +kernel
 have hsp:splitId "BaseException.__getattribute__"=some ("BaseException","__getattribute__"):=by decide +kernel
 have ha:=F.args_bexc_ga (.ref a) (.str "__class__" t);refine qF (codeAny_call_builtin F.attr_ValueError.ga.plain F.entry_bexc_ga ?_);simp only[checkBuiltinCall,hk,hsp];refine z9 (LB.at ?_);rw[if_neg (by decide)];refine j6 (a:=()) ha ?_;unfold Builtin.«object.__getattribute__»;refine z9 (zd ?_);refine z9 (zd ?_);refine z9 (L0.at ?_);refine z9 (L3.at ?_);show wpAny _ _ (Builtin.ObjectAttr.bindTo (.builtin "getset_descriptor.__get__") (.builtin "object.__class__") (.ref a) (.ref C)) _ _ _;unfold Builtin.ObjectAttr.bindTo;dsimp only;exact z9 (uX (qF (HF (s:=⟨hh,g,d,t+1,os⟩) X L0 T.mo (zd (handed_on rfl (zd h))))))
def Ej(T:ExcCls K C):KitX K (.ref a) (.ref C) (λh=>∃ob,h.get? a=some ob/\ob.cls=.ref C) where
 ty:=λM h _ p=>by obtain⟨o,h1,h2⟩:=p;exact h2▸(Looks.ld h1).andThen .now
 it:=λM h X _=>by
  have z:=T.some;unfold clsIn at z;split at z;·rename_i c' d' cd' sl' ho;intro A' Q' E' s' k q;unfold isType loadHead;exact z9 (wpAny_loadPart (k _ _ (X _ _ ho)) (zd q))
  ·cases z
 ne:=λh tp dd its n sl X htp=>by
  refine Bool.eq_false_iff.mpr λq=>?_;have e:C=tp:=Value.ref.inj (t6.mp q);subst e;have z:=T.some;unfold clsIn at z;split at z;·rename_i c' d' cd' sl' ho;cases (X _ _ ho).symm.trans htp
  ·cases z
 ca:=λ{prog w A E Q s} X p k=>by obtain⟨o,h1,h2⟩:=p;exact CK X T (h2▸(Looks.ld h1).andThen .now) k
end
section
variable{A:Around}{Q:Value->Shared->Prop}
noncomputable def tyN:D->Option String
 |.non=>some "NoneType"
 |.bl _=>some "bool"
 |.int _=>some "int"
 |.str _=>some "str"
 |.tup _=>some "tuple"
 |.lst _ _=>some "list"
 |.exc _=>none
 |.dct _ _=>none
def Lw{x:V}{u c:Value}{T:String}{b:Bool}(I:Inv X pins σ H s)(sub:Same G H)(r:Rep X.K G x d)(ru:RelV x u)(ht:tyN d=some T)(e:kitOne X.K (.type T) c=some b)(h:∀tk,Q (.bool b) { s with toks:=tk }):
  wpAny (model X.prog X.w) A (call (.builtin "isinstance") [u,c]) Q E s:=by
 cases r with
 |non=>cases ht;cases ru;exact kia_one kitx_none I.kIn True.intro e (λz=>nomatch z) h
 |bl y=>cases ht;cases ru;exact kia_one kitx_bool I.kIn True.intro e (λz=>nomatch z) h
 |int i=>cases ht;obtain⟨t,rfl⟩:=ru;exact kia_one kitx_int I.kIn True.intro e (λz=>nomatch z) h
 |str y hy=>cases ht;obtain⟨t,rfl⟩:=ru;exact kia_one kitx_str I.kIn True.intro e (λz=>nomatch z) h
 |tup hh t=>cases ht;cases ru;obtain⟨its,rv,⟨o,h1,h2,_⟩,_⟩:=I.tuple (hh.mono sub);exact kia_one kitx_tuple I.kIn ⟨o,h1,h2⟩ e (λz=>nomatch z) h
 |lst hh t=>cases ht;cases ru;obtain⟨its,rv,⟨o,n,h1,h2,_⟩,_⟩:=I.list ((SqL.of hh:SqL X.K G _ _).mono sub);exact kia_one kitx_list I.kIn ⟨o,h1,h2⟩ e (λz=>nomatch z) h
 |fls hh t=>cases ht;cases ru;obtain⟨its,rv,⟨o,n,h1,h2,_⟩,_⟩:=I.list (hh.mono sub);exact kia_one kitx_list I.kIn ⟨o,h1,h2⟩ e (λz=>nomatch z) h
 |exc hh=>cases ht
 |dct _ _ _=>cases ht
def DI{x:V}{u c:Value}{b:Bool}(I:Inv X pins σ H s)(sub:Same G H)(r:Rep X.K G x (.exc C))(ru:RelV x u)(T:ExcCls X.K C)(e:kitOne X.K (.ref C) c=some b)(h:∀tk,Q (.bool b) { s with toks:=tk }):
  wpAny (model X.prog X.w) A (call (.builtin "isinstance") [u,c]) Q E s:=by
 obtain⟨a,rfl,hh⟩:=r.exc_inv;cases ru;obtain⟨h1,_,_⟩:=(show ObjOk X.prog X.w H s.heap a (.ext (kj a C)) from I.hok a _ (sub _ _ hh))
 exact kia_one (Ej T) I.kIn h1 e (λz=>nomatch z) h
end
section
variable{e:Expr}{ga:Ev->R D}{p2 pos:Pos}
noncomputable def ko(f:String->Bool)(d:D):R D:=match tyN d with
 |some t=>.ok (.bl (f t))
 |none=>.no
def pR{T:String}(f:String->Bool)(hf:∀K:Frag,∀t∈["NoneType","bool","int","str","tuple","list"],kitOne K (.type t) (.type T)=some (f t))(hg:Gl X "isinstance")(hm:X.mg "isinstance"=none)(hg2:Gl X y)(hm2:X.mg y=none)(hv:bootBuiltins y=some (.type T))(ha:PF X e ga)(hs1:starEach [e,.Name y p2] X.env=(false,eval e X.env)::starEach [.Name y p2] X.env:=by rfl)(hn:y≠"__name__":=by decide)(hdb:(y==("__debug__":Str))=false:=by decide):
  PF X (.Call (.Name "isinstance" p) [e,.Name y p2] [] pos) (λρ=>ga ρ>>=ko f):=by
 intro pins s σ H Q I h;have hc:kz X (.builtin "isinstance") (λxs H Q=>∃x G d,xs=[x,.ty T]/\Same G H/\Rep X.K G x d/\∃t,tyN d=some t/\Q (.bl (f t)) H):=by
  intro pins s σ H xs us Q I r ⟨x,G,d,ex,sub,rd,t,et,q⟩;subst ex;obtain⟨u,u2,rfl,r1,r2⟩:=r.two;cases r2;refine Lw I sub rd r1 et (hf X.K t ?_) λtk=>⟨.bl (f t),H,I.tok tk,rfl,q⟩
  cases d <;> cases et <;> simp
 refine kL hc hg hm PyProof.Rows.Boot.«isinstance» (dQ ha (dQ (sg (v:=.ty T) hg2 hm2 hv rfl hn hdb) jE) hs1) (by decide) (by decide) hs1 rfl pins s σ H Q I ?_;obtain⟨G,ρ,st,h⟩:=h;refine tG.intro st h λx v G1 H1 u1 st1 r1 h1=>?_;refine⟨v,G1,x,rfl,st1.sub,r1,?_⟩;unfold ko at h1;cases et:tyN x with
 |none=>rw[et]at h1;exact h1.elim
 |some t=>rw[et]at h1;exact⟨t,rfl,h1 _ G1 H1 (.refl st1.sub) (.bl _)⟩
noncomputable def nr(f:Addr->Option Bool)(d:D):R D:=match d with
 |.exc C=>ofO ((f C).map .bl)
 |_=>.no
def Av{v2:V}{u2:Value}(f:Addr->Option Bool)(hf:∀C b,f C=some b->ExcCls X.K C/\kitOne X.K (.ref C) u2=some b)(hg:Gl X "isinstance")(hm:X.mg "isinstance"=none)(hy:PE X (.Name y p2) (tC v2))(hr:RelV v2 u2)(hr2:∀u,RelV v2 u->u=u2)(ha:PF X e ga)(hs1:starEach [e,.Name y p2] X.env=(false,eval e X.env)::starEach [.Name y p2] X.env:=by rfl):
  PF X (.Call (.Name "isinstance" p) [e,.Name y p2] [] pos) (λρ=>ga ρ>>=nr f):=by
 intro pins s σ H Q I h;have hc:kz X (.builtin "isinstance") (λxs H Q=>∃x G C b,xs=[x,v2]/\Same G H/\Rep X.K G x (.exc C)/\f C=some b/\Q (.bl b) H):=by intro pins s σ H xs us Q I r ⟨x,G,C,b,ex,sub,rd,ef,q⟩;subst ex;obtain⟨u,w,rfl,r1,r2⟩:=r.two;obtain rfl:=hr2 w r2;exact DI I sub rd r1 (hf C b ef).1 (hf C b ef).2 λtk=>⟨.bl b,H,I.tok tk,rfl,q⟩
 refine kL hc hg hm PyProof.Rows.Boot.«isinstance» (dQ ha (dQ hy jE) hs1) (by decide) (by decide) hs1 rfl pins s σ H Q I ?_;obtain⟨G,ρ,st,h⟩:=h;refine tG.intro st h λx v G1 H1 u1 st1 r1 h1=>?_;cases x with
 |exc C=>
  cases ef:f C with
  |none=>simp only[nr,ef]at h1;exact h1.elim
  |some b=>simp only[nr,ef]at h1;exact⟨v,G1,C,b,rfl,st1.sub,r1,ef,h1 _ G1 H1 (.refl st1.sub) (.bl b)⟩
 |_=>exact h1.elim
end
end L2
namespace L2
open PySem PySem.Spec PyProof.Rows
noncomputable def yJ:List D->Option (List Bool)
 | []=>some []
 |.bl b::ds=>(yJ ds).map (b::·)
 |_=>none
theorem Reps.bls{K:PySem.W.Frag}:∀{vs:List V}{ds:List D}{bs:List Bool},Reps K G vs ds->yJ ds=some bs->vs=bs.map .bl
 |_,_,bs,.nil,e=>by cases e;rfl
 |_,_,bs,.cons r t,e=>by
  cases r with
  |bl b=>
   rename_i ds;unfold yJ at e;cases q:yJ ds with
   |none=>rw[q]at e;cases e
   |some cs=>rw[q]at e;cases e;rw[Reps.bls t q];rfl
  |_=>simp[yJ]at e
theorem Vals.bls:∀{bs:List Bool}{us:List Value},Vals (bs.map V.bl) us->us=bs.map Value.bool
 | [],_,.nil=>rfl
 |b::bs,_,.cons r t=>by rw[Vals.bls t,show _=Value.bool b from r];rfl
section
variable{e o:Expr}{ga:Ev->R D}{pos:Pos}
noncomputable def P6(K:PySem.W.Frag)(f:List Bool->Bool):List V->Hp->VK->Prop:=λxs H Q=>∃p bs,xs=[.ref p]/\SqL K H p (bs.map V.bl)/\Q (.bl (f bs)) H
def Bp(A:Around)(prog:Program)(w:World)(bs:List Bool):TruthOf prog w A (λi v=>(bs.map Value.bool).toArray[i]?=some v) (λi=>bs.getD i true):=by
 intro i v s Q E hP hQ;rw[List.getElem?_toArray,wZ]at hP;cases q:bs[i]? with
 |none=>rw[q]at hP;cases hP
 |some b=>
  rw[q]at hP;cases hP;have e:bs.getD i true=b:=by rw[v4,q];rfl
  have hQ:Q (bs.getD i true) s:=hQ;rw[e]at hQ;exact tJ hQ
def Ba(hc:X.calm=true):kz X (.builtin "all") (P6 X.K λbs=>bs.all id):=by
 intro pins s σ H xs us Q I r ⟨p,bs,ex,hs,q⟩;subst ex;obtain⟨u,rfl,r1⟩:=r.one;cases r1;obtain⟨its,rv,pl,hz⟩:=I.list hs;obtain rfl:=rv.bls;have hh:X.A.in1.handled=none:=I.ok.hd hc;have hlt:p<s.heap.objs.size:=by obtain⟨o,n,e,_⟩:=id pl;exact zj e
 refine call_all_walk (k9 pl.isList ?_);refine⟨s.heap.objs.size,[s.heap.objs.size,p],[s.heap.objs.size],_,_,_,λi=>bs.getD i true,rfl,Walks.list hh s.heap.objs.size p (xh hlt) (bs.map Value.bool).toArray,⟨⟨_,xj _ rfl,rfl,rfl⟩,?_⟩,Bp _ _ _ bs,λh' tk hk=>?_⟩;·obtain⟨o,n,e,c,_,d⟩:=id pl;exact⟨o,zL _ e,c,n,d⟩
 ·have e:(List.range (bs.map Value.bool).toArray.size).all (λi=>bs.getD i true)=bs.all id:=by rw[x9,wU];exact oj rfl
  rw[e];refine⟨.bl _,H,I.kept (t':=tk) λb o eb=>hk b o (λz=>?_) (zL _ eb),rfl,q⟩;have:b=s.heap.objs.size:=by simpa using z
  exact tH _ (this▸zj eb)
noncomputable def xW:List D->Option D
 | [.lst _ ds]=>(yJ ds).map λbs=>.bl (bs.all id)
 |_=>none
def JM(hc:X.calm=true)(hg:Gl X "all")(hm:X.mg "all"=none)(ha:PFA X [e] gl)(he:starEach [e] X.env=[(false,eval e X.env)]:=by rfl):PF X (.Call (.Name "all" p) [e] [] pos) (λρ=>gl ρ>>=λds=>ofO (xW ds)):=
 kN (Ba hc) (by
  intro G H xs ds d Q s r e q;unfold xW at e;split at e
  ·rename_i f ds;obtain⟨v,rfl,r1⟩:=r.one;obtain⟨a,vs,rfl,h,t⟩:=r1.seq_inv;cases eb:yJ ds with
   |none=>rw[eb]at e;cases e
   |some bs=>rw[eb]at e;cases e;obtain rfl:=t.bls eb;exact⟨a,bs,rfl,h.mono s,q _ G H (.refl s) (.bl _)⟩
  ·cases e) hg hm PyProof.Rows.Boot.«all» ha (he:=by rw[he];rfl)
noncomputable def Bs(K:PySem.W.Frag)(T:String)(r:V->List V->Hp->VK->Prop)(f:D->List D->Option D):Prop:=∀(G H:Hp)(x:V)(xs:List V)(dx:D)(ds:List D)(d:D)(Q:VK),Same G H->Rep K G x dx->Reps K G xs ds->f dx ds=some d->Fin G H (Rep K) Q d->r x xs H Q
noncomputable def lr(T:String):D->Bool
 |.str _=>T=="str"
 |.lst _ _=>T=="list"
 |_=>false
def iu{T id:String}{name:Str}{ap cp:Pos}{r:V->List V->Hp->VK->Prop}{f:D->List D->Option D}(pa:PlainAttrs T)(slot:PySem.Slot T name id)(hty:typeOf (.builtin id)=pure (.type "method_descriptor"))(hm:MtR X id r)(hf:Bs X.K T r f)(ho:PF X o ga)(ha:PFA X (e::es) gl)(hbase:attributeBase o name X.env (eval o X.env)=eval o X.env:=by rfl)(hfew:((backTo cp (starEach (e::es) X.env)).all (λx=>!x.1) && (backToKw cp (keywordEach [] X.env)).all (λx=>x.1.isSome)
 && decide ((e::es).length+([]:List Keyword).length+(if ([]:List Keyword).isEmpty then 0 else 1)<30))=true:=by rfl)(hline:(ap.endLine==cp.line)=true:=by rfl)(hs:starEach (e::es) X.env=(false,eval e X.env)::starEach es X.env:=by rfl)(hplain:(backTo cp (starEach es X.env)).any (·.1)=false:=by rfl):
  PF X (.Call (.Attribute o name ap) (e::es) [] cp) (λρ=>ga ρ>>=λx=>if lr T x=true then gl ρ>>=λds=>ofO (f x ds)else .no):=by
 intro pins s σ H Q I h;refine G0 pa slot hty hm ho ha hbase hfew hline hs hplain pins s σ H Q I ?_;obtain⟨G,ρ,st,h⟩:=h;refine tG.intro st h λx v G1 H1 u1 st1 r1 h1=>?_;by_cases hk:lr T x=true
 ·rw[if_pos hk]at h1;have ty:tyV X.K T v H1:=by
   cases r1 with
   |str y hy=>exact show T="str" by simpa[lr]using hk
   |lst hh t=>exact .inl ⟨by simpa[lr]using hk,_,.of (st1.sub _ _ hh)⟩
   |fls hh t=>exact .inl ⟨by simpa[lr]using hk,_,hh.mono st1.sub⟩
   |_=>cases hk
  refine⟨ty,tG.intro st1 h1 λds vs G2 H2 u2 st2 r2 h2=>?_⟩;obtain⟨d,e',q⟩:=ofO.ok h2;exact hf G2 H2 v vs x ds d Q st2.sub (r1.mono u2.gg) r2 e' q
 ·rw[if_neg hk]at h1;exact h1.elim
def Str.of_list{x:List Nat}(e:y.cps.toList=x):(⟨x.toArray⟩:Str)=y:=by subst e;simp
def Ft{A:Around}{bs:List Bool}(k:Bool):∀y,y∈(bs.map Value.bool).toArray->SeqAt.EqAt A s y (.bool k) (y==.bool k):=λy hy=>by
 obtain⟨b,_,rfl⟩:=qh.mp (List.mem_toArray.mp hy);have:=SeqAt.EqAt.bool_bool (A:=A) (s:=s) b k;have e:(Value.bool b==Value.bool k)=(b==k):=by cases b <;> cases k <;> rfl
 rw[e];exact this
noncomputable def FD(K:PySem.W.Frag):V->List V->Hp->VK->Prop:=λx vs H Q=>∃(l:Addr)(bs:List Bool)(k:Bool),x=.ref l/\vs=[.bl k]/\SqL K H l (bs.map V.bl)/\Q (.int (bs.count k:Nat)) H
def Cv(bs:List Bool)(k:Bool):(bs.map Value.bool).countP (·==.bool k)=bs.count k:=by
 rw[List.countP_map];unfold List.count
 congr 1
 funext b
 cases b <;> cases k <;> rfl
theorem DY:MtR X "list.count" (FD X.K):=by intro pins s σ H x xs v us Q I rx rv ⟨l,bs,k,ex,exs,hs,q⟩;subst ex exs;cases rx;obtain⟨u,rfl,r1⟩:=rv.one;cases r1;obtain⟨its,rv',⟨⟨cls,dd,data,sl⟩,n,eo,c,_,d⟩,hz⟩:=I.list hs;obtain rfl:=rv'.bls;simp only at c d;subst c d;refine uR F.slot_list_count ⟨_,eo,rfl⟩ F.entry_list_count (F.args_list_count_2 _ _) (SeqAt.list_countAt l (bs.map Value.bool).toArray n dd sl (.bool k) (·==.bool k)) ⟨eo,Ft k,?_⟩;rw[d0,Cv];exact⟨.int _,H,I.tok _,⟨_,rfl⟩,q⟩
noncomputable def mX:D->List D->Option D
 |.lst _ ds,[.bl k]=>(yJ ds).map λbs=>.int (bs.count k:Nat)
 |_,_=>none
def EF(K:PySem.W.Frag):Bs K "list" (FD K) mX:=by
 intro G H x xs dx ds d Q s rx rs e q;unfold mX at e;split at e
 ·rename_i f ds k;obtain⟨v,rfl,r1⟩:=rs.one;obtain rfl:=r1.bl_inv;obtain⟨a,vs,rfl,h,t⟩:=rx.seq_inv;cases eb:yJ ds with
  |none=>rw[eb]at e;cases e
  |some bs=>rw[eb]at e;cases e;obtain rfl:=t.bls eb;exact⟨a,bs,k,rfl,rfl,h.mono s,q _ G H (.refl s) (.int _)⟩
 ·cases e
noncomputable def FH(K:PySem.W.Frag):V->List V->Hp->VK->Prop:=λx vs H Q=>∃(l:Addr)(bs:List Bool)(k:Bool),x=.ref l/\vs=[.bl k]/\SqL K H l (bs.map V.bl)/\k∈bs/\Q (.int (bs.idxOf k:Nat)) H
theorem rE(k:Bool):∀(bs:List Bool)(m:Nat),m<bs.idxOf k->bs[m]?≠some k
 | [],m,h=>by simp
 |b::bs,m,h=>by
  rw[List.idxOf_cons]at h;cases hb:(b==k)with
  |true=>rw[hb]at h;exact absurd h (Nat.not_lt_zero _)
  |false=>
   rw[hb]at h;cases m with
   |zero=>intro e;have e1:=xf e;rw[e1,j7]at hb;cases hb
   |succ m=>rw[b8];exact rE k bs m (Nat.lt_of_succ_lt_succ h)
theorem EY:MtR X "list.index" (FH X.K):=by
 intro pins s σ H x xs v us Q I rx rv ⟨l,bs,k,ex,exs,hs,hk,q⟩;subst ex exs;cases rx;obtain⟨u,rfl,r1⟩:=rv.one;cases r1;obtain⟨its,rv',⟨⟨cls,dd,data,sl⟩,n,eo,c,_,d⟩,hz⟩:=I.list hs;obtain rfl:=rv'.bls;simp only at c d;subst c d;have hlt:bs.idxOf k<bs.length:=List.idxOf_lt_length_iff.mpr hk;have hsz:bs.length<=sizeLine:=by simpa using hz
 have h63:=mR;have tob:∀a b:Bool,(Value.bool a==Value.bool b)=(a==b):=λa b=>by cases a <;> cases b <;> rfl
 refine uR F.slot_list_index ⟨_,eo,rfl⟩ F.entry_list_index (F.args_list_index_2 _ _) (SeqAt.list_indexAt l (bs.map Value.bool).toArray n dd sl (.bool k) (·==.bool k) (bs.idxOf k) (by simpa using hlt) (by omega) ?_ ?_) ⟨eo,Ft k,?_⟩;·simp only[fo,List.getElem_map,tob];exact t6.mpr (List.getElem_idxOf hlt)
 ·intro m hm hlt';simp only[fo,List.getElem_map,tob];have hm':m<bs.length:=by simpa using hm
  cases hq:(bs[m]==k)with
  |false=>rfl
  |true=>exact absurd (by rw[vB hm',t6.mp hq]) (rE k bs m hlt')
 ·exact⟨.int _,H,I.tok _,⟨_,rfl⟩,q⟩
noncomputable def mH:D->List D->Option D
 |.lst _ ds,[.bl k]=>(yJ ds).bind λbs=>if k∈bs then some (.int (bs.idxOf k:Nat))else none
 |_,_=>none
def Df(K:PySem.W.Frag):Bs K "list" (FH K) mH:=by
 intro G H x xs dx ds d Q s rx rs e q;unfold mH at e;split at e
 ·rename_i f ds k;obtain⟨v,rfl,r1⟩:=rs.one;obtain rfl:=r1.bl_inv;obtain⟨a,vs,rfl,h,t⟩:=rx.seq_inv;cases eb:yJ ds with
  |none=>rw[eb]at e;cases e
  |some bs=>
   rw[eb,Option.bind_some]at e;split at e;·rename_i hk;cases e;obtain rfl:=t.bls eb;exact⟨a,bs,k,rfl,rfl,h.mono s,hk,q _ G H (.refl s) (.int _)⟩
   ·cases e
 ·cases e
def Di{ap cp:Pos}(ho:PF X o ga)(ha:PFA X [e] gl)(hbase:attributeBase o "count" X.env (eval o X.env)=eval o X.env:=by rfl)(hfew:((backTo cp (starEach [e] X.env)).all (λx=>!x.1) && (backToKw cp (keywordEach [] X.env)).all (λx=>x.1.isSome)
 && decide ([e].length+([]:List Keyword).length+(if ([]:List Keyword).isEmpty then 0 else 1)<30))=true:=by rfl)(hline:(ap.endLine==cp.line)=true:=by rfl)(hs:starEach [e] X.env=(false,eval e X.env)::starEach [] X.env:=by rfl):
  PF X (.Call (.Attribute o "count" ap) [e] [] cp) (λρ=>ga ρ>>=λx=>if lr "list" x=true then gl ρ>>=λds=>ofO (mX x ds)else .no):=
 iu j2 PySem.F.slot_list_count PySem.F.type_list_count DY (EF _) ho ha hbase hfew hline hs rfl
def Eb{ap cp:Pos}(ho:PF X o ga)(ha:PFA X [e] gl)(hbase:attributeBase o "index" X.env (eval o X.env)=eval o X.env:=by rfl)(hfew:((backTo cp (starEach [e] X.env)).all (λx=>!x.1) && (backToKw cp (keywordEach [] X.env)).all (λx=>x.1.isSome)
 && decide ([e].length+([]:List Keyword).length+(if ([]:List Keyword).isEmpty then 0 else 1)<30))=true:=by rfl)(hline:(ap.endLine==cp.line)=true:=by rfl)(hs:starEach [e] X.env=(false,eval e X.env)::starEach [] X.env:=by rfl):
  PF X (.Call (.Attribute o "index" ap) [e] [] cp) (λρ=>ga ρ>>=λx=>if lr "list" x=true then gl ρ>>=λds=>ofO (mH x ds)else .no):=
 iu j2 PySem.F.slot_list_index PySem.F.type_list_index EY (Df _) ho ha hbase hfew hline hs rfl
end
noncomputable def qB:List Nat->List D->Ev->R Ev
 | [],[],ρ=>.ok ρ
 |i::is,d::ds,ρ=>qB is ds (ρ.set i (some (.val d)))
 |_,_,_=>.no
theorem qX:∀(is:List Nat)(ds:List D)(ρ:Ev)(C:Addr),qB is ds ρ≠.ex C
 | [],[],_,_=>by intro z;cases z
 | [],_::_,_,_=>by intro z;cases z
 |_::_,[],_,_=>by intro z;cases z
 |i::is,d::ds,ρ,C=>qX is ds _ C
section
variable{e:Expr}{ga:Ev->R D}{pos:Pos}
noncomputable def JW(X:Cx)(es:List Expr)(is:List Nat):Prop:=PGs X es (λvs σ H Q=>∃G₀ H₀ G ρ ds ρ',StR X.K G₀ H₀ G H σ ρ/\Reps X.K G vs ds/\qB is ds ρ=.ok ρ'/\∀σ',StR X.K G₀ H₀ G H σ' ρ'->Q σ' H)
def lL:JW X [] []:=by
 intro pins s σ H vs us Q I r h;obtain⟨G₀,H₀,G,ρ,ds,ρ',sr,rd,e,q⟩:=h;refine IX pins s σ H vs us Q I r ?_;cases rd with
 |nil=>cases e;exact⟨rfl,q σ sr⟩
 |cons _ _=>cases e
def dL(i:Nat){x:Str}(hN:X.N.Nodup)(h2:JW X es is)(hi:X.N[i]?=some x:=by rfl)(hx:Loc X.env.scope x:=by first|exact Or.inl rfl|exact Or.inr rfl)(hs:(assignEach (.Name x p::es) X.env).map (·.2)=assign (.Name x p) X.env::(assignEach es X.env).map (·.2):=by rfl)(hf:X.fn x=true\/X.env.scope.names.lookup x=some .local:=by first|exact .inl rfl|exact .inr rfl):
  JW X (.Name x p::es) (i::is):=by
 intro pins s σ H vs us Q I r h;obtain⟨G₀,H₀,G,ρ,ds,ρ',sr,rd,e,q⟩:=h;refine Ee (mj (i:=i) hN hi hx hf) h2 hs pins s σ H vs us Q I r ?_;cases rd with
 |nil=>cases e
 |cons r1 t1=>exact⟨_,_,rfl,G₀,H₀,G,_,_,ρ',sr.set r1 i,t1,e,q⟩
noncomputable def CP(is:List Nat)(d:D)(ρ:Ev):R Ev:=match d with
 |.tup ds=>qB is ds ρ
 |_=>.no
theorem vw:∀(is:List Nat)(ds:List D)(ρ ρ':Ev),qB is ds ρ=.ok ρ'->ds.length=is.length
 | [],[],_,_,_=>rfl
 | [],_::_,_,_,e=>by cases e
 |_::_,[],_,_,e=>by cases e
 |i::is,d::ds,ρ,ρ',e=>by simp[vw is ds _ ρ' e]
def nY(hc:X.calm=true)(h:JW X es is)(hn:(assignEach es X.env).length=is.length:=by rfl)(hst:(assignEach es X.env).findIdx? (·.1)=none:=by rfl):PGF X (.Tuple es k pos) (CP is):=by
 intro pins s σ H v u Q I r q;obtain⟨G₀,H₀,G,ρ,d,ρ',sr,rd,e,q⟩:=q;refine Lu hc h hn hst pins s σ H v u Q I r ?_;cases rd with
 |tup hh t=>rename_i ds;exact⟨_,_,rfl,hh.mono sr.e.sub,by rw[t.length];exact vw is ds ρ ρ' e,G₀,H₀,G,ρ,ds,ρ',sr,t,e,q⟩
 |_=>cases e
def pJ(is:List Nat):∀(d:D)(ρ:Ev)(C:Addr),CP is d ρ≠.ex C:=λd ρ C=>by
 cases d with
 |tup ds=>exact qX is ds ρ C
 |_=>intro z;cases z
def DZ(i j:Nat){x:Str}{a b:Expr}{px pt pt2:Pos}{kt k2:Nat}(hc:X.calm=true)(hN:X.N.Nodup)(ha:PFA X [a,b] gl)(hij:i≠j)(hi:X.N[i]?=some x:=by rfl)(hj:X.N[j]?=some y:=by rfl)(hx:X.env.scope.names.lookup x=some .local:=by rfl)(hy:X.env.scope.names.lookup y=some .local:=by rfl)(hw:swappedStores [.Tuple [.Name x px,.Name y py] kt pt] (.Tuple [a,b] k2 pt2) X.env=pure (some [x,y]):=by rfl)(hs:swapsWithSole [.Tuple [.Name x px,.Name y py] kt pt] (.Tuple [a,b] k2 pt2) pos.line X.env=pure false:=by rfl):
  PSF X (.Assign [.Tuple [.Name x px,.Name y py] kt pt] (.Tuple [a,b] k2 pt2) pos) (λρ=>(gl ρ).out ρ λds=>(qB [i,j] ds ρ).out ρ .nx):=λG₀ H₀ pins s σ H D I h=>by
 refine Lf hc hN hi hj hij hx hy ha hw hs pins s σ H D I ?_;obtain⟨G,ρ,sr,h⟩:=h;dsimp only at h;refine⟨G,ρ,sr.e,?_⟩;cases q:gl ρ with
 |ok ds=>
  rw[q]at h;simp only[R.out]at h;intro vs G' H' u r;cases r with
  |nil=>exact h.elim
  |cons r1 t1=>
   cases t1 with
   |nil=>exact h.elim
   |cons r2 t2=>
    cases t2 with
    |nil=>exact⟨_,_,rfl,h _ G' H' (((sr.ups u).set r1 i).set r2 j)⟩
    |cons _ _=>exact h.elim
 |ex C=>rw[q]at h;exact Exx.of sr h
 |no=>rw[q]at h;exact h
def zN{x:Str}{np cp:Pos}{bm:List Value}{B newId initId:String}(Oc:OwnCls x C bm newId X.mg X.base)(FB:ExcBaseFacts B newId initId bm)(hh:X.A.handled=none)(hg:Gl X x)(ha:PFA X [e] gl)(hdb:(x==("__debug__":Str))=false:=by decide)(hs:starEach [e] X.env=(false,eval e X.env)::starEach [] X.env:=by rfl)(hz:∀ρ ds,gl ρ=.ok ds->ds.length<=1:=by intro _ _ z;first|(cases z;decide)|skip):
  PSF X (.Raise (some (.Call (.Name x np) [e] [] cp)) none pos) (λρ=>(gl ρ).out ρ λ_=>.ex C ρ):=λG₀ H₀ pins s σ H D I h=>by
 obtain⟨G,ρ,sr,h⟩:=h;dsimp only at h;obtain⟨tl,N,nm,qn,bs,hdct,sn,sub,ab,col,dd,k0,k1,k2,k3,k5,mN,hC,hN,hni,T⟩:=Oc.obj;refine wpAny_Raise_call_subT (C:=C) (nm:=nm) (q:=qn) (N:=N) (bs:=bs) (bm:=tl) (hdct:=hdct) (sn:=sn) (sub:=sub) (ab:=ab) (col:=col) (dd:=dd) (k0:=k0) (k1:=k1) (k2:=k2) (k3:=k3) (k5:=k5)
  FB (mN:=mN) (T.hasType FB.hasBase) hh (by rw[hs];rfl) hni (mq I hg Oc.bound ⟨rfl,?_⟩ hdb);have t:tAF X gl σ H (λvs H1=>vs.length<=sizeLine/\∃G1,Up G H G1 H1/\ka X G₀ H₀ D (.ex C ρ)):=by
  refine⟨G,ρ,sr.e,?_⟩;cases q:gl ρ with
  |ok ds=>rw[q]at h;intro vs G1 H1 u r;exact⟨by rw[r.length];exact xk (hz ρ ds q) (by decide),G1,u,h⟩
  |ex C'=>rw[q]at h;exact Exx.of sr h
  |no=>rw[q]at h;exact h
 have hA:=ha cp pins s σ H _ I t;rw[hs]at hA⊢;refine Calls.evalArgs_plain (yc hA (λvs s₂ q=>?_) λ_ _ y=>y);obtain⟨vs',H1,I1,r,hz,G1,u,h⟩:=q;exact⟨rfl,by show vs.length<=sizeLine;rw[<- r.length];exact hz,I1.bk _ _ hC,hN.keeps I1.bk,T.keeps I1.bk,λh' a made=>h _ _ (.of (sr.ups u) ⟨pins,s₂,a,rfl,I1,.inl ⟨h',vs,made,rfl⟩⟩)⟩
end
section
def Inv.unset{x:Str}{m:Str->Option Value}{u:Option Value}(I:Inv X pins σ H s)(hN:X.N.Nodup)(hi:X.N[i]?=some x)(hm:∀(j:Nat)(y:Str)(v:V),X.N[j]?=some y->σ[j]?=some (some v)->Vis X.env.scope y->∃u,RelV v u/\O3 X.env s.heap m y u)(hn:h'.Ns X.env.locals (λy=>if y=x then u else m y))(sb:Heap.SameBut X.env.locals s.heap h'):
  Inv X pins (σ.set i none) H { s with heap:=h' }:=by
 have kp:∀b o,b≠X.env.locals->s.heap.get? b=some o->h'.get? b=some o:=λb o hb e=>(sb.2 b hb).trans e;refine⟨I.ok,I.os,I.bare,I.base.sameBut kp I.ok.above,⟨_,hn,λj y v h1 h2 h3=>?_⟩,λy c e=>?_,I.free,I.freeC,λp hp=>?_,I.hok.sameBut kp I.free,by simp[I.len]⟩
 ·have hj:i≠j:=λz=>by subst z;rw[kT]at h2;simp only[xK]at h2;split at h2 <;> cases h2
  rw[vU hj]at h2;have hy:y≠x:=λz=>hj (tu hN hi (z▸h1));obtain⟨w,rw',lk⟩:=hm j y v h1 h2 h3;refine⟨w,rw',?_⟩;rcases lk with⟨k,e⟩|⟨k,c,hc,cell⟩;·exact .inl ⟨k,by show(if y=x then u else m y)=some w;rw[if_neg hy];exact e⟩
  ·exact .inr ⟨k,c,hc,cell.sameBut sb (I.cne y c hc)⟩
 ·obtain⟨v,q⟩:=I.cell y c e;exact⟨v,q.sameBut sb (I.cne y c e)⟩
 ·obtain⟨p1,p2,p3,p4,p5⟩:=I.pin p hp;exact⟨kp _ _ p3 p1,p2,p3,p4,p5⟩
def Inv.cx{A':Around}{calm':Bool}{pn' pins':List (Addr×Obj)}{xe':Value->Shared->Prop}(I:Inv X pins σ H s)(hp:∀p∈pn'++pins',p∈X.pn++pins)(hA:A'.frames=X.A.frames)(hd:calm'=true->A'.handled=none):
  Inv { X with A:=A',calm:=calm',pn:=pn',xe:=xe' } pins' σ H s:=
 ⟨⟨I.ok.mod,I.ok.kind,I.ok.glob,I.ok.blt,I.ok.above,I.ok.inj,I.ok.has,I.ok.cab,hd,hA.trans I.ok.frames,I.ok.stk,I.ok.exf,I.ok.bs,I.ok.bsz,I.ok.noex,I.ok.exfs,I.ok.funs,I.ok.frf,I.ok.tabs⟩,
  I.os,I.bare,I.base,I.loc,I.cell,I.free,I.freeC,λp q=>I.pin p (hp p q),I.hok,I.len⟩
end
noncomputable def FN(gb gs:Ev->O)(f:Addr->Option Bool)(i:Nat):Ev->O:=λρ=>match gb ρ with
 |.ex C ρ'=>(match f C with
  |some true=>(match gs (ρ'.set i (some (.val (.exc C))))with
   |.nx ρ''=>.nx (ρ''.set i none)
   |.rt d=>.rt d
   |_=>.no)
  |_=>.no)
 |o=>o
section
variable{suite:List Stmt}{b₀:Stmt}{gb gs:Ev->O}{pos hp tp:Pos}{tn nm:Str}{Ct:Addr}
noncomputable abbrev qL(X:Cx)(pn:List (Addr×Obj))(xe:Value->Shared->Prop):Cx:={ X with A:=X.A,calm:=X.calm,pn:=pn,xe:=xe }
noncomputable abbrev oM(X:Cx)(a:Addr)(xe:Value->Shared->Prop):Cx:={ X with A:=X.A.mark (some (.ref a)),calm:=false,pn:=X.pn,xe:=xe }
def Fk(pr:St->Prop)(i:Nat)(f:Addr->Option Bool)(hN:X.N.Nodup)(hcalm:X.calm=true)(hst:X.stack=X.env::X.outer)(hfr:X.env.frame=some X.env.locals)(hkd:X.env.scope.kind=.function)(G₀ H₀:Hp)(hb:∀pn xe,PSs (qL X pn xe) body λD σ H=>pr σ/\tS (qL X pn xe) G₀ H₀ gb D σ H)(hh:∀a xe,lR (oM X a xe) (b₀::suite) gs)(hf:∀C,f C=some true->PySem.W.exmOne X.K (.ref C) (.ref Ct)=some true)(hg:Gl X tn)(hm:X.mg tn=some (.ref Ct))(hi:X.N[i]?=some nm)(hx:X.env.scope.names.lookup nm=some .local)(hdb:(tn==("__debug__":Str))=false:=by decide):
  PS X (.Try body [.ExceptHandler (some (.Name tn tp)) (some nm) (b₀::suite) hp] [] [] pos) λD σ H=>pr σ/\tS X G₀ H₀ (FN gb gs f i) D σ H:=λpins s σ H D I h=>by
 obtain⟨hpr,G,ρ,sr,h⟩:=h;refine wpAny_Try_except ?_;have fs:frs X.stack=X.env.locals::frs X.outer:=by rw[hst];exact tB hfr
 have I1:∀xe,Inv (qL X (X.pn++pins) xe) [] σ H s:=λxe=>I.cx (λp q=>by simpa using q) rfl I.ok.hd;have back:∀{xe:Value->Shared->Prop}{pins':List (Addr×Obj)}{σ':St}{H':Hp}{s':Shared},Inv (qL X (X.pn++pins) xe) pins' σ' H' s'->Inv X pins σ' H' s':=λJ=>(J.cx (pn':=X.pn) (pins':=pins) (xe':=X.xe) (λp q=>qM _ q) rfl J.ok.hd:Inv { (qL X (X.pn++pins) _)with A:=X.A,calm:=X.calm,pn:=X.pn,xe:=X.xe } pins _ _ _)
 refine yc (hb (X.pn++pins) (λe s₁=>wpAny (model X.prog X.w) X.A (noteFrame e X.env) (λ_ s₂=>wpAny (model X.prog X.w) X.A (setFlight e none) (λ_ s₃=>wpAny (model X.prog X.w) X.A (handleBy e X.env [.ExceptHandler (some (.Name tn tp)) (some nm) (b₀::suite) hp]) (SP X pins D) X.xe s₃) X.xe s₂) X.xe s₁) [] s σ H D (I1 _) ⟨hpr,G,ρ,sr,?_⟩) (λfl s₁ q=>?_) λe s₁ q=>q
 case refine_2=>
  cases fl with
  |next=>obtain⟨σ',H',J,q⟩:=q;exact l8 ⟨σ',H',back J,q⟩
  |brk=>obtain⟨σ',H',J,q⟩:=q;exact⟨σ',H',back J,q⟩
  |cont=>obtain⟨σ',H',J,q⟩:=q;exact⟨σ',H',back J,q⟩
  |ret u=>obtain⟨v,σ',H',J,r,q⟩:=q;exact⟨v,σ',H',back J,r,q⟩
 unfold FN at h;cases q:gb ρ with
 |nx ρ'=>rw[q]at h;exact h
 |rt d=>rw[q]at h;exact h
 |re d ρ'=>rw[q]at h;exact h
 |bk ρ'=>rw[q]at h;exact h
 |ct ρ'=>rw[q]at h;exact h
 |no=>rw[q]at h;exact h.elim
 |ex C ρ'=>
  rw[q]at h;dsimp only at h;cases qf:f C with
  |none=>rw[qf]at h;exact h.elim
  |some b=>
   cases b with
   |false=>rw[qf]at h;exact h.elim
   |true=>
    rw[qf]at h;dsimp only at h;have way8:(∃ρ'',gs (ρ'.set i (some (.val (.exc C))))=.nx ρ'')\/∃d,gs (ρ'.set i (some (.val (.exc C))))=.rt d:=by cases qs:gs (ρ'.set i (some (.val (.exc C)))) <;> rw[qs]at h <;> first|exact .inl ⟨_,rfl⟩|exact .inr ⟨_,rfl⟩|exact h.elim
    ·intro e s' fl;obtain⟨σ',H₁,pins₁,s₁,a,rfl,J0,way⟩:=fl;have J₁:Inv X pins σ' H₁ s₁:=back J0;have cont:∀{ch:List Addr}{H' G':Hp}{s':Shared}{B:Heap}{a0:Value}{h₄:Heap},(∀b∈ch,Mc X pins b)->s'.os=s₁.os->AllBare s'.gens->Un (frs X.stack) ch H₁ H' s₁.heap s'.heap->HOk X.prog X.w H' s'.heap->H' a=none->s₁.heap.get? a=none->StR X.K G₀ H₀ G' H' σ' ρ'->
       (∀b o,b∉frs X.stack->((∃o0,s₁.heap.get? b=some o0)\/∃u,H' b=some u)->s'.heap.get? b=some o->B.get? b=some o)->Heap.HeldW B (X.env::X.outer) a (.ref C) a0 X.env.locals h₄->s'.heap.UpToSlots h₄->
       wpAny (model X.prog X.w) X.A (setFlight (.ref a) none) (λ_ s₃=>wpAny (model X.prog X.w) X.A (handleBy (.ref a) X.env [.ExceptHandler (some (.Name tn tp)) (some nm) (b₀::suite) hp]) (SP X pins D) X.xe s₃) X.xe { s' with heap:=h₄ }:=by
      intro ch H' G' s' B a0 h₄ hch os bare un hok ha hnew up hk held sm;have J':Inv X pins σ' H' s':=J₁.call' (ch:=ch) os un hok bare hch;have dat:∀b∈frs X.stack,∀o,s'.heap.get? b=some o->∀vs,o.data≠.fields vs:=λb hb o e=>by obtain⟨o',e',d',_⟩:=FunFrames.data J'.stack b hb;rw[e]at e';cases e';exact d'
      have at_:∀{h5:Heap},B.StaysIn h5->s'.heap.UpToSlots h5->Un (frs X.stack) ch H₁ H' s₁.heap h5/\HOk X.prog X.w H' h5:=λ{h5} hb5 sm5=>⟨un.flight hb5 sm5 hk (λb o e=>⟨o,e⟩) (λb hb=>.inl hb) dat,hok.flight hb5 hk J'.stkFree⟩
      refine wpAny_landsW held λh₅ fl₅ sm₅=>?_;obtain⟨un₅,hok₅⟩:=at_ fl₅.1 (sm.trans sm₅);have J₅:Inv X pins σ' H' { s' with heap:=h₅ }:=J₁.call' (s':={ s' with heap:=h₅ }) (ch:=ch) os un₅ hok₅ bare hch;have S₅:Inv (oM X a λ_ _=>False) pins σ' H' { s' with heap:=h₅ }:=J₅.cx (λp q=>q) rfl (λz=>by cases z);obtain⟨ob,hob,hobc⟩:=fl₅.there;refine wpAny_handleBy_cons (codeAny_handlers_test (mq S₅ hg hm ?_ hdb)) (by intro z;cases z);refine(PySem.W.exm_one (M:=model X.prog X.w) S₅.kIn (hobc▸(PySem.W.Looks.ld hob).andThen .now) (hf C qf)).here ?_;show codeAny _ _ _ _ _;refine codeAny_handlers_suite_as ?_;refine lands_againW fl₅ λh₆ fl₆ sm₆=>?_;obtain⟨un₆,hok₆⟩:=at_ fl₆.1 ((sm.trans sm₅).trans sm₆);obtain⟨ob6,hob6,hobc6⟩:=fl₆.there;have hokA:HOk X.prog X.w (upd H' a (.ext (kj a C))) h₆:=λb o e=>by
       by_cases eb:b=a;·subst eb;rw[aV]at e;cases e;exact⟨⟨ob6,hob6,hobc6⟩,⟨ob6,hob6⟩,λh1 h2 ⟨ob,e1,e2⟩ k=>⟨ob,k _ e1,e2⟩⟩
       ·rw[aE eb]at e;refine(hok₆ b o e).stay (λ_ _ _ z=>z) (λc z=>?_) (λc xs z=>?_) (λc ob u z=>?_)
        case refine_3=>rw[aE (aJ z ha)];exact z
        ·rw[aE (aJ z ha)];exact z
        ·rw[aE (aJ z ha)];exact z
      have unA:Un (frs X.stack) ch H₁ (upd H' a (.ext (kj a C))) s₁.heap h₆:=by
       refine⟨un₆.keep,un₆.slot,λb o e n x=>?_,un₆.there,λb xs z=>?_,λb o u z=>?_,λb ps z=>?_⟩;·rw[aE (λz=>by rw[z,hnew]at e;cases e)];exact un₆.free b o e n x
       ·have:=un₆.tups b xs z;rw[aE (aJ this ha)];exact this
       ·have:=un₆.frzs b o u z;rw[aE (aJ this ha)];exact this
       ·obtain⟨more,this⟩:=un₆.tbls b ps z;exact⟨more,by rw[aE (aJ this ha)];exact this⟩
      have J₆:Inv X pins σ' (upd H' a (.ext (kj a C))) { s' with heap:=h₆ }:=J₁.call' (s':={ s' with heap:=h₆ }) (ch:=ch) os unA hokA bare hch;have upA:Up G' H' (upd G' a (.ext (kj a C))) (upd H' a (.ext (kj a C))):=.new up.e.sub ha;have S₆:Inv (oM X a λ_ _=>False) pins σ' (upd H' a (.ext (kj a C))) { s' with heap:=h₆ }:=J₆.cx (λp q=>q) rfl (λz=>by cases z);refine lx (X:=oM X a λ_ _=>False) S₆ hN hi (.inl hx) (v:=.ref a) rfl (λs₇ S₇=>?_) (.inr hx);have sr7:=(up.ups upA).set (.exc aV:Rep X.K (upd G' a (.ext (kj a C))) (.ref a) (.exc C)) i;refine yc (hh a (λ_ _=>False) G₀ H₀ pins s₇ _ _ { nx:=λσ₈ H₈=>∃ρ'' G₈,gs (ρ'.set i (some (.val (.exc C))))=.nx ρ''/\StR X.K G₀ H₀ G₈ H₈ σ₈ ρ'',rt:=λv H₈=>∃d G₈,gs (ρ'.set i (some (.val (.exc C))))=.rt d/\Up G₀ H₀ G₈ H₈/\Rep X.K G₈ v d } S₇ ⟨_,_,sr7,by
       rcases way8 with⟨ρ'',qs⟩|⟨d,qs⟩;·rw[qs];exact λσ₈ G₈ H₈ sr8=>⟨ρ'',G₈,rfl,sr8⟩
       ·rw[qs];exact λv G₈ H₈ u8 rp8=>⟨d,G₈,rfl,u8,rp8⟩⟩) (λfl s₈ q8=>?_) λ_ _ z=>z.elim;cases fl with
      |next=>
       obtain⟨σ₈,H₈,S₈,ρ'',G₈,qs,sr8⟩:=q8;rw[qs]at h;have J₈:Inv X pins σ₈ H₈ s₈:=(S₈.cx (pn':=X.pn) (pins':=pins) (A':=X.A) (calm':=X.calm) (xe':=X.xe) (λp q=>q) rfl I.ok.hd:Inv { (oM X a λ_ _=>False)with A:=X.A,calm:=X.calm,pn:=X.pn,xe:=X.xe } pins _ _ _)
       refine z9 (l9 (lH J₈ hN hi (.inl hx) (v:=.non) rfl (λs₉ J₉ _=>?_) (.inr hx)));obtain⟨m9,hn9,hl9⟩:=id J₉.loc;have hlt:i<σ₈.length:=by rw[J₈.len];exact(wK.mp hi).1
       obtain⟨u9,r9,lk9⟩:=hl9 i nm .non hi (by rw[v9 hlt]) (.inl hx);have hv9:m9 nm=some u9:=by
        rcases lk9 with⟨_,e⟩|⟨k,_⟩;·exact e
        ·have k':X.env.scope.names.lookup nm=some .cell\/X.env.scope.names.lookup nm=some .free:=k;rw[hx]at k';rcases k' with k'|k' <;> cases k'
       refine p9 (wpAny_unbindName_local hx hn9 hv9 (by rw[hkd];rfl) λh10 u10 hn10 sb10=>?_);have J10:=J₉.unset hN hi hl9 hn10 sb10;refine⟨_,_,J10,?_⟩;have e10:(σ₈.set i (some V.non)).set i none=σ₈.set i none:=by rw[List.set_set]
       rw[e10];refine h _ G₈ _ ?_;have get:∀(j:Nat) x,(ρ''.set i none)[j]?=some (some x)->j≠i/\ρ''[j]?=some (some x)/\(σ₈.set i none)[j]?=σ₈[j]?:=λj x e=>by
        by_cases ej:i=j;·subst ej;rw[kT]at e;simp only[xK]at e;split at e <;> cases e
        ·rw[vU ej]at e;exact⟨λz=>ej z.symm,e,vU ej⟩
       have ob:ObSt X.K H₀ G₈ H₈ (σ₈.set i none) (ρ''.set i none):=by
        obtain⟨ow,o1,o2⟩:=sr8.ob;refine⟨ow,λj ds l e1 e2=>?_,λj m C p fs e1=>?_⟩;·obtain⟨_,f1,f2⟩:=get j _ e1;exact o1 j ds l f1 (f2▸e2)
        ·obtain⟨_,f1,f2⟩:=get j _ e1;rw[f2];exact o2 j m C p fs f1
       refine⟨⟨sr8.e.sub,by simp[sr8.e.len],λj d e=>?_,ob.rd⟩,sr8.sub0,sr8.up,λj ds e=>?_,λj k ds es l e1 e2 e3 e4=>?_,ob⟩;·obtain⟨_,e1,e2⟩:=get j _ e;rw[e2];exact sr8.e.val j d e1
       ·obtain⟨_,e1,e2⟩:=get j _ e;rw[e2];exact sr8.own j ds e1
       ·obtain⟨_,f1,f2⟩:=get j _ e1;obtain⟨_,f3,f4⟩:=get k _ e2;exact sr8.inj j k ds es l f1 f3 (f2▸e3) (f4▸e4)
      |brk=>obtain⟨_,_,_,z⟩:=q8;exact z.elim
      |cont=>obtain⟨_,_,_,z⟩:=q8;exact z.elim
      |ret u=>
       obtain⟨v,σ₈,H₈,S₈,r8,d,G₈,qs,u8,rp8⟩:=q8;rw[qs]at h;have J₈:Inv X pins σ₈ H₈ s₈:=(S₈.cx (pn':=X.pn) (pins':=pins) (A':=X.A) (calm':=X.calm) (xe':=X.xe) (λp q=>q) rfl I.ok.hd:Inv { (oM X a λ_ _=>False)with A:=X.A,calm:=X.calm,pn:=X.pn,xe:=X.xe } pins _ _ _)
       refine z9 (l9 (lH J₈ hN hi (.inl hx) (v:=.non) rfl (λs₉ J₉ _=>?_) (.inr hx)));obtain⟨m9,hn9,hl9⟩:=id J₉.loc;have hlt:i<σ₈.length:=by rw[J₈.len];exact(wK.mp hi).1
       obtain⟨u9,r9,lk9⟩:=hl9 i nm .non hi (by rw[v9 hlt]) (.inl hx);have hv9:m9 nm=some u9:=by
        rcases lk9 with⟨_,e⟩|⟨k,_⟩;·exact e
        ·have k':X.env.scope.names.lookup nm=some .cell\/X.env.scope.names.lookup nm=some .free:=k;rw[hx]at k';rcases k' with k'|k' <;> cases k'
       refine p9 (wpAny_unbindName_local hx hn9 hv9 (by rw[hkd];rfl) λh10 u10 hn10 sb10=>?_);have J10:=J₉.unset hN hi hl9 hn10 sb10;exact⟨v,_,_,J10,r8,h v G₈ _ u8 rp8⟩
     have hfrm:X.A.frames=some (X.env::X.outer):=by rw[<- hst];exact I.ok.frames
     rcases way with⟨G₁,h',vs,sr',made,rfl⟩|⟨G',H',⟨os,bare,un,hok,ha,B,a0,fl,hk⟩,up⟩|⟨G',H',L',hL,⟨os,bare,⟨ch,hch,un⟩,hok,ha,hna,B,a0,fl,hk⟩,up⟩
     ·have hin:∀env∈X.stack,∀b,env.frame=some b->b∈frs X.stack:=λenv he b hb=>o6.mpr ⟨env,he,hb⟩;have ha:H₁ a=none:=by
       cases q:H₁ a with
       |none=>rfl
       |some u=>obtain⟨ob,e⟩:=(J₁.hok a u q).there;rw[made.new]at e;cases e
      obtain⟨t,he,htn,ht⟩:=made.there;have hkb:(PySem.W.hideAll s₁.heap (frs X.stack)).StaysIn h':=λb o q=>made.keeps b o (qJ _ q);have hen:(PySem.W.hideAll s₁.heap (frs X.stack)).get? a=none:=by
       cases q:(PySem.W.hideAll s₁.heap (frs X.stack)).get? a with
       |none=>rfl
       |some o=>have:=qJ _ q;rw[made.new]at this;cases this
      have hff:h'.FunFrames (PySem.W.hideAll s₁.heap (frs X.stack)) (X.env::X.outer):=by rw[<- hst];exact(d8 J₁.stack hin).of_keeps λb o hb _=>⟨o,made.keeps b o hb,rfl⟩
      show wpAny _ _ (noteFrame (.ref a) X.env) _ _ _;unfold noteFrame;simp only[hfr];refine z9 (w9 (show({ s₁ with heap:=h' }:Shared).heap.get? a=some _ from he) rfl (x:=.none) rfl ?_);rw[if_neg (by decide)];refine wpAny_entryW (base:=PySem.W.hideAll s₁.heap (frs X.stack)) (a0:=.ref t) hfrm hff hfr he hkb hen rfl (by show 1<6;decide) rfl λh₄ noted=>?_;obtain⟨n1,n2,n3,n4⟩:=noted;refine cont (ch:=[]) (s':={ s₁ with heap:=h' }) (λb z=>absurd z (by simp)) rfl J₁.bare (Un.kept made.keeps) (J₁.hok.kept made.keeps) ha made.new sr' (λb o hb ho e=>?_) ⟨n1,hen,n2,n3⟩ n4;have e1:s₁.heap.get? b=some o:=by
       rcases ho with⟨o0,ho⟩|⟨u,ho⟩;·have q:=made.keeps b o0 ho;have e':h'.get? b=some o:=e;rw[q]at e';cases e';exact ho
       ·obtain⟨ob,ho⟩:=(J₁.hok b u ho).there;have q:=made.keeps b ob ho;have e':h'.get? b=some o:=e;rw[q]at e';cases e';exact ho
      exact j4 _ e1 hb
     ·have hna:s₁.heap.get? a=none:=by
       cases q:s₁.heap.get? a with
       |none=>rfl
       |some o0=>
        obtain⟨o',e'⟩:=un.there a o0 q (by simp);have hna:a∉frs X.stack:=λz=>by obtain⟨o1,e1,d1,_⟩:=FunFrames.data fl.2.2.1 a z;obtain⟨oe,vs,_,_,_,e2,_,d2,_⟩:=fl.2.2.2;rw[e1]at e2;cases e2;exact d1 vs d2
        have:=hk a o' hna (.inl ⟨o0,q⟩) e';rw[fl.2.1]at this;cases this
      rw[hst]at fl;exact wpAny_looks_onW hfrm hfr fl λh₄ held sm=>cont (ch:=[]) (λb z=>absurd z (by simp)) os bare un hok ha hna up hk held sm
     ·have hch':∀b∈ch,Mc X pins b:=λb hb=>let⟨c1,c2,c3,c4⟩:=hch b hb;⟨c1,c2,c3,λp hp=>c4 p (qM _ hp)⟩;have eL:X.env.locals=L':=xf (hfr.symm.trans hL);rw[hst,<- eL]at fl;exact d9 hfr fl.2.2.2 (cont (h₄:=s'.heap) hch' os bare un hok ha hna up hk fl λb o hb _=>⟨o.slots,hb⟩)
def Fm(i:Nat)(f:Addr->Option Bool)(hN:X.N.Nodup)(hcalm:X.calm=true)(hst:X.stack=X.env::X.outer)(hfr:X.env.frame=some X.env.locals)(hkd:X.env.scope.kind=.function)(hb:∀pn xe,lR (qL X pn xe) body gb)(hh:∀a xe,lR (oM X a xe) (b₀::suite) gs)(hf:∀C,f C=some true->PySem.W.exmOne X.K (.ref C) (.ref Ct)=some true)(hg:Gl X tn)(hm:X.mg tn=some (.ref Ct))(hi:X.N[i]?=some nm)(hx:X.env.scope.names.lookup nm=some .local)(hdb:(tn==("__debug__":Str))=false:=by decide):
  PSF X (.Try body [.ExceptHandler (some (.Name tn tp)) (some nm) (b₀::suite) hp] [] [] pos) (FN gb gs f i):=λG₀ H₀ pins s σ H D I h=>
 Fk (λ_=>True) i f hN hcalm hst hfr hkd G₀ H₀ (λpn xe pins s σ H D I h=>hb pn xe G₀ H₀ pins s σ H D I h.2) hh hf hg hm hi hx hdb pins s σ H D I ⟨True.intro,h⟩
end
structure Callee(P:Program)(w:World)(K:PySem.W.Frag)(mg:Str->Option Value)(base:Heap)(x:Str)(k n:Nat)(g:List D->R D):Prop where
 ex:∃f fd ps,FnF P w K mg base k f fd ps g/\mg x=some (.ref f)/\PySem.W.keepIn K (.ref f)=true/\Binds K fd ps []/\ps.length=n
def DR{x:Str}{g:List D->R D}{e:Expr}{pos:Pos}(c:Callee X.prog X.w X.K X.mg X.base x k n g)(hr:Room k X.A)(ha:PFA X (e::es) gl)(hg:Gl X x:=by rfl)(hdb:(x==("__debug__":Str))=false:=by decide)(he:starEach (e::es) X.env=(false,eval e X.env)::starEach es X.env:=by rfl)(hpl:(backTo pos (starEach es X.env)).any (·.1)=false:=by rfl):
  PF X (.Call (.Name x p) (e::es) [] pos) (λρ=>gl ρ>>=λds=>if ds.length=n then g ds else .no):=by
 obtain⟨f,fd,ps,F,hm,hk,hb,rfl⟩:=c.ex;exact IK F hr hg hm hk hb ha hdb he hpl
def FnF.to{w:World}{K:PySem.W.Frag}{mg:Str->Option Value}{base:Heap}{g g':List D->R D}(F:FnF P w K mg base k f fd ps g)(h:∀ds,ds.length=ps.length->g' ds=.no\/g ds=g' ds):FnF P w K mg base k f fd ps g':=by
 refine F.imp λvs H Q E ⟨hl,G,ds,sub,r,q⟩=>⟨hl,G,ds,sub,r,?_⟩
 rcases h ds (by rw[<- r.length];exact hl)with z|z;·rw[z]at q;exact q.elim
 ·rw[z];exact q
def Fun.callee{w:World}{K:PySem.W.Frag}{mg:Str->Option Value}{base:Heap}{x:Str}{g:List D->R D}(F:Fun K x x st f fd)(hm:mg x=some (.ref f))(ok:FnF P w K mg base k f fd ps g)(h:∀(kV doc pm:Value)(an:Option Addr)(cdv ct:Value)(us:List Value),us.length=ps.length->bindArgs (PySem.W.fnOf x x (iw st) (cz st) (ar st) .none kV doc pm an cdv ct) ⟨us,[]⟩=pure (ps.zip us)):Callee P w K mg base x k ps.length g:=
 ⟨f,fd,ps,ok,hm,F.kp,F.binds h,rfl⟩
def jT{T:String}{f:String->Bool}(h:∀K:PySem.W.Frag,PySem.W.kitOne K (.type "NoneType") (.type T)=some (f "NoneType")/\PySem.W.kitOne K (.type "bool") (.type T)=some (f "bool")/\PySem.W.kitOne K (.type "int") (.type T)=some (f "int")/\
 PySem.W.kitOne K (.type "str") (.type T)=some (f "str")/\PySem.W.kitOne K (.type "tuple") (.type T)=some (f "tuple")/\PySem.W.kitOne K (.type "list") (.type T)=some (f "list")):
  ∀K:PySem.W.Frag,∀t∈["NoneType","bool","int","str","tuple","list"],PySem.W.kitOne K (.type t) (.type T)=some (f t):=λK t ht=>by
 obtain⟨h1,h2,h3,h4,h5,h6⟩:=h K;simp only[y9,xu,xv]at ht;rcases ht with rfl|rfl|rfl|rfl|rfl|rfl <;> assumption
noncomputable def isInt(t:String):Bool:=t=="int" || t=="bool"
section
variable{e:Expr}{ga:Ev->R D}{p2 pos:Pos}
def DE(hm:X.mg "isinstance"=none)(ha:PF X e ga)(hm2:X.mg "int"=none)(hg2:Gl X "int":=by rfl)(hg:Gl X "isinstance":=by rfl)(hs1:starEach [e,.Name "int" p2] X.env=(false,eval e X.env)::starEach [.Name "int" p2] X.env:=by rfl):PF X (.Call (.Name "isinstance" p) [e,.Name "int" p2] [] pos) (λρ=>ga ρ>>=ko isInt):=
 pR (T:="int") isInt (jT λK=>⟨rfl,rfl,rfl,rfl,rfl,rfl⟩) hg hm hg2 hm2 PyProof.Rows.Boot.«int» ha hs1
def A7(hm:X.mg "isinstance"=none)(ha:PF X e ga)(hm2:X.mg "bool"=none)(hg2:Gl X "bool":=by rfl)(hg:Gl X "isinstance":=by rfl)(hs1:starEach [e,.Name "bool" p2] X.env=(false,eval e X.env)::starEach [.Name "bool" p2] X.env:=by rfl):PF X (.Call (.Name "isinstance" p) [e,.Name "bool" p2] [] pos) (λρ=>ga ρ>>=ko (·=="bool")):=
 pR (T:="bool") (·=="bool") (jT λK=>⟨rfl,rfl,rfl,rfl,rfl,rfl⟩) hg hm hg2 hm2 PyProof.Rows.Boot.«bool» ha hs1
def E1(hm:X.mg "isinstance"=none)(ha:PF X e ga)(hm2:X.mg "str"=none)(hg2:Gl X "str":=by rfl)(hg:Gl X "isinstance":=by rfl)(hs1:starEach [e,.Name "str" p2] X.env=(false,eval e X.env)::starEach [.Name "str" p2] X.env:=by rfl):PF X (.Call (.Name "isinstance" p) [e,.Name "str" p2] [] pos) (λρ=>ga ρ>>=ko (·=="str")):=
 pR (T:="str") (·=="str") (jT λK=>⟨rfl,rfl,rfl,rfl,rfl,rfl⟩) hg hm hg2 hm2 PyProof.Rows.Boot.«str» ha hs1
def yT(hm:X.mg "isinstance"=none)(ha:PF X e ga)(hm2:X.mg "tuple"=none)(hg2:Gl X "tuple":=by rfl)(hg:Gl X "isinstance":=by rfl)(hs1:starEach [e,.Name "tuple" p2] X.env=(false,eval e X.env)::starEach [.Name "tuple" p2] X.env:=by rfl):PF X (.Call (.Name "isinstance" p) [e,.Name "tuple" p2] [] pos) (λρ=>ga ρ>>=ko (·=="tuple")):=
 pR (T:="tuple") (·=="tuple") (jT λK=>⟨rfl,rfl,rfl,rfl,rfl,rfl⟩) hg hm hg2 hm2 PyProof.Rows.Boot.«tuple» ha hs1
def Cy(hm:X.mg "isinstance"=none)(ha:PF X e ga)(hm2:X.mg "list"=none)(hg2:Gl X "list":=by rfl)(hg:Gl X "isinstance":=by rfl)(hs1:starEach [e,.Name "list" p2] X.env=(false,eval e X.env)::starEach [.Name "list" p2] X.env:=by rfl):PF X (.Call (.Name "isinstance" p) [e,.Name "list" p2] [] pos) (λρ=>ga ρ>>=ko (·=="list")):=
 pR (T:="list") (·=="list") (jT λK=>⟨rfl,rfl,rfl,rfl,rfl,rfl⟩) hg hm hg2 hm2 PyProof.Rows.Boot.«list» ha hs1
end
noncomputable def ck(ga:Ev->R D):Ev->O:=λρ=>(ga ρ).out ρ .rt
noncomputable def aF(g1 g2:Ev->O):Ev->O:=λρ=>(g1 ρ).seq g2
noncomputable def oIf(gt:Ev->R Bool)(g1 g2:Ev->O):Ev->O:=λρ=>(gt ρ).out ρ λk=>if k=true then g1 ρ else g2 ρ
noncomputable def oNx:Ev->O:=λρ=>.nx ρ
noncomputable def eJ(i:Nat)(ga:Ev->R D):Ev->O:=λρ=>(ga ρ).out ρ λd=>.nx (ρ.set i (some (.val d)))
noncomputable def zZ(i:Nat)(gl:Ev->R (List D)):Ev->O:=λρ=>(gl ρ).out ρ λds=>.nx (ρ.set i (some (.own ds)))
noncomputable def jJ(ga:Ev->R D):Ev->O:=λρ=>(ga ρ).out ρ λ_=>.nx ρ
noncomputable def Az(asg:D->Ev->R Ev)(gi:Ev->R (List D))(g:Ev->O):Ev->O:=λρ=>(gi ρ).out ρ λitems=>iH asg g items ρ
noncomputable def dA(C:Addr)(gl:Ev->R (List D)):Ev->O:=λρ=>(gl ρ).out ρ λ_=>.ex C ρ
noncomputable def Mx(asg:D->Ev->R Ev)(ga:Ev->R D):Ev->O:=λρ=>(ga ρ).out ρ λd=>(asg d ρ).out ρ .nx
noncomputable def zw(i:Nat)(g:Ev->O):Ev->O:=λρ=>g (frz i ρ)
noncomputable def aB{α β:Type}(f:α->R β)(ga:Ev->R α):Ev->R β:=λρ=>ga ρ>>=f
noncomputable def gOf(f:List D->Option D)(gl:Ev->R (List D)):Ev->R D:=λρ=>gl ρ>>=λds=>ofO (f ds)
noncomputable def ac(ga:Ev->R D)(gl:Ev->R (List D)):Ev->R (List D):=λρ=>ga ρ>>=λx=>gl ρ>>=λxs=>.ok (x::xs)
noncomputable def aG(n:Nat)(g:List D->R D)(gl:Ev->R (List D)):Ev->R D:=λρ=>gl ρ>>=λds=>if ds.length=n then g ds else .no
noncomputable def aP(gl:Ev->R (List D)):Ev->R D:=λρ=>gl ρ>>=λds=>.ok (.lst false ds)
noncomputable def fS(gl:Ev->R (List D)):Ev->R (List D):=λρ=>gl ρ>>=λds=>if ds.length<=sizeLine then .ok ds else .no
noncomputable def gB2(f:D->D->Option D)(ga gb:Ev->R D):Ev->R Bool:=λρ=>g2 f ga gb ρ>>=asB
noncomputable def gB3(f f':D->D->Option D)(ga gb gc:Ev->R D):Ev->R Bool:=λρ=>g3 f f' ga gb gc ρ>>=asB
noncomputable def gBn(gt:Ev->R Bool):Ev->R Bool:=λρ=>gt ρ>>=λk=>.ok (!k)
noncomputable def sd(ga:Ev->R D):Ev->R (Option Int):=λρ=>ga ρ>>=λx=>asI x>>=λi=>.ok (some i)
noncomputable def eS(T:String)(f:D->List D->Option D)(ga:Ev->R D)(gl:Ev->R (List D)):Ev->R D:=λρ=>ga ρ>>=λx=>if lr T x=true then gl ρ>>=λds=>ofO (f x ds)else .no
def Callee.mono{w:World}{K:PySem.W.Frag}{mg:Str->Option Value}{base:Heap}{x:Str}{g:List D->R D}(c:Callee P w K mg base x k n g)(k':Nat)(h:k<=k':=by decide):Callee P w K mg base x k' n g:=by obtain⟨f,fd,ps,F,hm,hk,hb,e⟩:=c.ex;exact⟨f,fd,ps,{ F with run:=λA outer s H args us vs Q E hr=>F.run A outer s H args us vs Q E (hr.mono h) },hm,hk,hb,e⟩
section
variable{fV sa sb:List Stmt}{e a b c o:Expr}{g gs1 gs2:Ev->O}{ga gc:Ev->R D}{gt:Ev->R Bool}{pos p2:Pos}{x:Str}
def ag(h1:PSF X st gs1)(h2:lR X fV gs2):lR X (st::fV) (aF gs1 gs2):=zc h1 h2
def ax:lR X [] oNx:=A4
def aX(he:PF X e ga):PSF X (.Return (some e) pos) (ck ga):=CV he
def dU(hc:PB X c gt)(ha:lR X sa gs1)(hb:lR X sb gs2):PSF X (.If c sa sb pos) (oIf gt gs1 gs2):=Gv hc ha hb
def Ip(i:Nat)(hN:X.N.Nodup)(he:PF X e ga)(hi:X.N[i]?=some x:=by rfl)(hx:Loc X.env.scope x:=by first|exact Or.inl rfl|exact Or.inr rfl)(hs:swapsWithSole [.Name x p] e pos.line X.env=pure false:=by rfl)(hw:swappedStores [.Name x p] e X.env=pure none:=by rfl)(hf:X.fn x=true\/X.env.scope.names.lookup x=some .local:=by first|exact .inl rfl|exact .inr rfl):
  PSF X (.Assign [.Name x p] e pos) (eJ i ga):=ER i hN he hi hx hs hw hf
def GW(i:Nat)(hN:X.N.Nodup)(he:PFL X e gl)(hi:X.N[i]?=some x:=by rfl)(hx:Loc X.env.scope x:=by first|exact Or.inl rfl|exact Or.inr rfl)(hs:swapsWithSole [.Name x p] e pos.line X.env=pure false:=by rfl)(hw:swappedStores [.Name x p] e X.env=pure none:=by rfl)(hf:X.fn x=true\/X.env.scope.names.lookup x=some .local:=by first|exact .inl rfl|exact .inr rfl):
  PSF X (.Assign [.Name x p] e pos) (zZ i gl):=EE i hN he hi hx hs hw hf
def ig(he:PF X e ga)(hs:swapsWith e none pos.line X.env=pure false:=by rfl):PSF X (.Expr e pos) (jJ ga):=Am he hs
def vV(hp:PassesOwn (model X.prog X.w) X.A X.env X.xe)(hcalm:X.calm=true)(hi:PIF X tg iter gi)(hg:PGF X tg asg)(hb:lR X body g)(hs:∀x,foldedSetIterable iter X.env x=pure x:=by intro _;rfl)(hn:∀d ρ C,asg d ρ≠.ex C:=by intro _ _ _ z;cases z):PSF X (.For tg iter body [] pos) (Az asg gi g):=D4 hp hcalm hi hg hb hs hn
def dY(hg:Gl X "len")(hm:X.mg "len"=none)(ha:PFA X [e] gl)(he:starEach [e] X.env=[(false,eval e X.env)]:=by rfl):PF X (.Call (.Name "len" p) [e] [] pos) (gOf iC gl):=KH hg hm ha he
def qA(hc:X.calm=true)(hg:Gl X "all")(hm:X.mg "all"=none)(ha:PFA X [e] gl)(he:starEach [e] X.env=[(false,eval e X.env)]:=by rfl):PF X (.Call (.Name "all" p) [e] [] pos) (gOf xW gl):=JM hc hg hm ha he
def aa(ha:PF X e ga)(hr:PFA X es gl)(hs:starEach (e::es) X.env=(false,eval e X.env)::starEach es X.env:=by rfl):PFA X (e::es) (ac ga gl):=DW ha hr hs
def aC{f:List D->R D}(c:Callee X.prog X.w X.K X.mg X.base x k n f)(hr:Room k X.A)(ha:PFA X (e::es) gl)(hg:Gl X x:=by rfl)(hdb:(x==("__debug__":Str))=false:=by decide)(he:starEach (e::es) X.env=(false,eval e X.env)::starEach es X.env:=by rfl)(hpl:(backTo pos (starEach es X.env)).any (·.1)=false:=by rfl):
  PF X (.Call (.Name x p) (e::es) [] pos) (aG n f gl):=DR c hr ha hg hdb he hpl
def cK{gens:List Comprehension}{sc:Scope}(h:PFL X (.ListComp e gens sc pos) gl):PF X (.ListComp e gens sc pos) (aP gl):=xY h
def bJ(h:PFL X (.List es pos) gl):PF X (.List es pos) (aP gl):=xY h
def cG(h:PFA X es gl):PFL X (.List es pos) (fS gl):=IU h
def cX(h:PFA X es gl):PF X (.Tuple es k pos) (aB mkT gl):=Jl h
def xD(ha:PF X a ga):PF X (.UnaryOp .USub a pos) (aB E6 ga):=KP ha
def Il(hm:X.mg "isinstance"=none)(ha:PF X e ga)(hm2:X.mg "int"=none)(hg2:Gl X "int":=by rfl)(hg:Gl X "isinstance":=by rfl)(hs1:starEach [e,.Name "int" p2] X.env=(false,eval e X.env)::starEach [.Name "int" p2] X.env:=by rfl):PF X (.Call (.Name "isinstance" p) [e,.Name "int" p2] [] pos) (aB (ko isInt) ga):=DE hm ha hm2 hg2 hg hs1
def Dc(hm:X.mg "isinstance"=none)(ha:PF X e ga)(hm2:X.mg "bool"=none)(hg2:Gl X "bool":=by rfl)(hg:Gl X "isinstance":=by rfl)(hs1:starEach [e,.Name "bool" p2] X.env=(false,eval e X.env)::starEach [.Name "bool" p2] X.env:=by rfl):PF X (.Call (.Name "isinstance" p) [e,.Name "bool" p2] [] pos) (aB (ko (·=="bool")) ga):=A7 hm ha hm2 hg2 hg hs1
def rR(hm:X.mg "isinstance"=none)(ha:PF X e ga)(hm2:X.mg "str"=none)(hg2:Gl X "str":=by rfl)(hg:Gl X "isinstance":=by rfl)(hs1:starEach [e,.Name "str" p2] X.env=(false,eval e X.env)::starEach [.Name "str" p2] X.env:=by rfl):PF X (.Call (.Name "isinstance" p) [e,.Name "str" p2] [] pos) (aB (ko (·=="str")) ga):=E1 hm ha hm2 hg2 hg hs1
def jN(hm:X.mg "isinstance"=none)(ha:PF X e ga)(hm2:X.mg "tuple"=none)(hg2:Gl X "tuple":=by rfl)(hg:Gl X "isinstance":=by rfl)(hs1:starEach [e,.Name "tuple" p2] X.env=(false,eval e X.env)::starEach [.Name "tuple" p2] X.env:=by rfl):PF X (.Call (.Name "isinstance" p) [e,.Name "tuple" p2] [] pos) (aB (ko (·=="tuple")) ga):=yT hm ha hm2 hg2 hg hs1
def rK(h:PF X e ga):PFO X (some e) (sd ga):=DF h
def Cq(ha:PF X a ga)(hb:PF X b gb):PB X (.Compare a [.Lt] [b] pos) (gB2 ltD ga gb):=N3 ha hb
def HQ(ha:PF X a ga)(hb:PF X b gb):PB X (.Compare a [.LtE] [b] pos) (gB2 leD ga gb):=Ob ha hb
def zG(ha:PF X a ga)(hb:PF X b gb):PB X (.Compare a [.Gt] [b] pos) (gB2 gtD ga gb):=Nk ha hb
def qP(hu:X.A.units+64<cLine)(ha:PF X a ga)(hb:PF X b gb):PB X (.Compare a [.Eq] [b] pos) (gB2 eqF ga gb):=Ot hu ha hb
def ee(hu:X.A.units+64<cLine)(ha:PF X a ga)(hb:PF X b gb):PB X (.Compare a [.NotEq] [b] pos) (gB2 neF ga gb):=NV hu ha hb
def GA(ha:PF X a ga)(hb:PF X b gb):PB X (.Compare a [.Is] [b] pos) (gB2 isF ga gb):=Og ha hb
def BD(ha:PF X a ga)(hb:PF X b gb)(hc:PF X c gc)(hm:lastMarks [.LtE,.LtE] [b,c]=false:=by with_unfolding_all rfl):PB X (.Compare a [.LtE,.LtE] [b,c] pos) (gB3 leD leD ga gb gc):=Hu ha hb hc hm
def bN(ha:PB X a gt):PB X (.UnaryOp .Not a pos) (gBn gt):=Ln ha
def bS(h:PF X (.Call a es [] pos) ga):PB X (.Call a es [] pos) (aB gU ga):=K1 h
def iA{op:BoolOp}(h:PBW X (.BoolOp op es pos) gt):PB X (.BoolOp op es pos) gt:=λpins s σ H Q I q=>h _ pins s σ H Q I q
def bU(ha:PF X a ga):PIF X tg a (aB bH ga):=HM ha
def Dv(hg:Gl X "range")(hm:X.mg "range"=none)(ha:PFA X [a] gl)(hs:starEach [a] X.env=[(false,eval a X.env)]:=by rfl):PIF X tg (.Call (.Name "range" p) [a] [] pos) (aB tR gl):=zo hg hm ha hs
end
@[simp] theorem R.ok_out{α:Type}(a:α)(ρ:Ev)(k:α->O):(R.ok a).out ρ k=k a:=rfl
@[simp] theorem R.ex_out{α:Type}(C:Addr)(ρ:Ev)(k:α->O):(R.ex C:R α).out ρ k=.ex C ρ:=rfl
@[simp] theorem jh{α:Type}(a:α):fq (R.ok a)=R.ok a:=rfl
theorem vz{gt:Ev->R Bool}{ge:Ev->R D}(p:D->Bool)(h:D->D)(tl:Ev):∀(ds:List D)(a:Option Sl),(∀d∈ds,gt (some (.val d)::tl)=.ok (p d)/\(p d=true->ge (some (.val d)::tl)=.ok (h d)))->kr gt ge ds (a::tl)=.ok ((ds.filter p).map h)
 | [],a,_=>rfl
 |d::ds,a,H=>by
  have ih:=vz p h tl ds (some (.val d)) λx m=>H x (wB _ m);obtain⟨e1,e2⟩:=H d (v8 ..);show(fq (gt (some (.val d)::tl))>>=λk=>if k=true then fq (ge (some (.val d)::tl))>>=λx=>kr gt ge ds (some (.val d)::tl)>>=λxs=>.ok (x::xs)else kr gt ge ds (some (.val d)::tl))=_;rw[e1,jh,R.ok_bind,ih];cases q:p d with
  |true=>rw[if_pos rfl,e2 q,jh,R.ok_bind,R.ok_bind,List.filter_cons_of_pos q];rfl
  |false=>rw[if_neg xR,List.filter_cons_of_neg (by rw[q];exact xR)]
def oE{gt:Ev->R Bool}(h:D->D)(tl:Ev)(ds:List D)(a:Option Sl)(H:∀d∈ds,gt (some (.val d)::tl)=.ok true/\ge (some (.val d)::tl)=.ok (h d)):kr gt ge ds (a::tl)=.ok (ds.map h):=by rw[vz (λ_=>true) h tl ds a λd m=>⟨(H d m).1,λ_=>(H d m).2⟩,List.filter_eq_self.2 λ_ _=>rfl]
theorem yx(f:D->Bool):∀ds:List D,yJ (ds.map λd=>.bl (f d))=some (ds.map f)
 | []=>rfl
 |d::ds=>by
  have ih:=yx f ds;rw[ub,ub];unfold yJ
  first|(rw[ih];rfl)|(simp only[ih];rfl)|simp[ih]
def yh(f:D->Bool)(k:Bool)(ds:List D):xW [.lst k (ds.map λd=>.bl (f d))]=some (.bl (ds.all f)):=by show(yJ (ds.map λd=>.bl (f d))).map _=_;rw[yx];show some (D.bl ((ds.map f).all id))=_;rw[List.all_map];rfl
def Ak(a b:Nat):(!decide (([b]:List Nat)<[a]))=decide (a<=b):=by
 have:(([b]:List Nat)<[a]) ↔ b<a:=by
  constructor
  ·intro h;cases h with
   |rel h=>exact h
   |cons h=>cases h
  ·intro h;exact .rel h
 by_cases h:a<=b
 ·have h2 : ¬ ([b]:List Nat)<[a]:=λq=>by have:=this.1 q;omega
  simp[h,h2]
 ·have h2:([b]:List Nat)<[a]:=this.2 (by omega);simp[h,h2]
def bg{x:Str}(hk:scope.kind=.function:=by rfl)(h1:(∀y∈scope.names,y.2≠.cell)/\(∀y∈scope.names,y.2=.local->scope.names.lookup y.1=some .local)/\scope.names.lookup x=some .local/\(∀y∈scope.names,y.2=.free->y.1∈N'.tail)/\N'.Nodup/\N'[0]?=some x/\
 ∀y∈N'.tail,scope.names.lookup y=some .free/\(y,NameKind.free)∈scope.names:=by decide +kernel)(h2:N'.tail.map X.env.kindOf=N'.tail.map λ_=>some NameKind.cell:=by rfl)(h3:N'.tail=ix.map (λ(i:Nat)=>X.N.getD i Str.empty):=by rfl)(h4:ix.all (λi=>decide (i<X.N.length))=true:=by rfl):CompOk X scope x N' ix:=by
 obtain⟨a,b,c,d,e,f,g⟩:=h1;refine⟨hk,a,b,c,λy hy h=>?_,e,f,h3,λi hi=>?_,g⟩;·exact List.map_inj_left.1 h2 _ (d y hy h)
 ·exact j5 (sO.1 h4 i hi)
def rd0(d:D)(ρ:Ev):rdV (some (.val d)::ρ) 0=.ok d:=rfl
def rd1(a0:Option Sl)(d:D)(ρ:Ev):rdV (a0::some (.val d)::ρ) 1=.ok d:=rfl
def rd2(a0 a1:Option Sl)(d:D)(ρ:Ev):rdV (a0::a1::some (.val d)::ρ) 2=.ok d:=rfl
def rd3(a0 a1 a2:Option Sl)(d:D)(ρ:Ev):rdV (a0::a1::a2::some (.val d)::ρ) 3=.ok d:=rfl
def rd4(a0 a1 a2 a3:Option Sl)(d:D)(ρ:Ev):rdV (a0::a1::a2::a3::some (.val d)::ρ) 4=.ok d:=rfl
def rd5(a0 a1 a2 a3 a4:Option Sl)(d:D)(ρ:Ev):rdV (a0::a1::a2::a3::a4::some (.val d)::ρ) 5=.ok d:=rfl
def rd6(a0 a1 a2 a3 a4 a5:Option Sl)(d:D)(ρ:Ev):rdV (a0::a1::a2::a3::a4::a5::some (.val d)::ρ) 6=.ok d:=rfl
section
variable{f:List D->R D}{ga gc gd:Ev->R D}
def KN:aG 1 f (ac ga λ_=>.ok []) ρ=ga ρ>>=λx=>f [x]:=by unfold aG ac;cases ga ρ <;> rfl
def FE:aG 2 f (ac ga (ac gb λ_=>.ok [])) ρ=ga ρ>>=λx=>gb ρ>>=λy=>f [x,y]:=by
 unfold aG ac;cases ga ρ <;> try rfl
 simp only[ac,R.ok_bind];cases gb ρ <;> rfl
def J9:aG 3 f (ac ga (ac gb (ac gc λ_=>.ok []))) ρ=ga ρ>>=λx=>gb ρ>>=λy=>gc ρ>>=λz=>f [x,y,z]:=by
 unfold aG ac;cases ga ρ <;> try rfl
 simp only[ac,R.ok_bind];cases gb ρ <;> try rfl
 simp only[R.ok_bind];cases gc ρ <;> rfl
end
noncomputable def At(N:List Str)(i:Nat)(x:Str):Prop:=N[i]?=some x
def at0{x:Str}{l:List Str}:At (x::l) 0 x:=rfl
def at1{x:Str}{l:List Str}:At (y0::x::l) 1 x:=rfl
def at2{x:Str}{l:List Str}:At (y0::y1::x::l) 2 x:=rfl
def at3{x:Str}{l:List Str}{y2:Str}:At (y0::y1::y2::x::l) 3 x:=rfl
def at4{x:Str}{l:List Str}{y2 y3:Str}:At (y0::y1::y2::y3::x::l) 4 x:=rfl
def at5{x:Str}{l:List Str}{y2 y3 y4:Str}:At (y0::y1::y2::y3::y4::x::l) 5 x:=rfl
def at6{x:Str}{l:List Str}{y2 y3 y4 y5:Str}:At (y0::y1::y2::y3::y4::y5::x::l) 6 x:=rfl
def at7{x:Str}{l:List Str}{y2 y3 y4 y5 y6:Str}:At (y0::y1::y2::y3::y4::y5::y6::x::l) 7 x:=rfl
def at8{x:Str}{l:List Str}{y2 y3 y4 y5 y6 y7:Str}:At (y0::y1::y2::y3::y4::y5::y6::y7::x::l) 8 x:=rfl
section
variable{N:List Str}{x:Str}{pos:Pos}
def ai{w:World}{K:PySem.W.Frag}{mg:Str->Option Value}{base:Heap}{A:Around}{outer:List Env}{E:XK}(h:At N i x)(hv:Vis (gB CX P w K mg base N qual scope f cdv A outer s H E).env.scope x:=by first|exact Or.inl rfl|exact Or.inr (Or.inl rfl)|exact Or.inr (Or.inr rfl))(hd:(x==("__debug__":Str))=false:=by decide)(hcd:(x==("__classdict__":Str))=false:=by decide):PF (gB CX P w K mg base N qual scope f cdv A outer s H E) (.Name x pos) (λρ=>rdV ρ i):=vS i h hv hd hcd
def bx{s₂:Shared}{H₂:Hp}(h:At N i x)(hv:Vis (aO X N scope C s₂ H₂ fp).env.scope x:=by first|exact Or.inl rfl|exact Or.inr (Or.inl rfl)|exact Or.inr (Or.inr rfl))(hd:(x==("__debug__":Str))=false:=by decide)(hcd:(x==("__classdict__":Str))=false:=by decide):PF (aO X N scope C s₂ H₂ fp) (.Name x pos) (λρ=>rdV ρ i):=vS i h hv hd hcd
def cC{w:World}{K:PySem.W.Frag}{mg:Str->Option Value}{base:Heap}{A:Around}{outer:List Env}{E:XK}{e:Expr}{ga:Ev->R D}(h:At N i x)(hN:N.Nodup)(he:PF (gB CX P w K mg base N qual scope f cdv A outer s H E) e ga)(hx:Loc (gB CX P w K mg base N qual scope f cdv A outer s H E).env.scope x:=by first|exact Or.inl rfl|exact Or.inr rfl)(hs:swapsWithSole [.Name x p] e pos.line (gB CX P w K mg base N qual scope f cdv A outer s H E).env=pure false:=by rfl)(hw:swappedStores [.Name x p] e (gB CX P w K mg base N qual scope f cdv A outer s H E).env=pure none:=by rfl)(hf:(gB CX P w K mg base N qual scope f cdv A outer s H E).fn x=true\/(gB CX P w K mg base N qual scope f cdv A outer s H E).env.scope.names.lookup x=some .local:=by first|exact .inl rfl|exact .inr rfl):
  PSF (gB CX P w K mg base N qual scope f cdv A outer s H E) (.Assign [.Name x p] e pos) (eJ i ga):=Ip i hN he h hx hs hw hf
end
def Ky{e:Expr}{ga:Ev->R D}{pos pt:Pos}(he:PF X e ga)(hc:X.calm=true)(h:JW X es is)(hn:(assignEach es X.env).length=is.length:=by rfl)(hst:(assignEach es X.env).findIdx? (·.1)=none:=by rfl)(hs:swapsWithSole [.Tuple es k pt] e pos.line X.env=pure false:=by rfl)(hw:swappedStores [.Tuple es k pt] e X.env=pure none:=by rfl)(h1:(assignEach [.Tuple es k pt] X.env).map (·.2)=[assign (.Tuple es k pt) X.env]:=by rfl):
  PSF X (.Assign [.Tuple es k pt] e pos) (Mx (CP is) ga):=xX he (nY hc h hn hst) hs hw (pJ is) h1
def Gr{ga:Ev->R D}(h:ac ga (λ_=>.ok []) ρ=.ok ds):ds.length<=1:=by
 unfold ac at h;cases e:ga ρ with
 |ok x=>rw[e]at h;cases h;exact zq _
 |ex C=>rw[e]at h;cases h
 |no=>rw[e]at h;cases h
structure Ref(x:Str)(C:Addr)(mg:Str->Option Value)(base:Heap):Prop where
 ex:∃bm B newId initId,OwnCls x C bm newId mg base/\ExcBaseFacts B newId initId bm
def cF{x:Str}{e:Expr}{ga:Ev->R D}{np cp pos:Pos}(r:Ref x C X.mg X.base)(hh:X.A.handled=none)(ha:PF X e ga)(hg:Gl X x:=by rfl)(hdb:(x==("__debug__":Str))=false:=by decide)(hs:starEach [e] X.env=(false,eval e X.env)::starEach [] X.env:=by rfl):
  PSF X (.Raise (some (.Call (.Name x np) [e] [] cp)) none pos) (dA C (ac ga λ_=>.ok [])):=by
 obtain⟨bm,B,newId,initId,Oc,FB⟩:=r.ex;exact zN Oc FB hh hg (aa ha ae hs) hdb hs (λρ ds h=>Gr h)
def Un.but{fs:List Addr}(hs:Heap.SameBut C h h'):Un fs [C] H H h h':=by have ne:∀b,b∉[C]->b≠C:=λb hb z=>hb (by rw[z];exact j8.2 rfl);exact⟨λb o e _ _ hx=>(hs.2 b (ne b hx)).trans e,λb o e _ _ hx=>⟨o.slots,(hs.2 b (ne b hx)).trans e⟩,λ_ _ _ n _=>n,λb o e hx=>⟨o,(hs.2 b (ne b hx)).trans e⟩,λ_ _ e=>e,λ_ _ _ e=>e,λ_ ps e=>⟨#[],by rw[Array.append_empty];exact e⟩⟩
section
variable{elt:Expr}{x:Str}{px pos:Pos}{gt:Ev->R Bool}
def CG(i:Nat){spos:Pos}(hN:X.N.Nodup)(ok:CompOkT X scope n N' ix)(hcalm:X.calm=true)(hg:∀C s₂ H₂ fp,PGF (aO X N' scope C s₂ H₂ fp) tgt asg)(hown:∀d ρ ρ',asg d ρ=.ok ρ'->(NoOwn ρ)->NoOwn ρ')(hi:PIF X tgt iter gi)(he:∀C s₂ H₂ fp,PF (aO X N' scope C s₂ H₂ fp) elt ge)(ht:∀C s₂ H₂ fp,PTs (aO X N' scope C s₂ H₂ fp) ifs gt)(hni:X.N[i]?=some y:=by rfl)(hy:X.env.scope.names.lookup y=some .local:=by rfl)(hs:∀x,foldedSetIterable iter X.env x=pure x:=by intro _;rfl)(hsw:swapsWith (.ListComp elt [⟨tgt,iter,ifs,0⟩] scope pos) (some (.Name y py)) spos.line X.env=pure true:=by rfl){D:Ends}(I:Inv X pins σ H s)(sE:StE X.K G H σ ρ)(hq:(kh n asg gi ix gt ge ρ).post (pT X.K G H λv H1=>D.nx (σ.set i (some v)) H1) (Exx X σ G H)):
  wpAny (model X.prog X.w) X.A (exec (.Assign [.Name y py] (.ListComp elt [⟨tgt,iter,ifs,0⟩] scope pos) spos) X.env) (SP X pins D) X.xe s:=by
 rw[exec_Assign_Name_used _ _ _ _ hsw];refine z9 (qQ (z9 ?_));show wpAny _ X.A (do let _ <- comprehension (.ListComp elt [⟨tgt,iter,ifs,0⟩] scope pos) scope X.env _ (newList []) false (eval iter X.env) (some (assign (.Name y py) X.env))) _ _ s;refine z9 (yc (j1 (use:=some (assign (.Name y py) X.env)) (Q:=λ_ s'=>SP X pins D .next s') rfl hs (eN λz hz hz2=>I.ok.has z.1 (.inl (ok.fr z hz hz2))) ok.kind ok.names ?_) (λ_ s' hq=>zd (zd hq)) λ_ _ e=>e);have t:tG X (λG J items=>ItOk X.K G J items) gi σ H (λJ H1=>∃G1 items,Up G H G1 H1/\StE X.K G1 H1 σ ρ/\ItOk X.K G1 J items/\(iZ asg gt ge items (fh n ix ρ)>>=λds=>if ds.length<=sizeLine then R.ok ds else .no).post (pT X.K G H λv H1=>D.nx (σ.set i (some v)) H1) (Exx X σ G H)):=by
  refine⟨G,ρ,sE,?_⟩;unfold kh at hq;cases e:gi ρ with
  |ok items=>rw[e]at hq;exact λJ G1 H1 u r=>⟨G1,items,u,sE.up u,r,hq⟩
  |ex C=>rw[e]at hq;exact hq
  |no=>rw[e]at hq;exact hq
 refine thn (hi pins s σ H _ I t) λv s1 h1=>thn h1 λitv s2 h2=>?_;obtain⟨it,fp,tn,J,H2,e,I2,T,st2,f2,G2,items,u2,sE2,iok,h2⟩:=h2;subst e;have h2':(iZ asg gt ge items (fh n ix ρ)>>=λds=>if ds.length<=sizeLine then R.ok ds else .no).post (pT X.K G2 H2 λv H1=>D.nx (σ.set i (some v)) H1) (Exx X σ G2 H2):=
  h2.mono (λds q l vs G' H' u hl r=>q l vs G' H' (u2.trans u) hl r) λC q=>q.up u2;refine kD (iter:=iter) (pos:=pos) (RR:=λacc C=>compPost (model X.prog X.w) X.A X.xe (some (assign (.Name y py) X.env)) (λ_ s'=>SP X pins D .next s') acc C) ok hcalm hg hown he ht I2 T st2 f2 sE2 iok h2' ?_;intro Dd C s' m vs G' H' up hd hCD _ q hm hos hb hC hCl un hok;have I3:Inv X pins σ (upd H' Dd (.lst vs)) s':=I2.call' (ch:=fp) hos un hok hb λb hb'=>by
  obtain⟨f0,f1,f2',f3,f4,f5⟩:=f2 b hb';exact⟨f3,f1,f4,f5⟩
 have lc:X.env.locals≠C:=xh (ww I2.lt hCl);have cc:∀z c,X.env.cells.lookup z=some c->c≠C:=λz c e=>by obtain⟨v,q⟩:=I2.cell z c e;exact xh (ww q.lt hCl)
 show wpAny (model X.prog X.w) X.A (assign (.Name y py) X.env (.ref Dd)) _ X.xe s';refine wpAny_assign_Name (lH I3 hN hni (.inl hy) (v:=.ref Dd) rfl (λs'' I4 ⟨a,hsb,ha⟩=>?_) (.inr hy));have na:C≠a:=by
  rcases ha with rfl|ha;·exact lc.symm
  ·exact(cc _ _ ha).symm
 refine⟨m,hm.sameBut hsb na,λh' hs'=>?_⟩;have I5:=I4.call' (s':={ s'' with heap:=h' }) (H':=upd H' Dd (.lst vs)) (ch:=[C]) rfl (Un.but hs') (I4.hok.sameBut (λb o hbc e=>(hs'.2 b hbc).trans e) (by rw[aE hCD];exact hC)) I4.bare λb hb'=>by rw[j8.1 hb'];exact⟨.inr (xk I2.sz hCl),lc.symm,cc,λp hp z=>tH _ (ww (z▸zj (I2.pin p hp).1) hCl)⟩
 exact⟨_,_,I5,q⟩
def EC(i:Nat){spos:Pos}(hN:X.N.Nodup)(ok:CompOkT X scope n N' ix)(hcalm:X.calm=true)(hg:∀C s₂ H₂ fp,PGF (aO X N' scope C s₂ H₂ fp) tgt asg)(hown:∀d ρ ρ',asg d ρ=.ok ρ'->(NoOwn ρ)->NoOwn ρ')(hi:PIF X tgt iter gi)(he:∀C s₂ H₂ fp,PF (aO X N' scope C s₂ H₂ fp) elt ge)(ht:∀C s₂ H₂ fp,PTs (aO X N' scope C s₂ H₂ fp) ifs gt)(hni:X.N[i]?=some y:=by rfl)(hy:X.env.scope.names.lookup y=some .local:=by rfl)(hs:∀x,foldedSetIterable iter X.env x=pure x:=by intro _;rfl)(hsw:swapsWith (.ListComp elt [⟨tgt,iter,ifs,0⟩] scope pos) (some (.Name y py)) spos.line X.env=pure true:=by rfl):
  PSF X (.Assign [.Name y py] (.ListComp elt [⟨tgt,iter,ifs,0⟩] scope pos) spos) (zZ i (kh n asg gi ix gt ge)):=λG₀ H₀ pins s σ H D I h=>by
 obtain⟨G,ρ,sr,h⟩:=h;have h:ka X G₀ H₀ D ((kh n asg gi ix gt ge ρ).out ρ λds=>.nx (ρ.set i (some (.own ds)))):=h;refine CG i hN ok hcalm hg hown hi he ht hni hy hs hsw I sr.e ?_;cases q:kh n asg gi ix gt ge ρ with
 |ok ds=>rw[q]at h;exact λl vs G' H' u hl r=>h _ G' _ ((sr.ups u).setOwn hl r i)
 |ex C=>rw[q]at h;exact Exx.of sr h
 |no=>rw[q]at h;exact h
def uc(i:Nat){spos:Pos}(hN:X.N.Nodup)(ok:CompOk X scope x N' ix)(hcalm:X.calm=true)(hi:PIF X (.Name x px) iter gi)(he:∀C s₂ H₂ fp,PF (aO X N' scope C s₂ H₂ fp) elt ge)(ht:∀C s₂ H₂ fp,PTs (aO X N' scope C s₂ H₂ fp) ifs gt)(hni:X.N[i]?=some y:=by rfl)(hy:X.env.scope.names.lookup y=some .local:=by rfl)(hs:∀x,foldedSetIterable iter X.env x=pure x:=by intro _;rfl)(hsw:swapsWith (.ListComp elt [⟨.Name x px,iter,ifs,0⟩] scope pos) (some (.Name y py)) spos.line X.env=pure true:=by rfl):
  PSF X (.Assign [.Name y py] (.ListComp elt [⟨.Name x px,iter,ifs,0⟩] scope pos) spos) (zZ i (dD gi ix gt ge)):=
 EC (n:=1) (asg:=wb 0) i hN ok.t hcalm (λC s₂ H₂ fp=>fB (X:=aO X N' scope C s₂ H₂ fp) (pos:=px) 0 ok.nd ok.hd (.inl (sT ok.loc)) (.inr (sT ok.loc))) nQ hi he ht hni hy hs hsw
end
noncomputable def Jb(i:Nat)(ga:Ev->R D):Ev->O:=λρ=>(ownAt ρ i).out ρ λds=>(ga ρ).out ρ λd=>(asL d).out ρ λes=>if ds.length+es.length<=sizeLine then .nx (ρ.set i (some (.own (ds++es))))else .no
noncomputable def NM(i:Nat)(ga:Ev->R D):Ev->O:=λρ=>(ownAt ρ i).out ρ λds=>(ga ρ).out ρ λd=>if ds.length<sizeLine then .nx (ρ.set i (some (.own (ds++[d]))))else .no
noncomputable def N9(i j:Nat)(gl:Ev->R (List D)):Ev->O:=λρ=>(gl ρ).out ρ λds=>(qB [i,j] ds ρ).out ρ .nx
section
variable{fV:List Stmt}{e c o:Expr}{g:Ev->O}{ga:Ev->R D}{pos p2:Pos}
def uf(i:Nat){x:Str}{ap cp:Pos}(he:PF X e ga)(hi:X.N[i]?=some x:=by rfl)(hv:Vis X.env.scope x:=by first|exact Or.inl rfl|exact Or.inr (Or.inl rfl))(hd:(x==("__debug__":Str))=false:=by decide)(hcd:(x==("__classdict__":Str))=false:=by decide)(hs1:starEach [e] X.env=(false,eval e X.env)::starEach [] X.env:=by rfl)(hbase:attributeBase (.Name x p) "extend" X.env (eval (.Name x p) X.env)=eval (.Name x p) X.env:=by rfl)(hfew:((backTo cp (starEach [e] X.env)).all (λx=>!x.1) && (backToKw cp (keywordEach [] X.env)).all (λx=>x.1.isSome)
 && decide ([e].length+([]:List Keyword).length+(if ([]:List Keyword).isEmpty then 0 else 1)<30))=true:=by rfl)(hline:(ap.endLine==cp.line)=true:=by rfl)(hs:swapsWith (.Call (.Attribute (.Name x p) "extend" ap) [e] [] cp) none pos.line X.env=pure false:=by rfl):
  PSF X (.Expr (.Call (.Attribute (.Name x p) "extend" ap) [e] [] cp) pos) (Jb i ga):=wL i he hi hv hd hcd hs1 hbase hfew hline hs
def D3(i:Nat){x:Str}{ap cp:Pos}(he:PF X e ga)(hi:X.N[i]?=some x:=by rfl)(hv:Vis X.env.scope x:=by first|exact Or.inl rfl|exact Or.inr (Or.inl rfl))(hd:(x==("__debug__":Str))=false:=by decide)(hcd:(x==("__classdict__":Str))=false:=by decide)(hs1:starEach [e] X.env=(false,eval e X.env)::starEach [] X.env:=by rfl)(hbase:attributeBase (.Name x p) "append" X.env (eval (.Name x p) X.env)=eval (.Name x p) X.env:=by rfl)(hfew:((backTo cp (starEach [e] X.env)).all (λx=>!x.1) && (backToKw cp (keywordEach [] X.env)).all (λx=>x.1.isSome)
 && decide ([e].length+([]:List Keyword).length+(if ([]:List Keyword).isEmpty then 0 else 1)<30))=true:=by rfl)(hline:(ap.endLine==cp.line)=true:=by rfl)(hs:swapsWith (.Call (.Attribute (.Name x p) "append" ap) [e] [] cp) none pos.line X.env=pure false:=by rfl):
  PSF X (.Expr (.Call (.Attribute (.Name x p) "append" ap) [e] [] cp) pos) (NM i ga):=xS i he hi hv hd hcd hs1 hbase hfew hline hs
def Nc(i j:Nat){x:Str}{a b:Expr}{px pt pt2:Pos}{kt k2:Nat}(hc:X.calm=true)(hN:X.N.Nodup)(ha:PFA X [a,b] gl)(hij:i≠j:=by decide)(hi:X.N[i]?=some x:=by rfl)(hj:X.N[j]?=some y:=by rfl)(hx:X.env.scope.names.lookup x=some .local:=by rfl)(hy:X.env.scope.names.lookup y=some .local:=by rfl)(hw:swappedStores [.Tuple [.Name x px,.Name y py] kt pt] (.Tuple [a,b] k2 pt2) X.env=pure (some [x,y]):=by rfl)(hs:swapsWithSole [.Tuple [.Name x px,.Name y py] kt pt] (.Tuple [a,b] k2 pt2) pos.line X.env=pure false:=by rfl):
  PSF X (.Assign [.Tuple [.Name x px,.Name y py] kt pt] (.Tuple [a,b] k2 pt2) pos) (N9 i j gl):=DZ i j hc hN ha hij hi hj hx hy hw hs
def zl{sts:List Stmt}(i:Nat)(h:lR X sts g):lR X sts (zw i g):=A9 i h
def IA{ap cp:Pos}(ho:PF X o ga)(ha:PFA X [e] gl)(hbase:attributeBase o "count" X.env (eval o X.env)=eval o X.env:=by rfl)(hfew:((backTo cp (starEach [e] X.env)).all (λx=>!x.1) && (backToKw cp (keywordEach [] X.env)).all (λx=>x.1.isSome)
 && decide ([e].length+([]:List Keyword).length+(if ([]:List Keyword).isEmpty then 0 else 1)<30))=true:=by rfl)(hline:(ap.endLine==cp.line)=true:=by rfl)(hs:starEach [e] X.env=(false,eval e X.env)::starEach [] X.env:=by rfl):
  PF X (.Call (.Attribute o "count" ap) [e] [] cp) (eS "list" mX ga gl):=Di ho ha hbase hfew hline hs
def HG{ap cp:Pos}(ho:PF X o ga)(ha:PFA X [e] gl)(hbase:attributeBase o "index" X.env (eval o X.env)=eval o X.env:=by rfl)(hfew:((backTo cp (starEach [e] X.env)).all (λx=>!x.1) && (backToKw cp (keywordEach [] X.env)).all (λx=>x.1.isSome)
 && decide ([e].length+([]:List Keyword).length+(if ([]:List Keyword).isEmpty then 0 else 1)<30))=true:=by rfl)(hline:(ap.endLine==cp.line)=true:=by rfl)(hs:starEach [e] X.env=(false,eval e X.env)::starEach [] X.env:=by rfl):
  PF X (.Call (.Attribute o "index" ap) [e] [] cp) (eS "list" mH ga gl):=Eb ho ha hbase hfew hline hs
end
structure Errs(K:PySem.W.Frag)(mg:Str->Option Value)(rs:List Addr)(ts:List (Str×Addr)):Prop where
 na:∀t∈ts,mg t.1=some (.ref t.2)
 ec:∀r∈rs,ExcCls K r
 kit:∀r∈rs,∀t∈ts,PySem.W.kitOne K (.ref r) (.ref t.2)=some (r==t.2)
 ve:∀r∈rs,PySem.W.kitOne K (.ref r) (.type "ValueError")=some true
 le:∃L,mg "LineError"=some (.ref L)/\∀r∈rs,PySem.W.exmOne K (.ref r) (.ref L)=some true
noncomputable def wx(rs:List Addr)(T C:Addr):Option Bool:=if C∈rs then some (C==T)else none
noncomputable def wA(rs:List Addr)(C:Addr):Option Bool:=if C∈rs then some true else none
section
variable{e:Expr}{ga:Ev->R D}{p2 pos:Pos}
def kx{T:Addr}(Er:Errs X.K X.mg rs ts)(hy:(y,T)∈ts)(hm:X.mg "isinstance"=none)(ha:PF X e ga)(hg:Gl X "isinstance":=by rfl)(hg2:Gl X y:=by rfl)(hd:(y==("__debug__":Str))=false:=by decide)(hs1:starEach [e,.Name y p2] X.env=(false,eval e X.env)::starEach [.Name y p2] X.env:=by rfl):PF X (.Call (.Name "isinstance" p) [e,.Name y p2] [] pos) (aB (nr (wx rs T)) ga):=by
 refine Av (v2:=.ref T) (u2:=.ref T) (wx rs T) (λC b h=>?_) hg hm (jV hg2 (Er.na _ hy) rfl hd) rfl (λu h=>h) ha hs1;unfold wx at h;split at h;·rename_i hC;cases h;exact⟨Er.ec _ hC,Er.kit _ hC _ hy⟩
 ·cases h
end
section
variable{e:Expr}{ga:Ev->R D}{p2 pos:Pos}
def Kd(Er:Errs X.K X.mg rs ts)(hm:X.mg "isinstance"=none)(hm2:X.mg "ValueError"=none)(ha:PF X e ga)(hg:Gl X "isinstance":=by rfl)(hg2:Gl X "ValueError":=by rfl)(hs1:starEach [e,.Name "ValueError" p2] X.env=(false,eval e X.env)::starEach [.Name "ValueError" p2] X.env:=by rfl):PF X (.Call (.Name "isinstance" p) [e,.Name "ValueError" p2] [] pos) (aB (nr (wA rs)) ga):=by
 refine Av (v2:=.ty "ValueError") (u2:=.type "ValueError") (wA rs) (λC b h=>?_) hg hm (sg hg2 hm2 rfl rfl) rfl (λu h=>h) ha hs1;unfold wA at h;split at h;·rename_i hC;cases h;exact⟨Er.ec _ hC,Er.ve _ hC⟩
 ·cases h
end
section
variable{w:World}{K:PySem.W.Frag}{mg:Str->Option Value}{base:Heap}{N:List Str}{x:Str}{A:Around}{outer:List Env}{E:XK}{pn:List (Addr×Obj)}{xe:Value->Shared->Prop}{pos:Pos}{e:Expr}{ga:Ev->R D}
def jM(h:At N i x)(hv:Vis (gB CX P w K mg base N qual scope f cdv A outer s H E).env.scope x:=by first|exact Or.inl rfl|exact Or.inr (Or.inl rfl)|exact Or.inr (Or.inr rfl))(hd:(x==("__debug__":Str))=false:=by decide)(hcd:(x==("__classdict__":Str))=false:=by decide):PF (qL (gB CX P w K mg base N qual scope f cdv A outer s H E) pn xe) (.Name x pos) (λρ=>rdV ρ i):=vS i h hv hd hcd
def Ks(h:At N i x)(hv:Vis (gB CX P w K mg base N qual scope f cdv A outer s H E).env.scope x:=by first|exact Or.inl rfl|exact Or.inr (Or.inl rfl)|exact Or.inr (Or.inr rfl))(hd:(x==("__debug__":Str))=false:=by decide)(hcd:(x==("__classdict__":Str))=false:=by decide):PF (oM (gB CX P w K mg base N qual scope f cdv A outer s H E) a xe) (.Name x pos) (λρ=>rdV ρ i):=vS i h hv hd hcd
def AS(h:At N i x)(hN:N.Nodup)(he:PF (qL (gB CX P w K mg base N qual scope f cdv A outer s H E) pn xe) e ga)(hx:Loc (gB CX P w K mg base N qual scope f cdv A outer s H E).env.scope x:=by first|exact Or.inl rfl|exact Or.inr rfl)(hs:swapsWithSole [.Name x p] e pos.line (gB CX P w K mg base N qual scope f cdv A outer s H E).env=pure false:=by rfl)(hw:swappedStores [.Name x p] e (gB CX P w K mg base N qual scope f cdv A outer s H E).env=pure none:=by rfl)(hf:(gB CX P w K mg base N qual scope f cdv A outer s H E).fn x=true\/(gB CX P w K mg base N qual scope f cdv A outer s H E).env.scope.names.lookup x=some .local:=by first|exact .inl rfl|exact .inr rfl):
  PSF (qL (gB CX P w K mg base N qual scope f cdv A outer s H E) pn xe) (.Assign [.Name x p] e pos) (eJ i ga):=Ip i hN he h hx hs hw hf
def LD(h:At N i x)(hN:N.Nodup)(he:PF (oM (gB CX P w K mg base N qual scope f cdv A outer s H E) a xe) e ga)(hx:Loc (gB CX P w K mg base N qual scope f cdv A outer s H E).env.scope x:=by first|exact Or.inl rfl|exact Or.inr rfl)(hs:swapsWithSole [.Name x p] e pos.line (gB CX P w K mg base N qual scope f cdv A outer s H E).env=pure false:=by rfl)(hw:swappedStores [.Name x p] e (gB CX P w K mg base N qual scope f cdv A outer s H E).env=pure none:=by rfl)(hf:(gB CX P w K mg base N qual scope f cdv A outer s H E).fn x=true\/(gB CX P w K mg base N qual scope f cdv A outer s H E).env.scope.names.lookup x=some .local:=by first|exact .inl rfl|exact .inr rfl):
  PSF (oM (gB CX P w K mg base N qual scope f cdv A outer s H E) a xe) (.Assign [.Name x p] e pos) (eJ i ga):=Ip i hN he h hx hs hw hf
end
section
variable{suite:List Stmt}{b₀:Stmt}{gb gs:Ev->O}{pos hp tp:Pos}{nm:Str}
def ML(i:Nat)(Er:Errs X.K X.mg rs ts)(hN:X.N.Nodup)(hcalm:X.calm=true)(hst:X.stack=X.env::X.outer)(hfr:X.env.frame=some X.env.locals)(hkd:X.env.scope.kind=.function)(hb:∀pn xe,lR (qL X pn xe) body gb)(hh:∀a xe,lR (oM X a xe) (b₀::suite) gs)(hg:Gl X "LineError":=by rfl)(hi:X.N[i]?=some nm:=by rfl)(hx:X.env.scope.names.lookup nm=some .local:=by rfl):
  PSF X (.Try body [.ExceptHandler (some (.Name "LineError" tp)) (some nm) (b₀::suite) hp] [] [] pos) (FN gb gs (wA rs) i):=by
 obtain⟨L,hL,hk⟩:=Er.le;refine Fm i (wA rs) hN hcalm hst hfr hkd hb hh (λC h=>?_) hg hL hi hx;unfold wA at h;split at h;·rename_i hC;exact hk C hC
 ·cases h
end
noncomputable def fl:Nat->D->Bool
 | 0,_=>false
 |n+1,.tup xs=>xs.all (fl n)
 |_+1,.lst _ _=>false
 |_+1,.exc _=>false
 |_+1,.dct _ _=>false
 |_+1,_=>true
theorem AI{K:PySem.W.Frag}{G G2:Hp}{n:Nat}(ih:∀v d,fl n d=true->Rep K G v d->Rep K G2 v d):∀{vs:List V}{ds:List D},ds.all (fl n)=true->Reps K G vs ds->Reps K G2 vs ds
 |_,_,_,.nil=>.nil
 |_,_,h,.cons r t=>by rw[List.all_cons,sH]at h;exact .cons (ih _ _ h.1 r) (AI ih h.2 t)
theorem Cm{K:PySem.W.Frag}{G G2:Hp}(h:∀a o,G a=some o->(∀vs,o≠HO.lst vs)->G2 a=some o):∀(n:Nat)(v:V)(d:D),fl n d=true->Rep K G v d->Rep K G2 v d
 | 0,_,_,hf,_=>by simp[fl]at hf
 |n+1,v,d,hf,r=>by
  cases r with
  |non=>exact .non
  |bl b=>exact .bl b
  |int i=>exact .int i
  |str x hx=>exact .str x hx
  |tup hs t=>
   refine .tup ?_ (AI (λv d=>Cm h n v d) hf t);rcases hs with (q|⟨o,q⟩)|q;·exact .inl (.inl (h _ _ q λvs z=>by cases z))
   ·exact .inl (.inr ⟨o,h _ _ q λvs z=>by cases z⟩)
   ·exact .inr q
  |lst hs t=>simp[fl]at hf
  |fls hs t=>simp[fl]at hf
  |exc hs=>simp[fl]at hf
  |dct _ _ _=>simp[fl]at hf
def StR.peek{K:PySem.W.Frag}{H₀:Hp}(s:StR K G₀ H₀ G H σ ρ)(i:Nat):∃G1,StE K G1 H σ (L2.frz i ρ)/\
  ∀G' H',Up G1 H G' H'->∃G2,Up G H G2 H'/\∀a o,G' a=some o->(∀vs,o≠HO.lst vs)->G2 a=some o:=by
 obtain⟨G1,sr,e|⟨l,vs,hl,e⟩⟩:=s.frzTo i;·subst e;exact⟨G1,sr.e,λG' H' u=>⟨G',u,λa o q _=>q⟩⟩
 ·subst e;refine⟨_,sr.e,λG' H' u=>⟨λa=>if a=l then none else G' a,⟨λa o q=>?_,λa o q=>?_,u.hh,λa o q=>?_⟩,λa o q hq=>?_⟩⟩
  ·have q:(if a=l then none else G' a)=some o:=q;split at q;·cases q
   ·exact u.sub a o q
  ·have ne:a≠l:=λz=>by subst z;rw[hl]at q;cases q
   show(if a=l then none else G' a)=some o;rw[if_neg ne];exact u.gg a o (by rw[aE ne];exact q)
  ·have q:(if a=l then none else G' a)=some o:=q;split at q;·cases q
   ·rename_i ne;rcases u.fr a o q with z|z;·rw[aE ne]at z;exact .inl z
    ·exact .inr z
  ·have ne:a≠l:=λz=>by subst z;have:=u.gg a _ aV;rw[q]at this;cases this;exact hq vs rfl
   show(if a=l then none else G' a)=some o;rw[if_neg ne];exact q
section
variable{fV a b:List Stmt}{e c:Expr}{g g1 g2:Ev->O}{ga:Ev->R D}{gt:Ev->R Bool}{pos:Pos}
noncomputable def MQ(i:Nat)(gt:Ev->R Bool)(g1 g2:Ev->O):Ev->O:=λρ=>(fq (gt (frz i ρ))).out ρ λk=>if k=true then g1 ρ else g2 ρ
def Oo(i:Nat)(hc:PB X c gt)(ha:lR X a g1)(hb:lR X b g2):PSF X (.If c a b pos) (MQ i gt g1 g2):=λG₀ H₀ pins s σ H D I h=>by
 refine Lx hc (ha G₀ H₀) (hb G₀ H₀) pins s σ H D I ?_;obtain⟨G,ρ,sr,h⟩:=h;have h:ka X G₀ H₀ D ((fq (gt (frz i ρ))).out ρ λk=>if k=true then g1 ρ else g2 ρ):=h;obtain⟨G1,st1,pk⟩:=sr.peek i;refine⟨G1,_,st1,?_⟩;cases q:gt (frz i ρ)with
 |ok k=>
  rw[q]at h;intro b' G' H' u r;subst r;obtain⟨G2,u2,_⟩:=pk G' H' u;cases b' with
  |true=>rw[if_pos rfl];exact⟨G2,ρ,sr.ups u2,by simpa[R.out,fq]using h⟩
  |false=>rw[if_neg xR];exact⟨G2,ρ,sr.ups u2,by simpa[R.out,fq]using h⟩
 |_=>rw[q]at h;exact h.elim
noncomputable def HR(j i:Nat)(ga:Ev->R D):Ev->O:=λρ=>(fq (ga (frz j ρ))).out ρ λd=>if fl 10 d=true then .nx (ρ.set i (some (.val d)))else .no
def JL(j i:Nat){x:Str}(hN:X.N.Nodup)(he:PF X e ga)(hi:X.N[i]?=some x:=by rfl)(hx:Loc X.env.scope x:=by first|exact Or.inl rfl|exact Or.inr rfl)(hs:swapsWithSole [.Name x p] e pos.line X.env=pure false:=by rfl)(hw:swappedStores [.Name x p] e X.env=pure none:=by rfl)(hf:X.fn x=true\/X.env.scope.names.lookup x=some .local:=by first|exact .inl rfl|exact .inr rfl):
  PSF X (.Assign [.Name x p] e pos) (HR j i ga):=λG₀ H₀ pins s σ H D I h=>by
 refine rQ he (mj (i:=i) hN hi hx hf) hs hw rfl pins s σ H D I ?_;obtain⟨G,ρ,sr,h⟩:=h;have h:ka X G₀ H₀ D ((fq (ga (frz j ρ))).out ρ λd=>if fl 10 d=true then .nx (ρ.set i (some (.val d)))else .no):=h;obtain⟨G1,st1,pk⟩:=sr.peek j;refine⟨G1,_,st1,?_⟩;cases q:ga (frz j ρ)with
 |ok d=>
  rw[q]at h;intro v G' H' u r;obtain⟨G2,u2,tr⟩:=pk G' H' u;have h:ka X G₀ H₀ D (if fl 10 d=true then .nx (ρ.set i (some (.val d)))else .no):=h;by_cases hfl:fl 10 d=true;·rw[if_pos hfl]at h;exact h _ G2 _ ((sr.ups u2).set (Cm tr 10 v d hfl r) i)
  ·rw[if_neg hfl]at h;exact h.elim
 |_=>rw[q]at h;exact h.elim
noncomputable def Nd(j i:Nat)(ga:Ev->R D):Ev->O:=λρ=>(ownAt ρ i).out ρ λds=>(fq (ga (frz j ρ))).out ρ λd=>if ds.length<sizeLine/\fl 10 d=true then .nx (ρ.set i (some (.own (ds++[d]))))else .no
noncomputable def GD(i:Nat)(gk ga:Ev->R D):Ev->O:=λρ=>(ownAt ρ i).out ρ λds=>(fq (ga (frz i ρ))).out ρ λd=>(fq (gk (frz i ρ)>>=asI)).out ρ λk=>match ixN ds.length k with
 |some n=>if fl 10 d=true then .nx (ρ.set i (some (.own (ds.set n d))))else .no
 |none=>.no
def JB(i:Nat){x:Str}{tp:Pos}{ix:Expr}(he:PF X e ga)(hk:PF X ix gk)(hi:X.N[i]?=some x:=by rfl)(hv:Vis X.env.scope x:=by first|exact Or.inl rfl|exact Or.inr (Or.inl rfl))(hd:(x==("__debug__":Str))=false:=by decide)(hcd:(x==("__classdict__":Str))=false:=by decide)(hs:swapsWithSole [.Subscript (.Name x p) ix tp] e pos.line X.env=pure false:=by rfl)(hw:swappedStores [.Subscript (.Name x p) ix tp] e X.env=pure none:=by rfl)(h1':(assignEach [.Subscript (.Name x p) ix tp] X.env).map (·.2)=[assign (.Subscript (.Name x p) ix tp) X.env]:=by rfl)(ha:∀v,assign (.Subscript (.Name x p) ix tp) X.env v=(do
 let ov <- holding [v] (eval (.Name x p) X.env);let iv <- holding [v,ov] (eval ix X.env)
 standAt tp
 holding [v,ov,iv] (setItem ov iv v)
 release [v,ov,iv] []):=by intro _;rfl):
  PSF X (.Assign [.Subscript (.Name x p) ix tp] e pos) (GD i gk ga):=λG₀ H₀ pins s σ H D I h=>by
 refine rQ he (FG (iK hi hv hd hcd) hk yg ha) hs hw h1' pins s σ H D I ?_;obtain⟨G,ρ,sr,h⟩:=h;have h:ka X G₀ H₀ D ((ownAt ρ i).out ρ λds=>(fq (ga (frz i ρ))).out ρ λd=>(fq (gk (frz i ρ)>>=asI)).out ρ λk=>match ixN ds.length k with
  |some n=>if fl 10 d=true then .nx (ρ.set i (some (.own (ds.set n d))))else .no
  |none=>.no):=h;obtain⟨ds,e1,h⟩:=ownAt.ok h;obtain⟨l,vs,h1,h2,h3,h4,h5⟩:=sr.own i ds e1;obtain⟨G1,st1,pk⟩:=sr.peek i;refine⟨G1,_,st1,?_⟩;cases q:ga (frz i ρ)with
 |ok d=>
  rw[q]at h;intro v G' H' u r;have h:ka X G₀ H₀ D ((fq (gk (frz i ρ)>>=asI)).out ρ λk=>match ixN ds.length k with
   |some n=>if fl 10 d=true then .nx (ρ.set i (some (.own (ds.set n d))))else .no
   |none=>.no):=h;show O2 _ _ _ v σ H' _;refine⟨.ref l,h1,G',_,st1.up u,?_⟩;cases q2:gk (frz i ρ)with
  |ok kd=>
   rw[q2]at h;intro kv G'' H'' u' rk;cases rk with
   |int k=>
    have h:ka X G₀ H₀ D (match ixN ds.length k with
     |some n=>if fl 10 d=true then .nx (ρ.set i (some (.own (ds.set n d))))else .no
     |none=>.no):=h;obtain⟨G2,u2,tr⟩:=pk G'' H'' (u.trans u');cases q3:ixN ds.length k with
    |none=>rw[q3]at h;exact h.elim
    |some n=>
     rw[q3]at h;have h:ka X G₀ H₀ D (if fl 10 d=true then .nx (ρ.set i (some (.own (ds.set n d))))else .no):=h;by_cases hz:fl 10 d=true;·rw[if_pos hz]at h;refine⟨l,vs,k,n,rfl,rfl,(u.trans u').hh _ _ h2,by rw[h5.length];exact q3,h _ G2 _ ?_⟩;exact(sr.ups u2).mut e1 h1 (.set (Cm tr 10 v d hz (r.mono u'.gg)) n (h5.mono u2.gg))
     ·rw[if_neg hz]at h;exact h.elim
   |_=>exact h.elim
  |_=>rw[q2]at h;exact h.elim
 |_=>rw[q]at h;exact h.elim
noncomputable def QA:D->R (List D)
 |.lst _ xs=>.ok xs
 |.tup xs=>.ok xs
 |_=>.no
noncomputable def MD:List D->R (List D)
 | [d]=>QA d
 |_=>.no
noncomputable def NS(gl:Ev->R (List D)):Ev->R (List D):=λρ=>gl ρ>>=MD
def A1{a b:Expr}(hg:Gl X "range")(hm:X.mg "range"=none)(ha:PFA X [a,b] gl)(hs:starEach [a,b] X.env=[(false,eval a X.env),(false,eval b X.env)]:=by rfl)(hs2:starEach [b] X.env=[(false,eval b X.env)]:=by rfl):PIF X tg (.Call (.Name "range" p) [a,b] [] pos) (aB sx gl):=zg hg hm ha hs hs2
end
end L2
namespace L2
open PySem PySem.Spec PyProof.Rows PySem.W
section
variable{A:Around}{Q:Value->Shared->Prop}
def HB{x:V}{u:Value}{T:String}{b:Bool}{tp:Addr}{cs:List Value}(I:Inv X pins σ H s)(sub:Same G H)(r:Rep X.K G x d)(ru:RelV x u)(ht:tyN d=some T)(htp:IsTup s.heap tp cs.toArray)(e:kitAny X.K (.type T) cs=some b)(h:∀tk,Q (.bool b) { s with toks:=tk }):
  wpAny (model X.prog X.w) A (call (.builtin "isinstance") [u,.ref tp]) Q E s:=by
 obtain⟨⟨cls,dd,data,sl⟩,ho,hc,n,hd⟩:=htp;simp only at hc hd;subst hc hd;cases r with
 |non=>cases ht;cases ru;exact kia_tup kitx_none I.kIn True.intro ho e (λz=>nomatch z) h
 |bl y=>cases ht;cases ru;exact kia_tup kitx_bool I.kIn True.intro ho e (λz=>nomatch z) h
 |int i=>cases ht;obtain⟨t,rfl⟩:=ru;exact kia_tup kitx_int I.kIn True.intro ho e (λz=>nomatch z) h
 |str y hy=>cases ht;obtain⟨t,rfl⟩:=ru;exact kia_tup kitx_str I.kIn True.intro ho e (λz=>nomatch z) h
 |tup hh t=>cases ht;cases ru;obtain⟨its,rv,⟨o,h1,h2,_⟩,_⟩:=I.tuple (hh.mono sub);exact kia_tup kitx_tuple I.kIn ⟨o,h1,h2⟩ ho e (λz=>nomatch z) h
 |lst hh t=>cases ht;cases ru;obtain⟨its,rv,⟨o,n,h1,h2,_⟩,_⟩:=I.list ((SqL.of hh:SqL X.K G _ _).mono sub);exact kia_tup kitx_list I.kIn ⟨o,h1,h2⟩ ho e (λz=>nomatch z) h
 |fls hh t=>cases ht;cases ru;obtain⟨its,rv,⟨o,n,h1,h2,_⟩,_⟩:=I.list (hh.mono sub);exact kia_tup kitx_list I.kIn ⟨o,h1,h2⟩ ho e (λz=>nomatch z) h
 |exc hh=>cases ht
 |dct _ _ _=>cases ht
end
noncomputable def GU(t:String):Bool:=t=="list" || t=="tuple"
def JQ(K:Frag):∀t∈["NoneType","bool","int","str","tuple","list"],kitAny K (.type t) [.type "list",.type "tuple"]=some (GU t):=by intro t ht;simp only[y9,xu,xv]at ht;rcases ht with rfl|rfl|rfl|rfl|rfl|rfl <;> rfl
section
variable{e:Expr}{ga:Ev->R D}{p2 p3 p4 pos:Pos}
def K5(hm:X.mg "isinstance"=none)(ha:PF X e ga)(hm2:X.mg "list"=none)(hm3:X.mg "tuple"=none)(hg2:Gl X "list":=by rfl)(hg3:Gl X "tuple":=by rfl)(hg:Gl X "isinstance":=by rfl)(hs1:starEach [e,.Tuple [.Name "list" p2,.Name "tuple" p3] k p4] X.env=(false,eval e X.env)::starEach [.Tuple [.Name "list" p2,.Name "tuple" p3] k p4] X.env:=by rfl)(hs2:starEach [.Tuple [.Name "list" p2,.Name "tuple" p3] k p4] X.env=(false,eval (.Tuple [.Name "list" p2,.Name "tuple" p3] k p4) X.env)::starEach [] X.env:=by rfl):
  PF X (.Call (.Name "isinstance" p) [e,.Tuple [.Name "list" p2,.Name "tuple" p3] k p4] [] pos) (aB (ko GU) ga):=by
 intro pins s σ H Q I h;have hc:kz X (.builtin "isinstance") (λxs H Q=>∃x G d tp,xs=[x,.ref tp]/\Same G H/\Rep X.K G x d/\H tp=some (.tup [.ty "list",.ty "tuple"])/\∃t,tyN d=some t/\Q (.bl (GU t)) H):=by
  intro pins s σ H xs us Q I r ⟨x,G,d,tp,ex,sub,rd,htp,t,et,q⟩;subst ex;obtain⟨u,u2,rfl,r1,r2⟩:=r.two;cases r2;obtain⟨its,rv,it,_⟩:=I.tuple (xs:=[.ty "list",.ty "tuple"]) (.of htp);obtain⟨c1,c2,rfl,q1,q2⟩:=rv.two;cases q1;cases q2;refine HB I sub rd r1 et it (JQ X.K t ?_) λtk=>⟨.bl (GU t),H,I.tok tk,rfl,q⟩
  cases d <;> cases et <;> simp
 refine kL hc hg hm PyProof.Rows.Boot.«isinstance» (dQ ha (dQ (Ge (dQ (sg (v:=.ty "list") hg2 hm2 PyProof.Rows.Boot.«list» rfl (by decide) (by decide)) (dQ (sg (v:=.ty "tuple") hg3 hm3 PyProof.Rows.Boot.«tuple» rfl (by decide) (by decide)) jE rfl) rfl)) jE hs2) hs1) (by decide) (by decide) hs1 rfl pins s σ H Q I ?_;obtain⟨G,ρ,st,h⟩:=h;refine tG.intro st h λx v G1 H1 u1 st1 r1 h1=>?_;refine⟨by show 2<=sizeLine;decide,λtp htp=>?_⟩;have sub:Same G1 (upd H1 tp (.tup [.ty "list",.ty "tuple"])):=λa o q=>by rw[aE (aJ (st1.sub a o q) htp)];exact st1.sub a o q
 refine⟨v,G1,x,tp,rfl,sub,r1,aV,?_⟩;unfold ko at h1;cases et:tyN x with
 |none=>rw[et]at h1;exact h1.elim
 |some t=>rw[et]at h1;exact⟨t,rfl,h1 _ G1 _ ⟨sub,.refl _,.into htp,λ_ _ z=>.inl z⟩ (.bl _)⟩
end
noncomputable def yX:List D->Option (List (List Nat))
 | []=>some []
 |.str x::ds=>(yX ds).map (x::·)
 |_=>none
noncomputable def pX(sep:List Nat):List (List Nat)->List Nat
 | []=>[]
 | [x]=>x
 |x::y::r=>x++sep++pX sep (y::r)
noncomputable def yZ:D->List D->Option D
 |.str s,[.lst _ ds]=>match yX ds with
  |some xs=>if (xs.map List.length).sum+xs.length * s.length<=sizeLine then some (.str (pX s xs))else none
  |none=>none
 |_,_=>none
theorem Reps.strs{K:PySem.W.Frag}:∀{vs:List V}{ds:List D}{xs:List (List Nat)},Reps K G vs ds->yX ds=some xs->∃ys:List Str,vs=ys.map V.str/\ys.map (λy=>y.cps.toList)=xs
 |_,_,_,.nil,h=>by cases h;exact⟨[],rfl,rfl⟩
 |_,_,xs,.cons (d:=d) r t,h=>by
  cases d <;> first|(cases h;done)|skip
  rename_i x;rename_i ds';cases q:yX ds' with
  |none=>simp[yX,q]at h
  |some zs=>simp[yX,q]at h;obtain⟨ys,e1,e2⟩:=Reps.strs t q;obtain⟨y,rfl,ey,_⟩:=r.str_inv;exact⟨y::ys,by rw[e1];rfl,by rw[ub,e2,ey];exact h⟩
theorem Vals.strs:∀{ys:List Str}{us:List Value},Vals (ys.map V.str) us->StrsAre us ys
 | [],_,h=>by cases h;exact .nil
 |y::ys,_,h=>by
  cases h with
  |cons a b=>obtain⟨t,rfl⟩:=a;exact .cons y t (Vals.strs b)
def nh(s:Str):∀ys:List Str,(Txt.join s ys).cps.toList=pX s.cps.toList (ys.map λy=>y.cps.toList):=by
 intro ys;show(Builtin.Str.glued s ys).cps.toList=_;rw[StrLaws.glued_eq_join];induction ys with
 |nil=>rfl
 |cons y r ih=>
  cases r with
  |nil=>rfl
  |cons z r=>show(y++s++Str.join s (z::r)).cps.toList=_;rw[Str.app_list,Str.app_list,ih];rfl
theorem mM(s:List Nat):∀xs:List (List Nat),(pX s xs).length<=(xs.map List.length).sum+xs.length * s.length
 | []=>by simp[pX]
 | [x]=>by simp[pX]
 |x::y::r=>by have:=mM s (y::r);simp only[pX,uC,ub,j9,w8,Nat.succ_mul]at this⊢;omega
noncomputable def Ku(K:PySem.W.Frag):V->List V->Hp->VK->Prop:=λx vs H Q=>∃(y:Str)(p:Addr)(ys:List Str),x=.str y/\vs=[.ref p]/\SqL K H p (ys.map V.str)/\(ys.map (·.length)).sum+ys.length * y.length<=16777216/\Q (.str (Txt.join y ys)) H
def GJ:MtR X "str.join" (Ku X.K):=by intro pins s σ H x xs v us Q I rx rv ⟨y,p,ys,ex,exs,hl,hz,q⟩;subst ex exs;obtain⟨t,rfl⟩:=rx;obtain⟨u,rfl,r1⟩:=rv.one;cases r1;obtain⟨its,rvs,pl,_⟩:=I.list hl;exact join_list pl.isList (Vals.strs (by simpa using rvs)) hz λt' k=>⟨.str _,H,I.tok _,⟨_,rfl⟩,q⟩
def GY(K:PySem.W.Frag):Bs K "str" (Ku K) yZ:=by
 intro G H x xs dx ds d Q s rx rs e q;unfold yZ at e;split at e
 ·split at e
  ·rename_i zs hz;split at e
   ·rename_i hle;cases e;obtain⟨v,rfl,r1⟩:=rs.one;obtain⟨y,rfl,ey,hy⟩:=rx.str_inv;obtain⟨a,vs,rfl,hs,rr⟩:=r1.seq_inv;obtain⟨ys,e1,e2⟩:=rr.strs hz;subst e1;subst e2;subst ey;have hle':(ys.map (·.length)).sum+ys.length * y.length<=16777216:=by
     have e3:(ys.map λy=>y.cps.toList).map List.length=ys.map (·.length):=by rw[jb];exact eQ λz _=>Str.len_list z
     rw[e3,wU,Str.len_list]at hle;exact hle
    refine⟨y,a,ys,rfl,rfl,hs.mono s,hle',q _ G H (.refl s) (.strL (nh y ys) ?_)⟩;exact xk (mM _ _) hle
   ·cases e
  ·cases e
 ·cases e
def Be{o e:Expr}{ga:Ev->R D}{ap cp:Pos}(ho:PF X o ga)(ha:PFA X [e] gl)(hbase:attributeBase o "join" X.env (eval o X.env)=eval o X.env:=by rfl)(hfew:((backTo cp (starEach [e] X.env)).all (λx=>!x.1) && (backToKw cp (keywordEach [] X.env)).all (λx=>x.1.isSome)
 && decide ([e].length+([]:List Keyword).length+(if ([]:List Keyword).isEmpty then 0 else 1)<30))=true:=by rfl)(hline:(ap.endLine==cp.line)=true:=by rfl)(hs:starEach [e] X.env=(false,eval e X.env)::starEach [] X.env:=by rfl):
  PF X (.Call (.Attribute o "join" ap) [e] [] cp) (eS "str" yZ ga gl):=iu qi PySem.F.slot_str_join PySem.F.type_str_join GJ (GY _) ho ha hbase hfew hline hs rfl
noncomputable def qH:List D->Option (List Int)
 | []=>some []
 |.int i::ds=>(qH ds).map (i::·)
 |_=>none
noncomputable def ME:List D->Option D
 | [.lst _ ds]=>match qH ds with
  |some (n::ns)=>some (.int (ns.foldl max n))
  |_=>none
 |_=>none
theorem Reps.nums{K:PySem.W.Frag}:∀{vs:List V}{ds:List D}{ns:List Int},Reps K G vs ds->qH ds=some ns->vs=ns.map V.int
 |_,_,_,.nil,h=>by cases h;rfl
 |_,_,ns,.cons (d:=d) r t,h=>by
  cases d <;> first|(cases h;done)|skip
  rename_i x;rename_i ds';cases q:qH ds' with
  |none=>simp[qH,q]at h
  |some zs=>simp[qH,q]at h;subst h;rw[Reps.nums t q,r.int_inv];rfl
theorem Vals.nums:∀{ns:List Int}{us:List Value},Vals (ns.map V.int) us->us.length=ns.length/\∀(i:Nat) u,us[i]?=some u->∃t,u=.int (ns.getD i 0) t
 | [],_,h=>by cases h;exact⟨rfl,λi u e=>by simp at e⟩
 |n::ns,_,h=>by
  cases h with
  |cons a b=>
   obtain⟨t,rfl⟩:=a;obtain⟨hl,hg⟩:=Vals.nums b;refine⟨by simp[hl],λi u e=>?_⟩;cases i with
   |zero=>simp at e;exact⟨t,e.symm⟩
   |succ i=>simp at e;simpa using hg i u e
theorem mV:∀(ns:List Int)(n:Int),n<=ns.foldl max n/\(∀a∈ns,a<=ns.foldl max n)/\(ns.foldl max n=n\/ns.foldl max n∈ns)
 | [],n=>⟨by simp,by simp,by simp⟩
 |m::ns,n=>by
  obtain⟨h1,h2,h3⟩:=mV ns (max n m);refine⟨?_,?_,?_⟩;·simp only[n9];omega
  ·intro a ha;simp only[n9];rcases y9.1 ha with rfl|ha;·omega
   ·exact h2 a ha
  ·simp only[n9];rcases h3 with h3|h3
   ·rw[h3];rcases Int.le_total n m with q|q;·rw[Int.max_eq_right q];exact .inr (v8 ..)
    ·rw[Int.max_eq_left q];exact .inl rfl
   ·exact .inr (wB _ h3)
def E4{ns:List Int}{n a:Int}(h:a∈n::ns):∃j,j<(n::ns).length/\(n::ns).getD j 0=a:=by obtain⟨j,hj,e⟩:=List.mem_iff_getElem.1 h;exact⟨j,hj,by rw[v4,vB hj];exact e⟩
def Dx{ns:List Int}{n:Int}(h:j<(n::ns).length):(n::ns).getD j 0∈n::ns:=by rw[v4,vB h];exact List.getElem_mem h
section
def Ai(hc:X.calm=true):kz X (.builtin "max") (λxs H Q=>∃p n ns,xs=[.ref p]/\SqL X.K H p ((n::ns).map V.int)/\Q (.int (ns.foldl max n)) H):=by
 intro pins s σ H xs us Q I r ⟨p,n,ns,ex,hs,q⟩;subst ex;obtain⟨u,rfl,r1⟩:=r.one;cases r1;obtain⟨its,rv,pl,hz⟩:=I.list hs;obtain⟨hlen,hget⟩:=Vals.nums rv;have hh:X.A.in1.handled=none:=I.ok.hd hc;have hlt:p<s.heap.objs.size:=by obtain⟨o,n,e,_⟩:=id pl;exact zj e
 refine call_max_walk (k9 pl.isList ?_);refine⟨s.heap.objs.size,[s.heap.objs.size,p],[s.heap.objs.size],_,_,_,_,rfl,Walks.list hh s.heap.objs.size p (xh hlt) its.toArray,⟨⟨_,xj _ rfl,rfl,rfl⟩,?_⟩,?_,?_,CmpOf.ints_gt (λi=>(n::ns).getD i 0) (λi v hv=>hget i v (by simpa using hv)),λv h' tk hP hk=>?_⟩;·obtain⟨o,n,e,c,_,d⟩:=id pl;exact⟨o,zL _ e,c,n,d⟩
 ·intro b hb;have e:(s.heap.push { cls:=.type "list_iterator",data:=.fields #[.ref p,.int 0 0] }).objs.size=s.heap.objs.size+1:=wG _ _;show b<(s.heap.push { cls:=.type "list_iterator",data:=.fields #[.ref p,.int 0 0] }).objs.size;rw[e];simp only[y9,xu,xv]at hb;rcases hb with rfl|rfl;·exact rZ _
  ·exact md hlt
 ·rw[x9,hlen];simp
 ·have hP':its.toArray[argBest (λi j=>decide ((n::ns).getD i 0 > (n::ns).getD j 0)) (its.toArray.size - 1)]?=some v:=hP;rw[List.getElem?_toArray]at hP';obtain⟨t,rfl⟩:=hget _ v hP';have e1:its.toArray.size - 1=ns.length:=by rw[x9,hlen];simp
  obtain⟨a1,a2⟩:=argBest_gt (λi=>(n::ns).getD i 0) ns.length;have e2:(n::ns).getD (argBest (λi j=>decide ((n::ns).getD i 0 > (n::ns).getD j 0)) ns.length) 0=ns.foldl max n:=by
   obtain⟨m1,m2,m3⟩:=mV ns n;refine Int.le_antisymm ?_ ?_
   ·have:=Dx (ns:=ns) (n:=n) (j:=argBest (λi j=>decide ((n::ns).getD i 0 > (n::ns).getD j 0)) ns.length) (by rw[w8];exact Nat.lt_succ_of_le a1);rcases y9.1 this with q|q;·rw[q];exact m1
    ·exact m2 _ q
   ·obtain⟨j,hj,e⟩:=E4 (ns:=ns) (n:=n) (a:=ns.foldl max n) (by
     rcases m3 with q|q;·rw[q];exact v8 ..
     ·exact wB _ q);rw[<- e];exact a2 j (by simp at hj;omega)
  rw[e1,e2];refine⟨.int _,H,I.kept (t':=tk) λb o eb=>hk b o (λz=>?_) (zL _ eb),⟨_,rfl⟩,q⟩;have:b=s.heap.objs.size:=by simpa using z
  exact tH _ (this▸zj eb)
def GP(K:PySem.W.Frag):IV K (λxs H Q=>∃p n ns,xs=[.ref p]/\SqL K H p ((n::ns).map V.int)/\Q (.int (ns.foldl max n)) H) ME:=by
 intro G H xs ds d Q s r e q;unfold ME at e;split at e
 ·split at e;·rename_i n ns hn;cases e;obtain⟨v,rfl,r1⟩:=r.one;obtain⟨a,vs,rfl,hs,rr⟩:=r1.seq_inv;obtain rfl:=rr.nums hn;exact⟨a,n,ns,rfl,hs.mono s,q _ G H (.refl s) (.int _)⟩
  ·cases e
 ·cases e
def Jp{e:Expr}{pos:Pos}(hc:X.calm=true)(hg:Gl X "max")(hm:X.mg "max"=none)(ha:PFA X [e] gl)(he:starEach [e] X.env=(false,eval e X.env)::starEach [] X.env:=by rfl):
  PF X (.Call (.Name "max" p) [e] [] pos) (gOf ME gl):=kN (Ai hc) (GP _) hg hm PyProof.Rows.Boot.«max» ha (by decide) (by decide) he rfl
def rY{e:Expr}{ga:Ev->R D}{p2 pos:Pos}(hm:X.mg "isinstance"=none)(ha:PF X e ga)(hm2:X.mg "list"=none)(hg2:Gl X "list":=by rfl)(hg:Gl X "isinstance":=by rfl)(hs1:starEach [e,.Name "list" p2] X.env=(false,eval e X.env)::starEach [.Name "list" p2] X.env:=by rfl):PF X (.Call (.Name "isinstance" p) [e,.Name "list" p2] [] pos) (aB (ko (·=="list")) ga):=Cy hm ha hm2 hg2 hg hs1
end
end L2
namespace L2
open PySem PySem.Spec PyProof.Rows
open Sem (wp)
open AutoSeq1 (wpAny_loadPart')
def Ka:isSubtype (.type "enumerate") (.type "enumerate")=pure true:=PySem.sub_enumerate
def IZ(l:Addr)(its:Array Value)(n:Nat)(dct:Option Addr)(sl:Array (Option Value)):
  Meets (Builtin.«enumerate.__new__» ⟨[.type "enumerate",.ref l],[]⟩) (λ_ Rr s=>s.heap.get? l=some { cls:=.type "tuple",dict:=dct,data:=.seq its n,slots:=sl }/\
   Rr (.ok (.ret (.ref (s.heap.push { cls:=.type "tuple_iterator",data:=.fields #[.ref l,.int 0 0] }).objs.size)))
    { s with heap:=(s.heap.push { cls:=.type "tuple_iterator",data:=.fields #[.ref l,.int 0 0] }).push { cls:=.type "enumerate",data:=.fields #[.none,.bool false,.ref s.heap.objs.size,rawInt 0,.none,.none] } }):=
 .of_wp λprog w A Rr s h=>by
  obtain⟨hp,g,d,tk,os⟩:=s;obtain⟨hl,h⟩:=h;have hsub:=Ka;have hT:Heap.IsTuple (Shared.heap ⟨hp,g,d,tk,os⟩) l its:=⟨_,hl,rfl,n,rfl⟩
  wp_walk using b9 hl
  refine wpAny_stack_any λst=>zd ?_;split;·rename_i c _ _ _ _ _;cases (c==Value.type "enumerate") <;> (wp_walk using b9 hl,kG hT;exact⟨_,rfl,h⟩)
  ·wp_walk using b9 hl,kG hT
   exact⟨_,rfl,h⟩
section
variable{prog:Program}{w:World}{A:Around}
def Hr{itT:String}{c:Int}{Q:Value->Shared->Prop}(h:∀h',IsEnum h' (s.heap.objs.size+1) s.heap.objs.size c .none->h'.get? s.heap.objs.size=some { cls:=.type itT,data:=.fields #[.ref l,.int 0 0] }->h'.objs.size=s.heap.objs.size+2->
 (∀b o,s.heap.get? b=some o->h'.get? b=some o)->Q (.ref (s.heap.objs.size+1)) { s with heap:=h' }):
  wants (λobj s₁=>s₁.TypeIs obj "enumerate"/\Q obj s₁) E (.ok (.ret (.ref (s.heap.push { cls:=.type itT,data:=.fields #[.ref l,.int 0 0] }).objs.size)))
   { s with heap:=(s.heap.push { cls:=.type itT,data:=.fields #[.ref l,.int 0 0] }).push { cls:=.type "enumerate",data:=.fields #[.none,.bool false,.ref s.heap.objs.size,rawInt c,.none,.none] } }:=by
 have hz:(s.heap.push { cls:=.type itT,data:=.fields #[.ref l,.int 0 0] }).objs.size=s.heap.objs.size+1:=wG ..;have he:IsEnum ((s.heap.push { cls:=.type itT,data:=.fields #[.ref l,.int 0 0] }).push { cls:=.type "enumerate",data:=.fields #[.none,.bool false,.ref s.heap.objs.size,rawInt c,.none,.none] }) (s.heap.objs.size+1) s.heap.objs.size c .none:=by have q:=xj (s.heap.push { cls:=.type itT,data:=.fields #[.ref l,.int 0 0] }) (o:={ cls:=.type "enumerate",data:=.fields #[.none,.bool false,.ref s.heap.objs.size,rawInt c,.none,.none] }) rfl;rw[hz]at q;exact q
 show _/\_;rw[hz];exact⟨⟨_,he,rfl⟩,h _ he (zL _ (xj _ rfl)) (by rw[wG,hz]) λb o x=>zL _ (zL _ x)⟩
theorem Du{its:Array Value}{dct:Option Addr}{sl:Array (Option Value)}{Q:Value->Shared->Prop}(hl:s.heap.get? l=some { cls:=.type "tuple",dict:=dct,data:=.seq its n,slots:=sl })(h:∀h',IsEnum h' (s.heap.objs.size+1) s.heap.objs.size 0 .none->h'.get? s.heap.objs.size=some { cls:=.type "tuple_iterator",data:=.fields #[.ref l,.int 0 0] }->h'.objs.size=s.heap.objs.size+2->
 (∀b o,s.heap.get? b=some o->h'.get? b=some o)->Q (.ref (s.heap.objs.size+1)) { s with heap:=h' }):
  wpAny (model prog w) A (call (.type "enumerate") [.ref l]) Q E s:=
 callType_new F.called_enumerate (by decide) (F.typeCall_enumerate_1 _) (F.newCall_enumerate_1 _) (λobj=>F.args_object_init_2 obj _) F.entry_enumerate_new (IZ l its n dct sl) ⟨hl,Hr h⟩
def He{t:Addr}{its:Array Value}{x:Value}{Q:Value->Shared->Prop}(hit:s.heap.IsTupleIter it t i)(ht:s.heap.IsTuple t its)(hx:its[i]?=some x)(hQ:∀h',h'.IsTupleIter it t (i+1)->Heap.SameBut it s.heap h'->Q x { s with heap:=h' }):wpAny (model prog w) A (Builtin.SmallTypes.nextOf (.ref it)) Q E s:=by
 obtain⟨ob,h1,h2,h3⟩:=id hit;obtain⟨ot,k1,_,m,k2⟩:=ht;unfold Builtin.SmallTypes.nextOf;refine z9 (sk (name:=Str.ofString "__next__") hit.typeIs qm (sv qm hit.typeIs jt ?_ (i4 _)));refine z9 (m:=field (.ref it) 0) (w9 h1 h3 (x:=.ref t) rfl ?_);show wpAny _ _ (if (Value.ref t==Value.none)=true then _ else _) _ _ s;rw[if_neg (by exact xR)];refine z9 (m:=field (.ref it) 1) (w9 h1 h3 (x:=.int i 0) rfl (z9 (m:=seqItems? (.ref t)) (tD k1 k2 ?_)));simp only[uH,hx];refine z9 (mP h1 h3 (by simp) (zd ⟨x,rfl,zd (hQ _ ⟨_,n0 _ h1 (bY (pb h3 _)),(Obj.cls_mapFields ..).trans h2,?_⟩ (l5 ..))⟩));rw[pb h3];simp[rawInt]
def FY{t:Addr}{its:Array Value}{Q:Value->Shared->Prop}(hh:A.handled=none)(hit:s.heap.IsTupleIter it t i)(ht:s.heap.IsTuple t its)(hx:its[i]?=none)(hE:∀h' e,Heap.ExtBut it s.heap h'->(∃o,h'.get? e=some o/\o.cls=.type "StopIteration")->E (.ref e) { s with heap:=h' }):wpAny (model prog w) A (Builtin.SmallTypes.nextOf (.ref it)) Q E s:=by
 obtain⟨ob,h1,h2,h3⟩:=id hit;obtain⟨ot,k1,_,m,k2⟩:=ht;unfold Builtin.SmallTypes.nextOf;refine z9 (sk (name:=Str.ofString "__next__") hit.typeIs qm (sv qm hit.typeIs jt ?_ (i4 _)));refine z9 (m:=field (.ref it) 0) (w9 h1 h3 (x:=.ref t) rfl ?_);show wpAny _ _ (if (Value.ref t==Value.none)=true then _ else _) _ _ s;rw[if_neg (by exact xR)];refine z9 (m:=field (.ref it) 1) (w9 h1 h3 (x:=.int i 0) rfl (z9 (m:=seqItems? (.ref t)) (tD k1 k2 ?_)));simp only[uH,hx];refine z9 (qu (z9 (mP h1 h3 (by simp) (z9 (m:=newExc (.type "StopIteration") []) ?_))));simp only[newExc,newTuple];refine z9 (u6 (z9 (m:=firstArgMember _ _) (j6 (a:=Value.none) (by first|rfl|(simp only[firstArgMember];rfl)) (u6 ?_ (by size_fits)))) (by size_fits));simp only[raiseNew];refine z9 (wpAny_handled ?_)
 first|rw[show A.in1.handled=none from hh]|rw[hh]
 exact z9 (zd (wpAny_throw (hE _ _ (((l5 ..).extBut.push _).push _) ⟨_,xj _ rfl,rfl⟩)))
end
def Kw{prog:Program}{w:World}{A:Around}(hh:A.handled=none)(it l:Addr)(hne:l≠it)(its:Array Value)(c:Nat):
  Draws prog w A it [it,l] (c+its.size) (λi v=>∃k,i=c+k/\its[k]?=some v) (λi h=>∃k,i=c+k/\h.IsTupleIter it l k/\h.IsTuple l its) where
 live:=λ_ _ ⟨_,_,st,_⟩=>let⟨o,ho,_⟩:=st;⟨o,ho⟩
 frame:=λ_ _ _ ⟨k,e,st,t⟩ hk=>⟨k,e,st.at λo e=>hk it (by simp) o e,let⟨o,ho,r⟩:=t;⟨o,hk l (by simp) o ho,r⟩⟩
 item:=λi s Q E hi ⟨k,e,st,t⟩ hQ=>by
  have hk:k<its.size:=by omega
  refine He st t (x:=its[k]) (by simp[hk]) λh' st' sb=>hQ _ h' s.toks ⟨k,e,by simp[hk]⟩ ⟨k+1,by omega,st',?_⟩ sb;obtain⟨o,ho,r⟩:=t;exact⟨o,(sb.2 l hne).trans ho,r⟩
 done:=λs Q E ⟨k,e,st,t⟩ hE=>FY hh st t (Array.getElem?_eq_none (by omega)) hE
def Ko{prog:Program}{w:World}{A:Around}(hh:A.handled=none)(it l:Addr)(hne:l≠it)(its:Array Value)(c:Nat):
  Draws prog w A it [it,l] (c+its.size) (λi v=>∃k,i=c+k/\its[k]?=some v) (λi h=>∃k,i=c+k/\h.IsListIter it l k/\h.IsList l its) where
 live:=λ_ _ ⟨_,_,st,_⟩=>let⟨o,ho,_⟩:=st;⟨o,ho⟩
 frame:=λ_ _ _ ⟨k,e,st,t⟩ hk=>⟨k,e,st.at λo e=>hk it (by simp) o e,t.at λo e=>hk l (by simp) o e⟩
 item:=λi s Q E hi ⟨k,e,st,t⟩ hQ=>by
  have hk:k<its.size:=by omega
  exact wpAny_nextOf_list_item st t (x:=its[k]) (by simp[hk]) λh' st' sb=>hQ _ h' s.toks ⟨k,e,by simp[hk]⟩ ⟨k+1,by omega,st',t.extBut sb.extBut hne⟩ sb
 done:=λs Q E ⟨k,e,st,t⟩ hE=>aT hh st t (Array.getElem?_eq_none (by omega)) hE
def Inv.turned2{σ:List (Option V)}{t':Nat}{e:Addr}(I:Inv X pins σ H s)(k:∀b o,b≠it->b≠e->s.heap.get? b=some o->h'.get? b=some o)(f1:qq X pins H it)(f2:qq X pins H e):
  Inv X pins σ H { s with heap:=h',toks:=t' }:=by
 obtain⟨a0,a1,a2,a3,a4,a5⟩:=f1;obtain⟨b0,b1,b2,b3,b4,b5⟩:=f2;have n1:∀b u,H b=some u->b≠it:=λb u q z=>by rw[z,a0]at q;cases q
 have n2:∀b u,H b=some u->b≠e:=λb u q z=>by rw[z,b0]at q;cases q
 have kk:∀b o,b∉[it,e]->s.heap.get? b=some o->h'.get? b=some o:=λb o hb q=>k b o (λz=>hb (by simp[z])) (λz=>hb (by simp[z])) q;refine I.step (g':=s.gens) (d':=s.drawn) (ch:=[it,e]) (λb hb=>?_) (λb o _ _ hc q _=>kk b o hc q) (λb o _ _ hc q _=>⟨o.slots,kk b o hc q⟩) (λ_ _ _ _ n=>n) (λb o hc q=>⟨o,kk b o hc q⟩) (λ_ _ q=>q) (λ_ _ _ q=>q) (λb ps q=>⟨#[],by rw[q];simp⟩) (λm hm=>?_) (λb u q=>?_) I.bare
 ·simp only[y9,xu,xv]at hb;rcases hb with rfl|rfl;·exact⟨a3,a1,a4,a5⟩
  ·exact⟨b3,b1,b4,b5⟩
 ·obtain⟨o,es,ep,ho,r⟩:=hm;exact⟨o,es,ep,k _ o (yR a1) (yR b1) ho,r⟩
 ·refine(I.hok b u q).stay (λc v hc q'=>k c v ?_ ?_ q') (λ_ q'=>q') λ_ _ q'=>q'
  ·rcases hc with z|z;·rw[z];exact n1 b u q
   ·exact n1 c _ z
  ·rcases hc with z|z;·rw[z];exact n2 b u q
   ·exact n2 c _ z
noncomputable def Ite(sq:Hp->List V->Prop)(c:Nat):It:=⟨λi H=>∃xs x,sq H xs/\xs[i]?=some x,
 λi H v H'=>∃p x,v=.ref p/\H p=none/\H'=upd H p (.tup [.int ((c+i:Nat):Int),x])/\∀xs,sq H xs->xs[i]?=some x,λi H=>∃xs,sq H xs/\xs.length<=i⟩
section
variable{w:World}{K:PySem.W.Frag}{elts:List Expr}{kt:Nat}{tp:Pos}
structure Inner(P:Program)(w:World)(K:PySem.W.Frag)(sq:Hp->List V->Prop)(a it:Addr)(iter:Nat->Heap->Prop):Prop where
 obj:∀i h,iter i h->∃o,h.get? it=some o/\∀v,o.data≠.cell v
 at_:∀i h h',iter i h->(∀o,h.get? it=some o->h'.get? it=some o)->iter i h'
 inj:∀(X:Cx),X.K=K->∀(pins:List (Addr×Obj))(σ:St)(H:Hp)(s:Shared) xs ys,Inv X pins σ H s->sq H xs->sq H ys->xs=ys
 dr:∀(X:Cx),X.prog=P->X.w=w->X.K=K->X.calm=true->∀(pins:List (Addr×Obj))(σ:St)(H:Hp)(s:Shared)(xs:List V)(c:Nat),Inv X pins σ H s->sq H xs->(∀i,iter i s.heap->a≠it)->
  ∃its:List Value,Vals xs its/\xs.length<=sizeLine/\∃(Pd:Nat->Value->Prop)(St:Nat->Heap->Prop),Draws P w X.A.in1 it [it,a] (c+its.length) Pd St/\(∀k v,Pd (c+k) v->its[k]?=some v)/\
   (∀k h,iter k h->(∀o,s.heap.get? a=some o->h.get? a=some o)->a≠it->St (c+k) h)/\∀k h,St (c+k) h->iter k h
 fin:∀(X:Cx),X.prog=P->X.w=w->X.K=K->X.calm=true->∀(pins:List (Addr×Obj))(σ:St)(H:Hp)(s:Shared)(xs:List V)(i:Nat)(Q:Value->Shared->Prop)(E:Value->Shared->Prop),Inv X pins σ H s->sq H xs->xs.length<=i->iter i s.heap->
  (∀h' x,Heap.ExtBut it s.heap h'->(∃o,h'.get? x=some o/\o.cls=.type "StopIteration")->E (.ref x) { s with heap:=h' })->wpAny (model P w) X.A.in1 (Builtin.SmallTypes.nextOf (.ref it)) Q E s
def pQ{b:Addr}{ob o:Obj}(hb:b<h.objs.size)(q:(h.push ob).get? b=some o):h.get? b=some o:=by unfold Heap.get? Heap.push at *;simpa[Array.getElem?_push,xh hb]using q
theorem K2{prog:Program}{A:Around}{e:Addr}{c:Int}{old:Value}{Q:Option Value->Shared->Prop}(he:IsEnum s.heap e it c old)(hn:∀(Q':Value->Shared->Prop)(E':Value->Shared->Prop),(∀h' x,Heap.ExtBut it s.heap h'->(∃o,h'.get? x=some o/\o.cls=.type "StopIteration")->E' (.ref x) { s with heap:=h' })->wpAny (model prog w) A.in1 (Builtin.SmallTypes.nextOf (.ref it)) Q' E' s)(hQ:∀h',Heap.ExtBut it s.heap h'->Q none { s with heap:=h' }):wpAny (model prog w) A (pyNext (.ref e)) Q E s:=by
 have ht:s.TypeIs (.ref e) "enumerate":=⟨_,he,rfl⟩
 unfold pyNext;refine z9 (p8 (sk (name:=Str.ofString "__next__") ht F.slot_enumerate_next (sv F.slot_enumerate_next ht F.entry_enumerate_next ?_ (F.args_enumerate_next_1 _))));refine z9 (m:=field (.ref e) 2) (w9 he rfl (x:=.ref it) rfl (z9 (hn _ _ λh' x hb hx=>?_)));obtain⟨o,ho,hc⟩:=hx;exact z9 (wpAny_isInstance (T:="StopIteration") (b:=true) ⟨o,ho,hc⟩ isSubtype_stop (zd (hQ _ hb)))
def Aq{e:Addr}{iter:Nat->Heap->Prop}(N:Inner P w K sq a it iter)(c:Nat)(hei:e≠it)(hea:e≠a)(hai:a≠it):
  Turn P w K (.Tuple elts kt tp) (Ite sq c) [e,it] e (λi h=>(∃old,IsEnum h e it ((c+i:Nat):Int) old)/\iter i h) where
 mem:=by simp
 obj:=λi h st b hb=>by
  simp only[y9,xu,xv]at hb;rcases hb with rfl|rfl
  ·obtain⟨old,q⟩:=st.1;exact⟨_,q,λv z=>by cases z⟩
  ·exact N.obj i h st.2
 keep:=λi h h' st k=>⟨st.1.imp λold q=>k e (by simp) _ q,N.at_ i h h' st.2 λo q=>k it (by simp) o q⟩
 item:=by
  intro X hP hw hK hc i pins s σ H E I hf st hg;obtain⟨xs,x,hq,hx⟩:=hg;obtain⟨⟨old,he⟩,hi⟩:=st;obtain⟨its,rv,hz,Pd,St,Dr,p1,p2,p3⟩:=N.dr X hP hw hK hc pins σ H s xs c I hq λ_ _=>hai;obtain⟨u,hu,ru⟩:=rv.get hx;have hil:i<its.length:=(wK.mp hu).1;have fe:=hf e (by simp);have fi:=hf it (by simp);subst hP hw;refine wpAny_pyNext_enum_itemD Dr he (p2 i _ hi (λ_ q=>q) hai) (by omega) hei (by simp only[y9,xu,xv,not_or];exact⟨hei,hea⟩) λy h1 tk hy ho hs1 ht hsz hk=>?_;have ey:y=u:=by have q:=p1 i y hy;rw[hu]at q;exact(xf q).symm
  subst ey;refine⟨_,rfl,wpAny_letOwnedTupleGo_enum ho λh2 he2 sb=>?_⟩;have helt:e<s.heap.objs.size:=zj he;have hpe:s.heap.objs.size≠e:=sf helt;obtain⟨oi,hoi,_⟩:=N.obj i _ hi;have hpi:s.heap.objs.size≠it:=sf (zj hoi);have hp:H s.heap.objs.size=none:=I.hok.fresh (zq _);have Ia:Inv X pins σ (upd H s.heap.objs.size (.tup [.int ((c+i:Nat):Int),x])) { s with heap:=s.heap.push { cls:=.type "tuple",data:=.seq #[.int ((c+i:Nat):Int) tk,y] } }:=by refine I.laid (t':=s.toks) (λb o q=>zL _ q) (zq _) ?_;exact⟨by show 2<=sizeLine;decide,[.int ((c+i:Nat):Int) tk,y],.cons ⟨tk,rfl⟩ (.cons ru .nil),tO _ _⟩
  have fe':qq X pins (upd H s.heap.objs.size (.tup [.int ((c+i:Nat):Int),x])) e:=⟨by rw[aE (yR hpe)];exact fe.1,fe.2⟩
  have fi':qq X pins (upd H s.heap.objs.size (.tup [.int ((c+i:Nat):Int),x])) it:=⟨by rw[aE (yR hpi)];exact fi.1,fi.2⟩
  have ht2:h2.get? s.heap.objs.size=some { cls:=.type "tuple",data:=.seq #[.int ((c+i:Nat):Int) tk,y] }:=(sb.2 _ hpe).trans ht;have Ib:Inv X pins σ (upd H s.heap.objs.size (.tup [.int ((c+i:Nat):Int),x])) { s with heap:=h2,toks:=tk+1 }:=by
   refine Ia.turned2 (t':=tk+1) (λb o n1 n2 q=>?_) fi' fe';by_cases z:b=s.heap.objs.size;·subst z;have q':=xj s.heap (o:={ cls:=.type "tuple",data:=.seq #[.int ((c+i:Nat):Int) tk,y] }) rfl;have q:(s.heap.push { cls:=.type "tuple",data:=.seq #[.int ((c+i:Nat):Int) tk,y] }).get? s.heap.objs.size=some o:=q;rw[q']at q;rw[ht2];exact q
   ·have q:(s.heap.push { cls:=.type "tuple",data:=.seq #[.int ((c+i:Nat):Int) tk,y] }).get? b=some o:=q;have q2:s.heap.get? b=some o:=by
     rcases Nat.lt_or_ge b s.heap.objs.size with hb|hb;·exact pQ hb q
     ·have hlt:b<(s.heap.push { cls:=.type "tuple",data:=.seq #[.int ((c+i:Nat):Int) tk,y] }).objs.size:=zj q;rw[wG]at hlt;exact absurd (Z0 (Z1 hlt) hb) z
    exact(sb.2 b n2).trans (hk b o n2 n1 q2)
  refine⟨.ref s.heap.objs.size,_,Ib,rfl,⟨_,x,rfl,hp,rfl,λys hy'=>by rw[N.inj X hK pins σ H s ys xs I hy' hq];exact hx⟩,⟨⟨y,by have q:=he2;rw[show((c+(i+1):Nat):Int)=((c+i:Nat):Int)+1 by omega];exact q⟩,?_⟩,λb hb=>?_⟩;·refine N.at_ (i+1) h1 h2 (p3 (i+1) h1 hs1) λo q=>(sb.2 it (yR hei)).trans q
  ·simp only[y9,xu,xv]at hb;rcases hb with rfl|rfl;·exact fe'.1
   ·exact fi'.1
 done:=by intro X hP hw hK hc i pins s σ H E I hf st hg;obtain⟨xs,hq,hx⟩:=hg;obtain⟨⟨old,he⟩,hi⟩:=st;have fi:=hf it (by simp);have fin:=N.fin X hP hw hK hc pins σ H s xs i;subst hP hw;exact K2 he (λQ' E' hE=>fin Q' E' I hq hx hi hE) λh' hb=>⟨rfl,I.turned (t':=s.toks) (λb o n q=>hb b o n q) fi.1 fi.2.1 fi.2.2.2.1 fi.2.2.2.2.1 fi.2.2.2.2.2⟩
 self:=λA i s Q E st h=>by obtain⟨⟨old,he⟩,_⟩:=st;exact i5 he h
def BL(a it:Addr):Inner P w K (λH xs=>SqT K H a xs) a it (λi h=>h.IsTupleIter it a i) where
 obj:=λi h st=>let⟨o,q,c,d⟩:=st;⟨o,q,λv z=>by rw[d]at z;cases z⟩
 at_:=λi h h' st k=>st.at k
 inj:=λX hK pins σ H s xs ys I h1 h2=>by subst hK;exact I.tuple_inj h1 h2
 dr:=λX hP hw hK hc pins σ H s xs c I hq hne=>by
  subst hP hw hK;obtain⟨its,rv,p,hz⟩:=I.tuple hq;have hh:X.A.in1.handled=none:=I.ok.hd hc;by_cases hai:a=it;·exact⟨its,rv,hz,λ_ _=>False,λ_ _=>False,⟨λ_ _ z=>z.elim,λ_ _ _ z _=>z,λ_ _ _ _ _ z _=>z.elim,λ_ _ _ z _=>z.elim⟩,λ_ _ z=>z.elim,λ_ _ _ _ z=>absurd hai z,λ_ _ z=>z.elim⟩
  ·have Dq:=Kw (prog:=X.prog) (w:=X.w) hh it a hai its.toArray c;rw[x9]at Dq;refine⟨its,rv,hz,λi v=>∃k,i=c+k/\its.toArray[k]?=some v,λi h=>∃k,i=c+k/\h.IsTupleIter it a k/\h.IsTuple a its.toArray,Dq,λk v q=>?_,λk h st kp _=>⟨k,rfl,st,?_⟩,λk h q=>?_⟩
   ·obtain⟨k',e,q⟩:=q;have:k=k':=by omega
    subst this;simpa using q
   ·obtain⟨o,ho,r⟩:=p;exact⟨o,kp o ho,r⟩
   ·obtain⟨k',e,st,_⟩:=q;have:k=k':=by omega
    subst this;exact st
 fin:=λX hP hw hK hc pins σ H s xs i Q E I hq hx st hE=>by subst hP hw hK;obtain⟨its,rv,p,hz⟩:=I.tuple hq;have hl:=rv.length;exact FY (I.ok.hd hc) st (show s.heap.IsTuple a its.toArray from p) (by simp;omega) hE
def vK(a it:Addr):Inner P w K (λH xs=>SqL K H a xs) a it (λi h=>h.IsListIter it a i) where
 obj:=λi h st=>let⟨o,q,c,d⟩:=st;⟨o,q,λv z=>by rw[d]at z;cases z⟩
 at_:=λi h h' st k=>st.at k
 inj:=λX hK pins σ H s xs ys I h1 h2=>by subst hK;exact I.list_inj h1 h2
 dr:=λX hP hw hK hc pins σ H s xs c I hq hne=>by
  subst hP hw hK;obtain⟨its,rv,p,hz⟩:=I.list hq;have hh:X.A.in1.handled=none:=I.ok.hd hc;by_cases hai:a=it;·exact⟨its,rv,hz,λ_ _=>False,λ_ _=>False,⟨λ_ _ z=>z.elim,λ_ _ _ z _=>z,λ_ _ _ _ _ z _=>z.elim,λ_ _ _ z _=>z.elim⟩,λ_ _ z=>z.elim,λ_ _ _ _ z=>absurd hai z,λ_ _ z=>z.elim⟩
  ·have Dq:=Ko (prog:=X.prog) (w:=X.w) hh it a hai its.toArray c;rw[x9]at Dq;refine⟨its,rv,hz,λi v=>∃k,i=c+k/\its.toArray[k]?=some v,λi h=>∃k,i=c+k/\h.IsListIter it a k/\h.IsList a its.toArray,Dq,λk v q=>?_,λk h st kp _=>⟨k,rfl,st,?_⟩,λk h q=>?_⟩
   ·obtain⟨k',e,q⟩:=q;have:k=k':=by omega
    subst this;simpa using q
   ·obtain⟨o,ho,r⟩:=p.isList;exact⟨o,kp o ho,r⟩
   ·obtain⟨k',e,st,_⟩:=q;have:k=k':=by omega
    subst this;exact st
 fin:=λX hP hw hK hc pins σ H s xs i Q E I hq hx st hE=>by subst hP hw hK;obtain⟨its,rv,p,hz⟩:=I.list hq;have hl:=rv.length;exact aT (I.ok.hd hc) st p.isList (by simp;omega) hE
end
end L2
namespace L2
open PySem PySem.Spec PyProof.Rows
noncomputable def numbered(c:Nat)(xs:List D):List D:=(List.range xs.length).map λi=>.tup [.int ((c+i:Nat):Int),xs.getD i .non]
def vY{xs:List D}(h:(numbered c xs)[i]?=some d):∃x,xs[i]?=some x/\d=.tup [.int ((c+i:Nat):Int),x]:=by
 unfold numbered at h;rw[wZ]at h;by_cases hi:i<xs.length
 ·rw[d3 hi]at h;refine⟨xs[i],vB hi,?_⟩;have e:xs.getD i .non=xs[i]:=by rw[v4,vB hi];rfl
  rw[<- e];exact(xf h).symm
 ·rw[d4 (by simp;omega)]at h;cases h
def oU(c:Nat)(xs:List D):(numbered c xs).length=xs.length:=by simp[numbered]
def ItOk.enum{K:PySem.W.Frag}(hs:∀G1 H1,Same G G1->Same G1 H1->sq H1 vs)(r:Reps K G vs ds):ItOk K G (Ite sq c) (numbered c ds):=by intro i G1 H1 s1 s2;refine⟨λd e=>?_,λhl=>⟨vs,hs G1 H1 s1 s2,by rw[oU]at hl;rw[r.length];exact hl⟩⟩;obtain⟨dx,ex,rfl⟩:=vY e;obtain⟨v,ev,rv⟩:=r.get ex;refine⟨⟨vs,v,hs G1 H1 s1 s2,ev⟩,λx H' y=>?_⟩;obtain⟨p,x',rfl,hp,rfl,y⟩:=y;have z:=y vs (hs G1 H1 s1 s2);rw[ev]at z;cases z;refine⟨upd G1 p (.tup [.int ((c+i:Nat):Int),v]),.new s2 hp,.tup (.of aV) (.cons (.int _) (.cons ((rv.mono s1).mono (.into (s2.free hp))) .nil))⟩
section
variable{elts:List Expr}{kt:Nat}{tp:Pos}{Rr:It->Hp->Prop}
def ua{iter:Nat->Heap->Prop}(I:Inv X pins σ H s)(N:Inner X.prog X.w X.K sq l (s.heap.objs.size) iter)(hl:l<s.heap.objs.size)(he:IsEnum h' (s.heap.objs.size+1) s.heap.objs.size (c:Int) .none)(hi:iter 0 h')(hk:∀b o,s.heap.get? b=some o->h'.get? b=some o)(q:Rr (Ite sq c) H):PIE X pins σ (.Tuple elts kt tp) Rr (.ref (s.heap.objs.size+1)) { s with heap:=h' }:=by
 have hlt:s.heap.objs.size<=s.heap.objs.size+1:=ma _;refine⟨_,_,_,_,H,rfl,I.kept (t':=s.toks) hk,Aq N c (sf (rZ _)) (sf (md hl)) (xh hl),⟨⟨_,he⟩,hi⟩,λb hb=>?_,q⟩;simp only[y9,xu,xv]at hb;rcases hb with rfl|rfl;·exact I.fpOk hlt (I.hok.fresh hlt)
 ·exact I.fpOk (zq _) (I.hok.fresh (zq _))
def SqT.lt'(I:Inv X pins σ H s)(h:SqT X.K H a xs):a<s.heap.objs.size:=by obtain⟨its,rv,⟨o,q,_⟩,_⟩:=I.tuple h;exact zj q
def SqL.lt'(I:Inv X pins σ H s)(h:SqL X.K H a xs):a<s.heap.objs.size:=by obtain⟨its,rv,p,_⟩:=I.list h;obtain⟨o,q,_⟩:=p.isList;exact zj q
end
noncomputable def BT:D->R (List D)
 |.lst _ xs=>.ok (numbered 0 xs)
 |.tup xs=>.ok (numbered 0 xs)
 |_=>.no
noncomputable def Gd:D->D->R (List D)
 |.tup xs,.int c=>if 0<=c/\c<1073741824 then .ok (numbered c.toNat xs)else .no
 |_,_=>.no
section
variable{a b:Expr}{ga:Ev->R D}{elts:List Expr}{kt:Nat}{pos tp kp:Pos}
def HA(hg:Gl X "enumerate")(hm:X.mg "enumerate"=none)(ha:PF X a ga)(hs:starEach [a] X.env=(false,eval a X.env)::starEach [] X.env:=by rfl):
  PIF X (.Tuple elts kt tp) (.Call (.Name "enumerate" p) [a] [] pos) (aB BT ga):=by
 intro pins s σ H Rr I h;obtain⟨G,ρ,st,h⟩:=h;have ta:zY (tF X ga) MK σ H (λvs H1=>∃v,vs=[v]/\∃G1 d,Up G H G1 H1/\Rep X.K G1 v d/\Same G1 H1/\(BT d).post (Fin G1 H1 (λG J items=>ItOk X.K G J items) Rr) (Exx X σ G1 H1)):=
  tG.intro st h λd v G1 H1 u1 st1 r1 h1=>⟨v,rfl,G1,d,u1,r1,st1.sub,h1⟩
 refine Call_ (mJ I hg hm PyProof.Rows.Boot.«enumerate» (Z2 (thn ((dQ ha jE hs) pos pins s σ H _ I ta) λus s1 ⟨vs,H1,I1,r1,q1⟩=>?_) hs rfl));obtain⟨v,hv,G1,d,u1,rd,sub,h1⟩:∃v,vs=[v]/\∃G1 d,Up G H G1 H1/\Rep X.K G1 v d/\Same G1 H1/\(BT d).post (Fin G1 H1 (λG J items=>ItOk X.K G J items) Rr) (Exx X σ G1 H1):=q1;subst hv;obtain⟨u,rfl,rv⟩:=r1.one;cases rd with
 |lst hq t=>cases rv;have hq':SqL X.K G1 _ _:=.of hq;obtain⟨its,rvs,p,hz⟩:=I1.list (hq'.mono sub);exact call_enumerate_list p.isList λh' he hi hsz hk=>i5 he (ua (c:=0) I1 (vK _ _) (SqL.lt' I1 (hq'.mono sub)) he hi hk (h1 _ G1 H1 (.refl sub) (ItOk.enum (λG2 H2 s1 s2=>(hq'.mono s1).mono s2) t)))
 |fls hq t=>cases rv;obtain⟨its,rvs,p,hz⟩:=I1.list (hq.mono sub);exact call_enumerate_list p.isList λh' he hi hsz hk=>i5 he (ua (c:=0) I1 (vK _ _) (SqL.lt' I1 (hq.mono sub)) he hi hk (h1 _ G1 H1 (.refl sub) (ItOk.enum (λG2 H2 s1 s2=>(hq.mono s1).mono s2) t)))
 |tup hq t=>cases rv;obtain⟨its,rvs,⟨⟨cls,dd,data,sl⟩,ho,hc,n,hd⟩,hz⟩:=I1.tuple (hq.mono sub);simp only at hc hd;subst hc hd;exact Du ho λh' he hi hsz hk=>i5 he (ua (c:=0) I1 (BL _ _) (SqT.lt' I1 (hq.mono sub)) he ⟨_,hi,rfl,rfl⟩ hk (h1 _ G1 H1 (.refl sub) (ItOk.enum (λG2 H2 s1 s2=>(hq.mono s1).mono s2) t)))
 |_=>exact h1.elim
noncomputable def Lq(ga gb:Ev->R D):Ev->R (List D):=λρ=>ga ρ>>=λx=>gb ρ>>=λc=>Gd x c
end
theorem vD:∀(is:List Nat)(ds:List D)(ρ ρ':Ev),qB is ds ρ=.ok ρ'->(NoOwn ρ)->NoOwn ρ'
 | [],[],ρ,ρ',e,h=>by cases e;exact h
 | [],_::_,_,_,e,_=>by cases e
 |_::_,[],_,_,e,_=>by cases e
 |i::is,d::ds,ρ,ρ',e,h=>vD is ds _ ρ' e (nQ (i:=i) d ρ _ rfl h)
def yn:∀d ρ ρ',CP is d ρ=.ok ρ'->(NoOwn ρ)->NoOwn ρ':=λd ρ ρ' e h=>by
 cases d with
 |tup ds=>exact vD is ds ρ ρ' e h
 |_=>cases e
def yE(hk:scope.kind=.function:=by rfl)(h1:(∀y∈scope.names,y.2≠.cell)/\(∀y∈scope.names,y.2=.local->scope.names.lookup y.1=some .local)/\(∀y∈scope.names,y.2=.free->y.1∈N'.drop n)/\n<=N'.length/\
 ∀y∈N'.drop n,scope.names.lookup y=some .free/\(y,NameKind.free)∈scope.names:=by decide +kernel)(h2:(N'.drop n).map X.env.kindOf=(N'.drop n).map λ_=>some NameKind.cell:=by rfl)(h3:N'.drop n=ix.map (λ(i:Nat)=>X.N.getD i Str.empty):=by rfl)(h4:ix.all (λi=>decide (i<X.N.length))=true:=by rfl):CompOkT X scope n N' ix:=by
 obtain⟨a,b,d,f,g⟩:=h1;refine⟨hk,a,b,λy hy h=>?_,f,h3,λi hi=>?_,g⟩;·exact List.map_inj_left.1 h2 _ (d y hy h)
 ·exact j5 (sO.1 h4 i hi)
section
variable{elt:Expr}{pos:Pos}{gt:Ev->R Bool}
def vR(ok:CompOkT X scope n N' ix)(hcalm:X.calm=true)(hg:∀C s₂ H₂ fp,PGF (aO X N' scope C s₂ H₂ fp) tgt asg)(hown:∀d ρ ρ',asg d ρ=.ok ρ'->(NoOwn ρ)->NoOwn ρ')(hi:PIF X tgt iter gi)(he:∀C s₂ H₂ fp,PF (aO X N' scope C s₂ H₂ fp) elt ge)(ht:∀C s₂ H₂ fp,PTs (aO X N' scope C s₂ H₂ fp) ifs gt)(hs:∀x,foldedSetIterable iter X.env x=pure x:=by intro _;rfl):PFL X (.ListComp elt [⟨tgt,iter,ifs,0⟩] scope pos) (kh n asg gi ix gt ge):=by
 intro pins s σ H Q I h;obtain⟨G,ρ,st,h⟩:=h;rw[j0];refine j1 (use:=none) rfl hs (eN λy hy hy2=>I.ok.has y.1 (.inl (ok.fr y hy hy2))) ok.kind ok.names ?_;have t:tG X (λG J items=>ItOk X.K G J items) gi σ H (λJ H1=>∃G1 items,Up G H G1 H1/\StE X.K G1 H1 σ ρ/\ItOk X.K G1 J items/\(iZ asg gt ge items (fh n ix ρ)>>=λds=>if ds.length<=sizeLine then R.ok ds else .no).post (pT X.K G H Q) (Exx X σ G H)):=by
  refine⟨G,ρ,st,?_⟩;unfold kh at h;cases e:gi ρ with
  |ok items=>rw[e]at h;exact λJ G1 H1 u r=>⟨G1,items,u,st.up u,r,h⟩
  |ex C=>rw[e]at h;exact h
  |no=>rw[e]at h;exact h
 refine thn (hi pins s σ H _ I t) λv s1 h1=>thn h1 λitv s2 h2=>?_;obtain⟨it,fp,tn,J,H2,e,I2,T,st2,f2,G2,items,u2,sE2,iok,h2⟩:=h2;subst e;have h2':(iZ asg gt ge items (fh n ix ρ)>>=λds=>if ds.length<=sizeLine then R.ok ds else .no).post (pT X.K G2 H2 Q) (Exx X σ G2 H2):=
  h2.mono (λds q l vs G' H' u hl r=>q l vs G' H' (u2.trans u) hl r) λC q=>q.up u2;refine kD (iter:=iter) (pos:=pos) (RR:=λacc C=>compPost (model X.prog X.w) X.A X.xe none (EP X pins σ Q) acc C) ok hcalm hg hown he ht I2 T st2 f2 sE2 iok h2' ?_;intro Dd C s' m vs G' H' up hd hCD _ q hm hos hb hC hCl un hok;refine⟨m,hm,λh' hs'=>?_⟩;have I3:=I2.call' (H':=upd H' Dd (.lst vs)) (s':={ s' with heap:=h' }) (ch:=fp) hos (un.sameBut (λb o hbc e=>hs'.extBut b o hbc e) hCl) (hok.sameBut (λb o hbc e=>hs'.extBut b o hbc e) (by rw[aE hCD];exact hC)) hb λb hb'=>by
  obtain⟨f0,f1,f2',f3,f4,f5⟩:=f2 b hb';exact⟨f3,f1,f4,f5⟩
 exact⟨.ref Dd,_,I3,rfl,q⟩
end
noncomputable def HK:List D->Option D
 | [.lst _ ds]=>match qH ds with
  |some ns=>some (.int ns.sum)
  |none=>none
 | [.tup ds]=>match qH ds with
  |some ns=>some (.int ns.sum)
  |none=>none
 |_=>none
theorem Vals.ints:∀{ns:List Int}{its:List Value},Vals (ns.map V.int) its->IntsAre its ns
 | [],_,.nil=>.nil
 |n::ns,_,.cons r t=>by obtain⟨tk,rfl⟩:=r;exact .cons n tk (Vals.ints t)
section
def vG{ns:List Int}(rv:Vals (ns.map V.int) its):∃xs:Array (Int×Tok),its.toArray=intItems xs/\preSum (numAt xs) xs.size=ns.sum:=by
 have hi:=Vals.ints rv;obtain⟨xs,hx⟩:=hi.allInts.items;have e1:ns=xs.toList.map (·.1):=by rw[<- nums_intItems,<- hx];exact(show numsOf its.toArray.toList=ns from hi.numsOf).symm
 exact⟨xs,hx,by rw[preSum_eq,List.take_of_length_le (by simp),e1]⟩
def Bo(hc:X.calm=true):kz X (.builtin "sum") (λxs H Q=>∃p,∃ns:List Int,xs=[.ref p]/\(SqL X.K H p (ns.map V.int)\/SqT X.K H p (ns.map V.int))/\Q (.int ns.sum) H):=by
 intro pins s σ H xs us Q I r ⟨p,ns,ex,hs,q⟩;subst ex;obtain⟨u,rfl,r1⟩:=r.one;cases r1;rcases hs with hs|hs
 ·obtain⟨its,rv,pl,hz⟩:=I.list hs;obtain⟨xs,hx,e2⟩:=vG rv;refine sum_intListG (I.ok.hd hc) (hx▸pl.isList) λh' tk t' hk=>?_;rw[e2];exact⟨.int _,H,I.kept (t':=tk) hk,⟨_,rfl⟩,q⟩
 ·obtain⟨its,rv,pl,hz⟩:=I.tuple hs;obtain⟨xs,hx,e2⟩:=vG rv;have ht:s.heap.IsTuple p its.toArray:=pl;refine PySem.W.ktm_sumG (I.ok.hd hc) (hx▸ht) λh' tk t' hk=>?_;rw[e2];exact⟨.int _,H,I.kept (t':=tk) hk,⟨_,rfl⟩,q⟩
def Gn(K:PySem.W.Frag):IV K (λxs H Q=>∃p,∃ns:List Int,xs=[.ref p]/\(SqL K H p (ns.map V.int)\/SqT K H p (ns.map V.int))/\Q (.int ns.sum) H) HK:=by
 intro G H xs ds d Q s r e q;unfold HK at e;split at e
 ·split at e;·rename_i ns hn;cases e;obtain⟨v,rfl,r1⟩:=r.one;obtain⟨a,vs,rfl,hs,rr⟩:=r1.seq_inv;obtain rfl:=rr.nums hn;exact⟨a,ns,rfl,.inl (hs.mono s),q _ G H (.refl s) (.int _)⟩
  ·cases e
 ·split at e;·rename_i ns hn;cases e;obtain⟨v,rfl,r1⟩:=r.one;obtain⟨a,vs,rfl,hs,rr⟩:=r1.tup_inv;obtain rfl:=rr.nums hn;exact⟨a,ns,rfl,.inr (hs.mono s),q _ G H (.refl s) (.int _)⟩
  ·cases e
 ·cases e
def ND{e:Expr}{pos:Pos}(hc:X.calm=true)(hg:Gl X "sum")(hm:X.mg "sum"=none)(ha:PFA X [e] gl)(he:starEach [e] X.env=(false,eval e X.env)::starEach [] X.env:=by rfl):
  PF X (.Call (.Name "sum" p) [e] [] pos) (gOf HK gl):=kN (Bo hc) (Gn _) hg hm PyProof.Rows.Boot.«sum» ha (by decide) (by decide) he rfl
end
noncomputable def Op(i j:Nat)(ga:Ev->R D)(gl:Ev->R (List D)):Ev->O:=λρ=>(ga ρ).out ρ λd=>(gl ρ).out ρ λds=>.nx ((ρ.set i (some (.val d))).set j (some (.own ds)))
def Inv.turnedL{σ:List (Option V)}{t':Nat}(I:Inv X pins σ H s)(k:∀b o,b∉ch->s.heap.get? b=some o->h'.get? b=some o)(f:∀b∈ch,qq X pins H b):
  Inv X pins σ H { s with heap:=h',toks:=t' }:=by
 have n1:∀b u,H b=some u->b∉ch:=λb u q z=>by rw[(f b z).1]at q;cases q
 refine I.step (g':=s.gens) (d':=s.drawn) (ch:=ch) (λb hb=>?_) (λb o _ _ hc q _=>k b o hc q) (λb o _ _ hc q _=>⟨o.slots,k b o hc q⟩) (λ_ _ _ _ n=>n) (λb o hc q=>⟨o,k b o hc q⟩) (λ_ _ q=>q) (λ_ _ _ q=>q) (λb ps q=>⟨#[],by rw[q];simp⟩) (λm hm=>?_) (λb u q=>?_) I.bare;·obtain⟨a0,a1,a2,a3,a4,a5⟩:=f b hb;exact⟨a3,a1,a4,a5⟩
 ·obtain⟨o,es,ep,ho,r⟩:=hm;exact⟨o,es,ep,k _ o (λz=>(f _ z).2.1 rfl) ho,r⟩
 ·refine(I.hok b u q).stay (λc v hc q'=>k c v ?_ q') (λ_ q'=>q') λ_ _ q'=>q';rcases hc with z|z;·rw[z];exact n1 b u q
  ·exact n1 c _ z
noncomputable def Itz(sq1 sq2:Hp->List V->Prop):It:=⟨λi H=>∃xs ys x y,sq1 H xs/\sq2 H ys/\xs[i]?=some x/\ys[i]?=some y,
 λi H v H'=>∃p x y,v=.ref p/\H p=none/\H'=upd H p (.tup [x,y])/\(∀xs,sq1 H xs->xs[i]?=some x)/\∀ys,sq2 H ys->ys[i]?=some y,λi H=>∃xs ys,sq1 H xs/\sq2 H ys/\(xs.length<=i\/ys.length<=i)⟩
section
variable{w:World}{K:PySem.W.Frag}{elts:List Expr}{kt:Nat}{tp:Pos}
def El{z TI TO i1 i2 l1 l2:Addr}(D:ZipApart z TI TO i1 i2 l1 l2):
  Turn P w K (.Tuple elts kt tp) (Itz (λH xs=>SqL K H l1 xs) (λH xs=>SqL K H l2 xs)) [z,TI,TO,i1,i2] z (λi h=>IsZip h z TI TO .none/\IsPair h TI (.ref i1) (.ref i2)/\(∃a b,IsPair h TO a b)/\h.IsListIter i1 l1 i/\h.IsListIter i2 l2 i) where
 mem:=by simp
 obj:=λi h st b hb=>by
  obtain⟨s1,s2,⟨a,c,s3⟩,s4,s5⟩:=st;simp only[y9,xu,xv]at hb;rcases hb with rfl|rfl|rfl|rfl|rfl;·exact⟨_,s1,λv z=>by cases z⟩
  ·exact⟨_,s2,λv z=>by cases z⟩
  ·exact⟨_,s3,λv z=>by cases z⟩
  ·obtain⟨o,q,c,d⟩:=s4;exact⟨o,q,λv z=>by rw[d]at z;cases z⟩
  ·obtain⟨o,q,c,d⟩:=s5;exact⟨o,q,λv z=>by rw[d]at z;cases z⟩
 keep:=λi h h' st k=>by obtain⟨s1,s2,⟨a,c,s3⟩,s4,s5⟩:=st;exact⟨k z (by simp) _ s1,k TI (by simp) _ s2,⟨a,c,k TO (by simp) _ s3⟩,s4.at λo q=>k i1 (by simp) o q,s5.at λo q=>k i2 (by simp) o q⟩
 item:=by
  intro X hP hw hK hc i pins s σ H E I hf st hg;obtain⟨xs,ys,x,y,hq1,hq2,hx,hy⟩:=hg;obtain⟨s1,s2,⟨a,c,s3⟩,s4,s5⟩:=st;subst hP hw hK;obtain⟨its1,rv1,p1,hz1⟩:=I.list hq1;obtain⟨its2,rv2,p2,hz2⟩:=I.list hq2;obtain⟨u1,hu1,ru1⟩:=rv1.get hx;obtain⟨u2,hu2,ru2⟩:=rv2.get hy;refine wpAny_pyNext_zip_item D s1 s2 s3 s4 s5 p1.isList p2.isList (x:=u1) (y:=u2) (by simpa using hu1) (by simpa using hu2) λh1 z1 zTO zi1 zi2 zp zsz zk=>?_;refine⟨_,rfl,wpAny_letOwnedTupleGo_zip z1 λh2 z2 sb=>?_⟩;have hzlt:z<s.heap.objs.size:=zj s1;have hTIlt:TI<s.heap.objs.size:=zj s2;have hTOlt:TO<s.heap.objs.size:=zj s3;have hi1lt:i1<s.heap.objs.size:=by obtain⟨o,q,_⟩:=s4;exact zj q
  have hi2lt:i2<s.heap.objs.size:=by obtain⟨o,q,_⟩:=s5;exact zj q
  have hp:H s.heap.objs.size=none:=I.hok.fresh (zq _);have Ia:Inv X pins σ (upd H s.heap.objs.size (.tup [x,y])) { s with heap:=s.heap.push { cls:=.type "tuple",data:=.seq #[u1,u2] } }:=by refine I.laid (t':=s.toks) (λb o q=>zL _ q) (zq _) ?_;exact⟨by show 2<=sizeLine;decide,[u1,u2],.cons ru1 (.cons ru2 .nil),tO _ _⟩
  have fp':∀b∈[z,TI,TO,i1,i2],qq X pins (upd H s.heap.objs.size (.tup [x,y])) b:=λb hb=>by
   have hlt:b<s.heap.objs.size:=by simp only[y9,xu,xv]at hb;rcases hb with rfl|rfl|rfl|rfl|rfl <;> assumption
   exact⟨by rw[aE (xh hlt)];exact(hf b hb).1,(hf b hb).2⟩
  have ht2:h2.get? s.heap.objs.size=some { cls:=.type "tuple",data:=.seq #[u1,u2] }:=(sb.2 _ (sf hzlt)).trans zp;have Ib:Inv X pins σ (upd H s.heap.objs.size (.tup [x,y])) { s with heap:=h2 }:=by
   refine Inv.turnedL (s:={ s with heap:=s.heap.push { cls:=.type "tuple",data:=.seq #[u1,u2] } }) (h':=h2) (t':=s.toks) (ch:=[z,TI,TO,i1,i2]) Ia (λb o hb q=>?_) fp';have q:(s.heap.push { cls:=.type "tuple",data:=.seq #[u1,u2] }).get? b=some o:=q;simp only[y9,xu,xv,not_or]at hb;obtain⟨b1,b2,b3,b4,b5⟩:=hb;by_cases e:b=s.heap.objs.size;·subst e;have q':=xj s.heap (o:={ cls:=.type "tuple",data:=.seq #[u1,u2] }) rfl;rw[q']at q;rw[ht2];exact q
   ·have q2:s.heap.get? b=some o:=by
     rcases Nat.lt_or_ge b s.heap.objs.size with hb|hb;·exact pQ hb q
     ·have hlt:b<(s.heap.push { cls:=.type "tuple",data:=.seq #[u1,u2] }).objs.size:=zj q;rw[wG]at hlt;exact absurd (Z0 (Z1 hlt) hb) e
    exact(sb.2 b b1).trans (zk b o b1 b3 b4 b5 q2)
  refine⟨.ref s.heap.objs.size,_,Ib,rfl,⟨_,x,y,rfl,hp,rfl,λzs h=>by rw[I.list_inj h hq1];exact hx,λzs h=>by rw[I.list_inj h hq2];exact hy⟩,⟨z2,?_,⟨u1,u2,(sb.2 TO D.TOz).trans zTO⟩,zi1.at λo q=>(sb.2 i1 D.i1z).trans q,zi2.at λo q=>(sb.2 i2 D.i2z).trans q⟩,λb hb=>(fp' b hb).1⟩;exact(sb.2 TI D.TIz).trans (zk TI _ D.TIz D.TITO D.TIi1 D.TIi2 s2)
 done:=by
  intro X hP hw hK hc i pins s σ H E I hf st hg;obtain⟨xs,ys,hq1,hq2,hx⟩:=hg;obtain⟨s1,s2,⟨a,c,s3⟩,s4,s5⟩:=st;subst hP hw hK;obtain⟨its1,rv1,p1,hz1⟩:=I.list hq1;obtain⟨its2,rv2,p2,hz2⟩:=I.list hq2;have e1:=rv1.length;have e2:=rv2.length;refine wpAny_pyNext_zip_end (I.ok.hd hc) D s1 s2 s3 s4 s5 p1.isList p2.isList ?_ λh' hk=>⟨rfl,I.turnedL (t':=s.toks) (ch:=[z,TI,TO,i1,i2]) (λb o hb q=>?_) hf⟩
  ·rcases hx with hx|hx;·exact .inl (by simp;omega)
   ·exact .inr (by simp;omega)
  ·simp only[y9,xu,xv,not_or]at hb;obtain⟨b1,b2,b3,b4,b5⟩:=hb;exact hk b o b1 b3 b4 b5 q
 self:=λA i s Q E st h=>i6 st.1 h
def ItOk.zip{sq1 sq2:Hp->List V->Prop}{ws:List V}{es:List D}(h1:∀G1 H1,Same G G1->Same G1 H1->sq1 H1 vs)(h2:∀G1 H1,Same G G1->Same G1 H1->sq2 H1 ws)(r1:Reps K G vs ds)(r2:Reps K G ws es):ItOk K G (Itz sq1 sq2) (List.zipWith (λx y=>.tup [x,y]) ds es):=by
 intro i G1 H1 s1 s2;refine⟨λd e=>?_,λhl=>⟨vs,ws,h1 G1 H1 s1 s2,h2 G1 H1 s1 s2,by rw[List.length_zipWith]at hl;rw[r1.length,r2.length];omega⟩⟩;rw[List.getElem?_zipWith]at e;cases e1:ds[i]? with
 |none=>rw[e1]at e;cases e
 |some dx=>
  cases e2:es[i]? with
  |none=>rw[e1,e2]at e;cases e
  |some dy=>rw[e1,e2]at e;have e:=(xf e).symm;subst e;obtain⟨v,ev,rv⟩:=r1.get e1;obtain⟨u,eu,ru⟩:=r2.get e2;refine⟨⟨vs,ws,v,u,h1 G1 H1 s1 s2,h2 G1 H1 s1 s2,ev,eu⟩,λx H' y=>?_⟩;obtain⟨p,x',y',rfl,hp,rfl,z1,z2⟩:=y;have z1:=z1 vs (h1 G1 H1 s1 s2);have z2:=z2 ws (h2 G1 H1 s1 s2);rw[ev]at z1;rw[eu]at z2;cases z1;cases z2;refine⟨upd G1 p (.tup [v,u]),.new s2 hp,.tup (.of aV) (.cons ((rv.mono s1).mono (.into (s2.free hp))) (.cons ((ru.mono s1).mono (.into (s2.free hp))) .nil))⟩
end
noncomputable def Jf:List D->R (List D)
 | [.lst _ xs,.lst _ ys]=>.ok (List.zipWith (λx y=>.tup [x,y]) xs ys)
 |_=>.no
def Rep.lstSq{K:PySem.W.Frag}{f:Bool}{xs:List D}(r:Rep K G v (.lst f xs)):∃a vs,v=.ref a/\SqL K G a vs/\Reps K G vs xs:=by
 cases r with
 |lst hq t=>exact⟨_,_,rfl,.of hq,t⟩
 |fls hq t=>exact⟨_,_,rfl,hq,t⟩
section
variable{a b:Expr}{elts:List Expr}{kt:Nat}{pos tp:Pos}
def JP(hg:Gl X "zip")(hm:X.mg "zip"=none)(ha:PFA X [a,b] gl)(hs:starEach [a,b] X.env=(false,eval a X.env)::starEach [b] X.env:=by rfl)(hs2:(backTo pos (starEach [b] X.env)).any (·.1)=false:=by rfl):
  PIF X (.Tuple elts kt tp) (.Call (.Name "zip" p) [a,b] [] pos) (aB Jf gl):=by
 intro pins s σ H Rr I h;obtain⟨G,ρ,st,h⟩:=h;have h:(gl ρ>>=Jf).post (Fin G H (λG J items=>ItOk X.K G J items) Rr) (Exx X σ G H):=h;have ta:tAF X gl σ H (λvs H1=>∃G1 ds,Up G H G1 H1/\Reps X.K G1 vs ds/\Same G1 H1/\(Jf ds).post (Fin G1 H1 (λG J items=>ItOk X.K G J items) Rr) (Exx X σ G1 H1)):=by
  refine⟨G,ρ,st,?_⟩;cases e:gl ρ with
  |ok ds=>rw[e]at h;intro vs G1 H1 u1 r1;refine⟨G1,ds,u1,r1,u1.sub,?_⟩;have h:(Jf ds).post (Fin G H (λG J items=>ItOk X.K G J items) Rr) (Exx X σ G H):=h;exact h.mono (λitems q J G2 H2 u2 r2=>q J G2 H2 (u1.trans u2) r2) λC q=>q.up u1
  |ex C=>rw[e]at h;exact h
  |no=>rw[e]at h;exact h
 refine Call_ (mJ I hg hm PyProof.Rows.Boot.«zip» (Z2 (thn (ha pos pins s σ H _ I ta) λus s1 ⟨vs,H1,I1,r1,q1⟩=>?_) hs hs2));obtain⟨G1,ds,u1,rd,sub,h1⟩:=q1;unfold Jf at h1;split at h1
 ·rename_i f1 xs f2 ys;cases rd with
  |cons rx t=>
   cases t with
   |cons ry t2=>
    cases t2;obtain⟨l1,ws1,rfl,sq1,rr1⟩:=rx.lstSq;obtain⟨l2,ws2,rfl,sq2,rr2⟩:=ry.lstSq;cases r1 with
    |cons v1 t1=>
     cases t1 with
     |cons v2 t3=>
      cases t3;cases v1;cases v2;obtain⟨its1,rv1,p1,hz1⟩:=I1.list (sq1.mono sub);obtain⟨its2,rv2,p2,hz2⟩:=I1.list (sq2.mono sub);have hl1:l1<s1.heap.objs.size:=SqL.lt' I1 (sq1.mono sub);have hl2:l2<s1.heap.objs.size:=SqL.lt' I1 (sq2.mono sub);refine call_zip_2 p1.isList p2.isList λh' z1 zTI zTO zi1 zi2 zsz zk=>i6 z1 ?_;refine⟨_,_,_,_,H1,rfl,I1.kept (t':=s1.toks) zk,El (zipApart_new hl1 hl2),⟨z1,zTI,⟨_,_,zTO⟩,zi1,zi2⟩,λb hb=>?_,h1 _ G1 H1 (.refl sub) (ItOk.zip (λG2 H2 s1 s2=>(sq1.mono s1).mono s2) (λG2 H2 s1 s2=>(sq2.mono s1).mono s2) rr1 rr2)⟩;have hge:s1.heap.objs.size<=b:=by simp only[y9,xu,xv]at hb;rcases hb with rfl|rfl|rfl|rfl|rfl <;> omega
      exact I1.fpOk hge (I1.hok.fresh hge)
 ·exact h1.elim
end
noncomputable def Mu:D->D->R D
 |.str x,.int k=>if k = -1 then .ok (.str x.reverse)else .no
 |.lst _ xs,.int k=>if k = -1 then .ok (.lst false xs.reverse)else .no
 |_,_=>.no
noncomputable def P1(ga gs:Ev->R D):Ev->R D:=λρ=>ga ρ>>=λx=>gs ρ>>=λk=>Mu x k
section
variable{a st:Expr}{ga gs:Ev->R D}{pos p2:Pos}
noncomputable def pP:D->List D->Option D
 |.str x,[.str [c]]=>some (.int ((x.count c:Nat):Int))
 |_,_=>none
theorem ng(c:Nat):∀l:List Nat,countIn (.str ⟨#[c]⟩) (l.map λn=>PyData.str ⟨#[n]⟩)=((l.count c:Nat):Int)
 | []=>rfl
 |n::l=>by
  have ih:=ng c l;rw[ub,countIn,ih,List.count_cons];by_cases h:n=c
  ·subst h;have e:same (.str ⟨#[n]⟩) (.str ⟨#[n]⟩)=true:=by simp[same]
   rw[if_pos e,if_pos (by simp)];omega
  ·have e : ¬ same (.str ⟨#[n]⟩) (.str ⟨#[c]⟩)=true:=by simp[same,h]
   rw[if_neg e,if_neg (by simp[h])];omega
noncomputable def AE:V->List V->Hp->VK->Prop:=λx vs H Q=>∃(y:Str)(c:Nat),x=.str y/\vs=[.str ⟨#[c]⟩]/\Q (.int ((y.cps.toList.count c:Nat):Int)) H
def CH:MtR X "str.count" AE:=by intro pins s σ H x xs v us Q I rx rv ⟨y,c,ex,exs,q⟩;subst ex exs;obtain⟨t,rfl⟩:=rx;obtain⟨u,rfl,r1⟩:=rv.one;obtain⟨t',rfl⟩:=r1;refine SC.count ?_;have e:=count_is y c;rw[ng]at e;rw[e];exact⟨.int _,H,I.tok _,⟨_,rfl⟩,q⟩
def AK(K:PySem.W.Frag):Bs K "str" AE pP:=by
 intro G H x xs dx ds d Q s rx rs e q;unfold pP at e;split at e;·cases e;rename_i x0 c;obtain⟨v,rfl,r1⟩:=rs.one;obtain⟨i,rfl,ei,hi⟩:=rx.str_inv;obtain⟨j,rfl,ej,hj⟩:=r1.str_inv;subst ei;have:j=⟨#[c]⟩:=(Str.of_list ej).symm;subst this;exact⟨i,c,rfl,rfl,q _ G H (.refl s) (.int _)⟩
 ·cases e
def xU{o e:Expr}{ga:Ev->R D}{ap cp:Pos}(ho:PF X o ga)(ha:PFA X [e] gl)(hbase:attributeBase o "count" X.env (eval o X.env)=eval o X.env:=by rfl)(hfew:((backTo cp (starEach [e] X.env)).all (λx=>!x.1) && (backToKw cp (keywordEach [] X.env)).all (λx=>x.1.isSome)
 && decide ([e].length+([]:List Keyword).length+(if ([]:List Keyword).isEmpty then 0 else 1)<30))=true:=by rfl)(hline:(ap.endLine==cp.line)=true:=by rfl)(hs:starEach [e] X.env=(false,eval e X.env)::starEach [] X.env:=by rfl):
  PF X (.Call (.Attribute o "count" ap) [e] [] cp) (eS "str" pP ga gl):=
 iu qi PySem.F.slot_str_count PySem.F.type_str_count CH (AK _) ho ha hbase hfew hline hs rfl
end
noncomputable def gX(gt:Ev->R Bool)(g:Ev->O):Nat->Ev->O
 | 0,_=>.no
 |n+1,ρ=>(gt ρ).out ρ λk=>if k=true then (match g ρ with
  |.nx ρ2=>gX gt g n ρ2
  |.ct ρ2=>gX gt g n ρ2
  |.bk ρ2=>.nx ρ2
  |.rt d=>.rt d
  |.re d ρ2=>.re d ρ2
  |.ex C ρ2=>.ex C ρ2
  |.no=>.no)else .nx ρ
noncomputable def Ae(n:Nat)(gt:Ev->R Bool)(g:Ev->O):Ev->O:=λρ=>gX gt g n ρ
section
variable{c e:Expr}{gt:Ev->R Bool}{g:Ev->O}{ga:Ev->R D}{pos:Pos}
def HS(n:Nat)(hp:PassesOwn (model X.prog X.w) X.A X.env X.xe)(hc:PB X c gt)(hb:lR X body g):PSF X (.While c body [] pos) (Ae n gt g):=λG₀ H₀ pins s σ H D I h=>by
 obtain⟨G,ρ,sr,h⟩:=h;refine E5 hp hc (hb G₀ H₀) pins s σ H D I ?_;refine⟨λm σ H=>∃G ρ,StR X.K G₀ H₀ G H σ ρ/\ka X G₀ H₀ D (gX gt g m ρ),⟨n,G,ρ,sr,h⟩,?_⟩;rintro m σ H ⟨G,ρ,sr,h⟩;cases m with
 |zero=>exact h.elim
 |succ m=>
  refine⟨G,ρ,sr.e,?_⟩;have h:ka X G₀ H₀ D ((gt ρ).out ρ λk=>if k=true then (match g ρ with
   |.nx ρ2=>gX gt g m ρ2
   |.ct ρ2=>gX gt g m ρ2
   |.bk ρ2=>.nx ρ2
   |.rt d=>.rt d
   |.re d ρ2=>.re d ρ2
   |.ex C ρ2=>.ex C ρ2
   |.no=>.no)else .nx ρ):=h;cases q:gt ρ with
  |ok k=>
   rw[q]at h;intro b G1 H1 u1 eb;have eb:b=k:=eb;subst eb;simp only[R.out]at h;cases b with
   |true=>
    rw[if_pos rfl]at h⊢;refine⟨λσ' H'=>∃G ρ,StR X.K G₀ H₀ G H' σ' ρ/\ka X G₀ H₀ D (gX gt g m ρ),λσ' H' w=>⟨m,rZ _,w⟩,G1,ρ,sr.ups u1,?_⟩;cases q3:g ρ with
    |nx ρ2=>rw[q3]at h;exact λσ4 G4 H4 sr4=>⟨G4,ρ2,sr4,h⟩
    |ct ρ2=>rw[q3]at h;exact λσ4 G4 H4 sr4=>⟨G4,ρ2,sr4,h⟩
    |bk ρ2=>rw[q3]at h;exact h
    |rt d=>rw[q3]at h;exact h
    |re d ρ2=>rw[q3]at h;exact h
    |ex C ρ2=>rw[q3]at h;exact h
    |no=>rw[q3]at h;exact h
   |false=>rw[if_neg xR]at h⊢;exact h _ G1 H1 (sr.ups u1)
  |ex C=>rw[q]at h;exact Exx.of sr h
  |no=>rw[q]at h;exact h
noncomputable def IM(f:Int->Int->Int):D->D->Option D
 |.int i,.int j=>some (.int (f i j))
 |_,_=>none
def JA(i:Nat){x:Str}{op:Operator}{f:Int->Int->Int}(hN:X.N.Nodup)(he:PF X e ga)(ho:PIp X op (ipI f))(hi:X.N[i]?=some x:=by rfl)(hx:Loc X.env.scope x:=by first|exact Or.inl rfl|exact Or.inr rfl)(hf:X.fn x=true\/X.env.scope.names.lookup x=some .local:=by first|exact .inl rfl|exact .inr rfl):
  PSF X (.AugAssign (.Name x p) op e pos) (eJ i (g2 (IM f) (λρ=>rdV ρ i) ga)):=λG₀ H₀ pins s σ H D I h=>by
 refine KT hN hi hx he ho hf pins s σ H D I ?_;obtain⟨G,ρ,sr,h⟩:=h;have h:ka X G₀ H₀ D ((rdV ρ i>>=λa=>ga ρ>>=λb=>ofO (IM f a b)).out ρ λd=>.nx (ρ.set i (some (.val d)))):=h;cases q1:rdV ρ i with
 |ok d=>
  have e1:ρ[i]?=some (some (.val d)):=by
   unfold rdV at q1;split at q1;·rename_i d' e';cases q1;exact e'
   ·cases q1
  rw[q1]at h;simp only[R.ok_bind]at h;obtain⟨v,hv,rv⟩:=sr.e.val i d e1;refine⟨v,hv,G,ρ,sr.e,?_⟩;cases q2:ga ρ with
  |ok b=>
   rw[q2]at h;simp only[R.ok_bind]at h;intro w G1 H1 u1 r1;cases d with
   |int a=>
    cases b with
    |int b=>cases rv;cases r1;exact⟨_,_,rfl,rfl,h _ G1 H1 ((sr.ups u1).set (.int _) i)⟩
    |_=>exact h.elim
   |_=>exact h.elim
  |ex C=>rw[q2]at h;exact Exx.of sr h
  |no=>rw[q2]at h;exact h
 |ex C=>rw[q1]at h;unfold rdV at q1;split at q1 <;> cases q1
 |no=>rw[q1]at h;exact h.elim
noncomputable def sj(i:Nat)(f:Int->Int->Int)(gk ga:Ev->R D):Ev->O:=λρ=>(ownAt ρ i).out ρ λds=>(fq (gk ρ>>=asI)).out ρ λk=>(fq (ga ρ>>=asI)).out ρ λb=>if 0<=k then (match ds[k.toNat]? with
 |some (.int a)=>.nx (ρ.set i (some (.own (ds.set k.toNat (.int (f a b))))))
 |_=>.no)else .no
noncomputable def NK:V->V->Hp->VK->Prop:=λo i H Q=>∃p xs k v,o=.ref p/\i=.int k/\H p=some (.lst xs)/\0<=k/\xs[k.toNat]?=some v/\Q v H
def ES:OD X NK:=by intro pins s σ H o i ov iv Q I ro ri h;obtain⟨p,xs,k,v,rfl,rfl,hp,h0,he,q⟩:=h;cases ro;obtain⟨t,rfl⟩:=ri;obtain⟨its,r,pl,hz⟩:=I.list (.of hp);obtain⟨w,ew,rw'⟩:=r.get he;have hl:=r.length;have hn:=mR;have hlt:k.toNat<xs.length:=(wK.mp he).1;exact wpAny_getItem_list pl.isList h0 (by omega) (by simpa using ew) ⟨v,H,I,rw',q⟩
def Bk(i:Nat){x:Str}{tp:Pos}{ix:Expr}{op:Operator}{f:Int->Int->Int}(hk:PF X ix gk)(he:PF X e ga)(ho:PIp X op (ipI f))(hi:X.N[i]?=some x:=by rfl)(hv:Vis X.env.scope x:=by first|exact Or.inl rfl|exact Or.inr (Or.inl rfl))(hd:(x==("__debug__":Str))=false:=by decide)(hcd:(x==("__classdict__":Str))=false:=by decide)(ha:∀ov iv new,augStore ix ov iv new=(do holding [new,ov,iv] (setItem ov iv new);release [new,ov,iv] [];pure .next):=by intros;rfl):
  PSF X (.AugAssign (.Subscript (.Name x p) ix tp) op e pos) (sj i f gk ga):=λG₀ H₀ pins s σ H D I h=>by
 refine Ie (iK hi hv hd hcd) hk ES he ho yg ha pins s σ H D I ?_;obtain⟨G,ρ,sr,h⟩:=h;have h:ka X G₀ H₀ D ((ownAt ρ i).out ρ λds=>(fq (gk ρ>>=asI)).out ρ λk=>(fq (ga ρ>>=asI)).out ρ λb=>if 0<=k then (match ds[k.toNat]? with
  |some (.int a)=>.nx (ρ.set i (some (.own (ds.set k.toNat (.int (f a b))))))
  |_=>.no)else .no):=h;obtain⟨ds,e1,h⟩:=ownAt.ok h;obtain⟨l,vs,h1,h2,h3,h4,h5⟩:=sr.own i ds e1;refine⟨.ref l,h1,G,ρ,sr.e,?_⟩;cases q2:gk ρ with
 |ok kd=>
  rw[q2]at h;intro kv G' H' u' rk;cases rk with
  |int k=>
   have h:ka X G₀ H₀ D ((fq (ga ρ>>=asI)).out ρ λb=>if 0<=k then (match ds[k.toNat]? with
    |some (.int a)=>.nx (ρ.set i (some (.own (ds.set k.toNat (.int (f a b))))))
    |_=>.no)else .no):=h;cases q3:ga ρ with
   |ok bd=>
    rw[q3]at h;cases bd with
    |int b=>
     have h:ka X G₀ H₀ D (if 0<=k then (match ds[k.toNat]? with
      |some (.int a)=>.nx (ρ.set i (some (.own (ds.set k.toNat (.int (f a b))))))
      |_=>.no)else .no):=h;by_cases h0:0<=k
     ·rw[if_pos h0]at h;split at h;·rename_i a ea;obtain⟨v,ev,rv⟩:=h5.get ea;cases rv;have hlt:k.toNat<ds.length:=(wK.mp ea).1;refine⟨l,vs,k,_,rfl,rfl,u'.hh _ _ h2,h0,ev,G',ρ,(sr.ups u').e,?_⟩;rw[q3];intro bv G'' H'' u'' rb;cases rb;refine⟨a,b,rfl,rfl,l,vs,k,k.toNat,rfl,rfl,(u'.trans u'').hh _ _ h2,?_,h _ G'' _ ((sr.ups (u'.trans u'')).mut e1 h1 (.set (.int _) k.toNat (h5.mono (u'.trans u'').gg)))⟩;unfold ixN;rw[if_pos h0,if_pos (by rw[h5.length];omega)]
      ·exact h.elim
     ·rw[if_neg h0]at h;exact h.elim
    |_=>exact h.elim
   |_=>rw[q3]at h;exact h.elim
  |_=>exact h.elim
 |_=>rw[q2]at h;exact h.elim
end
noncomputable def CD(gs:List (Ev->R D))(ρ:Ev):D->R D
 |.int i=>if 0<=i then (match gs[i.toNat]? with
  |some g=>g ρ
  |none=>.no)else .no
 |_=>.no
noncomputable def zP(gs:List (Ev->R D))(gi:Ev->R D):Ev->R D:=λρ=>gi ρ>>=CD gs ρ
def JN{gi:Ev->R D}:zP gs gi ρ=gi ρ>>=CD gs ρ:=rfl
def Js{g:Ev->R D}:CD (g::gs) ρ (.int 0)=g ρ:=rfl
def JY{f g:Ev->R D}:CD (f::g::gs) ρ (.int 1)=g ρ:=rfl
section
variable{a b ix e:Expr}{ga gi:Ev->R D}{pos p1 p2 pl sp:Pos}
def yj(v sl:Expr)(args:List Expr)(env:Env):eval (.Call (.Subscript v sl sp) args [] pos) env=(do
  callWith pos (<- eval (.Subscript v sl sp) env) [] (backTo pos (starEach args env)) (backToKw pos (keywordEach [] env))):=rfl
def tf{Q:VK}{g:List D->R D}(F:FnF X.prog X.w X.K X.mg X.base k f fd ps g)(hr:Room k X.A)(hk:PySem.W.keepIn X.K (.ref f)=true)(hb:Binds X.K fd ps [])(ha:PFA X (e::es) gl)(he:starEach (e::es) X.env=(false,eval e X.env)::starEach es X.env)(hpl:(backTo pos (starEach es X.env)).any (·.1)=false)(I:Inv X pins σ H s)(st:StE X.K G H σ ρ)(h:(aG ps.length g gl ρ).post (Fin G H (Rep X.K) Q) (Exx X σ G H)):wpAny (model X.prog X.w) X.A (callWith pos (.ref f) [] (backTo pos (starEach (e::es) X.env)) (backToKw pos (keywordEach [] X.env))) (EP X pins σ Q) X.xe s:=by
 have t:tAF X gl σ H (λvs H1=>∃G1 ds,Up G H G1 H1/\Same G1 H1/\Reps X.K G1 vs ds/\ds.length=ps.length/\(g ds).post (Fin G1 H1 (Rep X.K) Q) (Exx X σ G1 H1)):=by
  refine tG.intro st h λds vs G1 H1 u1 st1 r1 h1=>?_;by_cases hl:ds.length=ps.length;·rw[if_pos hl]at h1;exact⟨G1,ds,u1,st1.sub,r1,hl,h1⟩
  ·rw[if_neg hl]at h1;exact h1.elim
 refine j3 (h₀:=X.base) I.ok.mod.kin hk (thn (ha pos pins s σ H _ I t) λus s1 q=>⟨?_,?_⟩) he hpl;·obtain⟨vs,H1,I1,r,_⟩:=q;exact I1.kIn
 obtain⟨vs,H1,I1,r,G1,ds,u1,sub1,rp,hl,h1⟩:=q;have hvl:vs.length=ps.length:=by rw[rp.length];exact hl
 have hul:(us++[]).length=ps.length:=by rw[uZ,<- r.length];exact hvl
 have hbb:=hb s1 us I1.kIn hul;rw[uZ]at hbb;refine qF (qc (F.run X.A X.stack s1 H1 ⟨us,[]⟩ us vs Q (λc _ H'=>∃C G',c=.ref C/\Up G1 H1 G' H'/\Exx X σ G1 H1 C) hr I1.env0 hbb r ⟨hvl,G1,ds,sub1,rp,h1.mono (λ_ q=>q) λC q G' H' u=>⟨C,G',rfl,u,q⟩⟩) λr' s' hq=>?_);cases r' with
 |error e'=>obtain⟨a,C,H',rfl,fl,C',G',ec,u,q⟩:=hq;cases ec;exact q _ _ ⟨G1,H1,.refl sub1,pins,s1,a,rfl,I1,.inr (.inl ⟨G',H',fl,u⟩)⟩
 |ok fl=>
  cases fl with
  |ret u=>exact I1.after hq
  |_=>exact False.elim hq
end
noncomputable def CM(dx:D)(l:List Nat):Bool:=match eqD 40 (.str l) dx with
 |some b=>b
 |none=>false
noncomputable def inTF:D->D->Option D
 |dx,.tup ds=>match strsOf ds with
  |some ls=>if (ls.all λl=>(eqD 40 (.str l) dx).isSome)=true then some (.bl (ls.any (CM dx)))else none
  |none=>none
 |_,_=>none
where strsOf:List D->Option (List (List Nat))
 | []=>some []
 |.str x::ds=>(strsOf ds).map (x::·)
 |_::_=>none
theorem vi:∀{ds:List D}{ls:List (List Nat)},inTF.strsOf ds=some ls->ds=ls.map .str
 | [],ls,h=>by cases h;rfl
 |d::ds,ls,h=>by
  cases d <;> first|(cases h;done)|skip
  rename_i x;unfold inTF.strsOf at h;cases q:inTF.strsOf ds with
  |none=>rw[q]at h;cases h
  |some ms=>rw[q]at h;cases h;rw[vi q];rfl
section
variable{a b:Expr}{ga:Ev->R D}{pos:Pos}
def yK{x z:Str}{l:List Nat}{t:Tok}(hg:Gl X x)(hm:X.mg x=some (.str z t))(hl:z.cps.toList=l:=by rfl)(hz:l.length<=1000:=by decide)(hd:(x==("__debug__":Str))=false:=by decide):PF X (.Name x pos) (λ_=>.ok (.str l)):=
 jX (jV (v:=.str z) hg hm ⟨t,rfl⟩ hd) λ_ _=>.strL hl (xk hz (by decide))
structure KTup(K:PySem.W.Frag)(c:Addr)(ls:List (List Nat)):Prop where
 ex:∃(o:Obj)(its:Array Value)(n:Nat)(vs:List V),K.lookup c=some o/\o.cls=.type "tuple"/\o.data=.seq its n/\its.size<=sizeLine/\Vals vs its.toList/\∀G,Reps K G vs (ls.map .str)
def D5{x:Str}{c:Addr}{ls:List (List Nat)}(hg:Gl X x)(hm:X.mg x=some (.ref c))(hk:KTup X.K c ls)(hd:(x==("__debug__":Str))=false:=by decide):PF X (.Name x pos) (λ_=>.ok (.tup (ls.map .str))):=by obtain⟨o,its,n,vs,h1,h2,h3,h4,h5,h6⟩:=hk.ex;intro pins s σ H Q I q;obtain⟨G,ρ,st,q⟩:=q;exact jV (v:=.ref c) hg hm rfl hd pins s σ H Q I (q _ G H (.refl st.sub) (.tup (.inr ⟨o,its,n,h1,h2,h3,h4,h5⟩) (h6 G)))
noncomputable def OU(K:PySem.W.Frag):R2:=λx y H Q=>∃(G:Hp)(dx:D)(ls:List (List Nat)),Same G H/\Rep K G x dx/\Rep K G y (.tup (ls.map .str))/\(∀l∈ls,(eqD 40 (.str l) dx).isSome=true)/\Q (.bl (ls.any (CM dx))) H
noncomputable def eV(dx:D):Value->Bool
 |.str z _=>CM dx z.cps.toList
 |_=>false
theorem ya{K:PySem.W.Frag}{G:Hp}(dx:D):∀{ls:List (List Nat)}{vs:List V}{its:List Value},Reps K G vs (ls.map .str)->Vals vs its->its.any (eV dx)=ls.any (CM dx)/\∀u∈its,∃z t l,u=.str z t/\l∈ls/\z.cps.toList=l/\Rep K G (.str z) (.str l)
 | [],_,_,.nil,.nil=>⟨rfl,λ_ h=>by cases h⟩
 |l::ls,_,_,.cons r t,.cons q w=>by
  obtain⟨h1,h2⟩:=ya dx (ls:=ls) t w;obtain⟨z,rfl,ez,hz⟩:=r.str_inv;obtain⟨tk,rfl⟩:=q;refine⟨?_,λu hu=>?_⟩;·rw[List.any_cons,List.any_cons,h1];show(CM dx z.cps.toList || _)=_;rw[ez]
  ·rcases y9.1 hu with rfl|hu;·exact⟨z,tk,l,rfl,v8 ..,ez,r⟩
   ·obtain⟨z',t',l',e1,e2,e3,e4⟩:=h2 u hu;exact⟨z',t',l',e1,wB _ e2,e3,e4⟩
def Ls(hu:X.A.units+64<cLine):OpR X (compareOp .In) (OU X.K):=by
 intro pins s σ H x y v u Q I rx ry h;obtain⟨G,dx,ls,sub,r1,r2,he,q⟩:=h;obtain⟨c,its,vs,rfl,p,w,r⟩:=mT I sub r2 ry;obtain⟨h1,h2⟩:=ya dx r w;refine SeqAt.in_tupleAt (eV dx) p (λz hz=>?_) ?_
 ·obtain⟨z',t',l,rfl,m,ez,rr⟩:=h2 z (List.mem_toArray.1 hz);have e1:eqD 40 (.str l) dx=some (CM dx l):=by
   have:=he l m;unfold CM;cases q2:eqD 40 (.str l) dx with
   |none=>rw[q2]at this;cases this
   |some k=>rfl
  have e2:eV dx (.str z' t')=CM dx l:=by show CM dx z'.cps.toList=_;rw[ez]
  rw[e2];exact(xm I sub 40 X.A.in1 (.str l) dx _ (.str z') x (.str z' t') v (by show X.A.units+1+40<cLine;omega) e1 rr r1 ⟨t',rfl⟩ rx).eq
 ·have e:(List.toArray its).any (eV dx)=ls.any (CM dx):=by rw[<- h1];simp
  rw[e];exact⟨.bl _,H,I,rfl,q⟩
def Mq(K:PySem.W.Frag):ROk K (OU K) inTF:=by
 intro G H x y dx dy d Q s rx ry e q;unfold inTF at e;split at e
 ·split at e
  ·rename_i ls hs;split at e;·rename_i hl;cases e;have:=vi hs;subst this;exact⟨G,_,ls,s,rx,ry,sO.1 hl,q _ G H (.refl s) (.bl _)⟩
   ·cases e
  ·cases e
 ·cases e
def Kb(hu:X.A.units+64<cLine)(ha:PF X a ga)(hb:PF X b gb)(hm:behindInMarks .In b=false:=by rfl):PF X (.Compare a [.In] [b] pos) (g2 inTF ga gb):=ox (Ls hu) (Mq _) ha hb hm
end
noncomputable def qb(n:Nat):List Nat:=(Nat.toDigits 10 n).map Char.toNat
noncomputable def lh:List D->Option D
 | [.int i]=>if 0<=i/\i<10000000000 then some (.str (qb i.toNat))else none
 |_=>none
def oW{i:Int}(h0:0<=i)(h1:i<10000000000):i.natAbs.log2<1920:=by
 by_cases h:i.natAbs=0;·rw[h];decide
 ·refine(Nat.log2_lt h).2 (ww (show i.natAbs<2 ^ 34 by omega) (Nat.pow_le_pow_right (by decide) (by decide)))
def ss{i:Int}(h0:0<=i):(Str.ofString (toString i)).cps.toList=qb i.toNat:=by obtain⟨m,rfl⟩:=i7 h0;exact PySem.W.KIN.signs_num m
def B9{i:Int}(h0:0<=i)(h1:i<10000000000):(qb i.toNat).length<=sizeLine:=by rw[<- ss h0,Str.len_list];exact int_text_fits (oW h0 h1)
noncomputable def Gi:List V->Hp->VK->Prop:=λxs H Q=>∃i:Int,xs=[.int i]/\0<=i/\i<10000000000/\Q (.str (Str.ofString (toString i))) H
section
variable{a b c e e1 e2 e3 e4 e5:Expr}{ga gc g1 g2' g3' g4 g5:Ev->R D}{pos:Pos}
def yV:kz X (.type "str") Gi:=by intro pins s σ H xs us Q I r ⟨i,ex,h0,h1,q⟩;subst ex;obtain⟨u,rfl,r1⟩:=r.one;obtain⟨t,rfl⟩:=r1;exact P.str_of_int (oW h0 h1) ⟨.str _,H,I.tok _,⟨_,rfl⟩,q⟩
def Da(K:PySem.W.Frag):IV K Gi lh:=by
 intro G H xs ds d Q s r e q;unfold lh at e;split at e
 ·split at e;·rename_i hc;cases e;obtain⟨v,rfl,r1⟩:=r.one;obtain rfl:=r1.int_inv;exact⟨_,rfl,hc.1,hc.2,q _ G H (.refl s) (.strL (ss hc.1) (B9 hc.1 hc.2))⟩
  ·cases e
 ·cases e
def oB(hg:Gl X "str")(hm:X.mg "str"=none)(ha:PFA X [e] gl)(he:starEach [e] X.env=(false,eval e X.env)::starEach [] X.env:=by rfl):
  PF X (.Call (.Name "str" p) [e] [] pos) (gOf lh gl):=ul yV (Da _) hg hm PyProof.Rows.Boot.«str» ha (by decide) (by decide) he rfl
noncomputable def wy:D->R D
 |.int i=>if 0<=i/\i<10000000000 then .ok (.str (qb i.toNat))else .no
 |.str x=>.ok (.str x)
 |_=>.no
def pB(h:PF X e ga):PF X (.FormattedValue e (-1) none pos) (aB wy ga):=by
 intro pins s σ H Q I q;obtain⟨G,ρ,st,q⟩:=q;refine FormattedValue_plain (thn (h pins s σ H (λv H1=>∃G1 d,Up G H G1 H1/\Rep X.K G1 v d/\StE X.K G1 H1 σ ρ/\(wy d).post (Fin G1 H1 (Rep X.K) Q) (Exx X σ G1 H1)) I ?_) λu s1 ⟨v,H1,I1,r1,q1⟩=>?_);·exact tG.intro st q λd v G1 H1 u1 st1 r1 h1=>⟨G1,d,u1,r1,st1,h1⟩
 ·obtain⟨G1,d,u1,rr,st1,h1⟩:=q1;unfold wy at h1;split at h1
  ·split at h1;·rename_i hc;obtain rfl:=rr.int_inv;obtain⟨t,rfl⟩:=r1;exact wpAny_formatField_int (oW hc.1 hc.2) ⟨.str _,H1,I1.tok _,⟨_,rfl⟩,h1 _ G1 H1 (.refl st1.sub) (.strL (ss hc.1) (B9 hc.1 hc.2))⟩
   ·exact h1.elim
  ·obtain⟨y,rfl,ey,hy⟩:=rr.str_inv;obtain⟨t,rfl⟩:=r1;exact formatField_str (λt' tk=>⟨.str _,H1,I1.tok _,⟨_,rfl⟩,h1 _ G1 H1 (.refl st1.sub) rr⟩) hy
  ·exact h1.elim
noncomputable def pw:List (Ev->R D)->List Nat->Ev->R D
 | [],out=>λ_=>.ok (.str out)
 |g::gs,out=>λρ=>g ρ>>=λd=>match d with
  |.str x=>if (out++x).length<=sizeLine then pw gs (out++x) ρ else .no
  |_=>.no
noncomputable def uw(gs:List (Ev->R D)):Ev->R D:=pw gs []
def wv{out:Str}{Q:VK}(I:Inv X pins σ H s)(st:StE X.K G H σ ρ)(hz:out.length<=sizeLine)(h:(pw [] out.cps.toList ρ).post (Fin G H (Rep X.K) Q) (Exx X σ G H)):wpAny (model X.prog X.w) X.A (joinParts out []) (EP X pins σ Q) X.xe s:=
 joinParts_nil ⟨.str _,H,I.tok _,⟨_,rfl⟩,h _ G H (.refl st.sub) (.str out hz)⟩ hz
def eI{out:Str}{Q:VK}{fV:List (Sem Value)}(he:PF X e ga)(I:Inv X pins σ H s)(st:StE X.K G H σ ρ)(h:(pw (ga::gs) out.cps.toList ρ).post (Fin G H (Rep X.K) Q) (Exx X σ G H))(k:∀(out':Str)(s1:Shared)(H1 G1:Hp),Inv X pins σ H1 s1->StE X.K G1 H1 σ ρ->out'.length<=sizeLine->(pw gs out'.cps.toList ρ).post (Fin G1 H1 (Rep X.K) Q) (Exx X σ G1 H1)->wpAny (model X.prog X.w) X.A (joinParts out' fV) (EP X pins σ Q) X.xe s1):
  wpAny (model X.prog X.w) X.A (joinParts out (eval e X.env::fV)) (EP X pins σ Q) X.xe s:=by
 refine joinParts_cons (thn (he pins s σ H (λv H1=>∃G1 d,StE X.K G1 H1 σ ρ/\Rep X.K G1 v d/\(match d with
  |.str x=>if (out.cps.toList++x).length<=sizeLine then pw gs (out.cps.toList++x) ρ else .no
  |_=>.no:R D).post (Fin G1 H1 (Rep X.K) Q) (Exx X σ G1 H1)) I ?_) λu s1 ⟨v,H1,I1,r1,q1⟩=>?_);·exact tG.intro st h λd v G1 H1 u1 st1 r1 h1=>⟨G1,d,st1,r1,h1⟩
 ·obtain⟨G1,d,st1,rr,h1⟩:=q1;split at h1
  ·split at h1
   ·rename_i hc;obtain⟨y,rfl,ey,hy⟩:=rr.str_inv;obtain⟨t,rfl⟩:=r1;subst ey;have e1:(out++y).cps.toList=out.cps.toList++y.cps.toList:=Str.app_list ..;have e2:(out++y).length<=sizeLine:=by rw[<- Str.len_list,e1];exact hc
    exact⟨e2,k _ s1 H1 G1 I1 st1 e2 (by rw[e1];exact h1)⟩
   ·exact h1.elim
  ·exact h1.elim
def sX(h1:PF X e1 g1)(h2:PF X e2 g2')(h3:PF X e3 g3'):PF X (.JoinedStr [e1,e2,e3] pos) (uw [g1,g2',g3']):=by intro pins s σ H Q I q;obtain⟨G,ρ,st,q⟩:=q;refine JoinedStr_many ?_;show wpAny _ _ (joinParts Str.empty [eval e1 X.env,eval e2 X.env,eval e3 X.env]) _ _ _;refine eI h1 I st (out:=Str.empty) q λo1 s1 H1 G1 I1 st1 z1 q1=>eI h2 I1 st1 q1 λo2 s2 H2 G2 I2 st2 z2 q2=>eI h3 I2 st2 q2 λo3 s3 H3 G3 I3 st3 z3 q3=>wv I3 st3 z3 q3
def IL(h1:PF X e1 g1)(h2:PF X e2 g2')(h3:PF X e3 g3')(h4:PF X e4 g4)(h5:PF X e5 g5):PF X (.JoinedStr [e1,e2,e3,e4,e5] pos) (uw [g1,g2',g3',g4,g5]):=by intro pins s σ H Q I q;obtain⟨G,ρ,st,q⟩:=q;refine JoinedStr_many ?_;show wpAny _ _ (joinParts Str.empty [eval e1 X.env,eval e2 X.env,eval e3 X.env,eval e4 X.env,eval e5 X.env]) _ _ _;refine eI h1 I st (out:=Str.empty) q λo1 s1 H1 G1 I1 st1 z1 q1=>eI h2 I1 st1 q1 λo2 s2 H2 G2 I2 st2 z2 q2=>eI h3 I2 st2 q2 λo3 s3 H3 G3 I3 st3 z3 q3=>eI h4 I3 st3 q3 λo4 s4 H4 G4 I4 st4 z4 q4=>eI h5 I4 st4 q4 λo5 s5 H5 G5 I5 st5 z5 q5=>wv I5 st5 z5 q5
noncomputable def ON(x:List Nat):Nat:=x.foldl (λa c=>a * 10+(c - 48)) 0
noncomputable def MH(x:List Nat):Bool:=x.all λc=>decide (48<=c) && decide (c<=57)
noncomputable def zi:List D->Option D
 | [.str x]=>if MH (x.dropWhile (·==32))=true/\x.dropWhile (·==32)≠[]/\x.length<=640 then some (.int ((ON (x.dropWhile (·==32)):Nat):Int))else none
 |_=>none
def BW{x:Str}(hd:MH (x.cps.toList.dropWhile (·==32))=true)(hn:x.cps.toList.dropWhile (·==32)≠[])(hl:x.length<=640):PySem.intText? x=some ((ON (x.cps.toList.dropWhile (·==32)):Nat):Int):=by
 have hA:NumText.AllDigits (x.cps.toList.dropWhile (·==32)):=λc hc=>by have:=sO.1 hd c hc;simp only[sH,pi]at this;exact this
 have key:∀l:List Nat,NumText.AllDigits (l.dropWhile (·==32))->l.dropWhile (·==32)≠[]->(l.dropWhile NumText.blank=l.dropWhile (·==32))/\∀c∈l,c=32\/48<=c/\c<=57:=by
  intro l;induction l with
  |nil=>intro _ h;exact absurd rfl h
  |cons c l ih=>
   intro h1 h2;by_cases e:c=32
   ·subst e;have e1:(32::l).dropWhile (·==32)=l.dropWhile (·==32):=Zd (by decide);rw[e1]at h1 h2⊢;obtain⟨a,b⟩:=ih h1 h2;refine⟨?_,λd hd=>?_⟩;·rw[Zd (by decide)];exact a
    ·rcases y9.1 hd with rfl|hd;·exact .inl rfl
     ·exact b d hd
   ·have e1:(c::l).dropWhile (·==32)=c::l:=List.dropWhile_cons_of_neg (by simpa using e);rw[e1]at h1 h2⊢;exact⟨NumText.dropWhile_digits h1,λd hd=>.inr (h1 d hd)⟩
 obtain⟨k1,k2⟩:=key _ hA hn;have t1:numTextOf x=x.cps.toList:=if_pos (by
  rw[<- Array.all_toList];exact sO.2 λc hc=>by have:=k2 c hc;exact vh (by omega));have t2:numSeenOf x=x.cps.toList:=by
  show List.takeWhile _ (numTextOf x)=_;rw[t1];exact NumText.takeWhile_all λc hc=>by have:=k2 c hc;exact bne_iff_ne.2 (by omega)
 let y:Str:=⟨(x.cps.toList.dropWhile (·==32)).toArray⟩
 have ey:y.cps.toList=x.cps.toList.dropWhile (·==32):=d0 ..;have hy:y.length<=4300:=by rw[<- Str.len_list,ey];have:(x.cps.toList.dropWhile (·==32)).length<=x.cps.toList.length:=(List.dropWhile_suffix _).length_le;rw[Str.len_list]at this;omega
 have r:=intText_digits (x:=y) (by rw[ey];exact hA) (by rw[ey];exact hn) hy;obtain⟨u1,u2⟩:=numText_signs (x:=y) λc hc=>.inr (hA c (by rw[<- ey];exact hc));have b1:x.cps.toList.dropWhile NumText.blank=(x.cps.toList.dropWhile (·==32)).dropWhile NumText.blank:=by rw[k1,NumText.dropWhile_digits hA]
 unfold intText? at r⊢;rw[u1,u2,ey,if_pos (j7 _)]at r;rw[t1,t2,if_pos (j7 _)];unfold NumText.core at r⊢;rw[b1];exact r
noncomputable def KY:List V->Hp->VK->Prop:=λxs H Q=>∃(y:Str)(n:Int),xs=[.str y]/\PySem.intText? y=some n/\y.length<=640/\Q (.int n) H
def Ci:kz X (.type "int") KY:=by intro pins s σ H xs us Q I r ⟨y,n,ex,h0,h1,q⟩;subst ex;obtain⟨u,rfl,r1⟩:=r.one;obtain⟨t,rfl⟩:=r1;exact PySem.W.KIN.call_text h0 h1 ⟨.int _,H,I.tok _,⟨_,rfl⟩,q⟩
def G9(K:PySem.W.Frag):IV K KY zi:=by
 intro G H xs ds d Q s r e q;unfold zi at e;split at e
 ·split at e;·rename_i hc;cases e;obtain⟨v,rfl,r1⟩:=r.one;obtain⟨y,rfl,ey,hy⟩:=r1.str_inv;subst ey;rw[Str.len_list]at hc;exact⟨y,_,rfl,BW hc.1 hc.2.1 hc.2.2,hc.2.2,q _ G H (.refl s) (.int _)⟩
  ·cases e
 ·cases e
def CC(hg:Gl X "int")(hm:X.mg "int"=none)(ha:PFA X [e] gl)(he:starEach [e] X.env=(false,eval e X.env)::starEach [] X.env:=by rfl):
  PF X (.Call (.Name "int" p) [e] [] pos) (gOf zi gl):=ul Ci (G9 _) hg hm PyProof.Rows.Boot.«int» ha (by decide) (by decide) he rfl
noncomputable def HV:D->D->Option D
 |.int a,.int n=>if 0<=n/\n<=1000/\a.natAbs<2 ^ 64 then some (.int (a ^ n.toNat))else none
 |_,_=>none
noncomputable def OH:R2:=λx y H Q=>∃a n:Int,x=.int a/\y=.int n/\0<=n/\n<=1000/\a.natAbs<2 ^ 64/\Q (.int (a ^ n.toNat)) H
def Gu:OpR X (binaryOp .Pow) OH:=by intro pins s σ H x y v u Q I rx ry ⟨a,n,ex,ey,h0,h1,h2,q⟩;subst ex ey;obtain⟨t,rfl⟩:=rx;obtain⟨t',rfl⟩:=ry;exact pow_int_small h0 (by omega) h2 ⟨.int _,H,I.tok _,⟨_,rfl⟩,q⟩
def JV(K:PySem.W.Frag):ROk K OH HV:=by
 intro G H x y dx dy d Q s rx ry e q;unfold HV at e;split at e
 ·split at e;·rename_i hc;cases e;exact⟨_,_,rx.int_inv,ry.int_inv,hc.1,hc.2.1,hc.2.2,q _ G H (.refl s) (.int _)⟩
  ·cases e
 ·cases e
def yQ(ha:PF X a ga)(hb:PF X b gb):PF X (.BinOp a .Pow b pos) (g2 HV ga gb):=rq Gu (JV _) ha hb
end
noncomputable def eY(c:Nat):List Nat->List (List Nat)
 | []=>[[]]
 |d::r=>if d=c then []::eY c r else (match eY c r with
  |p::ps=>(d::p)::ps
  | []=>[[d]])
theorem rA{c:Nat}:∀{p:List Nat},c∉p->eY c p=[p]
 | [],_=>rfl
 |d::p,h=>by have h1 : ¬ d=c:=λz=>h (by rw[z];exact v8 ..);have h2:=rA (c:=c) (p:=p) λz=>h (wB _ z);rw[eY,if_neg h1,h2]
theorem rC{c:Nat}(r:List Nat):∀{p:List Nat},c∉p->eY c (p++c::r)=p::eY c r
 | [],_=>by rw[nu,eY,if_pos rfl]
 |d::p,h=>by have h1 : ¬ d=c:=λz=>h (by rw[z];exact v8 ..);have h2:=rC r (c:=c) (p:=p) λz=>h (wB _ z);rw[Z4,eY,if_neg h1,h2]
theorem oN{c:Nat}:∀{ps:List (List Nat)},ps≠[]->(∀p∈ps,c∉p)->eY c (pX [c] ps)=ps
 | [],h,_=>absurd rfl h
 | [p],_,h=>rA (h p (v8 ..))
 |p::q::r,_,h=>by have ih:=oN (c:=c) (ps:=q::r) (by simp) λz hz=>h z (wB _ hz);show eY c (p++[c]++pX [c] (q::r))=_;rw[n8];show eY c (p++c::pX [c] (q::r))=_;rw[rC _ (h p (v8 ..)),ih]
def DA(x y:Str):Txt.split x y≠[]:=by
 unfold Txt.split;split;·simp
 ·split;·simp
  ·intro z;have:=vF List.length z;rw[length_partsBetween]at this;simp at this
def mB(x:Str)(c:Nat):(Txt.split x ⟨#[c]⟩).map (λy=>y.cps.toList)=eY c x.cps.toList:=by have h1:=StrLaws.join_split x ⟨#[c]⟩;have h2:=nh ⟨#[c]⟩ (Txt.split x ⟨#[c]⟩);have h3:Txt.join ⟨#[c]⟩ (Txt.split x ⟨#[c]⟩)=x:=(StrLaws.glued_eq_join _ _).trans h1;rw[h3]at h2;rw[h2];refine(oN (c:=c) (by simpa using DA x _) λp hp=>?_).symm;obtain⟨y,hy,rfl⟩:=qh.1 hp;exact StrLaws.split_free x c y hy
theorem qY(c:Nat):∀x:List Nat,(eY c x).length<=x.length+1
 | []=>by simp[eY]
 |d::r=>by
  have ih:=qY c r;unfold eY;split;·simp;omega
  ·split;·rename_i p ps e;rw[e]at ih;simp at ih⊢;omega
   ·simp
theorem vE(c:Nat):∀(x:List Nat),∀p∈eY c x,p.length<=x.length
 | [],p,h=>by simp[eY]at h;subst h;simp
 |d::r,p,h=>by
  have ih:=vE c r;unfold eY at h;split at h
  ·rcases y9.1 h with rfl|h;·simp
   ·have:=ih p h;simp;omega
  ·split at h
   ·rename_i q ps e;rw[e]at ih;rcases y9.1 h with rfl|h;·have:=ih q (v8 ..);simp;omega
    ·have:=ih p (wB _ h);simp;omega
   ·simp at h;subst h;simp
noncomputable def rD:D->List D->Option D
 |.str x,[.str [c]]=>if x.length<=10000 then some (.lst false ((eY c x).map .str))else none
 |_,_=>none
section
variable{a b c e:Expr}{ga:Ev->R D}{pos:Pos}
def A6{prog:Program}{w:World}{A:Around}{x:Str}{t u:Tok}{Q:Value->Shared->Prop}(hy:(y.length==0)=false)(hsz:x.length<=sizeLine)(hsz2:(Builtin.Str.partsBetween x (Builtin.Str.occurrences x y 0 x.length (x.length+1)) y.length).length<=sizeLine)(hq:∀(l:List (Str×Tok))(k:Nat),l.map (·.1)=Txt.split x y->Q (.ref s.heap.objs.size) { s with toks:=k,heap:=s.heap.push { cls:=.type "list",data:=.seq (strValues l).toArray } }):
  wpAny (model prog w) A (call (.builtin "str.split") [.str x t,.str y u]) Q E s:=by
 have T:=oR s x t;by_cases g1:(decide (x.length<y.length) || decide (Builtin.Str.strKind x<Builtin.Str.strKind y))=true;·exact uR Z5 T Z6 (Z7 _ _) (meets_str_split_cannot_occur x y t u g1) (hq [(x,t)] s.toks (if_pos g1).symm)
 ·have g1':=eq_false_of_ne_true g1;by_cases g2:(Builtin.Str.occurrences x y 0 x.length (x.length+1)).isEmpty=true;·exact uR Z5 T Z6 (Z7 _ _) (meets_str_split_not_found x y t u g1' hy g2) (hq [(x,t)] s.toks ((if_neg g1).trans (if_pos g2)).symm)
  ·have g2':=eq_false_of_ne_true g2;have key:=hq (PySem.numbered s.toks (Builtin.Str.partsBetween x (Builtin.Str.occurrences x y 0 x.length (x.length+1)) y.length)) (s.toks+(Builtin.Str.partsBetween x (Builtin.Str.occurrences x y 0 x.length (x.length+1)) y.length).length) ((numbered_texts _ _).trans ((if_neg g1).trans (if_neg g2)).symm);rw[<- strsFrom_eq]at key;exact uR Z5 T Z6 (Z7 _ _) (meets_str_split_sep x y t u g1' hy g2' hsz hsz2) key
noncomputable def FV:V->List V->Hp->VK->Prop:=λx vs H Q=>∃(y:Str)(c:Nat),x=.str y/\vs=[.str ⟨#[c]⟩]/\y.length<=10000/\∀l,H l=none->Q (.ref l) (upd H l (.lst ((Txt.split y ⟨#[c]⟩).map V.str)))
theorem BC:∀l:List (Str×Tok),Vals ((l.map (·.1)).map V.str) (strValues l)
 | []=>.nil
 | (y,t)::l=>.cons ⟨t,rfl⟩ (BC l)
def EM:MtR X "str.split" FV:=by
 intro pins s σ H x xs v us Q I rx rv ⟨y,c,ex,exs,hz,q⟩;subst ex exs;obtain⟨t,rfl⟩:=rx;obtain⟨u,rfl,r1⟩:=rv.one;obtain⟨t',rfl⟩:=r1;have big:20000<=sizeLine:=by decide
 have hp:(Builtin.Str.partsBetween y (Builtin.Str.occurrences y ⟨#[c]⟩ 0 y.length (y.length+1)) (⟨#[c]⟩:Str).length).length<=sizeLine:=by rw[length_partsBetween];have:=StrLaws.occ_length_le y ⟨#[c]⟩ 0 y.length (y.length+1);omega
 refine A6 rfl (by omega) hp λl k hl=>?_;have hlen:(Txt.split y ⟨#[c]⟩).length<=sizeLine:=by have e:=vF List.length (mB y c);rw[wU]at e;have:=qY c y.cps.toList;rw[Str.len_list]at this;omega
 refine⟨.ref s.heap.objs.size,_,I.laid (t':=k) (λb o q=>zL _ q) (zq _) (show ObjOk X.prog X.w _ _ _ (.lst ((Txt.split y ⟨#[c]⟩).map V.str)) from⟨by rw[wU];exact hlen,strValues l,_,by rw[<- hl];exact BC l,xj _ rfl⟩),rfl,q _ (I.hok.fresh (zq _))⟩
theorem uW{K:PySem.W.Frag}{G:Hp}:∀ys:List Str,(∀y∈ys,y.length<=sizeLine)->Reps K G (ys.map V.str) ((ys.map λy=>y.cps.toList).map .str)
 | [],_=>.nil
 |y::ys,h=>.cons (.str y (h y (v8 ..))) (uW ys λz hz=>h z (wB _ hz))
def Ff(K:PySem.W.Frag):Bs K "str" FV rD:=by
 intro G H x xs dx ds d Q s rx rs e q;unfold rD at e;split at e
 ·split at e;·rename_i x0 c hc;cases e;obtain⟨v,rfl,r1⟩:=rs.one;obtain⟨i,rfl,ei,hi⟩:=rx.str_inv;obtain⟨j,rfl,ej,hj⟩:=r1.str_inv;subst ei;have:j=⟨#[c]⟩:=(Str.of_list ej).symm;subst this;rw[Str.len_list]at hc;refine⟨i,c,rfl,rfl,hc,λl hl=>q _ _ _ (.new s hl) (.lst aV ?_)⟩;rw[<- mB];refine Reps.mono (.into (s.free hl)) (uW _ λy hy=>?_);have:=vE c i.cps.toList y.cps.toList (by rw[<- mB];exact qh.2 ⟨y,hy,rfl⟩);rw[Str.len_list,Str.len_list]at this;exact xk this hi
  ·cases e
 ·cases e
def xF{o:Expr}{ap cp:Pos}(ho:PF X o ga)(ha:PFA X [e] gl)(hbase:attributeBase o "split" X.env (eval o X.env)=eval o X.env:=by rfl)(hfew:((backTo cp (starEach [e] X.env)).all (λx=>!x.1) && (backToKw cp (keywordEach [] X.env)).all (λx=>x.1.isSome)
 && decide ([e].length+([]:List Keyword).length+(if ([]:List Keyword).isEmpty then 0 else 1)<30))=true:=by rfl)(hline:(ap.endLine==cp.line)=true:=by rfl)(hs:starEach [e] X.env=(false,eval e X.env)::starEach [] X.env:=by rfl):
  PF X (.Call (.Attribute o "split" ap) [e] [] cp) (eS "str" rD ga gl):=iu qi PySem.F.slot_str_split PySem.F.type_str_split EM (Ff _) ho ha hbase hfew hline hs rfl
end
noncomputable def Nz(j i:Nat)(gl:Ev->R (List D)):Ev->O:=λρ=>(fq (gl (frz j ρ))).out ρ λds=>if ds.all (fl 10)=true then .nx (ρ.set i (some (.own ds)))else .no
noncomputable def itN(b:Bool):String:=if b then "tuple_iterator" else "list_iterator"
noncomputable def sqN(b:Bool):String:=if b then "tuple" else "list"
noncomputable def SIt(b:Bool)(h:Heap)(it a:Addr)(k:Nat):Prop:=∃o,h.get? it=some o/\o.cls=.type (itN b)/\o.data=.fields #[.ref a,.int k 0]
noncomputable def SSq(b:Bool)(h:Heap)(a:Addr)(xs:Array Value):Prop:=∃o,h.get? a=some o/\o.cls=.type (sqN b)/\∃n,o.data=.seq xs n
def SIt.ext{b:Bool}{c:Addr}(x:SIt b h it a k)(hs:Heap.ExtBut c h h')(n:it≠c):SIt b h' it a k:=let⟨o,ho,r⟩:=x;⟨o,hs it o n ho,r⟩
def SSq.ext{b:Bool}{c:Addr}{xs:Array Value}(x:SSq b h a xs)(hs:Heap.ExtBut c h h')(n:a≠c):SSq b h' a xs:=let⟨o,ho,r⟩:=x;⟨o,hs a o n ho,r⟩
def SIt.at{b:Bool}(x:SIt b h it a k)(f:∀o,h.get? it=some o->h'.get? it=some o):SIt b h' it a k:=let⟨o,ho,r⟩:=x;⟨o,f o ho,r⟩
section
variable{prog:Program}{w:World}{A:Around}
def ou{b:Bool}{xs:Array Value}{x:Value}{Q:Value->Shared->Prop}(hit:SIt b s.heap it a k)(hs:SSq b s.heap a xs)(hx:xs[k]?=some x)(hQ:∀h',SIt b h' it a (k+1)->Heap.SameBut it s.heap h'->Q x { s with heap:=h' }):wpAny (model prog w) A (Builtin.SmallTypes.nextOf (.ref it)) Q E s:=by
 cases b with
 |false=>exact wpAny_nextOf_list_item (l:=a) hit hs hx hQ
 |true=>
  obtain⟨o,ho,hc,hd⟩:=id hit;obtain⟨ol,hol,c2,nl,hdl⟩:=hs;have hT:s.TypeIs (.ref it) "tuple_iterator":=⟨o,ho,hc⟩
  unfold Builtin.SmallTypes.nextOf;refine z9 (sk (name:=Str.ofString "__next__") hT qm (sv qm hT jt ?_ (i4 _)));show wpAny _ _ (field (.ref it) 0>>=_) _ _ s;refine z9 (w9 ho hd (x:=.ref a) rfl ?_);show wpAny _ _ (if (Value.ref a==Value.none)=true then _ else _) _ _ s;rw[if_neg (show ¬ ((Value.ref a==Value.none)=true) from xR)];show wpAny _ _ (field (.ref it) 1>>=_) _ _ s;refine z9 (w9 ho hd (x:=.int k 0) rfl ?_);show wpAny _ _ (seqItems? (.ref a)>>=_) _ _ s;refine z9 (tD hol hdl ?_);simp only[uH,hx];refine z9 (mP ho hd (by simp) (zd ⟨x,rfl,zd (hQ _ ?_ (l5 ..))⟩));exact⟨_,n0 _ ho (bY (pb hd _)),(Obj.cls_mapFields ..).trans hc,by rw[pb hd];simp[rawInt]⟩
def En{b:Bool}{xs:Array Value}{Q:Value->Shared->Prop}(hh:A.handled=none)(hit:SIt b s.heap it a k)(hs:SSq b s.heap a xs)(hx:xs[k]?=none)(hE:∀h' e,Heap.ExtBut it s.heap h'->(∃o,h'.get? e=some o/\o.cls=.type "StopIteration")->E (.ref e) { s with heap:=h' }):wpAny (model prog w) A (Builtin.SmallTypes.nextOf (.ref it)) Q E s:=by
 cases b with
 |false=>exact aT hh (l:=a) hit hs hx hE
 |true=>
  obtain⟨o,ho,hc,hd⟩:=id hit;obtain⟨ol,hol,c2,nl,hdl⟩:=hs;have hT:s.TypeIs (.ref it) "tuple_iterator":=⟨o,ho,hc⟩
  unfold Builtin.SmallTypes.nextOf;refine z9 (sk (name:=Str.ofString "__next__") hT qm (sv qm hT jt ?_ (i4 _)));show wpAny _ _ (field (.ref it) 0>>=_) _ _ s;refine z9 (w9 ho hd (x:=.ref a) rfl ?_);show wpAny _ _ (if (Value.ref a==Value.none)=true then _ else _) _ _ s;rw[if_neg (show ¬ ((Value.ref a==Value.none)=true) from xR)];show wpAny _ _ (field (.ref it) 1>>=_) _ _ s;refine z9 (w9 ho hd (x:=.int k 0) rfl ?_);show wpAny _ _ (seqItems? (.ref a)>>=_) _ _ s;refine z9 (tD hol hdl ?_);simp only[uH,hx];refine z9 (qu (z9 (mP ho hd (by simp) ?_)));show wpAny _ _ (newExc (.type "StopIteration") []>>=_) _ _ _;refine z9 ?_;simp only[newExc,newTuple];refine z9 (u6 ?_ (by size_fits));refine z9 (m:=firstArgMember _ _) (j6 (a:=Value.none) (by first|rfl|(simp only[firstArgMember];rfl)) ?_);refine u6 ?_ (by size_fits);simp only[raiseNew];refine z9 (wpAny_handled ?_)
  first|rw[show A.in1.handled=none from hh]|(rw[hh];skip)
  refine z9 (zd (wpAny_throw ?_));exact hE _ _ (((l5 ..).extBut.push _).push _) ⟨_,xj _ rfl,rfl⟩
def sJ{b:Bool}{xs:Array Value}{Q:Value->Shared->Prop}(hs:SSq b s.heap a xs)(hQ:Q (.ref s.heap.objs.size) { s with heap:=s.heap.push { cls:=.type (itN b),data:=.fields #[.ref a,.int 0 0] } }):
  wpAny (model prog w) A (pyIter (.ref a)) Q E s:=by
 cases b with
 |false=>exact k9 (l:=a) hs hQ
 |true=>exact kG (t:=a) hs hQ
noncomputable abbrev uQ(h:Heap)(T:Addr)(a b c:Value):Prop:=h.get? T=some { cls:=.type "tuple",data:=.seq #[a,b,c] }
def CA{T:Addr}{a b c x:Value}{Q:Unit->Shared->Prop}(hT:uQ s.heap T a b c)(h:∀h',h'.get? T=some { cls:=.type "tuple",data:=.seq ((#[a,b,c]:Array Value).setIfInBounds k x) }->Heap.SameBut T s.heap h'->Q () { s with heap:=h' }):wpAny (model prog w) A (updateSeq T (·.setIfInBounds k x)) Q E s:=by
 refine wpAny_updateSeq hT rfl (h _ ?_ (l5 ..));rw[n0 _ hT rfl];simp[Obj.mapSeq]
structure Z3(z TI TO i1 i2 i3 l1 l2 l3:Addr):Prop where
 nd:[z,TI,TO,i1,i2,i3].Nodup
 ap:∀l∈[l1,l2,l3],l∉[z,TO,i1,i2,i3]
theorem Cu{z TI TO i1 i2 i3 l1 l2 l3:Addr}{b1 b2 b3:Bool}{xs ys zs:Array Value}{x y u a b c:Value}{Q:Option Value->Shared->Prop}(D:Z3 z TI TO i1 i2 i3 l1 l2 l3)(hz:IsZip s.heap z TI TO .none)(hTI:uQ s.heap TI (.ref i1) (.ref i2) (.ref i3))(hTO:uQ s.heap TO a b c)(h1:SIt b1 s.heap i1 l1 k)(h2:SIt b2 s.heap i2 l2 k)(h3:SIt b3 s.heap i3 l3 k)(hl1:SSq b1 s.heap l1 xs)(hl2:SSq b2 s.heap l2 ys)(hl3:SSq b3 s.heap l3 zs)(hx:xs[k]?=some x)(hy:ys[k]?=some y)(hu:zs[k]?=some u)(hQ:∀h',IsZip h' z TI TO (rawInt s.heap.objs.size)->uQ h' TO x y u->SIt b1 h' i1 l1 (k+1)->SIt b2 h' i2 l2 (k+1)->SIt b3 h' i3 l3 (k+1)->uQ h' s.heap.objs.size x y u->h'.objs.size=s.heap.objs.size+1->
 (∀e o,e∉[z,TO,i1,i2,i3]->s.heap.get? e=some o->h'.get? e=some o)->Q (some (.ref s.heap.objs.size)) { s with heap:=h' }):wpAny (model prog w) A (pyNext (.ref z)) Q E s:=by
 have nd:=D.nd;have p1:=D.ap l1 (by simp);have p2:=D.ap l2 (by simp);have p3:=D.ap l3 (by simp);simp only[t9,y9,xu,xv,not_or]at nd p1 p2 p3;obtain⟨⟨zTI,zTO,z1,z2,z3⟩,⟨TITO,TI1,TI2,TI3⟩,⟨TO1,TO2,TO3⟩,⟨n12,n13⟩,n23,_⟩:=nd;obtain⟨p1z,p1T,p11,p12,p13⟩:=p1;obtain⟨p2z,p2T,p21,p22,p23⟩:=p2;obtain⟨p3z,p3T,p31,p32,p33⟩:=p3;have hT:s.TypeIs (.ref z) "zip":=⟨_,hz,rfl⟩
 unfold pyNext;refine z9 (p8 (sk (name:=Str.ofString "__next__") hT i8 (sv i8 hT F.entry_zip_next ?_ (F.args_zip_next_1 _))));show wpAny _ _ (field (.ref z) 2>>=_) _ _ _;refine z9 (w9 hz rfl (x:=.bool false) rfl ?_);show wpAny _ _ (field (.ref z) 3>>=_) _ _ _;refine z9 (w9 hz rfl (x:=.ref TI) rfl ?_);refine z9 (tD hTI rfl ?_);show wpAny _ _ (Builtin.SmallTypes.ownedTupleIsFree (.ref z)>>=_) _ _ _;refine z9 ?_;unfold Builtin.SmallTypes.ownedTupleIsFree;refine wpAny_bind (wpAny_field hz rfl (x:=.none) rfl (wpAny_pure ?_));simp only[xK];refine z9 (qu ?_);refine z9 (w9 hz rfl (x:=.ref TO) rfl ?_);refine z9 (l6 hz (by simp) λg1 hz1 s1=>?_);replace hz1:IsZip g1 z TI TO .ellipsis:=hz1;refine z9 ?_;simp only[List.zipIdx_cons,List.zipIdx_nil,d5,List.forIn_nil];refine z9 (z9 (p9 ?_));show wpAny _ _ (Builtin.SmallTypes.nextOf (.ref i1)>>=_) _ _ _;refine z9 (ou (h1.ext s1.extBut (yR z1)) (hl1.ext s1.extBut p1z) hx λg2 q1 s2=>zd ?_);have T2:uQ g2 TO a b c:=s2.extBut _ _ TO1 (s1.extBut _ _ (yR zTO) hTO);refine z9 (tD T2 rfl ?_);refine z9 (CA T2 λg3 T3 s3=>?_);replace T3:uQ g3 TO x b c:=T3;refine z9 (wpAny_letGo (zd ?_));refine z9 (z9 (p9 ?_));show wpAny _ _ (Builtin.SmallTypes.nextOf (.ref i2)>>=_) _ _ _;refine z9 (ou (((h2.ext s1.extBut (yR z2)).ext s2.extBut (yR n12)).ext s3.extBut (yR TO2)) (((hl2.ext s1.extBut p2z).ext s2.extBut p21).ext s3.extBut p2T) hy λg4 q2 s4=>zd ?_);have T4:uQ g4 TO x b c:=s4.extBut _ _ TO2 T3;refine z9 (tD T4 rfl ?_);refine z9 (CA T4 λg5 T5 s5=>?_);replace T5:uQ g5 TO x y c:=T5;refine z9 (wpAny_letGo (zd ?_));refine z9 (z9 (p9 ?_));show wpAny _ _ (Builtin.SmallTypes.nextOf (.ref i3)>>=_) _ _ _;refine z9 (ou (((((h3.ext s1.extBut (yR z3)).ext s2.extBut (yR n13)).ext s3.extBut (yR TO3)).ext s4.extBut (yR n23)).ext s5.extBut (yR TO3)) (((((hl3.ext s1.extBut p3z).ext s2.extBut p31).ext s3.extBut p3T).ext s4.extBut p32).ext s5.extBut p3T) hu λg6 q3 s6=>zd ?_);have T6:uQ g6 TO x y c:=s6.extBut _ _ TO3 T5;refine z9 (tD T6 rfl ?_);refine z9 (CA T6 λg7 T7 s7=>?_);replace T7:uQ g7 TO x y u:=T7;refine z9 (wpAny_letGo (zd (zd ?_)));refine z9 (tD T7 rfl ?_);refine z9 (wpAny_newTuple ?_);have hsz:g7.objs.size=s.heap.objs.size:=by rw[s7.1,s6.1,s5.1,s4.1,s3.1,s2.1,s1.1]
 have hz7:IsZip g7 z TI TO .ellipsis:=s7.extBut _ _ zTO (s6.extBut _ _ z3 (s5.extBut _ _ zTO (s4.extBut _ _ z2 (s3.extBut _ _ zTO (s2.extBut _ _ z1 hz1)))));have hk:∀e o,e∉[z,TO,i1,i2,i3]->s.heap.get? e=some o->g7.get? e=some o:=λe o he q=>by simp only[y9,xu,xv,not_or]at he;obtain⟨e1,e2,e3,e4,e5⟩:=he;exact s7.extBut _ _ e2 (s6.extBut _ _ e5 (s5.extBut _ _ e2 (s4.extBut _ _ e4 (s3.extBut _ _ e2 (s2.extBut _ _ e3 (s1.extBut _ _ e1 q))))))
 have r1:SIt b1 g7 i1 l1 (k+1):=((((q1.ext s3.extBut (yR TO1)).ext s4.extBut n12).ext s5.extBut (yR TO1)).ext s6.extBut n13).ext s7.extBut (yR TO1);have r2:SIt b2 g7 i2 l2 (k+1):=((q2.ext s5.extBut (yR TO2)).ext s6.extBut n23).ext s7.extBut (yR TO2);have r3:SIt b3 g7 i3 l3 (k+1):=q3.ext s7.extBut (yR TO3);have hzlt:z<g7.objs.size:=zj hz7;show wpAny _ _ (Builtin.SmallTypes.ownedTupleHandOut (.ref z) (.ref g7.objs.size)>>=_) _ _ _;refine z9 ?_;unfold Builtin.SmallTypes.ownedTupleHandOut;have hz8:IsZip (g7.push { cls:=.type "tuple",data:=.seq #[x,y,u] }) z TI TO .ellipsis:=zL _ hz7;refine z9 (l6 hz8 (by simp) λg9 hz9 s9=>?_);replace hz9:IsZip g9 z TI TO (rawInt g7.objs.size):=hz9;refine l6 hz9 (by simp) λg10 hz10 s10=>?_;replace hz10:IsZip g10 z TI TO (rawInt g7.objs.size):=hz10;have up:∀e o,e≠z->g7.get? e=some o->g10.get? e=some o:=λe o e1 q=>s10.extBut _ _ e1 (s9.extBut _ _ e1 (zL _ q));have hT10:uQ g10 g7.objs.size x y u:=s10.extBut _ _ (sf hzlt) (s9.extBut _ _ (sf hzlt) (xj _ rfl));have hsz10:g10.objs.size=g7.objs.size+1:=by rw[s10.1,s9.1,wG]
 rw[hsz]at hz10 hT10 hsz10;refine zd ⟨_,rfl,?_⟩;refine zd ?_;show Q (some (.ref g7.objs.size)) _;rw[hsz];exact hQ g10 hz10 (up _ _ (yR zTO) T7) (r1.at λo q=>up _ o (yR z1) q) (r2.at λo q=>up _ o (yR z2) q) (r3.at λo q=>up _ o (yR z3) q) hT10 hsz10 λe o he q=>up e o (λz'=>he (by rw[z'];simp)) (hk e o he q)
theorem DT{z TI TO i1 i2 i3 l1 l2 l3:Addr}{b1:Bool}{xs:Array Value}{Q:Option Value->Shared->Prop}(hh:A.handled=none)(D:Z3 z TI TO i1 i2 i3 l1 l2 l3)(hz:IsZip s.heap z TI TO .none)(hTI:uQ s.heap TI (.ref i1) (.ref i2) (.ref i3))(h1:SIt b1 s.heap i1 l1 k)(hl1:SSq b1 s.heap l1 xs)(hx:xs[k]?=none)(hQ:∀h',(∀e o,e∉[z,TO,i1,i2,i3]->s.heap.get? e=some o->h'.get? e=some o)->Q none { s with heap:=h' }):wpAny (model prog w) A (pyNext (.ref z)) Q E s:=by
 have nd:=D.nd;have p1:=D.ap l1 (by simp);simp only[t9,y9,xu,xv,not_or]at nd p1;obtain⟨⟨zTI,zTO,z1,z2,z3⟩,⟨TITO,TI1,TI2,TI3⟩,⟨TO1,TO2,TO3⟩,⟨n12,n13⟩,n23,_⟩:=nd;obtain⟨p1z,p1T,p11,p12,p13⟩:=p1;have hT:s.TypeIs (.ref z) "zip":=⟨_,hz,rfl⟩
 unfold pyNext;refine z9 (p8 (sk (name:=Str.ofString "__next__") hT i8 (sv i8 hT F.entry_zip_next ?_ (F.args_zip_next_1 _))));show wpAny _ _ (field (.ref z) 2>>=_) _ _ _;refine z9 (w9 hz rfl (x:=.bool false) rfl ?_);show wpAny _ _ (field (.ref z) 3>>=_) _ _ _;refine z9 (w9 hz rfl (x:=.ref TI) rfl ?_);refine z9 (tD hTI rfl ?_);show wpAny _ _ (Builtin.SmallTypes.ownedTupleIsFree (.ref z)>>=_) _ _ _;refine z9 ?_;unfold Builtin.SmallTypes.ownedTupleIsFree;refine wpAny_bind (wpAny_field hz rfl (x:=.none) rfl (wpAny_pure ?_));simp only[xK];refine z9 (qu ?_);refine z9 (w9 hz rfl (x:=.ref TO) rfl ?_);refine z9 (l6 hz (by simp) λg1 hz1 s1=>?_);replace hz1:IsZip g1 z TI TO .ellipsis:=hz1;refine z9 ?_;simp only[List.zipIdx_cons,List.zipIdx_nil,d5,List.forIn_nil];refine z9 (z9 (p9 ?_));show wpAny _ _ (Builtin.SmallTypes.nextOf (.ref i1)>>=_) _ _ _;refine z9 (En hh (h1.ext s1.extBut (yR z1)) (hl1.ext s1.extBut p1z) hx λg2 e s2 he=>?_);obtain⟨oe,hoe,hce⟩:=he;have hz2:IsZip g2 z TI TO .ellipsis:=s2 _ _ z1 hz1;have hez:e≠z:=λq=>by subst q;rw[hz2]at hoe;cases hoe;simp at hce
 refine l6 hz2 (by simp) λg3 hz3 s3=>?_;refine z9 (wpAny_isInstance (T:="StopIteration") (b:=true) ⟨oe,s3.extBut _ _ hez hoe,hce⟩ isSubtype_stop ?_);refine zd (hQ _ λe' o he' q=>?_);simp only[y9,xu,xv,not_or]at he';exact s3.extBut _ _ he'.1 (s2 _ _ he'.2.2.1 (s1.extBut _ _ he'.1 q))
def qa(a b c:Value):checkTypeCall "zip" ⟨[a,b,c],[]⟩=pure ():=by kernel_rfl
def sF(a b c:Value):checkBuiltinCall "zip.__new__" ⟨[.type "zip",a,b,c],[]⟩=pure ():=by kernel_rfl
noncomputable abbrev zA(b:Bool)(h:Heap)(l:Addr):Heap:=h.push { cls:=.type (itN b),data:=.fields #[.ref l,.int 0 0] }
noncomputable abbrev zB(h:Heap)(n:Nat):Heap:=(h.push { cls:=.type "tuple",data:=.seq #[.ref n,.ref (n+1),.ref (n+2)] }).push { cls:=.type "tuple",data:=.seq #[.none,.none,.none] }
noncomputable abbrev zC(h:Heap)(n:Nat):Heap:=h.push { cls:=.type "zip",data:=.fields #[.none,.bool false,.bool false,.ref (n+3),.ref (n+4)] }
def SSq.push{b:Bool}{xs:Array Value}(x:SSq b h a xs)(o:Obj):SSq b (h.push o) a xs:=let⟨o',ho,r⟩:=x;⟨o',zL o ho,r⟩
def zU(b1 b2 b3:Bool)(l1 l2 l3:Addr)(xs ys zs:Array Value):
  Meets (Builtin.«zip.__new__» ⟨[.type "zip",.ref l1,.ref l2,.ref l3],[]⟩) (λ_ R s=>SSq b1 s.heap l1 xs/\SSq b2 s.heap l2 ys/\SSq b3 s.heap l3 zs/\
   R (.ok (.ret (.ref (s.heap.objs.size+5)))) { s with heap:=zC (zB (zA b3 (zA b2 (zA b1 s.heap l1) l2) l3) s.heap.objs.size) s.heap.objs.size }):=
 .of_wp λprog w A R s h=>by
  obtain⟨hp,g,d,tk,os⟩:=s;obtain⟨q1,q2,q3,h⟩:=h;have hsub:=sub_zip;have L1:SSq b1 (Shared.heap ⟨hp,g,d,tk,os⟩) l1 xs:=q1;have L2:SSq b2 (Shared.heap ⟨hp.push { cls:=.type (itN b1),data:=.fields #[.ref l1,.int 0 0] },g,d,tk,os⟩) l2 ys:=q2.push _;have L3:SSq b3 (Shared.heap ⟨(hp.push { cls:=.type (itN b1),data:=.fields #[.ref l1,.int 0 0] }).push { cls:=.type (itN b2),data:=.fields #[.ref l2,.int 0 0] },g,d,tk,os⟩) l3 zs:=(q3.push _).push _;have e2:(hp.push { cls:=.type (itN b1),data:=.fields #[.ref l1,.int 0 0] }).objs.size=hp.objs.size+1:=wG ..;have e3:((hp.push { cls:=.type (itN b1),data:=.fields #[.ref l1,.int 0 0] }).push { cls:=.type (itN b2),data:=.fields #[.ref l2,.int 0 0] }).objs.size=hp.objs.size+2:=by rw[wG,e2]
  wp_walk using sJ L1,sJ L2,sJ L3
  refine⟨_,rfl,?_⟩;simp only[wG,e2,e3]at h⊢;exact h
theorem zx{b1 b2 b3:Bool}{l1 l2 l3:Addr}{xs ys zs:Array Value}{Q:Value->Shared->Prop}(q1:SSq b1 s.heap l1 xs)(q2:SSq b2 s.heap l2 ys)(q3:SSq b3 s.heap l3 zs)(h:∀h',IsZip h' (s.heap.objs.size+5) (s.heap.objs.size+3) (s.heap.objs.size+4) .none->uQ h' (s.heap.objs.size+3) (.ref s.heap.objs.size) (.ref (s.heap.objs.size+1)) (.ref (s.heap.objs.size+2))->
 uQ h' (s.heap.objs.size+4) .none .none .none->SIt b1 h' s.heap.objs.size l1 0->SIt b2 h' (s.heap.objs.size+1) l2 0->SIt b3 h' (s.heap.objs.size+2) l3 0->(∀e o,s.heap.get? e=some o->h'.get? e=some o)->Q (.ref (s.heap.objs.size+5)) { s with heap:=h' }):
  wpAny (model prog w) A (call (.type "zip") [.ref l1,.ref l2,.ref l3]) Q E s:=by
 have n1:(zA b1 s.heap l1).objs.size=s.heap.objs.size+1:=wG ..;have n2:(zA b2 (zA b1 s.heap l1) l2).objs.size=s.heap.objs.size+2:=by rw[wG,n1]
 have n3:(zA b3 (zA b2 (zA b1 s.heap l1) l2) l3).objs.size=s.heap.objs.size+3:=by rw[wG,n2]
 have g1:(zA b1 s.heap l1).get? s.heap.objs.size=some { cls:=.type (itN b1),data:=.fields #[.ref l1,.int 0 0] }:=xj _ rfl;have g2:(zA b2 (zA b1 s.heap l1) l2).get? (s.heap.objs.size+1)=some { cls:=.type (itN b2),data:=.fields #[.ref l2,.int 0 0] }:=by rw[<- n1];exact xj _ rfl
 have g3:(zA b3 (zA b2 (zA b1 s.heap l1) l2) l3).get? (s.heap.objs.size+2)=some { cls:=.type (itN b3),data:=.fields #[.ref l3,.int 0 0] }:=by rw[<- n2];exact xj _ rfl
 have k1:∀(e:Addr)(o:Obj),(zA b1 s.heap l1).get? e=some o->(zA b3 (zA b2 (zA b1 s.heap l1) l2) l3).get? e=some o:=λe o q=>zL _ (zL _ q);have k0:∀(e:Addr)(o:Obj),s.heap.get? e=some o->(zA b3 (zA b2 (zA b1 s.heap l1) l2) l3).get? e=some o:=λe o q=>k1 e o (zL _ q);have g1':=k1 _ _ g1;have g2':(zA b3 (zA b2 (zA b1 s.heap l1) l2) l3).get? (s.heap.objs.size+1)=_:=zL _ g2;have m:=zU b1 b2 b3 l1 l2 l3 xs ys zs;generalize hH:zA b3 (zA b2 (zA b1 s.heap l1) l2) l3=H at n3 g3 k1 k0 g1' g2';have n4:(H.push { cls:=.type "tuple",data:=.seq #[.ref s.heap.objs.size,.ref (s.heap.objs.size+1),.ref (s.heap.objs.size+2)] }).objs.size=s.heap.objs.size+4:=by rw[wG,n3]
 have n5:(zB H s.heap.objs.size).objs.size=s.heap.objs.size+5:=by rw[wG,n4]
 have t1:(zB H s.heap.objs.size).get? (s.heap.objs.size+3)=some { cls:=.type "tuple",data:=.seq #[.ref s.heap.objs.size,.ref (s.heap.objs.size+1),.ref (s.heap.objs.size+2)] }:=by rw[<- n3];exact zL _ (xj _ rfl)
 have t2:(zB H s.heap.objs.size).get? (s.heap.objs.size+4)=some { cls:=.type "tuple",data:=.seq #[.none,.none,.none] }:=by rw[<- n4];exact xj _ rfl
 have t3:(zC (zB H s.heap.objs.size) s.heap.objs.size).get? (s.heap.objs.size+5)=some { cls:=.type "zip",data:=.fields #[.none,.bool false,.bool false,.ref (s.heap.objs.size+3),.ref (s.heap.objs.size+4)] }:=by rw[<- n5];exact xj _ rfl
 have kH:∀(e:Addr)(o:Obj),H.get? e=some o->(zC (zB H s.heap.objs.size) s.heap.objs.size).get? e=some o:=λe o q=>zL _ (zL _ (zL _ q));refine callType_new F.called_zip (by decide) (qa _ _ _) (sF _ _ _) (λobj=>?_) F.entry_zip_new m ⟨q1,q2,q3,?_⟩;·unfold argsOk;rw[signature?_of (id:="object.__init__") (n:=['_','_','t','i','n','i','_','_']) (o:=['t','c','e','j','b','o']) (by kernel_rfl) F.owner_object];kernel_rfl
 ·subst hH;exact⟨⟨_,t3,rfl⟩,h _ t3 (zL _ t1) (zL _ t2) ⟨_,kH _ _ g1',rfl,rfl⟩ ⟨_,kH _ _ g2',rfl,rfl⟩ ⟨_,kH _ _ g3,rfl,rfl⟩ λe o q=>kH e o (k0 e o q)⟩
end
noncomputable def SqB(b:Bool)(K:PySem.W.Frag)(H:Hp)(l:Addr)(xs:List V):Prop:=if b then SqT K H l xs else SqL K H l xs
def SqB.mono{b:Bool}{K:PySem.W.Frag}(s:Same G H)(q:SqB b K G l xs):SqB b K H l xs:=by
 cases b with
 |false=>exact SqL.mono s q
 |true=>exact SqT.mono s q
def Inv.sqB{σ:List (Option V)}{b:Bool}(I:Inv X pins σ H s)(q:SqB b X.K H l xs):∃its,Vals xs its/\SSq b s.heap l its.toArray/\l<s.heap.objs.size:=by
 cases b with
 |false=>obtain⟨its,rv,p,hz⟩:=I.list q;exact⟨its,rv,p.isList,SqL.lt' I q⟩
 |true=>obtain⟨its,rv,p,hz⟩:=I.tuple q;have p':s.heap.IsTuple l its.toArray:=p;obtain⟨o,ho,r⟩:=id p';exact⟨its,rv,⟨o,ho,r⟩,zj ho⟩
def Inv.sqB_inj{σ:List (Option V)}{b:Bool}{ys:List V}(I:Inv X pins σ H s)(q:SqB b X.K H l xs)(q':SqB b X.K H l ys):xs=ys:=by
 cases b with
 |false=>exact I.list_inj q q'
 |true=>exact I.tuple_inj q q'
noncomputable def OY(sq1 sq2 sq3:Hp->List V->Prop):It:=⟨λi H=>∃xs ys zs x y u,sq1 H xs/\sq2 H ys/\sq3 H zs/\xs[i]?=some x/\ys[i]?=some y/\zs[i]?=some u,
 λi H v H'=>∃p x y u,v=.ref p/\H p=none/\H'=upd H p (.tup [x,y,u])/\(∀xs,sq1 H xs->xs[i]?=some x)/\(∀ys,sq2 H ys->ys[i]?=some y)/\∀zs,sq3 H zs->zs[i]?=some u,λi H=>∃xs,sq1 H xs/\xs.length<=i⟩
section
variable{w:World}{K:PySem.W.Frag}{elts:List Expr}{kt:Nat}{tp:Pos}
def Bw{z TI TO i1 i2 i3 l1 l2 l3:Addr}{b1 b2 b3:Bool}(D:Z3 z TI TO i1 i2 i3 l1 l2 l3):
  Turn P w K (.Tuple elts kt tp) (OY (λH xs=>SqB b1 K H l1 xs) (λH xs=>SqB b2 K H l2 xs) (λH xs=>SqB b3 K H l3 xs)) [z,TI,TO,i1,i2,i3] z (λi h=>IsZip h z TI TO .none/\uQ h TI (.ref i1) (.ref i2) (.ref i3)/\(∃a b c,uQ h TO a b c)/\SIt b1 h i1 l1 i/\SIt b2 h i2 l2 i/\SIt b3 h i3 l3 i) where
 mem:=by simp
 obj:=λi h st b hb=>by
  obtain⟨s1,s2,⟨a,c,d,s3⟩,s4,s5,s6⟩:=st;simp only[y9,xu,xv]at hb;rcases hb with rfl|rfl|rfl|rfl|rfl|rfl;·exact⟨_,s1,λv z=>by cases z⟩
  ·exact⟨_,s2,λv z=>by cases z⟩
  ·exact⟨_,s3,λv z=>by cases z⟩
  ·obtain⟨o,q,c,d⟩:=s4;exact⟨o,q,λv z=>by rw[d]at z;cases z⟩
  ·obtain⟨o,q,c,d⟩:=s5;exact⟨o,q,λv z=>by rw[d]at z;cases z⟩
  ·obtain⟨o,q,c,d⟩:=s6;exact⟨o,q,λv z=>by rw[d]at z;cases z⟩
 keep:=λi h h' st k=>by obtain⟨s1,s2,⟨a,c,d,s3⟩,s4,s5,s6⟩:=st;exact⟨k z (by simp) _ s1,k TI (by simp) _ s2,⟨a,c,d,k TO (by simp) _ s3⟩,s4.at λo q=>k i1 (by simp) o q,s5.at λo q=>k i2 (by simp) o q,s6.at λo q=>k i3 (by simp) o q⟩
 item:=by
  intro X hP hw hK hc i pins s σ H E I hf st hg;obtain⟨xs,ys,zs,x,y,u,hq1,hq2,hq3,hx,hy,hu⟩:=hg;obtain⟨s1,s2,⟨a,c,d,s3⟩,s4,s5,s6⟩:=st;subst hP hw hK;obtain⟨its1,rv1,p1,_⟩:=I.sqB hq1;obtain⟨its2,rv2,p2,_⟩:=I.sqB hq2;obtain⟨its3,rv3,p3,_⟩:=I.sqB hq3;obtain⟨u1,hu1,ru1⟩:=rv1.get hx;obtain⟨u2,hu2,ru2⟩:=rv2.get hy;obtain⟨u3,hu3,ru3⟩:=rv3.get hu;have nd:=D.nd;simp only[t9,y9,xu,xv,not_or]at nd;obtain⟨⟨zTI,zTO,z1,z2,z3⟩,⟨TITO,TI1,TI2,TI3⟩,_⟩:=nd;refine Cu D s1 s2 s3 s4 s5 s6 p1 p2 p3 (x:=u1) (y:=u2) (u:=u3) (by simpa using hu1) (by simpa using hu2) (by simpa using hu3) λh1 w1 wTO w4 w5 w6 wp wsz wk=>?_;refine⟨_,rfl,wpAny_letOwnedTupleGo_zip w1 λh2 v1 sb=>?_⟩;have hp:H s.heap.objs.size=none:=I.hok.fresh (zq _);have ltz:∀b∈[z,TI,TO,i1,i2,i3],b<s.heap.objs.size:=λb hb=>by
   simp only[y9,xu,xv]at hb;rcases hb with rfl|rfl|rfl|rfl|rfl|rfl;·exact zj s1
   ·exact zj s2
   ·exact zj s3
   ·obtain⟨o,q,_⟩:=s4;exact zj q
   ·obtain⟨o,q,_⟩:=s5;exact zj q
   ·obtain⟨o,q,_⟩:=s6;exact zj q
  have Ia:Inv X pins σ (upd H s.heap.objs.size (.tup [x,y,u])) { s with heap:=s.heap.push { cls:=.type "tuple",data:=.seq #[u1,u2,u3] } }:=by refine I.laid (t':=s.toks) (λb o q=>zL _ q) (zq _) ?_;exact⟨by show 3<=sizeLine;decide,[u1,u2,u3],.cons ru1 (.cons ru2 (.cons ru3 .nil)),tO _ _⟩
  have fp':∀b∈[z,TI,TO,i1,i2,i3],qq X pins (upd H s.heap.objs.size (.tup [x,y,u])) b:=λb hb=>⟨by rw[aE (xh (ltz b hb))];exact(hf b hb).1,(hf b hb).2⟩
  have hzlt:z<s.heap.objs.size:=zj s1;have ht2:h2.get? s.heap.objs.size=some { cls:=.type "tuple",data:=.seq #[u1,u2,u3] }:=(sb.2 _ (sf hzlt)).trans wp;have Ib:Inv X pins σ (upd H s.heap.objs.size (.tup [x,y,u])) { s with heap:=h2 }:=by
   refine Inv.turnedL (s:={ s with heap:=s.heap.push { cls:=.type "tuple",data:=.seq #[u1,u2,u3] } }) (h':=h2) (t':=s.toks) (ch:=[z,TI,TO,i1,i2,i3]) Ia (λb o hb q=>?_) fp';have q:(s.heap.push { cls:=.type "tuple",data:=.seq #[u1,u2,u3] }).get? b=some o:=q;simp only[y9,xu,xv,not_or]at hb;obtain⟨c1,c2,c3,c4,c5,c6⟩:=hb;by_cases e:b=s.heap.objs.size;·subst e;have q':=xj s.heap (o:={ cls:=.type "tuple",data:=.seq #[u1,u2,u3] }) rfl;rw[q']at q;rw[ht2];exact q
   ·have q2:s.heap.get? b=some o:=by
     rcases Nat.lt_or_ge b s.heap.objs.size with hb|hb;·exact pQ hb q
     ·have hlt:b<(s.heap.push { cls:=.type "tuple",data:=.seq #[u1,u2,u3] }).objs.size:=zj q;rw[wG]at hlt;exact absurd (Z0 (Z1 hlt) hb) e
    exact(sb.2 b c1).trans (wk b o (by simp[c1,c3,c4,c5,c6]) q2)
  refine⟨.ref s.heap.objs.size,_,Ib,rfl,⟨_,x,y,u,rfl,hp,rfl,λws h=>by rw[I.sqB_inj h hq1];exact hx,λws h=>by rw[I.sqB_inj h hq2];exact hy,λws h=>by rw[I.sqB_inj h hq3];exact hu⟩,⟨v1,?_,⟨u1,u2,u3,(sb.2 TO (yR zTO)).trans wTO⟩,w4.at λo q=>(sb.2 i1 (yR z1)).trans q,w5.at λo q=>(sb.2 i2 (yR z2)).trans q,w6.at λo q=>(sb.2 i3 (yR z3)).trans q⟩,λb hb=>(fp' b hb).1⟩;exact(sb.2 TI (yR zTI)).trans (wk TI _ (by simp[yR zTI,TITO,TI1,TI2,TI3]) s2)
 done:=by
  intro X hP hw hK hc i pins s σ H E I hf st hg;obtain⟨xs,hq1,hx⟩:=hg;obtain⟨s1,s2,⟨a,c,d,s3⟩,s4,s5,s6⟩:=st;subst hP hw hK;obtain⟨its1,rv1,p1,_⟩:=I.sqB hq1;have e1:=rv1.length;refine DT (I.ok.hd hc) D s1 s2 s4 p1 (by simp;omega) λh' hk=>⟨rfl,I.turnedL (t':=s.toks) (ch:=[z,TI,TO,i1,i2,i3]) (λb o hb q=>?_) hf⟩
  simp only[y9,xu,xv,not_or]at hb;obtain⟨c1,c2,c3,c4,c5,c6⟩:=hb;exact hk b o (by simp[c1,c3,c4,c5,c6]) q
 self:=λA i s Q E st h=>i6 st.1 h
def ItOk.zip3{sq1 sq2 sq3:Hp->List V->Prop}{ws us:List V}{es fs:List D}(h1:∀G1 H1,Same G G1->Same G1 H1->sq1 H1 vs)(h2:∀G1 H1,Same G G1->Same G1 H1->sq2 H1 ws)(h3:∀G1 H1,Same G G1->Same G1 H1->sq3 H1 us)(r1:Reps K G vs ds)(r2:Reps K G ws es)(r3:Reps K G us fs)(l1:es.length=ds.length)(l2:fs.length=ds.length):
  ItOk K G (OY sq1 sq2 sq3) ((List.range ds.length).map λi=>.tup [ds.getD i .non,es.getD i .non,fs.getD i .non]):=by
 intro i G1 H1 s1 s2;refine⟨λd e=>?_,λhl=>⟨vs,h1 G1 H1 s1 s2,by rw[wU,List.length_range]at hl;rw[r1.length];exact hl⟩⟩;rw[wZ]at e;by_cases hi:i<ds.length
 ·rw[d3 hi]at e;cases e;have g1:ds[i]?=some (ds.getD i .non):=by rw[v4,vB hi];rfl
  have g2:es[i]?=some (es.getD i .non):=by rw[v4,vB (by omega)];rfl
  have g3:fs[i]?=some (fs.getD i .non):=by rw[v4,vB (by omega)];rfl
  obtain⟨v,ev,rv⟩:=r1.get g1;obtain⟨u,eu,ru⟩:=r2.get g2;obtain⟨t,et,rt⟩:=r3.get g3;refine⟨⟨vs,ws,us,v,u,t,h1 G1 H1 s1 s2,h2 G1 H1 s1 s2,h3 G1 H1 s1 s2,ev,eu,et⟩,λx H' y=>?_⟩;obtain⟨p,x',y',t',rfl,hp,rfl,z1,z2,z3⟩:=y;have z1:=z1 vs (h1 G1 H1 s1 s2);have z2:=z2 ws (h2 G1 H1 s1 s2);have z3:=z3 us (h3 G1 H1 s1 s2);rw[ev]at z1;rw[eu]at z2;rw[et]at z3;cases z1;cases z2;cases z3;exact⟨upd G1 p (.tup [v,u,t]),.new s2 hp,.tup (.of aV) (.cons ((rv.mono s1).mono (.into (s2.free hp))) (.cons ((ru.mono s1).mono (.into (s2.free hp))) (.cons ((rt.mono s1).mono (.into (s2.free hp))) .nil)))⟩
 ·rw[d4 (by rw[List.length_range];omega)]at e;cases e
end
def ne5{l:Nat}(h:l<n):l∉[n+5,n+4,n,n+1,n+2]:=by simp;omega
noncomputable def Fg:D->Option (List D)
 |.lst _ xs=>some xs
 |.tup xs=>some xs
 |_=>none
noncomputable def EA:List D->R (List D)
 | [a,b,c]=>match Fg a,Fg b,Fg c with
  |some ds,some es,some fs=>if es.length=ds.length/\fs.length=ds.length then .ok ((List.range ds.length).map λi=>.tup [ds.getD i .non,es.getD i .non,fs.getD i .non])else .no
  |_,_,_=>.no
 |_=>.no
def Rep.sqB{K:PySem.W.Frag}(r:Rep K G v d)(h:Fg d=some ds):∃b l vs,v=.ref l/\SqB b K G l vs/\Reps K G vs ds:=by
 cases r with
 |tup hq t=>cases h;exact⟨true,_,_,rfl,hq,t⟩
 |lst hq t=>cases h;exact⟨false,_,_,rfl,.of hq,t⟩
 |fls hq t=>cases h;exact⟨false,_,_,rfl,hq,t⟩
 |_=>cases h
section
variable{a b c:Expr}{elts:List Expr}{kt:Nat}{pos tp:Pos}
def HZ(hg:Gl X "zip")(hm:X.mg "zip"=none)(ha:PFA X [a,b,c] gl)(hs:starEach [a,b,c] X.env=(false,eval a X.env)::starEach [b,c] X.env:=by rfl)(hs2:(backTo pos (starEach [b,c] X.env)).any (·.1)=false:=by rfl):
  PIF X (.Tuple elts kt tp) (.Call (.Name "zip" p) [a,b,c] [] pos) (aB EA gl):=by
 intro pins s σ H Rr I h;obtain⟨G,ρ,st,h⟩:=h;have ta:tAF X gl σ H (λvs H1=>∃G1 ds,Up G H G1 H1/\Reps X.K G1 vs ds/\Same G1 H1/\(EA ds).post (Fin G1 H1 (λG J items=>ItOk X.K G J items) Rr) (Exx X σ G1 H1)):=tG.intro st h λds vs G1 H1 u1 st1 r1 h1=>⟨G1,ds,u1,r1,st1.sub,h1⟩
 refine Call_ (mJ I hg hm PyProof.Rows.Boot.«zip» (Z2 (thn (ha pos pins s σ H _ I ta) λus s1 ⟨vs,H1,I1,r1,q1⟩=>?_) hs hs2));obtain⟨G1,ds,u1,rd,sub,h1⟩:=q1;unfold EA at h1;split at h1
 ·rename_i da db dc;split at h1
  ·rename_i xs ys zs ea eb ec;split at h1
   ·rename_i hl;cases rd with
    |cons ra t=>
     cases t with
     |cons rb t=>
      cases t with
      |cons rc t=>
       cases t;obtain⟨b1,l1,ws1,rfl,sq1,rr1⟩:=ra.sqB ea;obtain⟨b2,l2,ws2,rfl,sq2,rr2⟩:=rb.sqB eb;obtain⟨b3,l3,ws3,rfl,sq3,rr3⟩:=rc.sqB ec;cases r1 with
       |cons v1 t=>
        cases t with
        |cons v2 t=>
         cases t with
         |cons v3 t=>
          cases t;cases v1;cases v2;cases v3;obtain⟨its1,rv1,p1,lt1⟩:=I1.sqB (sq1.mono sub);obtain⟨its2,rv2,p2,lt2⟩:=I1.sqB (sq2.mono sub);obtain⟨its3,rv3,p3,lt3⟩:=I1.sqB (sq3.mono sub);refine zx p1 p2 p3 λh' z1 zTI zTO zi1 zi2 zi3 zk=>i6 z1 ?_;have Dz:Z3 (s1.heap.objs.size+5) (s1.heap.objs.size+3) (s1.heap.objs.size+4) s1.heap.objs.size (s1.heap.objs.size+1) (s1.heap.objs.size+2) l1 l2 l3:=by
           constructor;·simp
           ·intro l hl;simp only[y9,xu,xv]at hl;rcases hl with rfl|rfl|rfl;·exact ne5 lt1
            ·exact ne5 lt2
            ·exact ne5 lt3
          refine⟨_,_,_,_,H1,rfl,I1.kept (t':=s1.toks) zk,Bw Dz,⟨z1,zTI,⟨_,_,_,zTO⟩,zi1,zi2,zi3⟩,λb hb=>?_,h1 _ G1 H1 (.refl sub) (ItOk.zip3 (λG2 H2 s1 s2=>(sq1.mono s1).mono s2) (λG2 H2 s1 s2=>(sq2.mono s1).mono s2) (λG2 H2 s1 s2=>(sq3.mono s1).mono s2) rr1 rr2 rr3 hl.1 hl.2)⟩;have hge:s1.heap.objs.size<=b:=by simp only[y9,xu,xv]at hb;rcases hb with rfl|rfl|rfl|rfl|rfl|rfl <;> omega
          exact I1.fpOk hge (I1.hok.fresh hge)
   ·exact h1.elim
  ·exact h1.elim
 ·exact h1.elim
end
section
variable{a b e:Expr}{ga:Ev->R D}{pos:Pos}
noncomputable def MG:D->D->Option D
 |.str [c],.str y=>some (.bl (decide (c∈y)))
 |_,_=>none
def LZ(K:PySem.W.Frag):ROk K (λx y H Q=>∃i j,x=.str i/\y=.str j/\Q (.bl (!(Builtin.Str.occurrences j i 0 j.length 1).isEmpty)) H) MG:=by
 intro G H x y dx dy d Q s rx ry e q;unfold MG at e;split at e;·rename_i c z;cases e;obtain⟨i,rfl,ei,hi⟩:=rx.str_inv;obtain⟨j,rfl,ej,hj⟩:=ry.str_inv;have:i=⟨#[c]⟩:=(Str.of_list ei).symm;subst this;refine⟨_,j,rfl,rfl,?_⟩;rw[StrLaws.found_one,ej];exact q _ G H (.refl s) (.bl _)
 ·cases e
def Ml(ha:PF X a ga)(hb:PF X b gb)(hm:behindInMarks .In b=false:=by rfl):PF X (.Compare a [.In] [b] pos) (g2 MG ga gb):=ox BZ (LZ _) ha hb hm
noncomputable def ym:D->List D->Option D
 |.str x,[.int i]=>if -1000<=i/\i<=1000/\MH x=true then some (.str (List.replicate (i.toNat - x.length) 48++x))else none
 |_,_=>none
noncomputable def Gc:V->List V->Hp->VK->Prop:=λx vs H Q=>∃(y:Str)(i:Int),x=.str y/\vs=[.int i]/\-1000<=i/\i<=1000/\Q (.str (Txt.zfill y i)) H
def Es:MtR X "str.zfill" Gc:=by intro pins s σ H x xs v us Q I rx rv ⟨y,i,ex,exs,h1,h2,q⟩;subst ex exs;obtain⟨t,rfl⟩:=rx;obtain⟨u,rfl,r1⟩:=rv.one;obtain⟨t',rfl⟩:=r1;exact SC.zfill (padOk_of (by omega) (by omega)) (λt'' k=>⟨.str _,H,I.tok _,⟨_,rfl⟩,q⟩)
def vQ(y:Str)(i:Int)(hd:MH y.cps.toList=true):(Txt.zfill y i).cps.toList=List.replicate (i.toNat - y.cps.toList.length) 48++y.cps.toList:=by
 have hl:y.cps.toList.length=y.length:=by simp[Str.length]
 unfold Txt.zfill;split
 ·rename_i h;have:i.toNat - y.cps.toList.length=0:=by rw[hl];omega
  rw[this];rfl
 ·unfold zfilled;have h0:∀c,y.cps[0]?=some c->c≠43/\c≠45:=λc hc=>by
   have hm:c∈y.cps.toList:=by rw[<- Array.getElem?_toList]at hc;exact lp hc
   have:=sO.1 hd c hm;simp only[sH,pi]at this;omega
  split;·rename_i h;exact absurd rfl (h0 _ h).1
  ·rename_i h;exact absurd rfl (h0 _ h).2
  ·rw[hl];unfold Builtin.Str.padded;simp[Str.length]
def D1(K:PySem.W.Frag):Bs K "str" Gc ym:=by
 intro G H x xs dx ds d Q s rx rs e q;unfold ym at e;split at e
 ·split at e
  ·rename_i x0 i hi;cases e;obtain⟨v,rfl,r1⟩:=rs.one;obtain⟨y,rfl,ey,hy⟩:=rx.str_inv;obtain rfl:=r1.int_inv;subst ey;refine⟨y,i,rfl,rfl,hi.1,hi.2.1,q _ G H (.refl s) (.strL (vQ y _ hi.2.2) ?_)⟩;have big:20000<=sizeLine:=by decide
   rw[uC,sh,Str.len_list];omega
  ·cases e
 ·cases e
def Ho{o:Expr}{ap cp:Pos}(ho:PF X o ga)(ha:PFA X [e] gl)(hbase:attributeBase o "zfill" X.env (eval o X.env)=eval o X.env:=by rfl)(hfew:((backTo cp (starEach [e] X.env)).all (λx=>!x.1) && (backToKw cp (keywordEach [] X.env)).all (λx=>x.1.isSome)
 && decide ([e].length+([]:List Keyword).length+(if ([]:List Keyword).isEmpty then 0 else 1)<30))=true:=by rfl)(hline:(ap.endLine==cp.line)=true:=by rfl)(hs:starEach [e] X.env=(false,eval e X.env)::starEach [] X.env:=by rfl):
  PF X (.Call (.Attribute o "zfill" ap) [e] [] cp) (eS "str" ym ga gl):=iu qi PySem.F.slot_str_zfill PySem.F.type_str_zfill Es (D1 _) ho ha hbase hfew hline hs rfl
end
noncomputable def jI(X:Cx)(N':List Str)(scope:Scope)(C:Addr)(s₂:Shared)(H₂:Hp)(fp:List Addr)(pn:List (Addr×Obj))(xe:Value->Shared->Prop):Cx:={ aO X N' scope C s₂ H₂ fp with A:=X.A,calm:=X.calm,pn:=pn,xe:=xe }
noncomputable def gH(asg:D->Ev->R Ev)(gt:Ev->R Bool)(ge:Ev->R D):List D->Ev->R (List D)
 | [],_=>.ok []
 |d::ds,ρ=>fq (asg d ρ)>>=λρ1=>fq (gt ρ1)>>=λk=>if k=true then ge ρ1>>=λx=>gH asg gt ge ds ρ1>>=λxs=>.ok (x::xs)else gH asg gt ge ds ρ1
noncomputable def yu(gi:Ev->R (List D))(ix:List Nat)(gt:Ev->R Bool)(ge:Ev->R D):Ev->R (List D):=λρ=>gi ρ>>=λitems=>if items.length<=sizeLine then gH (wb 0) gt ge items (mz ix ρ)else .no
noncomputable def wn(M:Model)(A:Around)(E:Value->Shared->Prop)(Q:Value->Shared->Prop)(acc:Value)(cenv:Env)(r:Result)(s':Shared):Prop:=
 match r with
 |.ok _=>∃m,s'.heap.Ns cenv.locals m/\∀h',Heap.SameBut cenv.locals s'.heap h'->Q acc { s' with heap:=h' }
 |.error x=>∃m,s'.heap.Ns cenv.locals m/\∀h',Heap.SameBut cenv.locals s'.heap h'->wpAny M A (passOn "comprehension.variables-let-go" x cenv:Sem Value) (λ_ _=>False) E { s' with heap:=h' }
def zT{M:Model}{A:Around}{env:Env}{e:Expr}{pos:Pos}{newAcc first:Sem Value}{g:Comprehension}{gs:List Comprehension}{cl:List (Str×Addr)}{Q:Value->Shared->Prop}(hcl:clausesOf e=g::gs)(hs:∀x,foldedSetIterable g.iter env x=pure x)(hclos:closureFor scope env=pure cl)(hkind:scope.kind=.function)(hnames:∀x∈scope.names,x.2=.local->scope.names.lookup x.1=some .local)(h:wpAny M A first (λx s₁=>wpAny M A (pyIter x) (λit s₂=>wpAny M A newAcc (λacc s₃=>
 wpAny M A (newFunctionEnv scope env.globals cl [] env.qual none .none (some env)) (λcenv s₄=>
 codeAny M A (.compStart e 0 it acc { cenv with scope:=relabel scope env }) (wn M A E Q acc { cenv with scope:=relabel scope env }) s₄) E s₃) E s₂) E s₁) E s):
  wpAny M A (comprehension e scope env pos newAcc false first none) Q E s:=by
 unfold comprehension;rw[hclos,hcl];refine z9 (yc h (λx s₁ h₁=>?_) λ_ _ h'=>h');refine z9 (qQ (z9 (j6 (hs x) (z9 (uX (yc h₁ (λit s₂ h₂=>?_) λ_ _ h'=>h'))))));refine wpAny_standIf (z9 (yc h₂ (λacc s₃ h₃=>z9 (zd (z9 (yc h₃ (λcenv s₄ h₄=>?_) λ_ _ h'=>h')))) λ_ _ h'=>h'));dsimp only;have hv:∀x∈(scope.names.filter λx=>(x.2==.local || x.2==.cell) && x.1 != (".0":Str)).reverse,x.2=.local->Env.kindOf { cenv with scope:=relabel scope env } x.1=some .local:=
  λx hx hl=>sT (hnames x (List.mem_filter.mp (List.mem_reverse.mp hx)).1 hl);refine uX (z9 (p8 (uX (wpAny_run (qc h₄ λr s' hr=>?_)))));cases r with
 |ok f=>obtain⟨m,hn,hr⟩:=hr;refine z9 (uX (wpAny_comp_letGo (cenv:={ cenv with scope:=relabel scope env }) hkind _ s' m hv hn λh' m' _ hs'=>?_));exact zd (hr h' hs')
 |error x=>obtain⟨m,hn,hr⟩:=hr;refine z9 (uX (wpAny_comp_letGo (cenv:={ cenv with scope:=relabel scope env }) hkind _ s' m hv hn λh' m' _ hs'=>?_));exact yc (hr h' hs') (λ_ _ f=>f.elim) λ_ _ y=>y
def wE{prog:Program}{w:World}{A:Around}{R':Result->Shared->Prop}{elt target:Expr}{pos:Pos}{it acc:Value}{env:Env}(I:Nat->Shared->Prop)(CS:∀n s,I n s->wpAny (model prog w) A (pyNext it) (λr s₁=>match r with
 |none=>R' (.ok .next) s₁
 |some v=>wpAny (model prog w) A (letOwnedTupleGo target it v) (λ_ s₁'=>wpAny (model prog w) A (assign target env v) (λ_ s₂=>
 wpAny (model prog w) A (forIn ifs true λc r=>if r=true then do let ok <- isTrue c env (eval c env);pure (ForInStep.yield ok)else pure (ForInStep.yield r)) (λok s₃=>
 if ok=true then wpAny (model prog w) A (eval elt env) (λx s₄=>
 wpAny (model prog w) A (call (.builtin "list.append") [acc,x]) (λ_ s₅=>∃m,m<n/\I m s₅) (λ_ _=>False) s₄) (notedBy (model prog w) A env λx s'=>R' (.error x) s') s₃
 else ∃m,m<n/\I m s₃) (λ_ _=>False) s₂) (λ_ _=>False) s₁') (λ_ _=>False) s₁) (λ_ _=>False) s)(n:Nat)(h:I n s):
  codeAny (model prog w) A (.compLoop (.ListComp elt [⟨target,iter,ifs,0⟩] scope pos) 0 it acc env) R' s:=by
 refine codeAny_loop rfl I (λn s hI=>?_) n h;show wpAny _ A ((compTurn (.ListComp elt [⟨target,iter,ifs,0⟩] scope pos) 0 it acc env).onRaise (λx=>do noteFrame x env;theTreesLotGoes x)) _ _ s;refine wpAny_noted ?_;rw[compTurn_list];refine z9 (qQ (z9 (yc (CS n s hI) (λr s₁ h₁=>?_) λ_ _ z=>z.elim)));cases r with
 |none=>exact zd h₁
 |some v=>
  refine z9 (yc h₁ (λ_ s₁' h₁'=>?_) λ_ _ z=>z.elim);refine z9 (yc h₁' (λ_ s₂ h₂=>z9 (yc h₂ (λok s₃ h₃=>?_) λ_ _ z=>z.elim)) λ_ _ z=>z.elim);cases ok with
  |false=>exact zd ⟨rfl,h₃⟩
  |true=>exact z9 (z9 (yc h₃ (λx s₄ h₄=>z9 (yc h₄ (λ_ s₅ h₅=>zd (zd ⟨rfl,h₅⟩)) λ_ _ z=>z.elim)) λ_ _ z=>z))
def DD{G₁ H₁:Hp}{s₁:Shared}{env:Env}{outer:List Env}{Q:Shared->Prop}(hst:X.stack=env::outer)(hfr:env.frame=some L)(hL:X.env.frame=some L)(sub:Same G₁ H₁)(J₁:Inv X pins σ H₁ s₁)(way:(∃h' vs,Heap.MadeExcOf s₁.heap h' a (.ref C) vs/\s'={ s₁ with heap:=h' })\/(∃G' H',Ec X.prog X.w X.stack H₁ s₁ a C H' s'/\Up G₁ H₁ G' H')\/∃G' H' L,X.env.frame=some L/\Bf X pins L H₁ s₁ a C H' s'/\Up G₁ H₁ G' H')(cont:∀{ch:List Addr}{H' G':Hp}{s':Shared}{B:Heap}{a0:Value}{h₄:Heap},(∀b∈ch,Mc X pins b)->s'.os=s₁.os->AllBare s'.gens->Un (frs X.stack) ch H₁ H' s₁.heap s'.heap->HOk X.prog X.w H' s'.heap->H' a=none->s₁.heap.get? a=none->Up G₁ H₁ G' H'->
 (∀b o,b∉frs X.stack->((∃o0,s₁.heap.get? b=some o0)\/∃u,H' b=some u)->s'.heap.get? b=some o->B.get? b=some o)->Heap.HeldW B (env::outer) a (.ref C) a0 L h₄->s'.heap.UpToSlots h₄->Q { s' with heap:=h₄ }):
  wpAny (model X.prog X.w) X.A (noteFrame (.ref a) env) (λ_ s₂=>Q s₂) E s':=by
 have hfrm:X.A.frames=some (env::outer):=by rw[<- hst];exact J₁.ok.frames
 rcases way with⟨h',vs,made,rfl⟩|⟨G',H',⟨os,bare,un,hok,ha,B,a0,fl,hk⟩,up⟩|⟨G',H',L',hL',⟨os,bare,⟨ch,hch,un⟩,hok,ha,hna,B,a0,fl,hk⟩,up⟩
 ·have hin:∀env∈X.stack,∀b,env.frame=some b->b∈frs X.stack:=λenv he b hb=>o6.mpr ⟨env,he,hb⟩;have ha:H₁ a=none:=by
   cases q:H₁ a with
   |none=>rfl
   |some u=>obtain⟨ob,e⟩:=(J₁.hok a u q).there;rw[made.new]at e;cases e
  obtain⟨t,he,htn,ht⟩:=made.there;have hkb:(PySem.W.hideAll s₁.heap (frs X.stack)).StaysIn h':=λb o q=>made.keeps b o (qJ _ q);have hen:(PySem.W.hideAll s₁.heap (frs X.stack)).get? a=none:=by
   cases q:(PySem.W.hideAll s₁.heap (frs X.stack)).get? a with
   |none=>rfl
   |some o=>have:=qJ _ q;rw[made.new]at this;cases this
  have hff:h'.FunFrames (PySem.W.hideAll s₁.heap (frs X.stack)) (env::outer):=by rw[<- hst];exact(d8 J₁.stack hin).of_keeps λb o hb _=>⟨o,made.keeps b o hb,rfl⟩
  unfold noteFrame;simp only[hfr];refine z9 (w9 (show({ s₁ with heap:=h' }:Shared).heap.get? a=some _ from he) rfl (x:=.none) rfl ?_);rw[if_neg (by decide)];refine wpAny_entryW (base:=PySem.W.hideAll s₁.heap (frs X.stack)) (a0:=.ref t) hfrm hff hfr he hkb hen rfl (by show 1<6;decide) rfl λh₄ noted=>?_;obtain⟨n1,n2,n3,n4⟩:=noted;refine cont (ch:=[]) (s':={ s₁ with heap:=h' }) (λb z=>absurd z (by simp)) rfl J₁.bare (Un.kept made.keeps) (J₁.hok.kept made.keeps) ha made.new (.refl sub) (λb o hb ho e=>?_) ⟨n1,hen,n2,n3⟩ n4;have e1:s₁.heap.get? b=some o:=by
   have one:∀o0,s₁.heap.get? b=some o0->s₁.heap.get? b=some o:=λo0 ho=>by have q:=made.keeps b o0 ho;have e':h'.get? b=some o:=e;rw[q]at e';cases e';exact ho
   rcases ho with⟨o0,ho⟩|⟨u,ho⟩;·exact one o0 ho
   ·obtain⟨ob,ho⟩:=(J₁.hok b u ho).there;exact one ob ho
  exact j4 _ e1 hb
 ·have hna:s₁.heap.get? a=none:=by
   cases q:s₁.heap.get? a with
   |none=>rfl
   |some o0=>
    obtain⟨o',e'⟩:=un.there a o0 q (by simp);have hna:a∉frs X.stack:=λz=>by obtain⟨o1,e1,d1,_⟩:=FunFrames.data fl.2.2.1 a z;obtain⟨oe,vs,_,_,_,e2,_,d2,_⟩:=fl.2.2.2;rw[e1]at e2;cases e2;exact d1 vs d2
    have:=hk a o' hna (.inl ⟨o0,q⟩) e';rw[fl.2.1]at this;cases this
  rw[hst]at fl;exact wpAny_looks_onW hfrm hfr fl λh₄ held sm=>cont (ch:=[]) (λb z=>absurd z (by simp)) os bare un hok ha hna up hk held sm
 ·have eL:L=L':=xf (hL.symm.trans hL');rw[hst,<- eL]at fl;exact d9 hfr fl.2.2.2 (cont (h₄:=s'.heap) hch os bare un hok ha hna up hk fl λb o hb _=>⟨o.slots,hb⟩)
theorem FunFrames.rebase{B B':Heap}(k:∀b,B.get? b=none->B'.get? b=none):∀{l:List Env},h.FunFrames B l->h.FunFrames B' l
 | [],x=>x
 |_::_,⟨x1,⟨L,o,y1,y2,y3⟩,x3⟩=>⟨x1,⟨L,o,y1,k L y2,y3⟩,FunFrames.rebase k x3⟩
def wC{elt : Expr}{pos : Pos}{gt : Ev -> R Bool}{tn : Nat -> Heap -> Prop}{J : It}{Q : VK}{RR : Value -> Env -> Result -> Shared -> Prop}(hst : X.stack = X.env :: X.outer)(hfr : X.env.frame = some L){E : Value -> Shared -> Prop}(ok : CompOkT X scope n N' ix)(hcalm : X.calm = true)(hg : ∀C s₂ H₂ fp, PGF (aO X N' scope C s₂ H₂ fp) tgt asg)(hown : ∀d ρ ρ', asg d ρ = .ok ρ' -> (NoOwn ρ) -> NoOwn ρ')(he : ∀C s₂ H₂ fp pn xe, PF (jI X N' scope C s₂ H₂ fp pn xe) elt ge)(ht : ∀C s₂ H₂ fp, PTs (aO X N' scope C s₂ H₂ fp) ifs gt)(I : Inv X pins σ H s)(T : Turn X.prog X.w X.K tgt J fp it tn)(st0 : tn 0 s.heap)(hf : ∀b ∈ fp, qq X pins H b)(st : StE X.K G H σ ρ)(hi : ItOk X.K G J items)(hlen : items.length <= sizeLine)(h : (gH asg gt ge items (fh n ix ρ)).post (pT X.K G H Q) (Exx X σ G H))(hR : ∀(Dd C : Addr)(s' : Shared)(m : Str -> Option Value)(vs : List V)(G' H' : Hp), Up G H G' H' -> H' Dd = none -> C≠Dd -> (∀ds, Reps X.K G' vs ds -> True) -> Q (.ref Dd) (upd H' Dd (.lst vs)) -> s'.heap.Ns C m -> s'.os = s.os -> AllBare s'.gens -> H' C = none -> s.heap.objs.size <= C ->
 Un (frs X.stack) fp H (upd H' Dd (.lst vs)) s.heap s'.heap -> HOk X.prog X.w (upd H' Dd (.lst vs)) s'.heap -> RR (.ref Dd) (compEnvC scope (nD X.env scope.names []) C X.env) (.ok .next) s')(hX : ∀(Dd C a Cc : Addr)(s' : Shared)(m : Str -> Option Value)(B : Heap)(a0 : Value)(G' H' : Hp), Exx X σ G H Cc -> Up G H G' H' -> s'.heap.Ns C m -> s'.os = s.os -> AllBare s'.gens -> H' C = none -> s.heap.objs.size <= C -> Un (frs X.stack) fp H H' s.heap s'.heap -> HOk X.prog X.w H' s'.heap -> H' a = none -> s.heap.get? a = none ->
 Heap.HeldW B X.stack a (.ref Cc) a0 L s'.heap -> (∀b o, b∉frs X.stack -> ((∃o0, s.heap.get? b = some o0) \/ ∃u, H' b = some u) -> s'.heap.get? b = some o -> B.get? b = some o) -> (∀b ∈ fp, ∃o, s'.heap.get? b = some o) -> (∀b ∈ frs X.stack, H' b = none) ->
 RR (.ref Dd) (compEnvC scope (nD X.env scope.names []) C X.env) (.error (.ref a)) s'):
    wpAny (model X.prog X.w) X.A (newList []) (λacc s₃ => wpAny (model X.prog X.w) X.A (newFunctionEnv scope X.env.globals (nD X.env scope.names []) [] X.env.qual none .none (some X.env)) (λcenv s₄ =>codeAny (model X.prog X.w) X.A (.compStart (.ListComp elt [⟨tgt, iter, ifs, 0⟩] scope pos) 0 (.ref it) acc { cenv with scope := relabel scope X.env }) (RR acc { cenv with scope := relabel scope X.env }) s₄) E s₃) E s := by
  have hfl : ∀b ∈ fp, b < s.heap.objs.size := λb hb => let⟨o, e, _⟩ := T.obj 0 s.heap st0 b hb; zj e;refine u6 (d6 ok.cell (by intro y hy; simp at hy) (λh₁ hns₁ hsb₁ => ?_) ok.kind);dsimp only at hns₁ hsb₁⊢;generalize hH2 : s.heap.push { cls := .type "list", dict := none, data := .seq ([] : List Value).toArray } = Hq at hns₁ hsb₁⊢;have hC : Hq.objs.size = s.heap.objs.size + 1 := by rw[<- hH2, wG]
  have hDC : s.heap.objs.size≠Hq.objs.size := by rw[hC]; exact xh (rZ _)
  have hCle : s.heap.objs.size <= Hq.objs.size := by rw[hC]; exact ma _
  have old : ∀b o, s.heap.get? b = some o -> h₁.get? b = some o := λb o e =>
    hsb₁.extBut b o (by rw[hC]; exact xh (md (zj e))) (zL _ (hH2▸zL _ e));have hacc : h₁.get? s.heap.objs.size = some { cls := .type "list", data := .seq ([] : List Value).toArray } := hsb₁.extBut _ _ hDC (zL _ (hH2▸xj _ rfl));have hD0 : H s.heap.objs.size = none := I.fresh;have hC0 : H Hq.objs.size = none := I.hok.fresh hCle;have st0' : tn 0 h₁ := T.keep 0 _ _ st0 λb hb o e => old b o e;have I0 : ∀tk, Inv (aO X N' scope Hq.objs.size s H fp) [] (fW n ix σ) (upd H s.heap.objs.size (.lst [])) { s with heap := h₁, toks := tk } := λtk => by
    refine tN ok hcalm I hf hfl hCle hns₁ old (Un.laid old (zq _) hD0) (I.hok.laid old (zq _) ⟨t7 _, [], 0, .nil, hacc⟩) (by rw[aE hDC.symm]; exact hC0) λc hc e => ?_;rw[aE (xh hc)]; exact e
  have loop : ∀tk, codeAny (model X.prog X.w) X.A (.compLoop (.ListComp elt [⟨tgt, iter, ifs, 0⟩] scope pos) 0 (.ref it) (.ref s.heap.objs.size) (compEnvC scope (nD X.env scope.names []) Hq.objs.size X.env))
      (RR (.ref s.heap.objs.size) (compEnvC scope (nD X.env scope.names []) Hq.objs.size X.env)) { s with heap := h₁, toks := tk } := λtk => by
    have fpk : ∀{pins' : List (Addr × Obj)}{σ' : St}{H' : Hp}{s' : Shared}, Inv (aO X N' scope Hq.objs.size s H fp) pins' σ' H' s' -> pins' = [] -> (∀b ∈ fp, H' b = none) -> ∀b ∈ fp, qq (aO X N' scope Hq.objs.size s H fp) pins' H' b := λI' e hn b hb =>⟨hn b hb, (I'.ok.exf b hb).1, I'.ok.exfs b hb, .inl hb, (I'.ok.exf b hb).2, by subst e; intro p hp; exact absurd (show p ∈ ([] : List (Addr × Obj)) from hp) (by simp)⟩
    refine wE (λnn s' => ∃(i : Nat)(σ' : St)(G' H' : Hp)(ρ' : Ev)(vs : List V)(ys : List D), nn = items.length - i /\ i <= items.length /\ Inv (aO X N' scope Hq.objs.size s H fp) [] σ' H' s' /\ tn i s'.heap /\ (∀b ∈ fp, H' b = none) /\
      H' s.heap.objs.size = some (.lst vs) /\ G' s.heap.objs.size = none /\ Up G H G' H' /\ StE X.K G' H' σ' ρ' /\ (NoOwn ρ') /\ Reps X.K G' vs ys /\
      ys.length <= i /\ (gH asg gt ge (items.drop i) ρ' >>= λzs => R.ok (ys ++ zs)).post (pT X.K G H Q) (Exx X σ G H)) ?_ items.length
      ⟨0, fW n ix σ, G, upd H s.heap.objs.size (.lst []), fh n ix ρ, [], [], by simp, t7 _, I0 tk, st0', λb hb => by rw[aE (xh (hfl b hb))]; exact(hf b hb).1, aV, st.sub.free hD0,
        ⟨λa o e => by rw[aE (aJ e (st.sub.free hD0))]; exact st.sub a o e, .refl _, .into hD0, λ_ _ e => .inl e⟩,
        ⟨λa o e => by rw[aE (aJ e (st.sub.free hD0))]; exact st.sub a o e, (nN st n ix).len, (nN st n ix).val, λj m C p fs h => absurd h (NoOwn.obj jO j m C p fs)⟩, jO, .nil, t7 _, by
          rw[nE];cases q : gH asg gt ge items (fh n ix ρ)with
          |ok xs => rw[q]at h; exact h
          |ex C => rw[q]at h; exact h
          |no => rw[q]at h; exact h⟩;rintro nn s' ⟨i, σ', G', H', ρ', vs, ys, rfl, hil, I', tn', fr', hD', gD', up', st', no', rp', hyl, h'⟩;have hIt := hi i G' H' up'.gg st'.sub;by_cases hlt : i < items.length
    ·
      have hd : items.drop i = items[i] :: items.drop (i + 1) := mf hlt;rw[hd]at h';obtain⟨go, yl⟩ := hIt.1 items[i] (by simp[hlt]);refine yc (T.item (aO X N' scope Hq.objs.size s H fp) rfl rfl rfl hcalm i [] s' σ' H' (λ_ _ => False) I' (fpk I' rfl fr') tn' go) (λr s1 ⟨u, hr, h1⟩ => ?_) λ_ _ z => z;subst hr;refine yc h1 (λ_ s2 ⟨x2, H2, I2, r2, y2, tn2, fr2⟩ => ?_) λ_ _ z => z;obtain⟨G2, up2, rep2⟩ := yl x2 H2 y2;have I2p := I2.pinned (fpk I2 rfl fr2) (T.obj _ _ tn2);have st2 : StE X.K G2 H2 σ' ρ' := st'.up up2;have sr2 : StR X.K G2 H2 G2 H2 σ' ρ' := ⟨st2, up2.sub, .refl up2.sub, λj ds e => absurd e (no'.own j ds), λj k ds es l e => absurd e (no'.own j ds), no'.ob⟩
      have ea : ∃ρ1, asg items[i] ρ' = .ok ρ1 := by
        unfold gH at h';cases q : asg items[i] ρ' with
        |ok k => exact⟨k, rfl⟩
        |_ => rw[q]at h'; exact h'.elim
      obtain⟨ρ1, ea⟩ := ea;unfold gH at h';rw[ea]at h';simp only[fq, R.ok_bind]at h';refine yc (hg Hq.objs.size s H fp _ s2 σ' H2 x2 u (λσ3 H3 => H3 = H2 /\ StR X.K G2 H2 G2 H2 σ3 ρ1) I2p r2
        ⟨G2, H2, G2, ρ', items[i], _, sr2, rep2, ea, λσ3 q => ⟨rfl, q⟩⟩) (λ_ s3 ⟨σ3, H3, I3, e3, sr3⟩ => ?_) λ_ _ z => z;subst e3;have no3 := hown _ _ _ ea no';have hD2 : H3 s.heap.objs.size = some (.lst vs) := up2.hh _ _ hD';have gD2 : G2 s.heap.objs.size = none := by
        cases q : G2 s.heap.objs.size with
        |none => rfl
        |some o =>
          rcases up2.fr _ _ q with z|z;· rw[gD']at z; cases z
          · rw[hD']at z; cases z
      have ek : ∃k, gt ρ1 = .ok k := by
        cases q : gt ρ1 with
        |ok k => exact⟨k, rfl⟩
        |_ => rw[q]at h'; exact h'.elim
      obtain⟨k, ek⟩ := ek;rw[ek]at h';simp only[fq, R.ok_bind]at h';refine yc (ht Hq.objs.size s H fp _ s3 σ3 H3 (λb H4 => b = k /\ ∃G4, Up G2 H3 G4 H4) I3 ⟨G2, _, sr3.e, by rw[ek]; exact λb G4 H4 u4 e4 => ⟨e4, G4, u4⟩⟩) (λb s4 ⟨H4, I4, eb, G4, up4⟩ => ?_) λ_ _ z => z;subst eb;have next : ∀{H7 : Hp}{s7 : Shared}{G7 : Hp}{vs7 : List V}{ys7 : List D}, Inv (aO X N' scope Hq.objs.size s H fp) ([] ++ gY fp s2.heap) σ3 H7 s7 -> H7 s.heap.objs.size = some (.lst vs7) -> G7 s.heap.objs.size = none -> Up G H G7 H7 -> StE X.K G7 H7 σ3 ρ1 -> Reps X.K G7 vs7 ys7 -> ys7.length <= i + 1 ->
          (gH asg gt ge (items.drop (i + 1)) ρ1 >>= λzs => R.ok (ys7 ++ zs)).post (pT X.K G H Q) (Exx X σ G H) ->
          ∃m, m < items.length - i /\ ∃(i : Nat)(σ' : St)(G' H' : Hp)(ρ' : Ev)(vs : List V)(ys : List D), m = items.length - i /\ i <= items.length /\ Inv (aO X N' scope Hq.objs.size s H fp) [] σ' H' s7 /\ tn i s7.heap /\ (∀b ∈ fp, H' b = none) /\
            H' s.heap.objs.size = some (.lst vs) /\ G' s.heap.objs.size = none /\ Up G H G' H' /\ StE X.K G' H' σ' ρ' /\ (NoOwn ρ') /\ Reps X.K G' vs ys /\
            ys.length <= i /\ (gH asg gt ge (items.drop i) ρ' >>= λzs => R.ok (ys ++ zs)).post (pT X.K G H Q) (Exx X σ G H) := λ{H7 s7 G7 vs7 ys7} I7 hD7 gD7 up7 st7 rp7 hy7 h7 => by
        have pin : ∀b ∈ fp, ∀o, s2.heap.get? b = some o -> s7.heap.get? b = some o /\ H7 b = none := λb hb o e => by have := I7.pin (b, o) (t5 _ (t5 _ (fu hb e)));exact⟨this.1, this.2.1⟩
        refine⟨items.length - (i + 1), by omega, i + 1, σ3, G7, H7, _, vs7, ys7, rfl, hlt, I7.unpinned, T.keep _ _ _ tn2 λb hb o e => (pin b hb o e).1, λb hb => ?_, hD7, gD7, up7, st7, no3, rp7, hy7, h7⟩;obtain⟨o, e, _⟩ := T.obj _ _ tn2 b hb;exact(pin b hb o e).2
      have hD4 : H4 s.heap.objs.size = some (.lst vs) := up4.hh _ _ hD2;have gD4 : G4 s.heap.objs.size = none := by
        cases q : G4 s.heap.objs.size with
        |none => rfl
        |some o =>
          rcases up4.fr _ _ q with z|z;· rw[gD2]at z; cases z
          · rw[hD2]at z; cases z
      cases b with
      |false =>simp only[nK, uM]at h'⊢;exact next I4 hD4 gD4 ((up'.trans up2).trans up4) (sr3.e.up up4) ((rp'.mono up2.gg).mono up4.gg) (Nat.le_succ_of_le hyl) h'
      |true =>
        simp only[xK]at h'⊢;have I4' : ∀xe, Inv (jI X N' scope Hq.objs.size s H fp (gY fp s2.heap) xe) [] σ3 H4 s4 := λxe => I4.cx (λp hp => by simpa[aO]using hp) rfl I4.ok.hd;cases eg : ge ρ1 with
        |no => rw[eg]at h'; exact h'.elim
        |ex Cc =>
          rw[eg]at h';have h' : Exx X σ G H Cc := h';refine yc (he Hq.objs.size s H fp (gY fp s2.heap) (notedBy (model X.prog X.w) X.A (compEnvC scope (nD X.env scope.names []) Hq.objs.size X.env) λx s' => RR (.ref s.heap.objs.size) (compEnvC scope (nD X.env scope.names []) Hq.objs.size X.env) (.error x) s') _ s4 σ3 H4 (λ_ _ => False) (I4' _) ⟨G4, _, sr3.e.up up4, ?_⟩) (λ_ _ z => by obtain⟨_, _, _, _, z⟩ := z; exact z.elim) λ_ _ z => z;rw[eg];rintro e s5 ⟨G5, H5, up5, pins5, s6, a, rfl, J, way⟩;show wpAny (model X.prog X.w) X.A (noteFrame (.ref a) (compEnvC scope (nD X.env scope.names []) Hq.objs.size X.env)) _ _ s5;show wpAny (model X.prog X.w) X.A (noteFrame (.ref a) X.env) _ _ s5;refine DD (X := jI X N' scope Hq.objs.size s H fp (gY fp s2.heap) _) (env := X.env) (outer := X.outer) (L := L) (Q := λs' => RR (.ref s.heap.objs.size) (compEnvC scope (nD X.env scope.names []) Hq.objs.size X.env) (.error (.ref a)) s') hst hfr hfr up5.sub J way ?_;intro ch H7 G7 s7 B a0 h₄ hch os bare un hok ha hna up7 hk held sm;have J7 := J.call' (ch := ch) os un hok bare hch;have pin6 : ∀b ∈ fp, ∀o, s2.heap.get? b = some o -> s6.heap.get? b = some o /\ s7.heap.get? b = some o /\ H7 b = none := λb hb o e => by have p1 := J.pin (b, o) (qM _ (fu hb e));have p2 := J7.pin (b, o) (qM _ (fu hb e));exact⟨p1.1, p2.1, p2.2.1⟩
          have fpo : ∀b ∈ fp, ∃o, s2.heap.get? b = some o := λb hb => let⟨o, e, _⟩ := T.obj _ _ tn2 b hb; ⟨o, e⟩;have to6 : ∀b o, s.heap.get? b = some o -> ∃o0, s6.heap.get? b = some o0 := λb o e => by
            by_cases hb : b ∈ fp;· obtain⟨o2, e2⟩ := fpo b hb; exact⟨o2, (pin6 b hb o2 e2).1⟩
            · exact J.base.there b o e hb
          have to7 : ∀b, ((∃o0, s.heap.get? b = some o0) \/ ∃u, H7 b = some u) -> ∃o7, s7.heap.get? b = some o7 := λb ho => by
            rcases ho with⟨o0, ho⟩ | ⟨u, ho⟩
            · by_cases hb : b ∈ fp;· obtain⟨o2, e2⟩ := fpo b hb; exact⟨o2, (pin6 b hb o2 e2).2.1⟩
              · exact J7.base.there b o0 ho hb
            · exact(hok b u ho).there
          have hk4 : ∀b o, b∉frs X.stack -> ((∃o0, s.heap.get? b = some o0) \/ ∃u, H7 b = some u) -> s7.heap.get? b = some o -> B.get? b = some o := λb o hb ho e => hk b o hb (ho.imp (λ⟨o0, z⟩ => to6 b o0 z) id) e;have stf : ∀b ∈ frs X.stack, H7 b = none := λb hb => J7.stkFree b hb;have dat : ∀b ∈ frs X.stack, ∀o, s7.heap.get? b = some o -> ∀vs, o.data≠.fields vs := λb hb o e => by obtain⟨o', e', d', _⟩ := FunFrames.data J7.stack b hb;rw[e]at e'; cases e'; exact d'
          have held : Heap.HeldW B X.stack a (.ref Cc) a0 L h₄ := by rw[hst]; exact held
          obtain⟨m7, hn7, _⟩ := J7.loc;obtain⟨m6, hn6, _⟩ := J.loc;have hCf : Hq.objs.size∉frs X.stack := λz => by obtain⟨o', e', _⟩ := FunFrames.data I.stack _ z;exact absurd (zj e') (tz.mpr hCle)
          refine hX s.heap.objs.size Hq.objs.size a Cc { s7 with heap := h₄ } m7 B a0 G7 H7 h' (((((up'.trans up2).trans up4).trans up5).trans up7)) (hn7.at' λo e => ?_) J7.os J7.bare J7.free hCle ?_ ?_ ha ?_ held (λb o hb ho e => ?_) (λb hb => ?_) stf
          · have h6 : ∃o0, s6.heap.get? Hq.objs.size = some o0 := by obtain⟨o0, _, _, e0, _⟩ := hn6; exact⟨o0, e0⟩
            exact held.1 _ o (hk _ o hCf (.inl h6) e)
          · exact Un.flight J7.base held.1 sm hk4 (λb o e => ⟨o, e⟩) (λb hb => .inl hb) dat
          · exact hok.flight held.1 hk4 stf
          · cases q : s.heap.get? a with
            |none => rfl
            |some o0 => obtain⟨o1, e1⟩ := to6 a o0 q; rw[hna]at e1; cases e1
          · obtain⟨o7, e7⟩ := to7 b ho;have q := hk4 b o7 hb ho e7;have e' : h₄.get? b = some o := e;rw[held.1 b o7 q]at e'; cases e'; exact q
          · obtain⟨o2, e2⟩ := fpo b hb;by_cases z : b ∈ frs X.stack;· obtain⟨o', e', _⟩ := FunFrames.data held.2.2.1 b z; exact⟨o', e'⟩
            · exact⟨o2, held.1 b o2 (hk b o2 z (.inl ⟨o2, (pin6 b hb o2 e2).1⟩) (pin6 b hb o2 e2).2.1)⟩
        |ok y =>
          rw[eg]at h';simp only[R.ok_bind]at h';refine yc (he Hq.objs.size s H fp (gY fp s2.heap) (notedBy (model X.prog X.w) X.A (compEnvC scope (nD X.env scope.names []) Hq.objs.size X.env) λx s' => RR (.ref s.heap.objs.size) (compEnvC scope (nD X.env scope.names []) Hq.objs.size X.env) (.error x) s') _ s4 σ3 H4 (λv H5 => ∃G5, Up G4 H4 G5 H5 /\ Rep X.K G5 v y) (I4' _) ⟨G4, _, sr3.e.up up4, by rw[eg]; exact λv G5 H5 u5 r5 => ⟨G5, u5, r5⟩⟩) (λu5 s5 ⟨v5, H5, I5', r5, G5, up5, rep5⟩ => ?_) λ_ _ z => z;have I5 : Inv (aO X N' scope Hq.objs.size s H fp) ([] ++ gY fp s2.heap) σ3 H5 s5 := (I5'.cx (A' := X.A) (calm' := X.calm) (pn' := []) (pins' := gY fp s2.heap) (xe' := λ_ _ => False) (λp hp => by simpa[jI]using hp) rfl I.ok.hd : Inv { (jI X N' scope Hq.objs.size s H fp (gY fp s2.heap) _)with A := X.A, calm := X.calm, pn := [], xe := λ_ _ => False } (gY fp s2.heap) σ3 H5 s5)
          have hD5 : H5 s.heap.objs.size = some (.lst vs) := up5.hh _ _ hD4;have gD5 : G5 s.heap.objs.size = none := by
            cases q : G5 s.heap.objs.size with
            |none => rfl
            |some o =>
              rcases up5.fr _ _ q with z|z;· rw[gD4]at z; cases z
              · rw[hD4]at z; cases z
          have ups := ((up'.trans up2).trans up4).trans up5;have hvl : vs.length < sizeLine := by rw[rp'.length]; omega
          refine yc (lM (X := aO X N' scope Hq.objs.size s H fp) _ s5 σ3 H5 (.ref s.heap.objs.size) [v5] (.ref s.heap.objs.size) [u5] (λ_ H6 => H6 = upd H5 s.heap.objs.size (.lst (vs ++ [v5]))) I5 rfl (.cons r5 .nil)
            ⟨_, vs, v5, rfl, rfl, hD5, hvl, rfl⟩) (λ_ s6 ⟨_, H6, I6, _, e6⟩ => ?_) λ_ _ z => z;subst e6;have sub6 : Same G5 (upd H5 s.heap.objs.size (.lst (vs ++ [v5]))) := λa o e => by rw[aE (aJ e gD5)]; exact up5.sub a o e
          refine next I6 aV gD5 ⟨sub6, ups.gg, λa o e => ?_, ups.fr⟩ ?_ (ys7 := ys ++ [y]) ((((rp'.mono up2.gg).mono up4.gg).mono up5.gg).append (.cons rep5 .nil)) (by simp; omega) ?_
          · rw[aE (aJ e hD0)]; exact ups.hh a o e
          · exact⟨sub6, ((sr3.e.up up4).up up5).len, ((sr3.e.up up4).up up5).val, λj m C p fs h => absurd h (no3.obj j m C p fs)⟩
          · cases ez : gH asg gt ge (items.drop (i + 1)) ρ1 with
            |ok zs => rw[ez]at h'; simp only[R.ok_bind, n8, List.singleton_append]at h'⊢; exact h'
            |ex Cz => rw[ez]at h'; exact h'
            |no => rw[ez]at h'; exact h'
    ·
      have hie : i = items.length := by omega
      subst hie;rw[kY]at h';unfold gH at h';have h' : pT X.K G H Q (ys ++ []) := h';rw[uZ]at h';refine yc (T.done (aO X N' scope Hq.objs.size s H fp) rfl rfl rfl hcalm items.length [] s' σ' H' (λ_ _ => False) I' (fpk I' rfl fr') tn' (hIt.2 (zq _))) (λr s1 ⟨hr, I1⟩ => ?_) λ_ _ z => z;subst hr;have eH : upd (λa => if a = s.heap.objs.size then none else H' a) s.heap.objs.size (.lst vs) = H' := by
        funext a
        unfold upd;by_cases e : a = s.heap.objs.size;· subst e; rw[if_pos rfl]; exact hD'.symm
        · rw[if_neg e];show(if a = s.heap.objs.size then none else H' a) = _;rw[if_neg e]
      have hn : (λa => if a = s.heap.objs.size then none else H' a) s.heap.objs.size = none := by simp
      have upn : Up G H G' (λa => if a = s.heap.objs.size then none else H' a) := by
        refine⟨λa o e => ?_, up'.gg, λa o e => ?_, up'.fr⟩;· have : a≠s.heap.objs.size := aJ e gD';simp only[this, uM]; exact up'.sub a o e
        · have : a≠s.heap.objs.size := aJ e hD0;simp only[this, uM]; exact up'.hh a o e
      obtain⟨m1, hm1, _⟩ := I1.loc;refine hR s.heap.objs.size Hq.objs.size s1 m1 vs G' _ upn hn hDC.symm (λ_ _ => trivial) (h' _ vs G' _ upn hn rp') hm1 I1.os I1.bare ?_ hCle (by rw[eH]; exact I1.base) (by rw[eH]; exact I1.hok);have := I1.free;show(if Hq.objs.size = s.heap.objs.size then none else H' Hq.objs.size) = none;rw[if_neg hDC.symm]; exact this
  exact d7 (loop _) (T.self X.A 0 _ _ _ st0' (loop _))


def AU{M:Model}{A:Around}{B:Heap}{l:List Env}{cls a0:Value}{what:String}{env:Env}{Q:Value->Shared->Prop}(hf:env.frame=some L)(x:Heap.HeldW B l a cls a0 L s.heap)(h:∀h',Heap.HeldW B l a cls a0 L h'->s.heap.UpToSlots h'->E (.ref a) { s with heap:=h' }):wpAny M A (passOn what (.ref a) env:Sem Value) Q E s:=by
 obtain⟨hkb,hen,hl,oe,vs,T,oT,ts,he,hcls,hd,h1,hnT,hTe,hT,hdT,h3⟩:=x;have hsz:3<ts.size:=(Array.getElem?_eq_some_iff.mp h3).1;unfold PySem.passOn;refine z9 (w9 he hd h1 ?_);rw[if_neg (show ¬ ((Value.ref T==Value.none)=true) from by simp)];refine z9 ?_;rw[hf];unfold setFlight;refine z9 (w9 he hd h1 ?_);rw[if_pos (show(Value.ref T != Value.none)=true from by simp)];have oth:∀b,b≠T->(s.heap.update T (Obj.mapFields (·.setIfInBounds 3 ((some L).elim Value.none λf=>rawInt f)))).get? b=s.heap.get? b:=λb hb=>iN _ _ (yR hb);have rec':∀b o,s.heap.get? b=some o->(∀vs,o.data≠.fields vs)->b≠T:=λb o hb hnf q=>by rw[q,hT]at hb;injection hb with hb;subst hb;exact hnf ts hdT
 refine mP hT hdT hsz (wpAny_throw (h _ ⟨λb o hbo=>(oth b λq=>by rw[q,hnT]at hbo;cases hbo).trans (hkb b o hbo),hen,hl.of_keeps λb o hb hnf=>⟨o,(oth b (rec' b o hb hnf)).trans hb,rfl⟩,?_⟩ λb o hb hnf=>⟨o.slots,(oth b (rec' b o hb hnf)).trans hb⟩));exact⟨oe,vs,T,_,_,(oth a (yR hTe)).trans he,hcls,hd,h1,hnT,hTe,n0 _ hT (bY (pb hdT _)),pb hdT _,by simp[hsz]⟩
def DV{B:Heap}{l:List Env}{cls a0:Value}(x:Heap.HeldW B l a cls a0 L h)(sb:Heap.SameBut C h h')(hC:C∉frs l)(hd:∃o,h.get? C=some o/\∀vs,o.data≠.fields vs):Heap.HeldW (PySem.W.hideAll B [C]) l a cls a0 L h':=by
 obtain⟨hkb,hen,hl,oe,vs,T,oT,ts,he,hcls,hd1,h1,hnT,hTe,hT,hdT,h3⟩:=x;obtain⟨oC,eC,dC⟩:=hd;have na:a≠C:=λz=>by rw[z,eC]at he;cases he;exact dC _ hd1
 have nT:T≠C:=λz=>by rw[z,eC]at hT;cases hT;exact dC _ hdT
 have hid:∀b,B.get? b=none->(PySem.W.hideAll B [C]).get? b=none:=λb e=>by
  cases q:(PySem.W.hideAll B [C]).get? b with
  |none=>rfl
  |some o=>have:=qJ _ q;rw[e]at this;cases this
 refine⟨λb o e=>?_,hid a hen,FunFrames.rebase hid ?_,oe,vs,T,oT,ts,(sb.2 a na).trans he,hcls,hd1,h1,hid T hnT,hTe,(sb.2 T nT).trans hT,hdT,h3⟩
 ·have nb:b≠C:=λz=>by rw[z,PySem.W.hideAll_none _ (j8.2 rfl)]at e;cases e
  exact(sb.2 b nb).trans (hkb b o (qJ _ e))
 ·have key:∀{l:List Env},C∉frs l->h.FunFrames B l->h'.FunFrames B l:=by
   intro l;induction l with
   |nil=>intro _ x;exact x
   |cons env l ih=>intro hc ⟨x1,⟨L,o,y1,y2,y3,y4⟩,x3⟩;rw[tB y1]at hc;exact⟨x1,⟨L,o,y1,y2,(sb.2 L λz=>hc (by rw[z];exact v8 ..)).trans y3,y4⟩,ih (λz=>hc (wB _ z)) x3⟩
  exact key hC hl
def IC{m:Str->Option Value}(x:h.Ns C m):∃o,h.get? C=some o/\∀vs,o.data≠.fields vs:=by obtain⟨o,es,ep,e,d,_⟩:=x;exact⟨o,e,λvs z=>by rw[d]at z;cases z⟩
section
variable{elt:Expr}{x:Str}{px pos:Pos}{gt:Ev->R Bool}
def Cf(hst:X.stack=X.env::X.outer)(hfr:X.env.frame=some X.env.locals)(ok:CompOk X scope x N' ix)(hcalm:X.calm=true)(hi:PIF X (.Name x px) iter gi)(he:∀C s₂ H₂ fp pn xe,PF (jI X N' scope C s₂ H₂ fp pn xe) elt ge)(ht:∀C s₂ H₂ fp,PTs (aO X N' scope C s₂ H₂ fp) ifs gt)(hs:∀x,foldedSetIterable iter X.env x=pure x:=by intro _;rfl):PFL X (.ListComp elt [⟨.Name x px,iter,ifs,0⟩] scope pos) (yu gi ix gt ge):=by
 intro pins s σ H Q I h;obtain⟨G,ρ,st,h⟩:=h;rw[j0];refine zT rfl hs (eN λy hy hy2=>I.ok.has y.1 (.inl (ok.fr y hy hy2))) ok.kind ok.names ?_;have t:tG X (λG J items=>ItOk X.K G J items) gi σ H (λJ H1=>∃G1 items,Up G H G1 H1/\StE X.K G1 H1 σ ρ/\ItOk X.K G1 J items/\items.length<=sizeLine/\(gH (wb 0) gt ge items (mz ix ρ)).post (pT X.K G H Q) (Exx X σ G H)):=by
  refine⟨G,ρ,st,?_⟩;unfold yu at h;cases e:gi ρ with
  |ok items=>
   rw[e]at h;simp only[R.ok_bind]at h;by_cases hl:items.length<=sizeLine;·rw[if_pos hl]at h;exact λJ G1 H1 u r=>⟨G1,items,u,st.up u,r,hl,h⟩
   ·rw[if_neg hl]at h;exact h.elim
  |ex C=>rw[e]at h;exact h
  |no=>rw[e]at h;exact h
 refine thn (hi pins s σ H _ I t) λv s1 h1=>thn h1 λitv s2 h2=>?_;obtain⟨it,fp,tn,J,H2,e,I2,T,st2,f2,G2,items,u2,sE2,iok,hlen,h2⟩:=h2;subst e;have h2':(gH (wb 0) gt ge items (fh 1 ix ρ)).post (pT X.K G2 H2 Q) (Exx X σ G2 H2):=
  h2.mono (λds q l vs G' H' u hl r=>q l vs G' H' (u2.trans u) hl r) λC q=>q.up u2;have cok:∀b∈fp,Mc X pins b:=λb hb=>by
  obtain⟨f0,f1,f2',f3,f4,f5⟩:=f2 b hb;exact⟨f3,f1,f4,f5⟩
 refine wC (n:=1) (asg:=wb 0) (iter:=iter) (pos:=pos) (L:=X.env.locals) (RR:=λacc cenv=>wn (model X.prog X.w) X.A X.xe (EP X pins σ Q) acc cenv) hst hfr ok.t hcalm (λC s₂ H₂ fp=>fB (X:=aO X N' scope C s₂ H₂ fp) (pos:=px) 0 ok.nd ok.hd (.inl (sT ok.loc)) (.inr (sT ok.loc))) nQ he ht I2 T st2 f2 sE2 iok hlen h2' ?_ ?_;·intro Dd C s' m vs G' H' up hd hCD _ q hm hos hb hC hCl un hok;refine⟨m,hm,λh' hs'=>?_⟩;have hs':Heap.SameBut C s'.heap h':=hs';have I3:=I2.call' (H':=upd H' Dd (.lst vs)) (s':={ s' with heap:=h' }) (ch:=fp) hos (un.sameBut (λb o hbc e=>hs'.extBut b o hbc e) hCl) (hok.sameBut (λb o hbc e=>hs'.extBut b o hbc e) (by rw[aE hCD];exact hC)) hb cok;exact⟨.ref Dd,_,I3,rfl,q⟩
 ·intro Dd C a Cc s' m B a0 G' H' hex up hm hos hb hC hCl un hok ha hna held hk fpo stf;refine⟨m,hm,λh' hs'=>?_⟩;have hs':Heap.SameBut C s'.heap h':=hs';have hCf:C∉frs X.stack:=λz=>by obtain⟨o',e',_⟩:=FunFrames.data I2.stack _ z;exact absurd (zj e') (tz.mpr hCl)
  have un1:Un (frs X.stack) fp H2 H' s2.heap h':=un.sameBut (λb o hbc e=>hs'.extBut b o hbc e) hCl;have hok1:HOk X.prog X.w H' h':=hok.sameBut (λb o hbc e=>hs'.extBut b o hbc e) hC;have held1:=DV held hs' hCf (IC hm);have nC:∀b,((∃o0,s2.heap.get? b=some o0)\/∃u,H' b=some u)->b≠C:=λb ho z=>by
   rcases ho with⟨o0,ho⟩|⟨u,ho⟩;·rw[z]at ho;exact absurd (zj ho) (tz.mpr hCl)
   ·rw[z,hC]at ho;cases ho
  have hk1:∀b o,b∉frs X.stack->((∃o0,s2.heap.get? b=some o0)\/∃u,H' b=some u)->h'.get? b=some o->(PySem.W.hideAll B [C]).get? b=some o:=λb o hb' ho e=>
   j4 _ (hk b o hb' ho ((hs'.2 b (nC b ho)).symm.trans e)) λz=>nC b ho (j8.1 z);refine AU (s:={ s' with heap:=h' }) (L:=X.env.locals) hfr held1 λh'' held2 sm=>?_;have dat:∀b∈frs X.stack,∀o,h'.get? b=some o->∀vs,o.data≠.fields vs:=λb hb' o e=>by
   obtain⟨o',e',d',_⟩:=FunFrames.data held1.2.2.1 b hb';rw[e]at e';cases e';exact d'
  refine hex (.ref a) _ ⟨G2,H2,.refl sE2.sub,pins,s2,a,rfl,I2,.inr (.inr ⟨G',H',X.env.locals,hfr,⟨hos,hb,⟨fp,cok,Un.flight un1 held2.1 sm hk1 (λb o e=>⟨o,e⟩) (λb hb'=>.inl hb') dat⟩,hok1.flight held2.1 hk1 stf,ha,hna,_,a0,held2,λb o hb' ho e=>?_⟩,up⟩)⟩;have ex:∃o',h'.get? b=some o':=by
   rcases id ho with⟨o0,ho'⟩|⟨u,ho'⟩
   ·by_cases hf:b∈fp;·obtain⟨o',e'⟩:=fpo b hf;exact⟨o',hs'.extBut b o' (nC b ho) e'⟩
    ·exact un1.there b o0 ho' hf
   ·exact(hok1 b u ho').there
  obtain⟨o',e'⟩:=ex;have q:=hk1 b o' hb' ho e';have e2:h''.get? b=some o:=e;rw[held2.1 b o' q]at e2;cases e2;exact q
end
section
variable{a b c e ix:Expr}{ga gi:Ev->R D}{pos p1 p2 p3 pl sp:Pos}
noncomputable def EJ:D->List D->Option D
 |.str x,[.str [c]]=>some (.bl (x.getLast?==some c))
 |_,_=>none
noncomputable def Ma:V->List V->Hp->VK->Prop:=λx vs H Q=>∃(y:Str)(c:Nat),x=.str y/\vs=[.str ⟨#[c]⟩]/\Q (.bl (Txt.endswith y ⟨#[c]⟩)) H
def Go:MtR X "str.endswith" Ma:=by intro pins s σ H x xs v us Q I rx rv ⟨y,c,ex,exs,q⟩;subst ex exs;obtain⟨t,rfl⟩:=rx;obtain⟨u,rfl,r1⟩:=rv.one;obtain⟨t',rfl⟩:=r1;exact SC.endswith ⟨.bl _,H,I,rfl,q⟩
def Bt(y:Str)(c:Nat):Txt.endswith y ⟨#[c]⟩=(y.cps.toList.getLast?==some c):=by
 have hl:y.length=y.cps.toList.length:=(Str.len_list y).symm;have key:=i9 y c (y.length - 1);rw[List.getLast?_eq_getElem?,<- hl];unfold Txt.endswith;rw[Bool.eq_iff_iff,t6,<- key];show((decide (0+1<=y.length) && Builtin.Str.subAt y ⟨#[c]⟩ (y.length - 1))=true) ↔ (y.length - 1+1<=y.length/\_);rw[sH,pi];constructor;·exact λh=>⟨by omega,h.2⟩
 ·exact λh=>⟨by omega,h.2⟩
def IQ(K:PySem.W.Frag):Bs K "str" Ma EJ:=by
 intro G H x xs dx ds d Q s rx rs e q;unfold EJ at e;split at e;·cases e;rename_i x0 c;obtain⟨v,rfl,r1⟩:=rs.one;obtain⟨i,rfl,ei,hi⟩:=rx.str_inv;obtain⟨j,rfl,ej,hj⟩:=r1.str_inv;subst ei;have:j=⟨#[c]⟩:=(Str.of_list ej).symm;subst this;refine⟨i,c,rfl,rfl,q _ G H (.refl s) ?_⟩;rw[Bt];exact .bl _
 ·cases e
def Jt{o:Expr}{ap cp:Pos}(ho:PF X o ga)(ha:PFA X [e] gl)(hbase:attributeBase o "endswith" X.env (eval o X.env)=eval o X.env:=by rfl)(hfew:((backTo cp (starEach [e] X.env)).all (λx=>!x.1) && (backToKw cp (keywordEach [] X.env)).all (λx=>x.1.isSome)
 && decide ([e].length+([]:List Keyword).length+(if ([]:List Keyword).isEmpty then 0 else 1)<30))=true:=by rfl)(hline:(ap.endLine==cp.line)=true:=by rfl)(hs:starEach [e] X.env=(false,eval e X.env)::starEach [] X.env:=by rfl):
  PF X (.Call (.Attribute o "endswith" ap) [e] [] cp) (eS "str" EJ ga gl):=iu qi PySem.F.slot_str_endswith PySem.F.type_str_endswith Go (IQ _) ho ha hbase hfew hline hs rfl
noncomputable def nv(c:Nat):List Nat->Option (List Nat×List Nat)
 | []=>none
 |d::r=>if d=c then some ([],r)else (nv c r).map λp=>(d::p.1,p.2)
noncomputable def sK(c:Nat)(x:List Nat):List Nat×List Nat×List Nat:=match nv c x with
 |some (p,q)=>(p,[c],q)
 |none=>(x,[],[])
noncomputable def Bb:D->List D->Option D
 |.str x,[.str [c]]=>if x.length<=10000 then some (.tup [.str (sK c x).1,.str (sK c x).2.1,.str (sK c x).2.2])else none
 |_,_=>none
theorem yO{c:Nat}:∀{x:List Nat}{i:Nat},x[i]?=some c->(∀k,k<i->x[k]?≠some c)->nv c x=some (x.take i,x.drop (i+1))
 | [],i,h,_=>by simp at h
 |d::r,0,h,_=>by
  have:d=c:=by simpa using h
  rw[nv,if_pos this];rfl
 |d::r,i+1,h,hn=>by
  have hd:d≠c:=λz=>hn 0 (by omega) (by rw[z];rfl);have ih:=yO (x:=r) (i:=i) (by simpa using h) λk hk=>by have:=hn (k+1) (by omega);simpa using this
  rw[nv,if_neg hd,ih];rfl
theorem rh{c:Nat}:∀{x:List Nat},(∀i:Nat,x[i]?≠some c)->nv c x=none
 | [],_=>rfl
 |d::r,h=>by have hd:d≠c:=λz=>h 0 (by rw[z];rfl);rw[nv,if_neg hd,rh λi=>by have:=h (i+1);simpa using this];rfl
theorem wt{c:Nat}:∀{x p q:List Nat},nv c x=some (p,q)->p.length+q.length+1=x.length
 | [],_,_,h=>by simp[nv]at h
 |d::r,p,q,h=>by
  unfold nv at h;split at h;·cases h;simp
  ·cases e:nv c r with
   |none=>rw[e]at h;cases h
   |some z=>rw[e]at h;have ih:=wt (x:=r) (p:=z.1) (q:=z.2) e;cases h;simp;omega
def Bn(y:Str)(c:Nat):((Txt.partition y ⟨#[c]⟩).1.cps.toList,(Txt.partition y ⟨#[c]⟩).2.1.cps.toList,(Txt.partition y ⟨#[c]⟩).2.2.cps.toList)=sK c y.cps.toList:=by
 have hl:y.length=y.cps.toList.length:=(Str.len_list y).symm;unfold Txt.partition sK;rcases StrLaws.occ_head y ⟨#[c]⟩ 1 (zq _)with⟨e,hn⟩|⟨i,r,e,hi,hn⟩;·rw[e,rh λi z=>hn i ((i9 y c i).mpr z)];rfl
 ·rw[e,yO ((i9 y c i).mp hi) λk hk z=>hn k hk ((i9 y c k).mpr z)];show((y.cps.extract 0 i).toList,[c],(y.cps.extract (i+1) y.length).toList)=(_,[c],_);rw[Array.toList_extract,List.extract_eq_take_drop,Array.toList_extract,List.extract_eq_take_drop,hl]
  congr 2
  exact List.take_of_length_le (by rw[oq,pY];exact zq _)
noncomputable def L9:V->List V->Hp->VK->Prop:=λx vs H Q=>∃(y:Str)(c:Nat),x=.str y/\vs=[.str ⟨#[c]⟩]/\y.length<=sizeLine/\∀l,H l=none->Q (.ref l) (upd H l (.tup [.str (Txt.partition y ⟨#[c]⟩).1,.str (Txt.partition y ⟨#[c]⟩).2.1,.str (Txt.partition y ⟨#[c]⟩).2.2]))
theorem HP:MtR X "str.partition" L9:=by
 intro pins s σ H x xs v us Q I rx rv ⟨y,c,ex,exs,hz,q⟩;subst ex exs;obtain⟨t,rfl⟩:=rx;obtain⟨u,rfl,r1⟩:=rv.one;obtain⟨t',rfl⟩:=r1;refine uR F.slot_str_partition (oR _ _ _) F.entry_str_partition (F.args_str_partition_2 _ _) (meets_str_partition y ⟨#[c]⟩ t t' rfl hz) ?_;have big:3<=sizeLine:=by decide
 have q:=q s.heap.objs.size I.fresh;unfold Txt.partition at q;revert q;cases Builtin.Str.occurrences y ⟨#[c]⟩ 0 y.length 1 with
 |nil=>intro q;exact⟨.ref s.heap.objs.size,_,I.laid (t':=s.toks+1) (o:=.tup [.str y,.str Str.empty,.str Str.empty]) (λb ob q=>zL _ q) (zq _) ⟨big,_,.cons ⟨_,rfl⟩ (.cons ⟨_,rfl⟩ (.cons ⟨_,rfl⟩ .nil)),tO _ _⟩,rfl,q⟩
 |cons i r=>intro q;exact⟨.ref s.heap.objs.size,_,I.laid (t':=s.toks+1+1) (o:=.tup [.str (Builtin.Str.strSub y 0 i),.str ⟨#[c]⟩,.str (Builtin.Str.strSub y (i+(⟨#[c]⟩:Str).length) y.length)]) (λb ob q=>zL _ q) (zq _) ⟨big,_,.cons ⟨_,rfl⟩ (.cons ⟨_,rfl⟩ (.cons ⟨_,rfl⟩ .nil)),tO _ _⟩,rfl,q⟩
def BF(c:Nat)(x:List Nat):(sK c x).1.length<=x.length/\(sK c x).2.1.length<=1/\(sK c x).2.2.length<=x.length:=by
 unfold sK;cases e:nv c x with
 |none=>simp
 |some z=>have:=wt (p:=z.1) (q:=z.2) e;simp;omega
def Hd(K:PySem.W.Frag):Bs K "str" L9 Bb:=by
 intro G H x xs dx ds d Q s rx rs e q;unfold Bb at e;split at e
 ·split at e
  ·rename_i x0 c hc;cases e;obtain⟨v,rfl,r1⟩:=rs.one;obtain⟨i,rfl,ei,hi⟩:=rx.str_inv;obtain⟨j,rfl,ej,hj⟩:=r1.str_inv;subst ei;have:j=⟨#[c]⟩:=(Str.of_list ej).symm;subst this;refine⟨i,c,rfl,rfl,hi,λl hl=>q _ _ _ (.new s hl) ?_⟩;have pl:=Bn i c;have ln:=BF c i.cps.toList;rw[<- pl]at ln⊢;rw[Str.len_list]at ln;have one:∀z:Str,z.cps.toList.length<=sizeLine->Rep K (upd G l (.tup [.str (Txt.partition i ⟨#[c]⟩).1,.str (Txt.partition i ⟨#[c]⟩).2.1,.str (Txt.partition i ⟨#[c]⟩).2.2])) (.str z) (.str z.cps.toList):=λz hz=>.str z (by rw[<- Str.len_list];exact hz);have b1:1<=sizeLine:=by decide
   exact .tup (.of aV) (.cons (one _ (xk ln.1 hi)) (.cons (one _ (xk ln.2.1 b1)) (.cons (one _ (xk ln.2.2 hi)) .nil)))
  ·cases e
 ·cases e
def KD{o:Expr}{ap cp:Pos}(ho:PF X o ga)(ha:PFA X [e] gl)(hbase:attributeBase o "partition" X.env (eval o X.env)=eval o X.env:=by rfl)(hfew:((backTo cp (starEach [e] X.env)).all (λx=>!x.1) && (backToKw cp (keywordEach [] X.env)).all (λx=>x.1.isSome)
 && decide ([e].length+([]:List Keyword).length+(if ([]:List Keyword).isEmpty then 0 else 1)<30))=true:=by rfl)(hline:(ap.endLine==cp.line)=true:=by rfl)(hs:starEach [e] X.env=(false,eval e X.env)::starEach [] X.env:=by rfl):
  PF X (.Call (.Attribute o "partition" ap) [e] [] cp) (eS "str" Bb ga gl):=iu qi PySem.F.slot_str_partition PySem.F.type_str_partition HP (Hd _) ho ha hbase hfew hline hs rfl
def Jw{f g h:Ev->R D}:CD (f::g::h::gs) ρ (.int 2)=h ρ:=rfl
def IH{x1 x2 x3:Str}{f1 f2 f3:List D->R D}(c1:Callee X.prog X.w X.K X.mg X.base x1 k n f1)(c2:Callee X.prog X.w X.K X.mg X.base x2 k n f2)(c3:Callee X.prog X.w X.K X.mg X.base x3 k n f3)(hr:Room k X.A)(hi:PF X ix gi)(ha:PFA X (e::es) gl)(hg1:Gl X x1:=by rfl)(hg2:Gl X x2:=by rfl)(hg3:Gl X x3:=by rfl)(hd1:(x1==("__debug__":Str))=false:=by decide)(hd2:(x2==("__debug__":Str))=false:=by decide)(hd3:(x3==("__debug__":Str))=false:=by decide)(he:starEach (e::es) X.env=(false,eval e X.env)::starEach es X.env:=by rfl)(hpl:(backTo pos (starEach es X.env)).any (·.1)=false:=by rfl)(hs:tj ix:=by exact λ_ _=>rfl)(hs1:starEach [.Name x1 p1,.Name x2 p2,.Name x3 p3] X.env=(false,eval (.Name x1 p1) X.env)::starEach [.Name x2 p2,.Name x3 p3] X.env:=by rfl)(hs2:starEach [.Name x2 p2,.Name x3 p3] X.env=(false,eval (.Name x2 p2) X.env)::starEach [.Name x3 p3] X.env:=by rfl)(hs3:starEach [.Name x3 p3] X.env=(false,eval (.Name x3 p3) X.env)::starEach [] X.env:=by rfl):
  PF X (.Call (.Subscript (.List [.Name x1 p1,.Name x2 p2,.Name x3 p3] pl) ix sp) (e::es) [] pos) (zP [aG n f1 gl,aG n f2 gl,aG n f3 gl] gi):=by
 intro pins s σ H Q I h;obtain⟨G,ρ,st,h⟩:=h;obtain⟨a1,fd1,ps1,F1,m1,k1,b1,l1⟩:=c1.ex;obtain⟨a2,fd2,ps2,F2,m2,k2,b2,l2⟩:=c2.ex;obtain⟨a3,fd3,ps3,F3,m3,k3,b3,l3⟩:=c3.ex;rw[yj];have key:PE X (.Subscript (.List [.Name x1 p1,.Name x2 p2,.Name x3 p3] pl) ix sp) (tOp (MB X.K) (NO (zY (tC (.ref a1)) (zY (tC (.ref a2)) (zY (tC (.ref a3)) MK)))) (tF X gi)):=Hl ix_list (AN (dQ (jV hg1 m1 rfl hd1) (dQ (jV hg2 m2 rfl hd2) (dQ (jV hg3 m3 rfl hd3) jE hs3) hs2) hs1)) hi hs;refine z9 (thn (key pins s σ H (λv H1=>∃G1,StE X.K G1 H1 σ ρ/\((v=.ref a1/\(aG n f1 gl ρ).post (Fin G1 H1 (Rep X.K) Q) (Exx X σ G1 H1))\/(v=.ref a2/\(aG n f2 gl ρ).post (Fin G1 H1 (Rep X.K) Q) (Exx X σ G1 H1))\/(v=.ref a3/\(aG n f3 gl ρ).post (Fin G1 H1 (Rep X.K) Q) (Exx X σ G1 H1)))) I ?_) λu s1 q=>?_)
 ·refine⟨by show 3<=sizeLine;decide,λl hl=>?_⟩;have u0:Up G H (upd G l (.lst [.ref a1,.ref a2,.ref a3])) (upd H l (.lst [.ref a1,.ref a2,.ref a3])):=.new st.sub hl;refine tG.intro (st.up u0) (lW u0 h) λd y G1 H1 u1 st1 r1 h1=>?_;cases r1 with
  |int i=>
   have h1:(if 0<=i then (match [aG n f1 gl,aG n f2 gl,aG n f3 gl][i.toNat]? with
    |some g=>g ρ
    |none=>.no)else .no:R D).post (Fin G1 H1 (Rep X.K) Q) (Exx X σ G1 H1):=h1;by_cases h0:0<=i
   ·rw[if_pos h0]at h1;obtain⟨j,rfl⟩:=i7 h0;rw[uH]at h1;have hsq:SqL X.K H1 l [.ref a1,.ref a2,.ref a3]:=.of (u1.sub _ _ (u1.gg _ _ aV))
    match j,h1 with
    | 0,h1=>exact⟨l,_,_,_,rfl,rfl,hsq,rfl,G1,st1,.inl ⟨rfl,h1⟩⟩
    | 1,h1=>exact⟨l,_,_,_,rfl,rfl,hsq,rfl,G1,st1,.inr (.inl ⟨rfl,h1⟩)⟩
    | 2,h1=>exact⟨l,_,_,_,rfl,rfl,hsq,rfl,G1,st1,.inr (.inr ⟨rfl,h1⟩)⟩
    |j+3,h1=>exact h1.elim
   ·rw[if_neg h0]at h1;exact h1.elim
  |_=>exact h1.elim
 ·obtain⟨v,H1,I1,rv,G1,st1,q⟩:=q;rcases q with⟨rfl,q⟩|⟨rfl,q⟩|⟨rfl,q⟩;·cases rv;rw[<- l1]at q;exact tf F1 hr k1 b1 ha he hpl I1 st1 q
  ·cases rv;rw[<- l2]at q;exact tf F2 hr k2 b2 ha he hpl I1 st1 q
  ·cases rv;rw[<- l3]at q;exact tf F3 hr k3 b3 ha he hpl I1 st1 q
def Hi{N:List Str}{x:Str}{pos:Pos}{s₂:Shared}{H₂:Hp}{pn:List (Addr×Obj)}{xe:Value->Shared->Prop}(h:At N i x)(hv:Vis (jI X N scope C s₂ H₂ fp pn xe).env.scope x:=by first|exact Or.inl rfl|exact Or.inr (Or.inl rfl)|exact Or.inr (Or.inr rfl))(hd:(x==("__debug__":Str))=false:=by decide)(hcd:(x==("__classdict__":Str))=false:=by decide):PF (jI X N scope C s₂ H₂ fp pn xe) (.Name x pos) (λρ=>rdV ρ i):=vS i h hv hd hcd
end
structure ClOk(N:List Str)(scope:Scope)(cl:List (Str×Addr))(σ:St)(H:Hp)(h:Heap):Prop where
 kind:scope.kind=.function
 nocell:∀y∈scope.names,y.2≠.cell
 inj:∀y z c,cl.lookup y=some c->cl.lookup z=some c->y=z
 has:∀y,scope.names.lookup y=some .free->∃c,cl.lookup y=some c
 cell:∀y c,cl.lookup y=some c->H c=none/\∃v,h.IsCell c v
 val:∀(i:Nat) y v,N[i]?=some y->σ[i]?=some (some v)->∃u c,RelV v u/\scope.names.lookup y=some .free/\cl.lookup y=some c/\h.IsCell c (some u)
 len:σ.length=N.length
section
variable{params:Arguments}{body:Expr}{pos:Pos}{c P:Addr}{ps:Array Value}{Q:Value->Shared->Prop}
structure Lam(X:Cx)(pins:List (Addr×Obj))(σ:St)(H:Hp)(s:Shared)(params:Arguments)(body:Expr)(scope:Scope)(f:Addr)(cd ctv pm:Value)(H1:Hp)(s1:Shared):Prop where
 inv:Inv X pins σ H1 s1
 hh:Same H H1
 new:∀a,H a=none->H1 a=none\/s.heap.objs.size<=a
 free:H1 f=none
 fn:s1.heap.get? f=some { cls:=.type "function",data:=.func (PySem.W.kla_fn "<lambda>" (X.env.qual++"<lambda>") params body scope (nD X.env scope.names []) pm cd ctv) }
 codeH:∃c o vs t u,cd=.ref c/\H1 c=some (.frz o u)/\o.data=.fields vs/\vs[1]?=some (.str (X.env.qual++"<lambda>") t)
end
structure FnFH(P:Program)(w:World)(K:PySem.W.Frag)(mg:Str->Option Value)(base:Heap)(k:Nat)(f:Addr)(fd:FuncData)(ps:List Str)(g:List D->R D):Prop where
 run:∀(A:Around)(x:Addr)(outer:List Env)(s:Shared)(H:Hp)(args:Args)(us:List Value)(vs:List V)(Q:VK)(E:XK),Room k A->Env0 P w K mg base A outer s H->BindsTo s fd args (ps.zip us)->Vals vs us->(vs.length=ps.length/\spF K g vs H Q E)->
  codeAny (model P w) (A.mark (some (.ref x))) (.call (.ref f) args) (CR (CXo P w) outer P w H s Q E) s
structure CalleeH(P:Program)(w:World)(K:PySem.W.Frag)(mg:Str->Option Value)(base:Heap)(x:Str)(k n:Nat)(g:List D->R D):Prop where
 ex:∃f fd ps,FnFH P w K mg base k f fd ps g/\mg x=some (.ref f)/\PySem.W.keepIn K (.ref f)=true/\Binds K fd ps []/\ps.length=n
noncomputable def Mm(P:Program)(w:World)(K:PySem.W.Frag)(mg:Str->Option Value)(base:Heap)(k:Nat)(s1:Shared)(G1 H1:Hp)(f:Addr)(m:R D):Prop:=
 ∀(Y:Cx)(pins:List (Addr×Obj))(σY:St)(G2 H2:Hp)(s2:Shared)(fs:List Addr)(Q:VK),Y.prog=P->Y.w=w->Y.K=K->Y.mg=mg->Y.base=base->Inv Y pins σY H2 s2->Room k Y.A->Un fs [] H1 H2 s1.heap s2.heap->Up G1 H1 G2 H2->
  m.post (Fin G2 H2 (Rep Y.K) Q) (Exx Y σY G2 H2)->(∃o fd,s2.heap.get? f=some o/\o.data=.func fd)/\wpAny (model Y.prog Y.w) Y.A (call (.ref f) []) (EP Y pins σY Q) Y.xe s2
structure Told(P:Program)(w:World)(K:PySem.W.Frag)(mg:Str->Option Value)(base:Heap)(x:Str)(k j:Nat)(g:R D->R D):Prop where
 ex:∃ft,mg x=some (.ref ft)/\PySem.W.keepIn K (.ref ft)=true/\∀(A:Around)(outer:List Env)(s1:Shared)(G1 H1:Hp)(f:Addr)(m:R D)(Q:VK)(E:XK),Room k A->Env0 P w K mg base A outer s1 H1->Same G1 H1->Mm P w K mg base j s1 G1 H1 f m->
  (g m).post (Fin G1 H1 (Rep K) Q) (λC=>∀G' H',Up G1 H1 G' H'->E (.ref C) none H')->codeAny (model P w) A (.call (.ref ft) ⟨[.ref f],[]⟩) (CR (CXo P w) outer P w H1 s1 Q E) s1
structure LamAt(X:Cx):Prop where
 ex:∃c P q,X.env.code=.ref c/\(∀h,X.K.In h->PySem.W.CodeHd h c P)/\Mw X.base P q/\q=X.env.qual++"<lambda>"/\X.base.BuiltinsAt X.mg P/\mainGlobals≠P
structure LamOk(X:Cx)(scope:Scope)(N':List Str)(ix:List Nat):Prop where
 kind:scope.kind=.function
 co:scope.isCoroutine=false
 gen:scope.isGenerator=false
 cell:∀y∈scope.names,y.2≠.cell
 fr:∀y∈scope.names,y.2=.free->X.env.kindOf y.1=some .cell
 tl:N'=ix.map λ(i:Nat)=>X.N.getD i Str.empty
 lt:∀i∈ix,i<X.N.length
 fre:∀y∈N',scope.names.lookup y=some .free/\(y,NameKind.free)∈scope.names
structure LamDef(K:PySem.W.Frag)(mg:Str->Option Value)(fd:FuncData)(Pt:Addr):Prop where
 ex:∃c,fd.code=.ref c/\∀h,K.In h->PySem.W.CodeHd h c Pt
 ne:mainGlobals≠Pt
structure LamB(K:PySem.W.Frag)(mg:Str->Option Value)(base:Heap)(qual:Str)(fd:FuncData)(Pt:Addr):Prop where
 ld:LamDef K mg fd Pt
 tb:Mw base Pt (qual++".<locals>."++"<lambda>")
 bm:base.BuiltinsAt mg Pt
noncomputable def hid(H:Hp)(ow:kK):Hp:=λa=>if (ow a).isSome=true then none else H a
def sW{o:HO}(h:hid H ow a=some o):H a=some o/\ow a=none:=by
 unfold hid at h;split at h;·cases h
 ·rename_i q;exact⟨h,by cases e:ow a with|none=>rfl|some t=>rw[e]at q;exact absurd rfl q⟩
def jd{t:Nat×Nat}(h:ow a=some t):hid H ow a=none:=by unfold hid;rw[h];exact if_pos rfl
def pf(h:ow a=none):hid H ow a=H a:=by unfold hid;rw[h];exact if_neg (by simp)
def Hn(H:Hp)(ow:kK):Same (hid H ow) H:=λa o e=>(sW e).1
noncomputable def zz(i j:Nat)(ow:kK):kK:=λa=>match ow a with
 |some (i',t)=>if i'=i then some (j,t)else none
 |none=>none
def yH{t:Nat}(h:ow a=some (i,t)):zz i j ow a=some (j,t):=by unfold zz;rw[h];exact if_pos rfl
def Ei{t:Nat×Nat}(h:zz i j ow a=some t):ow a=some (i,t.2)/\t.1=j:=by
 unfold zz at h;split at h
 ·rename_i i' t' e;split at h;·rename_i z;subst z;cases h;exact⟨e,rfl⟩
  ·cases h
 ·cases h
section
variable{K:PySem.W.Frag}{H₀:Hp}{p:Addr}{fs:List (Nat×Fd)}
def FdAt.hid{m':Bool}:∀{fd:Fd}{v:V},FdAt K H₀ G H ow i m k fd v->FdAt K (L2.hid H ow) G H ow i m' k fd v
 |.val d,v,r=>r
 |.own ds,v,⟨l,ws,e,h1,h2,h3,h4,h5⟩=>⟨l,ws,e,h1,h2,λ_=>jd h5,h4,h5⟩
 |.dic _,v,⟨l,ws,e,h1,h2,h3,h4,h5⟩=>⟨l,ws,e,h1,h2,λ_=>jd h5,h4,h5⟩
theorem FdsAt.hid{m':Bool}:∀{fs:List (Nat×Fd)}{vs:List (Str×V)},FdsAt K H₀ G H ow i m fs vs->FdsAt K (L2.hid H ow) G H ow i m' fs vs
 |_,_,.nil=>.nil
 |_,_,.cons h nk r t=>.cons h nk (FdAt.hid r) (FdsAt.hid t)
def InsAt.hid(h:InsAt K H₀ G H ow i m C p fs)(m':Bool):InsAt K (L2.hid H ow) G H ow i m' C p fs:=by obtain⟨dx,vs,h1,h2,h3,h4,h5,h6,h7,h8⟩:=h;exact⟨dx,vs,h1,h2,h3,h4,λ_=>⟨jd h6,jd h7⟩,h6,h7,h8.hid⟩
def DcoAt.hid(h:DcoAt K H₀ G H ow i m p fs)(m':Bool):DcoAt K (L2.hid H ow) G H ow i m' p fs:=
 let⟨o,xs,ks,ds,h1,h2,h3,h4,h5,h6,h7⟩:=h
 ⟨o,xs,ks,ds,h1,h2,λ_=>jd h4,h4,h5,h6,h7⟩
def ObjAt.hid(h:ObjAt K H₀ G H ow i m C p fs)(m':Bool):ObjAt K (L2.hid H ow) G H ow i m' C p fs:=h.imp (λz=>⟨z.1,z.2.hid m'⟩) λz=>⟨z.1,z.2.hid m'⟩
def FdAt.ro{H₀':Hp}:∀{fd:Fd}{v:V},FdAt K H₀ G H ow i m k fd v->FdAt K H₀' G H ow i false k fd v
 |.val d,v,r=>r
 |.own ds,v,⟨l,ws,e,h1,h2,h3,h4,h5⟩=>⟨l,ws,e,h1,h2,λz=>absurd z (by decide),h4,h5⟩
 |.dic _,v,⟨l,ws,e,h1,h2,h3,h4,h5⟩=>⟨l,ws,e,h1,h2,λz=>absurd z (by decide),h4,h5⟩
theorem FdsAt.ro{H₀':Hp}:∀{fs:List (Nat×Fd)}{vs:List (Str×V)},FdsAt K H₀ G H ow i m fs vs->FdsAt K H₀' G H ow i false fs vs
 |_,_,.nil=>.nil
 |_,_,.cons h nk r t=>.cons h nk (FdAt.ro r) (FdsAt.ro t)
def InsAt.ro(h:InsAt K H₀ G H ow i m C p fs)(H₀':Hp):InsAt K H₀' G H ow i false C p fs:=by obtain⟨dx,vs,h1,h2,h3,h4,h5,h6,h7,h8⟩:=h;exact⟨dx,vs,h1,h2,h3,h4,λz=>absurd z (by decide),h6,h7,h8.ro⟩
def DcoAt.ro(h:DcoAt K H₀ G H ow i m p fs)(H₀':Hp):DcoAt K H₀' G H ow i false p fs:=
 let⟨o,xs,ks,ds,h1,h2,h3,h4,h5,h6,h7⟩:=h
 ⟨o,xs,ks,ds,h1,h2,λz=>(nomatch z),h4,h5,h6,h7⟩
def ObjAt.ro(h:ObjAt K H₀ G H ow i m C p fs)(H₀':Hp):ObjAt K H₀' G H ow i false C p fs:=h.imp (λz=>⟨z.1,z.2.ro H₀'⟩) λz=>⟨z.1,z.2.ro H₀'⟩
end
noncomputable def ie(m:Bool)(C p:Addr)(fs:List (Nat×Fd))(n:Nat)(ds:List D):Ev:=some (.obj m C p fs)::(ds.map (λd=>some (.val d))++List.replicate (n - (ds.length+1)) none)
def uN{K:PySem.W.Frag}{H₀:Hp}{p:Addr}{fs:List (Nat×Fd)}{N:List Str}{us:List V}(sub0:Same G H₀)(up:Up G H₀ G H)(r:Reps K G us ds)(ob:ObjAt K H₀ G H ow 0 m C p fs):
  StR K G H₀ G H (kE N (.ref p::us)) (ie m C p fs N.length ds):=by
 have hl:=r.length;have get:∀(i:Nat) x,(ie m C p fs N.length ds)[i]?=some (some x)->(i=0/\x=.obj m C p fs)\/∃k d,i=k+1/\ds[k]?=some d/\x=.val d:=λi x e=>by
  cases i with
  |zero=>left;cases e;exact⟨rfl,rfl⟩
  |succ k=>
   right;unfold ie at e;rw[b8]at e;by_cases hi:k<ds.length
   ·rw[q9 (by simpa using hi),wZ]at e;cases q:ds[k]? with
    |none=>rw[q]at e;cases e
    |some d=>rw[q]at e;cases e;exact⟨k,d,rfl,q,rfl⟩
   ·rw[qC (by simpa using hi),p6]at e;split at e <;> cases e
 have obs:ObSt K H₀ G H (kE N (.ref p::us)) (ie m C p fs N.length ds):=by
  refine⟨ow,λi es l e=>?_,λi m' C' p' fs' e=>?_⟩;·rcases get i _ e with⟨_,z⟩|⟨k,d,_,_,z⟩ <;> cases z
  ·rcases get i _ e with⟨rfl,z⟩|⟨k,d,_,_,z⟩;·cases z;exact⟨rfl,ob⟩
   ·cases z
 refine⟨⟨up.sub,?_,λi d e=>?_,obs.rd⟩,sub0,up,λi es e=>?_,λi j es fs l e=>?_,obs⟩;·simp[kE,ie,hl]
 ·rcases get i _ e with⟨_,z⟩|⟨k,d',rfl,e',z⟩;·cases z
  ·cases z;obtain⟨v,ev,rv⟩:=r.get e';refine⟨v,?_,rv⟩;unfold kE;rw[ub,Z4,b8,q9 (by have:=(wK.mp ev).1;simpa using this),wZ,ev];rfl
 ·rcases get i _ e with⟨_,z⟩|⟨k,d,_,_,z⟩ <;> cases z
 ·rcases get i _ e with⟨_,z⟩|⟨k,d,_,_,z⟩ <;> cases z
inductive RM where
 |ok (d:D) (fs:List (Nat×Fd))|rd (d:D)|ex (C:Addr)|no
noncomputable abbrev MF:=List (Nat×Fd)->List D->RM
noncomputable def rH(C:Addr)(g:Ev->O)(n:Nat)(F:MF):Prop:=∀p fs ds,match F fs ds with
 |.ok d fs'=>∃ρ',ρ'[0]?=some (some (.obj true C p fs'))/\(g (ie true C p fs n ds)=.re d ρ'\/(g (ie true C p fs n ds)=.nx ρ'/\d=.non))
 |.rd d=>g (ie false C p fs n ds)=.rt d
 |.ex E=>∃ρ',g (ie false C p fs n ds)=.ex E ρ'
 |.no=>True
noncomputable def spM(K:PySem.W.Frag)(C:Addr)(F:MF):Sp:=λvs H Q E=>∃G p us ds fs ow,vs=.ref p::us/\Reps K G us ds/\Same G H/\(∀a t,ow a=some t->G a=none)/\ObjAt K (λ_=>none) G H ow 0 true C p fs/\match F fs ds with
 |.ok d fs'=>∀v G' H' ow',Up G (hid H ow) G' H'->ObjAt K (hid H ow) G' H' ow' 0 true C p fs'->Rep K G' v d->Q v H'
 |.rd d=>∀v G' H',Up G H G' H'->Rep K G' v d->Q v H'
 |.ex C'=>∀G' H',Up G H G' H'->E (.ref C') none H'
 |.no=>False
noncomputable abbrev FnM(P:Program)(w:World)(K:PySem.W.Frag)(mg:Str->Option Value)(base:Heap)(k:Nat)(f:Addr)(fd:FuncData)(ps:List Str)(C:Addr)(F:MF):Prop:=FnOk P w K mg base (CXo P w) k f fd ps (λvs H Q E=>vs.length=ps.length/\spM K C F vs H Q E)
def JI(sub:Same G H)(hg:∀a t,ow a=some t->G a=none):Same G (hid H ow)/\Up G (hid H ow) G H:=by
 have s:Same G (hid H ow):=λa o e=>by
  cases q:ow a with
  |none=>rw[pf q];exact sub a o e
  |some t=>rw[hg a t q]at e;cases e
 exact⟨s,sub,.refl _,Hn H ow,λ_ _ e=>.inl e⟩
def Fun.okM{w:World}{K:PySem.W.Frag}{mg:Str->Option Value}{base:Heap}{x:Str}{N:List Str}{F:MF}(Fn:Fun K x qual st f fd)(S:FnScope N ps (ar st)){g:Ev->O}(ok:rH C g N.length F)(hbody:∀(cdv:Value)(A:Around)(outer:List Env)(s:Shared)(H:Hp)(E:XK),Room k (A.deeper (envOfC qual (ar st) s.heap.objs.size f cdv))->lR (gB (CXo P w) P w K mg base N qual (ar st) f cdv A outer s H E) (cz st) g):
  FnM P w K mg base (k+1) f fd ps C F:=by
 obtain⟨oc,od,kV,doc,pm,an,cdv,ct,osl,rfl,lk,hcd⟩:=Fn.ex;refine Hj lk hcd S (λvs H Q E h=>h.1) λA outer s H vs Q E hr hsp=>?_;obtain⟨hl,G,p,us,ds,fs,ow,rfl,r,sub,og,ob,h⟩:=hsp;have o:=ok p fs ds;have rdo:StR K G H G H (kE N (.ref p::us)) (ie false C p fs N.length ds):=uN sub (.refl sub) r (ob.ro H);cases q:F fs ds with
 |no=>rw[q]at h;exact h.elim
 |rd d=>rw[q]at h o;refine⟨_,hbody cdv A outer s H E hr G H,G,_,rdo,?_⟩;have o:g (ie false C p fs N.length ds)=.rt d:=o;rw[o];exact λv G' H' u rv=>h v G' H' u rv
 |ex C'=>rw[q]at h o;obtain⟨ρ',o⟩:=o;refine⟨_,hbody cdv A outer s H E hr G H,G,_,rdo,?_⟩;rw[o];exact λe s' fl=>tx fl h
 |ok d fs'=>
  rw[q]at h o;obtain⟨ρ',e0,o⟩:=o;obtain⟨s0,u0⟩:=JI sub og;refine⟨_,hbody cdv A outer s H E hr G (hid H ow),G,ie true C p fs N.length ds,uN s0 u0 r (ob.hid true),?_⟩;have fin:∀σ G' H',StR K G (hid H ow) G' H' σ ρ'->∃ow',ObjAt K (hid H ow) G' H' ow' 0 true C p fs':=λσ G' H' sr=>by obtain⟨ow',_,o2⟩:=sr.ob;exact⟨ow',(o2 0 true C p fs' e0).2⟩
  rcases o with o|⟨o,rfl⟩;·rw[o];intro v σ G' H' sr rv;obtain⟨ow',z⟩:=fin σ G' H' sr;exact h v G' H' ow' sr.up z rv
  ·rw[o];intro σ G' H' sr;obtain⟨ow',z⟩:=fin σ G' H' sr;exact h .non G' H' ow' sr.up z .non
noncomputable def yv(i:Nat)(m:Bool)(H₀ G H:Hp)(ow:kK):kK:=λa=>open Classical in if (∃o,H a=some o)/\G a=none/\(m=true->H₀ a=none)then zz i 0 ow a else none
section
variable{K:PySem.W.Frag}{H₀:Hp}{p:Addr}{fs:List (Nat×Fd)}
def oK{t:Nat}{o:HO}(h:ow a=some (i,t))(e:H a=some o)(g:G a=none)(z:m=true->H₀ a=none):yv i m H₀ G H ow a=some (0,t):=by unfold yv;rw[if_pos ⟨⟨o,e⟩,g,z⟩];exact yH h
def xJ{t:Nat×Nat}(h:yv i m H₀ G H ow a=some t):ow a=some (i,t.2)/\(∃o,H a=some o)/\G a=none/\(m=true->H₀ a=none):=by
 unfold yv at h;split at h;·rename_i q;exact⟨(Ei h).1,q⟩
 ·cases h
def FdAt.cut:∀{fd:Fd}{v:V},FdAt K H₀ G H ow i m k fd v->FdAt K (λ_=>none) G H (yv i m H₀ G H ow) 0 true k fd v
 |.val d,v,r=>r
 |.own ds,v,⟨l,ws,e,h1,h2,h3,h4,h5⟩=>⟨l,ws,e,h1,h2,λ_=>rfl,h4,oK h5 h1 h2 h3⟩
 |.dic _,v,⟨l,ws,e,h1,h2,h3,h4,h5⟩=>⟨l,ws,e,h1,h2,λ_=>rfl,h4,oK h5 h1 h2 h3⟩
theorem FdsAt.cut:∀{fs:List (Nat×Fd)}{vs:List (Str×V)},FdsAt K H₀ G H ow i m fs vs->FdsAt K (λ_=>none) G H (yv i m H₀ G H ow) 0 true fs vs
 |_,_,.nil=>.nil
 |_,_,.cons h nk r t=>.cons h nk (FdAt.cut r) (FdsAt.cut t)
def InsAt.cut(h:InsAt K H₀ G H ow i m C p fs):InsAt K (λ_=>none) G H (yv i m H₀ G H ow) 0 true C p fs:=by obtain⟨dx,vs,h1,h2,h3,h4,h5,h6,h7,h8⟩:=h;exact⟨dx,vs,h1,h2,h3,h4,λ_=>⟨rfl,rfl⟩,oK h6 h1 h3 λz=>(h5 z).1,oK h7 h2 h4 λz=>(h5 z).2,h8.cut⟩
def DcoAt.cut(h:DcoAt K H₀ G H ow i m p fs):DcoAt K (λ_=>none) G H (yv i m H₀ G H ow) 0 true p fs:=
 let⟨o,xs,ks,ds,h1,h2,h3,h4,h5,h6,h7⟩:=h
 ⟨o,xs,ks,ds,h1,h2,λ_=>rfl,oK h4 h1 h2 h3,h5,h6,h7⟩
def ObjAt.cut(h:ObjAt K H₀ G H ow i m C p fs):ObjAt K (λ_=>none) G H (yv i m H₀ G H ow) 0 true C p fs:=h.imp (λz=>⟨z.1,z.2.cut⟩) λz=>⟨z.1,z.2.cut⟩
end
section
variable{K:PySem.W.Frag}{H₀ H₀':Hp}{ow2:kK}{p:Addr}
def FdAt.newtag(h:∀a t,ow a=some (0,t)->H₀ a=none->ow2 a=some (i,t))(z:∀a,H₀ a=none->H₀' a=none):∀{fd:Fd}{v:V},FdAt K H₀ G H ow 0 true k fd v->FdAt K H₀' G H ow2 i true k fd v
 |.val d,v,r=>r
 |.own ds,v,⟨l,ws,e,h1,h2,h3,h4,h5⟩=>⟨l,ws,e,h1,h2,λ_=>z l (h3 rfl),h4,h l _ h5 (h3 rfl)⟩
 |.dic _,v,⟨l,ws,e,h1,h2,h3,h4,h5⟩=>⟨l,ws,e,h1,h2,λ_=>z l (h3 rfl),h4,h l _ h5 (h3 rfl)⟩
theorem FdsAt.newtag(h:∀a t,ow a=some (0,t)->H₀ a=none->ow2 a=some (i,t))(z:∀a,H₀ a=none->H₀' a=none):∀{fs:List (Nat×Fd)}{vs:List (Str×V)},FdsAt K H₀ G H ow 0 true fs vs->FdsAt K H₀' G H ow2 i true fs vs
 |_,_,.nil=>.nil
 |_,_,.cons k nk r t=>.cons k nk (FdAt.newtag h z r) (FdsAt.newtag h z t)
def InsAt.newtag{fs:List (Nat×Fd)}(h:∀a t,ow a=some (0,t)->H₀ a=none->ow2 a=some (i,t))(z:∀a,H₀ a=none->H₀' a=none)(o:InsAt K H₀ G H ow 0 true C p fs):InsAt K H₀' G H ow2 i true C p fs:=by obtain⟨dx,vs,h1,h2,h3,h4,h5,h6,h7,h8⟩:=o;exact⟨dx,vs,h1,h2,h3,h4,λ_=>⟨z p (h5 rfl).1,z dx (h5 rfl).2⟩,h p _ h6 (h5 rfl).1,h dx _ h7 (h5 rfl).2,h8.newtag h z⟩
def DcoAt.newtag{fs:List (Nat×Fd)}(h:∀a t,ow a=some (0,t)->H₀ a=none->ow2 a=some (i,t))(z:∀a,H₀ a=none->H₀' a=none)(o:DcoAt K H₀ G H ow 0 true p fs):DcoAt K H₀' G H ow2 i true p fs:=
 let⟨o,xs,ks,ds,h1,h2,h3,h4,h5,h6,h7⟩:=o
 ⟨o,xs,ks,ds,h1,h2,λ_=>z p (h3 rfl),h p 0 h4 (h3 rfl),h5,h6,h7⟩
def ObjAt.newtag{fs:List (Nat×Fd)}(h:∀a t,ow a=some (0,t)->H₀ a=none->ow2 a=some (i,t))(z:∀a,H₀ a=none->H₀' a=none)(o:ObjAt K H₀ G H ow 0 true C p fs):ObjAt K H₀' G H ow2 i true C p fs:=o.imp (λy=>⟨y.1,y.2.newtag h z⟩) λy=>⟨y.1,y.2.newtag h z⟩
end
def pL:∀j,j<fnames.length->∀k,k<fnames.length->eB j=eB k->j=k:=by decide +kernel
noncomputable def mi(k:Nat)(fd:Fd):List (Nat×Fd)->List (Nat×Fd)
 | []=>[(k,fd)]
 | (j,x)::r=>if j=k then (j,fd)::r else (j,x)::mi k fd r
theorem pv{k j:Nat}{fd:Fd}(h:j≠k):∀{fs:List (Nat×Fd)},fs.lookup j=none->(mi k fd fs).lookup j=none
 | [],_=>by
  have z:(j==k)=false:=by simp[h]
  simp only[mi,xO,z,List.lookup_nil]
 | (a,x)::r,e=>by
  have ha:(j==a)=false:=by
   cases q:j==a with
   |false=>rfl
   |true=>simp only[xO,q]at e;cases e
  have er:r.lookup j=none:=by simpa only[xO,ha]using e
  unfold mi;by_cases z:a=k;·rw[if_pos z];simpa only[xO,ha]using er
  ·rw[if_neg z];simp only[xO,ha];exact pv h er
section
variable{K:PySem.W.Frag}{H₀:Hp}
theorem FdsAt.keys:∀{fs:List (Nat×Fd)}{vs:List (Str×V)},FdsAt K H₀ G H ow i m fs vs->∀j fd,fs.lookup j=some fd->j<fnames.length
 |_,_,.nil,j,fd,e=>by simp at e
 |_,_,.cons (k:=a) h nk r t,j,fd,e=>by
  cases q:j==a with
  |true=>rw[t6.mp q];exact h
  |false=>simp only[xO,q]at e;exact FdsAt.keys t j fd e
theorem FdsAt.get:∀{fs:List (Nat×Fd)}{vs:List (Str×V)}{fd:Fd},FdsAt K H₀ G H ow i m fs vs->fs.lookup k=some fd->∃v,vs.lookup (eB k)=some v/\FdAt K H₀ G H ow i m k fd v
 |_,_,_,.nil,e=>by simp at e
 |_,_,fd,.cons (k:=a) h nk r t,e=>by
  cases q:k==a with
  |true=>have z:=t6.mp q;subst z;simp only[xO,q]at e;cases e;exact⟨_,by simp[xO],r⟩
  |false=>
   simp only[xO,q]at e;obtain⟨v,e1,e2⟩:=FdsAt.get t e;have hk:=t.keys k fd e;have ne:(eB k==eB a)=false:=by
    cases z:eB k==eB a with
    |false=>rfl
    |true=>have:=pL k hk a h (p7 z);rw[this]at q;simp at q
   exact⟨v,by simp only[xO,ne];exact e1,e2⟩
theorem FdsAt.put{fd:Fd}(hk:k<fnames.length)(r:FdAt K H₀ G H ow i m k fd v):∀{fs:List (Nat×Fd)}{vs:List (Str×V)},FdsAt K H₀ G H ow i m fs vs->FdsAt K H₀ G H ow i m (mi k fd fs) (pK (eB k) v vs)
 |_,_,.nil=>.cons hk rfl r .nil
 |_,_,.cons (k:=a) h nk r' t=>by
  unfold mi pK;by_cases z:a=k;·subst z;rw[if_pos rfl,if_pos rfl];exact .cons h nk r t
  ·rw[if_neg z,if_neg (λq=>z (pL a h k hk q))];exact .cons h (pv (λq=>z q) nk) r' (FdsAt.put hk r t)
theorem FdsAt.len:∀{fs:List (Nat×Fd)}{vs:List (Str×V)},FdsAt K H₀ G H ow i m fs vs->vs.length=fs.length
 |_,_,.nil=>rfl
 |_,_,.cons h nk r t=>by simp[FdsAt.len t]
theorem FdsAt.keepL{ow2:kK}(h:∀l o,H l=some o->(∀C dx vs,o≠HO.ins C dx vs)->H' l=some o/\ow2 l=ow l):∀{fs:List (Nat×Fd)}{vs:List (Str×V)},FdsAt K H₀ G H ow i m fs vs->FdsAt K H₀ G H' ow2 i m fs vs
 |_,_,.nil=>.nil
 |_,_,.cons (fd:=fd) hk nk r t=>.cons hk nk (by
   cases fd with
   |val d=>exact r
   |own ds=>
    obtain⟨l,ws,e,h1,h2,h3,h4,h5⟩:=r;have q:=h l _ h1 λ_ _ _ z=>by cases z
    exact⟨l,ws,e,q.1,h2,h3,h4,by rw[q.2];exact h5⟩
   |dic kds=>
    obtain⟨l,ws,e,h1,h2,h3,h4,h5⟩:=r;have q:=h l _ h1 λ_ _ _ z=>by cases z
    exact⟨l,ws,e,q.1,h2,h3,h4,by rw[q.2];exact h5⟩) (FdsAt.keepL h t)
end
def StR.objTo{K:PySem.W.Frag}{H₀:Hp}{p:Addr}{fs fs':List (Nat×Fd)}{ow2:kK}(s:StR K G₀ H₀ G H σ ρ)(e:ρ[i]?=some (some (.obj true C p fs)))(o1:∀(j:Nat) ds l,ρ[j]?=some (some (.own ds))->σ[j]?=some (some (.ref l))->ow l=some (j,0))(o2:∀(j:Nat) m C p fs,ρ[j]?=some (some (.obj m C p fs))->σ[j]?=some (some (.ref p))/\ObjAt K H₀ G H ow j m C p fs)(hh:∀a o,H a=some o->(∀t,ow a≠some (i,t))->H' a=some o)(h0:Same H₀ H')(sub:Same G H')(oo:∀a j t o,j≠i->ow a=some (j,t)->H a=some o->ow2 a=some (j,t))(ob:ObjAt K H₀ G H' ow2 i true C p fs'):StR K G₀ H₀ G H' σ (ρ.set i (some (.obj true C p fs'))):=by
 have hl:i<ρ.length:=(wK.mp e).1;have get:∀(j:Nat) x,(ρ.set i (some (.obj true C p fs')))[j]?=some (some x)->(j=i/\x=.obj true C p fs')\/(j≠i/\ρ[j]?=some (some x)):=λj x h=>by
  by_cases z:i=j;·subst z;rw[v9 hl]at h;exact .inl ⟨rfl,by injection (xf h)with q;exact q.symm⟩
  ·rw[vU z]at h;exact .inr ⟨λq=>z q.symm,h⟩
 have ob':ObSt K H₀ G H' σ (ρ.set i (some (.obj true C p fs'))):=by
  refine⟨ow2,λj ds l h1 h2=>?_,λj m' C' p' fs'' h1=>?_⟩
  ·rcases get j _ h1 with⟨_,z⟩|⟨nj,f1⟩;·cases z
   ·obtain⟨l2,vs,q1,q2,_⟩:=s.own j ds f1;rw[h2]at q1;cases q1;exact oo l j 0 _ nj (o1 j ds l f1 h2) q2
  ·rcases get j _ h1 with⟨rfl,z⟩|⟨nj,f1⟩;·cases z;exact⟨(o2 j true C p fs e).1,ob⟩
   ·exact⟨(o2 j m' C' p' fs'' f1).1,(o2 j m' C' p' fs'' f1).2.keep ⟨λa t o q1 q=>hh a o q (λt' z=>by rw[q1]at z;cases z;exact nj rfl),.refl _,λa t o _ _ n=>n,λa t o q1 q=>oo a j t o nj q1 q,λa o _ _ n=>n⟩⟩
 refine⟨⟨sub,by simp[s.e.len],λj d h=>?_,ob'.rd⟩,s.sub0,⟨sub,s.up.gg,h0,s.up.fr⟩,λj ds h=>?_,λj k ds es l q1 q2 q3 q4=>?_,ob'⟩
 ·rcases get j _ h with⟨_,z⟩|⟨_,f1⟩;·cases z
  ·exact s.e.val j d f1
 ·rcases get j _ h with⟨_,z⟩|⟨nj,f1⟩;·cases z
  ·obtain⟨l,vs,p1,p2,p3,p4,p5⟩:=s.own j ds f1;exact⟨l,vs,p1,hh l _ p2 (λt z=>by rw[o1 j ds l f1 p1]at z;cases z;exact nj rfl),p3,p4,p5⟩
 ·rcases get j _ q1 with⟨_,z⟩|⟨nj,f1⟩;·cases z
  ·rcases get k _ q2 with⟨_,z⟩|⟨nk,f2⟩;·cases z
   ·exact s.inj j k ds es l f1 f2 q3 q4
section
variable{K:PySem.W.Frag}{H₀:Hp}{p dx:Addr}{fs:List (Nat×Fd)}{vs:List (Str×V)}
def StR.fput(s:StR K G₀ H₀ G H σ ρ)(e:ρ[i]?=some (some (.obj true C p fs)))(hk:k<fnames.length)(r:Rep K G v d)(hp:H p=some (.ins C dx vs)):
  StR K G₀ H₀ G (upd H p (.ins C dx (pK (eB k) v vs))) σ (ρ.set i (some (.obj true C p (mi k (.val d) fs)))):=by
 obtain⟨ow,o1,o2⟩:=s.ob;obtain⟨hne,dx',vs',h1,h2,h3,h4,h5,h6,h7,h8⟩:=(o2 i true C p fs e).2.insH hp;rw[hp]at h1;cases h1;refine s.objTo e o1 o2 (ow2:=ow) (λa o q n=>?_) (λa o q=>?_) (λa o q=>?_) (λa j t o _ q _=>q) ?_;·rw[aE (λz=>n _ (z▸h6))];exact q
 ·rw[aE (λz=>by rw[z,(h5 rfl).1]at q;cases q)];exact s.up.hh a o q
 ·rw[aE (λz=>by rw[z,h3]at q;cases q)];exact s.e.sub a o q
 ·refine .inl ⟨hne,dx,_,aV,?_,h3,h4,h5,h6,h7,?_⟩;·rw[aE (λz=>by rw[z,hp]at h2;cases h2)];exact h2
  ·exact(h8.put (fd:=.val d) hk r).keepL λl o q n=>⟨by rw[aE (λz=>by rw[z,hp]at q;cases q;exact n _ _ _ rfl)];exact q,rfl⟩
def StR.fputL(s:StR K G₀ H₀ G H σ ρ)(e:ρ[i]?=some (some (.obj true C p fs)))(hk:k<fnames.length){us:List V}(hl:H l=none)(r:Reps K G us ds)(hp:H p=some (.ins C dx vs)):
  StR K G₀ H₀ G (upd (upd H l (.lst us)) p (.ins C dx (pK (eB k) (.ref l) vs))) σ (ρ.set i (some (.obj true C p (mi k (.own ds) fs)))):=by
 obtain⟨ow,o1,o2⟩:=s.ob;obtain⟨hne,dx',vs',h1,h2,h3,h4,h5,h6,h7,h8⟩:=(o2 i true C p fs e).2.insH hp;rw[hp]at h1;cases h1;have nl:∀{a:Addr}{o:HO},H a=some o->a≠l:=λq z=>by rw[z,hl]at q;cases q
 have gl:G l=none:=s.e.sub.free hl;have h0l:H₀ l=none:=s.up.hh.free hl;refine s.objTo e o1 o2 (ow2:=λa=>if a=l then some (i,k+1)else ow a) (λa o q n=>?_) (λa o q=>?_) (λa o q=>?_) (λa j t o _ q q2=>(if_neg (nl q2)).trans q) ?_;·rw[aE (λz=>n _ (z▸h6)),aE (nl q)];exact q
 ·rw[aE (λz=>by rw[z,(h5 rfl).1]at q;cases q),aE (nl (s.up.hh a o q))];exact s.up.hh a o q
 ·rw[aE (λz=>by rw[z,h3]at q;cases q),aE (nl (s.e.sub a o q))];exact s.e.sub a o q
 ·refine .inl ⟨hne,dx,_,aV,?_,h3,h4,h5,(if_neg (nl hp)).trans h6,(if_neg (nl h2)).trans h7,?_⟩;·rw[aE (λz=>by rw[z,hp]at h2;cases h2),aE (nl h2)];exact h2
  ·refine FdsAt.put (fd:=.own ds) hk ⟨l,us,rfl,?_,gl,λ_=>h0l,r,if_pos rfl⟩ (h8.keepL λl' o q n=>⟨?_,if_neg (nl q)⟩);·rw[aE (λz=>nl hp z.symm),aV]
   ·rw[aE (λz=>by rw[z,hp]at q;cases q;exact n _ _ _ rfl),aE (nl q)];exact q
end
noncomputable def Jk(C:Addr)(ρ:Ev)(i:Nat):R (List (Nat×Fd)):=match ρ[i]? with
 |some (some (.obj _ C' _ fs))=>if C'=C then .ok fs else .no
 |_=>.no
noncomputable def CN(C:Addr)(ρ:Ev)(i:Nat):R (Addr×List (Nat×Fd)):=match ρ[i]? with
 |some (some (.obj true C' p fs))=>if C'=C then .ok (p,fs)else .no
 |_=>.no
noncomputable def Jc(fs:List (Nat×Fd))(k:Nat):R D:=match fs.lookup k with
 |some (.val d)=>.ok d
 |_=>.no
noncomputable def DS(C:Addr)(i k:Nat):Ev->R D:=λρ=>Jk C ρ i>>=λfs=>Jc fs k
noncomputable def Db(C:Addr)(i k:Nat)(gl:Ev->R (List D)):Ev->O:=λρ=>(CN C ρ i).out ρ λo=>(gl ρ).out ρ λds=>if o.2.length<900 then .nx (ρ.set i (some (.obj true C o.1 (mi k (.own ds) o.2))))else .no
noncomputable def zh(C:Addr)(i k:Nat)(ga:Ev->R D):Ev->O:=λρ=>(CN C ρ i).out ρ λo=>(ga ρ).out ρ λd=>if o.2.length<900 then .nx (ρ.set i (some (.obj true C o.1 (mi k (.val d) o.2))))else .no
noncomputable def Kn(ga:Ev->R D):Ev->O:=λρ=>(ga ρ).out ρ λd=>.re d ρ
structure CF(K:PySem.W.Frag)(C:Addr)(ks:List Nat):Prop where
 cl:Cls K C
 ne:C≠DC
 na:∀k∈ks,k<fnames.length/\NoAttr K C (eB k)
def Cg{α:Type}{k:List (Nat×Fd)->R α}{P:α->Prop}{E:Addr->Prop}(h:(Jk C ρ i>>=k).post P E):∃m p fs,ρ[i]?=some (some (.obj m C p fs))/\(k fs).post P E:=by
 unfold Jk at h;split at h
 ·rename_i m C' p fs e;by_cases z:C'=C;·subst z;rw[if_pos rfl]at h;exact⟨m,p,fs,e,h⟩
  ·rw[if_neg z]at h;exact h.elim
 ·exact h.elim
def lO{H₀:Hp}{D:Ends}{k:Addr×List (Nat×Fd)->O}(h:ka X G₀ H₀ D ((CN C ρ i).out ρ k)):∃p fs,ρ[i]?=some (some (.obj true C p fs))/\ka X G₀ H₀ D (k (p,fs)):=by
 unfold CN at h;split at h
 ·rename_i C' p fs e;by_cases z:C'=C;·subst z;rw[if_pos rfl]at h;exact⟨p,fs,e,h⟩
  ·rw[if_neg z]at h;exact h.elim
 ·exact h.elim
section
variable{e b:Expr}{ga:Ev->R D}{x f:Str}{ks:List Nat}{p1 p2 p3 pos ap cp:Pos}
def L7(i k:Nat)(c:CF X.K C ks)(hk:k∈ks)(hi:X.N[i]?=some x:=by rfl)(hv:Vis X.env.scope x:=by first|exact Or.inl rfl|exact Or.inr (Or.inl rfl)|exact Or.inr (Or.inr rfl))(hf:f=eB k:=by rfl)(hd:(x==("__debug__":Str))=false:=by decide)(hcd:(x==("__classdict__":Str))=false:=by decide)(hba:attributeBase (.Name x p1) f X.env (eval (.Name x p1) X.env)=eval (.Name x p1) X.env:=by rfl):
  PF X (.Attribute (.Name x p1) f p2) (DS C i k):=λpins s σ H Q I h=>by
 subst hf;refine AO (iK hi hv hd hcd) hba pins s σ H Q I ?_;obtain⟨G,ρ,st,h⟩:=h;obtain⟨m,p,fs,e1,h⟩:=Cg h;obtain⟨h1,ow,ob0⟩:=st.obs i m C p fs e1;obtain⟨dx,vs,g1,g2,g3,g4,g5,g6,g7,g8⟩:=ob0.ins c.ne;unfold L2.Jc at h;split at h;·rename_i d e2;obtain⟨v,e3,r⟩:=g8.get e2;exact⟨.ref p,h1,p,C,dx,vs,v,rfl,g1,c.cl,(c.na k hk).2,e3,h v G H (.refl st.sub) r⟩
 ·exact h.elim
def LN(i k:Nat)(c:CF X.K C ks)(hk:k∈ks)(he:PFL X e gl)(hi:X.N[i]?=some x:=by rfl)(hv:Vis X.env.scope x:=by first|exact Or.inl rfl|exact Or.inr (Or.inl rfl)|exact Or.inr (Or.inr rfl))(hf:f=eB k:=by rfl)(hd:(x==("__debug__":Str))=false:=by decide)(hcd:(x==("__classdict__":Str))=false:=by decide)(hs:swapsWith e (some (.Attribute (.Name x p1) f p2)) pos.line X.env=pure false:=by rfl):
  PSF X (.Assign [.Attribute (.Name x p1) f p2] e pos) (Db C i k gl):=λG₀ H₀ pins s σ H D I h=>by
 subst hf;refine BU (iK hi hv hd hcd) he hs pins s σ H D I ?_;obtain⟨G,ρ,sr,h⟩:=h;obtain⟨p,fs,e1,h⟩:=lO h;refine⟨G,ρ,sr.e,?_⟩;cases q:gl ρ with
 |ok ds=>
  rw[q]at h;simp only[R.out]at h;intro l us G' H' u hl r;obtain⟨h1,ow,ob0⟩:=sr.e.obs i true C p fs e1;obtain⟨dx,vs,g1,g2,g3,g4,g5,g6,g7,g8⟩:=ob0.ins c.ne;by_cases hz:fs.length<900;·rw[if_pos hz]at h;have hp:=u.hh _ _ g1;refine⟨.ref p,h1,p,C,dx,vs,rfl,?_,c.cl,(c.na k hk).2,by rw[g8.len];omega,h _ G' _ ((sr.ups u).fputL e1 (c.na k hk).1 hl r hp)⟩;rw[aE (λz=>by rw[z,hl]at hp;cases hp)];exact hp
  ·rw[if_neg hz]at h;exact h.elim
 |ex C=>rw[q]at h;exact Exx.of sr h
 |no=>rw[q]at h;exact h
def AL(i k:Nat)(c:CF X.K C ks)(hk:k∈ks)(he:PF X e ga)(hi:X.N[i]?=some x:=by rfl)(hv:Vis X.env.scope x:=by first|exact Or.inl rfl|exact Or.inr (Or.inl rfl)|exact Or.inr (Or.inr rfl))(hf:f=eB k:=by rfl)(hd:(x==("__debug__":Str))=false:=by decide)(hcd:(x==("__classdict__":Str))=false:=by decide)(hs:swapsWith e (some (.Attribute (.Name x p1) f p2)) pos.line X.env=pure false:=by rfl):
  PSF X (.Assign [.Attribute (.Name x p1) f p2] e pos) (zh C i k ga):=λG₀ H₀ pins s σ H D I h=>by
 subst hf;refine BU (iK hi hv hd hcd) he hs pins s σ H D I ?_;obtain⟨G,ρ,sr,h⟩:=h;obtain⟨p,fs,e1,h⟩:=lO h;refine⟨G,ρ,sr.e,?_⟩;cases q:ga ρ with
 |ok d=>
  rw[q]at h;simp only[R.out]at h;intro v G' H' u r;obtain⟨h1,ow,ob0⟩:=sr.e.obs i true C p fs e1;obtain⟨dx,vs,g1,g2,g3,g4,g5,g6,g7,g8⟩:=ob0.ins c.ne;by_cases hz:fs.length<900;·rw[if_pos hz]at h;have hp:=u.hh _ _ g1;exact⟨.ref p,h1,p,C,dx,vs,rfl,hp,c.cl,(c.na k hk).2,by rw[g8.len];omega,h _ G' _ ((sr.ups u).fput e1 (c.na k hk).1 r hp)⟩
  ·rw[if_neg hz]at h;exact h.elim
 |ex C=>rw[q]at h;exact Exx.of sr h
 |no=>rw[q]at h;exact h
def K7(he:PF X e ga):PSF X (.Return (some e) pos) (Kn ga):=λG₀ H₀ pins s σ H D I h=>by
 refine As he pins s σ H D I ?_;obtain⟨G,ρ,sr,h⟩:=h;have h:ka X G₀ H₀ D ((ga ρ).out ρ λd=>.re d ρ):=h;refine⟨G,ρ,sr.e,?_⟩;cases q:ga ρ with
 |ok d=>rw[q]at h;exact λv G' H' u r=>h v σ G' H' (sr.ups u) r
 |ex C=>rw[q]at h;exact Exx.of sr h
 |no=>rw[q]at h;exact h
end
structure MCallee(P:Program)(w:World)(K:PySem.W.Frag)(mg:Str->Option Value)(base:Heap)(C:Addr)(mn:Str)(k n:Nat)(F:MF):Prop where
 ex:∃f fd ps,FnM P w K mg base k f fd ps C F/\Meth K C mn f/\Binds K fd ps []/\ps.length=n+1
def MCallee.mono{w:World}{K:PySem.W.Frag}{mg:Str->Option Value}{base:Heap}{mn:Str}{F:MF}(c:MCallee P w K mg base C mn k n F)(k':Nat)(h:k<=k':=by decide):MCallee P w K mg base C mn k' n F:=by obtain⟨f,fd,ps,M,hm,hb,e⟩:=c.ex;exact⟨f,fd,ps,{ M with run:=λA outer s H args us vs Q E hr=>M.run A outer s H args us vs Q E (hr.mono h) },hm,hb,e⟩
theorem FdsAt.none{K:PySem.W.Frag}{H₀:Hp}{mn:Str}(hn:∀k,k<fnames.length->(mn==eB k)=false):∀{fs:List (Nat×Fd)}{vs:List (Str×V)},FdsAt K H₀ G H ow i m fs vs->vs.lookup mn=Option.none
 |_,_,.nil=>rfl
 |_,_,.cons (k:=a) h nk r t=>by simp only[xO,hn a h];exact FdsAt.none hn t
section
variable{p:Addr}{F:MF}{fs:List (Nat×Fd)}{Q:VK}
def Dt(M:FnM X.prog X.w X.K X.mg X.base k f fd ps C F)(hr:Room k X.A)(hb:Binds X.K fd ps [])(hl:ps.length=n+1)(I:Inv X pins σ H s)(r:Vals vs us)(rp:Reps X.K G vs ds)(hn:ds.length=n)(sub:Same G H)(og:∀a t,ow a=some t->G a=none)(ob:ObjAt X.K (λ_=>none) G H ow 0 true C p fs)(h:match F fs ds with
 |.ok d fs'=>∀v G' H' ow',Up G (hid H ow) G' H'->ObjAt X.K (hid H ow) G' H' ow' 0 true C p fs'->Rep X.K G' v d->Q v H'
 |.rd d=>∀v G' H',Up G H G' H'->Rep X.K G' v d->Q v H'
 |.ex C'=>Exx X σ G H C'
 |.no=>False):wpAny (model X.prog X.w) X.A (call (.ref f) (.ref p::us)) (EP X pins σ Q) X.xe s:=by
 have hvl:(V.ref p::vs).length=ps.length:=by rw[hl,w8,rp.length,hn]
 have hul:(Value.ref p::us++[]).length=ps.length:=by rw[uZ,w8,<- r.length,<- w8 (a:=V.ref p)];exact hvl
 have hbb:=hb s (.ref p::us) I.kIn hul;rw[uZ]at hbb;refine qF (qc (M.run X.A X.stack s H ⟨.ref p::us,[]⟩ (.ref p::us) (.ref p::vs) Q (λc _ H'=>∃C G',c=.ref C/\Up G H G' H'/\Exx X σ G H C) hr I.env0 hbb (.cons rfl r) ⟨hvl,G,p,vs,ds,fs,ow,rfl,rp,sub,og,ob,?_⟩) λr' s' hq=>?_)
 ·cases q:F fs ds with
  |ok d fs'=>rw[q]at h;exact h
  |rd d=>rw[q]at h;exact h
  |ex C'=>rw[q]at h;exact λG' H' u=>⟨C',G',rfl,u,h⟩
  |no=>rw[q]at h;exact h.elim
 ·cases r' with
  |error e'=>obtain⟨a,C,H',rfl,fl,C',G',ec,u,q⟩:=hq;cases ec;exact q _ _ ⟨G,H,.refl sub,pins,s,a,rfl,I,.inr (.inl ⟨G',H',fl,u⟩)⟩
  |ok fl=>
   cases fl with
   |ret u=>exact I.after hq
   |_=>exact False.elim hq
end
noncomputable def RM.read:RM->R D
 |.rd d=>.ok d
 |.ex C=>.ex C
 |_=>.no
noncomputable def RM.out(r:RM)(C p:Addr)(i:Nat)(ρ:Ev):O:=match r with
 |.ok _ fs'=>.nx (ρ.set i (some (.obj true C p fs')))
 |.rd _=>.nx ρ
 |.ex E=>.ex E ρ
 |.no=>.no
structure MkC(P:Program)(w:World)(K:PySem.W.Frag)(mg:Str->Option Value)(base:Heap)(C:Addr)(cn:Str)(k n:Nat)(F:MF):Prop where
 ex:∃f fd ps,FnM P w K mg base k f fd ps C F/\Mk K C f/\mg cn=some (.ref C)/\Binds K fd ps []/\ps.length=n+1
 ne:C≠DC
section
variable{F:MF}{Q:VK}
def Ek(hC:C≠DC)(M:Mk X.K C f)(Fi:FnM X.prog X.w X.K X.mg X.base k f fd ps C F)(hr:Room (k+1) X.A)(hb:Binds X.K fd ps [])(hl:ps.length=n+1)(I:Inv X pins σ H s)(r:Vals vs us)(rp:Reps X.K G vs ds)(hn:ds.length=n)(sub:Same G H)(h:match F [] ds with
 |.ok d fs'=>d=.non/\∀x G' H' ow',Up G H G' H'->ObjAt X.K H G' H' ow' 0 true C x fs'->Q (.ref x) H'
 |.ex C'=>Exx X σ G H C'
 |_=>False):wpAny (model X.prog X.w) X.A (call (.ref C) us) (EP X pins σ Q) X.xe s:=by
 have I2:=Inv.made (C:=C) I;generalize hx:s.heap.objs.size+1=x at I2;generalize hd:s.heap.objs.size=dx at I2;have fx:H x=none:=I.hok.fresh (by rw[<- hx];exact ma _);have fd':H dx=none:=I.hok.fresh (by rw[<- hd];exact zq _);have ne:dx≠x:=by rw[<- hx,<- hd];exact xh (rZ _)
 have gx:G x=none:=sub.free fx;have gd:G dx=none:=sub.free fd';have hh:Same H (upd (upd H dx (.own x)) x (.ins C dx [])):=λa o e=>by rw[aE (aJ e fx),aE (aJ e fd')];exact e
 have sub2:Same G (upd (upd H dx (.own x)) x (.ins C dx [])):=sub.trans hh;have up2:Up G H G (upd (upd H dx (.own x)) x (.ins C dx [])):=⟨sub2,.refl _,hh,λ_ _ e=>.inl e⟩
 let ow:kK:=λa=>if a=x\/a=dx then some (0,0)else none;have og:∀a t,ow a=some t->G a=none:=λa t q=>by
  by_cases z:a=x\/a=dx
  ·rcases z with z|z;·rw[z];exact gx
   ·rw[z];exact gd
  ·have:ow a=none:=if_neg z;rw[this]at q;cases q
 have ob:ObjAt X.K (λ_=>none) G (upd (upd H dx (.own x)) x (.ins C dx [])) ow 0 true C x []:=
  .inl ⟨hC,dx,[],aV,by rw[aE ne,aV],gx,gd,λ_=>⟨rfl,rfl⟩,if_pos (.inl rfl),if_pos (.inr rfl),.nil⟩;have eh:hid (upd (upd H dx (.own x)) x (.ins C dx [])) ow=H:=by
  funext a
  by_cases z:a=x\/a=dx
  ·rw[jd (t:=(0,0)) (if_pos z)];rcases z with z|z;·rw[z];exact fx.symm
   ·rw[z];exact fd'.symm
  ·rw[pf (if_neg z),aE (λq=>z (.inl q)),aE (λq=>z (.inr q))]
 have hvl:(V.ref x::vs).length=ps.length:=by rw[hl,w8,rp.length,hn]
 have hul:(Value.ref x::us++[]).length=ps.length:=by rw[uZ,w8,<- r.length,<- w8 (a:=V.ref x)];exact hvl
 refine qF (Ep (f:=f) I.kIn M.makes M.init (t6.mp M.fn) ?_);rw[hx,hd];have hbb:=hb _ (.ref x::us) I2.kIn hul;rw[uZ]at hbb;refine qc (Fi.run _ X.stack _ _ ⟨Value.ref x::us,[]⟩ (Value.ref x::us) (V.ref x::vs) (λv H2=>v=.non/\Q (.ref x) H2) (λc _ H'=>∃C' G',c=.ref C'/\Up G (upd (upd H dx (.own x)) x (.ins C dx [])) G' H'/\Exx X σ G H C') (hr.make C us [])
  (I2.env0.make C us []) hbb (.cons rfl r) ⟨hvl,G,x,vs,ds,[],ow,rfl,rp,sub2,og,ob,?_⟩) λr' s' hq=>?_
 ·cases q:F [] ds with
  |ok d fs'=>rw[q]at h;intro v G' H' ow' u o rv;rw[eh]at u o;obtain⟨rfl,h⟩:=h;exact⟨rv.non_inv,h x G' H' ow' u o⟩
  |rd d=>rw[q]at h;exact h.elim
  |ex C'=>rw[q]at h;exact λG' H' u=>⟨C',G',rfl,u,h⟩
  |no=>rw[q]at h;exact h.elim
 ·cases r' with
  |error e'=>obtain⟨a,C',H',rfl,fl,C'',G',ec,u,q⟩:=hq;cases ec;exact q _ _ ⟨G,_,up2,pins,_,a,rfl,I2,.inr (.inl ⟨G',H',fl,u⟩)⟩
  |ok fl=>
   cases fl with
   |ret u=>obtain⟨v,H',I3,rv,ev,q3⟩:=I2.after hq;subst ev;exact⟨rv,⟨V.ref x,H',I3,rfl,q3⟩⟩
   |_=>exact False.elim hq
end
noncomputable def Ji(F:MF)(n:Nat)(ds:List D):R (List (Nat×Fd)):=if ds.length=n then (match F [] ds with
 |.ok .non fs'=>.ok fs'
 |.ex C=>.ex C
 |_=>.no)else .no
noncomputable def Qh(X:Cx)(C:Addr)(F:MF)(n:Nat)(gl:Ev->R (List D)):TE:=λσ H Q=>∃G ρ,StE X.K G H σ ρ/\(gl ρ>>=Ji F n).post (λfs'=>∀x G' H' ow',Up G H G' H'->ObjAt X.K H G' H' ow' 0 true C x fs'->Q (.ref x) H') (Exx X σ G H)
section
variable{e:Expr}{cn:Str}{F:MF}{pos:Pos}
def KR(c:MkC X.prog X.w X.K X.mg X.base C cn k n F)(hr:Room (k+1) X.A)(ha:PFA X (e::es) gl)(hg:Gl X cn:=by rfl)(hdb:(cn==("__debug__":Str))=false:=by decide)(he:starEach (e::es) X.env=(false,eval e X.env)::starEach es X.env:=by rfl)(hpl:(backTo pos (starEach es X.env)).any (·.1)=false:=by rfl):PE X (.Call (.Name cn p) (e::es) [] pos) (Qh X C F n gl):=by
 intro pins s σ H Q I h;obtain⟨f,fd,ps,M,mk,hm,hb,hl⟩:=c.ex;obtain⟨G,ρ,st,h⟩:=h;refine o9 (mq I hg hm ?_ hdb);have t:tAF X gl σ H (λvs H1=>∃G1 ds,Up G H G1 H1/\Reps X.K G1 vs ds/\(Ji F n ds).post (λfs'=>∀x G' H' ow',Up G H G' H'->ObjAt X.K H G' H' ow' 0 true C x fs'->Q (.ref x) H') (Exx X σ G H)):=by
  refine⟨G,ρ,st,?_⟩;cases q:gl ρ with
  |ok ds=>rw[q]at h;exact λvs G1 H1 u r=>⟨G1,ds,u,r,h⟩
  |ex C=>rw[q]at h;exact h
  |no=>rw[q]at h;exact h
 refine j3 (h₀:=X.base) I.ok.mod.kin mk.kp (thn (ha pos pins s σ H _ I t) λus s1 q=>⟨?_,?_⟩) he hpl;·obtain⟨vs,H1,I1,r,_⟩:=q;exact I1.kIn
 obtain⟨vs,H1,I1,r,G1,ds,u1,rp,h1⟩:=q;unfold Ji at h1;by_cases hz:ds.length=n
 ·rw[if_pos hz]at h1;refine Ek c.ne mk M hr hb hl I1 r rp hz u1.sub ?_;cases q:F [] ds with
  |ok d fs'=>
   rw[q]at h1;cases d with
   |non=>refine⟨rfl,λx G' H' ow' u o=>h1 x G' H' ow' (u1.trans u) (o.keep ⟨λ_ _ _ _ e=>e,.refl _,λ_ _ _ _ _ n=>n,λ_ _ _ e _=>e,λa o _ _ z=>u1.hh.free z⟩)⟩
   |_=>exact h1.elim
  |rd d=>rw[q]at h1;exact h1.elim
  |ex C'=>rw[q]at h1;exact Exx.up u1 h1
  |no=>rw[q]at h1;exact h1.elim
 ·rw[if_neg hz]at h1;exact h1.elim
end
def StR.setObj{K:PySem.W.Frag}{H₀ G':Hp}{x:Addr}{fs:List (Nat×Fd)}{ow':kK}(s:StR K G₀ H₀ G H σ ρ)(u:Up G H G' H')(ob:ObjAt K H G' H' ow' 0 true C x fs)(i:Nat):StR K G₀ H₀ G' H' (σ.set i (some (.ref x))) (ρ.set i (some (.obj true C x fs))):=by
 have get:∀(j:Nat) y,(ρ.set i (some (.obj true C x fs)))[j]?=some (some y)->(j=i/\y=.obj true C x fs/\i<σ.length)\/(j≠i/\ρ[j]?=some (some y)/\(σ.set i (some (.ref x)))[j]?=σ[j]?):=λj y h=>by
  by_cases e:i=j
  ·subst e;have hl:i<ρ.length:=by have:=(wK.mp h).1;simpa using this
   rw[v9 hl]at h;exact .inl ⟨rfl,by injection (xf h)with q;exact q.symm,by rw[s.e.len];exact hl⟩
  ·rw[vU e]at h;exact .inr ⟨λz=>e z.symm,h,vU e⟩
 have s1:=s.ups u;have ob':ObSt K H₀ G' H' (σ.set i (some (.ref x))) (ρ.set i (some (.obj true C x fs))):=by
  obtain⟨ow,o1,o2⟩:=s.ob;refine⟨λa=>open Classical in if H a=none then zz 0 i ow' a else ow a,λj ds l h1 h2=>?_,λj m' C' p' fs' h1=>?_⟩
  ·rcases get j _ h1 with⟨_,z,_⟩|⟨nj,f1,f2⟩;·cases z
   ·rw[f2]at h2;obtain⟨l2,vs,q1,q2,_⟩:=s.own j ds f1;rw[h2]at q1;cases q1;exact(if_neg (by rw[q2];simp)).trans (o1 j ds l f1 h2)
  ·rcases get j _ h1 with⟨rfl,z,hj⟩|⟨nj,f1,f2⟩;·cases z;exact⟨v9 hj,ob.newtag (λa t q n=>(if_pos n).trans (yH q)) λa n=>s.up.hh.free n⟩
   ·rw[f2];have ku:ObKeep H₀ H₀ G H G' H' ow ow j:=.up u;exact⟨(o2 j m' C' p' fs' f1).1,(o2 j m' C' p' fs' f1).2.keep ⟨ku.hh,ku.gg,ku.gn,λa t o q1 q2=>(if_neg (by rw[q2];simp)).trans q1,ku.h0⟩⟩
 refine⟨⟨s1.e.sub,by simp[s1.e.len],λj d h=>?_,ob'.rd⟩,s1.sub0,s1.up,λj ds h=>?_,λj k ds es l q1 q2 q3 q4=>?_,ob'⟩
 ·rcases get j _ h with⟨_,z,_⟩|⟨_,f1,f2⟩;·cases z
  ·rw[f2];exact s1.e.val j d f1
 ·rcases get j _ h with⟨_,z,_⟩|⟨nj,f1,f2⟩;·cases z
  ·rw[f2];exact s1.own j ds f1
 ·rcases get j _ q1 with⟨_,z,_⟩|⟨nj,f1,f2⟩;·cases z
  ·rcases get k _ q2 with⟨_,z,_⟩|⟨nk,f3,f4⟩;·cases z
   ·exact s1.inj j k ds es l f1 f3 (f2▸q3) (f4▸q4)
noncomputable def FI{α:Type}(X:Cx)(sts:List Stmt)(g:α->Ev->O):Prop:=∀G₀ H₀,PSs X sts (λD σ H=>∃G ρ,StR X.K G₀ H₀ G H σ ρ/\∀q,ka X G₀ H₀ D (g q ρ))
section
variable{fV:List Stmt}{g1:Ev->O}{gs:Ev->O}{α:Type}{g2:α->Ev->O}{e:Expr}{gl':Ev->R (List D)}{cn:Str}{F:MF}{pos:Pos}
noncomputable def DN(g:Ev->O):Unit->Ev->O:=λ_=>g
noncomputable def oS(g1:Ev->O)(g2:α->Ev->O):α->Ev->O:=λq ρ=>(g1 ρ).seq (g2 q)
noncomputable def Ld(i:Nat)(g:α->Ev->O):α->Ev->O:=λq ρ=>g q (frz i ρ)
noncomputable def EW(C:Addr)(i:Nat)(F:MF)(n:Nat)(gl:Ev->R (List D))(g2:α->Ev->O):Addr×α->Ev->O:=λq ρ=>(gl ρ>>=Ji F n).out ρ λfs=>g2 q.2 (ρ.set i (some (.obj true C q.1 fs)))
def GN(h:lR X fV gs):FI X fV (DN gs):=λG₀ H₀ pins s σ H D I ⟨G,ρ,sr,q⟩=>h G₀ H₀ pins s σ H D I ⟨G,ρ,sr,q ()⟩
def im[Inhabited α](h1:PSF X st g1)(h2:FI X fV g2):FI X (st::fV) (oS g1 g2):=λG₀ H₀ pins s σ H D I h=>by
 refine sD (h1 G₀ H₀) (h2 G₀ H₀) pins s σ H D I ?_;obtain⟨G,ρ,sr,h⟩:=h;have h:∀q,ka X G₀ H₀ D ((g1 ρ).seq (g2 q)):=h;refine⟨G,ρ,sr,?_⟩;cases q:g1 ρ with
 |nx ρ'=>rw[q]at h;exact λσ' G' H' sr'=>⟨G',ρ',sr',h⟩
 |rt d=>rw[q]at h;exact h default
 |re d ρ'=>rw[q]at h;exact h default
 |bk ρ'=>rw[q]at h;exact h default
 |ct ρ'=>rw[q]at h;exact h default
 |ex C ρ'=>rw[q]at h;exact h default
 |no=>rw[q]at h;exact h default
def J1(i:Nat)(h:FI X fV g2):FI X fV (Ld i g2):=λG₀ H₀ pins s σ H D I ⟨G,ρ,sr,q⟩=>by obtain⟨G',sr'⟩:=sr.frz i;exact h G₀ H₀ pins s σ H D I ⟨G',_,sr',q⟩
def LU[Inhabited α](i:Nat)(c:MkC X.prog X.w X.K X.mg X.base C cn k n F)(hr:Room (k+1) X.A)(hN:X.N.Nodup)(ha:PFA X (e::es) gl)(h2:FI X fV g2)(hi:X.N[i]?=some y:=by rfl)(hx:Loc X.env.scope y:=by first|exact Or.inl rfl|exact Or.inr rfl)(hg:Gl X cn:=by rfl)(hdb:(cn==("__debug__":Str))=false:=by decide)(he:starEach (e::es) X.env=(false,eval e X.env)::starEach es X.env:=by rfl)(hpl:(backTo p (starEach es X.env)).any (·.1)=false:=by rfl)(hs:swapsWithSole [.Name y py] (.Call (.Name cn pos) (e::es) [] p) pos.line X.env=pure false:=by rfl)(hw:swappedStores [.Name y py] (.Call (.Name cn pos) (e::es) [] p) X.env=pure none:=by rfl)(hf:X.fn y=true\/X.env.scope.names.lookup y=some .local:=by first|exact .inl rfl|exact .inr rfl){pos':Pos}(hs':swapsWithSole [.Name y py] (.Call (.Name cn pos) (e::es) [] p) pos'.line X.env=pure false:=by rfl):
  FI X (.Assign [.Name y py] (.Call (.Name cn pos) (e::es) [] p) pos'::fV) (EW C i F n gl g2):=λG₀ H₀ pins s σ H D I h=>by
 refine sD (rQ (KR c hr ha hg hdb he hpl) (mj (i:=i) hN hi hx hf) hs' hw rfl) (h2 G₀ H₀) pins s σ H D I ?_;obtain⟨G,ρ,sr,h⟩:=h;have h:∀q:Addr×α,ka X G₀ H₀ D ((gl ρ>>=Ji F n).out ρ λfs=>g2 q.2 (ρ.set i (some (.obj true C q.1 fs)))):=h;refine⟨G,ρ,sr.e,?_⟩;cases q:gl ρ>>=Ji F n with
 |ok fs=>rw[q]at h;exact λx G' H' ow' u ob=>⟨G',_,sr.setObj u ob i,λq2=>h (x,q2)⟩
 |ex C'=>rw[q]at h;exact Exx.of sr (h (0,default))
 |no=>rw[q]at h;exact(h (0,default)).elim
end
def Fun.okA{w:World}{K:PySem.W.Frag}{mg:Str->Option Value}{base:Heap}{x:Str}{N:List Str}{α:Type}(F:Fun K x qual st f fd)(S:FnScope N ps (ar st)){g:α->Ev->O}{gr:List D->R D}(hg:∀ds,ds.length=ps.length->gr ds=.no\/∀q,aD (g q (aw N.length ds))=gr ds)(hbody:∀(cdv:Value)(A:Around)(outer:List Env)(s:Shared)(H:Hp)(E:XK),Room k (A.deeper (envOfC qual (ar st) s.heap.objs.size f cdv))->FI (gB (CXo P w) P w K mg base N qual (ar st) f cdv A outer s H E) (cz st) g):
  FnF P w K mg base (k+1) f fd ps gr:=by
 obtain⟨oc,od,kV,doc,pm,an,cdv,ct,osl,rfl,lk,hcd⟩:=F.ex;refine Hj lk hcd S (λvs H Q E h=>h.1) λA outer s H vs Q E hr hsp=>?_;obtain⟨hl,G,ds,sub,r,h⟩:=hsp;refine⟨_,hbody cdv A outer s H E hr G H,G,aw N.length ds,yI sub r,λq0=>?_⟩;rcases hg ds (by rw[<- r.length];exact hl)with z|z;·rw[z]at h;exact h.elim
 ·rw[<- z q0]at h;cases q:g q0 (aw N.length ds)with
  |nx ρ=>rw[q]at h;exact λσ G' H' sr=>h .non G' H' sr.up .non
  |rt d=>rw[q]at h;exact λv G' H' u rv=>h v G' H' u rv
  |re d ρ=>rw[q]at h;exact λv σ G' H' sr rv=>h v G' H' sr.up rv
  |bk ρ=>rw[q]at h;exact h.elim
  |ct ρ=>rw[q]at h;exact h.elim
  |ex C ρ=>rw[q]at h;exact λe s' fl=>tx fl h
  |no=>rw[q]at h;exact h.elim
structure CalleeM(P:Program)(w:World)(K:PySem.W.Frag)(mg:Str->Option Value)(base:Heap)(C:Addr)(x:Str)(k n:Nat)(F:MF):Prop where
 ex:∃f fd ps,FnM P w K mg base k f fd ps C F/\mg x=some (.ref f)/\PySem.W.keepIn K (.ref f)=true/\Binds K fd ps []/\ps.length=n+1
noncomputable def LS(P:Program)(w:World)(K:PySem.W.Frag)(mg:Str->Option Value)(base:Heap)(k:Nat)(s1:Shared)(G1 H1:Hp)(f:Addr)(Q:VK):Prop:=
 ∀(Y:Cx)(pins:List (Addr×Obj))(σY:St)(G2 H2:Hp)(s2:Shared)(fs:List Addr),Y.prog=P->Y.w=w->Y.K=K->Y.mg=mg->Y.base=base->Inv Y pins σY H2 s2->Room k Y.A->Un fs [] H1 H2 s1.heap s2.heap->Up G1 H1 G2 H2->
  (∃o fd,s2.heap.get? f=some o/\o.data=.func fd)/\wpAny (model Y.prog Y.w) Y.A (call (.ref f) []) (EP Y pins σY Q) Y.xe s2
structure ToldOk(P:Program)(w:World)(K:PySem.W.Frag)(mg:Str->Option Value)(base:Heap)(x:Str)(k j:Nat):Prop where
 ex:∃ft,mg x=some (.ref ft)/\PySem.W.keepIn K (.ref ft)=true/\∀(A:Around)(outer:List Env)(s1:Shared)(G1 H1:Hp)(f:Addr)(Q:VK)(E:XK),Room k A->Env0 P w K mg base A outer s1 H1->Same G1 H1->LS P w K mg base j s1 G1 H1 f Q->
  codeAny (model P w) A (.call (.ref ft) ⟨[.ref f],[]⟩) (CR (CXo P w) outer P w H1 s1 Q E) s1
end L2
namespace L2
open PySem PySem.Spec PyProof.Rows
open PySem.AutoSeq1 (wpAny_loadPart')
open PySem.MeetsSeq PySem.MeetsSeq2 PySem.MeetsSeq3
inductive NumPairs:List (Value×Value)->List Int->List Int->Prop
 |nil:NumPairs [] [] []
 |cons {zs:List (Value×Value)} {xs ys:List Int} (i:Int) (t:Addr) (j:Int) (u:Addr) (r:NumPairs zs xs ys):NumPairs ((.int i t,.int j u)::zs) (i::xs) (j::ys)
end L2
namespace L2
open PySem PySem.Spec PyProof.Rows
section
variable{elt:Expr}{x:Str}{px pos:Pos}{gt:Ev->R Bool}
structure CompOkC(X:Cx)(scope:Scope)(x:Str):Prop where
 kind:scope.kind=.function
 names:∀y∈scope.names,y.2=.local->scope.names.lookup y.1=some .local
 nofree:∀y∈scope.names,y.2≠.free
 cells:∀L,cellsFrom L scope.names []=[(x,L)]
 lk:scope.names.lookup x=some .cell
 only:∀y,scope.names.lookup y=some .cell->y=x
end
noncomputable abbrev TF:=List (Nat×Fd)->Option (List (Nat×Fd))
noncomputable def spT(K:PySem.W.Frag)(C:Addr)(F:TF):Sp:=λvs H Q E=>∃G p fs ow,vs=[.ref p]/\Same G H/\(∀a t,ow a=some t->G a=none)/\ObjAt K (λ_=>none) G H ow 0 true C p fs/\
 ∃fs',F fs=some fs'/\∀x G' H' ow',Up G H G' H'->ObjAt K H G' H' ow' 0 true C x fs'->Q (.ref x) H'
noncomputable abbrev FnT(P:Program)(w:World)(K:PySem.W.Frag)(mg:Str->Option Value)(base:Heap)(k:Nat)(f:Addr)(fd:FuncData)(ps:List Str)(C:Addr)(F:TF):Prop:=FnOk P w K mg base (CXo P w) k f fd ps (λvs H Q E=>vs.length=ps.length/\spT K C F vs H Q E)
structure TCallee(P:Program)(w:World)(K:PySem.W.Frag)(mg:Str->Option Value)(base:Heap)(C:Addr)(mn:Str)(k:Nat)(F:TF):Prop where
 ex:∃f fd ps,FnT P w K mg base k f fd ps C F/\Meth K C mn f/\Binds K fd ps []/\ps.length=1
section
variable{prog:Program}{w:World}{A:Around}{a₀:Array Keyed}{κ:KeyKind}{kd:SortKind}{st:SortSt}{π:Nat->Nat}
structure SB(kd:SortKind)(a₀:Array Keyed)(st:SortSt):Prop where
 perm:(arrOf st).Perm a₀
 kind:kindOf st=kd
 failed:failedOf st=none
 pend:pendingOf st = #[]
noncomputable def Bef(κ:KeyKind)(a₀:Array Keyed)(i j:Nat):Prop:=κ.blt (KK κ a₀ j) (KK κ a₀ i)=false/\(i<j\/κ.blt (KK κ a₀ i) (KK κ a₀ j)=true)
structure Pr(kd:SortKind)(a₀:Array Keyed)(st:SortSt)(π:Nat->Nat)(k:Nat):Prop where
 b:SB kd a₀ st
 g:∀i,(arrOf st)[i]?=a₀[π i]?
 hi:∀i,k<=i->π i=i
 lo:∀i,i<k->π i<k
structure Ds(κ:KeyKind)(kd:SortKind)(a₀:Array Keyed)(st:SortSt)(π:Nat->Nat)(p n:Nat):Prop where
 b:SB kd a₀ st
 g:∀i,(arrOf st)[i]?=a₀[π i]?
 pn:p<=n
 hi:∀i,p<=i->π i=i
 lo:∀i,i<p->π i<p
 r:∀i j,i<j->j<p->Bef κ a₀ (π j) (π i)
 t:∀i j,p<=i->i<n->p<=j->j<n->KK κ a₀ i=KK κ a₀ j
 u:∀i j,i<p->p<=j->j<n->κ.blt (KK κ a₀ j) (KK κ a₀ (π i))=true
noncomputable def CS(π:Nat->Nat)(p n i:Nat):Nat:=if p<=i/\i<n then p+n - 1 - i else π i
structure Rv(κ:KeyKind)(kd:SortKind)(a₀:Array Keyed)(st:SortSt)(π:Nat->Nat)(n:Nat):Prop where
 b:SB kd a₀ st
 g:∀i,(arrOf st)[i]?=a₀[π i]?
 hi:∀i,n<=i->π i=i
 lo:∀i,i<n->π i<n
 r:∀i j,i<j->j<n->Bef κ a₀ (π j) (π i)
end
section
variable{elt:Expr}{x:Str}{px pos:Pos}{gt:Ev->R Bool}
structure CompOkD(X:Cx)(scope:Scope)(x:Str)(N':List Str)(ix:List Nat):Prop where
 kind:scope.kind=.function
 names:∀y∈scope.names,y.2=.local->scope.names.lookup y.1=some .local
 cells:∀L cs,cellsFrom L scope.names cs=(x,L)::cs
 lkx:(relabel scope X.env).names.lookup x=some .cell
 cel:∀y∈scope.names,y.2=.cell->y.1=x
 fr:∀y∈scope.names,y.2=.free->X.env.kindOf y.1=some .cell
 nd:N'.Nodup
 hd:N'[0]?=some x
 tl:N'.drop 1=ix.map λ(i:Nat)=>X.N.getD i Str.empty
 lt:∀i∈ix,i<X.N.length
 fre:∀y∈N'.drop 1,scope.names.lookup y=some .free/\(y,NameKind.free)∈scope.names
 nx:∀y∈N'.drop 1,y≠x
end
noncomputable def spN(K:PySem.W.Frag)(f:List D->R (List D)):Sp:=λvs H Q E=>∃G ds,Same G H/\Reps K G vs ds/\(f ds).post (pT K G H Q) (λC=>∀G' H',Up G H G' H'->E (.ref C) none H')
noncomputable abbrev FnN(P:Program)(w:World)(K:PySem.W.Frag)(mg:Str->Option Value)(base:Heap)(k:Nat)(f:Addr)(fd:FuncData)(ps:List Str)(g:List D->R (List D)):Prop:=FnOk P w K mg base (CXo P w) k f fd ps (λvs H Q E=>vs.length=ps.length/\spN K g vs H Q E)
structure CalleeN(P:Program)(w:World)(K:PySem.W.Frag)(mg:Str->Option Value)(base:Heap)(x:Str)(k n:Nat)(g:List D->R (List D)):Prop where
 ex:∃f fd ps,FnN P w K mg base k f fd ps g/\mg x=some (.ref f)/\PySem.W.keepIn K (.ref f)=true/\Binds K fd ps []/\ps.length=n
noncomputable def Os(P:Program)(w:World)(K:PySem.W.Frag)(mg:Str->Option Value)(base:Heap)(k:Nat)(s1:Shared)(G1 H1:Hp)(f:Addr)(m:R (List D)):Prop:=
 ∀(Y:Cx)(pins:List (Addr×Obj))(σY:St)(G2 H2:Hp)(s2:Shared)(fs:List Addr)(Q:VK),Y.prog=P->Y.w=w->Y.K=K->Y.mg=mg->Y.base=base->Inv Y pins σY H2 s2->Room k Y.A->Un fs [] H1 H2 s1.heap s2.heap->Up G1 H1 G2 H2->
  m.post (pT Y.K G2 H2 Q) (Exx Y σY G2 H2)->(∃o fd,s2.heap.get? f=some o/\o.data=.func fd)/\wpAny (model Y.prog Y.w) Y.A (call (.ref f) []) (EP Y pins σY Q) Y.xe s2
noncomputable def NA(m:R (List D)):R D:=match m with
 |.ok ds=>if ds.length<sizeLine then ofO (eqF (.lst false ds) (.lst false ds))else .no
 |_=>.no
structure Stays(P:Program)(w:World)(K:PySem.W.Frag)(mg:Str->Option Value)(base:Heap)(x:Str)(k j:Nat):Prop where
 ex:∃ft,mg x=some (.ref ft)/\PySem.W.keepIn K (.ref ft)=true/\∀(A:Around)(outer:List Env)(s1:Shared)(G1 H1:Hp)(f:Addr)(m:R (List D))(Q:VK)(E:XK),Room k A->Env0 P w K mg base A outer s1 H1->Same G1 H1->Os P w K mg base j s1 G1 H1 f m->
  (NA m).post (Fin G1 H1 (Rep K) Q) (λC=>∀G' H',Up G1 H1 G' H'->E (.ref C) none H')->codeAny (model P w) A (.call (.ref ft) ⟨[.ref f],[]⟩) (CR (CXo P w) outer P w H1 s1 Q E) s1
noncomputable def Qg:Jh:=λx y v H Q=>∃a kvs n,x=.ref a/\y=.int n/\H a=some (.dK kvs)/\(∀e∈kvs,e.1≠Sum.inl n)/\kvs.length<sizeLine/\Q (upd H a (.dK (kvs++[(.inl n,v)])))
def L5{n:Key}{kvs:List (Key×V)}{vs:List (Key×Value)}(r:KV kvs vs):(∀e∈kvs,e.1≠n)->(vs.any λkv=>decide (kv.1=n))=false:=by
 unfold KV at r;induction r with
 |nil=>intro _;rfl
 | @cons p q ps qs h t ih=>intro hk;have h1:=hk p (v8 ..);have h2:=ih λe he=>hk e (wB _ he);rw[List.any_cons,h2,Bool.or_false,Z8,<- h.1];exact h1
def Gx{n:Key}{u:Value}{kvs:List (Key×V)}{vs:List (Key×Value)}(r:KV kvs vs)(rv:RelV v u):KV (kvs++[(n,v)]) (vs++[(n,u)]):=by
 unfold KV at r⊢;induction r with
 |nil=>exact .cons ⟨rfl,rv⟩ .nil
 |cons h t ih=>exact .cons h ih
def FQ{kvs:List (Key×V)}{vs:List (Key×Value)}(r:KV kvs vs):kvs.length=vs.length:=by
 unfold KV at r;induction r with
 |nil=>rfl
 |cons h t ih=>rw[w8,w8,ih]
section
def Hy:MI X Qg:=by
 intro pins s σ H o i v ov iv u Q I ro ri rv ⟨a,kvs,n,eo,ei,h1,h2,h3,h4⟩;subst eo ei;cases ro;obtain⟨t,rfl⟩:=ri;obtain⟨z,hd,vs,rel,dd⟩:=(show ObjOk X.prog X.w H s.heap a (.dK kvs) from I.hok a _ h1)
 have hl:=FQ rel;have st:stored vs (Sum.inl n:Key) u=vs++[(Sum.inl n,u)]:=by unfold stored;rw[L5 rel h2];rfl
 refine wpAny_setItem_pairs (hsz:=by rw[<- hl];exact z) (xL _ _ n t) dd λh' dd' hb=>⟨_,I.write (x:=a) (e:=a) (o:=.dK (kvs++[(.inl n,v)])) (by rw[h1];exact True.intro) (.inl rfl) (λb q ne e=>(hb.2 b ne).trans e) (let⟨q,_,_,hq,_⟩:=dd';⟨q,hq⟩) ⟨?_,hd,_,?_,dd'⟩,h4⟩
 ·rw[uC,List.length_singleton];omega
 ·rw[st];exact Gx rel rv
end
noncomputable def kvD(kds:List (Int×D))(ws:List V):List (Key×V):=(kds.map λx=>(Sum.inl x.1:Key)).zip ws
section
variable{K:PySem.W.Frag}{H₀:Hp}
def FdsAt.mutD{us:List V}{es:List (Int×D)}(re:Reps K G us (es.map (·.2)))(ol:ow l=some (i,k+1))(gl:G l=Option.none)(hl:m=true->H₀ l=Option.none){fs:List (Nat×Fd)}{vs:List (Str×V)}(q:FdsAt K H₀ G H ow i m fs vs):∀{fd:Fd},fs.lookup k=some fd->vs.lookup (eB k)=some (.ref l)->
  FdsAt K H₀ G (upd H l (.dK (kvD es us))) ow i m (mi k (.dic es) fs) vs:=by
 have stay:∀{j:Nat}{fd:Fd}{v:V},j≠k->FdAt K H₀ G H ow i m j fd v->FdAt K H₀ G (upd H l (.dK (kvD es us))) ow i m j fd v:=λ{j fd v} nj q=>by
  have ne:∀{a:Addr},ow a=some (i,j+1)->a≠l:=λh5 z=>by rw[z,ol]at h5;exact nj (by have:=vF (·.2) (xf h5);simp at this;omega)
  cases fd with
  |val d=>exact q
  |own ds=>obtain⟨l',ws,e,h1,h2,h3,h4,h5⟩:=q;exact⟨l',ws,e,by rw[aE (ne h5)];exact h1,h2,h3,h4,h5⟩
  |dic kds=>obtain⟨l',ws,e,h1,h2,h3,h4,h5⟩:=q;exact⟨l',ws,e,by rw[aE (ne h5)];exact h1,h2,h3,h4,h5⟩
 have stays:∀{fs:List (Nat×Fd)}{vs:List (Str×V)},fs.lookup k=Option.none->FdsAt K H₀ G H ow i m fs vs->FdsAt K H₀ G (upd H l (.dK (kvD es us))) ow i m fs vs:=by
  intro fs vs n q;induction q with
  |nil=>exact .nil
  | @cons b fd' v' fs' vs' h' nk' r' t' ih=>
   have nb:(k==b)=false:=by
    cases z:k==b with
    |false=>rfl
    |true=>simp only[xO,z]at n;cases n
   have nt:fs'.lookup k=Option.none:=by simpa only[xO,nb]using n
   exact .cons h' nk' (stay (λz=>by rw[z]at nb;simp at nb) r') (ih nt)
 induction q with
 |nil=>intro fd e;simp at e
 | @cons a fd v fs vs h nk r t ih=>
  intro fd0 e e2;unfold mi;by_cases z:a=k
  ·subst z;rw[if_pos rfl];have ev:v=.ref l:=by simpa[xO]using e2
   subst ev;exact .cons h nk ⟨l,us,rfl,aV,gl,hl,re,ol⟩ (stays nk t)
  ·rw[if_neg z];have q1:(k==a)=false:=by simp;exact λq=>z q.symm
   have e':fs.lookup k=some fd0:=by simpa only[xO,q1]using e
   have hk:=t.keys k _ e';have q2:(eB k==eB a)=false:=by
    cases y:eB k==eB a with
    |false=>rfl
    |true=>exact absurd (pL k hk a h (p7 y)) λq=>z q.symm
   have e2':vs.lookup (eB k)=some (.ref l):=by simpa only[xO,q2]using e2
   exact .cons h (pv z nk) (stay z r) (ih e' e2')
end
section
variable{K:PySem.W.Frag}{H₀:Hp}{p dx:Addr}{fs:List (Nat×Fd)}{vs:List (Str×V)}
def StR.fmutD(s:StR K G₀ H₀ G H σ ρ)(e:ρ[i]?=some (some (.obj true C p fs))){ds es:List (Int×D)}{us:List V}(ek:fs.lookup k=some (.dic ds))(re:Reps K G us (es.map (·.2)))(hp:H p=some (.ins C dx vs))(el:vs.lookup (eB k)=some (.ref l)):
  StR K G₀ H₀ G (upd H l (.dK (kvD es us))) σ (ρ.set i (some (.obj true C p (mi k (.dic es) fs)))):=by
 obtain⟨ow,o1,o2⟩:=s.ob;obtain⟨hne,dx',vs',h1,h2,h3,h4,h5,h6,h7,h8⟩:=(o2 i true C p fs e).2.insH hp;rw[hp]at h1;cases h1;obtain⟨v,e1,l',ws,ev,g1,g2,g3,g4,g5⟩:=h8.get ek;rw[el]at e1;cases e1;cases ev;have np:∀{a:Addr}{o:HO},H a=some o->(∀xs,o≠.dK xs)->a≠l:=λq n z=>by rw[z,g1]at q;cases q;exact n _ rfl
 refine s.objTo e o1 o2 (ow2:=ow) (λa o q n=>?_) (λa o q=>?_) (λa o q=>?_) (λa j t o _ q _=>q) ?_;·rw[aE (λz=>n _ (z▸g5))];exact q
 ·rw[aE (λz=>by rw[z,g3 rfl]at q;cases q)];exact s.up.hh a o q
 ·rw[aE (λz=>by rw[z,g2]at q;cases q)];exact s.e.sub a o q
 ·refine .inl ⟨hne,dx,vs,?_,?_,h3,h4,h5,h6,h7,h8.mutD re g5 g2 g3 ek el⟩;·rw[aE (np hp λ_ z=>by cases z)];exact hp
  ·rw[aE (np h2 λ_ z=>by cases z)];exact h2
def StR.fputD(s:StR K G₀ H₀ G H σ ρ)(e:ρ[i]?=some (some (.obj true C p fs)))(hk:k<fnames.length)(hl:H l=none)(hp:H p=some (.ins C dx vs)):
  StR K G₀ H₀ G (upd (upd H l (.dK [])) p (.ins C dx (pK (eB k) (.ref l) vs))) σ (ρ.set i (some (.obj true C p (mi k (.dic []) fs)))):=by
 obtain⟨ow,o1,o2⟩:=s.ob;obtain⟨hne,dx',vs',h1,h2,h3,h4,h5,h6,h7,h8⟩:=(o2 i true C p fs e).2.insH hp;rw[hp]at h1;cases h1;have nl:∀{a:Addr}{o:HO},H a=some o->a≠l:=λq z=>by rw[z,hl]at q;cases q
 have gl:G l=none:=s.e.sub.free hl;have h0l:H₀ l=none:=s.up.hh.free hl;refine s.objTo e o1 o2 (ow2:=λa=>if a=l then some (i,k+1)else ow a) (λa o q n=>?_) (λa o q=>?_) (λa o q=>?_) (λa j t o _ q q2=>(if_neg (nl q2)).trans q) ?_;·rw[aE (λz=>n _ (z▸h6)),aE (nl q)];exact q
 ·rw[aE (λz=>by rw[z,(h5 rfl).1]at q;cases q),aE (nl (s.up.hh a o q))];exact s.up.hh a o q
 ·rw[aE (λz=>by rw[z,h3]at q;cases q),aE (nl (s.e.sub a o q))];exact s.e.sub a o q
 ·refine .inl ⟨hne,dx,_,aV,?_,h3,h4,h5,(if_neg (nl hp)).trans h6,(if_neg (nl h2)).trans h7,?_⟩;·rw[aE (λz=>by rw[z,hp]at h2;cases h2),aE (nl h2)];exact h2
  ·refine FdsAt.put (fd:=.dic []) hk ⟨l,[],rfl,?_,gl,λ_=>h0l,.nil,if_pos rfl⟩ (h8.keepL λl' o q n=>⟨?_,if_neg (nl q)⟩);·rw[aE (λz=>nl hp z.symm),aV];rfl
   ·rw[aE (λz=>by rw[z,hp]at q;cases q;exact n _ _ _ rfl),aE (nl q)];exact q
end
noncomputable def Jg(fs:List (Nat×Fd))(k:Nat):R (List (Int×D)):=match fs.lookup k with
 |some (.dic kds)=>.ok kds
 |_=>.no
noncomputable def ET(C:Addr)(i k:Nat):Ev->O:=λρ=>(CN C ρ i).out ρ λo=>if o.2.length<900 then .nx (ρ.set i (some (.obj true C o.1 (mi k (.dic []) o.2))))else .no
noncomputable def yy(C:Addr)(i k:Nat):Ev->R D:=λρ=>Jk C ρ i>>=λfs=>Jg fs k>>=λkds=>.ok (.int (kds.length:Nat))
noncomputable def xV(C:Addr)(i k:Nat)(gk ga:Ev->R D):Ev->O:=λρ=>(CN C ρ i).out ρ λo=>(Jg o.2 k).out ρ λkds=>(fq (ga ρ)).out ρ λd=>(fq (gk ρ)).out ρ λn=>match n with
 |.int n=>if kds.length<900/\(kds.any λx=>x.1==n)=false then .nx (ρ.set i (some (.obj true C o.1 (mi k (.dic (kds++[(n,d)])) o.2))))else .no
 |_=>.no
section
variable{e ix:Expr}{ga:Ev->R D}{x f:Str}{ks:List Nat}{p1 p2 p3 pos tp:Pos}
def IT:PE X (.Dict [] [] pos) (λ_ H Q=>∀p,H p=none->Q (.ref p) (upd H p (.dK []))):=λpins s σ H Q I h=>by
 have new:ObjOk X.prog X.w (upd H s.heap.objs.size (.dK [])) (s.heap.push { cls:=.type "dict",data:=.dict #[] }) s.heap.objs.size (.dK []):=by refine⟨t7 _,pG.mpr (yR (xh ?_)),[],.nil,Heap.DictOf.new s.heap⟩;exact Nat.lt_trans (by decide) (I.mod.glob.keeps I.bk).lt
 exact wpAny_Dict_empty ⟨.ref s.heap.objs.size,_,I.laid (t':=s.toks) (λ_ _ q=>zL _ q) (zq _) new,rfl,h _ (I.hok.fresh (zq _))⟩
def JO(i k:Nat)(c:CF X.K C ks)(hk:k∈ks)(hi:X.N[i]?=some x:=by rfl)(hv:Vis X.env.scope x:=by first|exact Or.inl rfl|exact Or.inr (Or.inl rfl)|exact Or.inr (Or.inr rfl))(hf:f=eB k:=by rfl)(hd:(x==("__debug__":Str))=false:=by decide)(hcd:(x==("__classdict__":Str))=false:=by decide)(hs:swapsWith (.Dict [] [] p3) (some (.Attribute (.Name x p1) f p2)) pos.line X.env=pure false:=by rfl):
  PSF X (.Assign [.Attribute (.Name x p1) f p2] (.Dict [] [] p3) pos) (ET C i k):=λG₀ H₀ pins s σ H D I h=>by
 subst hf;refine BU (iK hi hv hd hcd) IT hs pins s σ H D I ?_;obtain⟨G,ρ,sr,h⟩:=h;obtain⟨p,fs,e1,h⟩:=lO h;intro l hl;obtain⟨h1,ow,ob0⟩:=sr.e.obs i true C p fs e1;obtain⟨dx,vs,g1,g2,g3,g4,g5,g6,g7,g8⟩:=ob0.ins c.ne;by_cases hz:fs.length<900;·rw[if_pos hz]at h;refine⟨.ref p,h1,p,C,dx,vs,rfl,?_,c.cl,(c.na k hk).2,by rw[g8.len];omega,h _ G _ (sr.fputD e1 (c.na k hk).1 hl g1)⟩;rw[aE (λz=>by rw[z,hl]at g1;cases g1)];exact g1
 ·rw[if_neg hz]at h;exact h.elim
def xx:kz X (.builtin "len") (λxs H Q=>∃p kvs,xs=[.ref p]/\H p=some (.dK kvs)/\Q (.int kvs.length) H):=by
 intro pins s σ H xs us Q I rs ⟨p,kvs,ex,h1,q⟩;subst ex;obtain⟨u,rfl,rx⟩:=Jn rs;cases rx;obtain⟨z,hd,vs,rel,dd⟩:=(show ObjOk X.prog X.w H s.heap p (.dK kvs) from I.hok p _ h1)
 have hl:=FQ rel;refine call_len_dict hd dd (by rw[<- hl];have:=z;rw[o8]at this;omega) ⟨.int kvs.length,H,I.tok _,⟨_,by rw[<- hl]⟩,q⟩
def Ap{K:PySem.W.Frag}{ws:List V}(r:Reps K G ws (kds.map (·.2))):(kvD kds ws).length=kds.length:=by have:=r.length;rw[wU]at this;unfold kvD;rw[List.length_zip,wU,this];simp
def IP(i k:Nat)(c:CF X.K C ks)(hk:k∈ks)(hg:Gl X "len")(hm:X.mg "len"=none)(hi:X.N[i]?=some x:=by rfl)(hv:Vis X.env.scope x:=by first|exact Or.inl rfl|exact Or.inr (Or.inl rfl)|exact Or.inr (Or.inr rfl))(hf:f=eB k:=by rfl)(hd:(x==("__debug__":Str))=false:=by decide)(hcd:(x==("__classdict__":Str))=false:=by decide)(hba:attributeBase (.Name x p1) f X.env (eval (.Name x p1) X.env)=eval (.Name x p1) X.env:=by rfl)(he:starEach [.Attribute (.Name x p1) f p2] X.env=(false,eval (.Attribute (.Name x p1) f p2) X.env)::starEach [] X.env:=by rfl):
  PF X (.Call (.Name "len" p3) [.Attribute (.Name x p1) f p2] [] pos) (yy C i k):=λpins s σ H Q I h=>by
 subst hf;refine kL xx hg hm PySem.boot_len (dQ (AO (iK hi hv hd hcd) hba) jE he) (by decide) (by decide) he rfl pins s σ H Q I ?_;obtain⟨G,ρ,st,h⟩:=h;obtain⟨m,p,fs,e1,h⟩:=Cg h;unfold Jg at h;split at h;·rename_i kds e2;obtain⟨h1,ow,ob0⟩:=st.obs i m C p fs e1;obtain⟨dx,vs,g1,g2,g3,g4,g5,g6,g7,g8⟩:=ob0.ins c.ne;obtain⟨v,e3,l,ws,ev,q1,q2,q3,q4,q5⟩:=g8.get e2;subst ev;refine⟨.ref p,h1,p,C,dx,vs,.ref l,rfl,g1,c.cl,(c.na k hk).2,e3,l,_,rfl,q1,?_⟩;have:=Ap q4;unfold kvD at this;rw[this];exact h _ G H (.refl st.sub) (.int _)
 ·exact h.elim
def Ht{K:PySem.W.Frag}{G:Hp}{ws:List V}{n:Int}(h:(kds.any λx=>x.1==n)=false):∀e∈kvD kds ws,e.1≠Sum.inl n:=λe he z=>by obtain⟨a,b⟩:=e;have z:a=Sum.inl n:=z;subst z;have:=(li he).1;obtain⟨x,hx,ex⟩:=qh.1 this;have:=List.any_eq_false.1 h x hx;cases ex;simp at this
def E0{ws:List V}{n:Int}(h:ws.length=kds.length):kvD kds ws++[(Sum.inl n,v)]=kvD (kds++[(n,d)]) (ws++[v]):=by unfold kvD;rw[fG,List.zip_append (by rw[wU,h])];rfl
def Gw(i k:Nat)(c:CF X.K C ks)(hk:k∈ks)(he:PF X e ga)(hx:PF X ix gk)(hi:X.N[i]?=some x:=by rfl)(hv:Vis X.env.scope x:=by first|exact Or.inl rfl|exact Or.inr (Or.inl rfl)|exact Or.inr (Or.inr rfl))(hf:f=eB k:=by rfl)(hd:(x==("__debug__":Str))=false:=by decide)(hcd:(x==("__classdict__":Str))=false:=by decide)(hba:attributeBase (.Name x p1) f X.env (eval (.Name x p1) X.env)=eval (.Name x p1) X.env:=by rfl)(hs:swapsWithSole [.Subscript (.Attribute (.Name x p1) f p2) ix tp] e pos.line X.env=pure false:=by rfl)(hw:swappedStores [.Subscript (.Attribute (.Name x p1) f p2) ix tp] e X.env=pure none:=by rfl)(h1':(assignEach [.Subscript (.Attribute (.Name x p1) f p2) ix tp] X.env).map (·.2)=[assign (.Subscript (.Attribute (.Name x p1) f p2) ix tp) X.env]:=by rfl)(ha:∀v,assign (.Subscript (.Attribute (.Name x p1) f p2) ix tp) X.env v=(do
 let ov <- holding [v] (eval (.Attribute (.Name x p1) f p2) X.env);let iv <- holding [v,ov] (eval ix X.env)
 standAt tp
 holding [v,ov,iv] (setItem ov iv v)
 release [v,ov,iv] []):=by intro _;rfl):
  PSF X (.Assign [.Subscript (.Attribute (.Name x p1) f p2) ix tp] e pos) (xV C i k gk ga):=λG₀ H₀ pins s σ H D I ⟨G,ρ,sr,h⟩=>by
 subst hf;obtain⟨p,fs,e1,h⟩:=lO h;unfold Jg at h;split at h
 case h_2=>exact h.elim
 rename_i kds e2;have h:ka X G₀ H₀ D ((fq (ga ρ)).out ρ λd=>(fq (gk ρ)).out ρ λn=>match n with
  |.int n=>if kds.length<900/\(kds.any λx=>x.1==n)=false then .nx (ρ.set i (some (.obj true C p (mi k (.dic (kds++[(n,d)])) fs))))else .no
  |_=>.no):=h;refine rQ he (FG (AO (iK hi hv hd hcd) hba) hx Hy ha) hs hw h1' pins s σ H D I ⟨G,ρ,sr.e,?_⟩;cases q1:ga ρ with
 |ok d=>
  rw[q1]at h;intro v G1 H1 u1 r1;have sr1:=sr.ups u1;obtain⟨h1,ow,ob0⟩:=sr1.e.obs i true C p fs e1;obtain⟨dx,vs,g1,g2,g3,g4,g5,g6,g7,g8⟩:=ob0.ins c.ne;obtain⟨w,e3,l,ws,ev,a1,a2,a3,a4,a5⟩:=g8.get e2;subst ev;refine⟨.ref p,h1,p,C,dx,vs,.ref l,rfl,g1,c.cl,(c.na k hk).2,e3,G1,ρ,sr1.e,?_⟩;cases q2:gk ρ with
  |ok n=>
   simp only[fq,R.out,q2]at h;intro y G2 H2 u2 r2;cases n with
   |int n=>
    have ey:=r2.int_inv;subst ey;have h:ka X G₀ H₀ D (if kds.length<900/\(kds.any λx=>x.1==n)=false then .nx (ρ.set i (some (.obj true C p (mi k (.dic (kds++[(n,d)])) fs))))else .no):=h;by_cases hz:kds.length<900/\(kds.any λx=>x.1==n)=false
    ·rw[if_pos hz]at h;have hl:(kvD kds ws).length=kds.length:=Ap a4;have wl:ws.length=kds.length:=by have:=a4.length;rw[wU]at this;exact this
     refine⟨l,kvD kds ws,n,rfl,rfl,u2.hh _ _ a1,Ht (K:=X.K) (G:=G) hz.2,by rw[hl];exact Nat.lt_trans hz.1 (by decide),?_⟩;rw[E0 (d:=d) wl];refine h _ G2 _ ((sr1.ups u2).fmutD e1 e2 ?_ (u2.hh _ _ g1) e3);rw[fG];exact(a4.mono u2.gg).append (.cons (r1.mono u2.gg) .nil)
    ·rw[if_neg hz]at h;exact h.elim
   |_=>exact h.elim
  |_=>simp only[fq,R.out,q2]at h;exact h.elim
 |_=>rw[q1]at h;exact h.elim
noncomputable def C4(C:Addr)(i k:Nat)(ga:Ev->R D):Ev->O:=λρ=>(CN C ρ i).out ρ λo=>(Jc o.2 k).out ρ λd=>(fq (ga ρ)).out ρ λy=>(ofO (IM (λa b=>a+b) d y)).out ρ λz=>if o.2.length<900 then .nx (ρ.set i (some (.obj true C o.1 (mi k (.val z) o.2))))else .no
def Kt(i k:Nat)(c:CF X.K C ks)(hk:k∈ks)(he:PF X e ga)(hi:X.N[i]?=some x:=by rfl)(hv:Vis X.env.scope x:=by first|exact Or.inl rfl|exact Or.inr (Or.inl rfl)|exact Or.inr (Or.inr rfl))(hf:f=eB k:=by rfl)(hd:(x==("__debug__":Str))=false:=by decide)(hcd:(x==("__classdict__":Str))=false:=by decide):
  PSF X (.AugAssign (.Attribute (.Name x p1) f p2) .Add e pos) (C4 C i k ga):=λG₀ H₀ pins s σ H D I ⟨G,ρ,sr,h⟩=>by
 subst hf;obtain⟨p,fs,e1,h⟩:=lO h;unfold Jc at h;split at h
 case h_2=>exact h.elim
 rename_i d e2;have h:ka X G₀ H₀ D ((fq (ga ρ)).out ρ λy=>(ofO (IM (λa b=>a+b) d y)).out ρ λz=>if fs.length<900 then .nx (ρ.set i (some (.obj true C p (mi k (.val z) fs))))else .no):=h;refine Cw (iK hi hv hd hcd) he L4 pins s σ H D I ?_;obtain⟨h1,ow,ob0⟩:=sr.e.obs i true C p fs e1;obtain⟨dx,vs,g1,g2,g3,g4,g5,g6,g7,g8⟩:=ob0.ins c.ne;obtain⟨w,e3,rw'⟩:=g8.get e2;have rw':Rep X.K G w d:=rw';refine⟨.ref p,h1,p,C,dx,vs,w,rfl,g1,c.cl,(c.na k hk).2,e3,G,ρ,sr.e,?_⟩;cases q1:ga ρ with
 |ok y=>
  rw[q1]at h;intro v G1 H1 u1 r1;have h:ka X G₀ H₀ D ((ofO (IM (λa b=>a+b) d y)).out ρ λz=>if fs.length<900 then .nx (ρ.set i (some (.obj true C p (mi k (.val z) fs))))else .no):=h;cases d with
  |int a=>
   cases y with
   |int b=>
    have ew:=rw'.int_inv;have ev:=r1.int_inv;subst ew ev;have h:ka X G₀ H₀ D (if fs.length<900 then .nx (ρ.set i (some (.obj true C p (mi k (.val (.int (a+b))) fs))))else .no):=h;by_cases hz:fs.length<900;·rw[if_pos hz]at h;have hp:=u1.hh _ _ g1;exact⟨a,b,rfl,rfl,dx,vs,hp,by rw[g8.len];omega,h _ G1 _ ((sr.ups u1).fput e1 (c.na k hk).1 (.int (a+b)) hp)⟩
    ·rw[if_neg hz]at h;exact h.elim
   |_=>exact h.elim
  |_=>exact h.elim
 |_=>rw[q1]at h;exact h.elim
end
noncomputable def uG(F:MF)(n:Nat)(gl:D->R (List D)):List D->List (Nat×Fd)->Option (List D)
 | [],_=>some []
 |d::ds,fs=>match gl d with
  |.ok as=>if as.length=n then (match F fs as with
   |.ok r fs'=>if fl 10 r=true then (uG F n gl ds fs').map (r::·)else none
   |_=>none)else none
  |_=>none
section
variable{e:Expr}{x b mn:Str}{px p1 ap cp pos:Pos}{ib:Nat}{ks:List Nat}{F:MF}
noncomputable def tCM(X:Cx)(ib n:Nat)(C:Addr)(F:MF)(gi gl:Ev->R (List D)):TE:=λσ H Q=>∃G ρ G₀ H₀ p fs items rs,StR X.K G₀ H₀ G H σ ρ/\ρ[ib]?=some (some (.obj true C p fs))/\gi ρ=.ok items/\
 uG F n (λd=>gl [some (.val d),none]) items fs=some rs/\rs.length<=1000/\∀Dd vs G' H',Up G₀ H₀ G' H'->H' Dd=some (.lst vs)->G' Dd=none->Reps X.K G' vs rs->Q (.ref Dd) H'
def EH{pl:Addr->Shared->Hp->List Addr->Sem Bool}(ok:CompOk X scope x N' [ib])(hcalm:X.calm=true)(c:CF X.K C ks)(m:MCallee X.prog X.w X.K X.mg X.base C mn k n F)(hr:Room k X.A)(hi:PIF X (.Name x px) iter gi)(ha:∀C s₂ H₂ fp,PFA (aO X N' scope C s₂ H₂ fp) (e::es) gl)(hb:N'=[x,b])(hfb:(relabel scope X.env).names.lookup b=some .cell\/(relabel scope X.env).names.lookup b=some .free)(hd:(b==("__debug__":Str))=false)(hcd:(b==("__classdict__":Str))=false)(hmn:∀k,k<fnames.length->(mn==eB k)=false)(hst:∀C s₂ H₂ fp,starEach (e::es) (aO X N' scope C s₂ H₂ fp).env=(false,eval e (aO X N' scope C s₂ H₂ fp).env)::starEach es (aO X N' scope C s₂ H₂ fp).env)(hpl:∀C s₂ H₂ fp,(backTo cp (starEach es (aO X N' scope C s₂ H₂ fp).env)).any (·.1)=false)(ht:∀C s₂ H₂ fp,eval (.Call (.Attribute (.Name b p1) mn ap) (e::es) [] cp) (aO X N' scope C s₂ H₂ fp).env=(do
 let ov <- eval (.Name b p1) (aO X N' scope C s₂ H₂ fp).env
 standAt ap.atName
 let (f,first) <- holding [ov] (getMethod ov mn (pl C s₂ H₂ fp))
 callWith cp f first (backTo cp (starEach (e::es) (aO X N' scope C s₂ H₂ fp).env)) (backToKw cp (keywordEach [] (aO X N' scope C s₂ H₂ fp).env))))(hs:∀x,foldedSetIterable iter X.env x=pure x):PE X (.ListComp (.Call (.Attribute (.Name b p1) mn ap) (e::es) [] cp) [⟨.Name x px,iter,[],0⟩] scope pos) (tCM X ib n C F gi gl):=by
 intro pins s σ H Q I h;obtain⟨G,ρ,G₀,H₀,p,fs,items,rs,sr,e1,eg,ef,hlen,hQ⟩:=h;obtain⟨fm,fd,ps,M,hm,hbn,hln⟩:=m.ex;rw[j0];refine j1 (use:=none) rfl hs (eN λy hy hy2=>I.ok.has y.1 (.inl (ok.fr y hy hy2))) ok.kind ok.names ?_;have t:tG X (λG J items=>ItOk X.K G J items) gi σ H (λJ H1=>∃G1,Up G H G1 H1/\ItOk X.K G1 J items):=⟨G,ρ,sr.e,by rw[eg];exact λJ G1 H1 u r=>⟨G1,u,r⟩⟩
 refine thn (hi pins s σ H _ I t) λv s1 h1=>thn h1 λitv s2 h2=>?_;clear h1;obtain⟨it,fp,tn,J,H2,ei,I2,T,st2,f2,G2,u2,iok⟩:=h2;subst ei;have sr2:=sr.ups u2;clear sr;obtain⟨ow,o1,o2⟩:=sr2.ob;have ob0:=(o2 ib true C p fs e1).2.cut;have sp:σ[ib]?=some (some (.ref p)):=(o2 ib true C p fs e1).1;generalize hcw:yv ib true H₀ G2 H2 ow=cw0 at ob0;have cwH:∀a t,cw0 a=some t->(∃o,H2 a=some o)/\G2 a=none/\H₀ a=none:=λa t q=>by rw[<- hcw]at q;obtain⟨_,w1,w2,w3⟩:=xJ q;exact⟨w1,w2,w3 rfl⟩
 have sub2:Same G2 H2:=sr2.e.sub;have upE:∀{G' H':Hp},Up G2 (hid H2 cw0) G' H'->Up G₀ H₀ G' H':=λ{G' H'} u=>by
  have k0:∀a o,H₀ a=some o->hid H2 cw0 a=some o:=λa o q=>by
   have n:cw0 a=none:=by
    cases z:cw0 a with
    |none=>rfl
    |some t=>rw[(cwH a t z).2.2]at q;cases q
   rw[pf n];exact sr2.up.hh a o q
  refine⟨u.sub,sr2.up.gg.trans u.gg,λa o q=>u.hh a o (k0 a o q),λa o q=>?_⟩;rcases u.fr a o q with z|z;·exact sr2.up.fr a o z
  ·right;cases y:H₀ a with
   |none=>rfl
   |some o'=>rw[k0 a o' y]at z;cases z
 have hfl:∀b∈fp,b<s2.heap.objs.size:=λb hb=>let⟨o,e,_⟩:=T.obj 0 s2.heap st2 b hb;zj e;refine u6 (d6 ok.cell (by intro y hy;simp at hy) (λh₁ hns₁ hsb₁=>?_) ok.kind);dsimp only at hns₁ hsb₁⊢;generalize hH2:s2.heap.push { cls:=.type "list",dict:=none,data:=.seq ([]:List Value).toArray }=Hq at hns₁ hsb₁⊢;have hC:Hq.objs.size=s2.heap.objs.size+1:=by rw[<- hH2,wG]
 have hDC:s2.heap.objs.size≠Hq.objs.size:=by rw[hC];exact xh (rZ _)
 have hCle:s2.heap.objs.size<=Hq.objs.size:=by rw[hC];exact ma _
 have old:∀b o,s2.heap.get? b=some o->h₁.get? b=some o:=λb o e=>
  hsb₁.extBut b o (by rw[hC];exact xh (md (zj e))) (zL _ (hH2▸zL _ e));have hacc:h₁.get? s2.heap.objs.size=some { cls:=.type "list",data:=.seq ([]:List Value).toArray }:=hsb₁.extBut _ _ hDC (zL _ (hH2▸xj _ rfl));have hD0:H2 s2.heap.objs.size=none:=I2.fresh;have hC0:H2 Hq.objs.size=none:=I2.hok.fresh hCle;have st0':tn 0 h₁:=T.keep 0 _ _ st2 λb hb o e=>old b o e;have I0:∀tk,Inv (aO X N' scope Hq.objs.size s2 H2 fp) [] (fW 1 [ib] σ) (upd H2 s2.heap.objs.size (.lst [])) { s2 with heap:=h₁,toks:=tk }:=λtk=>by
  refine tN ok.t hcalm I2 f2 hfl hCle hns₁ old (Un.laid old (zq _) hD0) (I2.hok.laid old (zq _) ⟨t7 _,[],0,.nil,hacc⟩) (by rw[aE hDC.symm];exact hC0) λc hc e=>?_;rw[aE (xh hc)];exact e
 have nD0:cw0 s2.heap.objs.size=none:=by
  cases z:cw0 s2.heap.objs.size with
  |none=>rfl
  |some t=>obtain⟨⟨o,q⟩,_⟩:=cwH _ t z;rw[hD0]at q;cases q
 have in0:fW 1 [ib] σ=[none,some (.ref p)]:=by unfold fW;simp[sp]
 have loop:∀tk,codeAny (model X.prog X.w) X.A (.compLoop (.ListComp (.Call (.Attribute (.Name b p1) mn ap) (e::es) [] cp) [⟨.Name x px,iter,[],0⟩] scope pos) 0 (.ref it) (.ref s2.heap.objs.size) (compEnvC scope (nD X.env scope.names []) Hq.objs.size X.env))
   (compPost (model X.prog X.w) X.A X.xe none (EP X pins σ Q) (.ref s2.heap.objs.size) Hq.objs.size) { s2 with heap:=h₁,toks:=tk }:=λtk=>by
  have fpk:∀{pins':List (Addr×Obj)}{σ':St}{H':Hp}{s':Shared},Inv (aO X N' scope Hq.objs.size s2 H2 fp) pins' σ' H' s'->pins'=[]->(∀b∈fp,H' b=none)->∀b∈fp,qq (aO X N' scope Hq.objs.size s2 H2 fp) pins' H' b:=λI' e hn b hb=>⟨hn b hb,(I'.ok.exf b hb).1,I'.ok.exfs b hb,.inl hb,(I'.ok.exf b hb).2,by subst e;intro p hp;exact absurd (show p∈([]:List (Addr×Obj)) from hp) (by simp)⟩
  refine qV (λnn s'=>∃(i:Nat)(v0:Option V)(G' H':Hp)(vs:List V)(ys zs:List D)(cw:kK)(gs:List (Nat×Fd)),nn=items.length - i/\i<=items.length/\Inv (aO X N' scope Hq.objs.size s2 H2 fp) [] [v0,some (.ref p)] H' s'/\tn i s'.heap/\(∀b∈fp,H' b=none)/\
   H' s2.heap.objs.size=some (.lst vs)/\G' s2.heap.objs.size=none/\cw s2.heap.objs.size=none/\ObjAt X.K (λ_=>none) G' H' cw 0 true C p gs/\(∀a t,cw a=some t->(∃o,H' a=some o)/\G' a=none/\hid H2 cw0 a=none)/\Up G2 (hid H2 cw0) G' H'/\Reps X.K G' vs ys/\
   uG F n (λd=>gl [some (.val d),none]) (items.drop i) gs=some zs/\ys++zs=rs) ?_ items.length ?_
  ·rintro nn s' ⟨i,v0,G',H',vs,ys,zs,cw,gs,rfl,hil,I',tn',fr',hD',gD',nD',obj',cw',up',rp',ef',et'⟩;have hIt:=iok i G' H' up'.gg up'.sub;by_cases hlt:i<items.length
   ·have hdr:items.drop i=items[i]::items.drop (i+1):=mf hlt;rw[hdr]at ef';unfold uG at ef';split at ef'
    case h_2=>cases ef'
    rename_i as ea;split at ef'
    case isFalse=>cases ef'
    rename_i hn;split at ef'
    case h_2=>cases ef'
    rename_i r gs' eF;split at ef'
    case isFalse=>cases ef'
    rename_i hfl';obtain⟨zs',ez,rfl⟩:=Option.map_eq_some_iff.1 ef';obtain⟨go,yl⟩:=hIt.1 items[i] (by simp[hlt]);refine yc (T.item (aO X N' scope Hq.objs.size s2 H2 fp) rfl rfl rfl hcalm i [] s' _ H' (λ_ _=>False) I' (fpk I' rfl fr') tn' go) (λr s1 ⟨u,hr,h1⟩=>?_) λ_ _ z=>z;subst hr;refine yc h1 (λ_ s3 ⟨x2,H3,I3,r3,y3,tn3,fr3⟩=>?_) λ_ _ z=>z;obtain⟨G3,up3,rep3⟩:=yl x2 H3 y3;have I3p:=I3.pinned (fpk I3 rfl fr3) (T.obj _ _ tn3);have nd0:(aO X N' scope Hq.objs.size s2 H2 fp).N.Nodup:=ok.nd;refine yc (mj (X:=aO X N' scope Hq.objs.size s2 H2 fp) (pos:=px) (i:=0) ok.nd ok.hd (.inl (sT ok.loc)) (.inr (sT ok.loc)) _ s3 _ H3 x2 u (λσ4 H4=>σ4=[some x2,some (.ref p)]/\H4=H3) I3p r3 ⟨rfl,rfl⟩) (λ_ s4 ⟨σ4,H4,I4,e4,e4'⟩=>?_) λ_ _ z=>z;subst e4 e4';rw[List.forIn_nil];refine zd ?_;rw[if_pos rfl];have obj3:=obj'.keep (.up up3);have gn:∀{Ga Ha Gb Hb:Hp},Up Ga Ha Gb Hb->∀a,(∃o,Ha a=some o)->Ga a=none->Gb a=none:=λ{Ga Ha Gb Hb} u a ⟨o,z⟩ n=>by
     cases q:Gb a with
     |none=>rfl
     |some o'=>
      rcases u.fr a o' q with y|y;·rw[n]at y;cases y
      ·rw[z]at y;cases y
    have run:wpAny (model X.prog X.w) X.A (eval (.Call (.Attribute (.Name b p1) mn ap) (e::es) [] cp) (aO X N' scope Hq.objs.size s2 H2 fp).env) (EP (aO X N' scope Hq.objs.size s2 H2 fp) ([]++gY fp s3.heap) [some x2,some (.ref p)] (λv H7=>∃G5 H5 G7 ow7,Up G3 H4 G5 H5/\Up G5 (hid H5 cw) G7 H7/\ObjAt X.K (hid H5 cw) G7 H7 ow7 0 true C p gs'/\Rep X.K G7 v r)) (λ_ _=>False) s4:=by
     have v:PE (aO X N' scope Hq.objs.size s2 H2 fp) (.Name b p1) (Oy 1):=iK (by show N'[1]?=some b;rw[hb];rfl) (.inr hfb) hd hcd;refine PySem.W.methodCall_KW (pl:=pl Hq.objs.size s2 H2 fp) (thn (v _ s4 _ H4 (λu H'=>u=.ref p/\H'=H4) I4 ⟨_,rfl,rfl,rfl⟩) λu s5 ⟨v',H5,I5,rv,ev,eh⟩=>?_) (ht Hq.objs.size s2 H2 fp);subst ev eh;obtain rfl:u=Value.ref p:=rv;obtain⟨dx,ws,g1,g2,g3,g4,g5,g6,g7,g8⟩:=obj3.ins c.ne;refine zf (X:=aO X N' scope Hq.objs.size s2 H2 fp) I5 g1 c.cl hm (g8.none hmn) ?_;have t:tAF (aO X N' scope Hq.objs.size s2 H2 fp) gl [some x2,some (.ref p)] H5 (λvs6 H6=>∃G6,Up G3 H5 G6 H6/\Reps X.K G6 vs6 as):=by
      refine⟨G3,[some (.val items[i]),none],⟨up3.sub,rfl,λj d z=>?_,λj m C p fs z=>?_⟩,by rw[ea];exact λvs6 G6 H6 u r=>⟨G6,u,r⟩⟩
      ·match j,z with
       | 0,z=>cases z;exact⟨x2,rfl,rep3⟩
       | 1,z=>cases z
      ·match j,z with
       | 0,z=>cases z
       | 1,z=>cases z
     refine j3 (first:=[.ref p]) (h₀:=X.base) I5.ok.mod.kin hm.kp (thn (ha Hq.objs.size s2 H2 fp cp _ s5 _ H5 _ I5 t) λus s6 q=>⟨?_,?_⟩) (hst Hq.objs.size s2 H2 fp) (hpl Hq.objs.size s2 H2 fp);·obtain⟨vs6,H6,I6,r6,_⟩:=q;exact I6.kIn
     obtain⟨vs6,H6,I6,r6,G6,up6,rp6⟩:=q;refine Dt (X:=aO X N' scope Hq.objs.size s2 H2 fp) M hr hbn hln I6 r6 rp6 hn up6.sub (λa t q=>?_) (obj3.keep (.up up6)) ?_;·obtain⟨⟨o,z1⟩,z2,_⟩:=cw' a t q;exact gn up6 a ⟨o,up3.hh _ _ z1⟩ (gn up3 a ⟨o,z1⟩ z2)
     ·rw[eF];exact λv G7 H7 ow7 u7 ob7 rep7=>⟨G6,H6,G7,ow7,up6,u7,ob7,rep7⟩
    refine yc run (λu7 s7 ⟨v7,H7,I7,r7,G5,H5,G7,ow7,up5,u7',ob7,rep7⟩=>?_) λ_ _ z=>z;have hD5:H5 s2.heap.objs.size=some (.lst vs):=up5.hh _ _ (up3.hh _ _ hD');have hidD:hid H5 cw s2.heap.objs.size=some (.lst vs):=by rw[pf nD'];exact hD5
    have hD7:H7 s2.heap.objs.size=some (.lst vs):=u7'.hh _ _ hidD;have gD5:G5 s2.heap.objs.size=none:=gn up5 _ ⟨_,up3.hh _ _ hD'⟩ (gn up3 _ ⟨_,hD'⟩ gD');have gD7:G7 s2.heap.objs.size=none:=gn u7' _ ⟨_,hidD⟩ gD5;have hvl:vs.length<sizeLine:=by
     have h1:=rp'.length;have h2:(ys++r::zs').length<=1000:=by rw[et'];exact hlen
     rw[uC,w8]at h2;exact ww (show vs.length<1000 by omega) (by decide)
    refine yc (lM (X:=aO X N' scope Hq.objs.size s2 H2 fp) _ s7 _ H7 (.ref s2.heap.objs.size) [v7] (.ref s2.heap.objs.size) [u7] (λ_ H8=>H8=upd H7 s2.heap.objs.size (.lst (vs++[v7]))) I7 rfl (.cons r7 .nil)
      ⟨_,vs,v7,rfl,rfl,hD7,hvl,rfl⟩) (λ_ s8 ⟨_,H8,I8,_,e8⟩=>?_) λ_ _ z=>z;subst e8;have keep:∀a o,hid H2 cw0 a=some o->hid H5 cw a=some o:=λa o q=>by
     have z:=up5.hh _ _ (up3.hh _ _ (up'.hh a o q));have n:cw a=none:=by
      cases y:cw a with
      |none=>rfl
      |some t=>rw[(cw' a t y).2.2]at q;cases q
     rw[pf n];exact z
    have pin:∀b∈fp,∀o,s3.heap.get? b=some o->s8.heap.get? b=some o/\(upd H7 s2.heap.objs.size (.lst (vs++[v7]))) b=none:=λb hb o e=>by have:=I8.pin (b,o) (t5 _ (t5 _ (fu hb e)));exact⟨this.1,this.2.1⟩
    have nD7:yv 0 true (hid H5 cw) G7 H7 ow7 s2.heap.objs.size=none:=by
     cases y:yv 0 true (hid H5 cw) G7 H7 ow7 s2.heap.objs.size with
     |none=>rfl
     |some t=>have:=(xJ y).2.2.2 rfl;rw[hidD]at this;cases this
    have neD:∀{a:Addr}{t:Nat×Nat},yv 0 true (hid H5 cw) G7 H7 ow7 a=some t->a≠s2.heap.objs.size:=λq z=>by rw[z,nD7]at q;cases q
    refine⟨items.length - (i+1),by omega,i+1,some x2,G7,upd H7 s2.heap.objs.size (.lst (vs++[v7])),vs++[v7],ys++[r],zs',yv 0 true (hid H5 cw) G7 H7 ow7,gs',rfl,hlt,I8.unpinned,T.keep _ _ _ tn3 λb hb o e=>(pin b hb o e).1,λb hb=>?_,aV,gD7,nD7,?_,λa t q=>?_,?_,?_,ez,by rw[n8];exact et'⟩;·obtain⟨o,e,_⟩:=T.obj _ _ tn3 b hb;exact(pin b hb o e).2
    ·refine ob7.cut.keep ⟨λa t o q1 q=>?_,.refl _,λa t o _ _ n=>n,λa t o q1 _=>q1,λ_ _ _ _ n=>n⟩;rw[aE (neD q1)];exact q
    ·obtain⟨_,⟨o,w1⟩,w2,w3⟩:=xJ q;refine⟨⟨o,by rw[aE (neD q)];exact w1⟩,w2,?_⟩;cases y:hid H2 cw0 a with
     |none=>rfl
     |some o'=>have:=w3 rfl;rw[keep a o' y]at this;cases this
    ·refine⟨λa o q=>?_,((up'.gg.trans up3.gg).trans up5.gg).trans u7'.gg,λa o q=>?_,λa o q=>?_⟩;·rw[aE (aJ q gD7)];exact u7'.sub a o q
     ·have z:=keep a o q;have ne:a≠s2.heap.objs.size:=λy=>by have:=(sW q).1;rw[y,hD0]at this;cases this
      rw[aE ne];exact u7'.hh a o z
     ·have back:∀{Ha:Hp},(∀o,hid H2 cw0 a=some o->Ha a=some o)->Ha a=none->hid H2 cw0 a=none:=λhk z=>by
       cases y:hid H2 cw0 a with
       |none=>rfl
       |some o'=>rw[hk o' y]at z;cases z
      rcases u7'.fr a o q with z|z
      ·rcases up5.fr a o z with z|z
       ·rcases up3.fr a o z with z|z;·exact up'.fr a o z
        ·exact .inr (back (λo' y=>up'.hh a o' y) z)
       ·exact .inr (back (λo' y=>up3.hh _ _ (up'.hh a o' y)) z)
      ·exact .inr (back (λo' y=>keep a o' y) z)
    ·exact((((rp'.mono up3.gg).mono up5.gg).mono u7'.gg)).append (.cons rep7 .nil)
   ·have hie:i=items.length:=by omega
    subst hie;rw[kY]at ef';cases ef';rw[uZ]at et';subst et';refine yc (T.done (aO X N' scope Hq.objs.size s2 H2 fp) rfl rfl rfl hcalm items.length [] s' _ H' (λ_ _=>False) I' (fpk I' rfl fr') tn' (hIt.2 (zq _))) (λr s1 ⟨hr,I1⟩=>?_) λ_ _ z=>z;subst hr;obtain⟨m1,hm1,_⟩:=I1.loc;refine⟨m1,hm1,λh' hs'=>?_⟩;have I5:=I2.call' (H':=H') (s':={ s1 with heap:=h' }) (ch:=fp) I1.os (I1.base.sameBut (λb o hbc e=>hs'.extBut b o hbc e) hCle) (I1.hok.sameBut (λb o hbc e=>hs'.extBut b o hbc e) I1.free) I1.bare λb hb'=>by obtain⟨f0,f1,f2',f3,f4,f5⟩:=f2 b hb';exact⟨f3,f1,f4,f5⟩
    exact⟨.ref s2.heap.objs.size,_,I5,rfl,hQ _ vs G' H' (upE up') hD' gD' rp'⟩
  ·refine⟨0,none,G2,upd H2 s2.heap.objs.size (.lst []),[],[],rs,cw0,fs,by simp,t7 _,in0▸I0 tk,st0',λb hb=>by rw[aE (xh (hfl b hb))];exact(f2 b hb).1,aV,sub2.free hD0,nD0,?_,λa t q=>⟨let⟨o,z⟩:=(cwH a t q).1;⟨o,by rw[aE (aJ z hD0)];exact z⟩,(cwH a t q).2.1,jd q⟩,?_,.nil,ef,rfl⟩;·refine ob0.keep ⟨λa t o q1 q=>?_,.refl _,λa t o _ _ n=>n,λa t o q1 _=>q1,λ_ _ _ _ n=>n⟩;rw[aE (aJ q hD0)];exact q
   ·refine⟨λa o q=>?_,.refl _,λa o q=>?_,λa o q=>.inl q⟩;·rw[aE (aJ q (sub2.free hD0))];exact sub2 a o q
    ·have:=(sW q).1;rw[aE (aJ this hD0)];exact this
 exact d7 (loop _) (T.self X.A 0 _ _ _ st0' (loop _))
end
noncomputable def yP(C:Addr)(ib n:Nat)(F:MF)(gi gl:Ev->R (List D))(ge:Ev->R D):Ev->O:=λρ=>(CN C ρ ib).out ρ λo=>(fq (gi ρ)).out ρ λitems=>match uG F n (λd=>gl [some (.val d),none]) items o.2 with
 |some rs=>if rs.length<=1000 then (fq (ge (ρ.map λ_=>none))).out ρ λy=>(ofO (eqF (.lst false rs) y)).out ρ .rt else .no
 |none=>.no
section
variable{e e2:Expr}{x b mn:Str}{px p1 ap cp pos cp2 rp:Pos}{ks:List Nat}{F:MF}
def HD{pl:Addr->Shared->Hp->List Addr->Sem Bool}(ib:Nat)(hu:X.A.units+64<cLine)(ok:CompOk X scope x N' [ib])(hcalm:X.calm=true)(c:CF X.K C ks)(m:MCallee X.prog X.w X.K X.mg X.base C mn k n F)(hr:Room k X.A)(hi:PIF X (.Name x px) iter gi)(ha:∀C s₂ H₂ fp,PFA (aO X N' scope C s₂ H₂ fp) (e::es) gl)(h2:PF X e2 ge)(hb:N'=[x,b]:=by rfl)(hfb:(relabel scope X.env).names.lookup b=some .cell\/(relabel scope X.env).names.lookup b=some .free:=by first|exact .inl rfl|exact .inr rfl)(hd:(b==("__debug__":Str))=false:=by decide)(hcd:(b==("__classdict__":Str))=false:=by decide)(hmn:∀k,k<fnames.length->(mn==eB k)=false:=by decide)(hst:∀C s₂ H₂ fp,starEach (e::es) (aO X N' scope C s₂ H₂ fp).env=(false,eval e (aO X N' scope C s₂ H₂ fp).env)::starEach es (aO X N' scope C s₂ H₂ fp).env:=by intros;rfl)(hpl:∀C s₂ H₂ fp,(backTo cp (starEach es (aO X N' scope C s₂ H₂ fp).env)).any (·.1)=false:=by intros;rfl)(ht:∀C s₂ H₂ fp,eval (.Call (.Attribute (.Name b p1) mn ap) (e::es) [] cp) (aO X N' scope C s₂ H₂ fp).env=(do
 let ov <- eval (.Name b p1) (aO X N' scope C s₂ H₂ fp).env
 standAt ap.atName
 let (f,first) <- holding [ov] (getMethod ov mn (pl C s₂ H₂ fp))
 callWith cp f first (backTo cp (starEach (e::es) (aO X N' scope C s₂ H₂ fp).env)) (backToKw cp (keywordEach [] (aO X N' scope C s₂ H₂ fp).env))):=by intros;rfl)(hs:∀x,foldedSetIterable iter X.env x=pure x:=by intro _;rfl):
  PSF X (.Return (some (.Compare (.ListComp (.Call (.Attribute (.Name b p1) mn ap) (e::es) [] cp) [⟨.Name x px,iter,[],0⟩] scope pos) [.Eq] [e2] cp2)) rp) (yP C ib n F gi gl ge):=λG₀ H₀ pins s σ H D I ⟨G,ρ,sr,h⟩=>by
 obtain⟨p,fs,e1,h⟩:=lO h;refine As (A8 (AD hu) (EH ok hcalm c m hr hi ha hb hfb hd hcd hmn hst hpl ht hs) h2 (iQ _)) pins s σ H D I ?_;cases eg:gi ρ with
 |ex C=>rw[eg]at h;exact h.elim
 |no=>rw[eg]at h;exact h.elim
 |ok items=>
 rw[eg]at h;cases ef:uG F n (λd=>gl [some (.val d),none]) items fs with
 |none=>simp only[fq,R.out,ef]at h;exact h.elim
 |some rs=>
 simp only[fq,R.out,ef]at h;by_cases hl:rs.length<=1000
 case neg=>rw[if_neg hl]at h;exact h.elim
 rw[if_pos hl]at h;refine⟨G,ρ,G₀,H₀,p,fs,items,rs,sr,e1,eg,ef,hl,λDd vs G' H' up hD gD rp=>?_⟩;have sb:Same (upd G' Dd (.lst vs)) H':=λa o q=>by
  by_cases z:a=Dd;·subst z;rw[aV]at q;rw[hD];exact q
  ·rw[aE z]at q;exact up.sub a o q
 have no:∀(i:Nat) y,(ρ.map λ_=>(none:Option Sl))[i]?=some (some y)->False:=λi y q=>by
  rw[wZ]at q;cases z:ρ[i]? with
  |none=>rw[z]at q;cases q
  |some w=>rw[z]at q;cases q
 refine⟨upd G' Dd (.lst vs),ρ.map λ_=>none,⟨sb,by rw[wU];exact sr.e.len,λi d q=>(no i _ q).elim,λi m C p fs q=>(no i _ q).elim⟩,?_⟩;cases ey:ge (ρ.map λ_=>none)with
 |ex C=>rw[ey]at h;exact h.elim
 |no=>rw[ey]at h;exact h.elim
 |ok y=>
 rw[ey]at h;dsimp only at h;cases eq:eqF (.lst false rs) y with
 |none=>rw[eq]at h;exact h.elim
 |some d=>
 rw[eq]at h;unfold eqF at eq;cases ek:eqD 40 (.lst false rs) y with
 |none=>rw[ek]at eq;cases eq
 |some kk=>
 rw[ek]at eq;cases eq;intro w G5 H5 u r;exact⟨G5,_,y,kk,u.sub,.lst (u.gg _ _ aV) ((rp.mono (.into gD)).mono u.gg),r,ek,h _ G' H5 ⟨up.sub.trans u.hh,up.gg,up.hh.trans u.hh,up.fr⟩ (.bl kk)⟩
end
noncomputable def tVs:List V->TA
 | []=>MK
 |v::vs=>zY (tC v) (tVs vs)
theorem Fx{σ:St}{H:Hp}:∀{vs:List V}{Q:List V->Hp->Prop},Q vs H->tVs vs σ H Q
 | [],_,h=>h
 |v::vs,Q,h=>Fx (vs:=vs) (Q:=λxs H2=>Q (v::xs) H2) h
structure PickAt(X:Cx)(k n:Nat)(gl:Ev->R (List D))(es:List Expr)(gs:List (Ev->R D)):Prop where
 ex:∃vs,PA X es (tVs vs)/\vs.length=es.length/\∀(j:Nat) g,gs[j]?=some g->∃a fd ps f,vs[j]?=some (.ref a)/\FnF X.prog X.w X.K X.mg X.base k a fd ps f/\PySem.W.keepIn X.K (.ref a)=true/\Binds X.K fd ps []/\ps.length=n/\g=aG n f gl
section
variable{ix e:Expr}{es':List Expr}{gi:Ev->R D}{pos pl sp:Pos}{x:Str}{f:List D->R D}
def BB:PickAt X k n gl [] []:=⟨[],jE,rfl,λj g h=>by simp at h⟩
def fY(c:Callee X.prog X.w X.K X.mg X.base x k n f)(h:PickAt X k n gl es gs)(hg:Gl X x:=by rfl)(hd:(x==("__debug__":Str))=false:=by decide)(hs:starEach (.Name x p::es) X.env=(false,eval (.Name x p) X.env)::starEach es X.env:=by rfl):PickAt X k n gl (.Name x p::es) (aG n f gl::gs):=by
 obtain⟨vs,pa,hl,hv⟩:=h.ex;obtain⟨a,fd,ps,F,m,kp,b,l⟩:=c.ex;refine⟨.ref a::vs,dQ (jV hg m rfl hd) pa hs,by simp[hl],λj g hj=>?_⟩
 match j,hj with
 | 0,hj=>cases hj;exact⟨a,fd,ps,f,rfl,F,kp,b,l,rfl⟩
 |j+1,hj=>exact hv j g hj
def Aw(P:PickAt X k n gl es' gs)(hr:Room k X.A)(hi:PF X ix gi)(ha:PFA X (e::es) gl)(hn:es'.length<=100:=by decide)(he:starEach (e::es) X.env=(false,eval e X.env)::starEach es X.env:=by rfl)(hpl:(backTo pos (starEach es X.env)).any (·.1)=false:=by rfl)(hs:tj ix:=by exact λ_ _=>rfl):
  PF X (.Call (.Subscript (.List es' pl) ix sp) (e::es) [] pos) (zP gs gi):=by
 intro pins s σ H Q I h;obtain⟨G,ρ,st,h⟩:=h;obtain⟨vs,pa,hvl,hv⟩:=P.ex;rw[yj];have key:PE X (.Subscript (.List es' pl) ix sp) (tOp (MB X.K) (NO (tVs vs)) (tF X gi)):=Hl ix_list (AN pa) hi hs;refine z9 (thn (key pins s σ H (λv H1=>∃G1 a fd ps f,StE X.K G1 H1 σ ρ/\v=.ref a/\FnF X.prog X.w X.K X.mg X.base k a fd ps f/\PySem.W.keepIn X.K (.ref a)=true/\Binds X.K fd ps []/\(aG ps.length f gl ρ).post (Fin G1 H1 (Rep X.K) Q) (Exx X σ G1 H1)) I ?_) λu s1 q=>?_)
 ·refine Fx ⟨by rw[hvl];exact xk hn (by decide),λl hl=>?_⟩;have u0:Up G H (upd G l (.lst vs)) (upd H l (.lst vs)):=.new st.sub hl;refine tG.intro (st.up u0) (lW u0 h) λd y G1 H1 u1 st1 r1 h1=>?_;cases r1 with
  |int i=>
   have h1:(if 0<=i then (match gs[i.toNat]? with
    |some g=>g ρ
    |none=>.no)else .no:R D).post (Fin G1 H1 (Rep X.K) Q) (Exx X σ G1 H1):=h1;by_cases h0:0<=i
   ·rw[if_pos h0]at h1;obtain⟨j,rfl⟩:=i7 h0;rw[uH]at h1;cases q:gs[j]? with
    |none=>rw[q]at h1;exact h1.elim
    |some g=>rw[q]at h1;obtain⟨a,fd,ps,f,ev,F,kp,b,l',rfl⟩:=hv j g q;subst l';exact⟨l,vs,j,.ref a,rfl,rfl,.of (u1.sub _ _ (u1.gg _ _ aV)),Cl ev,G1,a,fd,ps,f,st1,rfl,F,kp,b,h1⟩
   ·rw[if_neg h0]at h1;exact h1.elim
  |_=>exact h1.elim
 ·obtain⟨v,H1,I1,rv,G1,a,fd,ps,f,st1,rfl,F,kp,b,q⟩:=q;cases rv;exact tf F hr kp b ha he hpl I1 st1 q
end
def GG{x:Str}{pos:Pos}{g:List D->R D}(c:Callee X.prog X.w X.K X.mg X.base x k 0 g)(hr:Room k X.A)(hg:Gl X x:=by rfl)(hdb:(x==("__debug__":Str))=false:=by decide):
  PF X (.Call (.Name x p) [] [] pos) (aG 0 g (λ_=>.ok [])):=by
 obtain⟨f,fd,ps,F,hm,hk,hb,hl⟩:=c.ex;intro pins s σ H Q I h;obtain⟨G,ρ,st,h⟩:=h;have h:(g []).post (Fin G H (Rep X.K) Q) (Exx X σ G H):=h;refine o9 (mq I hg hm ?_ hdb);have hbb:=hb s [] I.kIn (by rw[hl];rfl);refine PySem.W.callWith_K0 (first:=[]) I.kIn hk ?_;refine qF (qc (F.run X.A X.stack s H ⟨[],[]⟩ [] [] Q (λc _ H'=>∃C G',c=.ref C/\Up G H G' H'/\Exx X σ G H C) hr I.env0 hbb .nil ⟨by rw[hl];rfl,G,[],st.sub,.nil,h.mono (λ_ q=>q) λC q G' H' u=>⟨C,G',rfl,u,q⟩⟩) λr' s' hq=>?_);cases r' with
 |error e'=>obtain⟨a,C,H',rfl,fl,C',G',ec,u,q⟩:=hq;cases ec;exact q _ _ ⟨G,H,.refl st.sub,pins,s,a,rfl,I,.inr (.inl ⟨G',H',fl,u⟩)⟩
 |ok fl=>
  cases fl with
  |ret u=>exact I.after hq
  |_=>exact False.elim hq
section
variable{g g1 g2':Ev->O}{gt gu:Ev->R Bool}{ga gc:Ev->R D}{go gp:Ev->R (Option Int)}{f f':D->D->Option D}
def tm:aF g1 g2' ρ=(g1 ρ).seq g2':=rfl
def OL:oIf gt g1 g2' ρ=(gt ρ).out ρ λk=>if k=true then g1 ρ else g2' ρ:=rfl
def J5:eJ i ga ρ=(ga ρ).out ρ λd=>.nx (ρ.set i (some (.val d))):=rfl
def Ki:ck ga ρ=(ga ρ).out ρ .rt:=rfl
def Qx:oNx ρ=.nx ρ:=rfl
def Kh:zZ i gl ρ=(gl ρ).out ρ λds=>.nx (ρ.set i (some (.own ds))):=rfl
def FZ:jJ ga ρ=(ga ρ).out ρ λ_=>.nx ρ:=rfl
def Kj:Az asg gl g ρ=(gl ρ).out ρ λitems=>iH asg g items ρ:=rfl
def H9:dA C gl ρ=(gl ρ).out ρ λ_=>.ex C ρ:=rfl
def Mf:Mx asg ga ρ=(ga ρ).out ρ λd=>(asg d ρ).out ρ .nx:=rfl
def LJ:zw i g ρ=g (frz i ρ):=rfl
def uS{α β:Type}{h:α->R β}{gx:Ev->R α}:aB h gx ρ=gx ρ>>=h:=rfl
def O5{h:List D->Option D}:gOf h gl ρ=gl ρ>>=λds=>ofO (h ds):=rfl
def AB:ac ga gl ρ=ga ρ>>=λx=>gl ρ>>=λxs=>.ok (x::xs):=rfl
def Cr:aP gl ρ=gl ρ>>=λds=>.ok (.lst false ds):=rfl
def Ih:fS gl ρ=gl ρ>>=λds=>if ds.length<=sizeLine then .ok ds else .no:=rfl
def NH:gB2 f ga gb ρ=g2 f ga gb ρ>>=asB:=rfl
def PQ:gB3 f f' ga gb gc ρ=g3 f f' ga gb gc ρ>>=asB:=rfl
def O4:gBn gt ρ=gt ρ>>=λk=>.ok (!k):=rfl
def FR:sd ga ρ=ga ρ>>=λx=>asI x>>=λi=>.ok (some i):=rfl
def J4{T:String}{h:D->List D->Option D}:eS T h ga gl ρ=ga ρ>>=λx=>if lr T x=true then gl ρ>>=λds=>ofO (h x ds)else .no:=rfl
def NF:g2 f ga gb ρ=ga ρ>>=λx=>gb ρ>>=λy=>ofO (f x y):=rfl
def LC:nS ga gb ρ=ga ρ>>=λx=>asB x>>=λk=>if k=true then gb ρ else .ok (.bl false):=rfl
def P0:gOr ga gb ρ=ga ρ>>=λx=>asB x>>=λk=>if k=true then .ok (.bl true)else gb ρ:=rfl
def Nw:Nr ga ρ=ga ρ>>=λx=>asB x>>=λk=>.ok (.bl (!k)):=rfl
def Mi:E8 gt gu ρ=gt ρ>>=λk=>if k=true then gu ρ else .ok false:=rfl
def Lc:nM gt gu ρ=gt ρ>>=λk=>if k=true then .ok true else gu ρ:=rfl
def Lp:gIf gt ga gb ρ=gt ρ>>=λk=>if k=true then ga ρ else gb ρ:=rfl
def OG:gSl ga go gp ρ=ga ρ>>=λx=>go ρ>>=λl=>gp ρ>>=λu=>ofO (Je l u x):=rfl
def BQ:dD gl ix gt ga ρ=gl ρ>>=λitems=>kr gt ga items (mz ix ρ)>>=λds=>if ds.length<=sizeLine then .ok ds else .no:=rfl
def BP{h:List D->R D}:aG 1 h (ac ga λ_=>.ok []) ρ=ga ρ>>=λx=>h [x]:=KN
def Ck{h:List D->R D}:aG 2 h (ac ga (ac gb λ_=>.ok [])) ρ=ga ρ>>=λx=>gb ρ>>=λy=>h [x,y]:=FE
def BJ{h:List D->R D}:aG 3 h (ac ga (ac gb (ac gc λ_=>.ok []))) ρ=ga ρ>>=λx=>gb ρ>>=λy=>gc ρ>>=λz=>h [x,y,z]:=J9
def IJ{h:List D->R D}{gd:Ev->R D}:aG 4 h (ac ga (ac gb (ac gc (ac gd λ_=>.ok [])))) ρ=ga ρ>>=λx=>gb ρ>>=λy=>gc ρ>>=λz=>gd ρ>>=λu=>h [x,y,z,u]:=by
 unfold aG;simp only[AB];cases ga ρ <;> try rfl
 simp only[R.ok_bind];cases gb ρ <;> try rfl
 simp only[R.ok_bind];cases gc ρ <;> try rfl
 simp only[R.ok_bind];cases gd ρ <;> rfl
end
def LQ(i:Nat)(ga:Ev->R D)(ρ:Ev):Jb i ga ρ=(ownAt ρ i).out ρ λds=>(ga ρ).out ρ λd=>(asL d).out ρ λes=>if ds.length+es.length<=sizeLine then .nx (ρ.set i (some (.own (ds++es))))else .no:=rfl
def MY(i:Nat)(ga:Ev->R D)(ρ:Ev):NM i ga ρ=(ownAt ρ i).out ρ λds=>(ga ρ).out ρ λd=>if ds.length<sizeLine then .nx (ρ.set i (some (.own (ds++[d]))))else .no:=rfl
def MX(i j:Nat)(gl:Ev->R (List D))(ρ:Ev):N9 i j gl ρ=(gl ρ).out ρ λds=>(qB [i,j] ds ρ).out ρ .nx:=rfl
def O9(ds:List D)(ρ:Ev):ownAt (some (.own ds)::ρ) 0=.ok ds:=rfl
def Qi(a0:Option Sl)(ds:List D)(ρ:Ev):ownAt (a0::some (.own ds)::ρ) 1=.ok ds:=rfl
def PC(a0 a1:Option Sl)(ds:List D)(ρ:Ev):ownAt (a0::a1::some (.own ds)::ρ) 2=.ok ds:=rfl
def asl(ds:List D):asL (.lst false ds)=.ok ds:=rfl
def P2(a0:Option Sl)(ds:List D)(ρ:Ev):frz 1 (a0::some (.own ds)::ρ)=a0::some (.val (.lst false ds))::ρ:=rfl
noncomputable def g3k(f':D->D->Option D)(r:R D)(y:D):D->R D
 |.bl true=>r>>=λw=>ofO (f' y w)
 |.bl false=>.ok (.bl false)
 |_=>.no
def Pf(f f':D->D->Option D)(ga gb gc:Ev->R D)(ρ:Ev):g3 f f' ga gb gc ρ=ga ρ>>=λx=>gb ρ>>=λy=>ofO (f x y)>>=g3k f' (gc ρ) y:=rfl
def Nb(f':D->D->Option D)(r:R D)(y:D)(b:Bool):g3k f' r y (.bl b)=if b=true then (r>>=λw=>ofO (f' y w))else .ok (.bl false):=by cases b <;> rfl
def sv2(i j:Nat)(x y:D)(ρ:Ev):qB [i,j] [x,y] ρ=.ok ((ρ.set i (some (.val x))).set j (some (.val y))):=rfl
def Pu(a0 a1 a2 a3:Option Sl)(ds:List D)(ρ:Ev):frz 4 (a0::a1::a2::a3::some (.own ds)::ρ)=a0::a1::a2::a3::some (.val (.lst false ds))::ρ:=rfl
def Mv(ρ:Ev)(k:Ev->O):(O.nx ρ).seq k=k ρ:=rfl
def O7(d:D)(k:Ev->O):(O.rt d).seq k=.rt d:=rfl
def PK(C:Addr)(ρ:Ev)(k:Ev->O):(O.ex C ρ).seq k=.ex C ρ:=rfl
def PL(k:Ev->O):(O.no).seq k=.no:=rfl
def Pc(d:D):aD (.rt d)=.ok d:=rfl
def Qa(ρ:Ev):aD (.nx ρ)=.ok .non:=rfl
def Pw(C:Addr)(ρ:Ev):aD (.ex C ρ)=.ex C:=rfl
def OA(k:Bool):asB (.bl k)=.ok k:=rfl
def lC(i:Int):asI (.int i)=.ok i:=rfl
def Pz(k:Bool):gU (.bl k)=.ok k:=rfl
def rd7(a0 a1 a2 a3 a4 a5 a6:Option Sl)(d:D)(ρ:Ev):rdV (a0::a1::a2::a3::a4::a5::a6::some (.val d)::ρ) 7=.ok d:=rfl
def rd8(a0 a1 a2 a3 a4 a5 a6 a7:Option Sl)(d:D)(ρ:Ev):rdV (a0::a1::a2::a3::a4::a5::a6::a7::some (.val d)::ρ) 8=.ok d:=rfl
def rd9(a0 a1 a2 a3 a4 a5 a6 a7 a8:Option Sl)(d:D)(ρ:Ev):rdV (a0::a1::a2::a3::a4::a5::a6::a7::a8::some (.val d)::ρ) 9=.ok d:=rfl
def PR(a0 a1 a2 a3 a4 a5 a6 a7 a8 a9:Option Sl)(d:D)(ρ:Ev):rdV (a0::a1::a2::a3::a4::a5::a6::a7::a8::a9::some (.val d)::ρ) 10=.ok d:=rfl
def Pi(a0 a1 a2 a3 a4 a5 a6 a7 a8 a9 a10:Option Sl)(d:D)(ρ:Ev):rdV (a0::a1::a2::a3::a4::a5::a6::a7::a8::a9::a10::some (.val d)::ρ) 11=.ok d:=rfl
def P8(a0 a1 a2 a3 a4 a5 a6 a7 a8 a9 a10 a11:Option Sl)(d:D)(ρ:Ev):rdV (a0::a1::a2::a3::a4::a5::a6::a7::a8::a9::a10::a11::some (.val d)::ρ) 12=.ok d:=rfl
section
variable(i j:Int)
def Bi:fg (.int i) (.int j)=some (.int (i+j)):=by simp only[fg]
def Np:mx (.int i) (.int j)=some (.int (i - j)):=by simp only[mx]
def PH:leD (.int i) (.int j)=some (.bl (decide (i<=j))):=by simp only[leD]
def Pv:ltD (.int i) (.int j)=some (.bl (decide (i<j))):=by simp only[ltD]
def Pl:gtD (.int i) (.int j)=some (.bl (decide (j<i))):=by simp only[gtD]
def PD:geD (.int i) (.int j)=some (.bl (decide (j<=i))):=by simp only[geD]
def Qw:eqF (.int i) (.int j)=some (.bl (i==j)):=by simp only[eqF,eqD,t8]
def Pn:neF (.int i) (.int j)=some (.bl (!(i==j))):=by simp only[neF,eqD,t8]
end
def AQ{i j:Int}(h : -(2 ^ 64)<i/\i<2 ^ 64):eM (.int i) (.int j)=some (.int (i * j)):=by simp only[eM];rw[if_pos (Or.inl h)]
def Ke{i j:Int}(h : -(2 ^ 64)<j/\j<2 ^ 64):eM (.int i) (.int j)=some (.int (i * j)):=by simp only[eM];rw[if_pos (Or.inr h)]
def tW{x y:List Nat}(h:x.length+y.length<=sizeLine):fg (.str x) (.str y)=some (.str (x++y)):=by simp only[fg];rw[if_pos h]
def PZ(x y:List Nat):eqF (.str x) (.str y)=some (.bl (x==y)):=by simp only[eqF,eqD,t8]
def MC(x y:List Nat):neF (.str x) (.str y)=some (.bl (!(x==y))):=by simp only[neF,eqD,t8]
def yw{α:Type}(n:Nat)(x:α):(List.replicate n [x]).flatten=List.replicate n x:=by
 induction n with
 |zero=>rfl
 |succ n ih=>rw[sM,qE,ih];rfl
def nO:(1000:Nat)<=sizeLine:=by decide
def N2(h:n<=1000):eM (.str [c]) (.int (n:Int))=some (.str (List.replicate n c)):=by have:=nO;simp only[eM];rw[if_pos (by refine⟨by omega,by omega,?_⟩;simp;omega),uH,yw]
def Qo{xs:List D}(h:xs[k]?=some d):ixD (.lst fz xs) (.int (k:Int))=some d:=by simp only[ixD];exact Cl h
def Ou(lo hi:Option Int)(x:List Nat):Je lo hi (.str x)=some (.str (rm x lo hi)):=rfl
def Nn(lo hi:Option Int)(x:List D):Je lo hi (.tup x)=some (.tup (rm x lo hi)):=rfl
def No(fz:Bool)(x:List D):iC [.lst fz x]=some (.int x.length):=rfl
def Oj(x:List D):iC [.tup x]=some (.int x.length):=rfl
def NN(x:List Nat):iC [.str x]=some (.int x.length):=rfl
def m_t(h:ds.length<=1000):mkT ds=.ok (.tup ds):=if_pos (xk h nO)
def PY{α:Type}(a v:α)(l:List α):(a::l).set 0 v=v::l:=rfl
def Ar{g:Ev->O}{ρ1 ρ2:Ev}(h1:asg d ρ=.ok ρ1)(h2:g ρ1=.nx ρ2):iH asg g (d::ds) ρ=iH asg g ds ρ2:=by
 rw[iH,h1];show(match g ρ1 with
  |.nx ρ2=>iH asg g ds ρ2
  |.ct ρ2=>iH asg g ds ρ2
  |.bk ρ2=>O.nx ρ2
  |.rt d=>O.rt d
  |.re d ρ2=>.re d ρ2
  |.ex C ρ2=>O.ex C ρ2
  |.no=>O.no)=_;rw[h2]
def Lv{a b:Expr}{pos:Pos}(hc:X.calm=true)(hg:Gl X "min")(hm:X.mg "min"=none)(ha:PFA X [a,b] gl)(he:starEach [a,b] X.env=(false,eval a X.env)::starEach [b] X.env:=by rfl)(hpl:(backTo pos (starEach [b] X.env)).any (·.1)=false:=by rfl):
  PF X (.Call (.Name "min" p) [a,b] [] pos) (gOf Jd gl):=kN (AW hc) (J3 _) hg hm PyProof.Rows.Boot.«min» ha (by decide) (by decide) he hpl
def NG{a b:Expr}{ga:Ev->R D}{pos:Pos}(ha:PF X a ga)(hb:PF X b gb):PB X (.Compare a [.GtE] [b] pos) (gB2 geD ga gb):=NQ ha hb
noncomputable def rP:D->List D->Option D
 |.str x,[.int i]=>if -1000<=i/\i<=1000 then some (.str (x++List.replicate (i.toNat - x.length) 32))else none
 |_,_=>none
noncomputable def Gg:V->List V->Hp->VK->Prop:=λx vs H Q=>∃(y:Str)(i:Int),x=.str y/\vs=[.int i]/\-1000<=i/\i<=1000/\Q (.str (Txt.ljust y i)) H
def Fa:MtR X "str.ljust" Gg:=by intro pins s σ H x xs v us Q I rx rv ⟨y,i,ex,exs,h1,h2,q⟩;subst ex exs;obtain⟨t,rfl⟩:=rx;obtain⟨u,rfl,r1⟩:=rv.one;obtain⟨t',rfl⟩:=r1;exact SC.ljust (padOk_of (by omega) (by omega)) (λt'' k=>⟨.str _,H,I.tok _,⟨_,rfl⟩,q⟩)
def vZ(y:Str)(i:Int):(Txt.ljust y i).cps.toList=y.cps.toList++List.replicate (i.toNat - y.cps.toList.length) 32:=by
 unfold Txt.ljust;have hl:y.length=y.cps.toList.length:=by simp[Str.length]
 split
 ·rename_i h;have:i.toNat - y.cps.toList.length=0:=by omega
  rw[this];simp
 ·simp[Builtin.Str.padded,Str.length]
def Ew(K:PySem.W.Frag):Bs K "str" Gg rP:=by
 intro G H x xs dx ds d Q s rx rs e q;unfold rP at e;split at e
 ·split at e
  ·rename_i hi;cases e;obtain⟨v,rfl,r1⟩:=rs.one;obtain⟨y,rfl,ey,hy⟩:=rx.str_inv;obtain rfl:=r1.int_inv;refine⟨y,_,rfl,rfl,hi.1,hi.2,q _ G H (.refl s) (.strL (by rw[vZ,ey]) ?_)⟩;have h1:y.length=y.cps.toList.length:=by simp[Str.length]
   have:=nO;rw[h1,ey]at hy;simp;omega
  ·cases e
 ·cases e
def B8{o e:Expr}{ga:Ev->R D}{ap cp:Pos}(ho:PF X o ga)(ha:PFA X [e] gl)(hbase:attributeBase o "ljust" X.env (eval o X.env)=eval o X.env:=by rfl)(hfew:((backTo cp (starEach [e] X.env)).all (λx=>!x.1) && (backToKw cp (keywordEach [] X.env)).all (λx=>x.1.isSome)
 && decide ([e].length+([]:List Keyword).length+(if ([]:List Keyword).isEmpty then 0 else 1)<30))=true:=by rfl)(hline:(ap.endLine==cp.line)=true:=by rfl)(hs:starEach [e] X.env=(false,eval e X.env)::starEach [] X.env:=by rfl):
  PF X (.Call (.Attribute o "ljust" ap) [e] [] cp) (eS "str" rP ga gl):=iu qi PySem.F.slot_str_ljust PySem.F.type_str_ljust Fa (Ew _) ho ha hbase hfew hline hs rfl
noncomputable def nc:D->List D->Option D
 |.str x,[.int i]=>if -1000<=i/\i<=1000 then some (.str (List.replicate (i.toNat - x.length) 32++x))else none
 |_,_=>none
noncomputable def FS:V->List V->Hp->VK->Prop:=λx vs H Q=>∃(y:Str)(i:Int),x=.str y/\vs=[.int i]/\-1000<=i/\i<=1000/\Q (.str (Txt.rjust y i)) H
def Dl:MtR X "str.rjust" FS:=by intro pins s σ H x xs v us Q I rx rv ⟨y,i,ex,exs,h1,h2,q⟩;subst ex exs;obtain⟨t,rfl⟩:=rx;obtain⟨u,rfl,r1⟩:=rv.one;obtain⟨t',rfl⟩:=r1;exact SC.rjust (padOk_of (by omega) (by omega)) (λt'' k=>⟨.str _,H,I.tok _,⟨_,rfl⟩,q⟩)
def va(y:Str)(i:Int):(Txt.rjust y i).cps.toList=List.replicate (i.toNat - y.cps.toList.length) 32++y.cps.toList:=by
 unfold Txt.rjust;have hl:y.length=y.cps.toList.length:=by simp[Str.length]
 split
 ·rename_i h;have:i.toNat - y.cps.toList.length=0:=by omega
  rw[this];simp
 ·simp[Builtin.Str.padded,Str.length]
def Dj(K:PySem.W.Frag):Bs K "str" FS nc:=by
 intro G H x xs dx ds d Q s rx rs e q;unfold nc at e;split at e
 ·split at e
  ·rename_i hi;cases e;obtain⟨v,rfl,r1⟩:=rs.one;obtain⟨y,rfl,ey,hy⟩:=rx.str_inv;obtain rfl:=r1.int_inv;refine⟨y,_,rfl,rfl,hi.1,hi.2,q _ G H (.refl s) (.strL (by rw[va,ey]) ?_)⟩;have h1:y.length=y.cps.toList.length:=by simp[Str.length]
   have:=nO;rw[h1,ey]at hy;simp;omega
  ·cases e
 ·cases e
def xM{o e:Expr}{ga:Ev->R D}{ap cp:Pos}(ho:PF X o ga)(ha:PFA X [e] gl)(hbase:attributeBase o "rjust" X.env (eval o X.env)=eval o X.env:=by rfl)(hfew:((backTo cp (starEach [e] X.env)).all (λx=>!x.1) && (backToKw cp (keywordEach [] X.env)).all (λx=>x.1.isSome)
 && decide ([e].length+([]:List Keyword).length+(if ([]:List Keyword).isEmpty then 0 else 1)<30))=true:=by rfl)(hline:(ap.endLine==cp.line)=true:=by rfl)(hs:starEach [e] X.env=(false,eval e X.env)::starEach [] X.env:=by rfl):
  PF X (.Call (.Attribute o "rjust" ap) [e] [] cp) (eS "str" nc ga gl):=iu qi PySem.F.slot_str_rjust PySem.F.type_str_rjust Dl (Dj _) ho ha hbase hfew hline hs rfl
def PU(a0 a1 a2 a3 a4 a5 a6 a7 a8 a9 a10 a11 a12:Option Sl)(d:D)(ρ:Ev):rdV (a0::a1::a2::a3::a4::a5::a6::a7::a8::a9::a10::a11::a12::some (.val d)::ρ) 13=.ok d:=rfl
def Po(a0 a1 a2 a3 a4 a5 a6 a7 a8 a9 a10 a11 a12 a13:Option Sl)(d:D)(ρ:Ev):rdV (a0::a1::a2::a3::a4::a5::a6::a7::a8::a9::a10::a11::a12::a13::some (.val d)::ρ) 14=.ok d:=rfl
def Nt(i:Nat)(gt:Ev->R Bool)(g1 g2:Ev->O)(ρ:Ev):MQ i gt g1 g2 ρ=(fq (gt (frz i ρ))).out ρ λk=>if k=true then g1 ρ else g2 ρ:=rfl
def LO(j i:Nat)(ga:Ev->R D)(ρ:Ev):HR j i ga ρ=(fq (ga (frz j ρ))).out ρ λd=>if fl 10 d=true then .nx (ρ.set i (some (.val d)))else .no:=rfl
def KU(j i:Nat)(ga:Ev->R D)(ρ:Ev):Nd j i ga ρ=(ownAt ρ i).out ρ λds=>(fq (ga (frz j ρ))).out ρ λd=>if ds.length<sizeLine/\fl 10 d=true then .nx (ρ.set i (some (.own (ds++[d]))))else .no:=rfl
noncomputable def Kc(i:Nat)(ρ:Ev)(ds:List D)(d:D):Option Nat->O
 |some n=>if fl 10 d=true then .nx (ρ.set i (some (.own (ds.set n d))))else .no
 |none=>.no
def LM(i:Nat)(gk ga:Ev->R D)(ρ:Ev):GD i gk ga ρ=(ownAt ρ i).out ρ λds=>(fq (ga (frz i ρ))).out ρ λd=>(fq (gk (frz i ρ)>>=asI)).out ρ λk=>Kc i ρ ds d (ixN ds.length k):=rfl
def zJ(i:Nat)(ρ:Ev)(ds:List D)(d:D)(n:Nat):Kc i ρ ds d (some n)=if fl 10 d=true then .nx (ρ.set i (some (.own (ds.set n d))))else .no:=rfl
def Mn(gl:Ev->R (List D))(ρ:Ev):NS gl ρ=gl ρ>>=MD:=rfl
def N5(xs:List D):MD [.tup xs]=.ok xs:=rfl
def Ij(ga gb:Ev->R D)(ρ:Ev):Lq ga gb ρ=ga ρ>>=λx=>gb ρ>>=λc=>Gd x c:=rfl
def Iv(n:Nat)(asg:D->Ev->R Ev)(gl:Ev->R (List D))(ix:List Nat)(gt:Ev->R Bool)(ga:Ev->R D)(ρ:Ev):kh n asg gl ix gt ga ρ=gl ρ>>=λitems=>iZ asg gt ga items (fh n ix ρ)>>=λds=>if ds.length<=sizeLine then .ok ds else .no:=rfl
def Mt(i j:Nat)(ga:Ev->R D)(gl:Ev->R (List D))(ρ:Ev):Op i j ga gl ρ=(ga ρ).out ρ λd=>(gl ρ).out ρ λds=>.nx ((ρ.set i (some (.val d))).set j (some (.own ds))):=rfl
def M5(f:Bool)(lo hi:Option Int)(x:List D):Je lo hi (.lst f x)=some (.lst false (rm x lo hi)):=rfl
def Nu(ga gs:Ev->R D)(ρ:Ev):P1 ga gs ρ=ga ρ>>=λx=>gs ρ>>=λk=>Mu x k:=rfl
def Od(x:List Nat):Mu (.str x) (.int (-1))=.ok (.str x.reverse):=rfl
def M7(f:Bool)(x:List D):Mu (.lst f x) (.int (-1))=.ok (.lst false x.reverse):=rfl
def Nj(f:Bool)(xs:List D):MD [.lst f xs]=.ok xs:=rfl
noncomputable def Mz(i:Nat):O->O
 |.nx ρ=>.nx (ρ.set i none)
 |.rt d=>.rt d
 |_=>.no
noncomputable def JS(gs:Ev->O)(f:Addr->Option Bool)(i:Nat):O->O
 |.ex C ρ=>(match f C with
  |some true=>Mz i (gs (ρ.set i (some (.val (.exc C)))))
  |_=>.no)
 |o=>o
def KA(gb gs:Ev->O)(f:Addr->Option Bool)(i:Nat)(ρ:Ev):FN gb gs f i ρ=JS gs f i (gb ρ):=by unfold FN JS;cases gb ρ <;> rfl
def Hf(gs:Ev->O)(f:Addr->Option Bool)(i:Nat)(ρ:Ev):JS gs f i (.nx ρ)=.nx ρ:=rfl
def BM{gs:Ev->O}{f:Addr->Option Bool}(h:f C=some true):JS gs f i (.ex C ρ)=Mz i (gs (ρ.set i (some (.val (.exc C))))):=by simp only[JS,h]
def Hk(i:Nat)(ρ:Ev):Mz i (.nx ρ)=.nx (ρ.set i none):=rfl
noncomputable def Kv(gs:List (Ev->R D))(out:List Nat)(ρ:Ev):D->R D
 |.str x=>if (out++x).length<=sizeLine then pw gs (out++x) ρ else .no
 |_=>.no
def KW(gs:List (Ev->R D))(ρ:Ev):uw gs ρ=pw gs [] ρ:=rfl
def GE(out:List Nat)(ρ:Ev):pw [] out ρ=.ok (.str out):=rfl
def Hz(g:Ev->R D)(gs:List (Ev->R D))(out:List Nat)(ρ:Ev):pw (g::gs) out ρ=g ρ>>=Kv gs out ρ:=rfl
def HC(gs:List (Ev->R D))(out:List Nat)(ρ:Ev)(x:List Nat):Kv gs out ρ (.str x)=if (out++x).length<=sizeLine then pw gs (out++x) ρ else .no:=rfl
def MM(x:List Nat):wy (.str x)=.ok (.str x):=rfl
def Kx(h:n<10000000000):wy (.int (n:Int))=.ok (.str (qb n)):=by show(if 0<=(n:Int)/\(n:Int)<10000000000 then R.ok (D.str (qb (n:Int).toNat))else .no)=_;rw[if_pos (by omega),uH]
def I9(h:n<10000000000):lh [.int (n:Int)]=some (.str (qb n)):=by show(if 0<=(n:Int)/\(n:Int)<10000000000 then some (D.str (qb (n:Int).toNat))else none)=_;rw[if_pos (by omega),uH]
def JD(j i:Nat)(gl:Ev->R (List D))(ρ:Ev):Nz j i gl ρ=(fq (gl (frz j ρ))).out ρ λds=>if ds.all (fl 10)=true then .nx (ρ.set i (some (.own ds)))else .no:=rfl
def Of(n:Nat)(gt:Ev->R Bool)(g:Ev->O)(ρ:Ev):Ae n gt g ρ=gX gt g n ρ:=rfl
def GH(gi:Ev->R (List D))(ix:List Nat)(gt:Ev->R Bool)(ge:Ev->R D)(ρ:Ev):yu gi ix gt ge ρ=gi ρ>>=λitems=>if items.length<=sizeLine then gH (wb 0) gt ge items (mz ix ρ)else .no:=rfl
end L2
section
open L2
set_option compiler.extract_closed false in
local macro_rules | `(tactic| walk_at "run")=>`(tactic| simp -implicitDefEqProofs only[rvz,ciz,nlz,csz,JN,Js,JY,Jw,GH,↓BP,↓Ck,↓BJ,↓IJ,tm,OL,J5,Ki,Qx,Kh,FZ,Kj,H9,Mf,LJ,uS,O5,AB,Cr,Ih,NH,PQ,O4,FR,J4,NF,LC,P0,Nw,Mi,Lc,Lp,OG,BQ,LQ,MY,KU,Nt,LO,LM,jh,Mn,Ij,Iv,Mt,M5,Nu,Od,M7,zJ,N5,Nj,PU,Po,and_self,MX,O9,Qi,PC,asl,P2,Pu,Pf,Nb,sv2,Mv,O7,PK,PL,Pc,Qa,Pw,OA,lC,Pz,rd0,rd1,rd2,rd3,rd4,rd5,rd6,rd7,rd8,rd9,PR,Pi,P8,R.ok_bind,R.ok_out,R.ex_bind,R.ex_out,jY,Bi,Np,PH,Pv,Pl,PD,Qw,Pn,PZ,MC,No,Oj,NN,Ou,Nn,PY,List.set_cons_succ,l7,w8,Z4,nu,Nat.reduceAdd,Nat.reduceBEq,Bool.not_true,Bool.not_false,nK,uM,xK,JD,Of,KA,Hf,BM,Hk,KW,GE,Hz,HC,MM,Int.reduceLT,Int.reduceLE,Int.reduceBEq,decide_true,decide_false, *])
namespace Q
open L2
open PySem (sizeLine Addr)
noncomputable def O6:D->Bool
 |.int _=>true
 |_=>false
noncomputable def Eo:List D->R D
 | [.exc _]=>.no
 | [.dct _ _]=>.no
 | [d]=>.ok (.bl (O6 d))
 |_=>.no
noncomputable def hZ:Ev->O:=(aF (ck (nS (aB (ko isInt) (rvz 0)) (Nr (aB (ko (·=="bool")) (rvz 0))))) oNx)
def wX:∀ds:List D,ds.length=1->Eo ds=.no\/aD (hZ  (aw 1 ds))=Eo ds:=by
 intro ds hl;unfold hZ
 match ds,hl with
 | [d],_=>cases d <;> first|exact Or.inr rfl|exact Or.inl rfl
noncomputable def inB(d:D)(lo hi:Int):Bool:=match d with
 |.int i=>decide (lo<=i) && decide (i<=hi)
 |_=>false
noncomputable def kn:List D->R D
 | [.exc _,_,_]=>.no
 | [.dct _ _,_,_]=>.no
 | [d,.int lo,.int hi]=>.ok (.bl (inB d lo hi))
 |_=>.no
noncomputable def fZ(iM:List D->R D):Ev->O:=(aF (ck (nS (aG 1 iM (ac (rvz 0) nlz)) (g3 leD leD (rvz 1) (rvz 0) (rvz 2)))) oNx)
def vP:∀ds:List D,ds.length=3->kn ds=.no\/aD (fZ Eo (aw 3 ds))=kn ds:=by
 intro ds hl;unfold fZ
 match ds,hl with
 | [d,l,h],_=>
  cases d <;> first|exact Or.inl rfl|skip
  all_goals (cases l <;> first|exact Or.inl rfl|skip)
  all_goals (cases h <;> first|exact Or.inl rfl|skip)
  all_goals first|exact Or.inr rfl|skip
  rename_i i lo hi hl;refine Or.inr ?_;show aD (aF _ oNx [some (.val (.int i)),some (.val (.int lo)),some (.val (.int hi))])=R.ok (D.bl (inB (.int i) lo hi));by_cases h1:lo<=i <;> simp[aF,ck,nS,aG,ac,g3,rdV,Eo,O6,asB,leD,inB,aD,O.seq,h1]
noncomputable def plain(x:List Nat):Bool:=x.all λc=>decide (32<=c) && decide (c<=126)
noncomputable def nB:List D->R D
 | [.exc _]=>.no
 | [.dct _ _]=>.no
 | [.str x]=>if x.length<=sizeLine then .ok (.bl (plain x))else .no
 | [d]=>.ok (.bl false)
 |_=>.no
noncomputable def hJ:Ev->O:=(aF (ck (nS (aB (ko (·=="str")) (rvz 0)) (gOf xW (ac (aP (dD (aB bH (rvz 0)) [] (λ_=>R.ok true) (g3 leD leD (csz [32]) (rvz 0) (csz [126])))) nlz)))) oNx)
def xA:∀ds:List D,ds.length=1->nB ds=.no\/aD (hJ  (aw 1 ds))=nB ds:=by
 intro ds hl;unfold hJ
 match ds,hl with
 | [d],_=>
  cases d <;> first|exact Or.inl rfl|exact Or.inr rfl|skip
  rename_i x hl;by_cases hx:x.length<=sizeLine
  ·refine Or.inr ?_;have e:kr (λ_=>R.ok true) (g3 leD leD (λ_=>.ok (.str [32])) (rvz 0) (λ_=>.ok (.str [126]))) (x.map λc=>D.str [c]) [none]=.ok ((x.map λc=>D.str [c]).map λd=>.bl (match d with|.str [c]=>decide (32<=c) && decide (c<=126)|_=>false)):=by
    refine oE _ [] _ none λd m=>⟨rfl,?_⟩
    obtain⟨c,_,rfl⟩:=qh.1 m;show(ofO (some (D.bl (!decide (([c]:List Nat)<[32]))))>>=λz=>match z with
     |.bl true=>ofO (some (D.bl (!decide (([126]:List Nat)<[c]))))
     |.bl false=>R.ok (D.bl false)
     |_=>R.no:R D)=_;rw[Ak,Ak,jY,R.ok_bind];cases h1:decide (32<=c) <;> simp[h1]
   have e2:nB [.str x]=.ok (.bl (plain x)):=if_pos hx;rw[e2];show aD (aF _ oNx [some (.val (.str x))])=_;simp only[aF,ck,nS,aB,gOf,ac,aP,dD,rd0,ko,tyN,asB,mz,bH,R.ok_bind,List.map_nil];simp only[j7,xK,e,R.ok_bind];simp only[wU,hx,xK,R.ok_bind,yh,jY,R.ok_out,aD,O.seq,List.all_map,plain];rfl
  ·exact Or.inl (if_neg hx)
noncomputable def MV(d:D)(wd:Int):Bool:=match d with
 |.str x=>plain x && ((x.length:Int)==wd)
 |_=>false
noncomputable def P3(d:D)(wd:Int):Bool:=match d with
 |.tup xs=>decide (1<=xs.length) && decide (xs.length<=12) && xs.all λr=>MV r wd
 |_=>false
noncomputable def NL(d:D)(wd m:Int):Bool:=match d with
 |.tup [a,b]=>inB a 0 (m - 1) && inB b 0 wd
 |_=>false
noncomputable def zS:D->Bool
 |.exc _=>false
 |.dct _ _=>false
 |_=>true
def yS{lo hi:Int}(h:zS d=true):kn [d,.int lo,.int hi]=.ok (.bl (inB d lo hi)):=by cases d <;> first|rfl|(cases h;done)
noncomputable def Jv:D->Bool
 |.tup [a,r,p]=>match a with
  |.int wd=>inB (.int wd) 1 40 && P3 r wd && (match r with|.tup rows=>NL p wd rows.length|_=>false)
  |_=>false
 |_=>false
noncomputable def tK:List D->Option (List Int)
 | []=>some []
 |.int i::ds=>(tK ds).map (i::·)
 |_=>none
theorem xZ:∀{ds:List D}{ns:List Int},tK ds=some ns->ds=ns.map .int
 | [],ns,h=>by cases h;rfl
 |d::ds,ns,h=>by
  cases d <;> first|(cases h;done)|skip
  rename_i i;cases q:tK ds with
  |none=>simp[tK,q]at h
  |some ms=>simp[tK,q]at h;subst h;rw[xZ q];rfl
theorem vN:∀ns:List Int,tK (ns.map .int)=some ns
 | []=>rfl
 |i::ns=>by simp[tK,vN ns]
noncomputable def cell(ns:List Int)(k:Nat):Int:=if k<ns.length then ns.getD k 0 else if ns.length=0 then 0 else ns.getD (k % ns.length) 0 * 31+k
def yF{ns:List Int}(h:k<ns.length):atI (ns.map D.int) (k:Int)=some (.int (ns.getD k 0)):=by
 have e:ixN (ns.map D.int).length (k:Int)=some k:=by
  rw[wU];simp[ixN]
  try omega
 rw[atI,e];simp[List.getD,h]
def tfr:∀ds:List D,ds.length=n->F ds=.no\/F ds=F ds:=λ_ _=>.inr rfl
noncomputable def fF:Ev->O:=(aF (oIf (gB2 ltD (rvz 1) (gOf iC (ac (rvz 0) nlz))) (aF (ck (g2 ixD (rvz 0) (rvz 1))) oNx) oNx) (aF (oIf (gB2 eqF (rvz 0) (aP (fS nlz))) (aF (ck (ciz 0)) oNx) oNx) (aF (ck (g2 fg (g2 eM (g2 ixD (rvz 0) (g2 zt (rvz 1) (gOf iC (ac (rvz 0) nlz)))) (ciz 31)) (rvz 1))) oNx)))
noncomputable def Dy:List D->R D:=λds=>aD (fF (aw 2 ds))
def B2{ns:List Int}:Dy [.lst fz (ns.map .int),.int n]=.ok (.int (cell ns n)):=by
 show aD (fF [some (.val (.lst fz (ns.map .int))),some (.val (.int n))])=_;unfold fF;have t3:iC [.lst fz (ns.map .int)]=some (.int ns.length):=by simp[iC]
 by_cases h1:n<ns.length
 ·have h1':(n:Int)<(ns.length:Int):=by omega
  have x1:ixD (.lst fz (ns.map .int)) (.int n)=some (.int (ns.getD n 0)):=yF h1;simp only[aF,oIf,gB2,g2,ck,gOf,ac,rd0,rd1,R.ok_bind,R.ok_out,t3,x1,jY,ltD,asB,h1',decide_true,xK,O.seq,aD,cell,h1]
 ·have h1' : ¬ (n:Int)<(ns.length:Int):=by omega
  cases ns with
  |nil=>rfl
  |cons a as=>
   have t4:eqF (.lst fz ((a::as).map .int)) (.lst false [])=some (.bl false):=rfl;have h2:n % (a::as).length<(a::as).length:=Nat.mod_lt _ (by simp);have x1:ixD (.lst fz ((a::as).map .int)) (.int ((n % (a::as).length:Nat):Int))=some (.int ((a::as).getD (n % (a::as).length) 0)):=yF h2;have m1:zt (.int n) (.int (a::as).length)=some (.int ((n % (a::as).length:Nat):Int)):=by
    have:(0:Int)<((a::as).length:Int):=by simp
    simp only[zt,this,xK];rw[Int.natCast_emod]
   have m2:∀z:Int,eM (.int z) (.int 31)=some (.int (z * 31)):=λz=>if_pos (Or.inr (by decide));have z1:(0:Nat)<=sizeLine:=t7 _;have z2 : ¬ (a::as).length=0:=by simp
   simp only[aF,oIf,gB2,g2,ck,gOf,ac,aP,fS,rd0,rd1,R.ok_bind,R.ok_out,t3,t4,x1,m1,m2,jY,ltD,fg,asB,h1',decide_false,nK,uM,O.seq,oNx,aD,cell,h1,l7,z1,xK,z2]
noncomputable def drawn(ns:List Int)(k:Nat):Int:=(cell ns k+6151 * ((k:Int)+1)) * 40692 % 2147483399
noncomputable def Aa(ns:List Int)(k:Nat)(m:Int):Int:=(drawn ns k * drawn ns k+drawn ns k / 31) % 2147483629 % m
def gA(ns:List Int)(k:Nat){m:Int}(h:0<m):0<=Aa ns k m/\Aa ns k m<m:=⟨Int.emod_nonneg _ (by omega),Int.emod_lt_of_pos _ h⟩
noncomputable def fE(gM:List D->R D):Ev->O:=(aF (eJ 3 (g2 zt (g2 eM (g2 fg (aG 2 gM (ac (rvz 0) (ac (rvz 1) nlz))) (g2 eM (ciz 6151) (g2 fg (rvz 1) (ciz 1)))) (ciz 40692)) (ciz 2147483399))) (aF (ck (g2 zt (g2 zt (g2 fg (g2 eM (rvz 3) (rvz 3)) (g2 me (rvz 3) (ciz 31))) (ciz 2147483629)) (rvz 2))) oNx))
noncomputable def nJ:List D->R D:=λds=>aD (fE Dy (aw 4 ds))
def iJ{ns:List Int}{m:Int}(hm:0<m):nJ [.lst fz (ns.map .int),.int n,.int m]=.ok (.int (Aa ns n m)):=by
 show aD (fE Dy [some (.val (.lst fz (ns.map .int))),some (.val (.int n)),some (.val (.int m)),none])=_;unfold fE;have m1:∀z:Int,eM (.int 6151) (.int z)=some (.int (6151 * z)):=λz=>by show(if ((-(2 ^ 64):Int)<6151/\(6151:Int)<2 ^ 64)\/((-(2 ^ 64):Int)<z/\z<2 ^ 64)then some (D.int (6151 * z))else none)=_;exact if_pos (Or.inl (by decide))
 have m2:∀z:Int,eM (.int z) (.int 40692)=some (.int (z * 40692)):=λz=>if_pos (Or.inr (by decide));have m3:∀z:Int,zt (.int z) (.int 2147483399)=some (.int (z % 2147483399)):=λz=>by show(if (0:Int)<2147483399 then some (D.int (z % 2147483399))else none)=_;exact if_pos (by decide)
 have m4:∀z:Int,zt (.int z) (.int 2147483629)=some (.int (z % 2147483629)):=λz=>by show(if (0:Int)<2147483629 then some (D.int (z % 2147483629))else none)=_;exact if_pos (by decide)
 have m5:∀z:Int,zt (.int z) (.int m)=some (.int (z % m)):=λz=>if_pos hm;have m6:∀z:Int,me (.int z) (.int 31)=some (.int (z / 31)):=λz=>by show(if (0:Int)<31/\(31:Int)<1073741824 then some (D.int (z / 31))else none)=_;exact if_pos (by decide)
 have m7:∀i j:Int,fg (.int i) (.int j)=some (.int (i+j)):=λ_ _=>rfl;have hd:0<=drawn ns n/\drawn ns n<2147483399:=⟨Int.emod_nonneg _ (by decide),Int.emod_lt_of_pos _ (by decide)⟩
 have m8:eM (.int (drawn ns n)) (.int (drawn ns n))=some (.int (drawn ns n * drawn ns n)):=if_pos (Or.inl (by omega));have s1:∀v,([some (.val (.lst fz (ns.map .int))),some (.val (.int n)),some (.val (.int m)),none]:Ev).set 3 v=[some (.val (.lst fz (ns.map .int))),some (.val (.int n)),some (.val (.int m)),v]:=λ_=>rfl;have q1:(cell ns n+6151 * ((n:Int)+1)) * 40692 % 2147483399=drawn ns n:=rfl;simp only[aF,eJ,ck,g2,FE,rd0,rd1,rd2,rd3,R.ok_bind,R.ok_out,B2,m1,m2,m3,m4,m5,m6,m7,jY,O.seq,s1,q1,m8,aD,Aa]
def D7{α:Type}(xs:List α)(l:Nat)(h:l<=xs.length):rm xs none (some (l:Int))=xs.take l:=by
 have h1:HT.sIx xs.length 0 none=0:=rfl;have h2:HT.sIx xs.length xs.length (some (l:Int))=l:=by
  simp only[HT.sIx]
  first|omega|(split <;> omega)
 unfold rm;rw[h1,h2];simp
noncomputable def cl:Nat->D->Bool
 | 0,_=>false
 |_+1,.exc _=>false
 |_+1,.dct _ _=>false
 |n+1,.tup xs=>xs.all (cl n)
 |n+1,.lst _ xs=>xs.all (cl n)
 |_+1,_=>true
def nR(i lo hi:Int):kn [.int i,.int lo,.int hi]=.ok (.bl (decide (lo<=i) && decide (i<=hi))):=rfl
noncomputable def A0(b m r:Int):Bool:=decide (0<=b) && decide (b<=r - 1) && (decide (1<=m) && decide (m<=r - b))
noncomputable def Ll(l w:Nat):D->D
 |.str x=>.str ((x.drop l).take w)
 |d=>d
noncomputable def Bb:List D->R D
 | [.tup [.int wd,.tup rows,p],.int t,.int l,.int h,.int w]=>if Jv (.tup [.int wd,.tup rows,p])=true/\A0 t h rows.length=true/\A0 l w wd=true then .ok (.tup [.int w,.tup (((rows.drop t.toNat).take h.toNat).map (Ll l.toNat w.toNat)),.tup [.int 0,.int 0]])else .no
 |_=>.no
noncomputable def pl(ns:List Int)(a:Nat)(wd m:Nat):D:=.tup [.int (Aa ns (a+400) m),.int (Aa ns (a+401) (wd+1))]
noncomputable def eT(ba:List D->R D)(am:Addr):Ev->O:=(aF (oIf (gBn (aB gU (aG 1 ba (ac (rvz 0) nlz)))) (aF (dA am (ac (csz [116,104,105,115,32,105,115,32,110,111,32,112,108,97,105,110,32,116,101,120,116]) nlz)) oNx) oNx) oNx)
noncomputable def iX:Ev->O:=(aF (ck (g2 inTF (rvz 0) (λ_=>R.ok (D.tup (List.map D.str [[60],[62],[94]]))))) oNx)
noncomputable def eZ(ad:List D->R D)(ah:Addr):Ev->O:=(aF (oIf (gBn (aB gU (aG 3 ad (ac (rvz 0) (ac (ciz 1) (ac (ciz 40) nlz)))))) (aF (dA ah (ac (csz [97,32,119,105,100,116,104,32,105,115,32,102,114,111,109,32,49,32,116,111,32,52,48,32,115,105,103,110,115]) nlz)) oNx) oNx) oNx)
noncomputable def ud(aQ eR:List D->R D):Ev->O:=(aF (jJ (aG 1 aQ (ac (rvz 0) nlz))) (aF (jJ (aG 1 eR (ac (rvz 1) nlz))) (aF (oIf (gB2 leD (gOf iC (ac (rvz 0) nlz)) (rvz 1)) (aF (ck (rvz 0)) oNx) oNx) (aF (ck (g2 fg (gSl (rvz 0) (λ_=>R.ok none) (sd (g2 mx (rvz 1) (ciz 1)))) (csz [126]))) oNx))))
noncomputable def gv(nz dz:List D->R D)(af:Addr):Ev->O:=(aF (eJ 3 (aG 2 nz (ac (rvz 0) (ac (rvz 1) nlz)))) (aF (oIf (gBn (aB gU (aG 1 dz (ac (rvz 2) nlz)))) (aF (dA af (ac (csz [116,104,101,114,101,32,105,115,32,110,111,32,115,117,99,104,32,115,105,100,101]) nlz)) oNx) oNx) (aF (oIf (gB2 eqF (rvz 2) (csz [60])) (aF (ck (eS "str" rP (rvz 3) (ac (rvz 1) nlz))) oNx) oNx) (aF (oIf (gB2 eqF (rvz 2) (csz [62])) (aF (ck (eS "str" nc (rvz 3) (ac (rvz 1) nlz))) oNx) oNx) (aF (eJ 4 (g2 me (g2 mx (rvz 1) (gOf iC (ac (rvz 3) nlz))) (ciz 2))) (aF (ck (eS "str" rP (g2 fg (g2 eM (csz [32]) (rvz 4)) (rvz 3)) (ac (rvz 1) nlz))) oNx))))))
def gm:20000<=sizeLine:=by decide
noncomputable def Fl(C:Addr):List D->R D:=λds=>aD (eT nB C (aw 1 ds))
def qS:∀ds:List D,ds.length=1->Fl C ds=.no\/aD (eT nB C (aw 1 ds))=Fl C ds:=λ_ _=>.inr rfl
def FO(h:nB [d]=.ok (.bl true)):Fl C [d]=.ok .non:=by
 show aD (aF _ _ [some (.val d)])=_
 walk_at "run"
 all_goals rfl
def ue{x:List Nat}(h:plain x=true)(hl:x.length<=10000):nB [.str x]=.ok (.bl true):=by have lb:=gm;have:nB [.str x]=.ok (.bl (plain x)):=if_pos (by omega);rw[this,h]
noncomputable def cwF(C:Addr):List D->R D:=λds=>aD (eZ kn C (aw 1 ds))
def qv:∀ds:List D,ds.length=1->cwF C ds=.no\/aD (eZ kn C (aw 1 ds))=cwF C ds:=λ_ _=>.inr rfl
def Lr(h:kn [d,.int 1,.int 40]=.ok (.bl true)):cwF C [d]=.ok .non:=by
 show aD (aF _ _ [some (.val d)])=_
 walk_at "run"
 all_goals rfl
def LP(h:kn [d,.int 1,.int 40]=.ok (.bl false)):cwF C [d]=.ex C:=by
 show aD (aF _ _ [some (.val d)])=_
 walk_at "run"
 all_goals rfl
def GL{w lo hi:Nat}(h1:lo<=w)(h2:w<=hi):kn [.int (w:Int),.int (lo:Int),.int (hi:Int)]=.ok (.bl true):=by show R.ok (D.bl (decide ((lo:Int)<=(w:Int)) && decide ((w:Int)<=(hi:Int))))=_;rw[vh (by omega),vh (by omega)];rfl
def KM{w:Nat}(h1:1<=w)(h2:w<=40):cwF C [.int (w:Int)]=.ok .non:=Lr (GL (lo:=1) (hi:=40) h1 h2)
noncomputable def wJ(w:Nat)(x:List Nat):List Nat:=if x.length<=w then x else x.take (w - 1)++[126]
def Fh{w:Nat}(h:1<=w)(x:List Nat):(wJ w x).length<=w:=by
 unfold wJ;split;·assumption
 ·rw[uC,qT];simp;omega
noncomputable def FF(C7 C3:Addr):List D->R D:=λds=>aD (ud (Fl C7) (cwF C3) (aw 2 ds))
def Kr:∀ds:List D,ds.length=2->FF C7 C3 ds=.no\/aD (ud (Fl C7) (cwF C3) (aw 2 ds))=FF C7 C3 ds:=λ_ _=>.inr rfl
section
def BH{x:List Nat}{w:Nat}(hp:plain x=true)(hl:x.length<=10000)(h1:1<=w)(h2:w<=40):FF C7 C3 [.str x,.int (w:Int)]=.ok (.str (wJ w x)):=by
 have e1:Fl C7 [.str x]=.ok .non:=FO (ue hp hl);have e2:cwF C3 [.int (w:Int)]=.ok .non:=KM h1 h2;show aD (aF _ _ [some (.val (.str x)),some (.val (.int (w:Int)))])=_;by_cases h:x.length<=w
 ·have q:decide ((x.length:Int)<=(w:Int))=true:=by simp;omega
  have e:wJ w x=x:=if_pos h;rw[e];clear h hp hl h1 h2 e
  walk_at "run"
 ·have q:decide ((x.length:Int)<=(w:Int))=false:=by simp;omega
  have e:wJ w x=x.take (w - 1)++[126]:=if_neg h;have k:(w:Int) - 1=((w - 1:Nat):Int):=by omega
  have c:rm x none (some ((w - 1:Nat):Int))=x.take (w - 1):=D7 x _ (by omega);have a:fg (.str (x.take (w - 1))) (.str [126])=some (.str (x.take (w - 1)++[126])):=tW (by have:=gm;simp;omega);rw[e];generalize x.take (w - 1)++[126]=r at *;clear h hp hl h1 h2 e
  walk_at "run"
def yo{e:D}(h:nB [d]=.ok (.bl true))(h2:kn [e,.int 1,.int 40]=.ok (.bl false)):FF C7 C3 [d,e]=.ex C3:=by
 have e1:Fl C7 [d]=.ok .non:=FO h;have e2:cwF C3 [e]=.ex C3:=LP h2;show aD (aF _ _ [some (.val d),some (.val e)])=_;clear h h2
 walk_at "run"
end
noncomputable def sdF:List D->R D:=λds=>aD (iX (aw 1 ds))
def zH:∀ds:List D,ds.length=1->sdF ds=.no\/aD (iX (aw 1 ds))=sdF ds:=λ_ _=>.inr rfl
noncomputable def lj(n:Nat)(x:List Nat):List Nat:=x++List.replicate (n - x.length) 32
noncomputable def rj(n:Nat)(x:List Nat):List Nat:=List.replicate (n - x.length) 32++x
def PJ{x:List Nat}(h:n<=1000):rP (.str x) [.int (n:Int)]=some (.str (lj n x)):=by show(if -1000<=(n:Int)/\(n:Int)<=1000 then some (D.str (x++List.replicate ((n:Int).toNat - x.length) 32))else none)=_;rw[if_pos (by omega),uH];rfl
def Pm{x:List Nat}(h:n<=1000):nc (.str x) [.int (n:Int)]=some (.str (rj n x)):=by show(if -1000<=(n:Int)/\(n:Int)<=1000 then some (D.str (List.replicate ((n:Int).toNat - x.length) 32++x))else none)=_;rw[if_pos (by omega),uH];rfl
noncomputable def ftF(C7 C3 C1:Addr):List D->R D:=λds=>aD (gv (FF C7 C3) sdF C1 (aw 5 ds))
def vb:∀ds:List D,ds.length=3->ftF C7 C3 C1 ds=.no\/aD (gv (FF C7 C3) sdF C1 (aw 5 ds))=ftF C7 C3 C1 ds:=λ_ _=>.inr rfl
section
def Hm{x:List Nat}{w:Nat}(hp:plain x=true)(hl:x.length<=10000)(h1:1<=w)(h2:w<=40):ftF C7 C3 C1 [.str x,.int (w:Int),.str [60]]=.ok (.str (lj w (wJ w x))):=by
 have e1:=BH (C7:=C7) (C3:=C3) hp hl h1 h2;have s1:sdF [.str [60]]=.ok (.bl true):=rfl;have kd:∀z:List Nat,lr "str" (.str z)=true:=λ_=>rfl;have l1:=PJ (x:=wJ w x) (n:=w) (by omega);show aD (aF _ _ [some (.val (.str x)),some (.val (.int (w:Int))),some (.val (.str [60])),none,none])=_;clear hp hl h1 h2
 walk_at "run"
 all_goals rfl
end
noncomputable def iy(ad:List D->R D):Ev->O:=(aF (ck (nS (aB (ko GU) (rvz 0)) (gOf xW (ac (aP (dD (aB bH (rvz 0)) [] (λ_=>R.ok true) (aG 3 ad (ac (rvz 0) (ac (ciz 0) (ac (ciz 99) nlz)))))) nlz)))) oNx)
noncomputable def vv:Ev->O:=(zZ 2 (dD (aB bH (rvz 0)) [] (λ_=>R.ok true) (ciz 0)))
noncomputable def wm:Ev->O:=(eJ 3 (gOf Jd (ac (rvz 1) (ac (gOf HK (ac (rvz 0) nlz)) nlz))))
noncomputable def kO:Ev->O:=(aF (MQ 2 (E8 (gB2 gtD (rvz 3) (ciz 0)) (gB2 ltD (g2 ixD (rvz 2) (rvz 4)) (rvz 5))) (aF (sj 2 (λi j=>i+j) (rvz 4) (ciz 1)) (aF (eJ 3 (g2 (IM (λi j=>i - j)) (rvz 3) (ciz 1))) oNx)) oNx) oNx)
noncomputable def fJ:Ev->O:=(aF (Az (CP [4,5]) (aB BT (rvz 0)) kO) oNx)
noncomputable def vO:Ev->O:=(Ae 1000 (gB2 gtD (rvz 3) (ciz 0)) fJ)
noncomputable def wa:Ev->O:=(ck (rvz 2))
noncomputable def mC:Ev->O:=(aF vv (aF wm (aF vO (zw 2 (aF wa oNx)))))
noncomputable def iq(fK ad ci:List D->R D)(af ah:Addr):Ev->O:=(aF (oIf (gBn (aB gU (aG 1 fK (ac (rvz 0) nlz)))) (aF (dA af (ac (csz [119,105,115,104,101,115,32,97,114,101,32,119,104,111,108,101,32,110,117,109,98,101,114,115,32,102,114,111,109,32,48,32,116,111,32,57,57]) nlz)) oNx) oNx) (aF (oIf (gBn (aB gU (aG 3 ad (ac (rvz 1) (ac (ciz 0) (ac (ciz 999) nlz)))))) (aF (dA ah (ac (csz [97,32,114,111,111,109,32,116,111,32,98,101,32,115,104,97,114,101,100,32,111,117,116,32,105,115,32,102,114,111,109,32,48,32,116,111,32,57,57,57,32,115,105,103,110,115,32,119,105,100,101]) nlz)) oNx) oNx) (aF (ck (aG 2 ci (ac (rvz 0) (ac (rvz 1) nlz)))) oNx)))
noncomputable def lv(r p i w:Nat):Nat:=min w (r+if i<p then 1 else 0)
noncomputable def iI(ws:List Nat)(r p:Nat):List Nat:=(List.range ws.length).map λi=>lv r p i (ws.getD i 0)
def bK(ws:List Nat)(r p:Nat):(iI ws r p).length=ws.length:=by simp[iI]
def yD{r p:Nat}(h:i<ws.length):(iI ws r p)[i]?=some (lv r p i (ws.getD i 0)):=by unfold iI;rw[List.getElem?_map,List.getElem?_range h];rfl
def cW{r p:Nat}(h:i<ws.length):(iI ws r p).getD i 0=lv r p i (ws.getD i 0):=by rw[v4,yD h];rfl
def oJ{a b:List Nat}(h1:a.length=b.length)(h2:∀k,k<a.length->a.getD k 0=b.getD k 0):a=b:=by apply List.ext_getElem h1;intro k h3 h4;have:=h2 k h3;rw[v4,vB h3,v4,vB h4]at this;exact this
def Lb(ws:List Nat)(r:Nat):iI ws r ws.length=iI ws (r+1) 0:=by refine oJ (by simp[bK]) λk hk=>?_;rw[bK]at hk;rw[cW hk,cW hk];unfold lv;rw[if_pos hk,if_neg (by omega)]
theorem FU:∀{a b:List Nat},a.length=b.length->(∀k,k<a.length->a.getD k 0<=b.getD k 0)->a.sum<=b.sum
 | [],[],_,_=>zq _
 | [],_::_,h,_=>by simp at h
 |_::_,[],h,_=>by simp at h
 |x::a,y::b,h,H=>by
  have h0:=H 0 (by simp);have ih:=FU (a:=a) (b:=b) (by simpa using h) λk hk=>by have:=H (k+1) (by simp;omega);simpa using this
  simp at h0⊢;omega
theorem FP:∀{a b:List Nat},a.length=b.length->(∀k,k<a.length->a.getD k 0<=b.getD k 0)->b.sum<=a.sum->a=b
 | [],[],_,_,_=>rfl
 | [],_::_,h,_,_=>by simp at h
 |_::_,[],h,_,_=>by simp at h
 |x::a,y::b,h,H,hs=>by
  have h0:=H 0 (by simp);have H':∀k,k<a.length->a.getD k 0<=b.getD k 0:=λk hk=>by have:=H (k+1) (by simp;omega);simpa using this
  have hl:a.length=b.length:=by simpa using h
  have h1:=FU hl H';simp at h0 hs;have ih:=FP hl H' (by omega);subst ih
  congr 1;omega
noncomputable def nH:List Nat->Nat->List Nat->Nat->List Nat×Nat
 | [],_,gs,l=>(gs,l)
 |w::ws,k,gs,l=>if 0<l/\gs.getD k 0<w then nH ws (k+1) (gs.set k (gs.getD k 0+1)) (l - 1)else nH ws (k+1) gs l
theorem Gk:∀(ws:List Nat)(k:Nat)(gs:List Nat),nH ws k gs 0=(gs,0)
 | [],_,_=>rfl
 |w::ws,k,gs=>by rw[nH,if_neg (by omega),Gk ws]
theorem Ao:∀(gs:List Nat)(k:Nat),k<gs.length->(gs.set k (gs.getD k 0+1)).sum=gs.sum+1
 | [],k,h=>by simp at h
 |g::gs,0,_=>by simp;omega
 |g::gs,k+1,h=>by have:=Ao gs k (by simpa using h);simp only[List.getD_cons_succ,List.set_cons_succ,j9];omega
def D0{r:Nat}(hk:k<ws.length)(h:r<ws.getD k 0):(iI ws r k).set k ((iI ws r k).getD k 0+1)=iI ws r (k+1):=by
 refine oJ (by simp[bK]) λi hi=>?_;rw[iO,bK]at hi;rw[cW hi,v4,kT,bK];by_cases e:k=i;·subst e;rw[if_pos rfl,if_pos hk,cW hk];unfold lv;rw[if_neg (by omega),if_pos (by omega)];show min _ _+1=_;omega
 ·rw[if_neg e,yD hi];show lv _ _ _ _=_;unfold lv;by_cases c:i<k;·rw[if_pos c,if_pos (by omega)]
  ·rw[if_neg c,if_neg (by omega)]
def Dh{r:Nat}(hk:k<ws.length)(h:ws.getD k 0<=r):iI ws r k=iI ws r (k+1):=by
 refine oJ (by simp[bK]) λi hi=>?_;rw[bK]at hi;rw[cW hi,cW hi];unfold lv;by_cases e:i=k;·subst e;rw[if_neg (by omega),if_pos (by omega)];omega
 ·by_cases c:i<k;·rw[if_pos c,if_pos (by omega)]
  ·rw[if_neg c,if_neg (by omega)]
theorem tI(ws:List Nat)(r:Nat):∀(m k l:Nat),k+m=ws.length->∃p' l',p'<=ws.length/\nH (ws.drop k) k (iI ws r k) l=(iI ws r p',l')/\(iI ws r p').sum+l'=(iI ws r k).sum+l/\(0<l'->p'=ws.length)
 | 0,k,l,h=>⟨k,l,by omega,by rw[List.drop_of_length_le (by omega)];rfl,rfl,λ_=>by omega⟩
 |m+1,k,l,h=>by
  have hk:k<ws.length:=by omega
  have e:ws.drop k=ws.getD k 0::ws.drop (k+1):=by rw[mf hk,v4,vB hk];rfl
  have eg:(iI ws r k).getD k 0=min (ws.getD k 0) r:=by rw[cW hk];unfold lv;rw[if_neg (by omega)];rfl
  rw[e,nH];by_cases c:0<l/\(iI ws r k).getD k 0<ws.getD k 0
  ·rw[if_pos c];have hr:r<ws.getD k 0:=by omega
   have es:=D0 hk hr;have hs:=Ao (iI ws r k) k (by rw[bK];exact hk);rw[es]at hs⊢;obtain⟨p',l',h1,h2,h3,h4⟩:=tI ws r m (k+1) (l - 1) (by omega);exact⟨p',l',h1,h2,by omega,h4⟩
  ·rw[if_neg c];by_cases hl:l=0;·subst hl;exact⟨k,0,by omega,Gk _ _ _,rfl,λz=>by omega⟩
   ·have hw:ws.getD k 0<=r:=by omega
    rw[Dh hk hw];exact tI ws r m (k+1) l (by omega)
noncomputable def whL:Nat->List Nat->List Nat->Nat->List Nat
 | 0,_,gs,_=>gs
 |n+1,ws,gs,l=>if 0<l then whL n ws (nH ws 0 gs l).1 (nH ws 0 gs l).2 else gs
def DB{r:Nat}(h:(iI ws (r+1) 0).sum<=(iI ws r 0).sum):(iI ws r 0).sum=ws.sum:=by
 have e:=FP (a:=iI ws r 0) (b:=iI ws (r+1) 0) (by simp[bK]) (λk hk=>by
  rw[bK]at hk;rw[cW hk,cW hk];unfold lv;simp only[Nat.not_lt_zero,if_false];omega) h;have:iI ws r 0=ws:=by
  refine oJ (bK ..) λk hk=>?_;have e2:(iI ws r 0).getD k 0=(iI ws (r+1) 0).getD k 0:=vF (λl=>l.getD k 0) e;rw[bK]at hk;rw[cW hk,cW hk]at e2;rw[cW hk];unfold lv at e2⊢;simp only[Nat.not_lt_zero,uM]at e2⊢;omega
 rw[this]
noncomputable def shL(ws:List Nat)(room:Nat):List Nat:=whL 1000 ws (ws.map λ_=>0) (min room ws.sum)
def HJ(ws:List Nat):ws.map (λ_=>0)=iI ws 0 0:=by refine oJ (by simp[bK]) λk hk=>?_;rw[wU]at hk;rw[cW hk,v4,wZ,vB hk];unfold lv;simp
def NW(ws:List Nat):(iI ws 0 0).sum=0:=by
 rw[<- HJ];induction ws with
 |nil=>rfl
 |cons w ws ih=>simpa using ih
noncomputable def C9:D->Option (List D)
 |.lst _ ds=>some ds
 |.tup ds=>some ds
 |_=>none
def wN(h:C9 d=some ds):ko GU d=.ok (.bl true)/\iC [d]=some (.int (ds.length:Int))/\bH d=.ok ds/\BT d=.ok (numbered 0 ds):=by
 cases d <;> first|(cases h;done)|skip
 ·cases h;exact⟨rfl,rfl,rfl,rfl⟩
 ·cases h;exact⟨rfl,rfl,rfl,rfl⟩
def HX(h:C9 d=none)(he:zS d=true):ko GU d=.ok (.bl false):=by cases d <;> first|(cases h;done)|(cases he;done)|rfl
noncomputable def JJ(d:D):Bool:=match C9 d with
 |some ds=>ds.all λw=>inB w 0 99
 |none=>false
noncomputable def awF:List D->R D
 | [d]=>match C9 d with
  |some ds=>if ds.all zS=true/\ds.length<=1000 then .ok (.bl (JJ d))else .no
  |none=>if zS d=true then .ok (.bl false)else .no
 |_=>.no
def tU:∀ds:List D,ds.length=1->awF ds=.no\/aD (iy kn (aw 1 ds))=awF ds:=by
 intro ds hl
 match ds,hl with
 | [d],_=>
  cases h1:C9 d with
  |none=>
   by_cases h2:zS d=true
   ·refine Or.inr ?_;have e1:awF [d]=.ok (.bl false):=by simp only[awF,h1];exact if_pos h2
    have t1:=HX h1 h2;rw[e1];show aD (aF _ _ [some (.val d)])=_;clear hl h1 h2 e1
    walk_at "run"
   ·exact Or.inl (by simp only[awF,h1];exact if_neg h2)
  |some l=>
   by_cases h2:l.all zS=true/\l.length<=1000
   ·refine Or.inr ?_;have e1:awF [d]=.ok (.bl (l.all λw=>inB w 0 99)):=by simp only[awF,JJ,h1];exact if_pos h2
    obtain⟨t1,_,t3',_⟩:=wN h1;rw[e1];have lb:=gm;have e:kr (λ_=>R.ok true) (aG 3 kn (ac (rvz 0) (ac (ciz 0) (ac (ciz 99) nlz)))) l [none]=.ok (l.map λd=>.bl (inB d 0 99)):=by
     refine oE _ [] _ none λd hd=>⟨rfl,?_⟩
     have q:=yS (lo:=0) (hi:=99) (sO.1 h2.1 d hd);clear hl h1 h2 e1 t1 t3' hd
     walk_at "run"
    have al:=yh (λd=>inB d 0 99) false l;have z:(l.map λd=>D.bl (inB d 0 99)).length<=sizeLine:=by simp;omega
    have i1:mz [] [some (.val d)]=[none]:=rfl;show aD (aF _ _ [some (.val d)])=_;clear hl h1 h2 e1 lb
    walk_at "run"
   ·exact Or.inl (by simp only[awF,h1];exact if_neg h2)
noncomputable def iD(n:Nat):D:=.int (n:Int)
noncomputable def za:List D->Option (List Nat)
 | []=>some []
 |.int i::ds=>if 0<=i then (za ds).map (i.toNat::·)else none
 |_=>none
theorem yd:∀{ds:List D}{ws:List Nat},za ds=some ws->ds=ws.map iD
 | [],_,e=>by cases e;rfl
 |d::ds,ws,e=>by
  cases d <;> first|(cases e;done)|skip
  rename_i i;have e:(if 0<=i then (za ds).map (i.toNat::·)else none)=some ws:=e;by_cases h:0<=i
  ·rw[if_pos h]at e;cases h2:za ds with
   |none=>rw[h2]at e;cases e
   |some ws'=>rw[h2]at e;cases e;rw[yd h2,ub];show D.int i::_=D.int (i.toNat:Int)::_;rw[r0 h]
  ·rw[if_neg h]at e;cases e
theorem xz:∀ws:List Nat,qH (ws.map iD)=some (ws.map λ(w:Nat)=>(w:Int))
 | []=>rfl
 |w::ws=>by show(qH (ws.map iD)).map ((w:Int)::·)=_;rw[xz ws];rfl
theorem sI:∀ws:List Nat,(ws.map λ(w:Nat)=>(w:Int)).sum=((ws.sum:Nat):Int)
 | []=>rfl
 |w::ws=>by rw[ub,j9,sI ws,j9];omega
def Ir(h:C9 d=some (ws.map iD)):HK [d]=some (.int ((ws.sum:Nat):Int)):=by
 cases d <;> first|(cases h;done)|skip
 ·cases h;simp only[HK,xz,sI]
 ·cases h;simp only[HK,xz,sI]
def tP(c:Nat)(x:D)(xs:List D):numbered c (x::xs)=.tup [.int (c:Int),x]::numbered (c+1) xs:=by
 unfold numbered;rw[w8,List.range_succ_eq_map,ub,jb];refine vF (_::·) (eQ λi _=>?_);simp only[Function.comp,List.getD_cons_succ]
 congr 2
 congr 1
 congr 1
 omega
def zV(x0 x1:Option Sl)(gs:List Nat)(k l w:Nat)(hk:k<gs.length):kO [x0,x1,some (.own (gs.map iD)),some (.val (.int (l:Int))),some (.val (.int (k:Int))),some (.val (.int (w:Int)))]=if 0<l/\gs.getD k 0<w then .nx [x0,x1,some (.own ((gs.set k (gs.getD k 0+1)).map iD)),some (.val (.int ((l - 1:Nat):Int))),some (.val (.int (k:Int))),some (.val (.int (w:Int)))]else .nx [x0,x1,some (.own (gs.map iD)),some (.val (.int (l:Int))),some (.val (.int (k:Int))),some (.val (.int (w:Int)))]:=by
 have f2:∀(a0 a1 a3 a4 a5:Option Sl)(ds:List D),frz 2 [a0,a1,some (.own ds),a3,a4,a5]=[a0,a1,some (.val (.lst false ds)),a3,a4,a5]:=λ_ _ _ _ _ _=>rfl;have eg:(gs.map iD)[k]?=some (.int (gs.getD k 0:Nat)):=by rw[wZ,vB hk,v4,vB hk];rfl
 have x1':ixD (.lst false (gs.map iD)) (.int (k:Int))=some (.int (gs.getD k 0:Nat)):=Qo eg;have au:∀(a0 a1 a3 a5:Option Sl),sj 2 (λi j=>i+j) (rvz 4) (ciz 1) [a0,a1,some (.own (gs.map iD)),a3,some (.val (.int (k:Int))),a5]=.nx [a0,a1,some (.own ((gs.set k (gs.getD k 0+1)).map iD)),a3,some (.val (.int (k:Int))),a5]:=by
  intro a0 a1 a3 a5;show(if 0<=(k:Int)then (match (gs.map iD)[(k:Int).toNat]? with
   |some (.int a)=>O.nx [a0,a1,some (.own ((gs.map iD).set (k:Int).toNat (.int (a+1)))),a3,some (.val (.int (k:Int))),a5]
   |_=>.no)else .no)=_;rw[if_pos (by omega),uH,eg];show O.nx [a0,a1,some (.own ((gs.map iD).set k (.int (((gs.getD k 0:Nat):Int)+1)))),a3,some (.val (.int (k:Int))),a5]=_;have:(gs.set k (gs.getD k 0+1)).map iD=(gs.map iD).set k (.int (((gs.getD k 0:Nat):Int)+1)):=by rw[List.map_set];rfl
  rw[this]
 have ii:∀i j:Int,IM (λi j=>i - j) (.int i) (.int j)=some (.int (i - j)):=λ_ _=>rfl;unfold kO;by_cases h1:0<l
 ·have q1:decide ((l:Int) > 0)=true:=by simp;omega
  have k1:(l:Int) - 1=((l - 1:Nat):Int):=by omega
  by_cases h2:gs.getD k 0<w
  ·have q2:decide (((gs.getD k 0:Nat):Int)<(w:Int))=true:=by rw[pi];omega
   rw[if_pos ⟨h1,h2⟩];clear h1 h2 hk eg
   walk_at "run"
  ·have q2:decide (((gs.getD k 0:Nat):Int)<(w:Int))=false:=by rw[Z8];omega
   rw[if_neg (λz=>h2 z.2)];clear h1 h2 hk eg
   walk_at "run"
 ·have q1:decide ((l:Int) > 0)=false:=by simp;omega
  rw[if_neg (λz=>h1 z.1)];clear h1 hk eg
  walk_at "run"
theorem mh(x0 x1:Option Sl):∀(ws gs:List Nat)(k l:Nat)(x4 x5:Option Sl),k+ws.length<=gs.length->∃y4 y5,iH (CP [4,5]) kO (numbered k (ws.map iD)) [x0,x1,some (.own (gs.map iD)),some (.val (.int (l:Int))),x4,x5]
  = .nx [x0,x1,some (.own ((nH ws k gs l).1.map iD)),some (.val (.int ((nH ws k gs l).2:Nat))),y4,y5]
 | [],gs,k,l,x4,x5,_=>⟨x4,x5,rfl⟩
 |w::ws,gs,k,l,x4,x5,h=>by
  simp only[w8]at h;have hB:=zV x0 x1 gs k l w (by omega);rw[ub,tP];by_cases c:0<l/\gs.getD k 0<w;·rw[if_pos c]at hB;obtain⟨y4,y5,ih⟩:=mh x0 x1 ws (gs.set k (gs.getD k 0+1)) (k+1) (l - 1) (some (.val (.int (k:Int)))) (some (.val (.int (w:Int)))) (by rw[iO];omega);refine⟨y4,y5,?_⟩;rw[Ar (ρ1:=[x0,x1,some (.own (gs.map iD)),some (.val (.int (l:Int))),some (.val (.int (k:Int))),some (.val (.int (w:Int)))]) rfl hB,ih,nH,if_pos c]
  ·rw[if_neg c]at hB;obtain⟨y4,y5,ih⟩:=mh x0 x1 ws gs (k+1) l (some (.val (.int (k:Int)))) (some (.val (.int (w:Int)))) (by omega);refine⟨y4,y5,?_⟩;rw[Ar (ρ1:=[x0,x1,some (.own (gs.map iD)),some (.val (.int (l:Int))),some (.val (.int (k:Int))),some (.val (.int (w:Int)))]) rfl hB,ih,nH,if_neg c]
theorem oh{d:D}{ws:List Nat}(hd:C9 d=some (ws.map iD))(x1:Option Sl):∀(n r l:Nat)(x4 x5:Option Sl),l<n->(iI ws r 0).sum+l<=ws.sum->∃y4 y5,gX (gB2 gtD (rvz 3) (ciz 0)) fJ n [some (.val d),x1,some (.own ((iI ws r 0).map iD)),some (.val (.int (l:Int))),x4,x5]
  = .nx [some (.val d),x1,some (.own ((whL n ws (iI ws r 0) l).map iD)),some (.val (.int 0)),y4,y5]
 | 0,r,l,x4,x5,h,_=>by omega
 |n+1,r,l,x4,x5,h,hs=>by
  obtain⟨_,_,_,te⟩:=wN hd;by_cases hl:0<l
  ·obtain⟨p',l',h1,h2,h3,h4⟩:=tI ws r ws.length 0 l (by omega);rw[nE]at h2;obtain⟨z4,z5,hp⟩:=mh (some (.val d)) x1 ws (iI ws r 0) 0 l x4 x5 (by rw[bK];omega);have hb:fJ [some (.val d),x1,some (.own ((iI ws r 0).map iD)),some (.val (.int (l:Int))),x4,x5]=.nx [some (.val d),x1,some (.own ((iI ws r p').map iD)),some (.val (.int (l':Int))),z4,z5]:=by
    rw[h2]at hp;unfold fJ;clear h h1 h2 h3 h4 hs hl hd
    walk_at "run"
   have hc:gB2 gtD (rvz 3) (ciz 0) [some (.val d),x1,some (.own ((iI ws r 0).map iD)),some (.val (.int (l:Int))),x4,x5]=.ok true:=by
    have q1:decide ((l:Int) > 0)=true:=by simp;omega
    clear h h1 h2 h3 h4 hs hl hd hp hb te
    walk_at "run"
   rw[gX,hc];show ∃y4 y5,(match fJ [some (.val d),x1,some (.own ((iI ws r 0).map iD)),some (.val (.int (l:Int))),x4,x5]with
    |.nx ρ2=>gX (gB2 gtD (rvz 3) (ciz 0)) fJ n ρ2
    |.ct ρ2=>gX (gB2 gtD (rvz 3) (ciz 0)) fJ n ρ2
    |.bk ρ2=>.nx ρ2
    |.rt d=>.rt d
    |.re d ρ2=>.re d ρ2
    |.ex C ρ2=>.ex C ρ2
    |.no=>.no)=_;rw[hb,whL,if_pos hl,h2];show ∃y4 y5,gX _ fJ n _=_;by_cases hl':0<l'
   ·have hp':=h4 hl';subst hp';rw[Lb]at h3⊢;have hlt:l'<l:=by
     by_cases q:l'<l;·exact q
     ·have:=DB (ws:=ws) (r:=r) (by omega);omega
    exact oh hd x1 n (r+1) l' z4 z5 (by omega) (by omega)
   ·have:l'=0:=by omega
    subst this;cases n with
    |zero=>omega
    |succ n=>
     refine⟨z4,z5,?_⟩;have hc2:gB2 gtD (rvz 3) (ciz 0) [some (.val d),x1,some (.own ((iI ws r p').map iD)),some (.val (.int ((0:Nat):Int))),z4,z5]=.ok false:=by
      have q1:decide (((0:Nat):Int) > 0)=false:=by decide
      clear h h1 h2 h3 h4 hs hl hd hp hb te hc
      walk_at "run"
     rw[gX,hc2,whL,if_neg (by omega)];rfl
  ·have:l=0:=by omega
   subst this;refine⟨x4,x5,?_⟩;have hc2:gB2 gtD (rvz 3) (ciz 0) [some (.val d),x1,some (.own ((iI ws r 0).map iD)),some (.val (.int ((0:Nat):Int))),x4,x5]=.ok false:=by
    have q1:decide (((0:Nat):Int) > 0)=false:=by decide
    clear h hs hl hd te
    walk_at "run"
   rw[gX,hc2,whL,if_neg (by omega)];rfl
noncomputable def shF:List D->R D
 | [d,.int room]=>match C9 d with
  |some ds=>match za ds with
   |some ws=>if 0<=room/\room<=999/\ws.length<=1000 then .ok (.lst false ((shL ws room.toNat).map iD))else .no
   |none=>.no
  |none=>.no
 |_=>.no
def B3:∀ds:List D,ds.length=2->shF ds=.no\/aD (mC (aw 6 ds))=shF ds:=by
 intro ds hl
 match ds,hl with
 | [d,e],_=>
  cases e <;> first|exact Or.inl rfl|skip
  rename_i room hl;cases h1:C9 d with
  |none=>exact Or.inl (by simp only[shF,h1])
  |some l=>
   cases h2:za l with
   |none=>exact Or.inl (by simp only[shF,h1,h2])
   |some ws=>
    by_cases h3:0<=room/\room<=999/\ws.length<=1000
    ·refine Or.inr ?_;have e1:shF [d,.int room]=.ok (.lst false ((shL ws room.toNat).map iD)):=by simp only[shF,h1,h2];exact if_pos h3
     rw[e1];have hds:=yd h2;subst hds;obtain⟨room,rfl⟩:=i7 h3.1;rw[uH];obtain⟨t1,t2',t3',t4'⟩:=wN h1;have sm:=Ir h1;have lb:=gm;have mn:Jd [.int (room:Int),.int ((ws.sum:Nat):Int)]=some (.int ((min room ws.sum:Nat):Int)):=by
      have e9:(if ((ws.sum:Nat):Int)<(room:Int)then ((ws.sum:Nat):Int)else (room:Int))=((min room ws.sum:Nat):Int):=by split <;> omega
      rw[<- e9];rfl
     have z0:=NW ws;obtain⟨y4,y5,hw⟩:=oh h1 (some (.val (.int (room:Int)))) 1000 0 (min room ws.sum) none none (by omega) (by omega);have hw:vO [some (.val d),some (.val (.int (room:Int))),some (.own ((iI ws 0 0).map iD)),some (.val (.int ((min room ws.sum:Nat):Int))),none,none]=.nx [some (.val d),some (.val (.int (room:Int))),some (.own ((shL ws room).map iD)),some (.val (.int 0)),y4,y5]:=by unfold shL;rw[HJ];exact hw
     have e:kr (λ_=>R.ok true) (ciz 0) (ws.map iD) [none]=.ok ((iI ws 0 0).map iD):=by
      have:=oE (gt:=λ_=>R.ok true) (ge:=λ_=>R.ok (D.int 0)) (λ_=>.int 0) [] (ws.map iD) none λd _=>⟨rfl,rfl⟩
      rw[this,<- HJ,jb,jb];rfl
     have z:((iI ws 0 0).map iD).length<=sizeLine:=by rw[wU,bK];omega
     have i1:mz [] [some (.val d),some (.val (.int (room:Int))),none,none,none,none]=[none]:=rfl;have f2:∀(a0 a1 a3 a4 a5:Option Sl)(ds:List D),frz 2 [a0,a1,some (.own ds),a3,a4,a5]=[a0,a1,some (.val (.lst false ds)),a3,a4,a5]:=λ_ _ _ _ _ _=>rfl;show aD (aF _ _ [some (.val d),some (.val (.int room)),none,none,none,none])=_;unfold vv wm wa;clear hl h1 h2 h3 e1 lb z0
     walk_at "run"
    ·exact Or.inl (by simp only[shF,h1,h2];exact if_neg h3)
noncomputable def soF(C1 C3:Addr):List D->R D
 | [d,e]=>match awF [d]with
  |.ok (.bl true)=>(match kn [e,.int 0,.int 999]with
   |.ok (.bl true)=>shF [d,e]
   |.ok (.bl false)=>.ex C3
   |_=>.no)
  |.ok (.bl false)=>.ex C1
  |_=>.no
 |_=>.no
def tV:∀ds:List D,ds.length=2->soF C1 C3 ds=.no\/aD (iq awF kn shF C1 C3 (aw 2 ds))=soF C1 C3 ds:=by
 intro ds hl
 match ds,hl with
 | [d,e],_=>
  have tb:∀b:Bool,gU (.bl b)=.ok b:=λ_=>rfl;show _\/aD (aF _ _ [some (.val d),some (.val e)])=_;cases h1:awF [d]with
  |no=>exact Or.inl (by simp only[soF,h1])
  |ex C=>exact Or.inl (by simp only[soF,h1])
  |ok v=>
   cases v <;> first|(refine Or.inl ?_;simp only[soF,h1];done)|skip
   rename_i b;cases b with
   |false=>
    refine Or.inr ?_;have e1:soF C1 C3 [d,e]=.ex C1:=by simp only[soF,h1]
    rw[e1];clear hl e1
    walk_at "run"
    all_goals rfl
   |true=>
    cases h2:kn [e,.int 0,.int 999]with
    |no=>exact Or.inl (by simp only[soF,h1,h2])
    |ex C=>exact Or.inl (by simp only[soF,h1,h2])
    |ok v=>
     cases v <;> first|(refine Or.inl ?_;simp only[soF,h1,h2];done)|skip
     rename_i b;cases b with
     |false=>
      refine Or.inr ?_;have e1:soF C1 C3 [d,e]=.ex C3:=by simp only[soF,h1,h2]
      rw[e1];clear hl e1
      walk_at "run"
      all_goals rfl
     |true=>
      have e1:soF C1 C3 [d,e]=shF [d,e]:=by simp only[soF,h1,h2]
      rw[e1];cases h3:shF [d,e]with
      |no=>exact Or.inl rfl
      |ex C=>
       refine Or.inr ?_;clear hl e1
       walk_at "run"
       all_goals rfl
      |ok v=>
       refine Or.inr ?_;clear hl e1
       walk_at "run"
       all_goals rfl
noncomputable def Ox:List Nat->D->D->Option D
 | [],_,v=>some v
 |k::ks,.tup xs,v=>match xs[k]? with
  |some x=>if xs.length<=1000 then (Ox ks x v).map λy=>.tup (xs.take k++[y]++xs.drop (k+1))else none
  |none=>none
 |_,_,_=>none
noncomputable def Lz:List D->Option (List Nat)
 | []=>some []
 |.int i::ds=>if 0<=i then (Lz ds).map (i.toNat::·)else none
 |_::_=>none
noncomputable def pK(n:Nat):List D->R D
 | [d,.tup p,v]=>match Lz p with
  |some ks=>if ks.length<n/\n<=500 then ofO (Ox ks d v)else .no
  |none=>.no
 |_=>.no
noncomputable def pt:Nat->D->Bool
 | 0,_=>false
 |_+1,.int _=>true
 |_+1,.str x=>decide (x.length<=900)
 |n+1,.tup xs=>xs.all (pt n) && decide (xs.length<=900)
 |_+1,_=>false
noncomputable def O0:Nat->D->Bool
 | 0,_=>true
 |_+1,.exc _=>false
 |_+1,.dct _ _=>false
 |_+1,.str x=>decide (x.length<=1000)
 |n+1,.tup xs=>xs.all (O0 n)
 |n+1,.lst _ xs=>xs.all (O0 n)
 |_+1,_=>true
noncomputable def jn(ah ao:Addr)(af aA:Addr)(aH am aU:Addr)(rs:List Addr):Ev->O:=(zZ 1 (fS (ac (aB (nr (wx rs af)) (rvz 0)) (ac (aB (nr (wx rs ao)) (rvz 0)) (ac (aB (nr (wx rs ah)) (rvz 0)) nlz)))))
noncomputable def iU(ah ao:Addr)(af aA:Addr)(aH am aU:Addr)(rs:List Addr):Ev->O:=(Jb 1 (aP (fS (ac (aB (nr (wx rs aH)) (rvz 0)) (ac (aB (nr (wx rs aA)) (rvz 0)) nlz)))))
noncomputable def jr(ah ao:Addr)(af aA:Addr)(aH am aU:Addr)(rs:List Addr):Ev->O:=(Jb 1 (aP (fS (ac (aB (nr (wx rs aU)) (rvz 0)) (ac (aB (nr (wx rs am)) (rvz 0)) nlz)))))
noncomputable def jq(ah ao:Addr)(af aA:Addr)(aH am aU:Addr)(rs:List Addr):Ev->O:=(oIf (nM (gB2 neF (eS "list" mX (rvz 1) (ac (λ_=>R.ok (D.bl true)) nlz)) (ciz 1)) (gBn (aB gU (aB (nr (wA rs)) (rvz 0))))) (aF (ck (csz [119,114,111,110,103])) oNx) oNx)
noncomputable def ji(ah ao:Addr)(af aA:Addr)(aH am aU:Addr)(rs:List Addr):Ev->O:=(ck (g2 ixD (aP (fS (ac (csz [110,111,32,110,117,109,98,101,114]) (ac (csz [110,111,32,111,114,100,101,114]) (ac (csz [110,111,32,114,111,111,109]) (ac (csz [110,111,32,115,99,114,101,101,110]) (ac (csz [110,111,32,116,97,98,108,101]) (ac (csz [110,111,32,116,97,115,107]) (ac (csz [110,111,32,116,101,120,116]) nlz))))))))) (eS "list" mH (rvz 1) (ac (λ_=>R.ok (D.bl true)) nlz))))
noncomputable def hW(ah ao:Addr)(af aA:Addr)(aH am aU:Addr)(rs:List Addr):Ev->O:=(aF (jn ah ao af aA aH am aU rs) (aF (iU ah ao af aA aH am aU rs) (aF (jr ah ao af aA aH am aU rs) (zw 1 (aF (jq ah ao af aA aH am aU rs) (aF (ji ah ao af aA aH am aU rs) oNx))))))
noncomputable def MW:List Nat:=[110,111,32,110,117,109,98,101,114]
noncomputable def Qy:List Nat:=[110,111,32,114,111,111,109]
noncomputable def MU:List Nat:=[110,111,32,116,101,120,116]
noncomputable def zE(ah ao af aA aH am aU:Addr)(rs:List Addr):List D->R D:=λds=>aD (hW ah ao af aA aH am aU rs (aw 2 ds))
def xq(nd:[aH,ao,ah,af,aA,aU,am].Nodup):∀ds:List D,ds.length=1->zE ah ao af aA aH am aU rs ds=.no\/aD (hW ah ao af aA aH am aU rs (aw 2 ds))=zE ah ao af aA aH am aU rs ds:=λ_ _=>.inr rfl
def td(nd:[aH,ao,ah,af,aA,aU,am].Nodup)(h:af∈rs):zE ah ao af aA aH am aU rs [.exc af]=.ok (.str MW):=by
 simp only[t9,y9,xu,xv,not_or]at nd;obtain⟨⟨n01,n02,n03,n04,n05,n06⟩,⟨n12,n13,n14,n15,n16⟩,⟨n23,n24,n25,n26⟩,⟨n34,n35,n36⟩,⟨n45,n46⟩,n56,_⟩:=nd;have z3:3<=sizeLine:=by decide
 have z2:2<=sizeLine:=by decide
 have z5:3+2<=sizeLine:=by decide
 have z7:5+2<=sizeLine:=by decide
 have z8:7<=sizeLine:=by decide
 have f1:∀(a0:Option Sl)(ds:List D),frz 1 [a0,some (.own ds)]=[a0,some (.val (.lst false ds))]:=λ_ _=>rfl;have o1:∀(a0:Option Sl)(ds:List D),ownAt [a0,some (.own ds)] 1=.ok ds:=λ_ _=>rfl;have tb:∀b:Bool,gU (.bl b)=.ok b:=λ_=>rfl;have kd:∀(f:Bool)(l:List D),lr "list" (.lst f l)=true:=λ_ _=>rfl;have y:∀T,nr (wx rs T) (.exc af)=.ok (.bl (af==T)):=λT=>by simp only[nr,wx,h,xK];rfl
 have y2:nr (wA rs) (.exc af)=.ok (.bl true):=by simp only[nr,wA,h,xK];rfl
 have q0:(af==af)=true:=by simp
 have q1:(af==aH)=false:=by simp;exact λz=>n03 z.symm
 have q2:(af==ao)=false:=by simp;exact λz=>n13 z.symm
 have q3:(af==ah)=false:=by simp;exact λz=>n23 z.symm
 have q5:(af==aA)=false:=by simp;exact n34
 have q6:(af==aU)=false:=by simp;exact n35
 have q7:(af==am)=false:=by simp;exact n36
 have c1:mX (.lst false [.bl true,.bl false,.bl false,.bl false,.bl false,.bl false,.bl false]) [.bl true]=some (.int 1):=rfl;have c2:mH (.lst false [.bl true,.bl false,.bl false,.bl false,.bl false,.bl false,.bl false]) [.bl true]=some (.int 0):=rfl;show aD (aF _ _ [some (.val (.exc af)),none])=_;unfold jn iU jr jq ji;clear h n01 n02 n03 n04 n05 n06 n12 n13 n14 n15 n16 n23 n24 n25 n26 n34 n35 n36 n45 n46 n56
 walk_at "run"
 all_goals rfl
def wR(nd:[aH,ao,ah,af,aA,aU,am].Nodup)(h:ah∈rs):zE ah ao af aA aH am aU rs [.exc ah]=.ok (.str Qy):=by
 simp only[t9,y9,xu,xv,not_or]at nd;obtain⟨⟨n01,n02,n03,n04,n05,n06⟩,⟨n12,n13,n14,n15,n16⟩,⟨n23,n24,n25,n26⟩,⟨n34,n35,n36⟩,⟨n45,n46⟩,n56,_⟩:=nd;have z3:3<=sizeLine:=by decide
 have z2:2<=sizeLine:=by decide
 have z5:3+2<=sizeLine:=by decide
 have z7:5+2<=sizeLine:=by decide
 have z8:7<=sizeLine:=by decide
 have f1:∀(a0:Option Sl)(ds:List D),frz 1 [a0,some (.own ds)]=[a0,some (.val (.lst false ds))]:=λ_ _=>rfl;have o1:∀(a0:Option Sl)(ds:List D),ownAt [a0,some (.own ds)] 1=.ok ds:=λ_ _=>rfl;have tb:∀b:Bool,gU (.bl b)=.ok b:=λ_=>rfl;have kd:∀(f:Bool)(l:List D),lr "list" (.lst f l)=true:=λ_ _=>rfl;have y:∀T,nr (wx rs T) (.exc ah)=.ok (.bl (ah==T)):=λT=>by simp only[nr,wx,h,xK];rfl
 have y2:nr (wA rs) (.exc ah)=.ok (.bl true):=by simp only[nr,wA,h,xK];rfl
 have q0:(ah==ah)=true:=by simp
 have q1:(ah==aH)=false:=by simp;exact λz=>n02 z.symm
 have q2:(ah==ao)=false:=by simp;exact λz=>n12 z.symm
 have q4:(ah==af)=false:=by simp;exact n23
 have q5:(ah==aA)=false:=by simp;exact n24
 have q6:(ah==aU)=false:=by simp;exact n25
 have q7:(ah==am)=false:=by simp;exact n26
 have c1:mX (.lst false [.bl false,.bl false,.bl true,.bl false,.bl false,.bl false,.bl false]) [.bl true]=some (.int 1):=rfl;have c2:mH (.lst false [.bl false,.bl false,.bl true,.bl false,.bl false,.bl false,.bl false]) [.bl true]=some (.int 2):=rfl;show aD (aF _ _ [some (.val (.exc ah)),none])=_;unfold jn iU jr jq ji;clear h n01 n02 n03 n04 n05 n06 n12 n13 n14 n15 n16 n23 n24 n25 n26 n34 n35 n36 n45 n46 n56
 walk_at "run"
 all_goals rfl
def wH(nd:[aH,ao,ah,af,aA,aU,am].Nodup)(h:am∈rs):zE ah ao af aA aH am aU rs [.exc am]=.ok (.str MU):=by
 simp only[t9,y9,xu,xv,not_or]at nd;obtain⟨⟨n01,n02,n03,n04,n05,n06⟩,⟨n12,n13,n14,n15,n16⟩,⟨n23,n24,n25,n26⟩,⟨n34,n35,n36⟩,⟨n45,n46⟩,n56,_⟩:=nd;have z3:3<=sizeLine:=by decide
 have z2:2<=sizeLine:=by decide
 have z5:3+2<=sizeLine:=by decide
 have z7:5+2<=sizeLine:=by decide
 have z8:7<=sizeLine:=by decide
 have f1:∀(a0:Option Sl)(ds:List D),frz 1 [a0,some (.own ds)]=[a0,some (.val (.lst false ds))]:=λ_ _=>rfl;have o1:∀(a0:Option Sl)(ds:List D),ownAt [a0,some (.own ds)] 1=.ok ds:=λ_ _=>rfl;have tb:∀b:Bool,gU (.bl b)=.ok b:=λ_=>rfl;have kd:∀(f:Bool)(l:List D),lr "list" (.lst f l)=true:=λ_ _=>rfl;have y:∀T,nr (wx rs T) (.exc am)=.ok (.bl (am==T)):=λT=>by simp only[nr,wx,h,xK];rfl
 have y2:nr (wA rs) (.exc am)=.ok (.bl true):=by simp only[nr,wA,h,xK];rfl
 have q0:(am==am)=true:=by simp
 have q1:(am==aH)=false:=by simp;exact λz=>n06 z.symm
 have q2:(am==ao)=false:=by simp;exact λz=>n16 z.symm
 have q3:(am==ah)=false:=by simp;exact λz=>n26 z.symm
 have q4:(am==af)=false:=by simp;exact λz=>n36 z.symm
 have q5:(am==aA)=false:=by simp;exact λz=>n46 z.symm
 have q6:(am==aU)=false:=by simp;exact λz=>n56 z.symm
 have c1:mX (.lst false [.bl false,.bl false,.bl false,.bl false,.bl false,.bl false,.bl true]) [.bl true]=some (.int 1):=rfl;have c2:mH (.lst false [.bl false,.bl false,.bl false,.bl false,.bl false,.bl false,.bl true]) [.bl true]=some (.int 6):=rfl;show aD (aF _ _ [some (.val (.exc am)),none])=_;unfold jn iU jr jq ji;clear h n01 n02 n03 n04 n05 n06 n12 n13 n14 n15 n16 n23 n24 n25 n26 n34 n35 n36 n45 n46 n56
 walk_at "run"
 all_goals rfl
end Q
namespace Q50
open L2 Q
open PySem (sizeLine Addr)
noncomputable def vp(ba dz:List D->R D):Ev->O:=(ck (nS (aB (ko (·=="tuple")) (rvz 0)) (nS (g2 eqF (gOf iC (ac (rvz 0) nlz)) (ciz 2)) (nS (aG 1 ba (ac (g2 ixD (rvz 0) (ciz 0)) nlz)) (aG 1 dz (ac (g2 ixD (rvz 0) (ciz 1)) nlz))))))
noncomputable def jj(ba dz:List D->R D):Ev->O:=(aF (vp ba dz) oNx)
noncomputable def qr(dq:List D->R D):Ev->O:=(oIf (nM (gBn (aB gU (aB (ko (·=="tuple")) (rvz 0)))) (gBn (gB3 leD leD (ciz 1) (gOf iC (ac (rvz 0) nlz)) (ciz 6)))) (aF (ck (λ_=>R.ok (D.bl false))) oNx) oNx)
noncomputable def qy(dq:List D->R D):Ev->O:=(ck (gOf xW (ac (aP (dD (aB bH (rvz 0)) [] (λ_=>R.ok true) (aG 1 dq (ac (rvz 0) nlz)))) nlz)))
noncomputable def gR(dq:List D->R D):Ev->O:=(aF (qr dq) (aF (qy dq) oNx))
noncomputable def pH(ba:List D->R D):Ev->O:=(ck (nS (aB (ko (·=="tuple")) (rvz 0)) (nS (g2 eqF (gOf iC (ac (rvz 0) nlz)) (rvz 1)) (gOf xW (ac (aP (dD (aB bH (rvz 0)) [] (λ_=>R.ok true) (aG 1 ba (ac (rvz 0) nlz)))) nlz)))))
noncomputable def fT(ba:List D->R D):Ev->O:=(aF (pH ba) oNx)
noncomputable def wP(cy ce:List D->R D):Ev->O:=(oIf (nM (gBn (aB gU (aG 1 cy (ac (rvz 0) nlz)))) (nM (gBn (aB gU (aB (ko (·=="list")) (rvz 1)))) (gB2 gtD (gOf iC (ac (rvz 1) nlz)) (ciz 9)))) (aF (ck (λ_=>R.ok (D.bl false))) oNx) oNx)
noncomputable def xg(cy ce:List D->R D):Ev->O:=(ck (gOf xW (ac (aP (dD (aB bH (rvz 1)) [0] (λ_=>R.ok true) (aG 2 ce (ac (rvz 0) (ac (gOf iC (ac (rvz 1) nlz)) nlz))))) nlz)))
noncomputable def jz(cy ce:List D->R D):Ev->O:=(aF (wP cy ce) (aF (xg cy ce) oNx))
noncomputable def qp(bA:List D->R D)(aA:Addr):Ev->O:=(oIf (gBn (aB gU (aG 2 bA (ac (rvz 0) (ac (rvz 1) nlz))))) (aF (dA aA (ac (csz [116,104,105,115,32,105,115,32,110,111,32,116,97,98,108,101]) nlz)) oNx) oNx)
noncomputable def gG(bA:List D->R D)(aA:Addr):Ev->O:=(aF (qp bA aA) oNx)
noncomputable def qo:Ev->O:=(eJ 3 (g2 fg (aP (fS (ac (g2 ixD (g2 ixD (rvz 0) (rvz 2)) (ciz 0)) nlz))) (aP (dD (aB bH (rvz 1)) [2] (λ_=>R.ok true) (g2 ixD (rvz 0) (rvz 1))))))
noncomputable def qN:Ev->O:=(ck (gOf ME (ac (g2 fg (aP (fS (ac (ciz 1) nlz))) (aP (dD (aB bH (rvz 3)) [] (λ_=>R.ok true) (gOf iC (ac (rvz 0) nlz))))) nlz)))
noncomputable def gW:Ev->O:=(aF qo (aF qN oNx))
noncomputable def Cn(bt ad:List D->R D)(br ci:List D->R D)(ah:Addr):Ev->O:=(jJ (aG 2 bt (ac (rvz 0) (ac (rvz 1) nlz))))
noncomputable def BN(bt ad:List D->R D)(br ci:List D->R D)(ah:Addr):Ev->O:=(eJ 3 (gOf iC (ac (rvz 0) nlz)))
noncomputable def Bl(bt ad:List D->R D)(br ci:List D->R D)(ah:Addr):Ev->O:=(eJ 4 (g2 mx (rvz 3) (ciz 1)))
noncomputable def CI(bt ad:List D->R D)(br ci:List D->R D)(ah:Addr):Ev->O:=(oIf (gBn (aB gU (aG 3 ad (ac (rvz 2) (ac (g2 fg (rvz 3) (rvz 4)) (ac (ciz 40) nlz)))))) (aF (dA ah (ac (csz [97,32,116,97,98,108,101,32,100,111,101,115,32,110,111,116,32,103,111,32,105,110,116,111,32,116,104,105,115,32,114,111,111,109]) nlz)) oNx) oNx)
noncomputable def Ce(bt ad:List D->R D)(br ci:List D->R D)(ah:Addr):Ev->O:=(ck (aG 2 ci (ac (aP (dD (aB tR (ac (rvz 3) nlz)) [0,1] (λ_=>R.ok true) (aG 3 br (ac (rvz 1) (ac (rvz 2) (ac (rvz 0) nlz)))))) (ac (g2 mx (rvz 2) (rvz 4)) nlz))))
noncomputable def lU(bt ad:List D->R D)(br ci:List D->R D)(ah:Addr):Ev->O:=(aF (Cn bt ad br ci ah) (aF (BN bt ad br ci ah) (aF (Bl bt ad br ci ah) (aF (CI bt ad br ci ah) (aF (Ce bt ad br ci ah) oNx)))))
noncomputable def Bq(bO:List D->R D):Ev->O:=(ck (eS "str" yZ (csz [32]) (ac (aP (kh 3 (CP [0,1,2]) (aB EA (ac (rvz 0) (ac (rvz 1) (ac (rvz 2) nlz)))) [] (λ_=>R.ok true) (aG 3 bO (ac (rvz 2) (ac (rvz 1) (ac (g2 ixD (rvz 0) (ciz 1)) nlz)))))) nlz)))
noncomputable def lS(bO:List D->R D):Ev->O:=(aF (Bq bO) oNx)
noncomputable def DH(cj dG:List D->R D):Ev->O:=(eJ 3 (aG 3 cj (ac (rvz 0) (ac (rvz 1) (ac (rvz 2) nlz)))))
noncomputable def EK(cj dG:List D->R D):Ev->O:=(zZ 4 (dD (aB bH (rvz 0)) [] (λ_=>R.ok true) (g2 ixD (rvz 0) (ciz 0))))
noncomputable def Dg(cj dG:List D->R D):Ev->O:=(eJ 5 (eS "str" yZ (csz [32]) (ac (aP (dD (aB bH (rvz 3)) [] (λ_=>R.ok true) (g2 eM (csz [45]) (rvz 0)))) nlz)))
noncomputable def Em(cj dG:List D->R D):Ev->O:=(ck (g2 fg (aP (fS (ac (aG 3 dG (ac (rvz 0) (ac (rvz 3) (ac (rvz 4) nlz)))) (ac (rvz 5) nlz)))) (aP (dD (aB bH (rvz 1)) [0,3] (λ_=>R.ok true) (aG 3 dG (ac (rvz 1) (ac (rvz 2) (ac (rvz 0) nlz))))))))
noncomputable def om(cj dG:List D->R D):Ev->O:=(aF (DH cj dG) (aF (EK cj dG) (aF (Dg cj dG) (zw 4 (aF (Em cj dG) oNx)))))
noncomputable def icF:List D->R D:=λds=>aD (jj nB sdF (aw 1 ds))
noncomputable def acF:List D->R D:=λds=>aD (gR icF (aw 1 ds))
noncomputable def OB:List D->R D:=λds=>aD (fT nB (aw 2 ds))
noncomputable def Fy:List D->R D:=λds=>aD (jz acF OB (aw 2 ds))
noncomputable def OE(C6:Addr):List D->R D:=λds=>aD (gG Fy C6 (aw 2 ds))
noncomputable def OF:List D->R D:=λds=>aD (gW (aw 4 ds))
noncomputable def wdF(C6 C3:Addr):List D->R D:=λds=>aD (lU (OE C6) kn OF shF C3 (aw 5 ds))
noncomputable def OS(C7 C3 C1:Addr):List D->R D:=λds=>aD (lS (ftF C7 C3 C1) (aw 3 ds))
noncomputable def tbF(C6 C7 C3 C1:Addr):List D->R D:=λds=>aD (om (wdF C6 C3) (OS C7 C3 C1) (aw 6 ds))
noncomputable abbrev Col:=List Nat×Nat
structure GT(cs:List Col)(rs:List (List (List Nat))):Prop where
 one:1<=cs.length
 six:cs.length<=6
 col:∀c∈cs,plain c.1=true/\c.1.length<=50/\(c.2=60\/c.2=62\/c.2=94)
 nine:rs.length<=9
 row:∀r∈rs,r.length=cs.length/\∀x∈r,plain x=true/\x.length<=50
section
variable{cs:List Col}{rs:List (List (List Nat))}{C6:Addr}
structure Sz(cs:List Col)(ws:List Nat):Prop where
 len:ws.length=cs.length
 pos:∀w∈ws,1<=w
 sum:ws.sum<=40
end
end Q50
namespace Q90
open L2 Q Q50
open PySem (sizeLine Addr)
noncomputable def iE(ad:List D->R D)(af:Addr):Ev->O:=(oIf (gBn (aB gU (aG 3 ad (ac (rvz 0) (ac (ciz 1) (ac (ciz 1000000000) nlz)))))) (aF (dA af (ac (csz [97,32,116,111,116,97,108,32,105,115,32,97,32,119,104,111,108,101,32,110,117,109,98,101,114,32,102,114,111,109,32,49,32,116,111,32,49,48,48,48,48,48,48,48,48,48]) nlz)) oNx) oNx)
noncomputable def gE(ad:List D->R D)(af:Addr):Ev->O:=(aF (iE ad af) oNx)
noncomputable def gq(ak ad:List D->R D)(af:Addr):Ev->O:=(jJ (aG 1 ak (ac (rvz 1) nlz)))
noncomputable def gw(ak ad:List D->R D)(af:Addr):Ev->O:=(oIf (gBn (aB gU (aG 3 ad (ac (rvz 0) (ac (ciz 0) (ac (rvz 1) nlz)))))) (aF (dA af (ac (csz [119,104,97,116,32,105,115,32,100,111,110,101,32,105,115,32,97,32,119,104,111,108,101,32,110,117,109,98,101,114,32,102,114,111,109,32,48,32,116,111,32,116,104,101,32,116,111,116,97,108]) nlz)) oNx) oNx)
noncomputable def iB(ak ad:List D->R D)(af:Addr):Ev->O:=(aF (gq ak ad af) (aF (gw ak ad af) oNx))
noncomputable def oG:Ev->O:=(ck (g2 fg (g2 fg (g2 fg (csz [91]) (g2 eM (csz [35]) (rvz 0))) (g2 eM (csz [46]) (g2 mx (rvz 1) (rvz 0)))) (csz [93])))
noncomputable def jK:Ev->O:=(aF oG oNx)
noncomputable def AR(aI ad bq:List D->R D)(ah:Addr):Ev->O:=(jJ (aG 2 aI (ac (rvz 0) (ac (rvz 1) nlz))))
noncomputable def Aj(aI ad bq:List D->R D)(ah:Addr):Ev->O:=(oIf (gBn (aB gU (aG 3 ad (ac (rvz 2) (ac (ciz 3) (ac (ciz 40) nlz)))))) (aF (dA ah (ac (csz [97,32,98,97,114,32,105,115,32,102,114,111,109,32,51,32,116,111,32,52,48,32,115,105,103,110,115,32,119,105,100,101]) nlz)) oNx) oNx)
noncomputable def A3(aI ad bq:List D->R D)(ah:Addr):Ev->O:=(eJ 3 (g2 mx (rvz 2) (ciz 2)))
noncomputable def BE(aI ad bq:List D->R D)(ah:Addr):Ev->O:=(ck (aG 2 bq (ac (g2 me (g2 eM (rvz 0) (rvz 3)) (rvz 1)) (ac (rvz 3) nlz))))
noncomputable def wQ(aI ad bq:List D->R D)(ah:Addr):Ev->O:=(aF (AR aI ad bq ah) (aF (Aj aI ad bq ah) (aF (A3 aI ad bq ah) (aF (BE aI ad bq ah) oNx))))
noncomputable def vI(ad:List D->R D):Ev->O:=(oIf (nM (gBn (aB gU (aB (ko (·=="tuple")) (rvz 0)))) (gB2 neF (gOf iC (ac (rvz 0) nlz)) (ciz 2))) (aF (ck (λ_=>R.ok (D.bl false))) oNx) oNx)
noncomputable def uB(ad:List D->R D):Ev->O:=(ck (nS (aG 3 ad (ac (g2 ixD (rvz 0) (ciz 0)) (ac (ciz 0) (ac (ciz 1000000000) nlz)))) (aG 3 ad (ac (g2 ixD (rvz 0) (ciz 1)) (ac (ciz 0) (ac (rvz 1) nlz))))))
noncomputable def jm(ad:List D->R D):Ev->O:=(aF (vI ad) (aF (uB ad) oNx))
noncomputable def qg(dl:List D->R D):Ev->O:=(oIf (nM (gBn (aB gU (aB (ko (·=="list")) (rvz 0)))) (gBn (aB gU (gOf xW (ac (aP (dD (aB bH (rvz 0)) [1] (λ_=>R.ok true) (aG 2 dl (ac (rvz 0) (ac (rvz 1) nlz))))) nlz))))) (aF (ck (λ_=>R.ok (D.bl false))) oNx) oNx)
noncomputable def qk(dl:List D->R D):Ev->O:=(ck (gOf xW (ac (aP (kh 2 (CP [0,1]) (aB Jf (ac (rvz 0) (ac (gSl (rvz 0) (sd (ciz 1)) (λ_=>R.ok none)) nlz))) [] (λ_=>R.ok true) (nS (g2 ltD (g2 ixD (rvz 0) (ciz 0)) (g2 ixD (rvz 1) (ciz 0))) (g2 leD (g2 ixD (rvz 0) (ciz 1)) (g2 ixD (rvz 1) (ciz 1)))))) nlz)))
noncomputable def gN(dl:List D->R D):Ev->O:=(aF (qg dl) (aF (qk dl) oNx))
noncomputable def sw:Ev->O:=(ck (g2 me (g2 mx (g2 fg (rvz 0) (rvz 1)) (ciz 1)) (rvz 1)))
noncomputable def iz:Ev->O:=(aF sw oNx)
noncomputable def vk(ak ad:List D->R D)(aS ay:List D->R D)(af:Addr):Ev->O:=(jJ (aG 1 ak (ac (rvz 1) nlz)))
noncomputable def uo(ak ad:List D->R D)(aS ay:List D->R D)(af:Addr):Ev->O:=(oIf (gBn (aB gU (aG 3 ad (ac (rvz 2) (ac (ciz 2) (ac (ciz 99) nlz)))))) (aF (dA af (ac (csz [102,114,111,109,32,50,32,116,111,32,57,57,32,115,97,109,112,108,101,115,32,97,114,101,32,108,111,111,107,101,100,32,97,116]) nlz)) oNx) oNx)
noncomputable def vt(ak ad:List D->R D)(aS ay:List D->R D)(af:Addr):Ev->O:=(oIf (gBn (aB gU (aG 2 aS (ac (rvz 0) (ac (rvz 1) nlz))))) (aF (dA af (ac (csz [116,104,101,115,101,32,97,114,101,32,110,111,32,115,97,109,112,108,101,115]) nlz)) oNx) oNx)
noncomputable def vT(ak ad:List D->R D)(aS ay:List D->R D)(af:Addr):Ev->O:=(oIf (gB2 eqF (gOf iC (ac (rvz 0) nlz)) (ciz 0)) (aF (ck (λ_=>R.ok D.non)) oNx) oNx)
noncomputable def vL(ak ad:List D->R D)(aS ay:List D->R D)(af:Addr):Ev->O:=(eJ 3 (g2 ixD (gSl (rvz 0) (sd (aB E6 (rvz 2))) (λ_=>R.ok none)) (ciz 0)))
noncomputable def uz(ak ad:List D->R D)(aS ay:List D->R D)(af:Addr):Ev->O:=(eJ 4 (g2 ixD (rvz 0) (aB E6 (ciz 1))))
noncomputable def wr(ak ad:List D->R D)(aS ay:List D->R D)(af:Addr):Ev->O:=(oIf (gB2 eqF (g2 ixD (rvz 4) (ciz 1)) (rvz 1)) (aF (ck (ciz 0)) oNx) oNx)
noncomputable def vj(ak ad:List D->R D)(aS ay:List D->R D)(af:Addr):Ev->O:=(oIf (gB2 eqF (g2 ixD (rvz 4) (ciz 1)) (g2 ixD (rvz 3) (ciz 1))) (aF (ck (λ_=>R.ok D.non)) oNx) oNx)
noncomputable def ut(ak ad:List D->R D)(aS ay:List D->R D)(af:Addr):Ev->O:=(ck (aG 2 ay (ac (g2 eM (g2 mx (rvz 1) (g2 ixD (rvz 4) (ciz 1))) (g2 mx (g2 ixD (rvz 4) (ciz 0)) (g2 ixD (rvz 3) (ciz 0)))) (ac (g2 mx (g2 ixD (rvz 4) (ciz 1)) (g2 ixD (rvz 3) (ciz 1))) nlz))))
noncomputable def jc(ak ad:List D->R D)(aS ay:List D->R D)(af:Addr):Ev->O:=(aF (vk ak ad aS ay af) (aF (uo ak ad aS ay af) (aF (vt ak ad aS ay af) (aF (vT ak ad aS ay af) (aF (vL ak ad aS ay af) (aF (uz ak ad aS ay af) (aF (wr ak ad aS ay af) (aF (vj ak ad aS ay af) (aF (ut ak ad aS ay af) oNx)))))))))
noncomputable def Cj(bq:List D->R D):Ev->O:=(oIf (nM (gBn (aB gU (aB (ko (·=="str")) (rvz 0)))) (gBn (gB3 leD leD (ciz 3) (gOf iC (ac (rvz 0) nlz)) (ciz 40)))) (aF (ck (λ_=>R.ok (D.bl false))) oNx) oNx)
noncomputable def Cp(bq:List D->R D):Ev->O:=(ck (g2 eqF (rvz 0) (aG 2 bq (ac (eS "str" pP (rvz 0) (ac (csz [35]) nlz)) (ac (g2 mx (gOf iC (ac (rvz 0) nlz)) (ciz 2)) nlz)))))
noncomputable def my(bq:List D->R D):Ev->O:=(aF (Cj bq) (aF (Cp bq) oNx))
noncomputable def uL(bZ ak ay:List D->R D)(am:Addr):Ev->O:=(oIf (gBn (aB gU (aG 1 bZ (ac (rvz 0) nlz)))) (aF (dA am (ac (csz [116,104,105,115,32,105,115,32,110,111,32,98,97,114]) nlz)) oNx) oNx)
noncomputable def uI(bZ ak ay:List D->R D)(am:Addr):Ev->O:=(jJ (aG 1 ak (ac (rvz 1) nlz)))
noncomputable def vm(bZ ak ay:List D->R D)(am:Addr):Ev->O:=(eJ 2 (g2 mx (gOf iC (ac (rvz 0) nlz)) (ciz 2)))
noncomputable def vf(bZ ak ay:List D->R D)(am:Addr):Ev->O:=(eJ 3 (eS "str" pP (rvz 0) (ac (csz [35]) nlz)))
noncomputable def uT(bZ ak ay:List D->R D)(am:Addr):Ev->O:=(eJ 4 (aG 2 ay (ac (g2 eM (rvz 3) (rvz 1)) (ac (rvz 2) nlz))))
noncomputable def wc(bZ ak ay:List D->R D)(am:Addr):Ev->O:=(eJ 5 (gOf Jd (ac (rvz 1) (ac (g2 mx (aG 2 ay (ac (g2 eM (g2 fg (rvz 3) (ciz 1)) (rvz 1)) (ac (rvz 2) nlz))) (ciz 1)) nlz))))
noncomputable def uA(bZ ak ay:List D->R D)(am:Addr):Ev->O:=(oIf (gB2 gtD (rvz 4) (rvz 5)) (aF (dA am (ac (csz [110,111,32,99,111,117,110,116,32,111,102,32,116,104,105,115,32,116,111,116,97,108,32,104,97,115,32,116,104,105,115,32,98,97,114]) nlz)) oNx) oNx)
noncomputable def um(bZ ak ay:List D->R D)(am:Addr):Ev->O:=(ck (aB mkT (ac (rvz 4) (ac (rvz 5) nlz))))
noncomputable def jf(bZ ak ay:List D->R D)(am:Addr):Ev->O:=(aF (uL bZ ak ay am) (aF (uI bZ ak ay am) (aF (vm bZ ak ay am) (aF (vf bZ ak ay am) (aF (uT bZ ak ay am) (aF (wc bZ ak ay am) (aF (uA bZ ak ay am) (aF (um bZ ak ay am) oNx))))))))
noncomputable def rn(aI:List D->R D):Ev->O:=(jJ (aG 2 aI (ac (rvz 0) (ac (rvz 1) nlz))))
noncomputable def qW(aI:List D->R D):Ev->O:=(ck (eS "str" nc (gOf lh (ac (g2 me (g2 eM (rvz 0) (ciz 100)) (rvz 1)) nlz)) (ac (ciz 3) nlz)))
noncomputable def kF(aI:List D->R D):Ev->O:=(aF (rn aI) (aF (qW aI) oNx))
noncomputable def mw(aI:List D->R D):Ev->O:=(jJ (aG 2 aI (ac (rvz 0) (ac (rvz 1) nlz))))
noncomputable def mv(aI:List D->R D):Ev->O:=(ck (eS "str" nc (uw [(aB wy (rvz 0)),(csz [47]),(aB wy (rvz 1))]) (ac (gOf iC (ac (uw [(aB wy (rvz 1)),(csz [47]),(aB wy (rvz 1))]) nlz)) nlz)))
noncomputable def kA(aI:List D->R D):Ev->O:=(aF (mw aI) (aF (mv aI) oNx))
noncomputable def Dp(ad:List D->R D)(ah:Addr):Ev->O:=(oIf (nM (gBn (aB gU (aG 3 ad (ac (rvz 0) (ac (ciz 1) (ac (ciz 40) nlz)))))) (gBn (aB gU (aG 3 ad (ac (rvz 1) (ac (ciz 1) (ac (ciz 12) nlz))))))) (aF (dA ah (ac (csz [110,111,32,115,99,114,101,101,110,32,104,97,115,32,116,104,105,115,32,115,105,122,101]) nlz)) oNx) oNx)
noncomputable def D6(ad:List D->R D)(ah:Addr):Ev->O:=(ck (aB mkT (ac (rvz 0) (ac (g2 eM (aB mkT (ac (g2 eM (csz [32]) (rvz 0)) nlz)) (rvz 1)) (ac (aB mkT (ac (ciz 0) (ac (ciz 0) nlz))) nlz)))))
noncomputable def pI(ad:List D->R D)(ah:Addr):Ev->O:=(aF (Dp ad ah) (aF (D6 ad ah) oNx))
noncomputable def qt:Ev->O:=(ck (eS "str" ym (gOf lh (ac (rvz 0) nlz)) (ac (ciz 2) nlz)))
noncomputable def gT:Ev->O:=(aF qt oNx)
noncomputable def Eu(ad aY:List D->R D)(af:Addr):Ev->O:=(oIf (gBn (aB gU (aG 3 ad (ac (rvz 0) (ac (ciz 0) (ac (ciz 1000000000) nlz)))))) (aF (dA af (ac (csz [97,32,99,108,111,99,107,32,104,97,115,32,102,114,111,109,32,48,32,116,111,32,49,48,48,48,48,48,48,48,48,48,32,115,101,99,111,110,100,115]) nlz)) oNx) oNx)
noncomputable def EB(ad aY:List D->R D)(af:Addr):Ev->O:=(eJ 1 (aG 1 aY (ac (g2 zt (rvz 0) (ciz 60)) nlz)))
noncomputable def Dw(ad aY:List D->R D)(af:Addr):Ev->O:=(oIf (gB2 ltD (rvz 0) (ciz 3600)) (aF (eJ 2 (g2 me (rvz 0) (ciz 60))) (aF (ck (uw [(aB wy (rvz 2)),(csz [58]),(aB wy (rvz 1))])) oNx)) oNx)
noncomputable def Eh(ad aY:List D->R D)(af:Addr):Ev->O:=(eJ 3 (g2 me (rvz 0) (ciz 3600)))
noncomputable def D9(ad aY:List D->R D)(af:Addr):Ev->O:=(eJ 4 (aG 1 aY (ac (g2 me (g2 zt (rvz 0) (ciz 3600)) (ciz 60)) nlz)))
noncomputable def DQ(ad aY:List D->R D)(af:Addr):Ev->O:=(ck (uw [(aB wy (rvz 3)),(csz [58]),(aB wy (rvz 4)),(csz [58]),(aB wy (rvz 1))]))
noncomputable def oI(ad aY:List D->R D)(af:Addr):Ev->O:=(aF (Eu ad aY af) (aF (EB ad aY af) (aF (Dw ad aY af) (aF (Eh ad aY af) (aF (D9 ad aY af) (aF (DQ ad aY af) oNx))))))
noncomputable def qI:Ev->O:=(ck (nS (g2 neF (rvz 0) (csz [])) (gOf xW (ac (aP (dD (aB bH (rvz 0)) [] (λ_=>R.ok true) (g2 MG (rvz 0) (csz [48,49,50,51,52,53,54,55,56,57])))) nlz))))
noncomputable def gS:Ev->O:=(aF qI oNx)
noncomputable def kX(aK:List D->R D):Ev->O:=(oIf (nM (gBn (aB gU (aB (ko (·=="str")) (rvz 0)))) (gB2 gtD (gOf iC (ac (rvz 0) nlz)) (ciz 12))) (aF (ck (λ_=>R.ok D.non)) oNx) oNx)
noncomputable def lq(aK:List D->R D):Ev->O:=(eJ 1 (eS "str" rD (rvz 0) (ac (csz [58]) nlz)))
noncomputable def lm(aK:List D->R D):Ev->O:=(oIf (gBn (aB gU (gOf xW (ac (aP (dD (aB bH (rvz 1)) [] (λ_=>R.ok true) (aG 1 aK (ac (rvz 0) nlz)))) nlz)))) (aF (ck (λ_=>R.ok D.non)) oNx) oNx)
noncomputable def lu(aK:List D->R D):Ev->O:=(eJ 2 (ciz 0))
noncomputable def lB(aK:List D->R D):Ev->O:=(aF (eJ 2 (g2 fg (g2 eM (rvz 2) (ciz 60)) (gOf zi (ac (rvz 3) nlz)))) oNx)
noncomputable def lI(aK:List D->R D):Ev->O:=(Az (wb 3) (aB bH (rvz 1)) (lB aK))
noncomputable def kS(aK:List D->R D):Ev->O:=(ck (rvz 2))
noncomputable def eD(aK:List D->R D):Ev->O:=(aF (kX aK) (aF (lq aK) (aF (lm aK) (aF (lu aK) (aF (lI aK) (aF (kS aK) oNx))))))
noncomputable def sR(bj ad dF:List D->R D)(am:Addr):Ev->O:=(eJ 1 (aG 1 bj (ac (rvz 0) nlz)))
noncomputable def sP(bj ad dF:List D->R D)(am:Addr):Ev->O:=(oIf (nM (gBn (aB gU (aG 3 ad (ac (rvz 1) (ac (ciz 0) (ac (ciz 1000000000) nlz)))))) (gB2 neF (aG 1 dF (ac (rvz 1) nlz)) (rvz 0))) (aF (dA am (ac (csz [110,111,32,99,108,111,99,107,32,114,101,97,100,115,32,115,111]) nlz)) oNx) oNx)
noncomputable def tZ(bj ad dF:List D->R D)(am:Addr):Ev->O:=(ck (rvz 1))
noncomputable def ir(bj ad dF:List D->R D)(am:Addr):Ev->O:=(aF (sR bj ad dF am) (aF (sP bj ad dF am) (aF (tZ bj ad dF am) oNx)))
noncomputable def AH(ba:List D->R D):Ev->O:=(ck (nS (g2 eqF (gOf iC (ac (rvz 0) nlz)) (ciz 2)) (nS (g2 eqF (g2 ixD (rvz 0) (ciz 0)) (csz [115,97,121])) (nS (aG 1 ba (ac (g2 ixD (rvz 0) (ciz 1)) nlz)) (g3 leD leD (ciz 1) (gOf iC (ac (g2 ixD (rvz 0) (ciz 1)) nlz)) (ciz 40))))))
noncomputable def lY(ba:List D->R D):Ev->O:=(aF (AH ba) oNx)
noncomputable def DG(ad:List D->R D):Ev->O:=(oIf (nM (gB2 neF (gOf iC (ac (rvz 0) nlz)) (ciz 3)) (gB2 neF (g2 ixD (rvz 0) (ciz 0)) (csz [103,111]))) (aF (ck (λ_=>R.ok (D.bl false))) oNx) oNx)
noncomputable def Et(ad:List D->R D):Ev->O:=(ck (nS (aG 3 ad (ac (g2 ixD (rvz 0) (ciz 1)) (ac (ciz 0) (ac (g2 mx (ciz 12) (ciz 1)) nlz)))) (aG 3 ad (ac (g2 ixD (rvz 0) (ciz 2)) (ac (ciz 0) (ac (ciz 40) nlz))))))
noncomputable def pd(ad:List D->R D):Ev->O:=(aF (DG ad) (aF (Et ad) oNx))
noncomputable def xI(gj je:List D->R D):Ev->O:=(oIf (gBn (aB gU (aB (ko (·=="tuple")) (rvz 0)))) (aF (ck (λ_=>R.ok (D.bl false))) oNx) oNx)
noncomputable def wF(gj je:List D->R D):Ev->O:=(ck (gOr (aG 1 gj (ac (rvz 0) nlz)) (gOr (aG 1 je (ac (rvz 0) nlz)) (g2 eqF (rvz 0) (aB mkT (ac (csz [119,105,112,101]) nlz))))))
noncomputable def jP(gj je:List D->R D):Ev->O:=(aF (xI gj je) (aF (wF gj je) oNx))
noncomputable def pV(bG:List D->R D)(ao:Addr):Ev->O:=(oIf (gBn (aB gU (aG 1 bG (ac (rvz 0) nlz)))) (aF (dA ao (ac (csz [116,104,105,115,32,105,115,32,110,111,32,111,114,100,101,114]) nlz)) oNx) oNx)
noncomputable def gI(bG:List D->R D)(ao:Addr):Ev->O:=(aF (pV bG ao) oNx)
noncomputable def vW:Ev->O:=(ck (uw [(aB wy (rvz 0)),(csz [32]),(aB wy (rvz 1))]))
noncomputable def jg:Ev->O:=(aF vW oNx)
noncomputable def rW(aM bW:List D->R D):Ev->O:=(jJ (aG 1 aM (ac (rvz 0) nlz)))
noncomputable def tM(aM bW:List D->R D):Ev->O:=(oIf (gB2 eqF (g2 ixD (rvz 0) (ciz 0)) (csz [115,97,121])) (aF (ck (g2 fg (csz [115,97,121,32]) (g2 ixD (rvz 0) (ciz 1)))) oNx) oNx)
noncomputable def rT(aM bW:List D->R D):Ev->O:=(oIf (gB2 eqF (g2 ixD (rvz 0) (ciz 0)) (csz [103,111])) (aF (ck (g2 fg (csz [103,111,32]) (aG 2 bW (ac (g2 ixD (rvz 0) (ciz 1)) (ac (g2 ixD (rvz 0) (ciz 2)) nlz))))) oNx) oNx)
noncomputable def uh(aM bW:List D->R D):Ev->O:=(ck (csz [119,105,112,101]))
noncomputable def ip(aM bW:List D->R D):Ev->O:=(aF (rW aM bW) (aF (tM aM bW) (aF (rT aM bW) (aF (uh aM bW) oNx))))
noncomputable def kU(aK:List D->R D):Ev->O:=(ck (nS (aG 1 aK (ac (rvz 0) nlz)) (g2 leD (gOf iC (ac (rvz 0) nlz)) (ciz 2))))
noncomputable def dW(aK:List D->R D):Ev->O:=(aF (kU aK) oNx)
noncomputable def oP(bn:List D->R D):Ev->O:=(eJ 1 (eS "str" rD (rvz 0) (ac (csz [32]) nlz)))
noncomputable def pN(bn:List D->R D):Ev->O:=(oIf (nM (gB2 neF (gOf iC (ac (rvz 1) nlz)) (ciz 2)) (gBn (aB gU (gOf xW (ac (aP (dD (aB bH (rvz 1)) [] (λ_=>R.ok true) (aG 1 bn (ac (rvz 0) nlz)))) nlz))))) (aF (ck (λ_=>R.ok D.non)) oNx) oNx)
noncomputable def pc(bn:List D->R D):Ev->O:=(ck (aB mkT (ac (gOf zi (ac (g2 ixD (rvz 1) (ciz 0)) nlz)) (ac (gOf zi (ac (g2 ixD (rvz 1) (ciz 1)) nlz)) nlz))))
noncomputable def fU(bn:List D->R D):Ev->O:=(aF (oP bn) (aF (pN bn) (aF (pc bn) oNx)))
noncomputable def nq(bu:List D->R D):Ev->O:=(eJ 1 (eS "str" Bb (rvz 0) (ac (csz [32]) nlz)))
noncomputable def nG(bu:List D->R D):Ev->O:=(oIf (gB2 eqF (g2 ixD (rvz 1) (ciz 0)) (csz [115,97,121])) (aF (ck (aB mkT (ac (csz [115,97,121]) (ac (g2 ixD (rvz 1) (ciz 2)) nlz)))) oNx) oNx)
noncomputable def nF(bu:List D->R D):Ev->O:=(oIf (gB2 eqF (g2 ixD (rvz 1) (ciz 0)) (csz [103,111])) (aF (eJ 2 (aG 1 bu (ac (g2 ixD (rvz 1) (ciz 2)) nlz))) (aF (ck (gIf (gB2 isF (rvz 2) (λ_=>R.ok D.non)) (λ_=>R.ok D.non) (aB mkT (ac (csz [103,111]) (ac (g2 ixD (rvz 2) (ciz 0)) (ac (g2 ixD (rvz 2) (ciz 1)) nlz)))))) oNx)) oNx)
noncomputable def nA(bu:List D->R D):Ev->O:=(ck (aB mkT (ac (csz [119,105,112,101]) nlz)))
noncomputable def fk(bu:List D->R D):Ev->O:=(aF (nq bu) (aF (nG bu) (aF (nF bu) (aF (nA bu) oNx))))
noncomputable def sY(bz bG cg:List D->R D)(am:Addr):Ev->O:=(eJ 1 (aG 1 bz (ac (rvz 0) nlz)))
noncomputable def sL(bz bG cg:List D->R D)(am:Addr):Ev->O:=(oIf (nM (gBn (aB gU (aG 1 bG (ac (rvz 1) nlz)))) (gB2 neF (aG 1 cg (ac (rvz 1) nlz)) (rvz 0))) (aF (dA am (ac (csz [110,111,32,111,114,100,101,114,32,105,115,32,119,114,105,116,116,101,110,32,115,111]) nlz)) oNx) oNx)
noncomputable def sN(bz bG cg:List D->R D)(am:Addr):Ev->O:=(ck (rvz 1))
noncomputable def iG(bz bG cg:List D->R D)(am:Addr):Ev->O:=(aF (sY bz bG cg am) (aF (sL bz bG cg am) (aF (sN bz bG cg am) oNx)))
noncomputable def xN(am:Addr):Ev->O:=(oIf (nM (gBn (aB gU (aB (ko (·=="str")) (rvz 0)))) (E8 (gB2 neF (rvz 0) (csz [])) (gBn (aB gU (eS "str" EJ (rvz 0) (ac (csz [10]) nlz)))))) (aF (dA am (ac (csz [116,104,105,115,32,105,115,32,110,111,32,116,101,120,116,32,111,102,32,108,105,110,101,115,32,116,104,97,116,32,97,114,101,32,101,97,99,104,32,101,110,100,101,100,32,98,121,32,97,32,108,105,110,101,32,102,101,101,100]) nlz)) oNx) oNx)
noncomputable def xC(am:Addr):Ev->O:=(ck (gSl (eS "str" rD (rvz 0) (ac (csz [10]) nlz)) (λ_=>R.ok none) (sd (aB E6 (ciz 1)))))
noncomputable def jQ(am:Addr):Ev->O:=(aF (xN am) (aF (xC am) oNx))
noncomputable def qx(fj dP:List D->R D):Ev->O:=(ck (aP (yu (aB bH (aG 1 fj (ac (rvz 0) nlz))) [] (λ_=>R.ok true) (aG 1 dP (ac (rvz 0) nlz)))))
noncomputable def gC(fj dP:List D->R D):Ev->O:=(aF (qx fj dP) oNx)
noncomputable def pp(aM:List D->R D)(ao:Addr):Ev->O:=(oIf (gBn (aB gU (aB (ko (·=="list")) (rvz 0)))) (aF (dA ao (ac (csz [116,104,105,115,32,105,115,32,110,111,32,108,105,115,116,32,111,102,32,111,114,100,101,114,115]) nlz)) oNx) oNx)
noncomputable def oH(aM:List D->R D)(ao:Addr):Ev->O:=(aF (jJ (aG 1 aM (ac (rvz 1) nlz))) oNx)
noncomputable def pC(aM:List D->R D)(ao:Addr):Ev->O:=(Az (wb 1) (aB bH (rvz 0)) (oH aM ao))
noncomputable def fQ(aM:List D->R D)(ao:Addr):Ev->O:=(aF (pp aM ao) (aF (pC aM ao) oNx))
noncomputable def lV:Ev->O:=(oIf (gB2 neF (g2 ixD (rvz 0) (ciz 0)) (g2 ixD (rvz 1) (ciz 0))) (aF (ck (λ_=>R.ok D.non)) oNx) oNx)
noncomputable def lP:Ev->O:=(oIf (gB2 neF (g2 ixD (rvz 0) (ciz 0)) (csz [115,97,121])) (aF (ck (rvz 1)) oNx) oNx)
noncomputable def mE:Ev->O:=(eJ 2 (g2 fg (g2 ixD (rvz 0) (ciz 1)) (g2 ixD (rvz 1) (ciz 1))))
noncomputable def lZ:Ev->O:=(ck (gIf (gB2 leD (gOf iC (ac (rvz 2) nlz)) (ciz 40)) (aB mkT (ac (csz [115,97,121]) (ac (rvz 2) nlz))) (λ_=>R.ok D.non)))
noncomputable def fc:Ev->O:=(aF lV (aF lP (aF mE (aF lZ oNx))))
noncomputable def uO(bh aW:List D->R D):Ev->O:=(jJ (aG 1 bh (ac (rvz 0) nlz)))
noncomputable def ux(bh aW:List D->R D):Ev->O:=(zZ 1 (fS nlz))
noncomputable def vC(bh aW:List D->R D):Ev->O:=(aF (HR 1 3 (gIf (gB2 gtD (gOf iC (ac (rvz 1) nlz)) (ciz 0)) (aG 2 aW (ac (g2 ixD (rvz 1) (aB E6 (ciz 1))) (ac (rvz 2) nlz))) (λ_=>R.ok D.non))) (aF (oIf (gB2 isF (rvz 3) (λ_=>R.ok D.non)) (aF (NM 1 (rvz 2)) oNx) (aF (GD 1 (aB E6 (ciz 1)) (rvz 3)) oNx)) oNx))
noncomputable def vH(bh aW:List D->R D):Ev->O:=(Az (wb 2) (aB bH (rvz 0)) (vC bh aW))
noncomputable def uV(bh aW:List D->R D):Ev->O:=(ck (rvz 1))
noncomputable def iV(bh aW:List D->R D):Ev->O:=(aF (uO bh aW) (aF (ux bh aW) (aF (vH bh aW) (zw 1 (aF (uV bh aW) oNx)))))
noncomputable def bR(af:Addr):List D->R D:=λds=>aD (gE kn af (aw 1 ds))
noncomputable def cq(af:Addr):List D->R D:=λds=>aD (iB (bR af) kn af (aw 2 ds))
noncomputable def ll:List D->R D:=λds=>aD (jK (aw 2 ds))
noncomputable def Fv(af ah:Addr):List D->R D:=λds=>aD (wQ (cq af) kn ll ah (aw 4 ds))
noncomputable def rG:List D->R D:=λds=>aD (jm kn (aw 2 ds))
noncomputable def ni:List D->R D:=λds=>aD (gN rG (aw 2 ds))
noncomputable def kB:List D->R D:=λds=>aD (iz (aw 2 ds))
noncomputable def fy(af:Addr):List D->R D:=λds=>aD (jc (bR af) kn ni kB af (aw 5 ds))
noncomputable def Cs:List D->R D:=λds=>aD (my ll (aw 1 ds))
noncomputable def iS(af am:Addr):List D->R D:=λds=>aD (jf Cs (bR af) kB am (aw 6 ds))
noncomputable def nU(af:Addr):List D->R D:=λds=>aD (kF (cq af) (aw 2 ds))
noncomputable def la(af:Addr):List D->R D:=λds=>aD (kA (cq af) (aw 2 ds))
noncomputable def eP(ah:Addr):List D->R D:=λds=>aD (pI kn ah (aw 2 ds))
noncomputable def mG:List D->R D:=λds=>aD (gT (aw 1 ds))
noncomputable def gQ(af:Addr):List D->R D:=λds=>aD (oI kn mG af (aw 5 ds))
noncomputable def jw:List D->R D:=λds=>aD (gS (aw 1 ds))
noncomputable def jv:List D->R D:=λds=>aD (eD jw (aw 4 ds))
noncomputable def gK(af am:Addr):List D->R D:=λds=>aD (ir jv kn (gQ af) am (aw 2 ds))
noncomputable def AC:List D->R D:=λds=>aD (lY nB (aw 1 ds))
noncomputable def FM:List D->R D:=λds=>aD (pd kn (aw 1 ds))
noncomputable def oV:List D->R D:=λds=>aD (jP AC FM (aw 1 ds))
noncomputable def jH(ao:Addr):List D->R D:=λds=>aD (gI oV ao (aw 1 ds))
noncomputable def rM:List D->R D:=λds=>aD (jg (aw 2 ds))
noncomputable def oZ(ao:Addr):List D->R D:=λds=>aD (ip (jH ao) rM (aw 1 ds))
noncomputable def ju:List D->R D:=λds=>aD (dW jw (aw 1 ds))
noncomputable def kQ:List D->R D:=λds=>aD (fU ju (aw 2 ds))
noncomputable def kq:List D->R D:=λds=>aD (fk kQ (aw 3 ds))
noncomputable def oz(ao am:Addr):List D->R D:=λds=>aD (iG kq oV (oZ ao) am (aw 2 ds))
noncomputable def uu(am:Addr):List D->R D:=λds=>aD (jQ am (aw 1 ds))
noncomputable def fO(am ao:Addr):List D->R D:=λds=>aD (gC (uu am) (oz ao am) (aw 1 ds))
noncomputable def lN(ao:Addr):List D->R D:=λds=>aD (fQ (jH ao) ao (aw 2 ds))
noncomputable def jB:List D->R D:=λds=>aD (fc (aw 3 ds))
noncomputable def eG(ao:Addr):List D->R D:=λds=>aD (iV (lN ao) jB (aw 4 ds))
def Kp{C2 C3 C7:Addr}:gQ C1 [.int 1000000000]=.ok (.str [50,55,55,55,55,55,58,52,54,58,52,48]):=rfl
def Pg{C2 C3 C7:Addr}:gQ C1 [.int 0]=.ok (.str [48,58,48,48]):=rfl
def PX{C2 C3 C7:Addr}:gQ C1 [.int 59]=.ok (.str [48,58,53,57]):=rfl
def Ph{C2 C3 C7:Addr}:gQ C1 [.int 60]=.ok (.str [49,58,48,48]):=rfl
def Qb{C2 C3 C7:Addr}:gQ C1 [.int 3599]=.ok (.str [53,57,58,53,57]):=rfl
def Qd{C2 C3 C7:Addr}:gQ C1 [.int 3600]=.ok (.str [49,58,48,48,58,48,48]):=rfl
def PN{C2 C3 C7:Addr}:gQ C1 [.int 3661]=.ok (.str [49,58,48,49,58,48,49]):=rfl
def Mj{C2 C3:Addr}:gK C1 C7 [.str [50,55,55,55,55,55,58,52,54,58,52,48]]=.ok (.int 1000000000):=rfl
noncomputable def AY:Ev->O:=(eJ 4 (λ_=>R.ok D.non))
noncomputable def BV:Ev->O:=(eJ 5 (λ_=>R.ok D.non))
noncomputable def cJ(xw eE:List D->R D)(bO cj:List D->R D)(em hG:List D->R D)(gJ nz:List D->R D)(bM dF:List D->R D)(dN dm:List D->R D)(rs:List Addr):Ev->O:=(FN (aF (oIf (gB2 ltD (rvz 0) (ciz 4)) (aF (eJ 5 (zP [aG 3 xw (ac (rvz 1) (ac (rvz 2) (ac (rvz 3) nlz))),aG 3 eE (ac (rvz 1) (ac (rvz 2) (ac (rvz 3) nlz))),aG 3 bO (ac (rvz 1) (ac (rvz 2) (ac (rvz 3) nlz))),aG 3 cj (ac (rvz 1) (ac (rvz 2) (ac (rvz 3) nlz)))] (rvz 0))) oNx) (aF (oIf (gB2 ltD (rvz 0) (ciz 9)) (aF (eJ 5 (zP [aG 2 em (ac (rvz 1) (ac (rvz 2) nlz)),aG 2 hG (ac (rvz 1) (ac (rvz 2) nlz)),aG 2 gJ (ac (rvz 1) (ac (rvz 2) nlz)),aG 2 nz (ac (rvz 1) (ac (rvz 2) nlz)),aG 2 bM (ac (rvz 1) (ac (rvz 2) nlz))] (g2 mx (rvz 0) (ciz 4)))) oNx) (aF (eJ 5 (zP [aG 1 dF (ac (rvz 1) nlz),aG 1 dN (ac (rvz 1) nlz),aG 1 dm (ac (rvz 1) nlz)] (g2 mx (rvz 0) (ciz 9)))) oNx)) oNx)) oNx) (aF (eJ 4 (rvz 6)) oNx) (wA rs) 6)
noncomputable def jA:Ev->O:=(oIf (gB2 isF (rvz 4) (λ_=>R.ok D.non)) (aF (ck (rvz 5)) oNx) oNx)
noncomputable def jR(dX:List D->R D):Ev->O:=(ck (aG 1 dX (ac (rvz 4) nlz)))
noncomputable def iP(xw eE:List D->R D)(bO cj:List D->R D)(em hG:List D->R D)(gJ nz:List D->R D)(bM dF:List D->R D)(dN dm dX:List D->R D)(rs:List Addr):Ev->O:=(aF (AY) (aF (BV) (aF (cJ xw eE bO cj em hG gJ nz bM dF dN dm rs) (aF (jA) (aF (jR dX) oNx)))))
noncomputable def ic:Ev->O:=(eJ 1 (g2 HV (ciz 10) (ciz 9)))
noncomputable def eO(av:List D->R D):Ev->O:=(aF (eJ 4 (g2 fg (g2 fg (gOf lh (ac (rvz 3) nlz)) (csz [47])) (gOf lh (ac (rvz 2) nlz)))) (aF (eJ 5 (g2 fg (g2 eM (ciz 2) (gOf iC (ac (gOf lh (ac (rvz 2) nlz)) nlz))) (ciz 1))) (aF (oIf (gB2 neF (aG 4 av (ac (ciz 6) (ac (rvz 3) (ac (rvz 2) (ac (λ_=>R.ok D.non) nlz))))) (g2 fg (g2 eM (csz [32]) (g2 mx (rvz 5) (gOf iC (ac (rvz 4) nlz)))) (rvz 4))) (aF (ck (λ_=>R.ok (D.bl false))) oNx) oNx) oNx)))
noncomputable def eW(av:List D->R D):Ev->O:=(aF (eJ 8 (aP (fS (ac (aG 4 av (ac (ciz 0) (ac (rvz 6) (ac (rvz 7) (ac (ciz 9) nlz))))) (ac (aG 4 av (ac (ciz 5) (ac (rvz 6) (ac (rvz 7) (ac (λ_=>R.ok D.non) nlz))))) (ac (aG 4 av (ac (ciz 6) (ac (rvz 6) (ac (rvz 7) (ac (λ_=>R.ok D.non) nlz))))) nlz)))))) (aF (oIf (gB2 neF (rvz 8) (g2 eM (aP (fS (ac (csz [110,111,32,110,117,109,98,101,114]) nlz))) (ciz 3))) (aF (ck (λ_=>R.ok (D.bl false))) oNx) oNx) oNx))
noncomputable def eU(aR av:List D->R D):Ev->O:=(aF (Az (wb 3) (aB bH (aB mkT (ac (ciz 0) (ac (rvz 2) (ac (aG 3 aR (ac (rvz 0) (ac (ciz 3) (ac (g2 fg (rvz 2) (ciz 1)) nlz)))) nlz))))) (eO av)) (aF (Az (CP [6,7]) (aB bH (aB mkT (ac (aB mkT (ac (ciz 0) (ac (ciz 0) nlz))) (ac (aB mkT (ac (aB E6 (ciz 1)) (ac (rvz 2) nlz))) (ac (aB mkT (ac (g2 fg (rvz 2) (ciz 1)) (ac (rvz 2) nlz))) (ac (aB mkT (ac (ciz 0) (ac (g2 fg (rvz 1) (ciz 1)) nlz))) nlz)))))) (eW av)) (aF (oIf (gB2 neF (aP (dD (aB bH (aB mkT (ac (ciz 0) (ac (g2 fg (rvz 1) (ciz 1)) nlz)))) [] (λ_=>R.ok true) (aG 4 av (ac (ciz 4) (ac (csz [91,46,93]) (ac (rvz 0) (ac (λ_=>R.ok D.non) nlz))))))) (g2 eM (aP (fS (ac (csz [110,111,32,110,117,109,98,101,114]) nlz))) (ciz 2))) (aF (ck (λ_=>R.ok (D.bl false))) oNx) oNx) (aF (oIf (gB2 neF (aP (dD (aB bH (aB mkT (ac (ciz 3) (ac (ciz 40) nlz)))) [2] (λ_=>R.ok true) (aG 4 av (ac (ciz 0) (ac (rvz 1) (ac (rvz 1) (ac (rvz 0) nlz))))))) (aP (fS (ac (csz [91,35,93]) (ac (g2 fg (g2 fg (csz [91]) (g2 eM (csz [35]) (ciz 38))) (csz [93])) nlz))))) (aF (ck (λ_=>R.ok (D.bl false))) oNx) oNx) oNx))))
noncomputable def hV(aR av:List D->R D):Ev->O:=(Az (wb 2) (aB bH (aB mkT (ac (ciz 1) (ac (rvz 1) (ac (g2 fg (ciz 1) (aG 3 aR (ac (rvz 0) (ac (ciz 1) (ac (ciz 999) nlz))))) (ac (g2 fg (ciz 1) (aG 3 aR (ac (rvz 0) (ac (ciz 2) (ac (rvz 1) nlz))))) nlz)))))) (eU aR av))
noncomputable def ik(av:List D->R D):Ev->O:=(oIf (gB2 neF (aP (dD (aB bH (aB mkT (ac (ciz 2) (ac (ciz 41) nlz)))) [] (λ_=>R.ok true) (aG 4 av (ac (ciz 0) (ac (ciz 1) (ac (ciz 2) (ac (rvz 0) nlz))))))) (g2 eM (aP (fS (ac (csz [110,111,32,114,111,111,109]) nlz))) (ciz 2))) (aF (ck (λ_=>R.ok (D.bl false))) oNx) oNx)
noncomputable def hU(av:List D->R D):Ev->O:=(eJ 8 (g2 fg (aP (dD (aB bH (aB mkT (ac (aB E6 (ciz 1)) (ac (g2 fg (rvz 1) (ciz 1)) (ac (λ_=>R.ok D.non) (ac (λ_=>R.ok (D.bl true)) nlz)))))) [] (λ_=>R.ok true) (aG 4 av (ac (ciz 9) (ac (rvz 0) (ac (λ_=>R.ok D.non) (ac (λ_=>R.ok D.non) nlz))))))) (aP (fS (ac (aG 4 av (ac (ciz 1) (ac (aP (fS nlz)) (ac (ciz 0) (ac (ciz 2) nlz))))) nlz)))))
noncomputable def ia(av:List D->R D):Ev->O:=(ck (nS (g2 eqF (g2 fg (rvz 8) (aP (dD (aB bH (aB mkT (ac (ciz 1) (ac (ciz 100) nlz)))) [] (λ_=>R.ok true) (aG 4 av (ac (ciz 1) (ac (aP (fS nlz)) (ac (ciz 5) (ac (rvz 0) nlz)))))))) (g2 eM (aP (fS (ac (csz [110,111,32,110,117,109,98,101,114]) nlz))) (ciz 7))) (g2 isF (aG 4 av (ac (ciz 1) (ac (aP (fS nlz)) (ac (ciz 5) (ac (ciz 99) nlz))))) (λ_=>R.ok D.non))))
noncomputable def cI(aR av:List D->R D):Ev->O:=(aF (ic) (aF (hV aR av) (aF (ik av) (aF (hU av) (aF (ia av) oNx)))))
noncomputable def fL:Ev->O:=(eJ 0 (csz [50,55,55,55,55,55,58,52,54,58,52,48]))
noncomputable def fD(av:List D->R D):Ev->O:=(oIf (nM (gB2 neF (aG 4 av (ac (ciz 9) (ac (g2 HV (ciz 10) (ciz 9)) (ac (λ_=>R.ok D.non) (ac (λ_=>R.ok D.non) nlz))))) (rvz 0)) (gB2 neF (aG 4 av (ac (ciz 10) (ac (rvz 0) (ac (λ_=>R.ok D.non) (ac (λ_=>R.ok D.non) nlz))))) (g2 HV (ciz 10) (ciz 9)))) (aF (ck (λ_=>R.ok (D.bl false))) oNx) oNx)
noncomputable def fC:Ev->O:=(eJ 1 (aP (fS (ac (csz [50,55,55,55,55,55,58,52,54,58,52,49]) (ac (csz [48,50,55,55,55,55,55,58,52,54,58,52,48]) (ac (csz [48,58,54,48]) (ac (csz [49,58,48,58,48,48]) (ac (csz [48,58,48]) (ac (csz []) (ac (csz [58]) (ac (csz [49,58,48,48,58,48,48,58,48,48]) (ac (csz [54,48,58,48,48]) (ac (csz [120,58,48,48]) nlz)))))))))))))
noncomputable def fN(av:List D->R D):Ev->O:=(oIf (gB2 neF (aP (dD (aB bH (rvz 1)) [] (λ_=>R.ok true) (aG 4 av (ac (ciz 10) (ac (rvz 0) (ac (λ_=>R.ok D.non) (ac (λ_=>R.ok D.non) nlz))))))) (g2 eM (aP (fS (ac (csz [110,111,32,116,101,120,116]) nlz))) (ciz 10))) (aF (ck (λ_=>R.ok (D.bl false))) oNx) oNx)
noncomputable def fI:Ev->O:=(eJ 2 (aP (fS (ac (ciz 0) (ac (ciz 59) (ac (ciz 60) (ac (ciz 3599) (ac (ciz 3600) (ac (ciz 3661) nlz)))))))))
noncomputable def fP(av:List D->R D):Ev->O:=(ck (g2 eqF (aP (dD (aB bH (rvz 2)) [] (λ_=>R.ok true) (aG 4 av (ac (ciz 9) (ac (rvz 0) (ac (λ_=>R.ok D.non) (ac (λ_=>R.ok D.non) nlz))))))) (aP (fS (ac (csz [48,58,48,48]) (ac (csz [48,58,53,57]) (ac (csz [49,58,48,48]) (ac (csz [53,57,58,53,57]) (ac (csz [49,58,48,48,58,48,48]) (ac (csz [49,58,48,49,58,48,49]) nlz))))))))))
noncomputable def bT(av:List D->R D):Ev->O:=(aF (fL) (aF (fD av) (aF (fC) (aF (fN av) (aF (fI) (aF (fP av) oNx))))))
noncomputable def fb(aR:List D->R D):Ev->O:=(eJ 1 (g2 fg (ciz 1) (aG 3 aR (ac (rvz 0) (ac (ciz 10) (ac (ciz 6) nlz))))))
noncomputable def dv:Ev->O:=(Mx (CP [2,3]) (aB mkT (ac (g2 eM (aB mkT (ac (aB mkT (ac (csz [97,98]) (ac (csz [60]) nlz))) nlz)) (rvz 1)) (ac (g2 eM (aB mkT (ac (csz [120]) nlz)) (rvz 1)) nlz))))
noncomputable def dt(bA:List D->R D):Ev->O:=(zZ 4 (fS (ac (aG 2 bA (ac (rvz 2) (ac (g2 eM (aP (fS (ac (rvz 3) nlz))) (ciz 9)) nlz))) (ac (aG 2 bA (ac (rvz 2) (ac (g2 eM (aP (fS (ac (rvz 3) nlz))) (ciz 10)) nlz))) nlz))))
noncomputable def de(bA:List D->R D):Ev->O:=(Jb 4 (aP (fS (ac (aG 2 bA (ac (g2 eM (aB mkT (ac (aB mkT (ac (csz [97]) (ac (csz [60]) nlz))) nlz)) (ciz 7)) (ac (aP (fS nlz)) nlz))) (ac (aG 2 bA (ac (aB mkT nlz) (ac (aP (fS nlz)) nlz))) nlz)))))
noncomputable def dj:Ev->O:=(oIf (gB2 neF (rvz 4) (aP (fS (ac (λ_=>R.ok (D.bl true)) (ac (λ_=>R.ok (D.bl false)) (ac (λ_=>R.ok (D.bl false)) (ac (λ_=>R.ok (D.bl false)) nlz))))))) (aF (ck (λ_=>R.ok (D.bl false))) oNx) oNx)
noncomputable def dk(av:List D->R D):Ev->O:=(zZ 4 (dD (aB bH (aB mkT (ac (g2 mx (g2 eM (ciz 2) (rvz 1)) (ciz 1)) (ac (g2 mx (g2 eM (ciz 2) (rvz 1)) (ciz 2)) (ac (ciz 40) (ac (ciz 41) nlz)))))) [2,3] (λ_=>R.ok true) (aG 4 av (ac (ciz 3) (ac (rvz 1) (ac (aP (fS (ac (rvz 2) nlz))) (ac (rvz 0) nlz)))))))
noncomputable def di(kC:List D->R D):Ev->O:=(oIf (nM (gB2 neF (rvz 4) (aP (fS (ac (g2 eM (aP (fS (ac (ciz 1) nlz))) (rvz 1)) (ac (csz [110,111,32,114,111,111,109]) (ac (g2 eM (aP (fS (ac (ciz 2) nlz))) (rvz 1)) (ac (csz [110,111,32,114,111,111,109]) nlz))))))) (gB2 neF (gOf iC (ac (aG 3 kC (ac (rvz 2) (ac (g2 eM (aP (fS (ac (rvz 3) nlz))) (ciz 9)) (ac (ciz 40) nlz)))) nlz)) (ciz 11))) (aF (ck (λ_=>R.ok (D.bl false))) oNx) oNx)
noncomputable def dn(aR:List D->R D):Ev->O:=(eJ 5 (gSl (csz [97,98,99,100,101,102,103,104,105,106]) (λ_=>R.ok none) (sd (g2 fg (ciz 1) (aG 3 aR (ac (rvz 0) (ac (ciz 11) (ac (ciz 10) nlz))))))))
noncomputable def cr(av:List D->R D):Ev->O:=(aF (eJ 7 (gIf (gB2 leD (gOf iC (ac (rvz 5) nlz)) (rvz 6)) (rvz 5) (g2 fg (gSl (rvz 5) (λ_=>R.ok none) (sd (g2 mx (rvz 6) (ciz 1)))) (csz [126])))) (aF (oIf (nM (gB2 neF (aG 4 av (ac (ciz 7) (ac (rvz 5) (ac (rvz 6) (ac (λ_=>R.ok D.non) nlz))))) (rvz 7)) (gB2 neF (aG 4 av (ac (ciz 2) (ac (rvz 5) (ac (rvz 6) (ac (csz [60]) nlz))))) (g2 fg (rvz 7) (g2 eM (csz [32]) (g2 mx (rvz 6) (gOf iC (ac (rvz 7) nlz))))))) (aF (ck (λ_=>R.ok (D.bl false))) oNx) oNx) oNx))
noncomputable def cU(av:List D->R D):Ev->O:=(Az (wb 6) (aB sx (ac (ciz 1) (ac (ciz 12) nlz))) (cr av))
noncomputable def cV(av:List D->R D):Ev->O:=(eJ 4 (g2 fg (aP (dD (aB bH (aB mkT (ac (ciz 0) (ac (ciz 41) nlz)))) [5] (λ_=>R.ok true) (aG 4 av (ac (ciz 7) (ac (rvz 1) (ac (rvz 0) (ac (λ_=>R.ok D.non) nlz))))))) (aP (dD (aB bH (aB mkT (ac (ciz 0) (ac (ciz 41) nlz)))) [] (λ_=>R.ok true) (aG 4 av (ac (ciz 8) (ac (rvz 0) (ac (ciz 1) (ac (λ_=>R.ok D.non) nlz)))))))))
noncomputable def cT(av bM:List D->R D):Ev->O:=(oIf (nM (gB2 neF (g2 fg (rvz 4) (aP (dD (aB bH (aB mkT (ac (ciz 0) (ac (ciz 13) nlz)))) [] (λ_=>R.ok true) (aG 4 av (ac (ciz 8) (ac (ciz 1) (ac (rvz 0) (ac (λ_=>R.ok D.non) nlz)))))))) (g2 eM (aP (fS (ac (csz [110,111,32,114,111,111,109]) nlz))) (ciz 6))) (gB2 neF (g2 ixD (aG 2 bM (ac (ciz 40) (ac (ciz 12) nlz))) (ciz 0)) (ciz 40))) (aF (ck (λ_=>R.ok (D.bl false))) oNx) oNx)
noncomputable def cR(cZ:List D->R D):Ev->O:=(ck (nS (g2 eqF (aG 2 cZ (ac (aP (fS (ac (ciz 99) (ac (ciz 99) nlz)))) (ac (ciz 999) nlz))) (aP (fS (ac (ciz 99) (ac (ciz 99) nlz))))) (g2 eqF (aG 2 cZ (ac (aP (fS (ac (ciz 99) nlz))) (ac (ciz 0) nlz))) (aP (fS (ac (ciz 0) nlz))))))
noncomputable def bL(aR bA:List D->R D)(av kC:List D->R D)(bM cZ:List D->R D):Ev->O:=(aF (fb aR) (aF (dv) (aF (dt bA) (aF (de bA) (zw 4 (aF (dj) (aF (dk av) (zw 4 (aF (di kC) (aF (dn aR) (aF (cU av) (aF (cV av) (aF (cT av bM) (aF (cR cZ) oNx))))))))))))))
noncomputable def lD(aL:Addr)(ad bM:List D->R D)(ah:Addr):Ev->O:=(oIf (gBn (aB gU (aG 3 ad (ac (rvz 1) (ac (ciz 20) (ac (ciz 40) nlz)))))) (aF (dA ah (ac (csz [97,32,98,111,97,114,100,32,105,115,32,102,114,111,109,32,50,48,32,116,111,32,52,48,32,115,105,103,110,115,32,119,105,100,101]) nlz)) oNx) oNx)
noncomputable def lK(aL:Addr)(ad bM:List D->R D)(ah:Addr):Ev->O:=(zh aL 0 2 (rvz 1))
noncomputable def lA(aL:Addr)(ad bM:List D->R D)(ah:Addr):Ev->O:=(zh aL 0 3 (aG 2 bM (ac (rvz 1) (ac (ciz 12) nlz))))
noncomputable def lg(aL:Addr)(ad bM:List D->R D)(ah:Addr):Ev->O:=(Db aL 0 4 (fS nlz))
noncomputable def ly(aL:Addr)(ad bM:List D->R D)(ah:Addr):Ev->O:=(ET aL 0 5)
noncomputable def lf(aL:Addr)(ad bM:List D->R D)(ah:Addr):Ev->O:=(zh aL 0 6 (ciz 0))
noncomputable def fA(aL:Addr)(ad bM:List D->R D)(ah:Addr):Ev->O:=(aF (lD aL ad bM ah) (aF (lK aL ad bM ah) (aF (lA aL ad bM ah) (aF (lg aL ad bM ah) (aF (ly aL ad bM ah) (aF (lf aL ad bM ah) oNx))))))
noncomputable def mS(aL:Addr)(aQ ak:List D->R D)(ah:Addr):Ev->O:=(jJ (aG 1 aQ (ac (rvz 1) nlz)))
noncomputable def mK(aL:Addr)(aQ ak:List D->R D)(ah:Addr):Ev->O:=(jJ (aG 1 ak (ac (rvz 2) nlz)))
noncomputable def mL(aL:Addr)(aQ ak:List D->R D)(ah:Addr):Ev->O:=(oIf (gB2 geD (yy aL 0 5) (ciz 9)) (aF (dA ah (ac (csz [97,32,98,111,97,114,100,32,104,97,115,32,57,32,116,97,115,107,115,32,97,116,32,109,111,115,116]) nlz)) oNx) oNx)
noncomputable def mU(aL:Addr)(aQ ak:List D->R D)(ah:Addr):Ev->O:=(eJ 3 (DS aL 0 6))
noncomputable def mY(aL:Addr)(aQ ak:List D->R D)(ah:Addr):Ev->O:=(xV aL 0 5 (rvz 3) (aB mkT (ac (rvz 3) (ac (rvz 1) (ac (ciz 0) (ac (rvz 2) nlz))))))
noncomputable def mW(aL:Addr)(aQ ak:List D->R D)(ah:Addr):Ev->O:=(C4 aL 0 6 (ciz 1))
noncomputable def mZ(aL:Addr)(aQ ak:List D->R D)(ah:Addr):Ev->O:=(Kn (rvz 3))
noncomputable def gf(aL:Addr)(aQ ak:List D->R D)(ah:Addr):Ev->O:=(aF (mS aL aQ ak ah) (aF (mK aL aQ ak ah) (aF (mL aL aQ ak ah) (aF (mU aL aQ ak ah) (aF (mY aL aQ ak ah) (aF (mW aL aQ ak ah) (aF (mZ aL aQ ak ah) oNx)))))))
noncomputable def vc(bE bo bf:List D->R D):Ev->O:=(oIf (nM (gBn (aB gU (aG 1 bE (ac (rvz 0) nlz)))) (nM (gBn (aB gU (aG 0 bo nlz))) (gBn (aB gU (aG 1 bf (ac (rvz 0) nlz)))))) (aF (ck (λ_=>R.ok (D.bl false))) oNx) oNx)
noncomputable def wu(aR:List D->R D):Ev->O:=(eJ 1 (aG 3 aR (ac (rvz 0) (ac (ciz 20) (ac (ciz 41) nlz)))))
noncomputable def yr:Ev->O:=(N9 2 3 (ac (g2 eM (csz [97]) (rvz 1)) (ac (g2 eM (csz [98]) (g2 mx (ciz 40) (rvz 1))) nlz)))
noncomputable def yB:Ev->O:=(zZ 4 (dD (aB bH (aB mkT (ac (rvz 2) (ac (rvz 3) nlz)))) [] (gB2 neF (rvz 0) (csz [])) (aB mkT (ac (csz [115,97,121]) (ac (rvz 0) nlz)))))
noncomputable def yG:Ev->O:=(eJ 5 (aP (fS (ac (aB mkT (ac (csz [115,97,121]) (ac (g2 fg (rvz 2) (rvz 3)) nlz))) nlz))))
noncomputable def yp(cm:List D->R D):Ev->O:=(eJ 6 (aG 1 cm (ac (g2 fg (rvz 4) (aP (fS (ac (aB mkT (ac (csz [115,97,121]) (ac (csz [99]) nlz))) nlz)))) nlz)))
noncomputable def yA(cm:List D->R D):Ev->O:=(oIf (nM (gB2 neF (aG 1 cm (ac (rvz 4) nlz)) (rvz 5)) (nM (gB2 neF (gOf iC (ac (rvz 6) nlz)) (ciz 2)) (gB2 neF (eS "str" yZ (csz []) (ac (aP (dD (aB bH (rvz 6)) [] (λ_=>R.ok true) (g2 ixD (rvz 0) (ciz 1)))) nlz)) (g2 fg (g2 fg (rvz 2) (rvz 3)) (csz [99]))))) (aF (ck (λ_=>R.ok (D.bl false))) oNx) oNx)
noncomputable def uP:Ev->O:=(eJ 7 (aP (fS (ac (csz [103,111,32,49,10]) (ac (csz [103,111,32,49,32,49,48,48,10]) (ac (csz [103,111,32,49,48,48,32,49,10]) (ac (csz [103,111,32,48,49,32,49,10]) (ac (csz [103,111,32,49,50,32,49,10]) (ac (csz [103,111,32,49,32,52,49,10]) (ac (csz [103,111,32,49,32,49,32,49,10]) (ac (csz [115,97,121,32,10]) nlz)))))))))))
noncomputable def uU(av:List D->R D):Ev->O:=(oIf (gB2 neF (aP (dD (aB bH (rvz 7)) [] (λ_=>R.ok true) (aG 4 av (ac (ciz 11) (ac (rvz 0) (ac (λ_=>R.ok D.non) (ac (λ_=>R.ok D.non) nlz))))))) (g2 eM (aP (fS (ac (csz [110,111,32,116,101,120,116]) nlz))) (ciz 8))) (aF (ck (λ_=>R.ok (D.bl false))) oNx) oNx)
noncomputable def nZ(av:List D->R D):Ev->O:=(oIf (gB2 neF (aG 4 av (ac (ciz 11) (ac (csz [103,111,32,49,49,32,52,48,10]) (ac (λ_=>R.ok D.non) (ac (λ_=>R.ok D.non) nlz))))) (aP (fS (ac (aB mkT (ac (csz [103,111]) (ac (ciz 11) (ac (ciz 40) nlz)))) nlz)))) (aF (ck (λ_=>R.ok (D.bl false))) oNx) oNx)
noncomputable def wO(aL:Addr)(cM:MF):Ev->O:=(yP aL 8 2 cM (aB bH (aB mkT (ac (ciz 1) (ac (g2 HV (ciz 10) (ciz 9)) nlz)))) (ac (csz [120]) (ac (rvz 0) nlz)) (aP (fS (ac (ciz 0) (ac (ciz 1) nlz)))))
noncomputable def tE(aL:Addr)(cM:MF):Ev->O:=(aF (wO aL cM) oNx)
noncomputable def sy(aL:Addr)(cM fM:MF)(bE bo:List D->R D)(bf aR:List D->R D)(cm av:List D->R D):Addr×Unit->Ev->O:=(oS (vc bE bo bf) (oS (wu aR) (oS (yr) (oS (yB) (oS (yG) (Ld 4 (oS (yp cm) (oS (yA cm) (oS (uP) (oS (uU av) (oS (nZ av) (EW aL 8 fM 1 (ac (ciz 20) nlz) (DN (tE aL cM))))))))))))))
noncomputable def doF(Fs:Nat->List D->R D)(FW:List D->R D)(rs:List Addr):List D->R D:=λds=>aD (iP (Fs 0) (Fs 1) (Fs 2) (Fs 3) (Fs 4) (Fs 5) (Fs 6) (Fs 7) (Fs 8) (Fs 9) (Fs 10) (Fs 11) FW rs (aw 7 ds))
section
variable{Fs:Nat->List D->R D}{FW:List D->R D}{a c e v:D}
def nX(hC:C∈rs):wA rs C=some true:=by simp only[wA,hC,xK]
def An{gb gs:Ev->O}{f:Addr->Option Bool}{ρ':Ev}(h:gb ρ=.ex C ρ')(hf:f C=some true):FN gb gs f i ρ=Mz i (gs (ρ'.set i (some (.val (.exc C))))):=by rw[KA,h,BM hf]
def K9(hw:FW [.exc C]=.ok v):aD (aF jA (aF (jR FW) oNx) [some (.val a),some (.val c),some (.val d),some (.val e),some (.val (.exc C)),some (.val .non),none])=.ok v:=by have e1:aD (aF jA (aF (jR FW) oNx) [some (.val a),some (.val c),some (.val d),some (.val e),some (.val (.exc C)),some (.val .non),none])=aD (aF jA (aF (jR (λ_=>FW [.exc C])) oNx) [some (.val a),some (.val c),some (.val d),some (.val e),some (.val (.exc C)),some (.val .non),none]):=rfl;rw[e1,hw];rfl
def gO(h:cJ (Fs 0) (Fs 1) (Fs 2) (Fs 3) (Fs 4) (Fs 5) (Fs 6) (Fs 7) (Fs 8) (Fs 9) (Fs 10) (Fs 11) rs [some (.val a),some (.val c),some (.val d),some (.val e),some (.val .non),some (.val .non),none]=.nx [some (.val a),some (.val c),some (.val d),some (.val e),some (.val (.exc C)),some (.val .non),none])(hw:FW [.exc C]=.ok v):doF Fs FW rs [a,c,d,e]=.ok v:=by show aD ((cJ (Fs 0) (Fs 1) (Fs 2) (Fs 3) (Fs 4) (Fs 5) (Fs 6) (Fs 7) (Fs 8) (Fs 9) (Fs 10) (Fs 11) rs [some (.val a),some (.val c),some (.val d),some (.val e),some (.val .non),some (.val .non),none]).seq (aF jA (aF (jR FW) oNx)))=_;rw[h];exact K9 hw
def OV(h:Fs 0 [c,d,e]=.ok v):doF Fs FW rs [.int 0,c,d,e]=.ok v:=by have e1:doF Fs FW rs [.int 0,c,d,e]=doF (λ_ _=>Fs 0 [c,d,e]) FW rs [.int 0,c,d,e]:=rfl;rw[e1,h];rfl
def IB(h:Fs 0 [c,d,e]=.ex C)(hC:C∈rs)(hw:FW [.exc C]=.ok v):doF Fs FW rs [.int 0,c,d,e]=.ok v:=by have e1:doF Fs FW rs [.int 0,c,d,e]=doF (λ_ _=>Fs 0 [c,d,e]) FW rs [.int 0,c,d,e]:=rfl;rw[e1,h];refine gO ?_ hw;unfold cJ;refine(An (ρ':=[some (.val (.int 0)),some (.val c),some (.val d),some (.val e),some (.val .non),some (.val .non),none]) ?_ (nX hC)).trans ?_ <;> rfl
def P4(h:Fs 1 [c,d,e]=.ok v):doF Fs FW rs [.int 1,c,d,e]=.ok v:=by have e1:doF Fs FW rs [.int 1,c,d,e]=doF (λ_ _=>Fs 1 [c,d,e]) FW rs [.int 1,c,d,e]:=rfl;rw[e1,h];rfl
def HL(h:Fs 1 [c,d,e]=.ex C)(hC:C∈rs)(hw:FW [.exc C]=.ok v):doF Fs FW rs [.int 1,c,d,e]=.ok v:=by have e1:doF Fs FW rs [.int 1,c,d,e]=doF (λ_ _=>Fs 1 [c,d,e]) FW rs [.int 1,c,d,e]:=rfl;rw[e1,h];refine gO ?_ hw;unfold cJ;refine(An (ρ':=[some (.val (.int 1)),some (.val c),some (.val d),some (.val e),some (.val .non),some (.val .non),none]) ?_ (nX hC)).trans ?_ <;> rfl
def P5(h:Fs 2 [c,d,e]=.ok v):doF Fs FW rs [.int 2,c,d,e]=.ok v:=by have e1:doF Fs FW rs [.int 2,c,d,e]=doF (λ_ _=>Fs 2 [c,d,e]) FW rs [.int 2,c,d,e]:=rfl;rw[e1,h];rfl
def OP(h:Fs 3 [c,d,e]=.ok v):doF Fs FW rs [.int 3,c,d,e]=.ok v:=by have e1:doF Fs FW rs [.int 3,c,d,e]=doF (λ_ _=>Fs 3 [c,d,e]) FW rs [.int 3,c,d,e]:=rfl;rw[e1,h];rfl
def Lh(h:Fs 3 [c,d,e]=.ex C)(hC:C∈rs)(hw:FW [.exc C]=.ok v):doF Fs FW rs [.int 3,c,d,e]=.ok v:=by have e1:doF Fs FW rs [.int 3,c,d,e]=doF (λ_ _=>Fs 3 [c,d,e]) FW rs [.int 3,c,d,e]:=rfl;rw[e1,h];refine gO ?_ hw;unfold cJ;refine(An (ρ':=[some (.val (.int 3)),some (.val c),some (.val d),some (.val e),some (.val .non),some (.val .non),none]) ?_ (nX hC)).trans ?_ <;> rfl
def Kl(h:Fs 4 [c,d]=.ex C)(hC:C∈rs)(hw:FW [.exc C]=.ok v):doF Fs FW rs [.int 4,c,d,e]=.ok v:=by have e1:doF Fs FW rs [.int 4,c,d,e]=doF (λ_ _=>Fs 4 [c,d]) FW rs [.int 4,c,d,e]:=rfl;rw[e1,h];refine gO ?_ hw;unfold cJ;refine(An (ρ':=[some (.val (.int 4)),some (.val c),some (.val d),some (.val e),some (.val .non),some (.val .non),none]) ?_ (nX hC)).trans ?_ <;> rfl
def NB(h:Fs 5 [c,d]=.ex C)(hC:C∈rs)(hw:FW [.exc C]=.ok v):doF Fs FW rs [.int 5,c,d,e]=.ok v:=by have e1:doF Fs FW rs [.int 5,c,d,e]=doF (λ_ _=>Fs 5 [c,d]) FW rs [.int 5,c,d,e]:=rfl;rw[e1,h];refine gO ?_ hw;unfold cJ;refine(An (ρ':=[some (.val (.int 5)),some (.val c),some (.val d),some (.val e),some (.val .non),some (.val .non),none]) ?_ (nX hC)).trans ?_ <;> rfl
def Pb(h:Fs 6 [c,d]=.ok v):doF Fs FW rs [.int 6,c,d,e]=.ok v:=by have e1:doF Fs FW rs [.int 6,c,d,e]=doF (λ_ _=>Fs 6 [c,d]) FW rs [.int 6,c,d,e]:=rfl;rw[e1,h];rfl
def MS(h:Fs 6 [c,d]=.ex C)(hC:C∈rs)(hw:FW [.exc C]=.ok v):doF Fs FW rs [.int 6,c,d,e]=.ok v:=by have e1:doF Fs FW rs [.int 6,c,d,e]=doF (λ_ _=>Fs 6 [c,d]) FW rs [.int 6,c,d,e]:=rfl;rw[e1,h];refine gO ?_ hw;unfold cJ;refine(An (ρ':=[some (.val (.int 6)),some (.val c),some (.val d),some (.val e),some (.val .non),some (.val .non),none]) ?_ (nX hC)).trans ?_ <;> rfl
def Pp(h:Fs 7 [c,d]=.ok v):doF Fs FW rs [.int 7,c,d,e]=.ok v:=by have e1:doF Fs FW rs [.int 7,c,d,e]=doF (λ_ _=>Fs 7 [c,d]) FW rs [.int 7,c,d,e]:=rfl;rw[e1,h];rfl
def JT(h:Fs 7 [c,d]=.ex C)(hC:C∈rs)(hw:FW [.exc C]=.ok v):doF Fs FW rs [.int 7,c,d,e]=.ok v:=by have e1:doF Fs FW rs [.int 7,c,d,e]=doF (λ_ _=>Fs 7 [c,d]) FW rs [.int 7,c,d,e]:=rfl;rw[e1,h];refine gO ?_ hw;unfold cJ;refine(An (ρ':=[some (.val (.int 7)),some (.val c),some (.val d),some (.val e),some (.val .non),some (.val .non),none]) ?_ (nX hC)).trans ?_ <;> rfl
def Dm(h:Fs 8 [c,d]=.ex C)(hC:C∈rs)(hw:FW [.exc C]=.ok v):doF Fs FW rs [.int 8,c,d,e]=.ok v:=by have e1:doF Fs FW rs [.int 8,c,d,e]=doF (λ_ _=>Fs 8 [c,d]) FW rs [.int 8,c,d,e]:=rfl;rw[e1,h];refine gO ?_ hw;unfold cJ;refine(An (ρ':=[some (.val (.int 8)),some (.val c),some (.val d),some (.val e),some (.val .non),some (.val .non),none]) ?_ (nX hC)).trans ?_ <;> rfl
def GX(h:Fs 9 [c]=.ok v):doF Fs FW rs [.int 9,c,d,e]=.ok v:=by have e1:doF Fs FW rs [.int 9,c,d,e]=doF (λ_ _=>Fs 9 [c]) FW rs [.int 9,c,d,e]:=rfl;rw[e1,h];rfl
def De(h:Fs 9 [c]=.ex C)(hC:C∈rs)(hw:FW [.exc C]=.ok v):doF Fs FW rs [.int 9,c,d,e]=.ok v:=by have e1:doF Fs FW rs [.int 9,c,d,e]=doF (λ_ _=>Fs 9 [c]) FW rs [.int 9,c,d,e]:=rfl;rw[e1,h];refine gO ?_ hw;unfold cJ;refine(An (ρ':=[some (.val (.int 9)),some (.val c),some (.val d),some (.val e),some (.val .non),some (.val .non),none]) ?_ (nX hC)).trans ?_ <;> rfl
def MN(h:Fs 10 [c]=.ok v):doF Fs FW rs [.int 10,c,d,e]=.ok v:=by have e1:doF Fs FW rs [.int 10,c,d,e]=doF (λ_ _=>Fs 10 [c]) FW rs [.int 10,c,d,e]:=rfl;rw[e1,h];rfl
def Lj(h:Fs 10 [c]=.ex C)(hC:C∈rs)(hw:FW [.exc C]=.ok v):doF Fs FW rs [.int 10,c,d,e]=.ok v:=by have e1:doF Fs FW rs [.int 10,c,d,e]=doF (λ_ _=>Fs 10 [c]) FW rs [.int 10,c,d,e]:=rfl;rw[e1,h];refine gO ?_ hw;unfold cJ;refine(An (ρ':=[some (.val (.int 10)),some (.val c),some (.val d),some (.val e),some (.val .non),some (.val .non),none]) ?_ (nX hC)).trans ?_ <;> rfl
def M8(h:Fs 11 [c]=.ok v):doF Fs FW rs [.int 11,c,d,e]=.ok v:=by have e1:doF Fs FW rs [.int 11,c,d,e]=doF (λ_ _=>Fs 11 [c]) FW rs [.int 11,c,d,e]:=rfl;rw[e1,h];rfl
def K3(h:Fs 11 [c]=.ex C)(hC:C∈rs)(hw:FW [.exc C]=.ok v):doF Fs FW rs [.int 11,c,d,e]=.ok v:=by have e1:doF Fs FW rs [.int 11,c,d,e]=doF (λ_ _=>Fs 11 [c]) FW rs [.int 11,c,d,e]:=rfl;rw[e1,h];refine gO ?_ hw;unfold cJ;refine(An (ρ':=[some (.val (.int 11)),some (.val c),some (.val d),some (.val e),some (.val .non),some (.val .non),none]) ?_ (nX hC)).trans ?_ <;> rfl
end
def xo(h:kn [d,.int 1,.int 1000000000]=.ok (.bl true)):bR C [d]=.ok .non:=by
 show aD (aF _ _ [some (.val d)])=_;unfold iE
 walk_at "run"
 all_goals rfl
def Hh(h:kn [d,.int 1,.int 1000000000]=.ok (.bl false)):bR C [d]=.ex C:=by
 show aD (aF _ _ [some (.val d)])=_;unfold iE
 walk_at "run"
 all_goals rfl
def Lk{t:D}(h1:bR C [t]=.ok .non)(h2:kn [d,.int 0,t]=.ok (.bl true)):cq C [d,t]=.ok .non:=by
 show aD (aF _ _ [some (.val d),some (.val t)])=_;unfold gq gw
 walk_at "run"
 all_goals rfl
def Hv{t:D}(h1:bR C [t]=.ex C):cq C [d,t]=.ex C:=by
 show aD (aF _ _ [some (.val d),some (.val t)])=_;unfold gq gw
 walk_at "run"
 all_goals rfl
def Ic{t:D}(h1:bR C [t]=.ok .non)(h2:kn [d,.int 0,t]=.ok (.bl false)):cq C [d,t]=.ex C:=by
 show aD (aF _ _ [some (.val d),some (.val t)])=_;unfold gq gw
 walk_at "run"
 all_goals rfl
def Gj{d T:Nat}(h1:1<=T)(h2:T<=1000000000)(h3:d<=T):cq C [.int (d:Int),.int (T:Int)]=.ok .non:=by
 refine Lk (xo ?_) ?_;·show R.ok (D.bl (decide ((1:Int)<=(T:Int)) && decide ((T:Int)<=1000000000)))=_;rw[vh (by omega),vh (by omega)];rfl
 ·show R.ok (D.bl (decide ((0:Int)<=(d:Int)) && decide ((d:Int)<=(T:Int))))=_;rw[vh (by omega),vh (by omega)];rfl
noncomputable def MA(f r:Nat):List Nat:=[91]++List.replicate f 35++List.replicate (r - f) 46++[93]
def Bz{i:Int}(h1 : -1000<=i)(h2:i<=1000):eM (.str [c]) (.int i)=some (.str (List.replicate i.toNat c)):=by have lb:=gm;simp only[eM];rw[if_pos ⟨by omega,by omega,by simp;omega⟩,yw]
def Jr{f r:Nat}(hf:f<=100)(hr:r<=100):ll [.int (f:Int),.int (r:Int)]=.ok (.str (MA f r)):=by
 have lb:=gm;have m1:eM (.str [35]) (.int (f:Int))=some (.str (List.replicate f 35)):=N2 (by omega);have m2:eM (.str [46]) (.int ((r:Int) - (f:Int)))=some (.str (List.replicate (r - f) 46)):=by rw[Bz (by omega) (by omega),show((r:Int) - (f:Int)).toNat=r - f by omega]
 have a1:fg (.str [91]) (.str (List.replicate f 35))=some (.str ([91]++List.replicate f 35)):=tW (by simp;omega);have a2:fg (.str ([91]++List.replicate f 35)) (.str (List.replicate (r - f) 46))=some (.str ([91]++List.replicate f 35++List.replicate (r - f) 46)):=tW (by simp;omega);have a3:fg (.str ([91]++List.replicate f 35++List.replicate (r - f) 46)) (.str [93])=some (.str (MA f r)):=tW (by simp;omega);generalize [91]++List.replicate f 35=u1 at *;generalize u1++List.replicate (r - f) 46=u2 at *;show aD (aF _ _ [some (.val (.int (f:Int))),some (.val (.int (r:Int)))])=_;unfold oG;clear hf hr lb
 walk_at "run"
def Ja{d r T:Nat}(h:d<=T)(hT:1<=T):d * r / T<=r:=by rw[Nat.div_le_iff_le_mul_add_pred (by omega)];have:=Nat.mul_le_mul_right r h;omega
def GF{d T w:Nat}(h1:1<=T)(h2:T<=1000000000)(h3:d<=T)(h4:3<=w)(h5:w<=40):Fv C1 C3 [.int (d:Int),.int (T:Int),.int (w:Int)]=.ok (.str (MA (d * (w - 2) / T) (w - 2))):=by
 have e2:=Gj (C:=C1) h1 h2 h3;have e3:kn [.int (w:Int),.int 3,.int 40]=.ok (.bl true):=by show R.ok (D.bl (decide ((3:Int)<=(w:Int)) && decide ((w:Int)<=40)))=_;rw[vh (by omega),vh (by omega)];rfl
 have hr:(w:Int) - 2=((w - 2:Nat):Int):=by omega
 have fl:=Ja (d:=d) (r:=w - 2) (T:=T) h3 h1;generalize hr':w - 2=r at *;have m1:eM (.int (d:Int)) (.int (r:Int))=some (.int ((d * r:Nat):Int)):=by rw[Ke (by omega)];congr 2
 have m2:me (.int ((d * r:Nat):Int)) (.int (T:Int))=some (.int ((d * r / T:Nat):Int)):=by simp only[me];rw[if_pos (by omega)];congr 2
 have b1:=Jr (f:=d * r / T) (r:=r) (by omega) (by omega);show aD (aF _ _ [some (.val (.int (d:Int))),some (.val (.int (T:Int))),some (.val (.int (w:Int))),none])=_;unfold AR Aj A3 BE;clear h1 h2 h3 h4 h5 hr' fl
 walk_at "run"
 all_goals rfl
def IS{t w:D}(h:cq C1 [d,t]=.ex C1):Fv C1 C3 [d,t,w]=.ex C1:=by
 show aD (aF _ _ [some (.val d),some (.val t),some (.val w),none])=_;unfold AR Aj A3 BE
 walk_at "run"
 all_goals rfl
def ke(hk:0<k)(h:n<10 ^ k):(qb n).length<=k:=by unfold qb;rw[List.length_map];exact(Nat.length_toDigits_le_iff (by decide) hk).2 h
def Mr{t:D}(h:cq C1 [d,t]=.ex C1):nU C1 [d,t]=.ex C1:=by
 show aD (aF _ _ [some (.val d),some (.val t)])=_;unfold rn qW
 walk_at "run"
 all_goals rfl
noncomputable def cnL(d T:Nat):List Nat:=qb d++[47]++qb T
def KB{t:D}(h:cq C1 [d,t]=.ex C1):la C1 [d,t]=.ex C1:=by
 show aD (aF _ _ [some (.val d),some (.val t)])=_;unfold mw mv
 walk_at "run"
 all_goals rfl
def LL{d T:Nat}(h1:1<=T)(h2:T<=1000000000)(h3:d<=T):la C1 [.int (d:Int),.int (T:Int)]=.ok (.str (rj (cnL T T).length (cnL d T))):=by
 have lb:=gm;have e2:=Gj (C:=C1) h1 h2 h3;have f1:=Kx (n:=d) (by omega);have f2:=Kx (n:=T) (by omega);have l1:=ke (n:=d) (k:=10) (by decide) (by omega);have l2:=ke (n:=T) (k:=10) (by decide) (by omega);have lc:∀a:Nat,(qb a).length<=10->((qb a).length<=sizeLine/\(qb a++[47]).length<=sizeLine/\(cnL a T).length<=sizeLine/\(cnL a T).length<=1000):=λa ha=>by unfold cnL;simp only[List.length_append,List.length_cons,List.length_nil];omega
 obtain⟨z1,z2,z3,_⟩:=lc d l1;obtain⟨z4,z5,z6,z7⟩:=lc T l2;have kd:lr "str" (.str (cnL d T))=true:=rfl;have r1:nc (.str (cnL d T)) [.int ((cnL T T).length:Int)]=some (.str (rj (cnL T T).length (cnL d T))):=Pm z7;have ec:∀a,qb a++[47]++qb T=cnL a T:=λ_=>rfl;have en:∀a:List Nat,([]:List Nat)++a=a:=λ_=>rfl;show aD (aF _ _ [some (.val (.int (d:Int))),some (.val (.int (T:Int)))])=_;unfold mw mv;clear h1 h2 h3 l1 l2 lc lb z7
 walk_at "run"
 all_goals rfl
section
variable{ρ1 ρ2:Ev}{g1 g2':Ev->O}{t u:Ev->R Bool}{ga:Ev->R D}{v w x:D}
def bC(h:g1 ρ=.nx ρ1):aF g1 g2' ρ=g2' ρ1:=by rw[tm,h];rfl
def wz(h:t ρ=.ok false):oIf t g1 oNx ρ=.nx ρ:=by rw[OL,h];rfl
def vy(ha:ga ρ=.ok v)(hb:gb ρ=.ok w)(h:neF v w=some (.bl false)):gB2 neF ga gb ρ=.ok false:=by rw[NH,NF,ha,R.ok_bind,hb,R.ok_bind,h];rfl
def zW(h:t ρ=.ok false)(h2:u ρ=.ok false):nM t u ρ=.ok false:=by rw[Lc,h,R.ok_bind];exact h2
def B6(h:ga ρ=.ok v):ck ga ρ=.rt v:=by rw[Ki,h];rfl
def gL(h:ga ρ=.ok v):eJ i ga ρ=.nx (ρ.set i (some (.val v))):=by rw[J5,h];rfl
def dE{f:D->D->Option D}(ha:ga ρ=.ok v)(hb:gb ρ=.ok w)(h:f v w=some x):g2 f ga gb ρ=.ok x:=by rw[NF,ha,R.ok_bind,hb,R.ok_bind,h];rfl
def Ms(h:gl ρ=.ok ds):aP gl ρ=.ok (.lst false ds):=by rw[Cr,h];rfl
def ny{g:Ev->O}(h1:asg d ρ=.ok ρ1)(h2:g ρ1=.nx ρ2):iH asg g (d::ds) ρ=iH asg g ds ρ2:=by simp only[iH,h1,R.ok_out,h2]
def D8{g:Ev->O}(h:gl ρ=.ok ds):Az asg gl g ρ=iH asg g ds ρ:=by rw[Kj,h];rfl
def cH(h:ga ρ=.ok v)(h2:gl ρ=.ok ds):ac ga gl ρ=.ok (v::ds):=by rw[AB,h,R.ok_bind,h2];rfl
inductive Ats(ge:Ev->R D)(tl:Ev):List D->List D->Prop
 |nil:Ats ge tl [] []
 |cons {d v:D} {ds vs:List D} (h:ge (some (.val d)::tl)=.ok v) (t:Ats ge tl ds vs):Ats ge tl (d::ds) (v::vs)
theorem rV{ge:Ev->R D}{tl:Ev}:∀{ds vs:List D}(a:Option Sl),Ats ge tl ds vs->kr (λ_=>R.ok true) ge ds (a::tl)=.ok vs
 |_,_,_,.nil=>rfl
 |d::ds,v::vs,a,.cons h t=>by show(fq (R.ok (some (.val d)::tl))>>=λρ1=>fq (R.ok true)>>=λk=>if k=true then fq (ge ρ1)>>=λx=>kr (λ_=>R.ok true) ge ds ρ1>>=λxs=>.ok (x::xs)else kr (λ_=>R.ok true) ge ds ρ1)=_;simp only[jh,R.ok_bind,xK,h,rV _ t]
def bg{tl:Ev}{vs:List D}(hi:gi ρ=.ok ds)(hx:mz ix ρ=none::tl)(h:Ats ge tl ds vs)(hl:vs.length<=1000):aP (dD gi ix (λ_=>R.ok true) ge) ρ=.ok (.lst false vs):=by refine Ms ?_;rw[BQ,hi,R.ok_bind,hx,rV none h,R.ok_bind,if_pos (xk hl (by decide))]
end
noncomputable def rO:D:=.str [110,111,32,116,101,120,116]
noncomputable def pU:D:=.str [110,111,32,110,117,109,98,101,114]
noncomputable def dH:D:=.str [110,111,32,114,111,111,109]
structure Times(dd:List D->R D):Prop where
 c9:dd [.int 9,.int 1000000000,.non,.non]=.ok (.str [50,55,55,55,55,55,58,52,54,58,52,48])
 c10:dd [.int 10,.str [50,55,55,55,55,55,58,52,54,58,52,48],.non,.non]=.ok (.int 1000000000)
 x:∀s∈([[50,55,55,55,55,55,58,52,54,58,52,49],[48,50,55,55,55,55,55,58,52,54,58,52,48],[48,58,54,48],[49,58,48,58,48,48],[48,58,48],[],[58],[49,58,48,48,58,48,48,58,48,48],[54,48,58,48,48],[120,58,48,48]]:List (List Nat)),dd [.int 10,.str s,.non,.non]=.ok rO
 k0:dd [.int 9,.int 0,.non,.non]=.ok (.str [48,58,48,48])
 k1:dd [.int 9,.int 59,.non,.non]=.ok (.str [48,58,53,57])
 k2:dd [.int 9,.int 60,.non,.non]=.ok (.str [49,58,48,48])
 k3:dd [.int 9,.int 3599,.non,.non]=.ok (.str [53,57,58,53,57])
 k4:dd [.int 9,.int 3600,.non,.non]=.ok (.str [49,58,48,48,58,48,48])
 k5:dd [.int 9,.int 3661,.non,.non]=.ok (.str [49,58,48,49,58,48,49])
noncomputable def qZ(dd:List D->R D):List D->R D:=λds=>aD (bT dd (aw 3 ds))
theorem sZ{ge:Ev->R D}{tl:Ev}{v:D}:∀{ds:List D},(∀d∈ds,ge (some (.val d)::tl)=.ok v)->Ats ge tl ds (List.replicate ds.length v)
 | [],_=>.nil
 |d::ds,h=>.cons (h d (v8 ..)) (sZ λd m=>h d (wB _ m))
def Fj{dd:List D->R D}(h:Times dd):qZ dd []=.ok (.bl true):=by show aD (bT dd [none,none,none])=_;unfold bT fL fD fC fN fI fP;rw[bC (gL (v:=.str [50,55,55,55,55,55,58,52,54,58,52,48]) rfl)];rw[bC (wz (zW (vy h.c9 rfl rfl) (vy h.c10 rfl rfl)))];rw[bC (gL (v:=.lst false [.str [50,55,55,55,55,55,58,52,54,58,52,49],.str [48,50,55,55,55,55,55,58,52,54,58,52,48],.str [48,58,54,48],.str [49,58,48,58,48,48],.str [48,58,48],.str [],.str [58],.str [49,58,48,48,58,48,48,58,48,48],.str [54,48,58,48,48],.str [120,58,48,48]]) rfl)];rw[bC (wz (vy (bg rfl rfl (sZ (v:=rO) λd m=>by obtain⟨s,ms,rfl⟩:=qh.1 (show d∈([[50,55,55,55,55,55,58,52,54,58,52,49],[48,50,55,55,55,55,55,58,52,54,58,52,48],[48,58,54,48],[49,58,48,58,48,48],[48,58,48],[],[58],[49,58,48,48,58,48,48,58,48,48],[54,48,58,48,48],[120,58,48,48]]:List (List Nat)).map D.str from m);exact h.x s ms) (by decide)) rfl rfl))];rw[bC (gL (v:=.lst false [.int 0,.int 59,.int 60,.int 3599,.int 3600,.int 3661]) rfl)];rw[tm,B6 (dE (bg rfl rfl (.cons h.k0 (.cons h.k1 (.cons h.k2 (.cons h.k3 (.cons h.k4 (.cons h.k5 .nil)))))) (by decide)) rfl rfl)];rfl
section
variable{ga gc:Ev->R D}{v w x y:D}
def HH{g:Ev->O}:iH asg g [] ρ=.nx ρ:=rfl
def wY{f:List D->Option D}(h:gl ρ=.ok ds)(h2:f ds=some v):gOf f gl ρ=.ok v:=by rw[O5,h,R.ok_bind,h2];rfl
def jC(h:gl ρ=.ok ds)(hl:ds.length<=1000):aP (fS gl) ρ=.ok (.lst false ds):=Ms (by rw[Ih,h,R.ok_bind,if_pos (xk hl (by decide))])
def yb(h:gl ρ=.ok ds)(hl:ds.length<=1000):aB bH (aB mkT gl) ρ=.ok ds:=by rw[uS,uS,h,R.ok_bind,m_t hl];rfl
def jl(ha:ga ρ=.ok v)(hb:gb ρ=.ok w)(hc:gc ρ=.ok x)(h:F [v,w,x]=.ok y):aG 3 F (ac ga (ac gb (ac gc λ_=>.ok []))) ρ=.ok y:=by rw[BJ,ha,R.ok_bind,hb,R.ok_bind,hc,R.ok_bind,h]
def Fz(ha:ga ρ=.ok (.bl true))(hb:gb ρ=.ok v):nS ga gb ρ=.ok v:=by rw[LC,ha,R.ok_bind,OA,R.ok_bind,if_pos rfl,hb]
end
noncomputable def CQ(a b:Int):Prop:=¬ (1<=b/\b<=1000000000/\0<=a/\a<=b)
structure Counts(dd:List D->R D):Prop where
 cn:∀{r t:Nat},1<=t->t<=1000000000->r<=t->dd [.int 6,.int (r:Int),.int (t:Int),.non]=.ok (.str (rj (cnL t t).length (cnL r t)))
 b0:∀{a b:Int},CQ a b->dd [.int 0,.int a,.int b,.int 9]=.ok pU
 b5:∀{a b:Int},CQ a b->dd [.int 5,.int a,.int b,.non]=.ok pU
 b6:∀{a b:Int},CQ a b->dd [.int 6,.int a,.int b,.non]=.ok pU
 m0:dd [.int 4,.str [91,46,93],.int 0,.non]=.ok pU
 m1:dd [.int 4,.str [91,46,93],.int 1000000001,.non]=.ok pU
 f3:∀{t:Nat},1<=t->t<=1000000000->dd [.int 0,.int (t:Int),.int (t:Int),.int 3]=.ok (.str [91,35,93])
 f40:∀{t:Nat},1<=t->t<=1000000000->dd [.int 0,.int (t:Int),.int (t:Int),.int 40]=.ok (.str (91::(List.replicate 38 35++[93])))
 r2:dd [.int 0,.int 1,.int 2,.int 2]=.ok dH
 r41:dd [.int 0,.int 1,.int 2,.int 41]=.ok dH
 k0:dd [.int 9,.int (-1),.non,.non]=.ok pU
 k1:dd [.int 9,.int 1000000001,.non,.non]=.ok pU
 k2:dd [.int 9,.non,.non,.non]=.ok pU
 k3:dd [.int 9,.bl true,.non,.non]=.ok pU
 t0:dd [.int 1,.lst false [],.int 0,.int 2]=.ok pU
 t1:dd [.int 1,.lst false [],.int 5,.int 1]=.ok pU
 t2:dd [.int 1,.lst false [],.int 5,.int 100]=.ok pU
 t3:dd [.int 1,.lst false [],.int 5,.int 99]=.ok .non
section
variable{dd:List D->R D}{t r:Nat}{N B x2 x3 x4 x5 x6 x7 x8:Option Sl}{ns:List Int}
def Gp(h:Counts dd)(h1:1<=t)(h2:t<=1000000000)(h3:r<=t):eO dd [N,B,some (.val (.int (t:Int))),some (.val (.int (r:Int))),x4,x5,x6,x7,x8]=.nx [N,B,some (.val (.int (t:Int))),some (.val (.int (r:Int))),some (.val (.str (cnL r t))),some (.val (.int (2 * ((qb t).length:Int)+1))),x6,x7,x8]:=by
 have l1:=ke (n:=r) (k:=10) (by decide) (by omega);have l2:=ke (n:=t) (k:=10) (by decide) (by omega);have lb:=gm;have lc:∀a:Nat,(cnL a t).length=(qb a).length+1+(qb t).length:=λa=>by unfold cnL;simp only[List.length_append,List.length_cons,List.length_nil]
 have c1:=lc r;have c2:=lc t;unfold eO;rw[bC (gL (v:=.str (cnL r t)) (dE (dE (wY (ds:=[.int (r:Int)]) rfl (I9 (by omega))) rfl (tW (by simp only[w8,l7];omega))) (wY (ds:=[.int (t:Int)]) rfl (I9 (by omega))) (tW (by simp only[uC,w8,l7];omega))))];rw[bC (gL (dE (dE rfl (wY (cH (wY (ds:=[.int (t:Int)]) rfl (I9 (by omega))) rfl) rfl) (AQ (by omega))) rfl rfl))];rw[bC (wz (vy (h.cn h1 h2 h3) (dE (dE rfl (dE rfl (wY (ds:=[.str (cnL r t)]) rfl rfl) rfl) (Bz (by omega) (by omega))) rfl (tW (by rw[sh];omega))) (by rw[MC,show(((2:Int) * ((qb t).length:Int)+1) - ((cnL r t).length:Int)).toNat=(cnL t t).length - (cnL r t).length by omega];unfold rj;simp)))];rfl
def CU(h:Counts dd){a b:Int}(hb:CQ a b):eW dd [N,B,x2,x3,x4,x5,some (.val (.int a)),some (.val (.int b)),x8]=.nx [N,B,x2,x3,x4,x5,some (.val (.int a)),some (.val (.int b)),some (.val (.lst false [pU,pU,pU]))]:=by unfold eW;rw[bC (gL (jC (cH (h.b0 hb) (cH (h.b5 hb) (cH (h.b6 hb) rfl))) (by decide))),bC (wz (vy rfl rfl rfl))];rfl
def Ed(h:Counts dd)(h1:1<=t)(h2:t<=1000000000):∃y3 y4 y5 y6 y7 y8,eU nJ dd [some (.val (.lst fz (ns.map .int))),some (.val (.int 1000000000)),some (.val (.int (t:Int))),x3,x4,x5,x6,x7,x8]=.nx [some (.val (.lst fz (ns.map .int))),some (.val (.int 1000000000)),some (.val (.int (t:Int))),y3,y4,y5,y6,y7,y8]:=by
 obtain⟨p1,p2⟩:=gA ns 3 (m:=(t:Int)+1) (by omega);have hp:=iJ (fz:=fz) (ns:=ns) (n:=3) (m:=(t:Int)+1) (by omega);obtain⟨p,e⟩:∃p:Nat,Aa ns 3 ((t:Int)+1)=(p:Int):=⟨_,(r0 p1).symm⟩
 rw[e]at hp p2;unfold eU;rw[tm,D8 (yb (cH rfl (cH rfl (cH (jl rfl rfl rfl hp) rfl))) (by simp)),ny rfl (Gp (r:=0) h h1 h2 (by omega)),ny rfl (Gp (r:=t) h h1 h2 (by omega)),ny rfl (Gp (r:=p) h h1 h2 (by omega))];rw[HH,Mv,tm,D8 (yb (ds:=[.tup [.int 0,.int 0],.tup [.int (-1),.int (t:Int)],.tup [.int ((t:Int)+1),.int (t:Int)],.tup [.int 0,.int 1000000001]]) rfl (by simp)),ny rfl (CU h (by unfold CQ;omega)),ny rfl (CU h (by unfold CQ;omega)),ny rfl (CU h (by unfold CQ;omega)),ny rfl (CU h (by unfold CQ;omega))];rw[HH,Mv,bC (wz (vy (bg (ds:=[.int 0,.int 1000000001]) rfl rfl (.cons h.m0 (.cons h.m1 .nil)) (by decide)) rfl rfl))];rw[bC (wz (vy (bg (ds:=[.int 3,.int 40]) rfl rfl (.cons (h.f3 h1 h2) (.cons (h.f40 h1 h2) .nil)) (by decide)) rfl rfl))];exact⟨_,_,_,_,_,_,rfl⟩
noncomputable def ml(dd:List D->R D):List D->R D:=λds=>aD (cI nJ dd (aw 9 ds))
def AF(h:Counts dd):ml dd [.lst fz (ns.map .int)]=.ok (.bl true):=by
 show aD (cI nJ dd [some (.val (.lst fz (ns.map .int))),none,none,none,none,none,none,none,none])=_;obtain⟨p1,p2⟩:=gA ns 1 (m:=999) (by decide);have hp:=iJ (fz:=fz) (ns:=ns) (n:=1) (m:=999) (by decide);obtain⟨p,e⟩:∃p:Nat,Aa ns 1 999=(p:Int):=⟨_,(r0 p1).symm⟩
 rw[e]at hp p2;obtain⟨q1,q2⟩:=gA ns 2 (m:=1000000000) (by decide);have hq:=iJ (fz:=fz) (ns:=ns) (n:=2) (m:=1000000000) (by decide);obtain⟨q,e⟩:∃p:Nat,Aa ns 2 1000000000=(p:Int):=⟨_,(r0 q1).symm⟩
 rw[e]at hq q2;unfold cI ic hV;rw[bC (gL (v:=.int 1000000000) rfl)];rw[tm,D8 (yb (ds:=[.int 1,.int 1000000000,.int ((1+p:Nat):Int),.int ((1+q:Nat):Int)]) (cH rfl (cH rfl (cH (dE rfl (jl rfl rfl rfl hp) (by rw[Bi];simp)) (cH (dE rfl (jl rfl rfl rfl hq) (by rw[Bi];simp)) rfl)))) (by simp))];obtain⟨_,_,_,_,_,_,e⟩:=Ed (t:=1) (fz:=fz) (ns:=ns) (x3:=none) (x4:=none) (x5:=none) (x6:=none) (x7:=none) (x8:=none) h (by decide) (by decide);rw[ny rfl e];obtain⟨_,_,_,_,_,_,e⟩:=Ed (t:=1000000000) (fz:=fz) (ns:=ns) h (by decide) (by decide);rw[ny rfl e];obtain⟨_,_,_,_,_,_,e⟩:=Ed (t:=1+p) (fz:=fz) (ns:=ns) h (by omega) (by omega);rw[ny rfl e];obtain⟨_,_,_,_,_,_,e⟩:=Ed (t:=1+q) (fz:=fz) (ns:=ns) h (by omega) (by omega);rw[ny rfl e];rw[HH,Mv];unfold ik hU ia;rw[bC (wz (vy (bg (ds:=[.int 2,.int 41]) rfl rfl (.cons h.r2 (.cons h.r41 .nil)) (by decide)) rfl rfl))];rw[bC (gL (v:=.lst false [pU,pU,pU,pU,pU]) (dE (bg (ds:=[.int (-1),.int 1000000001,.non,.bl true]) rfl rfl (.cons h.k0 (.cons h.k1 (.cons h.k2 (.cons h.k3 .nil)))) (by decide)) (jC (cH h.t0 rfl) (by decide)) rfl))];rw[tm,B6 (Fz (dE (dE rfl (bg (ds:=[.int 1,.int 100]) rfl rfl (.cons h.t1 (.cons h.t2 .nil)) (by decide)) rfl) rfl rfl) (dE h.t3 rfl rfl))];rfl
end
noncomputable def jL(m:Nat):D:=.tup (List.replicate (m+1) (.tup [.str [97,98],.str [60]]))
noncomputable def rg(m:Nat):D:=.tup (List.replicate (m+1) (.str [120]))
noncomputable def pO(m:Nat)(i:Int):D:=.lst false (List.replicate (m+1) (.int i))
structure Cols(dd:List D->R D):Prop where
 w1:∀{m:Nat},m<6->dd [.int 3,jL m,.lst false [rg m],.int (2 * ((m+1:Nat):Int) - 1)]=.ok (pO m 1)
 w2:∀{m:Nat},m<6->dd [.int 3,jL m,.lst false [rg m],.int (2 * ((m+1:Nat):Int) - 2)]=.ok dH
 w3:∀{m:Nat},m<6->dd [.int 3,jL m,.lst false [rg m],.int 40]=.ok (pO m 2)
 w4:∀{m:Nat},m<6->dd [.int 3,jL m,.lst false [rg m],.int 41]=.ok dH
 cu:∀{x:List Nat}{w:Nat},plain x=true->x.length<=10->1<=w->w<=40->dd [.int 7,.str x,.int (w:Int),.non]=.ok (.str (wJ w x))
 c0:∀{x:List Nat},plain x=true->x.length<=10->dd [.int 7,.str x,.int 0,.non]=.ok dH
 c41:∀{x:List Nat},plain x=true->x.length<=10->dd [.int 7,.str x,.int 41,.non]=.ok dH
 ft:∀{x:List Nat}{w:Nat},plain x=true->x.length<=10->1<=w->w<=40->dd [.int 2,.str x,.int (w:Int),.str [60]]=.ok (.str (lj w (wJ w x)))
 b0:dd [.int 8,.int 0,.int 1,.non]=.ok dH
 b41:dd [.int 8,.int 41,.int 1,.non]=.ok dH
 b10:dd [.int 8,.int 1,.int 0,.non]=.ok dH
 b13:dd [.int 8,.int 1,.int 13,.non]=.ok dH
section
variable{m:Nat}{C6:Addr}
def Na:∀{m:Nat},m<6->eM (.tup [.tup [.str [97,98],.str [60]]]) (.int ((m+1:Nat):Int))=some (jL m)
 | 0,_=>rfl|1,_=>rfl|2,_=>rfl|3,_=>rfl|4,_=>rfl|5,_=>rfl
def NZ:∀{m:Nat},m<6->eM (.tup [.str [120]]) (.int ((m+1:Nat):Int))=some (rg m)
 | 0,_=>rfl|1,_=>rfl|2,_=>rfl|3,_=>rfl|4,_=>rfl|5,_=>rfl
def Jz{i:Int}:∀{m:Nat},m<6->eM (.lst false [.int i]) (.int ((m+1:Nat):Int))=some (pO m i)
 | 0,_=>rfl|1,_=>rfl|2,_=>rfl|3,_=>rfl|4,_=>rfl|5,_=>rfl
def Qz:∀{m:Nat},m<6->Fy [jL m,.lst false (List.replicate 9 (rg m))]=.ok (.bl true)
 | 0,_=>rfl|1,_=>rfl|2,_=>rfl|3,_=>rfl|4,_=>rfl|5,_=>rfl
def M0:∀{m:Nat},m<6->Fy [jL m,.lst false (List.replicate 10 (rg m))]=.ok (.bl false)
 | 0,_=>rfl|1,_=>rfl|2,_=>rfl|3,_=>rfl|4,_=>rfl|5,_=>rfl
def M6:∀{m:Nat},m<6->∃L:List D,tbF C6 C7 C3 C1 [jL m,.lst false (List.replicate 9 (rg m)),.int 40]=.ok (.lst false L)/\iC [.lst false L]=some (.int 11)
 | 0,_=>⟨_,rfl,rfl⟩|1,_=>⟨_,rfl,rfl⟩|2,_=>⟨_,rfl,rfl⟩|3,_=>⟨_,rfl,rfl⟩|4,_=>⟨_,rfl,rfl⟩|5,_=>⟨_,rfl,rfl⟩
def Qr:∀{m:Nat},m<6->neF (.lst false [pO m 1,dH,pO m 2,dH]) (.lst false [pO m 1,dH,pO m 2,dH])=some (.bl false)
 | 0,_=>rfl|1,_=>rfl|2,_=>rfl|3,_=>rfl|4,_=>rfl|5,_=>rfl
def Py:∀{m:Nat},m<6->wdF C6 C3 [jL m,.lst false [rg m],.int (2 * ((m+1:Nat):Int) - 1)]=.ok (pO m 1)
 | 0,_=>rfl|1,_=>rfl|2,_=>rfl|3,_=>rfl|4,_=>rfl|5,_=>rfl
def Qe:∀{m:Nat},m<6->wdF C6 C3 [jL m,.lst false [rg m],.int (2 * ((m+1:Nat):Int) - 2)]=.ex C3
 | 0,_=>rfl|1,_=>rfl|2,_=>rfl|3,_=>rfl|4,_=>rfl|5,_=>rfl
def Ow:∀{m:Nat},m<6->wdF C6 C3 [jL m,.lst false [rg m],.int 40]=.ok (pO m 2)
 | 0,_=>rfl|1,_=>rfl|2,_=>rfl|3,_=>rfl|4,_=>rfl|5,_=>rfl
def NX:∀{m:Nat},m<6->wdF C6 C3 [jL m,.lst false [rg m],.int 41]=.ex C3
 | 0,_=>rfl|1,_=>rfl|2,_=>rfl|3,_=>rfl|4,_=>rfl|5,_=>rfl
def M9:soF C1 C3 [.lst false [.int 99,.int 99],.int 999]=.ok (.lst false [.int 99,.int 99]):=rfl
def Pj:soF C1 C3 [.lst false [.int 99],.int 0]=.ok (.lst false [.int 0]):=rfl
def Nq:∃d,eP C3 [.int 40,.int 12]=.ok d/\ixD d (.int 0)=some (.int 40):=⟨_,rfl,rfl⟩
end
section
variable{dd:List D->R D}{C6:Addr}{ns:List Int}{ρ1:Ev}{ga:Ev->R D}{v w':D}{g:Ev->O}
def Fr(h:gl ρ=.ok ds):zZ i gl ρ=.nx (ρ.set i (some (.own ds))):=by rw[Kh,h];rfl
def FJ(h:frz i ρ=ρ1):zw i g ρ=g ρ1:=by rw[LJ,h]
def Fu(h:gl ρ=.ok ds)(hl:ds.length<=1000):aB mkT gl ρ=.ok (.tup ds):=by rw[uS,h,R.ok_bind,m_t hl]
def Mo(h:ga ρ=.ok v)(h2:asg v ρ=.ok ρ1):Mx asg ga ρ=.nx ρ1:=by rw[Mf,h,R.ok_out,h2];rfl
def JK{es:List D}(h0:ownAt ρ i=.ok ds)(h:ga ρ=.ok (.lst false es))(hl:ds.length+es.length<=1000):Jb i ga ρ=.nx (ρ.set i (some (.own (ds++es)))):=by rw[LQ,h0,R.ok_out,h,R.ok_out,asl,R.ok_out,if_pos (xk hl (by decide))]
def jZ{y:D}(ha:ga ρ=.ok v)(hb:gb ρ=.ok w')(h:F [v,w']=.ok y):aG 2 F (ac ga (ac gb λ_=>.ok [])) ρ=.ok y:=by rw[Ck,ha,R.ok_bind,hb,R.ok_bind,h]
def EZ{tl:Ev}{vs:List D}(hi:gi ρ=.ok ds)(hx:mz ix ρ=none::tl)(h:Ats ge tl ds vs)(hl:vs.length<=1000):dD gi ix (λ_=>R.ok true) ge ρ=.ok vs:=by rw[BQ,hi,R.ok_bind,hx,rV none h,R.ok_bind,if_pos (xk hl (by decide))]
def Iu(h:Cols dd){m:Nat}(hm:m<6)(k:Ev->O){N:Option Sl}:∃y4,aF dv (aF (dt Fy) (aF (de Fy) (zw 4 (aF dj (aF (dk dd) (zw 4 (aF (di (tbF C6 C7 C3 C1)) k))))))) [N,some (.val (.int ((m+1:Nat):Int))),none,none,none,none,none,none]=k [N,some (.val (.int ((m+1:Nat):Int))),some (.val (jL m)),some (.val (rg m)),y4,none,none,none]:=by
 obtain⟨L,t1,t2⟩:=M6 (C6:=C6) (C7:=C7) (C3:=C3) (C1:=C1) hm;have lc:(List.replicate (m+1) (D.tup [.str [97,98],.str [60]])).length<=1000:=by rw[sh];omega
 unfold dv dt de dj dk di;rw[bC (Mo (Fu (cH (dE rfl rfl (Na hm)) (cH (dE rfl rfl (NZ hm)) rfl)) (by simp)) (ρ1:=[N,some (.val (.int ((m+1:Nat):Int))),some (.val (jL m)),some (.val (rg m)),none,none,none,none]) rfl)];rw[bC (Fr (ds:=[.bl true,.bl false]) (by rw[Ih,cH (jZ rfl (dE (w:=.int 9) (jC (ds:=[rg m]) rfl (by simp)) rfl rfl) (Qz hm)) (cH (jZ rfl (dE (w:=.int 10) (jC (ds:=[rg m]) rfl (by simp)) rfl rfl) (M0 hm)) rfl)];rfl))];rw[bC (JK (ds:=[.bl true,.bl false]) rfl (jC (ds:=[.bl false,.bl false]) rfl (by decide)) (by decide))];rw[FJ (ρ1:=[N,some (.val (.int ((m+1:Nat):Int))),some (.val (jL m)),some (.val (rg m)),some (.val (.lst false [.bl true,.bl false,.bl false,.bl false])),none,none,none]) rfl];rw[bC (wz (vy rfl rfl rfl))];rw[bC (Fr (EZ (yb (ds:=[.int (2 * ((m+1:Nat):Int) - 1),.int (2 * ((m+1:Nat):Int) - 2),.int 40,.int 41]) (cH (dE (dE rfl rfl (AQ (by decide))) rfl rfl) (cH (dE (dE rfl rfl (AQ (by decide))) rfl rfl) rfl)) (by simp)) rfl (.cons (h.w1 hm) (.cons (h.w2 hm) (.cons (h.w3 hm) (.cons (h.w4 hm) .nil)))) (by simp)))];rw[FJ (ρ1:=[N,some (.val (.int ((m+1:Nat):Int))),some (.val (jL m)),some (.val (rg m)),some (.val (.lst false [pO m 1,dH,pO m 2,dH])),none,none,none]) rfl];rw[bC (wz (zW (vy rfl (jC (cH (dE (jC (ds:=[.int 1]) rfl (by decide)) rfl (Jz hm)) (cH (v:=dH) rfl (cH (dE (jC (ds:=[.int 2]) rfl (by decide)) rfl (Jz hm)) (cH (v:=dH) rfl rfl)))) (by simp)) (Qr hm)) (vy (wY (cH (jl rfl (dE (w:=.int 9) (jC (ds:=[rg m]) rfl (by simp)) rfl rfl) rfl t1) rfl) t2) rfl rfl)))];exact⟨_,rfl⟩
variable{x:List Nat}{N M c r x4 x6 x7:Option Sl}
def N7(h:Cols dd)(hp:plain x=true)(hl:x.length<=10){w:Nat}(h1:1<=w)(h2:w<=40):cr dd [N,M,c,r,x4,some (.val (.str x)),some (.val (.int (w:Int))),x7]=.nx [N,M,c,r,x4,some (.val (.str x)),some (.val (.int (w:Int))),some (.val (.str (wJ w x)))]:=by
 have lb:=gm;have lw:=Fh h1 x;have e:gIf (gB2 leD (gOf iC (ac (rvz 5) nlz)) (rvz 6)) (rvz 5) (g2 fg (gSl (rvz 5) (λ_=>R.ok none) (sd (g2 mx (rvz 6) (ciz 1)))) (csz [126])) [N,M,c,r,x4,some (.val (.str x)),some (.val (.int (w:Int))),x7]=.ok (.str (wJ w x)):=by
  have e0:gB2 leD (gOf iC (ac (rvz 5) nlz)) (rvz 6) [N,M,c,r,x4,some (.val (.str x)),some (.val (.int (w:Int))),x7]=.ok (decide ((x.length:Int)<=(w:Int))):=rfl;rw[Lp,e0,R.ok_bind];unfold wJ;by_cases q:x.length<=w;·rw[if_pos (by rw[pi];omega),if_pos q];rfl
  ·rw[if_neg (by rw[pi];omega),if_neg q];refine dE (v:=.str (x.take (w - 1))) ?_ rfl (tW (by rw[qT];simp only[w8,l7];omega));show R.ok (D.str (rm x none (some ((w:Int) - 1))))=_
   congr 2
   unfold rm;rw[show((w:Int) - 1)=((w - 1:Nat):Int) by omega];simp only[HT.sIx_none,HT.sIx_nat,nE,Nat.sub_zero];rw[Nat.min_eq_left (by omega)]
 unfold cr;rw[bC (gL e)];rw[bC (wz (zW (vy (h.cu hp hl h1 h2) rfl (by rw[MC];simp)) (vy (h.ft hp hl h1 h2) (dE rfl (dE rfl (dE rfl (wY (ds:=[.str (wJ w x)]) rfl rfl) rfl) (Bz (by omega) (by omega))) (tW (by rw[sh];omega))) (by rw[MC,show((w:Int) - ((wJ w x).length:Int)).toNat=w - (wJ w x).length by omega];unfold lj;simp))))];rfl
theorem Ax(h:Cols dd)(hp:plain x=true)(hl:x.length<=10):∀(L:List Nat),(∀w∈L,1<=w/\w<=40)->∀x6 x7,∃y6 y7,iH (wb 6) (cr dd) (L.map λ(w:Nat)=>D.int (w:Int)) [N,M,c,r,x4,some (.val (.str x)),x6,x7]=.nx [N,M,c,r,x4,some (.val (.str x)),y6,y7]
 | [],_,x6,x7=>⟨_,_,rfl⟩
 |w::L,hL,x6,x7=>by obtain⟨h1,h2⟩:=hL w (v8 ..);show ∃y6 y7,iH _ _ (D.int (w:Int)::L.map λ(w:Nat)=>D.int (w:Int)) _=_;rw[ny rfl (N7 h hp hl h1 h2)];exact Ax h hp hl L (λw m=>hL w (wB _ m)) _ _
noncomputable def ze(dd:List D->R D)(tb bk so:List D->R D):List D->R D:=λds=>aD (bL nJ Fy dd tb bk so (aw 8 ds))
def LX:∀{q:Nat},q<10->∃x:List Nat,plain x=true/\x.length<=10/\rm [97,98,99,100,101,102,103,104,105,106] none (some ((1+q:Nat):Int))=x
 | 0,_=>⟨_,rfl,by decide,rfl⟩|1,_=>⟨_,rfl,by decide,rfl⟩|2,_=>⟨_,rfl,by decide,rfl⟩|3,_=>⟨_,rfl,by decide,rfl⟩|4,_=>⟨_,rfl,by decide,rfl⟩|5,_=>⟨_,rfl,by decide,rfl⟩|6,_=>⟨_,rfl,by decide,rfl⟩|7,_=>⟨_,rfl,by decide,rfl⟩|8,_=>⟨_,rfl,by decide,rfl⟩|9,_=>⟨_,rfl,by decide,rfl⟩
def IG(h:Cols dd):ze dd (tbF C6 C7 C3 C1) (eP C3) (soF C1 C3) [.lst fz (ns.map .int)]=.ok (.bl true):=by
 show aD (bL nJ Fy dd (tbF C6 C7 C3 C1) (eP C3) (soF C1 C3) [some (.val (.lst fz (ns.map .int))),none,none,none,none,none,none,none])=_;obtain⟨p1,p2⟩:=gA ns 10 (m:=6) (by decide);have hp:=iJ (fz:=fz) (ns:=ns) (n:=10) (m:=6) (by decide);obtain⟨p,e⟩:∃p:Nat,Aa ns 10 6=(p:Int):=⟨_,(r0 p1).symm⟩
 rw[e]at hp p2;obtain⟨q1,q2⟩:=gA ns 11 (m:=10) (by decide);have hq:=iJ (fz:=fz) (ns:=ns) (n:=11) (m:=10) (by decide);obtain⟨q,e⟩:∃p:Nat,Aa ns 11 10=(p:Int):=⟨_,(r0 q1).symm⟩
 rw[e]at hq q2;obtain⟨x,xp,xl,ex⟩:=LX (q:=q) (by omega);obtain⟨b,hb,b4⟩:=Nq (C3:=C3);unfold bL fb;rw[bC (gL (v:=.int ((p+1:Nat):Int)) (dE rfl (jl rfl rfl rfl hp) (by rw[Bi,Int.add_comm];rfl)))];obtain⟨y4,e4⟩:=Iu (C6:=C6) (C7:=C7) (C3:=C3) (C1:=C1) (N:=some (.val (.lst fz (ns.map .int)))) h (m:=p) (by omega) (aF (dn nJ) (aF (cU dd) (aF (cV dd) (aF (cT dd (eP C3)) (aF (cR (soF C1 C3)) oNx)))));refine(vF aD e4).trans ?_;unfold dn cU cV cT cR;rw[bC (gL (v:=.str x) (by rw[OG,R.ok_bind,R.ok_bind,FR,dE (x:=.int ((1+q:Nat):Int)) rfl (jl rfl rfl rfl hq) (by rw[Bi];simp)];rw[<- ex];rfl))];obtain⟨y6,y7,el⟩:=Ax h xp xl [1,2,3,4,5,6,7,8,9,10,11] (by decide) (N:=some (.val (.lst fz (ns.map .int)))) (M:=some (.val (.int ((p+1:Nat):Int)))) (c:=some (.val (jL p))) (r:=some (.val (rg p))) (x4:=y4) none none;refine(vF aD (bC ((D8 (ds:=([1,2,3,4,5,6,7,8,9,10,11]:List Nat).map λ(w:Nat)=>D.int (w:Int)) rfl).trans el))).trans ?_;rw[bC (gL (v:=.lst false [dH,dH,dH,dH]) (dE (bg (ds:=[.int 0,.int 41]) rfl rfl (.cons (h.c0 xp xl) (.cons (h.c41 xp xl) .nil)) (by decide)) (bg (ds:=[.int 0,.int 41]) rfl rfl (.cons h.b0 (.cons h.b41 .nil)) (by decide)) rfl))];rw[bC (wz (zW (vy (dE rfl (bg (ds:=[.int 0,.int 13]) rfl rfl (.cons h.b10 (.cons h.b13 .nil)) (by decide)) rfl) rfl rfl) (vy (dE (jZ rfl rfl hb) rfl b4) rfl rfl)))];rw[tm,B6 (Fz (dE (jZ (jC (ds:=[.int 99,.int 99]) rfl (by decide)) rfl M9) rfl rfl) (dE (jZ (jC (ds:=[.int 99]) rfl (by decide)) rfl Pj) rfl rfl))];rfl
end
noncomputable def yY:D:=match eP 0 [.int 20,.int 12]with
 |.ok d=>d
 |_=>.non
noncomputable def bdS(a b:D)(c:List D)(kds:List (Int×D))(n:Int):List (Nat×Fd):=[(2,.val a),(3,.val b),(4,.own c),(5,.dic kds),(6,.val (.int n))]
noncomputable def zR:MF
 | [],[.int i]=>if i=20 then .ok .non (bdS (.int 20) yY [] [] 0)else .no
 |_,_=>.no
noncomputable def bdD:List (Nat×Fd)->Option (D×D×List D×List (Int×D)×Int)
 | [(2,.val a),(3,.val b),(4,.own c),(5,.dic kds),(6,.val (.int n))]=>some (a,b,c,kds,n)
 |_=>none
def Me{fs:List (Nat×Fd)}{a b:D}{c:List D}{n:Int}(h:bdD fs=some (a,b,c,kds,n)):fs=bdS a b c kds n:=by
 unfold bdD at h;split at h;·cases h;rfl
 ·cases h
noncomputable def HN:MF:=λfs ds=>match bdD fs,ds with
 |some (a,b,c,kds,n),[.str x,.int t]=>if x=[120]/\1<=t/\t<=1000000000/\kds.length<9/\(kds.any λx=>x.1==n)=false then .ok (.int n) (bdS a b c (kds++[(n,.tup [.int n,.str x,.int 0,.int t])]) (n+1))else .no
 |_,_=>.no
section
variable{p:Addr}{fs:List (Nat×Fd)}{ga:Ev->R D}{v w:D}
def LV(h:ρ[i]?=some (some (.obj m C p fs))):Jk C ρ i=.ok fs:=by unfold Jk;rw[h];exact if_pos rfl
def zF(h:ρ[i]?=some (some (.obj true C p fs))):CN C ρ i=.ok (p,fs):=by unfold CN;rw[h];exact if_pos rfl
def xB(h:ρ[i]?=some (some (.obj true C p fs)))(h2:ga ρ=.ok d)(hl:fs.length<900):zh C i k ga ρ=.nx (ρ.set i (some (.obj true C p (mi k (.val d) fs)))):=by unfold zh;rw[zF h,R.ok_out,h2,R.ok_out,if_pos hl]
def HI(h:ρ[i]?=some (some (.obj true C p fs)))(h2:gl ρ=.ok ds)(hl:fs.length<900):Db C i k gl ρ=.nx (ρ.set i (some (.obj true C p (mi k (.own ds) fs)))):=by unfold Db;rw[zF h,R.ok_out,h2,R.ok_out,if_pos hl]
def Hs(h:ρ[i]?=some (some (.obj true C p fs)))(hl:fs.length<900):ET C i k ρ=.nx (ρ.set i (some (.obj true C p (mi k (.dic []) fs)))):=by unfold ET;rw[zF h,R.ok_out,if_pos hl]
def A5(h:ga ρ=.ok v):jJ ga ρ=.nx ρ:=by rw[FZ,h];rfl
def nP(ha:ga ρ=.ok v)(h:F [v]=.ok w):aG 1 F (ac ga λ_=>.ok []) ρ=.ok w:=by rw[BP,ha,R.ok_bind,h]
def Nl:eP C3 [.int 20,.int 12]=.ok yY:=rfl
def BO{g:Ev->O}{F:MF}(h:∀p fs ds,F fs ds=.no\/∃d fs',F fs ds=.ok d fs'/\∃ρ',ρ'[0]?=some (some (.obj true C p fs'))/\(g (ie true C p fs n ds)=.re d ρ'\/(g (ie true C p fs n ds)=.nx ρ'/\d=.non))):rH C g n F:=by
 intro p fs ds;rcases h p fs ds with e|⟨d,fs',e,r⟩;·rw[e];trivial
 ·rw[e];exact r
def GZ:rH C (fA C kn (eP C3) C3) 2 zR:=by
 refine BO λp fs ds=>?_;unfold zR;split
 ·rename_i i;by_cases h:i=20;·subst h;refine .inr ⟨.non,bdS (.int 20) yY [] [] 0,if_pos rfl,[some (.obj true C p (bdS (.int 20) yY [] [] 0)),some (.val (.int 20))],rfl,.inr ⟨?_,rfl⟩⟩;show fA C kn (eP C3) C3 [some (.obj true C p []),some (.val (.int 20))]=_;unfold fA lD lK lA lg ly lf;rw[bC (wz rfl),bC (xB rfl rfl (by decide)),bC (xB rfl (jZ rfl rfl Nl) (by decide)),bC (HI rfl rfl (by decide)),bC (Hs rfl (by decide)),bC (xB rfl rfl (by decide))];rfl
  ·exact .inl (if_neg h)
 ·exact .inl rfl
def Pk(h:n<9):geD (.int (n:Int)) (.int 9)=some (.bl false):=by show some (D.bl (decide ((9:Int)<=(n:Int))))=_;rw[show decide ((9:Int)<=(n:Int))=false by rw[Z8];omega]
def EX{n:Int}(h:ρ[i]?=some (some (.obj true C p fs)))(h1:fs.lookup k=some (.dic kds))(h2:ga ρ=.ok d)(h3:gk ρ=.ok (.int n))(hl:kds.length<900/\(kds.any λx=>x.1==n)=false):xV C i k gk ga ρ=.nx (ρ.set i (some (.obj true C p (mi k (.dic (kds++[(n,d)])) fs)))):=by
 have e:Jg fs k=.ok kds:=by unfold Jg;rw[h1]
 unfold xV;rw[zF h,R.ok_out,e,R.ok_out,h2,jh,R.ok_out,h3,jh,R.ok_out];exact if_pos hl
def Ik{n m:Int}(h:ρ[i]?=some (some (.obj true C p fs)))(h1:fs.lookup k=some (.val (.int n)))(h2:ga ρ=.ok (.int m))(hl:fs.length<900):C4 C i k ga ρ=.nx (ρ.set i (some (.obj true C p (mi k (.val (.int (n+m))) fs)))):=by
 have e:Jc fs k=.ok (.int n):=by unfold Jc;rw[h1]
 unfold C4;rw[zF h,R.ok_out,e,R.ok_out,h2,jh,R.ok_out];exact if_pos hl
def L8:rH C (gf C (Fl C7) (bR C1) C3) 4 HN:=by
 refine BO λp fs ds=>?_;unfold HN;split
 ·rename_i a b c kds n x t hb;have:=Me hb;subst this;by_cases h:x=[120]/\1<=t/\t<=1000000000/\kds.length<9/\(kds.any λx=>x.1==n)=false
  ·obtain⟨rfl,h1,h2,h3,h4⟩:=h;refine .inr ⟨_,_,if_pos ⟨rfl,h1,h2,h3,h4⟩,[some (.obj true C p (bdS a b c (kds++[(n,.tup [.int n,.str [120],.int 0,.int t])]) (n+1))),some (.val (.str [120])),some (.val (.int t)),some (.val (.int n))],rfl,.inl ?_⟩;show gf C (Fl C7) (bR C1) C3 [some (.obj true C p (bdS a b c kds n)),some (.val (.str [120])),some (.val (.int t)),none]=_;have et:bR C1 [.int t]=.ok .non:=xo (by rw[nR,vh h1,vh h2];rfl);have e5:yy C 0 5 [some (.obj true C p (bdS a b c kds n)),some (.val (.str [120])),some (.val (.int t)),none]=.ok (.int (kds.length:Int)):=by unfold yy;rw[LV (m:=true) (p:=p) (fs:=bdS a b c kds n) rfl,R.ok_bind];rfl
   have e6:DS C 0 6 [some (.obj true C p (bdS a b c kds n)),some (.val (.str [120])),some (.val (.int t)),none]=.ok (.int n):=by unfold DS;rw[LV (m:=true) (p:=p) (fs:=bdS a b c kds n) rfl,R.ok_bind];rfl
   unfold gf mS mK mL mU mY mW mZ;rw[bC (A5 (nP (v:=.str [120]) (w:=.non) rfl rfl)),bC (A5 (nP rfl et))];rw[bC (wz (by rw[NH,dE e5 rfl (Pk h3)];rfl)),bC (gL e6)];rw[bC (EX rfl rfl (Fu (ds:=[.int n,.str [120],.int 0,.int t]) rfl (by simp)) rfl ⟨by omega,h4⟩)];rw[bC (Ik rfl rfl (m:=1) rfl (by show 5<900;decide))];rfl
  ·exact .inl (if_neg h)
 ·exact .inl rfl
end
noncomputable def N8(x:List Nat):D:=.tup [.str [115,97,121],.str x]
noncomputable def l4(a:Nat):List D:=([List.replicate a 97,List.replicate (40 - a) 98].filter λx=>x != []).map N8
noncomputable def v6(a:Nat):D:=match eG 0 [.lst false (l4 a++[N8 [99]])]with
 |.ok d=>d
 |_=>.non
structure Ords(dd:List D->R D):Prop where
 x:∀s∈([[103,111,32,49,10],[103,111,32,49,32,49,48,48,10],[103,111,32,49,48,48,32,49,10],[103,111,32,48,49,32,49,10],[103,111,32,49,50,32,49,10],[103,111,32,49,32,52,49,10],[103,111,32,49,32,49,32,49,10],[115,97,121,32,10]]:List (List Nat)),dd [.int 11,.str s,.non,.non]=.ok rO
 o:dd [.int 11,.str [103,111,32,49,49,32,52,48,10],.non,.non]=.ok (.lst false [.tup [.str [103,111],.int 11,.int 40]])
section
variable{N:Option Sl}
def JZ(k:Ev->O):∀{a:Nat},a<41->aF yr (aF yB (aF yG (zw 4 (aF (yp (eG C2)) (aF (yA (eG C2)) k))))) [N,some (.val (.int (a:Int))),none,none,none,none,none,none,none]=k [N,some (.val (.int (a:Int))),some (.val (.str (List.replicate a 97))),some (.val (.str (List.replicate (40 - a) 98))),some (.val (.lst false (l4 a))),some (.val (.lst false [N8 (List.replicate a 97++List.replicate (40 - a) 98)])),some (.val (v6 a)),none,none]
 | 0,_=>rfl|1,_=>rfl|2,_=>rfl|3,_=>rfl|4,_=>rfl|5,_=>rfl|6,_=>rfl|7,_=>rfl|8,_=>rfl|9,_=>rfl|10,_=>rfl|11,_=>rfl|12,_=>rfl|13,_=>rfl|14,_=>rfl|15,_=>rfl|16,_=>rfl|17,_=>rfl|18,_=>rfl|19,_=>rfl|20,_=>rfl|21,_=>rfl|22,_=>rfl|23,_=>rfl|24,_=>rfl|25,_=>rfl|26,_=>rfl|27,_=>rfl|28,_=>rfl|29,_=>rfl|30,_=>rfl|31,_=>rfl|32,_=>rfl|33,_=>rfl|34,_=>rfl|35,_=>rfl|36,_=>rfl|37,_=>rfl|38,_=>rfl|39,_=>rfl|40,_=>rfl|n+41,h=>absurd h (by omega)
end
noncomputable def FsZ(C1 C2 C3 C6 C7:Addr):Nat->List D->R D
 | 0=>Fv C1 C3
 | 1=>fy C1
 | 2=>ftF C7 C3 C1
 | 3=>wdF C6 C3
 | 4=>iS C1 C7
 | 5=>nU C1
 | 6=>la C1
 | 7=>FF C7 C3
 | 8=>eP C3
 | 9=>gQ C1
 | 10=>gK C1 C7
 |_=>fO C7 C2
noncomputable def doZ(F0 F1 F2 F3 F4 F5 F6 F7 F8 F9 F10 F11 FW:List D->R D)(rs:List Addr):List D->R D:=λds=>aD (iP F0 F1 F2 F3 F4 F5 F6 F7 F8 F9 F10 F11 FW rs (aw 7 ds))
section
variable{C6:Addr}{FW:List D->R D}
def Ab{a b:Int}(h:CQ a b):cq C1 [.int a,.int b]=.ex C1:=by
 unfold CQ at h;by_cases q:1<=b/\b<=1000000000
 ·refine Ic (xo (by rw[nR,vh q.1,vh q.2];rfl)) ?_;rw[nR];by_cases z:0<=a;·rw[vh z,wI (show ¬ a<=b by omega)];rfl
  ·rw[wI z];rfl
 ·refine Hv (Hh ?_);rw[nR];by_cases z:1<=b;·rw[vh z,wI (show ¬ b<=1000000000 by omega)];rfl
  ·rw[wI z];rfl
def yN{t w:Nat}(h1:1<=t)(h2:t<=1000000000)(h4:3<=w)(h5:w<=40):Fv C1 C3 [.int (t:Int),.int (t:Int),.int (w:Int)]=.ok (.str (MA (w - 2) (w - 2))):=by rw[GF h1 h2 (zq _) h4 h5,Nat.mul_div_cancel_left _ h1]
def Ex(m1:C1∈rs)(m7:C7∈rs)(w1:FW [.exc C1]=.ok pU)(w7:FW [.exc C7]=.ok rO):Times (doF (FsZ C1 C2 C3 C6 C7) FW rs):=by refine⟨GX (Kp (C2:=C2) (C3:=C3) (C7:=C7)),MN (Mj (C2:=C2) (C3:=C3)),λs ms=>?_,GX (Pg (C2:=C2) (C3:=C3) (C7:=C7)),GX (PX (C2:=C2) (C3:=C3) (C7:=C7)),GX (Ph (C2:=C2) (C3:=C3) (C7:=C7)),GX (Qb (C2:=C2) (C3:=C3) (C7:=C7)),GX (Qd (C2:=C2) (C3:=C3) (C7:=C7)),GX (PN (C2:=C2) (C3:=C3) (C7:=C7))⟩;simp only[y9,xu,xv]at ms;rcases ms with rfl|rfl|rfl|rfl|rfl|rfl|rfl|rfl|rfl|rfl <;> exact Lj (show gK C1 C7 _=.ex C7 from rfl) m7 w7
def AZ(m1:C1∈rs)(m3:C3∈rs)(w1:FW [.exc C1]=.ok pU)(w3:FW [.exc C3]=.ok dH):Counts (doF (FsZ C1 C2 C3 C6 C7) FW rs):=
 ⟨λh1 h2 h3=>Pb (LL h1 h2 h3),λh=>IB (IS (Ab h)) m1 w1,λh=>NB (Mr (Ab h)) m1 w1,λh=>MS (KB (Ab h)) m1 w1,
  Kl (show iS C1 C7 _=.ex C1 from rfl) m1 w1,Kl (show iS C1 C7 _=.ex C1 from rfl) m1 w1,λh1 h2=>OV (yN (w:=3) h1 h2 (by decide) (by decide)),λh1 h2=>OV (yN (w:=40) h1 h2 (by decide) (by decide)),
  IB (show Fv C1 C3 _=.ex C3 from rfl) m3 w3,IB (show Fv C1 C3 _=.ex C3 from rfl) m3 w3,
  De (show gQ C1 _=.ex C1 from rfl) m1 w1,De (show gQ C1 _=.ex C1 from rfl) m1 w1,De (show gQ C1 _=.ex C1 from rfl) m1 w1,De (show gQ C1 _=.ex C1 from rfl) m1 w1,
  HL (show fy C1 _=.ex C1 from rfl) m1 w1,HL (show fy C1 _=.ex C1 from rfl) m1 w1,HL (show fy C1 _=.ex C1 from rfl) m1 w1,P4 (show fy C1 _=.ok .non from rfl)⟩
def Hg(m3:C3∈rs)(w3:FW [.exc C3]=.ok dH):Cols (doF (FsZ C1 C2 C3 C6 C7) FW rs):=
 ⟨λh=>OP (Py h),λh=>Lh (Qe h) m3 w3,λh=>OP (Ow h),λh=>Lh (NX h) m3 w3,
  λhp hl h1 h2=>Pp (BH hp (by omega) h1 h2),λhp hl=>JT (yo (ue hp (by omega)) rfl) m3 w3,λhp hl=>JT (yo (ue hp (by omega)) rfl) m3 w3,λhp hl h1 h2=>P5 (Hm hp (by omega) h1 h2),
  Dm (show eP C3 _=.ex C3 from rfl) m3 w3,Dm (show eP C3 _=.ex C3 from rfl) m3 w3,Dm (show eP C3 _=.ex C3 from rfl) m3 w3,Dm (show eP C3 _=.ex C3 from rfl) m3 w3⟩
def Gy(m7:C7∈rs)(w7:FW [.exc C7]=.ok rO):Ords (doF (FsZ C1 C2 C3 C6 C7) FW rs):=by refine⟨λs ms=>?_,M8 (show fO C7 C2 _=_ from rfl)⟩;simp only[y9,xu,xv]at ms;rcases ms with rfl|rfl|rfl|rfl|rfl|rfl|rfl|rfl <;> exact K3 (show fO C7 C2 _=.ex C7 from rfl) m7 w7
end
section
variable{C6 CB:Addr}{dd:List D->R D}
def LF{g1 g2:Ev->O}{v:D}(h:g1 ρ=.rt v):aF g1 g2 ρ=.rt v:=by rw[tm,h];rfl
def Om{ga:Ev->R D}(h:ga ρ=.ok (.bl true)):gBn (aB gU ga) ρ=.ok false:=by rw[O4,uS,h];rfl
def NC{q:Addr}{F:MF}{fs:List (Nat×Fd)}{rs:List D}{ib:Nat}(h:ρ[ib]?=some (some (.obj true CB q fs)))(hi:gi ρ=.ok items)(hf:uG F n (λd=>gl [some (.val d),none]) items fs=some rs)(hl:rs.length<=1000)(he:ge (ρ.map λ_=>none)=.ok (.lst false rs))(hq:eqF (.lst false rs) (.lst false rs)=some (.bl true)):yP CB ib n F gi gl ge ρ=.rt (.bl true):=by unfold yP;rw[zF h,R.ok_out,hi,jh,R.ok_out];dsimp only;rw[hf];dsimp only;rw[if_pos hl,he,jh,R.ok_out,hq];rfl
def CZ:uG HN 2 (λd=>(ac (csz [120]) (ac (rvz 0) nlz)) [some (.val d),none]) [.int 1,.int 1000000000] (bdS (.int 20) yY [] [] 0)=some [.int 0,.int 1]:=rfl
def GC(ht:Times dd)(hc:Counts dd)(hk:Cols dd)(ho:Ords dd)(ns:List Int)(fz:Bool)(q:Addr×Unit):aD (sy CB HN zR (ml dd) (qZ dd) (ze dd (tbF C6 C7 C3 C1) (eP C3) (soF C1 C3)) nJ (eG C2) dd q (aw 9 [.lst fz (ns.map .int)]))=.ok (.bl true):=by
 obtain⟨p1,p2⟩:=gA ns 20 (m:=41) (by decide);have hp:=iJ (fz:=fz) (ns:=ns) (n:=20) (m:=41) (by decide);obtain⟨a,e⟩:∃p:Nat,Aa ns 20 41=(p:Int):=⟨_,(r0 p1).symm⟩
 rw[e]at hp p2;have z1:vc (ml dd) (qZ dd) (ze dd (tbF C6 C7 C3 C1) (eP C3) (soF C1 C3)) [some (.val (.lst fz (ns.map .int))),none,none,none,none,none,none,none,none]=.nx [some (.val (.lst fz (ns.map .int))),none,none,none,none,none,none,none,none]:=by unfold vc;exact wz (zW (Om (nP rfl (AF hc))) (zW (Om (Fj ht)) (Om (nP rfl (IG hk)))))
 have z2:wu nJ [some (.val (.lst fz (ns.map .int))),none,none,none,none,none,none,none,none]=.nx [some (.val (.lst fz (ns.map .int))),some (.val (.int (a:Int))),none,none,none,none,none,none,none]:=by unfold wu;exact gL (jl rfl rfl rfl hp)
 have zm:=JZ (C2:=C2) (N:=some (.val (.lst fz (ns.map .int)))) (aF uP (aF (uU dd) (aF (nZ dd) (EW CB 8 zR 1 (ac (ciz 20) nlz) (DN (tE CB HN)) q)))) (a:=a) (by omega);show aD (aF (vc (ml dd) (qZ dd) (ze dd (tbF C6 C7 C3 C1) (eP C3) (soF C1 C3))) (aF (wu nJ) (aF yr (aF yB (aF yG (zw 4 (aF (yp (eG C2)) (aF (yA (eG C2)) (aF uP (aF (uU dd) (aF (nZ dd) (EW CB 8 zR 1 (ac (ciz 20) nlz) (DN (tE CB HN)) q))))))))))) [some (.val (.lst fz (ns.map .int))),none,none,none,none,none,none,none,none])=_;rw[bC z1,bC z2,zm];clear zm z1 z2;unfold uP uU nZ tE wO;rw[bC (gL (v:=.lst false (([[103,111,32,49,10],[103,111,32,49,32,49,48,48,10],[103,111,32,49,48,48,32,49,10],[103,111,32,48,49,32,49,10],[103,111,32,49,50,32,49,10],[103,111,32,49,32,52,49,10],[103,111,32,49,32,49,32,49,10],[115,97,121,32,10]]:List (List Nat)).map D.str)) rfl)];rw[bC (wz (vy (bg rfl rfl (sZ (v:=rO) λd m=>by obtain⟨s,ms,rfl⟩:=qh.1 m;exact ho.x s ms) (by decide)) rfl rfl))];rw[bC (wz (vy ho.o rfl rfl))];refine(vF aD (LF (NC (q:=q.1) (fs:=bdS (.int 20) yY [] [] 0) rfl rfl CZ (by decide) rfl rfl))).trans rfl
end
section
def AV{F0 F1 F2 F3 F4 F5 F6 F7 F8 F9 F10 F11 FW:List D->R D}(nd:[aH,ao,ah,af,aA,aU,am].Nodup):∀ds:List D,ds.length=4->doZ F0 F1 F2 F3 F4 F5 F6 F7 F8 F9 F10 F11 FW rs ds=.no\/aD (iP F0 F1 F2 F3 F4 F5 F6 F7 F8 F9 F10 F11 FW rs (aw 7 ds))=doZ F0 F1 F2 F3 F4 F5 F6 F7 F8 F9 F10 F11 FW rs ds:=λ_ _=>.inr rfl
noncomputable def ddZ(aH ao ah af aA aU am:Addr)(rs:List Addr):List D->R D:=doZ (Fv af ah) (fy af) (ftF am ah af) (wdF aA ah) (iS af am) (nU af) (la af) (FF am ah) (eP ah) (gQ af) (gK af am) (fO am ao) (zE ah ao af aA aH am aU rs) rs
def NI(nd:[aH,ao,ah,af,aA,aU,am].Nodup)(ns:List Int)(fz:Bool)(q:Addr×Unit):aD (sy aL HN zR (ml (ddZ aH ao ah af aA aU am [af,ao,ah,aA,am])) (qZ (ddZ aH ao ah af aA aU am [af,ao,ah,aA,am])) (ze (ddZ aH ao ah af aA aU am [af,ao,ah,aA,am]) (tbF aA am ah af) (eP ah) (soF af ah)) nJ (eG ao) (ddZ aH ao ah af aA aU am [af,ao,ah,aA,am]) q (aw 9 [.lst fz (ns.map .int)]))=.ok (.bl true):=by have w1:=td (rs:=[af,ao,ah,aA,am]) nd (by simp);have w3:=wR (rs:=[af,ao,ah,aA,am]) nd (by simp);have w7:=wH (rs:=[af,ao,ah,aA,am]) nd (by simp);exact GC (dd:=doF (FsZ af ao ah aA am) _ _) (Ex (by simp) (by simp) w1 w7) (AZ (by simp) (by simp) w1 w3) (Hg (by simp) w3) (Gy (by simp) w7) ns fz q
end
end Q90
namespace Q
open PySem PySem.Spec PyProof.Rows L2
def ky(h:us.length=1):∃a,us=[a]:=by
 match us,h with
 | [a],_=>exact⟨a,rfl⟩
def sV(h:us.length=2):∃a b,us=[a,b]:=by
 match us,h with
 | [a,b],_=>exact⟨a,b,rfl⟩
def CL(h:us.length=3):∃a b c,us=[a,b,c]:=by
 match us,h with
 | [a,b,c],_=>exact⟨a,b,c,rfl⟩
def Qq(h:us.length=4):∃a b c d,us=[a,b,c,d]:=by
 match us,h with
 | [a,b,c,d],_=>exact⟨a,b,c,d,rfl⟩
def JX{K:PySem.W.Frag}{hp:Heap}{mg:Str->Option Value}{x:Str}{bm:List Value}{nid:String}(kin:K.In hp)(gl:hp.Ns mainGlobals mg)(e1:PySem.W.nsIn K mainGlobals x=some (some (.ref C)))(e2:PySem.W.excIn K C bm nid=true):OwnCls x C bm nid mg hp:=by
 constructor;·exact xH kin gl e1
 ·unfold PySem.W.excIn at e2;split at e2
  ·rename_i dct kl sls look;split at e2
   ·rename_i C0 more s0 s1 s2 s3 nw s5 hmro hsls;simp only[sH,t6,Bool.not_eq_true']at e2;obtain⟨⟨⟨⟨⟨eC,en⟩,edel⟩,etail⟩,ens⟩,einit⟩:=e2;obtain⟨f1,f2,f3,f4,f5,f6,f7,f8,f9,f10,f11⟩:=kl;dsimp only at hmro edel ens einit;have es:sls = #[s0,s1,s2,s3,some (.builtin nw),s5]:=by obtain⟨ls⟩:=sls;simp only at hsls;rw[hsls]
    subst hmro edel es eC en;exact⟨more,f4,f1,f5,f2,f6,f7,f8,f9,f10,dct,s0,s1,s2,s3,s5,_,kin _ _ look,.of_isNs (PySem.W.isNs_of_in kin ens),PySem.W.nsMap_none_of_in kin ens einit,PySem.W.tail_of_in kin etail⟩
   ·cases e2
  ·cases e2
def uJ{K:PySem.W.Frag}{hp:Heap}{mg:Str->Option Value}{x:Str}(kin:K.In hp)(gl:hp.Ns mainGlobals mg)(e1:PySem.W.nsIn K mainGlobals x=some (some (.ref C)))(e2:PySem.W.excIn K C [.type "ValueError",.type "Exception",.type "BaseException",.type "object"] "ValueError.__new__"=true):Ref x C mg hp:=
 ⟨_,_,_,_,JX kin gl e1 e2,PySem.F.excBase_ValueError⟩
theorem uv{K:PySem.W.Frag}{G:Hp}:∀ns:List Int,Reps K G (ns.map V.int) (ns.map D.int)
 | []=>.nil
 |i::ns=>.cons (.int i) (uv ns)
noncomputable def E9:List D->R D
 | [.lst _ ds]=>match tK ds with
  |some _=>.ok (.bl true)
  |none=>.no
 |_=>.no
def Ps{l:PySem.W.OpenLaw}{XP:(Str->Option Value)->Heap->Prop}{YP:World->Heap->Prop}{d:DefRec}{K:Params->PySem.W.Frag}{L:Nat}(hL:Room L callerA)(hn:l.most=some 63)(hdf:d.params.defaults=[])(hY:∀(w:World)(h:Heap),YP w h->(K w.params).In h)(F:∀(w:World)(mg:Str->Option Value)(fa:Addr)(h:Heap),(K w.params).In h->h.Ns mainGlobals mg->mg d.name=some (.ref fa)->
 ∃fd:FuncData,(∀(s:Shared)(u:Value),BindsTo s fd ⟨[u],[]⟩ [("_law_script",u)])/\∀base:Heap,(K w.params).In base->base.Ns mainGlobals mg->FnF l.prog w (K w.params) mg base L fa fd ["_law_script"] E9):
  PySem.W.WalkO q loose XP YP l.row.toRowW d [] (λf vs=>PySem.call f vs):=
 L2.Ch (n:=63) (k:=L) (x:="_law_script") (CX:=λw=>CXo l.prog w) (sp:=λw vs H Q E=>vs.length=1/\spF (K w.params) E9 vs H Q E) hn (by decide) hdf hL hY F
  (λw H a ns hl hO hS=>⟨rfl,H,[.lst true (ns.map .int)],.refl _,.cons (.fls hS (uv ns)) .nil,by
   have e:E9 [.lst true (ns.map .int)]=.ok (.bl true):=by simp only[E9,vN]
   rw[e];exact λv G' H' u r=>r.bl_inv⟩)
  λw H s e s' z=>by obtain⟨a,C,H',_,_,z⟩:=z;exact z
def bb{K:PySem.W.Frag}{mg:Str->Option Value}{x:Str}{kV doc pm ct:Value}(X:K.In h)(G:h.Ns mainGlobals mg)(a:PySem.W.nsIn K mainGlobals x=some (some (.ref f)):=by k_is)(l:K.lookup f=some ⟨oc,od,.func (PySem.W.fnOf x x (iw st) (cz st) (ar st) .none kV doc pm an cdv ct),osl⟩:=by k_is)(c:PySem.W.codeIn K cdv x=true:=by k_is)(k:PySem.W.keepIn K (.ref f)=true:=by k_is):∃f fd,Fun K x x st f fd/\mg x=some (.ref f):=
 ⟨f,_,BK l c k,xH X G a⟩
def LY{K:PySem.W.Frag}{mg:Str->Option Value}{x:Str}{its:Array Value}{ls:List (List Nat)}(X:K.In h)(G:h.Ns mainGlobals mg)(e:PySem.W.nsIn K mainGlobals x=some (some (.ref a)))(l:K.lookup a=some ⟨.type "tuple",od,.seq its n,osl⟩)(hz:its.size<=sizeLine)(v:Vals vs its.toList)(r:∀G,Reps K G vs (ls.map .str)):∃a,mg x=some (.ref a)/\KTup K a ls:=
 ⟨a,xH X G e,⟨_,its,n,vs,l,rfl,rfl,hz,v,r⟩⟩
section
variable{K:PySem.W.Frag}{T:Addr}
def EV:PySem.W.kitOne K (.ref C) (.ref C)=some (C==C):=by unfold PySem.W.kitOne;rw[if_pos (by simp)];simp
def vJ{t:Value}{b:Bool}{cd:ClassData}(h1:PySem.W.clsIn K T=some cd)(h2:PySem.W.typeIn K (.ref T)=some (.type "type"))(h3:PySem.W.subIn K t (.ref T)=some b):PySem.W.kitCls K t (.ref T)=some b:=by unfold PySem.W.kitCls;dsimp only;rw[if_pos (by rw[h1,h2];simp),h3]
def JH{cd:ClassData}(h1:PySem.W.clsIn K T=some cd)(h2:PySem.W.typeIn K (.ref T)=some (.type "type"))(h3:PySem.W.subIn K (.ref C) (.ref T)=some false)(hne:C≠T):PySem.W.kitOne K (.ref C) (.ref T)=some (C==T):=by unfold PySem.W.kitOne;rw[if_neg (by simp[hne]),vJ h1 h2 h3];simp[hne]
def JC(h3:PySem.W.subIn K (.ref C) (.type "ValueError")=some true):PySem.W.kitOne K (.ref C) (.type "ValueError")=some true:=by unfold PySem.W.kitOne PySem.W.kitCls;rw[if_neg (by simp)];dsimp only;rw[if_pos (by decide +kernel),h3]
def KS{cd:ClassData}(h0:PySem.W.subIn K (.ref T) (.type "BaseException")=some true)(h1:PySem.W.clsIn K T=some cd)(h2:PySem.W.typeIn K (.ref T)=some (.type "type"))(h3:PySem.W.subIn K (.ref C) (.ref T)=some true):PySem.W.exmOne K (.ref C) (.ref T)=some true:=by unfold PySem.W.exmOne;rw[if_pos (by rw[h0];rfl),vJ h1 h2 h3]
end
def uq{K:PySem.W.Frag}{cd:ClassData}(g1:PySem.W.findIn K (.ref C) "__getattribute__"=some (some (.builtin "BaseException.__getattribute__")))(g2:PySem.W.findIn K (.ref C) "__getattr__"=some none)(g3:PySem.W.findIn K (.ref C) "__class__"=some (some (.builtin "object.__class__")))(g4:PySem.W.specialIn K (.builtin "object.__class__") "__get__"=some (some (.builtin "getset_descriptor.__get__")))(g5:PySem.W.takesIn K (.builtin "object.__class__")=some true)(g6:PySem.W.mroIn K C (.type "object")=some true)(g7:PySem.W.subIn K (.ref C) (.type "BaseException")=some true)(g8:PySem.W.clsIn K C=some cd):ExcCls K C:=⟨g1,g2,g3,g4,g5,g6,g7,by rw[g8];rfl⟩
noncomputable def TsOk(K:PySem.W.Frag):List (Str×Addr)->Prop
 | []=>True
 |t::ts=>PySem.W.nsIn K mainGlobals t.1=some (some (.ref t.2))/\(∃q,PySem.W.clsIn K t.2=some q)/\PySem.W.typeIn K (.ref t.2)=some (.type "type")/\TsOk K ts
noncomputable def SubOk(K:PySem.W.Frag)(r:Addr):List (Str×Addr)->Prop
 | []=>True
 |t::ts=>(r=t.2\/PySem.W.subIn K (.ref r) (.ref t.2)=some false)/\SubOk K r ts
noncomputable def RsOk(K:PySem.W.Frag)(L:Addr)(ts:List (Str×Addr)):List Addr->Prop
 | []=>True
 |r::rs=>ExcCls K r/\SubOk K r ts/\PySem.W.subIn K (.ref r) (.type "ValueError")=some true/\PySem.W.subIn K (.ref r) (.ref L)=some true/\RsOk K L ts rs
section
variable{K:PySem.W.Frag}
theorem TsOk.at:∀{ts:List (Str×Addr)},TsOk K ts->∀t∈ts,PySem.W.nsIn K mainGlobals t.1=some (some (.ref t.2))/\(∃q,PySem.W.clsIn K t.2=some q)/\PySem.W.typeIn K (.ref t.2)=some (.type "type")
 |_::_,⟨a,b,c,d⟩,t,h=>by
  rcases y9.1 h with rfl|h;·exact⟨a,b,c⟩
  ·exact TsOk.at d t h
theorem SubOk.at{r:Addr}:∀{ts:List (Str×Addr)},SubOk K r ts->∀t∈ts,r=t.2\/PySem.W.subIn K (.ref r) (.ref t.2)=some false
 |_::_,⟨a,d⟩,t,h=>by
  rcases y9.1 h with rfl|h;·exact a
  ·exact SubOk.at d t h
theorem RsOk.at:∀{rs:List Addr},RsOk K L ts rs->∀r∈rs,ExcCls K r/\SubOk K r ts/\PySem.W.subIn K (.ref r) (.type "ValueError")=some true/\PySem.W.subIn K (.ref r) (.ref L)=some true
 |_::_,⟨a,b,c,e,d⟩,t,h=>by
  rcases y9.1 h with rfl|h;·exact⟨a,b,c,e⟩
  ·exact RsOk.at d t h
def IR{mg:Str->Option Value}{cd:ClassData}(X:K.In h)(G:h.Ns mainGlobals mg)(nL:PySem.W.nsIn K mainGlobals "LineError"=some (some (.ref L)))(h1:TsOk K ts)(h2:RsOk K L ts rs)(tL:PySem.W.clsIn K L=some cd)(yL:PySem.W.typeIn K (.ref L)=some (.type "type"))(lb:PySem.W.subIn K (.ref L) (.type "BaseException")=some true):Errs K mg rs ts:=by
 refine⟨λt ht=>xH X G (h1.at t ht).1,λr hr=>(h2.at r hr).1,λr hr t ht=>?_,λr hr=>JC (h2.at r hr).2.2.1,⟨L,xH X G nL,λr hr=>KS lb tL yL (h2.at r hr).2.2.2⟩⟩;obtain⟨_,⟨q,c⟩,y⟩:=h1.at t ht;by_cases e:r=t.2;·rw[<- e];exact EV
 ·rcases (h2.at r hr).2.1.at t ht with z|z;·exact absurd z e
  ·exact JH c y z e
end
def Gq{K:PySem.W.Frag}{x:Str}{kV doc pm ct:Value}(a:PySem.W.findIn K (.ref C) x=some (some (.ref f)))(i:PySem.W.isFn K (.ref f)=true)(l:K.lookup f=some ⟨oc,od,.func (PySem.W.fnOf x qual (iw st) (cz st) (ar st) .none kV doc pm an cdv ct),osl⟩)(c:PySem.W.codeIn K cdv qual=true)(k:PySem.W.keepIn K (.ref f)=true):∃f fd,Fun K x qual st f fd/\Meth K C x f:=
 ⟨f,_,BK l c k,⟨a,i,k⟩⟩
def HY{K:PySem.W.Frag}{kV doc pm ct:Value}(a:PySem.W.findIn K (.ref C) "__init__"=some (some (.ref f)))(i:PySem.W.isFn K (.ref f)=true)(l:K.lookup f=some ⟨oc,od,.func (PySem.W.fnOf "__init__" qual (iw st) (cz st) (ar st) .none kV doc pm an cdv ct),osl⟩)(c:PySem.W.codeIn K cdv qual=true)(k:PySem.W.keepIn K (.ref f)=true)(mk:PySem.W.makesIn K C=true)(kc:PySem.W.keepIn K (.ref C)=true):
  ∃f fd,Fun K "__init__" qual st f fd/\Mk K C f:=⟨f,_,BK l c k,⟨mk,a,i,kc⟩⟩
def Ju{K:PySem.W.Frag}(ne:C≠DC)(pg:PySem.W.plainGet K C Str.empty=true)(hd:PySem.W.hasDictIn K C=true)(po:PySem.W.plainOver K C=true)(sa:PySem.W.findIn K (.ref C) "__setattr__"=some (some (.builtin "object.__setattr__"))):CF K C []:=
 ⟨⟨pg,hd,po,sa⟩,ne,λk hk=>by simp at hk⟩
def oQ{K:PySem.W.Frag}{ks:List Nat}{x:Str}(k:Nat)(h:CF K C ks)(hk:k<fnames.length)(e:eB k=x)(n:PySem.W.findIn K (.ref C) x=some none):CF K C (k::ks):=
 ⟨h.cl,h.ne,λj hj=>by
  rcases y9.1 hj with rfl|hj;·exact⟨hk,by unfold NoAttr;rw[e];exact n⟩
  ·exact h.na j hj⟩
section
variable{w:World}{K:PySem.W.Frag}{mg:Str->Option Value}{base:Heap}{x:Str}{G:MF}
def GI(F:Fun K x qual st f fd)(m:Meth K C x f)(ok:FnM P w K mg base k f fd ps C G)(h:∀(kV doc pm:Value)(an:Option Addr)(cdv ct:Value)(us:List Value),us.length=ps.length->bindArgs (PySem.W.fnOf x qual (iw st) (cz st) (ar st) .none kV doc pm an cdv ct) ⟨us,[]⟩=pure (ps.zip us))(e:ps.length=n+1):MCallee P w K mg base C x k n G:=
 ⟨⟨f,fd,ps,ok,m,F.binds h,e⟩⟩
def mkc{cn:Str}(F:Fun K x qual st f fd)(m:Mk K C f)(hc:mg cn=some (.ref C))(ne:C≠DC)(ok:FnM P w K mg base k f fd ps C G)(h:∀(kV doc pm:Value)(an:Option Addr)(cdv ct:Value)(us:List Value),us.length=ps.length->bindArgs (PySem.W.fnOf x qual (iw st) (cz st) (ar st) .none kV doc pm an cdv ct) ⟨us,[]⟩=pure (ps.zip us))(e:ps.length=n+1):MkC P w K mg base C cn k n G:=
 ⟨⟨f,fd,ps,ok,m,hc,F.binds h,e⟩,ne⟩
def DJ{cn:Str}(c:MkC P w K mg base C cn k n G)(k':Nat)(h:k<=k':=by decide):MkC P w K mg base C cn k' n G:=by obtain⟨f,fd,ps,M,hm,hg,hb,e⟩:=c.ex;exact⟨⟨f,fd,ps,{ M with run:=λA outer s H args us vs Q E hr=>M.run A outer s H args us vs Q E (hr.mono h) },hm,hg,hb,e⟩,c.ne⟩
end
def Hc{α:Type}{g:α->List D->R D}(h:∀(ns:List Int)(fz:Bool)(q:α),g q [.lst fz (ns.map .int)]=.ok (.bl true)):∀ds:List D,ds.length=1->E9 ds=.no\/∀q,g q ds=E9 ds:=by
 intro ds hl
 match ds,hl with
 | [d],_=>
  cases d <;> first|exact Or.inl rfl|skip
  rename_i fz ds hl;cases hi:tK ds with
  |none=>exact Or.inl (by simp only[E9,hi])
  |some ns=>have e:=xZ hi;subst e;refine Or.inr λq=>?_;rw[h ns fz q];simp only[E9,hi]
end Q
namespace G90
open PySem PySem.Spec PyProof.Rows L2 Q Q90 Q50
local macro_rules | `(tactic| walk_at "s") => `(tactic| exact⟨rfl,rfl,rfl,by decide +kernel,rfl,by decide +kernel,by decide +kernel⟩)
local macro_rules | `(tactic| walk_at "1") => `(tactic| (intro _ _ _ _ _ _ us hl;obtain⟨a,z⟩:=ky hl;subst z;rfl))
local macro_rules | `(tactic| walk_at "2") => `(tactic| (intro _ _ _ _ _ _ us hl;obtain⟨a,b,z⟩:=sV hl;subst z;rfl))
local macro_rules | `(tactic| walk_at "3") => `(tactic| (intro _ _ _ _ _ _ us hl;obtain⟨a,b,c,z⟩:=CL hl;subst z;rfl))
local macro_rules | `(tactic| walk_at "4") => `(tactic| (intro _ _ _ _ _ _ us hl;obtain⟨a,b,c,d,z⟩:=Qq hl;subst z;rfl))
noncomputable abbrev top(i:Nat):Stmt:=PySem.Challenge.pw_screenlines_k90_whole_bounds.main.body.getD i (.Pass ⟨0,0,0,0⟩)
noncomputable abbrev FUz(K:PySem.W.Frag)(n:Str)(i:Nat):=Fun K n n (top i)
section
variable{w:World}{K:PySem.W.Frag}{mg:Str->Option Value}{base:Heap}
def wV:FnScope ["_law_script","_law_k"] ["_law_script","_law_k"] (ar (top 98)):=by walk_at "s"
def xc:FnScope ["_law_script","_law_k","_law_many","_law_drawn"] ["_law_script","_law_k","_law_many"] (ar (top 99)):=by walk_at "s"
def xT:FnScope ["thing"] ["thing"] (ar (top 12)):=by walk_at "s"
def uD:FnScope ["thing","low","high"] ["thing","low","high"] (ar (top 13)):=by walk_at "s"
def qj:FnScope ["total"] ["total"] (ar (top 27)):=by walk_at "s"
def su:FnScope ["done","total"] ["done","total"] (ar (top 28)):=by walk_at "s"
def wD:FnScope ["full","room"] ["full","room"] (ar (top 30)):=by walk_at "s"
def LI:FnScope ["done","total","width","room"] ["done","total","width"] (ar (top 31)):=by walk_at "s"
def wo:FnScope ["thing","total"] ["thing","total"] (ar (top 40)):=by walk_at "s"
def qU:FnScope ["thing","total"] ["thing","total"] (ar (top 41)):=by walk_at "s"
def sG:FnScope ["number","divisor"] ["number","divisor"] (ar (top 29)):=by walk_at "s"
def wg:FnScope ["samples","total","many","first","last"] ["samples","total","many"] (ar (top 42)):=by walk_at "s"
def xb:FnScope ["thing"] ["thing"] (ar (top 14)):=by walk_at "s"
def ql:FnScope ["thing"] ["thing"] (ar (top 15)):=by walk_at "s"
def qK:FnScope ["width"] ["width"] (ar (top 56)):=by walk_at "s"
def J8:FnScope ["text","width"] ["text","width"] (ar (top 57)):=by walk_at "s"
def zI:FnScope ["thing"] ["thing"] (ar (top 52)):=by walk_at "s"
def wf:FnScope ["text","width","side","short","ahead"] ["text","width","side"] (ar (top 58)):=by walk_at "s"
def uF:FnScope ["thing"] ["thing"] (ar (top 78)):=by walk_at "s"
def qG:FnScope ["thing"] ["thing"] (ar (top 79)):=by walk_at "s"
def pe:FnScope ["thing","many"] ["thing","many"] (ar (top 80)):=by walk_at "s"
def xy:FnScope ["columns","rows"] ["columns","rows"] (ar (top 81)):=by walk_at "s"
def qz:FnScope ["columns","rows"] ["columns","rows"] (ar (top 82)):=by walk_at "s"
def pZ:FnScope ["columns","rows","number","texts"] ["columns","rows","number"] (ar (top 83)):=by walk_at "s"
def Ag:FnScope ["wishes","room","given","left","number","wish"] ["wishes","room"] (ar (top 54)):=by walk_at "s"
def BS:FnScope ["columns","rows","room","many","gaps"] ["columns","rows","room"] (ar (top 84)):=by walk_at "s"
def Bj:FnScope ["thing"] ["thing"] (ar (top 32)):=by walk_at "s"
def wq:FnScope ["text","total","room","full","low","high"] ["text","total"] (ar (top 33)):=by walk_at "s"
def zu:FnScope ["done","total"] ["done","total"] (ar (top 34)):=by walk_at "s"
def zb:FnScope ["done","total"] ["done","total"] (ar (top 35)):=by walk_at "s"
def EN:FnScope ["width","many"] ["width","many"] (ar (top 46)):=by walk_at "s"
def qD:FnScope ["number"] ["number"] (ar (top 36)):=by walk_at "s"
def E7:FnScope ["seconds","end","minutes","hours","middle"] ["seconds"] (ar (top 37)):=by walk_at "s"
def qO:FnScope ["text"] ["text"] (ar (top 16)):=by walk_at "s"
def kR:FnScope ["thing","parts","seconds","part"] ["thing"] (ar (top 38)):=by walk_at "s"
def sQ:FnScope ["text","seconds"] ["text"] (ar (top 39)):=by walk_at "s"
def xr:FnScope ["thing"] ["thing"] (ar (top 92)):=by walk_at "s"
def lF:FnScope ["text"] ["text"] (ar (top 90)):=by walk_at "s"
def nV:FnScope ["text","parts"] ["text"] (ar (top 91)):=by walk_at "s"
def nI:FnScope ["line","parts","spot"] ["line"] (ar (top 94)):=by walk_at "s"
def AJ:FnScope ["thing"] ["thing"] (ar (top 61)):=by walk_at "s"
def EI:FnScope ["thing"] ["thing"] (ar (top 62)):=by walk_at "s"
def wM:FnScope ["thing"] ["thing"] (ar (top 63)):=by walk_at "s"
def qe:FnScope ["thing"] ["thing"] (ar (top 64)):=by walk_at "s"
def wj:FnScope ["row","column"] ["row","column"] (ar (top 89)):=by walk_at "s"
def tQ:FnScope ["order"] ["order"] (ar (top 93)):=by walk_at "s"
def rS:FnScope ["line","order"] ["line"] (ar (top 95)):=by walk_at "s"
def qd:FnScope ["text"] ["text"] (ar (top 96)):=by walk_at "s"
def xi:FnScope ["_law_kept","_law_kinds"] ["_law_kept"] (ar (top 100)):=by walk_at "s"
def xQ(fH:mg "ValueError"=none)(aq:mg "isinstance"=none)(Er:Errs K mg rs [("NoScreen",aH),("NoOrder",ao),("NoRoom",ah),("NoNumber",af),("NoTable",aA),("NoTask",aU),("NoText",am)])(Fn:FUz K "_law_word" 100 f fd):FnF P w K mg base 1 f fd ["_law_kept"] (λds=>aD (hW ah ao af aA aH am aU rs (aw 2 ds))):=by
 have hN:(["_law_kept","_law_kinds"]:List Str).Nodup:=by decide
 refine Fn.okF xi (k:=0) (g:=hW ah ao af aA aH am aU rs) λ_ _ _ _ _ _ hr=>?_;have hu:=hr.units;exact(ag (GW 1 hN (cG (aa (kx (T:=af) Er (.tail _ (.tail _ (.tail _ (.head _)))) aq (ai at0)) (aa (kx (T:=ao) Er (.tail _ (.head _)) aq (ai at0)) (aa (kx (T:=ah) Er (.tail _ (.tail _ (.head _))) aq (ai at0)) ae))))) (ag (uf 1 (bJ (cG (aa (kx (T:=aH) Er (.head _) aq (ai at0)) (aa (kx (T:=aA) Er (.tail _ (.tail _ (.tail _ (.tail _ (.head _))))) aq (ai at0)) ae))))) (ag (uf 1 (bJ (cG (aa (kx (T:=aU) Er (.tail _ (.tail _ (.tail _ (.tail _ (.tail _ (.head _)))))) aq (ai at0)) (aa (kx (T:=am) Er (.tail _ (.tail _ (.tail _ (.tail _ (.tail _ (.tail _ (.head _))))))) aq (ai at0)) ae))))) (zl 1 (ag (dU (iA (dS (ee hu (IA (ai at1) (aa ff ae)) aj) (dw (bN (bS (Kd Er aq fH (ai at0))))))) (ag (aX (az (l:=[119,114,111,110,103]) rfl (by decide))) ax) ax) (ag (aX (cb (bJ (cG (aa (az (l:=[110,111,32,110,117,109,98,101,114]) rfl (by decide)) (aa (az (l:=[110,111,32,111,114,100,101,114]) rfl (by decide)) (aa (az (l:=[110,111,32,114,111,111,109]) rfl (by decide)) (aa (az (l:=[110,111,32,115,99,114,101,101,110]) rfl (by decide)) (aa (az (l:=[110,111,32,116,97,98,108,101]) rfl (by decide)) (aa (az (l:=[110,111,32,116,97,115,107]) rfl (by decide)) (aa (az (l:=[110,111,32,116,101,120,116]) rfl (by decide)) ae))))))))) (HG (ai at1) (aa ff ae)))) ax))))))
def Au:FnScope ["_law_what","_law_one","_law_other","_law_third","_law_kept","_law_answer","e"] ["_law_what","_law_one","_law_other","_law_third"] (ar (top 101)):=by walk_at "s"
def kW:FnScope ["_law_script","_law_most","_law_total","_law_ready","_law_text","_law_wide","_law_one","_law_other","_law_told"] ["_law_script"] (ar (top 102)):=by walk_at "s"
def lz(bi:mg "len"=none)(fR:mg "str"=none)(dJ:Callee P w K mg base "_law_pick" 9 3 aR)(bp:Callee P w K mg base "_law_do" 9 4 av)(Fn:FUz K "_law_are_counted" 102 f fd):FnF P w K mg base 10 f fd ["_law_script"] (λds=>aD (cI aR av (aw 9 ds))):=by
 have hN:(["_law_script","_law_most","_law_total","_law_ready","_law_text","_law_wide","_law_one","_law_other","_law_told"]:List Str).Nodup:=by decide
 refine Fn.okF kW (k:=9) (g:=cI aR av) λ_ _ _ _ _ _ hr=>?_;have hu:=hr.units;exact(ag (cC at1 hN (yQ aj aj)) (ag (vV rX rfl (bU (cX (aa aj (aa (ai at1) (aa (bF aj (aC dJ hr (aa (ai at0) (aa aj (aa aj ae))))) (aa (bF aj (aC dJ hr (aa (ai at0) (aa aj (aa (ai at1) ae))))) ae)))))) (fB 2 hN) (ag (vV rX rfl (bU (cX (aa aj (aa (ai at2) (aa (aC dJ hr (aa (ai at0) (aa aj (aa (bF (ai at2) aj) ae)))) ae))))) (fB 3 hN) (ag (cC at4 hN (bF (bF (oB rfl fR (aa (ai at3) ae)) (az (l:=[47]) rfl (by decide))) (oB rfl fR (aa (ai at2) ae)))) (ag (cC at5 hN (bF (bP aj (dY rfl bi (aa (oB rfl fR (aa (ai at2) ae)) ae))) aj)) (ag (dU (ee hu (aC bp hr (aa aj (aa (ai at3) (aa (ai at2) (aa bQ ae))))) (bF (bP (az (l:=[32]) rfl (by decide)) (dR (ai at5) (dY rfl bi (aa (ai at4) ae)))) (ai at4))) (ag (aX ff) ax) ax) ax)))) (ag (vV rX rfl (bU (cX (aa (cX (aa aj (aa aj ae))) (aa (cX (aa (xD aj) (aa (ai at2) ae))) (aa (cX (aa (bF (ai at2) aj) (aa (ai at2) ae))) (aa (cX (aa aj (aa (bF (ai at1) aj) ae))) ae)))))) (nY rfl (dL 6 hN (dL 7 hN lL))) (ag (cC at8 hN (bJ (cG (aa (aC bp hr (aa aj (aa (ai at6) (aa (ai at7) (aa aj ae))))) (aa (aC bp hr (aa aj (aa (ai at6) (aa (ai at7) (aa bQ ae))))) (aa (aC bp hr (aa aj (aa (ai at6) (aa (ai at7) (aa bQ ae))))) ae)))))) (ag (dU (ee hu (ai at8) (bP (bJ (cG (aa (az (l:=[110,111,32,110,117,109,98,101,114]) rfl (by decide)) ae))) aj)) (ag (aX ff) ax) ax) ax)) (hn:=pJ _)) (ag (dU (ee hu (cK (bD (N':=["_law_odd"]) (ix:=[]) bg rfl (bU (cX (aa aj (aa (bF (ai at1) aj) ae)))) (λC s₂ H₂ fp=>(aC bp hr (aa aj (aa (az (l:=[91,46,93]) rfl (by decide)) (aa (bx at0) (aa bQ ae)))))) (λC s₂ H₂ fp=>bI))) (bP (bJ (cG (aa (az (l:=[110,111,32,110,117,109,98,101,114]) rfl (by decide)) ae))) aj)) (ag (aX ff) ax) ax) (ag (dU (ee hu (cK (bD (N':=["_law_wide","_law_total"]) (ix:=[2]) bg rfl (bU (cX (aa aj (aa aj ae)))) (λC s₂ H₂ fp=>(aC bp hr (aa aj (aa (bx at1) (aa (bx at1) (aa (bx at0) ae)))))) (λC s₂ H₂ fp=>bI))) (bJ (cG (aa (az (l:=[91,35,93]) rfl (by decide)) (aa (bF (bF (az (l:=[91]) rfl (by decide)) (bP (az (l:=[35]) rfl (by decide)) aj)) (az (l:=[93]) rfl (by decide))) ae))))) (ag (aX ff) ax) ax) ax))))) (ag (dU (ee hu (cK (bD (N':=["_law_wide"]) (ix:=[]) bg rfl (bU (cX (aa aj (aa aj ae)))) (λC s₂ H₂ fp=>(aC bp hr (aa aj (aa aj (aa aj (aa (bx at0) ae)))))) (λC s₂ H₂ fp=>bI))) (bP (bJ (cG (aa (az (l:=[110,111,32,114,111,111,109]) rfl (by decide)) ae))) aj)) (ag (aX ff) ax) ax) (ag (cC at8 hN (bF (cK (bD (N':=["_law_odd"]) (ix:=[]) bg rfl (bU (cX (aa (xD aj) (aa (bF (ai at1) aj) (aa bQ (aa ff ae)))))) (λC s₂ H₂ fp=>(aC bp hr (aa aj (aa (bx at0) (aa bQ (aa bQ ae)))))) (λC s₂ H₂ fp=>bI))) (bJ (cG (aa (aC bp hr (aa aj (aa (bJ (cG ae)) (aa aj (aa aj ae))))) ae))))) (ag (aX (eX (qR hu (bF (ai at8) (cK (bD (N':=["_law_odd"]) (ix:=[]) bg rfl (bU (cX (aa aj (aa aj ae)))) (λC s₂ H₂ fp=>(aC bp hr (aa aj (aa (bJ (cG ae)) (aa aj (aa (bx at0) ae)))))) (λC s₂ H₂ fp=>bI)))) (bP (bJ (cG (aa (az (l:=[110,111,32,110,117,109,98,101,114]) rfl (by decide)) ae))) aj)) (gP (Oq (aC bp hr (aa aj (aa (bJ (cG ae)) (aa aj (aa aj ae))))) bQ)))) ax)))))
def jF:FnScope ["_law_text","_law_odd","_law_some"] [] (ar (top 103)):=by walk_at "s"
def jD(bp:Callee P w K mg base "_law_do" 9 4 av)(Fn:FUz K "_law_are_times_read" 103 f fd):FnF P w K mg base 10 f fd [] (λds=>aD (bT av (aw 3 ds))):=by
 have hN:(["_law_text","_law_odd","_law_some"]:List Str).Nodup:=by decide
 refine Fn.okF jF (k:=9) (g:=bT av) λ_ _ _ _ _ _ hr=>?_;have hu:=hr.units;exact(ag (cC at0 hN (az (l:=[50,55,55,55,55,55,58,52,54,58,52,48]) rfl (by decide))) (ag (dU (iA (dS (ee hu (aC bp hr (aa aj (aa (yQ aj aj) (aa bQ (aa bQ ae))))) (ai at0)) (dw (ee hu (aC bp hr (aa aj (aa (ai at0) (aa bQ (aa bQ ae))))) (yQ aj aj))))) (ag (aX ff) ax) ax) (ag (cC at1 hN (bJ (cG (aa (az (l:=[50,55,55,55,55,55,58,52,54,58,52,49]) rfl (by decide)) (aa (az (l:=[48,50,55,55,55,55,55,58,52,54,58,52,48]) rfl (by decide)) (aa (az (l:=[48,58,54,48]) rfl (by decide)) (aa (az (l:=[49,58,48,58,48,48]) rfl (by decide)) (aa (az (l:=[48,58,48]) rfl (by decide)) (aa (az (l:=[]) rfl (by decide)) (aa (az (l:=[58]) rfl (by decide)) (aa (az (l:=[49,58,48,48,58,48,48,58,48,48]) rfl (by decide)) (aa (az (l:=[54,48,58,48,48]) rfl (by decide)) (aa (az (l:=[120,58,48,48]) rfl (by decide)) ae))))))))))))) (ag (dU (ee hu (cK (bD (N':=["_law_one"]) (ix:=[]) bg rfl (bU (ai at1)) (λC s₂ H₂ fp=>(aC bp hr (aa aj (aa (bx at0) (aa bQ (aa bQ ae)))))) (λC s₂ H₂ fp=>bI))) (bP (bJ (cG (aa (az (l:=[110,111,32,116,101,120,116]) rfl (by decide)) ae))) aj)) (ag (aX ff) ax) ax) (ag (cC at2 hN (bJ (cG (aa aj (aa aj (aa aj (aa aj (aa aj (aa aj ae))))))))) (ag (aX (qR hu (cK (bD (N':=["_law_one"]) (ix:=[]) bg rfl (bU (ai at2)) (λC s₂ H₂ fp=>(aC bp hr (aa aj (aa (bx at0) (aa bQ (aa bQ ae)))))) (λC s₂ H₂ fp=>bI))) (bJ (cG (aa (az (l:=[48,58,48,48]) rfl (by decide)) (aa (az (l:=[48,58,53,57]) rfl (by decide)) (aa (az (l:=[49,58,48,48]) rfl (by decide)) (aa (az (l:=[53,57,58,53,57]) rfl (by decide)) (aa (az (l:=[49,58,48,48,58,48,48]) rfl (by decide)) (aa (az (l:=[49,58,48,49,58,48,49]) rfl (by decide)) ae)))))))))) ax))))))
def A2:FnScope ["columns","sizes","texts"] ["columns","sizes","texts"] (ar (top 85)):=by walk_at "s"
def Fe:FnScope ["columns","rows","room","sizes","names","line"] ["columns","rows","room"] (ar (top 86)):=by walk_at "s"
def sC:FnScope ["thing"] ["thing"] (ar (top 53)):=by walk_at "s"
def ug:FnScope ["wishes","room"] ["wishes","room"] (ar (top 55)):=by walk_at "s"
def jp:FnScope ["_law_script","_law_many","_law_columns","_law_row","_law_told","_law_text","_law_wide","_law_due"] ["_law_script"] (ar (top 104)):=by walk_at "s"
def jk{kC cZ:List D->R D}(bi:mg "len"=none)(jG:mg "range"=none)(dJ:Callee P w K mg base "_law_pick" 9 3 aR)(gy:Callee P w K mg base "is_table" 9 2 bA)(bp:Callee P w K mg base "_law_do" 9 4 av)(GR:Callee P w K mg base "table" 9 3 kC)(pS:Callee P w K mg base "blank" 9 2 bM)(mI:Callee P w K mg base "shared_out" 9 2 cZ)(Fn:FUz K "_law_are_columns_told" 104 f fd):FnF P w K mg base 10 f fd ["_law_script"] (λds=>aD (bL aR bA av kC bM cZ (aw 8 ds))):=by
 have hN:(["_law_script","_law_many","_law_columns","_law_row","_law_told","_law_text","_law_wide","_law_due"]:List Str).Nodup:=by decide
 refine Fn.okF jp (k:=9) (g:=bL aR bA av kC bM cZ) λ_ _ _ _ _ _ hr=>?_;have hu:=hr.units;exact(ag (cC at1 hN (bF aj (aC dJ hr (aa (ai at0) (aa aj (aa aj ae)))))) (ag (Ky (cX (aa (bP (cX (aa (cX (aa (az (l:=[97,98]) rfl (by decide)) (aa (az (l:=[60]) rfl (by decide)) ae))) ae)) (ai at1)) (aa (bP (cX (aa (az (l:=[120]) rfl (by decide)) ae)) (ai at1)) ae))) rfl (dL 2 hN (dL 3 hN lL))) (ag (GW 4 hN (cG (aa (aC gy hr (aa (ai at2) (aa (bP (bJ (cG (aa (ai at3) ae))) aj) ae))) (aa (aC gy hr (aa (ai at2) (aa (bP (bJ (cG (aa (ai at3) ae))) aj) ae))) ae)))) (ag (uf 4 (bJ (cG (aa (aC gy hr (aa (bP (cX (aa (cX (aa (az (l:=[97]) rfl (by decide)) (aa (az (l:=[60]) rfl (by decide)) ae))) ae)) aj) (aa (bJ (cG ae)) ae))) (aa (aC gy hr (aa (cX ae) (aa (bJ (cG ae)) ae))) ae))))) (zl 4 (ag (dU (ee hu (ai at4) (bJ (cG (aa ff (aa ff (aa ff (aa ff ae))))))) (ag (aX ff) ax) ax) (ag (uc 4 hN (N':=["_law_room","_law_columns","_law_row"]) (ix:=[2,3]) bg rfl (bU (cX (aa (dR (bP aj (ai at1)) aj) (aa (dR (bP aj (ai at1)) aj) (aa aj (aa aj ae)))))) (λC s₂ H₂ fp=>(aC bp hr (aa aj (aa (bx at1) (aa (bJ (cG (aa (bx at2) ae))) (aa (bx at0) ae)))))) (λC s₂ H₂ fp=>bI)) (zl 4 (ag (dU (iA (dS (ee hu (ai at4) (bJ (cG (aa (bP (bJ (cG (aa aj ae))) (ai at1)) (aa (az (l:=[110,111,32,114,111,111,109]) rfl (by decide)) (aa (bP (bJ (cG (aa aj ae))) (ai at1)) (aa (az (l:=[110,111,32,114,111,111,109]) rfl (by decide)) ae))))))) (dw (ee hu (dY rfl bi (aa (aC GR hr (aa (ai at2) (aa (bP (bJ (cG (aa (ai at3) ae))) aj) (aa aj ae)))) ae)) aj)))) (ag (aX ff) ax) ax) (ag (cC at5 hN (kg (az (l:=[97,98,99,100,101,102,103,104,105,106]) rfl (by decide)) jW (rK (bF aj (aC dJ hr (aa (ai at0) (aa aj (aa aj ae)))))))) (ag (vV rX rfl (A1 rfl jG (aa aj (aa aj ae))) (fB 6 hN) (ag (cC at7 hN (Fb (HQ (dY rfl bi (aa (ai at5) ae)) (ai at6)) (ai at5) (bF (kg (ai at5) jW (rK (dR (ai at6) aj))) (az (l:=[126]) rfl (by decide))))) (ag (dU (iA (dS (ee hu (aC bp hr (aa aj (aa (ai at5) (aa (ai at6) (aa bQ ae))))) (ai at7)) (dw (ee hu (aC bp hr (aa aj (aa (ai at5) (aa (ai at6) (aa (az (l:=[60]) rfl (by decide)) ae))))) (bF (ai at7) (bP (az (l:=[32]) rfl (by decide)) (dR (ai at6) (dY rfl bi (aa (ai at7) ae))))))))) (ag (aX ff) ax) ax) ax))) (ag (cC at4 hN (bF (cK (bD (N':=["_law_wide","_law_text"]) (ix:=[5]) bg rfl (bU (cX (aa aj (aa aj ae)))) (λC s₂ H₂ fp=>(aC bp hr (aa aj (aa (bx at1) (aa (bx at0) (aa bQ ae)))))) (λC s₂ H₂ fp=>bI))) (cK (bD (N':=["_law_wide"]) (ix:=[]) bg rfl (bU (cX (aa aj (aa aj ae)))) (λC s₂ H₂ fp=>(aC bp hr (aa aj (aa (bx at0) (aa aj (aa bQ ae)))))) (λC s₂ H₂ fp=>bI))))) (ag (dU (iA (dS (ee hu (bF (ai at4) (cK (bD (N':=["_law_many"]) (ix:=[]) bg rfl (bU (cX (aa aj (aa aj ae)))) (λC s₂ H₂ fp=>(aC bp hr (aa aj (aa aj (aa (bx at0) (aa bQ ae)))))) (λC s₂ H₂ fp=>bI)))) (bP (bJ (cG (aa (az (l:=[110,111,32,114,111,111,109]) rfl (by decide)) ae))) aj)) (dw (ee hu (cb (aC pS hr (aa aj (aa aj ae))) aj) aj)))) (ag (aX ff) ax) ax) (ag (aX (eX (qR hu (aC mI hr (aa (bJ (cG (aa aj (aa aj ae)))) (aa aj ae))) (bJ (cG (aa aj (aa aj ae))))) (gP (qR hu (aC mI hr (aa (bJ (cG (aa aj ae))) (aa aj ae))) (bJ (cG (aa aj ae))))))) ax))))))))))))))
def pz:FnScope ["thing","order"] ["thing"] (ar (top 65)):=by walk_at "s"
def mr:FnScope ["one","other","text"] ["one","other"] (ar (top 66)):=by walk_at "s"
def uY:FnScope ["orders","short","order","both"] ["orders"] (ar (top 67)):=by walk_at "s"
def vA:FnScope ["self","name","total","number"] ["self","name","total"] (ar (jU (top 74) 1)):=by walk_at "s"
def uE(bi:mg "len"=none){mQ:Tok}(dM:mg "MOST_TASKS"=some (.int 9 mQ))(cf:Ref "NoRoom" ah mg base)(jo:Callee P w K mg base "check_plain" 3 1 aQ)(dh:Callee P w K mg base "check_total" 3 1 ak)(cA:CF K aL [2,3,4,5,6]){F:MF}(ok:rH aL (gf aL aQ ak ah) 4 F)(Fn:Fun K "add" "Board.add" (jU (top 74) 1) f fd):FnM P w K mg base 4 f fd ["self","name","total"] aL F:=by
 have hN:(["self","name","total","number"]:List Str).Nodup:=by decide
 refine Fn.okM vA ok (k:=3) λ_ _ _ _ _ _ hr=>?_;have hh:=hr.hd;exact(ag (ig (aC jo hr (aa (ai at1) ae))) (ag (ig (aC dh hr (aa (ai at2) ae))) (ag (dU (NG (IP 0 5 cA (by decide) rfl bi) (aZ rfl dM)) (ag (cF cf hh (az (l:=[97,32,98,111,97,114,100,32,104,97,115,32,57,32,116,97,115,107,115,32,97,116,32,109,111,115,116]) rfl (by decide))) ax) ax) (ag (cC at3 hN (L7 0 6 cA (by decide))) (ag (Gw 0 5 cA (by decide) (cX (aa (ai at3) (aa (ai at1) (aa aj (aa (ai at2) ae))))) (ai at3)) (ag (Kt 0 6 cA (by decide) aj) (ag (K7 (ai at3)) ax)))))))
def tX:FnScope ["self","width"] ["self","width"] (ar (jU (top 74) 0)):=by walk_at "s"
def tq{cB:Tok}(bc:mg "MOST_WIDTH"=some (.int 40 cB)){kP:Tok}(df:mg "LEAST_BOARD"=some (.int 20 kP)){fv:Tok}(bV:mg "MOST_ROWS"=some (.int 12 fv))(cf:Ref "NoRoom" ah mg base)(aN:Callee P w K mg base "is_within" 3 3 ad)(pS:Callee P w K mg base "blank" 3 2 bM)(cA:CF K aL [2,3,4,5,6]){F:MF}(ok:rH aL (fA aL ad bM ah) 2 F)(Fn:Fun K "__init__" "Board.__init__" (jU (top 74) 0) f fd):FnM P w K mg base 4 f fd ["self","width"] aL F:=by refine Fn.okM tX ok (k:=3) λ_ _ _ _ _ _ hr=>?_;have hh:=hr.hd;exact(ag (dU (bN (bS (aC aN hr (aa (ai at1) (aa (aZ rfl df) (aa (aZ rfl bc) ae)))))) (ag (cF cf hh (az (l:=[97,32,98,111,97,114,100,32,105,115,32,102,114,111,109,32,50,48,32,116,111,32,52,48,32,115,105,103,110,115,32,119,105,100,101]) rfl (by decide))) ax) ax) (ag (AL 0 2 cA (by decide) (ai at1)) (ag (AL 0 3 cA (by decide) (aC pS hr (aa (ai at1) (aa (aZ rfl bV) ae)))) (ag (LN 0 4 cA (by decide) (cG ae)) (ag (JO 0 5 cA (by decide)) (ag (AL 0 6 cA (by decide) aj) ax))))))
def JU:FnScope ["_law_script","_law_many","_law_one","_law_other","_law_some","_law_whole","_law_told","_law_odd","_law_board"] ["_law_script"] (ar (top 105)):=by walk_at "s"
def JE{cM fM:MF}{bE bo cm:List D->R D}(bi:mg "len"=none)(lJ:Callee P w K mg base "_law_are_counted" 10 1 bE)(jy:Callee P w K mg base "_law_are_times_read" 10 0 bo)(iW:Callee P w K mg base "_law_are_columns_told" 10 1 bf)(dJ:Callee P w K mg base "_law_pick" 10 3 aR)(oX:Callee P w K mg base "shortened" 10 1 cm)(bp:Callee P w K mg base "_law_do" 10 4 av)(cA:CF K aL [2,3,4,5,6])(xt:MCallee P w K mg base aL "add" 10 2 cM)(D2:MkC P w K mg base aL "Board" 9 1 fM){gr:List D->R D}(hg:∀ds:List D,ds.length=1->gr ds=.no\/∀q,aD (sy aL cM fM bE bo bf aR cm av q (aw 9 ds))=gr ds)(Fn:FUz K "law" 105 f fd):FnF P w K mg base 11 f fd ["_law_script"] gr:=by
 have hN:(["_law_script","_law_many","_law_one","_law_other","_law_some","_law_whole","_law_told","_law_odd","_law_board"]:List Str).Nodup:=by decide
 refine Fn.okA JU (k:=10) (g:=sy aL cM fM bE bo bf aR cm av) hg λcdv A outer s H E hr=>?_;have hu:=hr.units;have h_0:PSF (gB (CXo P w) P w K mg base ["_law_script","_law_many","_law_one","_law_other","_law_some","_law_whole","_law_told","_law_odd","_law_board"] "law" (ar (top 105)) f cdv A outer s H E) ((cz (top 105)).getD 0 (.Pass ⟨0,0,0,0⟩)) (vc bE bo bf):=(dU (iA (dS (bN (bS (aC lJ hr (aa (ai at0) ae)))) (dS (bN (bS (GG jy hr))) (dw (bN (bS (aC iW hr (aa (ai at0) ae)))))))) (ag (aX ff) ax) ax)
 have h_1:PSF (gB (CXo P w) P w K mg base ["_law_script","_law_many","_law_one","_law_other","_law_some","_law_whole","_law_told","_law_odd","_law_board"] "law" (ar (top 105)) f cdv A outer s H E) ((cz (top 105)).getD 1 (.Pass ⟨0,0,0,0⟩)) (wu aR):=(cC at1 hN (aC dJ hr (aa (ai at0) (aa aj (aa aj ae)))))
 have h_2:PSF (gB (CXo P w) P w K mg base ["_law_script","_law_many","_law_one","_law_other","_law_some","_law_whole","_law_told","_law_odd","_law_board"] "law" (ar (top 105)) f cdv A outer s H E) ((cz (top 105)).getD 2 (.Pass ⟨0,0,0,0⟩)) (yr):=(Nc 2 3 rfl hN (aa (bP (az (l:=[97]) rfl (by decide)) (ai at1)) (aa (bP (az (l:=[98]) rfl (by decide)) (dR aj (ai at1))) ae)))
 have h_3:PSF (gB (CXo P w) P w K mg base ["_law_script","_law_many","_law_one","_law_other","_law_some","_law_whole","_law_told","_law_odd","_law_board"] "law" (ar (top 105)) f cdv A outer s H E) ((cz (top 105)).getD 3 (.Pass ⟨0,0,0,0⟩)) (yB):=(uc 4 hN (N':=["_law_text"]) (ix:=[]) bg rfl (bU (cX (aa (ai at2) (aa (ai at3) ae)))) (λC s₂ H₂ fp=>(cX (aa (az (l:=[115,97,121]) rfl (by decide)) (aa (bx at0) ae)))) (λC s₂ H₂ fp=>(Iz (ee hu (bx at0) (az (l:=[]) rfl (by decide))))))
 have h_4:PSF (gB (CXo P w) P w K mg base ["_law_script","_law_many","_law_one","_law_other","_law_some","_law_whole","_law_told","_law_odd","_law_board"] "law" (ar (top 105)) f cdv A outer s H E) ((cz (top 105)).getD 4 (.Pass ⟨0,0,0,0⟩)) (yG):=(cC at5 hN (bJ (cG (aa (cX (aa (az (l:=[115,97,121]) rfl (by decide)) (aa (bF (ai at2) (ai at3)) ae))) ae))))
 have h_5:PSF (gB (CXo P w) P w K mg base ["_law_script","_law_many","_law_one","_law_other","_law_some","_law_whole","_law_told","_law_odd","_law_board"] "law" (ar (top 105)) f cdv A outer s H E) ((cz (top 105)).getD 5 (.Pass ⟨0,0,0,0⟩)) (yp cm):=(cC at6 hN (aC oX hr (aa (bF (ai at4) (bJ (cG (aa (cX (aa (az (l:=[115,97,121]) rfl (by decide)) (aa (az (l:=[99]) rfl (by decide)) ae))) ae)))) ae)))
 have h_6:PSF (gB (CXo P w) P w K mg base ["_law_script","_law_many","_law_one","_law_other","_law_some","_law_whole","_law_told","_law_odd","_law_board"] "law" (ar (top 105)) f cdv A outer s H E) ((cz (top 105)).getD 6 (.Pass ⟨0,0,0,0⟩)) (yA cm):=(dU (iA (dS (ee hu (aC oX hr (aa (ai at4) ae)) (ai at5)) (dS (ee hu (dY rfl bi (aa (ai at6) ae)) aj) (dw (ee hu (Be (az (l:=[]) rfl (by decide)) (aa (cK (bD (N':=["_law_order"]) (ix:=[]) bg rfl (bU (ai at6)) (λC s₂ H₂ fp=>(cb (bx at0) aj)) (λC s₂ H₂ fp=>bI))) ae)) (bF (bF (ai at2) (ai at3)) (az (l:=[99]) rfl (by decide)))))))) (ag (aX ff) ax) ax)
 have h_7:PSF (gB (CXo P w) P w K mg base ["_law_script","_law_many","_law_one","_law_other","_law_some","_law_whole","_law_told","_law_odd","_law_board"] "law" (ar (top 105)) f cdv A outer s H E) ((cz (top 105)).getD 7 (.Pass ⟨0,0,0,0⟩)) (uP):=(cC at7 hN (bJ (cG (aa (az (l:=[103,111,32,49,10]) rfl (by decide)) (aa (az (l:=[103,111,32,49,32,49,48,48,10]) rfl (by decide)) (aa (az (l:=[103,111,32,49,48,48,32,49,10]) rfl (by decide)) (aa (az (l:=[103,111,32,48,49,32,49,10]) rfl (by decide)) (aa (az (l:=[103,111,32,49,50,32,49,10]) rfl (by decide)) (aa (az (l:=[103,111,32,49,32,52,49,10]) rfl (by decide)) (aa (az (l:=[103,111,32,49,32,49,32,49,10]) rfl (by decide)) (aa (az (l:=[115,97,121,32,10]) rfl (by decide)) ae)))))))))))
 have h_8:PSF (gB (CXo P w) P w K mg base ["_law_script","_law_many","_law_one","_law_other","_law_some","_law_whole","_law_told","_law_odd","_law_board"] "law" (ar (top 105)) f cdv A outer s H E) ((cz (top 105)).getD 8 (.Pass ⟨0,0,0,0⟩)) (uU av):=(dU (ee hu (cK (bD (N':=["_law_text"]) (ix:=[]) bg rfl (bU (ai at7)) (λC s₂ H₂ fp=>(aC bp hr (aa aj (aa (bx at0) (aa bQ (aa bQ ae)))))) (λC s₂ H₂ fp=>bI))) (bP (bJ (cG (aa (az (l:=[110,111,32,116,101,120,116]) rfl (by decide)) ae))) aj)) (ag (aX ff) ax) ax)
 have h_9:PSF (gB (CXo P w) P w K mg base ["_law_script","_law_many","_law_one","_law_other","_law_some","_law_whole","_law_told","_law_odd","_law_board"] "law" (ar (top 105)) f cdv A outer s H E) ((cz (top 105)).getD 9 (.Pass ⟨0,0,0,0⟩)) (nZ av):=(dU (ee hu (aC bp hr (aa aj (aa (az (l:=[103,111,32,49,49,32,52,48,10]) rfl (by decide)) (aa bQ (aa bQ ae))))) (bJ (cG (aa (cX (aa (az (l:=[103,111]) rfl (by decide)) (aa aj (aa aj ae)))) ae)))) (ag (aX ff) ax) ax)
 have h_11:PSF (gB (CXo P w) P w K mg base ["_law_script","_law_many","_law_one","_law_other","_law_some","_law_whole","_law_told","_law_odd","_law_board"] "law" (ar (top 105)) f cdv A outer s H E) ((cz (top 105)).getD 11 (.Pass ⟨0,0,0,0⟩)) (wO aL cM):=(HD 8 hu (N':=["_law_total","_law_board"]) bg rfl cA xt hr (bU (cX (aa aj (aa (yQ aj aj) ae)))) (λC s₂ H₂ fp=>(aa (az (l:=[120]) rfl (by decide)) (aa (bx at0) ae))) (bJ (cG (aa aj (aa aj ae)))))
 exact(im h_0 (im h_1 (im h_2 (im h_3 (im h_4 (J1 4 (im h_5 (im h_6 (im h_7 (im h_8 (im h_9 (LU 8 D2 hr hN (aa aj ae) (GN (ag h_11 ax))))))))))))))
end
def Kz{w:World}{K:PySem.W.Frag}{mg:Str->Option Value}{fa:Addr}(hfa:mg "law"=some (.ref fa))(fH:mg "ValueError"=none)(eK:mg "all"=none)(vg:mg "bool"=none)(gF:mg "enumerate"=none)(lC:mg "int"=none)(aq:mg "isinstance"=none)(bi:mg "len"=none)(ij:mg "list"=none)(BR:mg "max"=none)(vx:mg "min"=none)(jG:mg "range"=none)(fR:mg "str"=none)(Co:mg "sum"=none)(cS:mg "tuple"=none)(we:mg "zip"=none)(cD:∃t,mg "BAR_ENDS"=some (.int 2 t))(fw:∃t,mg "CUT_MARK"=some (.str "~" t))(gZ:∃t,mg "FIGURES"=some (.str "0123456789" t))(kZ:∃t,mg "HOUR"=some (.int 3600 t))(cN:∃t,mg "LEAST_BAR"=some (.int 3 t))(df:∃t,mg "LEAST_BOARD"=some (.int 20 t))(dI:∃t,mg "LEAST_MANY"=some (.int 2 t))(cE:∃t,mg "LONGEST_CLOCK"=some (.int 12 t))(gh:∃t,mg "MINUTE"=some (.int 60 t))(dB:∃t,mg "MOST_BAR"=some (.int 40 t))(cP:∃t,mg "MOST_COLUMNS"=some (.int 6 t))(bw:∃t,mg "MOST_COUNT"=some (.int 1000000000 t))(cL:∃t,mg "MOST_FIGURES"=some (.int 2 t))(dZ:∃t,mg "MOST_MANY"=some (.int 99 t))(bV:∃t,mg "MOST_ROWS"=some (.int 12 t))(cO:∃t,mg "MOST_SAID"=some (.int 40 t))(dg:∃t,mg "MOST_SHARED"=some (.int 999 t))(bX:∃t,mg "MOST_TABLE_ROWS"=some (.int 9 t))(dM:∃t,mg "MOST_TASKS"=some (.int 9 t))(bc:∃t,mg "MOST_WIDTH"=some (.int 40 t))(eA:∃t,mg "MOST_WISH"=some (.int 99 t))(kJ:∃a,mg "SIDES"=some (.ref a)/\KTup K a [[60],[62],[94]])(lQ:PySem.W.nsIn K mainGlobals "NoNumber"=some (some (.ref af)))(mD:PySem.W.excIn K af [.type "ValueError",.type "Exception",.type "BaseException",.type "object"] "ValueError.__new__"=true)(pj:PySem.W.nsIn K mainGlobals "NoOrder"=some (some (.ref ao)))(pD:PySem.W.excIn K ao [.type "ValueError",.type "Exception",.type "BaseException",.type "object"] "ValueError.__new__"=true)(se:PySem.W.nsIn K mainGlobals "NoRoom"=some (some (.ref ah)))(sA:PySem.W.excIn K ah [.type "ValueError",.type "Exception",.type "BaseException",.type "object"] "ValueError.__new__"=true)(pq:PySem.W.nsIn K mainGlobals "NoTable"=some (some (.ref aA)))(pA:PySem.W.excIn K aA [.type "ValueError",.type "Exception",.type "BaseException",.type "object"] "ValueError.__new__"=true)(sU:PySem.W.nsIn K mainGlobals "NoText"=some (some (.ref am)))(sS:PySem.W.excIn K am [.type "ValueError",.type "Exception",.type "BaseException",.type "object"] "ValueError.__new__"=true)(xG:PySem.W.nsIn K mainGlobals "Board"=some (some (.ref aL)))(cA:CF K aL [2,3,4,5,6])(nd:[aH,ao,ah,af,aA,aU,am].Nodup)(Er:Errs K mg [af,ao,ah,aA,am] [("NoScreen",aH),("NoOrder",ao),("NoRoom",ah),("NoNumber",af),("NoTable",aA),("NoTask",aU),("NoText",am)])(h98:∃f fd,FUz K "_law_cell" 98 f fd/\mg "_law_cell"=some (.ref f))(h99:∃f fd,FUz K "_law_pick" 99 f fd/\mg "_law_pick"=some (.ref f))(h12:∃f fd,FUz K "is_whole" 12 f fd/\mg "is_whole"=some (.ref f))(h13:∃f fd,FUz K "is_within" 13 f fd/\mg "is_within"=some (.ref f))(h27:∃f fd,FUz K "check_total" 27 f fd/\mg "check_total"=some (.ref f))(h28:∃f fd,FUz K "check_done" 28 f fd/\mg "check_done"=some (.ref f))(h30:∃f fd,FUz K "bar_text" 30 f fd/\mg "bar_text"=some (.ref f))(h31:∃f fd,FUz K "bar" 31 f fd/\mg "bar"=some (.ref f))(h40:∃f fd,FUz K "is_sample" 40 f fd/\mg "is_sample"=some (.ref f))(h41:∃f fd,FUz K "are_samples" 41 f fd/\mg "are_samples"=some (.ref f))(h29:∃f fd,FUz K "rounded_up" 29 f fd/\mg "rounded_up"=some (.ref f))(h42:∃f fd,FUz K "time_left" 42 f fd/\mg "time_left"=some (.ref f))(h14:∃f fd,FUz K "is_plain" 14 f fd/\mg "is_plain"=some (.ref f))(h15:∃f fd,FUz K "check_plain" 15 f fd/\mg "check_plain"=some (.ref f))(h56:∃f fd,FUz K "check_width" 56 f fd/\mg "check_width"=some (.ref f))(h57:∃f fd,FUz K "cut" 57 f fd/\mg "cut"=some (.ref f))(h52:∃f fd,FUz K "is_side" 52 f fd/\mg "is_side"=some (.ref f))(h58:∃f fd,FUz K "filled_to" 58 f fd/\mg "filled_to"=some (.ref f))(h78:∃f fd,FUz K "is_column" 78 f fd/\mg "is_column"=some (.ref f))(h79:∃f fd,FUz K "are_columns" 79 f fd/\mg "are_columns"=some (.ref f))(h80:∃f fd,FUz K "is_table_row" 80 f fd/\mg "is_table_row"=some (.ref f))(h81:∃f fd,FUz K "is_table" 81 f fd/\mg "is_table"=some (.ref f))(h82:∃f fd,FUz K "check_table" 82 f fd/\mg "check_table"=some (.ref f))(h83:∃f fd,FUz K "column_wish" 83 f fd/\mg "column_wish"=some (.ref f))(h54:∃f fd,FUz K "shares" 54 f fd/\mg "shares"=some (.ref f))(h84:∃f fd,FUz K "widths" 84 f fd/\mg "widths"=some (.ref f))(h32:∃f fd,FUz K "is_bar" 32 f fd/\mg "is_bar"=some (.ref f))(h33:∃f fd,FUz K "bar_means" 33 f fd/\mg "bar_means"=some (.ref f))(h34:∃f fd,FUz K "percent" 34 f fd/\mg "percent"=some (.ref f))(h35:∃f fd,FUz K "counted" 35 f fd/\mg "counted"=some (.ref f))(h46:∃f fd,FUz K "blank" 46 f fd/\mg "blank"=some (.ref f))(h36:∃f fd,FUz K "two_figures" 36 f fd/\mg "two_figures"=some (.ref f))(h37:∃f fd,FUz K "clock" 37 f fd/\mg "clock"=some (.ref f))(h16:∃f fd,FUz K "are_figures" 16 f fd/\mg "are_figures"=some (.ref f))(h38:∃f fd,FUz K "seconds_or_none" 38 f fd/\mg "seconds_or_none"=some (.ref f))(h39:∃f fd,FUz K "read_clock" 39 f fd/\mg "read_clock"=some (.ref f))(h92:∃f fd,FUz K "lines_of" 92 f fd/\mg "lines_of"=some (.ref f))(h90:∃f fd,FUz K "is_short_number" 90 f fd/\mg "is_short_number"=some (.ref f))(h91:∃f fd,FUz K "spot_or_none" 91 f fd/\mg "spot_or_none"=some (.ref f))(h94:∃f fd,FUz K "order_or_none" 94 f fd/\mg "order_or_none"=some (.ref f))(h61:∃f fd,FUz K "is_say" 61 f fd/\mg "is_say"=some (.ref f))(h62:∃f fd,FUz K "is_go" 62 f fd/\mg "is_go"=some (.ref f))(h63:∃f fd,FUz K "is_order" 63 f fd/\mg "is_order"=some (.ref f))(h64:∃f fd,FUz K "check_order" 64 f fd/\mg "check_order"=some (.ref f))(h89:∃f fd,FUz K "spot_text" 89 f fd/\mg "spot_text"=some (.ref f))(h93:∃f fd,FUz K "order_text" 93 f fd/\mg "order_text"=some (.ref f))(h95:∃f fd,FUz K "read_order" 95 f fd/\mg "read_order"=some (.ref f))(h96:∃f fd,FUz K "read_orders" 96 f fd/\mg "read_orders"=some (.ref f))(h100:∃f fd,FUz K "_law_word" 100 f fd/\mg "_law_word"=some (.ref f))(h101:∃f fd,FUz K "_law_do" 101 f fd/\mg "_law_do"=some (.ref f))(h102:∃f fd,FUz K "_law_are_counted" 102 f fd/\mg "_law_are_counted"=some (.ref f))(h103:∃f fd,FUz K "_law_are_times_read" 103 f fd/\mg "_law_are_times_read"=some (.ref f))(h85:∃f fd,FUz K "fitted" 85 f fd/\mg "fitted"=some (.ref f))(h86:∃f fd,FUz K "table" 86 f fd/\mg "table"=some (.ref f))(h53:∃f fd,FUz K "are_wishes" 53 f fd/\mg "are_wishes"=some (.ref f))(h55:∃f fd,FUz K "shared_out" 55 f fd/\mg "shared_out"=some (.ref f))(h104:∃f fd,FUz K "_law_are_columns_told" 104 f fd/\mg "_law_are_columns_told"=some (.ref f))(h65:∃f fd,FUz K "check_orders" 65 f fd/\mg "check_orders"=some (.ref f))(h66:∃f fd,FUz K "joined_or_none" 66 f fd/\mg "joined_or_none"=some (.ref f))(h67:∃f fd,FUz K "shortened" 67 f fd/\mg "shortened"=some (.ref f))(h74_1:∃f fd,Fun K "add" "Board.add" (jU (top 74) 1) f fd/\Meth K aL "add" f)(h74_0:∃f fd,Fun K "__init__" "Board.__init__" (jU (top 74) 0) f fd/\Mk K aL f)(h105:∃f fd,FUz K "law" 105 f fd/\mg "law"=some (.ref f)):
  ∃fd:FuncData,(∀(s:Shared)(u:Value),BindsTo s fd ⟨[u],[]⟩ [("_law_script",u)])/\∀base:Heap,K.In base->base.Ns mainGlobals mg->FnF P w K mg base 11 fa fd ["_law_script"] E9:=by
 obtain⟨gz,cD⟩:=cD;obtain⟨rN,fw⟩:=fw;obtain⟨uy,gZ⟩:=gZ;obtain⟨Fq,kZ⟩:=kZ;obtain⟨iY,cN⟩:=cN;obtain⟨kP,df⟩:=df;obtain⟨mO,dI⟩:=dI;obtain⟨jx,cE⟩:=cE;obtain⟨yt,gh⟩:=gh;obtain⟨kf,dB⟩:=dB;obtain⟨ki,cP⟩:=cP;obtain⟨cY,bw⟩:=bw;obtain⟨km,cL⟩:=cL;obtain⟨oO,dZ⟩:=dZ;obtain⟨fv,bV⟩:=bV;obtain⟨ja,cO⟩:=cO;obtain⟨kM,dg⟩:=dg;obtain⟨iL,bX⟩:=bX;obtain⟨mQ,dM⟩:=dM;obtain⟨cB,bc⟩:=bc;obtain⟨pE,eA⟩:=eA;obtain⟨xa,kJ,xn⟩:=kJ;obtain⟨f98,d98,F98⟩:=h98;obtain⟨f99,d99,F99⟩:=h99;obtain⟨f12,d12,F12⟩:=h12;obtain⟨f13,d13,F13⟩:=h13;obtain⟨f27,d27,F27⟩:=h27;obtain⟨f28,d28,F28⟩:=h28;obtain⟨f30,d30,F30⟩:=h30;obtain⟨f31,d31,F31⟩:=h31;obtain⟨f40,d40,F40⟩:=h40;obtain⟨f41,d41,F41⟩:=h41;obtain⟨f29,d29,F29⟩:=h29;obtain⟨f42,d42,F42⟩:=h42;obtain⟨f14,d14,F14⟩:=h14;obtain⟨f15,d15,F15⟩:=h15;obtain⟨f56,d56,F56⟩:=h56;obtain⟨f57,d57,F57⟩:=h57;obtain⟨f52,d52,F52⟩:=h52;obtain⟨f58,d58,F58⟩:=h58;obtain⟨f78,d78,F78⟩:=h78;obtain⟨f79,d79,F79⟩:=h79;obtain⟨f80,d80,F80⟩:=h80;obtain⟨f81,d81,F81⟩:=h81;obtain⟨f82,d82,F82⟩:=h82;obtain⟨f83,d83,F83⟩:=h83;obtain⟨f54,d54,F54⟩:=h54;obtain⟨f84,d84,F84⟩:=h84;obtain⟨f32,d32,F32⟩:=h32;obtain⟨f33,d33,F33⟩:=h33;obtain⟨f34,d34,F34⟩:=h34;obtain⟨f35,d35,F35⟩:=h35;obtain⟨f46,d46,F46⟩:=h46;obtain⟨f36,d36,F36⟩:=h36;obtain⟨f37,d37,F37⟩:=h37;obtain⟨f16,d16,F16⟩:=h16;obtain⟨f38,d38,F38⟩:=h38;obtain⟨f39,d39,F39⟩:=h39;obtain⟨f92,d92,F92⟩:=h92;obtain⟨f90,d90,F90⟩:=h90;obtain⟨f91,d91,F91⟩:=h91;obtain⟨f94,d94,F94⟩:=h94;obtain⟨f61,d61,F61⟩:=h61;obtain⟨f62,d62,F62⟩:=h62;obtain⟨f63,d63,F63⟩:=h63;obtain⟨f64,d64,F64⟩:=h64;obtain⟨f89,d89,F89⟩:=h89;obtain⟨f93,d93,F93⟩:=h93;obtain⟨f95,d95,F95⟩:=h95;obtain⟨f96,d96,F96⟩:=h96;obtain⟨f100,d100,F100⟩:=h100;obtain⟨f101,d101,F101⟩:=h101;obtain⟨f102,d102,F102⟩:=h102;obtain⟨f103,d103,F103⟩:=h103;obtain⟨f85,d85,F85⟩:=h85;obtain⟨f86,d86,F86⟩:=h86;obtain⟨f53,d53,F53⟩:=h53;obtain⟨f55,d55,F55⟩:=h55;obtain⟨f104,d104,F104⟩:=h104;obtain⟨f65,d65,F65⟩:=h65;obtain⟨f66,d66,F66⟩:=h66;obtain⟨f67,d67,F67⟩:=h67;obtain⟨f74_1,d74_1,F74_1⟩:=h74_1;obtain⟨f74_0,d74_0,F74_0⟩:=h74_0;obtain⟨f105,d105,F105⟩:=h105;have e:fa=f105:=by have:=hfa.symm.trans F105.2;injection this with this;injection this
 subst e;refine⟨d105,λs u=>?_,λbase kb nb=>?_⟩;·obtain⟨oc,od,kV,doc,pm,an,cdv,ct,osl,rfl,lk,hcd⟩:=F105.1.ex;exact .of_eq rfl
 ·have bB:=uJ (x:="NoNumber") kb nb lQ mD;have iR:=uJ (x:="NoOrder") kb nb pj pD;have cf:=uJ (x:="NoRoom") kb nb se sA;have pF:=uJ (x:="NoTable") kb nb pq pA;have cQ:=uJ (x:="NoText") kb nb sU sS;have Fo:=xH kb nb xG;have k98:=F98.1.callee F98.2 ((F98.1.okF (P:=P) (w:=w) (base:=base) wV (k:=0) (g:=fF) λ_ _ _ _ _ _ hr=>(ag (dU (Cq (ai at1) (dY rfl bi (aa (ai at0) ae))) (ag (aX (cb (ai at0) (ai at1))) ax) ax) (ag (dU (qP hr.units (ai at0) (bJ (cG ae))) (ag (aX aj) ax) ax) (ag (aX (bF (bP (cb (ai at0) (rJ (ai at1) (dY rfl bi (aa (ai at0) ae)))) aj) (ai at1))) ax)))).to (tfr (F:=Dy))) (by walk_at "2");have k99:=F99.1.callee F99.2 ((F99.1.okF xc (k:=1) (g:=fE _) λ_ _ _ _ _ _ hr=>(ag (cC at3 xc.nd (rJ (bP (bF (aC k98 hr (aa (ai at0) (aa (ai at1) ae))) (bP aj (bF (ai at1) aj))) aj) aj)) (ag (aX (rJ (rJ (bF (bP (ai at3) (ai at3)) (jS (ai at3) aj)) aj) (ai at2))) ax))).to (tfr (F:=nJ))) (by walk_at "3");have k12:=F12.1.callee F12.2 ((F12.1.okF (P:=P) (w:=w) (base:=base) xT (k:=0) (g:=hZ) λ_ _ _ _ _ _ hr=>(ag (aX (eX (Il aq (ai at0) lC) (gP (K4 (Dc aq (ai at0) vg))))) ax)).to wX) (by walk_at "1");have k13:=F13.1.callee F13.2 ((F13.1.okF uD (k:=1) (g:=fZ _) λ_ _ _ _ _ _ hr=>(ag (aX (eX (aC k12 hr (aa (ai at0) ae)) (gP (xE (ai at1) (ai at0) (ai at2))))) ax)).to vP) (by walk_at "3");have k27:=F27.1.callee F27.2 ((F27.1.okF qj (k:=2) (g:=gE _ _) λ_ _ _ _ _ _ hr=>(ag (dU (bN (bS (aC k13 hr (aa (ai at0) (aa aj (aa (aZ rfl bw) ae)))))) (ag (cF bB hr.hd (az (l:=[97,32,116,111,116,97,108,32,105,115,32,97,32,119,104,111,108,101,32,110,117,109,98,101,114,32,102,114,111,109,32,49,32,116,111,32,49,48,48,48,48,48,48,48,48,48]) rfl (by decide))) ax) ax) ax)).to (tfr (F:=bR _))) (by walk_at "1");have k13m3:=k13.mono 3;have k28:=F28.1.callee F28.2 ((F28.1.okF su (k:=3) (g:=iB _ _ _) λ_ _ _ _ _ _ hr=>(ag (ig (aC k27 hr (aa (ai at1) ae))) (ag (dU (bN (bS (aC k13m3 hr (aa (ai at0) (aa aj (aa (ai at1) ae)))))) (ag (cF bB hr.hd (az (l:=[119,104,97,116,32,105,115,32,100,111,110,101,32,105,115,32,97,32,119,104,111,108,101,32,110,117,109,98,101,114,32,102,114,111,109,32,48,32,116,111,32,116,104,101,32,116,111,116,97,108]) rfl (by decide))) ax) ax) ax))).to (tfr (F:=cq _))) (by walk_at "2");have k30:=F30.1.callee F30.2 ((F30.1.okF (P:=P) (w:=w) (base:=base) wD (k:=0) (g:=jK) λ_ _ _ _ _ _ hr=>(ag (aX (bF (bF (bF (az (l:=[91]) rfl (by decide)) (bP (az (l:=[35]) rfl (by decide)) (ai at0))) (bP (az (l:=[46]) rfl (by decide)) (dR (ai at1) (ai at0)))) (az (l:=[93]) rfl (by decide)))) ax)).to (tfr (F:=ll))) (by walk_at "2");have k13m4:=k13.mono 4;have k30m4:=k30.mono 4;have k31:=F31.1.callee F31.2 ((F31.1.okF LI (k:=4) (g:=wQ _ _ _ _) λ_ _ _ _ _ _ hr=>(ag (ig (aC k28 hr (aa (ai at0) (aa (ai at1) ae)))) (ag (dU (bN (bS (aC k13m4 hr (aa (ai at2) (aa (aZ rfl cN) (aa (aZ rfl dB) ae)))))) (ag (cF cf hr.hd (az (l:=[97,32,98,97,114,32,105,115,32,102,114,111,109,32,51,32,116,111,32,52,48,32,115,105,103,110,115,32,119,105,100,101]) rfl (by decide))) ax) ax) (ag (cC at3 LI.nd (dR (ai at2) (aZ rfl cD))) (ag (aX (aC k30m4 hr (aa (jS (bP (ai at0) (ai at3)) (ai at1)) (aa (ai at3) ae)))) ax))))).to (tfr (F:=Fv _ _))) (by walk_at "3");have k40:=F40.1.callee F40.2 ((F40.1.okF wo (k:=2) (g:=jm _) λ_ _ _ _ _ _ hr=>(ag (dU (iA (dS (bN (bS (jN aq (ai at0) cS))) (dw (ee hr.units (dY rfl bi (aa (ai at0) ae)) aj)))) (ag (aX ff) ax) ax) (ag (aX (eX (aC k13 hr (aa (cb (ai at0) aj) (aa aj (aa (aZ rfl bw) ae)))) (gP (aC k13 hr (aa (cb (ai at0) aj) (aa aj (aa (ai at1) ae))))))) ax))).to (tfr (F:=rG))) (by walk_at "2");have k41:=F41.1.callee F41.2 ((F41.1.okF qU (k:=3) (g:=gN _) λ_ _ _ _ _ _ hr=>(ag (dU (iA (dS (bN (bS (rY aq (ai at0) ij))) (dw (bN (bS (qA rfl rfl eK (aa (cK (bD (N':=["part","total"]) (ix:=[1]) bg rfl (bU (ai at0)) (λC s₂ H₂ fp=>(aC k40 hr (aa (bx at0) (aa (bx at1) ae)))) (λC s₂ H₂ fp=>bI))) ae))))))) (ag (aX ff) ax) ax) (ag (aX (qA rfl rfl eK (aa (cK (vR (n:=2) (N':=["one","other"]) (ix:=[]) yE rfl (λC s₂ H₂ fp=>nY rfl (dL 0 (by show(["one","other"]:List Str).Nodup;decide) (dL 1 (by show(["one","other"]:List Str).Nodup;decide) lL))) yn (JP rfl we (aa (ai at0) (aa (kg (ai at0) (rK aj) jW) ae))) (λC s₂ H₂ fp=>(eX (NY (cb (bx at0) aj) (cb (bx at1) aj)) (gP (LA (cb (bx at0) aj) (cb (bx at1) aj))))) (λC s₂ H₂ fp=>bI))) ae))) ax))).to (tfr (F:=ni))) (by walk_at "2");have k29:=F29.1.callee F29.2 ((F29.1.okF (P:=P) (w:=w) (base:=base) sG (k:=0) (g:=iz) λ_ _ _ _ _ _ hr=>(ag (aX (jS (dR (bF (ai at0) (ai at1)) aj) (ai at1))) ax)).to (tfr (F:=kB))) (by walk_at "2");have k27m4:=k27.mono 4;have k29m4:=k29.mono 4;have k42:=F42.1.callee F42.2 ((F42.1.okF wg (k:=4) (g:=jc _ _ _ _ _) λ_ _ _ _ _ _ hr=>(ag (ig (aC k27m4 hr (aa (ai at1) ae))) (ag (dU (bN (bS (aC k13m4 hr (aa (ai at2) (aa (aZ rfl dI) (aa (aZ rfl dZ) ae)))))) (ag (cF bB hr.hd (az (l:=[102,114,111,109,32,50,32,116,111,32,57,57,32,115,97,109,112,108,101,115,32,97,114,101,32,108,111,111,107,101,100,32,97,116]) rfl (by decide))) ax) ax) (ag (dU (bN (bS (aC k41 hr (aa (ai at0) (aa (ai at1) ae))))) (ag (cF bB hr.hd (az (l:=[116,104,101,115,101,32,97,114,101,32,110,111,32,115,97,109,112,108,101,115]) rfl (by decide))) ax) ax) (ag (dU (qP hr.units (dY rfl bi (aa (ai at0) ae)) aj) (ag (aX bQ) ax) ax) (ag (cC at3 wg.nd (cb (kg (ai at0) (rK (xD (ai at2))) jW) aj)) (ag (cC at4 wg.nd (cb (ai at0) (xD aj))) (ag (dU (qP hr.units (cb (ai at4) aj) (ai at1)) (ag (aX aj) ax) ax) (ag (dU (qP hr.units (cb (ai at4) aj) (cb (ai at3) aj)) (ag (aX bQ) ax) ax) (ag (aX (aC k29m4 hr (aa (bP (dR (ai at1) (cb (ai at4) aj)) (dR (cb (ai at4) aj) (cb (ai at3) aj))) (aa (dR (cb (ai at4) aj) (cb (ai at3) aj)) ae)))) ax)))))))))).to (tfr (F:=fy _))) (by walk_at "3");have k14:=F14.1.callee F14.2 ((F14.1.okF (P:=P) (w:=w) (base:=base) xb (k:=0) (g:=hJ) λ_ _ _ _ _ _ hr=>(ag (aX (eX (rR aq (ai at0) fR) (gP (qA rfl rfl eK (aa (cK (bD (N':=["sign"]) (ix:=[]) bg rfl (bU (ai at0)) (λC s₂ H₂ fp=>(xE (az (l:=[32]) rfl (by decide)) (bx at0) (az (l:=[126]) rfl (by decide)))) (λC s₂ H₂ fp=>bI))) ae))))) ax)).to xA) (by walk_at "1");have k15:=F15.1.callee F15.2 ((F15.1.okF ql (k:=1) (g:=eT _ _) λ_ _ _ _ _ _ hr=>(ag (dU (bN (bS (aC k14 hr (aa (ai at0) ae)))) (ag (cF cQ hr.hd (az (l:=[116,104,105,115,32,105,115,32,110,111,32,112,108,97,105,110,32,116,101,120,116]) rfl (by decide))) ax) ax) ax)).to qS) (by walk_at "1");have k56:=F56.1.callee F56.2 ((F56.1.okF qK (k:=2) (g:=eZ _ _) λ_ _ _ _ _ _ hr=>(ag (dU (bN (bS (aC k13 hr (aa (ai at0) (aa aj (aa (aZ rfl bc) ae)))))) (ag (cF cf hr.hd (az (l:=[97,32,119,105,100,116,104,32,105,115,32,102,114,111,109,32,49,32,116,111,32,52,48,32,115,105,103,110,115]) rfl (by decide))) ax) ax) ax)).to qv) (by walk_at "1");have k15m3:=k15.mono 3;have k57:=F57.1.callee F57.2 ((F57.1.okF J8 (k:=3) (g:=ud _ _) λ_ _ _ _ _ _ hr=>(ag (ig (aC k15m3 hr (aa (ai at0) ae))) (ag (ig (aC k56 hr (aa (ai at1) ae))) (ag (dU (HQ (dY rfl bi (aa (ai at0) ae)) (ai at1)) (ag (aX (ai at0)) ax) ax) (ag (aX (bF (kg (ai at0) jW (rK (dR (ai at1) aj))) (yK (l:=[126]) rfl fw rfl (by decide)))) ax))))).to Kr) (by walk_at "2");have k52:=F52.1.callee F52.2 ((F52.1.okF (P:=P) (w:=w) (base:=base) zI (k:=0) (g:=iX) λ_ _ _ _ _ _ hr=>(ag (aX (Kb hr.units (ai at0) (D5 (ls:=[[60],[62],[94]]) rfl kJ xn))) ax)).to zH) (by walk_at "1");have k52m4:=k52.mono 4;have k58:=F58.1.callee F58.2 ((F58.1.okF wf (k:=4) (g:=gv _ _ _) λ_ _ _ _ _ _ hr=>(ag (cC at3 wf.nd (aC k57 hr (aa (ai at0) (aa (ai at1) ae)))) (ag (dU (bN (bS (aC k52m4 hr (aa (ai at2) ae)))) (ag (cF bB hr.hd (az (l:=[116,104,101,114,101,32,105,115,32,110,111,32,115,117,99,104,32,115,105,100,101]) rfl (by decide))) ax) ax) (ag (dU (qP hr.units (ai at2) (az (l:=[60]) rfl (by decide))) (ag (aX (B8 (ai at3) (aa (ai at1) ae))) ax) ax) (ag (dU (qP hr.units (ai at2) (az (l:=[62]) rfl (by decide))) (ag (aX (xM (ai at3) (aa (ai at1) ae))) ax) ax) (ag (cC at4 wf.nd (jS (dR (ai at1) (dY rfl bi (aa (ai at3) ae))) aj)) (ag (aX (B8 (bF (bP (az (l:=[32]) rfl (by decide)) (ai at4)) (ai at3)) (aa (ai at1) ae))) ax))))))).to vb) (by walk_at "3");have k78:=F78.1.callee F78.2 ((F78.1.okF uF (k:=1) (g:=jj _ _) λ_ _ _ _ _ _ hr=>(ag (aX (eX (jN aq (ai at0) cS) (eX (qR hr.units (dY rfl bi (aa (ai at0) ae)) aj) (eX (aC k14 hr (aa (cb (ai at0) aj) ae)) (gP (aC k52 hr (aa (cb (ai at0) aj) ae))))))) ax)).to (tfr (F:=icF))) (by walk_at "1");have k79:=F79.1.callee F79.2 ((F79.1.okF qG (k:=2) (g:=gR _) λ_ _ _ _ _ _ hr=>(ag (dU (iA (dS (bN (bS (jN aq (ai at0) cS))) (dw (bN (BD aj (dY rfl bi (aa (ai at0) ae)) (aZ rfl cP)))))) (ag (aX ff) ax) ax) (ag (aX (qA rfl rfl eK (aa (cK (bD (N':=["part"]) (ix:=[]) bg rfl (bU (ai at0)) (λC s₂ H₂ fp=>(aC k78 hr (aa (bx at0) ae))) (λC s₂ H₂ fp=>bI))) ae))) ax))).to (tfr (F:=acF))) (by walk_at "1");have k80:=F80.1.callee F80.2 ((F80.1.okF pe (k:=1) (g:=fT _) λ_ _ _ _ _ _ hr=>(ag (aX (eX (jN aq (ai at0) cS) (eX (qR hr.units (dY rfl bi (aa (ai at0) ae)) (ai at1)) (gP (qA rfl rfl eK (aa (cK (bD (N':=["text"]) (ix:=[]) bg rfl (bU (ai at0)) (λC s₂ H₂ fp=>(aC k14 hr (aa (bx at0) ae))) (λC s₂ H₂ fp=>bI))) ae)))))) ax)).to (tfr (F:=OB))) (by walk_at "2");have k80m3:=k80.mono 3;have k81:=F81.1.callee F81.2 ((F81.1.okF xy (k:=3) (g:=jz _ _) λ_ _ _ _ _ _ hr=>(ag (dU (iA (dS (bN (bS (aC k79 hr (aa (ai at0) ae)))) (dS (bN (bS (rY aq (ai at1) ij))) (dw (zG (dY rfl bi (aa (ai at1) ae)) (aZ rfl bX)))))) (ag (aX ff) ax) ax) (ag (aX (qA rfl rfl eK (aa (cK (bD (N':=["row","columns"]) (ix:=[0]) bg rfl (bU (ai at1)) (λC s₂ H₂ fp=>(aC k80m3 hr (aa (bx at0) (aa (dY rfl bi (aa (bx at1) ae)) ae)))) (λC s₂ H₂ fp=>bI))) ae))) ax))).to (tfr (F:=Fy))) (by walk_at "2");have k82:=F82.1.callee F82.2 ((F82.1.okF qz (k:=4) (g:=gG _ _) λ_ _ _ _ _ _ hr=>(ag (dU (bN (bS (aC k81 hr (aa (ai at0) (aa (ai at1) ae))))) (ag (cF pF hr.hd (az (l:=[116,104,105,115,32,105,115,32,110,111,32,116,97,98,108,101]) rfl (by decide))) ax) ax) ax)).to (tfr (F:=OE _))) (by walk_at "2");have k83:=F83.1.callee F83.2 ((F83.1.okF (P:=P) (w:=w) (base:=base) pZ (k:=0) (g:=gW) λ_ _ _ _ _ _ hr=>(ag (cC at3 pZ.nd (bF (bJ (cG (aa (cb (cb (ai at0) (ai at2)) aj) ae))) (cK (bD (N':=["row","number"]) (ix:=[2]) bg rfl (bU (ai at1)) (λC s₂ H₂ fp=>(cb (bx at0) (bx at1))) (λC s₂ H₂ fp=>bI))))) (ag (aX (Jp rfl rfl BR (aa (bF (bJ (cG (aa aj ae))) (cK (bD (N':=["text"]) (ix:=[]) bg rfl (bU (ai at3)) (λC s₂ H₂ fp=>(dY rfl bi (aa (bx at0) ae))) (λC s₂ H₂ fp=>bI)))) ae))) ax))).to (tfr (F:=OF))) (by walk_at "3");have k54:=F54.1.callee F54.2 ((F54.1.okF (P:=P) (w:=w) (base:=base) Ag (k:=0) (g:=mC) λ_ _ _ _ _ _ hr=>(ag (uc 2 Ag.nd (N':=["wish"]) (ix:=[]) bg rfl (bU (ai at0)) (λC s₂ H₂ fp=>aj) (λC s₂ H₂ fp=>bI)) (ag (cC at3 Ag.nd (Lv rfl rfl vx (aa (ai at1) (aa (ND rfl rfl Co (aa (ai at0) ae)) ae)))) (ag (HS 1000 rX (zG (ai at3) aj) (ag (vV rX rfl (HA rfl gF (ai at0)) (nY rfl (dL 4 Ag.nd (dL 5 Ag.nd lL))) (ag (Oo 2 (iA (AM (zG (ai at3) aj) (yC (Cq (cb (ai at2) (ai at4)) (ai at5))))) (ag (Bk 2 (ai at4) aj Jm) (ag (JA 3 Ag.nd aj Ly) ax)) ax) ax) (hn:=pJ _)) ax)) (zl 2 (ag (aX (ai at2)) ax)))))).to B3) (by walk_at "2");have k13m5:=k13.mono 5;have k83m5:=k83.mono 5;have k54m5:=k54.mono 5;have k84:=F84.1.callee F84.2 ((F84.1.okF BS (k:=5) (g:=lU _ _ _ _ _) λ_ _ _ _ _ _ hr=>(ag (ig (aC k82 hr (aa (ai at0) (aa (ai at1) ae)))) (ag (cC at3 BS.nd (dY rfl bi (aa (ai at0) ae))) (ag (cC at4 BS.nd (dR (ai at3) aj)) (ag (dU (bN (bS (aC k13m5 hr (aa (ai at2) (aa (bF (ai at3) (ai at4)) (aa (aZ rfl bc) ae)))))) (ag (cF cf hr.hd (az (l:=[97,32,116,97,98,108,101,32,100,111,101,115,32,110,111,116,32,103,111,32,105,110,116,111,32,116,104,105,115,32,114,111,111,109]) rfl (by decide))) ax) ax) (ag (aX (aC k54m5 hr (aa (cK (bD (N':=["number","columns","rows"]) (ix:=[0,1]) bg rfl (Dv rfl jG (aa (ai at3) ae)) (λC s₂ H₂ fp=>(aC k83m5 hr (aa (bx at1) (aa (bx at2) (aa (bx at0) ae))))) (λC s₂ H₂ fp=>bI))) (aa (dR (ai at2) (ai at4)) ae)))) ax)))))).to (tfr (F:=wdF _ _))) (by walk_at "3");have k32:=F32.1.callee F32.2 ((F32.1.okF Bj (k:=1) (g:=my _) λ_ _ _ _ _ _ hr=>(ag (dU (iA (dS (bN (bS (rR aq (ai at0) fR))) (dw (bN (BD (aZ rfl cN) (dY rfl bi (aa (ai at0) ae)) (aZ rfl dB)))))) (ag (aX ff) ax) ax) (ag (aX (qR hr.units (ai at0) (aC k30 hr (aa (xU (ai at0) (aa (az (l:=[35]) rfl (by decide)) ae)) (aa (dR (dY rfl bi (aa (ai at0) ae)) (aZ rfl cD)) ae))))) ax))).to (tfr (F:=Cs))) (by walk_at "1");have k32m3:=k32.mono 3;have k29m3:=k29.mono 3;have k33:=F33.1.callee F33.2 ((F33.1.okF wq (k:=3) (g:=jf _ _ _ _) λ_ _ _ _ _ _ hr=>(ag (dU (bN (bS (aC k32m3 hr (aa (ai at0) ae)))) (ag (cF cQ hr.hd (az (l:=[116,104,105,115,32,105,115,32,110,111,32,98,97,114]) rfl (by decide))) ax) ax) (ag (ig (aC k27 hr (aa (ai at1) ae))) (ag (cC at2 wq.nd (dR (dY rfl bi (aa (ai at0) ae)) (aZ rfl cD))) (ag (cC at3 wq.nd (xU (ai at0) (aa (az (l:=[35]) rfl (by decide)) ae))) (ag (cC at4 wq.nd (aC k29m3 hr (aa (bP (ai at3) (ai at1)) (aa (ai at2) ae)))) (ag (cC at5 wq.nd (Lv rfl rfl vx (aa (ai at1) (aa (dR (aC k29m3 hr (aa (bP (bF (ai at3) aj) (ai at1)) (aa (ai at2) ae))) aj) ae)))) (ag (dU (zG (ai at4) (ai at5)) (ag (cF cQ hr.hd (az (l:=[110,111,32,99,111,117,110,116,32,111,102,32,116,104,105,115,32,116,111,116,97,108,32,104,97,115,32,116,104,105,115,32,98,97,114]) rfl (by decide))) ax) ax) (ag (aX (cX (aa (ai at4) (aa (ai at5) ae)))) ax))))))))).to (tfr (F:=iS _ _))) (by walk_at "2");have k34:=F34.1.callee F34.2 ((F34.1.okF zu (k:=4) (g:=kF _) λ_ _ _ _ _ _ hr=>(ag (ig (aC k28 hr (aa (ai at0) (aa (ai at1) ae)))) (ag (aX (xM (oB rfl fR (aa (jS (bP (ai at0) aj) (ai at1)) ae)) (aa aj ae))) ax))).to (tfr (F:=nU _))) (by walk_at "2");have k35:=F35.1.callee F35.2 ((F35.1.okF zb (k:=4) (g:=kA _) λ_ _ _ _ _ _ hr=>(ag (ig (aC k28 hr (aa (ai at0) (aa (ai at1) ae)))) (ag (aX (xM (sX (pB (ai at0)) (az (l:=[47]) rfl (by decide)) (pB (ai at1))) (aa (dY rfl bi (aa (sX (pB (ai at1)) (az (l:=[47]) rfl (by decide)) (pB (ai at1))) ae)) ae))) ax))).to (tfr (F:=la _))) (by walk_at "2");have k46:=F46.1.callee F46.2 ((F46.1.okF EN (k:=2) (g:=pI _ _) λ_ _ _ _ _ _ hr=>(ag (dU (iA (dS (bN (bS (aC k13 hr (aa (ai at0) (aa aj (aa (aZ rfl bc) ae)))))) (dw (bN (bS (aC k13 hr (aa (ai at1) (aa aj (aa (aZ rfl bV) ae))))))))) (ag (cF cf hr.hd (az (l:=[110,111,32,115,99,114,101,101,110,32,104,97,115,32,116,104,105,115,32,115,105,122,101]) rfl (by decide))) ax) ax) (ag (aX (cX (aa (ai at0) (aa (bP (cX (aa (bP (az (l:=[32]) rfl (by decide)) (ai at0)) ae)) (ai at1)) (aa (cX (aa aj (aa aj ae))) ae))))) ax))).to (tfr (F:=eP _))) (by walk_at "2");have k36:=F36.1.callee F36.2 ((F36.1.okF (P:=P) (w:=w) (base:=base) qD (k:=0) (g:=gT) λ_ _ _ _ _ _ hr=>(ag (aX (Ho (oB rfl fR (aa (ai at0) ae)) (aa aj ae))) ax)).to (tfr (F:=mG))) (by walk_at "1");have k36m2:=k36.mono 2;have k37:=F37.1.callee F37.2 ((F37.1.okF E7 (k:=2) (g:=oI _ _ _) λ_ _ _ _ _ _ hr=>(ag (dU (bN (bS (aC k13 hr (aa (ai at0) (aa aj (aa (aZ rfl bw) ae)))))) (ag (cF bB hr.hd (az (l:=[97,32,99,108,111,99,107,32,104,97,115,32,102,114,111,109,32,48,32,116,111,32,49,48,48,48,48,48,48,48,48,48,32,115,101,99,111,110,100,115]) rfl (by decide))) ax) ax) (ag (cC at1 E7.nd (aC k36m2 hr (aa (rJ (ai at0) (aZ rfl gh)) ae))) (ag (dU (Cq (ai at0) (aZ rfl kZ)) (ag (cC at2 E7.nd (jS (ai at0) (aZ rfl gh))) (ag (aX (sX (pB (ai at2)) (az (l:=[58]) rfl (by decide)) (pB (ai at1)))) ax)) ax) (ag (cC at3 E7.nd (jS (ai at0) (aZ rfl kZ))) (ag (cC at4 E7.nd (aC k36m2 hr (aa (jS (rJ (ai at0) (aZ rfl kZ)) (aZ rfl gh)) ae))) (ag (aX (IL (pB (ai at3)) (az (l:=[58]) rfl (by decide)) (pB (ai at4)) (az (l:=[58]) rfl (by decide)) (pB (ai at1)))) ax))))))).to (tfr (F:=gQ _))) (by walk_at "1");have k16:=F16.1.callee F16.2 ((F16.1.okF (P:=P) (w:=w) (base:=base) qO (k:=0) (g:=gS) λ_ _ _ _ _ _ hr=>(ag (aX (eX (M4 hr.units (ai at0) (az (l:=[]) rfl (by decide))) (gP (qA rfl rfl eK (aa (cK (bD (N':=["sign"]) (ix:=[]) bg rfl (bU (ai at0)) (λC s₂ H₂ fp=>(Ml (bx at0) (yK (l:=[48,49,50,51,52,53,54,55,56,57]) rfl gZ rfl (by decide)))) (λC s₂ H₂ fp=>bI))) ae))))) ax)).to (tfr (F:=jw))) (by walk_at "1");have k38:=F38.1.callee F38.2 ((F38.1.okF kR (k:=1) (g:=eD _) λ_ _ _ _ _ _ hr=>(ag (dU (iA (dS (bN (bS (rR aq (ai at0) fR))) (dw (zG (dY rfl bi (aa (ai at0) ae)) (aZ rfl cE))))) (ag (aX bQ) ax) ax) (ag (cC at1 kR.nd (xF (ai at0) (aa (az (l:=[58]) rfl (by decide)) ae))) (ag (dU (bN (bS (qA rfl rfl eK (aa (cK (bD (N':=["part"]) (ix:=[]) bg rfl (bU (ai at1)) (λC s₂ H₂ fp=>(aC k16 hr (aa (bx at0) ae))) (λC s₂ H₂ fp=>bI))) ae)))) (ag (aX bQ) ax) ax) (ag (cC at2 kR.nd aj) (ag (vV rX rfl (bU (ai at1)) (fB 3 kR.nd) (ag (cC at2 kR.nd (bF (bP (ai at2) aj) (CC rfl lC (aa (ai at3) ae)))) ax)) (ag (aX (ai at2)) ax))))))).to (tfr (F:=jv))) (by walk_at "1");have k38m3:=k38.mono 3;have k39:=F39.1.callee F39.2 ((F39.1.okF sQ (k:=3) (g:=ir _ _ _ _) λ_ _ _ _ _ _ hr=>(ag (cC at1 sQ.nd (aC k38m3 hr (aa (ai at0) ae))) (ag (dU (iA (dS (bN (bS (aC k13m3 hr (aa (ai at1) (aa aj (aa (aZ rfl bw) ae)))))) (dw (ee hr.units (aC k37 hr (aa (ai at1) ae)) (ai at0))))) (ag (cF cQ hr.hd (az (l:=[110,111,32,99,108,111,99,107,32,114,101,97,100,115,32,115,111]) rfl (by decide))) ax) ax) (ag (aX (ai at1)) ax)))).to (tfr (F:=gK _ _))) (by walk_at "1");have k92:=F92.1.callee F92.2 ((F92.1.okF (P:=P) (w:=w) (base:=base) xr (k:=0) (g:=jQ _) λ_ _ _ _ _ _ hr=>(ag (dU (iA (dS (bN (bS (rR aq (ai at0) fR))) (dw (iA (AM (ee hr.units (ai at0) (az (l:=[]) rfl (by decide))) (yC (bN (bS (Jt (ai at0) (aa (az (l:=[10]) rfl (by decide)) ae)))))))))) (ag (cF cQ hr.hd (az (l:=[116,104,105,115,32,105,115,32,110,111,32,116,101,120,116,32,111,102,32,108,105,110,101,115,32,116,104,97,116,32,97,114,101,32,101,97,99,104,32,101,110,100,101,100,32,98,121,32,97,32,108,105,110,101,32,102,101,101,100]) rfl (by decide))) ax) ax) (ag (aX (kg (xF (ai at0) (aa (az (l:=[10]) rfl (by decide)) ae)) jW (rK (xD aj)))) ax))).to (tfr (F:=uu _))) (by walk_at "1");have k90:=F90.1.callee F90.2 ((F90.1.okF lF (k:=1) (g:=dW _) λ_ _ _ _ _ _ hr=>(ag (aX (eX (aC k16 hr (aa (ai at0) ae)) (gP (LA (dY rfl bi (aa (ai at0) ae)) (aZ rfl cL))))) ax)).to (tfr (F:=ju))) (by walk_at "1");have k91:=F91.1.callee F91.2 ((F91.1.okF nV (k:=2) (g:=fU _) λ_ _ _ _ _ _ hr=>(ag (cC at1 nV.nd (xF (ai at0) (aa (az (l:=[32]) rfl (by decide)) ae))) (ag (dU (iA (dS (ee hr.units (dY rfl bi (aa (ai at1) ae)) aj) (dw (bN (bS (qA rfl rfl eK (aa (cK (bD (N':=["part"]) (ix:=[]) bg rfl (bU (ai at1)) (λC s₂ H₂ fp=>(aC k90 hr (aa (bx at0) ae))) (λC s₂ H₂ fp=>bI))) ae))))))) (ag (aX bQ) ax) ax) (ag (aX (cX (aa (CC rfl lC (aa (cb (ai at1) aj) ae)) (aa (CC rfl lC (aa (cb (ai at1) aj) ae)) ae)))) ax)))).to (tfr (F:=kQ))) (by walk_at "1");have k94:=F94.1.callee F94.2 ((F94.1.okF nI (k:=3) (g:=fk _) λ_ _ _ _ _ _ hr=>(ag (cC at1 nI.nd (KD (ai at0) (aa (az (l:=[32]) rfl (by decide)) ae))) (ag (dU (qP hr.units (cb (ai at1) aj) (az (l:=[115,97,121]) rfl (by decide))) (ag (aX (cX (aa (az (l:=[115,97,121]) rfl (by decide)) (aa (cb (ai at1) aj) ae)))) ax) ax) (ag (dU (qP hr.units (cb (ai at1) aj) (az (l:=[103,111]) rfl (by decide))) (ag (cC at2 nI.nd (aC k91 hr (aa (cb (ai at1) aj) ae))) (ag (aX (Fb (GA (ai at2) bQ) bQ (cX (aa (az (l:=[103,111]) rfl (by decide)) (aa (cb (ai at2) aj) (aa (cb (ai at2) aj) ae)))))) ax)) ax) (ag (aX (cX (aa (az (l:=[119,105,112,101]) rfl (by decide)) ae))) ax))))).to (tfr (F:=kq))) (by walk_at "1");have k61:=F61.1.callee F61.2 ((F61.1.okF AJ (k:=1) (g:=lY _) λ_ _ _ _ _ _ hr=>(ag (aX (eX (qR hr.units (dY rfl bi (aa (ai at0) ae)) aj) (eX (qR hr.units (cb (ai at0) aj) (az (l:=[115,97,121]) rfl (by decide))) (eX (aC k14 hr (aa (cb (ai at0) aj) ae)) (gP (xE aj (dY rfl bi (aa (cb (ai at0) aj) ae)) (aZ rfl cO))))))) ax)).to (tfr (F:=AC))) (by walk_at "1");have k62:=F62.1.callee F62.2 ((F62.1.okF EI (k:=2) (g:=pd _) λ_ _ _ _ _ _ hr=>(ag (dU (iA (dS (ee hr.units (dY rfl bi (aa (ai at0) ae)) aj) (dw (ee hr.units (cb (ai at0) aj) (az (l:=[103,111]) rfl (by decide)))))) (ag (aX ff) ax) ax) (ag (aX (eX (aC k13 hr (aa (cb (ai at0) aj) (aa aj (aa (dR (aZ rfl bV) aj) ae)))) (gP (aC k13 hr (aa (cb (ai at0) aj) (aa aj (aa (aZ rfl bc) ae))))))) ax))).to (tfr (F:=FM))) (by walk_at "1");have k61m3:=k61.mono 3;have k63:=F63.1.callee F63.2 ((F63.1.okF wM (k:=3) (g:=jP _ _) λ_ _ _ _ _ _ hr=>(ag (dU (bN (bS (jN aq (ai at0) cS))) (ag (aX ff) ax) ax) (ag (aX (LR (aC k61m3 hr (aa (ai at0) ae)) (LR (aC k62 hr (aa (ai at0) ae)) (gP (qR hr.units (ai at0) (cX (aa (az (l:=[119,105,112,101]) rfl (by decide)) ae))))))) ax))).to (tfr (F:=oV))) (by walk_at "1");have k64:=F64.1.callee F64.2 ((F64.1.okF qe (k:=4) (g:=gI _ _) λ_ _ _ _ _ _ hr=>(ag (dU (bN (bS (aC k63 hr (aa (ai at0) ae)))) (ag (cF iR hr.hd (az (l:=[116,104,105,115,32,105,115,32,110,111,32,111,114,100,101,114]) rfl (by decide))) ax) ax) ax)).to (tfr (F:=jH _))) (by walk_at "1");have k89:=F89.1.callee F89.2 ((F89.1.okF (P:=P) (w:=w) (base:=base) wj (k:=0) (g:=jg) λ_ _ _ _ _ _ hr=>(ag (aX (sX (pB (ai at0)) (az (l:=[32]) rfl (by decide)) (pB (ai at1)))) ax)).to (tfr (F:=rM))) (by walk_at "2");have k89m5:=k89.mono 5;have k93:=F93.1.callee F93.2 ((F93.1.okF tQ (k:=5) (g:=ip _ _) λ_ _ _ _ _ _ hr=>(ag (ig (aC k64 hr (aa (ai at0) ae))) (ag (dU (qP hr.units (cb (ai at0) aj) (az (l:=[115,97,121]) rfl (by decide))) (ag (aX (bF (az (l:=[115,97,121,32]) rfl (by decide)) (cb (ai at0) aj))) ax) ax) (ag (dU (qP hr.units (cb (ai at0) aj) (az (l:=[103,111]) rfl (by decide))) (ag (aX (bF (az (l:=[103,111,32]) rfl (by decide)) (aC k89m5 hr (aa (cb (ai at0) aj) (aa (cb (ai at0) aj) ae))))) ax) ax) (ag (aX (az (l:=[119,105,112,101]) rfl (by decide))) ax))))).to (tfr (F:=oZ _))) (by walk_at "1");have k94m6:=k94.mono 6;have k63m6:=k63.mono 6;have k95:=F95.1.callee F95.2 ((F95.1.okF rS (k:=6) (g:=iG _ _ _ _) λ_ _ _ _ _ _ hr=>(ag (cC at1 rS.nd (aC k94m6 hr (aa (ai at0) ae))) (ag (dU (iA (dS (bN (bS (aC k63m6 hr (aa (ai at1) ae)))) (dw (ee hr.units (aC k93 hr (aa (ai at1) ae)) (ai at0))))) (ag (cF cQ hr.hd (az (l:=[110,111,32,111,114,100,101,114,32,105,115,32,119,114,105,116,116,101,110,32,115,111]) rfl (by decide))) ax) ax) (ag (aX (ai at1)) ax)))).to (tfr (F:=oz _ _))) (by walk_at "1");have k92m7:=k92.mono 7;have k96:=F96.1.callee F96.2 ((F96.1.okF qd (k:=7) (g:=gC _ _) λ_ _ _ _ _ _ hr=>(ag (aX (cK (Cf rfl rfl (N':=["line"]) (ix:=[]) bg rfl (bU (aC k92m7 hr (aa (ai at0) ae))) (λC s₂ H₂ fp pn xe=>(aC k95 hr (aa (Hi at0) ae))) (λC s₂ H₂ fp=>bI)))) ax)).to (tfr (F:=fO _ _))) (by walk_at "1");have k100:=F100.1.callee F100.2 ((xQ (P:=P) (w:=w) (base:=base) fH aq Er F100.1).to (xq nd)) (by walk_at "1");have k31m8:=k31.mono 8;have k42m8:=k42.mono 8;have k58m8:=k58.mono 8;have k84m8:=k84.mono 8;have k33m8:=k33.mono 8;have k34m8:=k34.mono 8;have k35m8:=k35.mono 8;have k57m8:=k57.mono 8;have k46m8:=k46.mono 8;have k37m8:=k37.mono 8;have k39m8:=k39.mono 8;have k100m8:=k100.mono 8;have k101:=F101.1.callee F101.2 ((F101.1.okF Au (k:=8) (g:=iP _ _ _ _ _ _ _ _ _ _ _ _ _ _) λ_ _ _ _ _ _ hr=>(ag (cC at4 Au.nd bQ) (ag (cC at5 Au.nd bQ) (ag (ML 6 Er Au.nd rfl rfl rfl rfl (λpn xe=>(ag (dU (Cq (jM at0) aj) (ag (AS at5 Au.nd (Aw (fY k31m8 (fY k42m8 (fY k58m8 (fY k84m8 BB)))) hr (jM at0) (aa (jM at1) (aa (jM at2) (aa (jM at3) ae))))) ax) (ag (dU (Cq (jM at0) aj) (ag (AS at5 Au.nd (Aw (fY k33m8 (fY k34m8 (fY k35m8 (fY k57m8 (fY k46m8 BB))))) hr (dR (jM at0) aj) (aa (jM at1) (aa (jM at2) ae)))) ax) (ag (AS at5 Au.nd (IH k37m8 k39m8 k96 hr (dR (jM at0) aj) (aa (jM at1) ae))) ax)) ax)) ax)) (λa xe=>(ag (LD at4 Au.nd (Ks at6)) ax))) (ag (dU (GA (ai at4) bQ) (ag (aX (ai at5)) ax) ax) (ag (aX (aC k100m8 hr (aa (ai at4) ae))) ax)))))).to (AV nd)) (by walk_at "4");have k102:=F102.1.callee F102.2 ((lz bi fR (k99.mono 9) k101 F102.1).to (tfr (F:=ml _))) (by walk_at "1");have k103:=F103.1.callee F103.2 ((jD k101 F103.1).to (tfr (F:=qZ _))) λ_ _ _ _ _ _ us hl=>by cases us <;> first|rfl|cases hl
  have k85:=F85.1.callee F85.2 ((F85.1.okF A2 (k:=5) (g:=lS _) λ_ _ _ _ _ _ hr=>(ag (aX (Be (az (l:=[32]) rfl (by decide)) (aa (cK (vR (n:=3) (N':=["column","size","text"]) (ix:=[]) yE rfl (λC s₂ H₂ fp=>nY rfl (dL 0 (by show(["column","size","text"]:List Str).Nodup;decide) (dL 1 (by show(["column","size","text"]:List Str).Nodup;decide) (dL 2 (by show(["column","size","text"]:List Str).Nodup;decide) lL)))) yn (HZ rfl we (aa (ai at0) (aa (ai at1) (aa (ai at2) ae)))) (λC s₂ H₂ fp=>(aC k58 hr (aa (bx at2) (aa (bx at1) (aa (cb (bx at0) aj) ae))))) (λC s₂ H₂ fp=>bI))) ae))) ax)).to (tfr (F:=OS _ _ _))) (by walk_at "3");have k86:=F86.1.callee F86.2 ((F86.1.okF Fe (k:=6) (g:=om _ _) λ_ _ _ _ _ _ hr=>(ag (cC at3 Fe.nd (aC k84 hr (aa (ai at0) (aa (ai at1) (aa (ai at2) ae))))) (ag (uc 4 Fe.nd (N':=["column"]) (ix:=[]) bg rfl (bU (ai at0)) (λC s₂ H₂ fp=>(cb (bx at0) aj)) (λC s₂ H₂ fp=>bI)) (ag (cC at5 Fe.nd (Be (az (l:=[32]) rfl (by decide)) (aa (cK (bD (N':=["size"]) (ix:=[]) bg rfl (bU (ai at3)) (λC s₂ H₂ fp=>(bP (az (l:=[45]) rfl (by decide)) (bx at0))) (λC s₂ H₂ fp=>bI))) ae))) (zl 4 (ag (aX (bF (bJ (cG (aa (aC k85 hr (aa (ai at0) (aa (ai at3) (aa (ai at4) ae)))) (aa (ai at5) ae)))) (cK (bD (N':=["row","columns","sizes"]) (ix:=[0,3]) bg rfl (bU (ai at1)) (λC s₂ H₂ fp=>(aC k85 hr (aa (bx at1) (aa (bx at2) (aa (bx at0) ae))))) (λC s₂ H₂ fp=>bI))))) ax)))))).to (tfr (F:=tbF _ _ _ _))) (by walk_at "3");have k53:=F53.1.callee F53.2 ((F53.1.okF sC (k:=2) (g:=iy _) λ_ _ _ _ _ _ hr=>(ag (aX (eX (K5 aq (ai at0) ij cS) (gP (qA rfl rfl eK (aa (cK (bD (N':=["wish"]) (ix:=[]) bg rfl (bU (ai at0)) (λC s₂ H₂ fp=>(aC k13 hr (aa (bx at0) (aa aj (aa (aZ rfl eA) ae))))) (λC s₂ H₂ fp=>bI))) ae))))) ax)).to tU) (by walk_at "1");have k54m3:=k54.mono 3;have k55:=F55.1.callee F55.2 ((F55.1.okF ug (k:=3) (g:=iq _ _ _ _ _) λ_ _ _ _ _ _ hr=>(ag (dU (bN (bS (aC k53 hr (aa (ai at0) ae)))) (ag (cF bB hr.hd (az (l:=[119,105,115,104,101,115,32,97,114,101,32,119,104,111,108,101,32,110,117,109,98,101,114,115,32,102,114,111,109,32,48,32,116,111,32,57,57]) rfl (by decide))) ax) ax) (ag (dU (bN (bS (aC k13m3 hr (aa (ai at1) (aa aj (aa (aZ rfl dg) ae)))))) (ag (cF cf hr.hd (az (l:=[97,32,114,111,111,109,32,116,111,32,98,101,32,115,104,97,114,101,100,32,111,117,116,32,105,115,32,102,114,111,109,32,48,32,116,111,32,57,57,57,32,115,105,103,110,115,32,119,105,100,101]) rfl (by decide))) ax) ax) (ag (aX (aC k54m3 hr (aa (ai at0) (aa (ai at1) ae)))) ax)))).to tV) (by walk_at "2");have k104:=F104.1.callee F104.2 ((jk bi jG (k99.mono 9) (k81.mono 9) k101 (k86.mono 9) (k46.mono 9) (k55.mono 9) F104.1).to (tfr (F:=ze _ _ _ _))) (by walk_at "1");have k65:=F65.1.callee F65.2 ((F65.1.okF pz (k:=5) (g:=fQ _ _) λ_ _ _ _ _ _ hr=>(ag (dU (bN (bS (rY aq (ai at0) ij))) (ag (cF iR hr.hd (az (l:=[116,104,105,115,32,105,115,32,110,111,32,108,105,115,116,32,111,102,32,111,114,100,101,114,115]) rfl (by decide))) ax) ax) (ag (vV rX rfl (bU (ai at0)) (fB 1 pz.nd) (ag (ig (aC k64 hr (aa (ai at1) ae))) ax)) ax))).to (tfr (F:=lN _))) (by walk_at "1");have k66:=F66.1.callee F66.2 ((F66.1.okF (P:=P) (w:=w) (base:=base) mr (k:=0) (g:=fc) λ_ _ _ _ _ _ hr=>(ag (dU (ee hr.units (cb (ai at0) aj) (cb (ai at1) aj)) (ag (aX bQ) ax) ax) (ag (dU (ee hr.units (cb (ai at0) aj) (az (l:=[115,97,121]) rfl (by decide))) (ag (aX (ai at1)) ax) ax) (ag (cC at2 mr.nd (bF (cb (ai at0) aj) (cb (ai at1) aj))) (ag (aX (Fb (HQ (dY rfl bi (aa (ai at2) ae)) (aZ rfl cO)) (cX (aa (az (l:=[115,97,121]) rfl (by decide)) (aa (ai at2) ae))) bQ)) ax))))).to (tfr (F:=jB))) (by walk_at "2");have k66m6:=k66.mono 6;have k67:=F67.1.callee F67.2 ((F67.1.okF uY (k:=6) (g:=iV _ _) λ_ _ _ _ _ _ hr=>(ag (ig (aC k65 hr (aa (ai at0) ae))) (ag (GW 1 uY.nd (cG ae)) (ag (vV rX rfl (bU (ai at0)) (fB 2 uY.nd) (ag (JL 1 3 uY.nd (Fb (zG (dY rfl bi (aa (ai at1) ae)) aj) (aC k66m6 hr (aa (cb (ai at1) (xD aj)) (aa (ai at2) ae))) bQ)) (ag (dU (GA (ai at3) bQ) (ag (D3 1 (ai at2)) ax) (ag (JB 1 (ai at3) (xD aj)) ax)) ax))) (zl 1 (ag (aX (ai at1)) ax)))))).to (tfr (F:=eG _))) (by walk_at "1");have k74_1:=GI F74_1.1 F74_1.2 (uE (P:=P) (w:=w) (mg:=mg) (base:=base) bi dM cf (k15.mono 3) k27 cA L8 F74_1.1) (by walk_at "3") (n:=2) rfl;have k74_0:=mkc F74_0.1 F74_0.2 Fo cA.ne (tq (P:=P) (w:=w) (mg:=mg) (base:=base) bc df bV cf (k13.mono 3) k46 cA GZ F74_0.1) (by walk_at "2") (n:=1) rfl;exact JE bi k102 k103 k104 (k99.mono 10) (k67.mono 10) (k101.mono 10) cA (k74_1.mono 10) (DJ k74_0 9) (Hc (NI nd)) F105.1
end G90
namespace PySem.W.Fast
theorem tw147502382944416772:True:=⟨⟩
theorem tw11963948606726952490:True:=⟨⟩
theorem tw12110956027270760788:True:=⟨⟩
theorem tw17260111505527937390:True:=⟨⟩
theorem tw1990382404808507089:True:=⟨⟩
theorem tw1216524892306323094:True:=⟨⟩
theorem tw31535202698029158:True:=⟨⟩
theorem tw15612181486803857279:True:=⟨⟩
theorem tw12597914776961744146:True:=⟨⟩
theorem tw4944696063379339501:True:=⟨⟩
theorem tw18254027590443991859:True:=⟨⟩
theorem tw15134429820219189145:True:=⟨⟩
theorem tw7276538888658830485:True:=⟨⟩
theorem tw6411805755358172236:True:=⟨⟩
theorem tw3612527223822479731:True:=⟨⟩
theorem tw8853477356780273234:True:=⟨⟩
theorem tw17212590166602504649:True:=⟨⟩
theorem tw10983388591156992344:True:=⟨⟩
theorem tw17154815721651771644:True:=⟨⟩
theorem tw7733194326392099959:True:=⟨⟩
theorem tw2824560971945128525:True:=⟨⟩
theorem tw5802559749396579418:True:=⟨⟩
theorem tw8921336029265146909:True:=⟨⟩
theorem tw6591872039238607697:True:=⟨⟩
theorem tw207606156611064542:True:=⟨⟩
theorem tw12357270869990571605:True:=⟨⟩
theorem tw16477102863283323222:True:=⟨⟩
theorem tw15842459024499223264:True:=⟨⟩
theorem tw14124135971915060495:True:=⟨⟩
theorem tw12762299233867089363:True:=⟨⟩
theorem tw3310555679774262162:True:=⟨⟩
theorem tw10541578262052055239:True:=⟨⟩
theorem tw10113417399136374641:True:=⟨⟩
theorem tw15258514237279257515:True:=⟨⟩
theorem tw5147948056609955201:True:=⟨⟩
theorem tw3364890304616168477:True:=⟨⟩
theorem tw880613495190913050:True:=⟨⟩
theorem tw15795826051498257502:True:=⟨⟩
theorem tw2064707905227063138:True:=⟨⟩
theorem tw3549667056687772869:True:=⟨⟩
theorem tw4569572250687324614:True:=⟨⟩
theorem tw36823995154883399:True:=⟨⟩
theorem tw4201759082582766796:True:=⟨⟩
theorem tw1706733063826869805:True:=⟨⟩
theorem tw28197442334857198:True:=⟨⟩
theorem tw7689046439911656623:True:=⟨⟩
theorem tw3695905013975678319:True:=⟨⟩
theorem tw988419731482120818:True:=⟨⟩
theorem tw6373244305658638678:True:=⟨⟩
theorem tw17536953650687926871:True:=⟨⟩
theorem tw11541823828262531096:True:=⟨⟩
theorem tw7129518540642109435:True:=⟨⟩
theorem tw15508451884231684220:True:=⟨⟩
theorem tw17138402863344252220:True:=⟨⟩
theorem tw6161795257554743228:True:=⟨⟩
theorem tw6228714074523622493:True:=⟨⟩
theorem tw15024554219657356989:True:=⟨⟩
end PySem.W.Fast
open PySem PySem.W PyProof.Rows
set_option maxRecDepth 100000 in
set_option maxHeartbeats 0 in
theorem PySem.Challenge.cw_screenlines_k90_whole_bounds_holds : PySem.Challenge.rw_screenlines_k90_whole_bounds.Holds := by
 w_on;o_law;k_head;(case hw=>w_witness2)
 k_fill
 refine Q.Ps (l:=PySem.Challenge.rw_screenlines_k90_whole_bounds) (L:=11) ⟨rfl,by decide,by decide⟩ rfl rfl (λw h Y=>PySem.W.kIn_of Y) ?F
 case F=>
  intro w mg fa h KX G hmg;have fH:mg "ValueError"=none:=vM KX G (by k_is);have eK:mg "all"=none:=vM KX G (by k_is);have vg:mg "bool"=none:=vM KX G (by k_is);have gF:mg "enumerate"=none:=vM KX G (by k_is);have lC:mg "int"=none:=vM KX G (by k_is);have aq:mg "isinstance"=none:=vM KX G (by k_is);have bi:mg "len"=none:=vM KX G (by k_is);have ij:mg "list"=none:=vM KX G (by k_is);have BR:mg "max"=none:=vM KX G (by k_is);have vx:mg "min"=none:=vM KX G (by k_is);have jG:mg "range"=none:=vM KX G (by k_is);have fR:mg "str"=none:=vM KX G (by k_is);have Co:mg "sum"=none:=vM KX G (by k_is);have cS:mg "tuple"=none:=vM KX G (by k_is);have we:mg "zip"=none:=vM KX G (by k_is);have cD:∃t,mg "BAR_ENDS"=some (.int 2 t):=⟨_,xH KX G (by k_is)⟩
  have fw:∃t,mg "CUT_MARK"=some (.str "~" t):=⟨_,xH KX G (by k_is)⟩
  have gZ:∃t,mg "FIGURES"=some (.str "0123456789" t):=⟨_,xH KX G (by k_is)⟩
  have kZ:∃t,mg "HOUR"=some (.int 3600 t):=⟨_,xH KX G (by k_is)⟩
  have cN:∃t,mg "LEAST_BAR"=some (.int 3 t):=⟨_,xH KX G (by k_is)⟩
  have df:∃t,mg "LEAST_BOARD"=some (.int 20 t):=⟨_,xH KX G (by k_is)⟩
  have dI:∃t,mg "LEAST_MANY"=some (.int 2 t):=⟨_,xH KX G (by k_is)⟩
  have cE:∃t,mg "LONGEST_CLOCK"=some (.int 12 t):=⟨_,xH KX G (by k_is)⟩
  have gh:∃t,mg "MINUTE"=some (.int 60 t):=⟨_,xH KX G (by k_is)⟩
  have dB:∃t,mg "MOST_BAR"=some (.int 40 t):=⟨_,xH KX G (by k_is)⟩
  have cP:∃t,mg "MOST_COLUMNS"=some (.int 6 t):=⟨_,xH KX G (by k_is)⟩
  have bw:∃t,mg "MOST_COUNT"=some (.int 1000000000 t):=⟨_,xH KX G (by k_is)⟩
  have cL:∃t,mg "MOST_FIGURES"=some (.int 2 t):=⟨_,xH KX G (by k_is)⟩
  have dZ:∃t,mg "MOST_MANY"=some (.int 99 t):=⟨_,xH KX G (by k_is)⟩
  have bV:∃t,mg "MOST_ROWS"=some (.int 12 t):=⟨_,xH KX G (by k_is)⟩
  have cO:∃t,mg "MOST_SAID"=some (.int 40 t):=⟨_,xH KX G (by k_is)⟩
  have dg:∃t,mg "MOST_SHARED"=some (.int 999 t):=⟨_,xH KX G (by k_is)⟩
  have bX:∃t,mg "MOST_TABLE_ROWS"=some (.int 9 t):=⟨_,xH KX G (by k_is)⟩
  have dM:∃t,mg "MOST_TASKS"=some (.int 9 t):=⟨_,xH KX G (by k_is)⟩
  have bc:∃t,mg "MOST_WIDTH"=some (.int 40 t):=⟨_,xH KX G (by k_is)⟩
  have eA:∃t,mg "MOST_WISH"=some (.int 99 t):=⟨_,xH KX G (by k_is)⟩
  have kJ:=Q.LY (x:="SIDES") (vs:=[L2.V.str "<",L2.V.str ">",L2.V.str "^"]) (ls:=[[60],[62],[94]]) KX G (by k_is) (by k_is) (by decide) (.cons ⟨_,rfl⟩ (.cons ⟨_,rfl⟩ (.cons ⟨_,rfl⟩ .nil))) (λ_=>(.cons (.strL rfl (by decide)) (.cons (.strL rfl (by decide)) (.cons (.strL rfl (by decide)) .nil))));have h98:=Q.bb (x:="_law_cell") (st:=G90.top 98) KX G;have h99:=Q.bb (x:="_law_pick") (st:=G90.top 99) KX G;have h12:=Q.bb (x:="is_whole") (st:=G90.top 12) KX G;have h13:=Q.bb (x:="is_within") (st:=G90.top 13) KX G;have h27:=Q.bb (x:="check_total") (st:=G90.top 27) KX G;have h28:=Q.bb (x:="check_done") (st:=G90.top 28) KX G;have h30:=Q.bb (x:="bar_text") (st:=G90.top 30) KX G;have h31:=Q.bb (x:="bar") (st:=G90.top 31) KX G;have h40:=Q.bb (x:="is_sample") (st:=G90.top 40) KX G;have h41:=Q.bb (x:="are_samples") (st:=G90.top 41) KX G;have h29:=Q.bb (x:="rounded_up") (st:=G90.top 29) KX G;have h42:=Q.bb (x:="time_left") (st:=G90.top 42) KX G;have h14:=Q.bb (x:="is_plain") (st:=G90.top 14) KX G;have h15:=Q.bb (x:="check_plain") (st:=G90.top 15) KX G;have h56:=Q.bb (x:="check_width") (st:=G90.top 56) KX G;have h57:=Q.bb (x:="cut") (st:=G90.top 57) KX G;have h52:=Q.bb (x:="is_side") (st:=G90.top 52) KX G;have h58:=Q.bb (x:="filled_to") (st:=G90.top 58) KX G;have h78:=Q.bb (x:="is_column") (st:=G90.top 78) KX G;have h79:=Q.bb (x:="are_columns") (st:=G90.top 79) KX G;have h80:=Q.bb (x:="is_table_row") (st:=G90.top 80) KX G;have h81:=Q.bb (x:="is_table") (st:=G90.top 81) KX G;have h82:=Q.bb (x:="check_table") (st:=G90.top 82) KX G;have h83:=Q.bb (x:="column_wish") (st:=G90.top 83) KX G;have h54:=Q.bb (x:="shares") (st:=G90.top 54) KX G;have h84:=Q.bb (x:="widths") (st:=G90.top 84) KX G;have h32:=Q.bb (x:="is_bar") (st:=G90.top 32) KX G;have h33:=Q.bb (x:="bar_means") (st:=G90.top 33) KX G;have h34:=Q.bb (x:="percent") (st:=G90.top 34) KX G;have h35:=Q.bb (x:="counted") (st:=G90.top 35) KX G;have h46:=Q.bb (x:="blank") (st:=G90.top 46) KX G;have h36:=Q.bb (x:="two_figures") (st:=G90.top 36) KX G;have h37:=Q.bb (x:="clock") (st:=G90.top 37) KX G;have h16:=Q.bb (x:="are_figures") (st:=G90.top 16) KX G;have h38:=Q.bb (x:="seconds_or_none") (st:=G90.top 38) KX G;have h39:=Q.bb (x:="read_clock") (st:=G90.top 39) KX G;have h92:=Q.bb (x:="lines_of") (st:=G90.top 92) KX G;have h90:=Q.bb (x:="is_short_number") (st:=G90.top 90) KX G;have h91:=Q.bb (x:="spot_or_none") (st:=G90.top 91) KX G;have h94:=Q.bb (x:="order_or_none") (st:=G90.top 94) KX G;have h61:=Q.bb (x:="is_say") (st:=G90.top 61) KX G;have h62:=Q.bb (x:="is_go") (st:=G90.top 62) KX G;have h63:=Q.bb (x:="is_order") (st:=G90.top 63) KX G;have h64:=Q.bb (x:="check_order") (st:=G90.top 64) KX G;have h89:=Q.bb (x:="spot_text") (st:=G90.top 89) KX G;have h93:=Q.bb (x:="order_text") (st:=G90.top 93) KX G;have h95:=Q.bb (x:="read_order") (st:=G90.top 95) KX G;have h96:=Q.bb (x:="read_orders") (st:=G90.top 96) KX G;have h100:=Q.bb (x:="_law_word") (st:=G90.top 100) KX G;have h101:=Q.bb (x:="_law_do") (st:=G90.top 101) KX G;have h102:=Q.bb (x:="_law_are_counted") (st:=G90.top 102) KX G;have h103:=Q.bb (x:="_law_are_times_read") (st:=G90.top 103) KX G;have h85:=Q.bb (x:="fitted") (st:=G90.top 85) KX G;have h86:=Q.bb (x:="table") (st:=G90.top 86) KX G;have h53:=Q.bb (x:="are_wishes") (st:=G90.top 53) KX G;have h55:=Q.bb (x:="shared_out") (st:=G90.top 55) KX G;have h104:=Q.bb (x:="_law_are_columns_told") (st:=G90.top 104) KX G;have h65:=Q.bb (x:="check_orders") (st:=G90.top 65) KX G;have h66:=Q.bb (x:="joined_or_none") (st:=G90.top 66) KX G;have h67:=Q.bb (x:="shortened") (st:=G90.top 67) KX G;have h105:=Q.bb (x:="law") (st:=G90.top 105) KX G
  refine' G90.Kz (P:=_) (w:=w) (K:=L2.KOf KX) hmg fH eK vg gF lC aq bi ij BR vx jG fR Co cS we cD fw gZ kZ cN df dI cE gh dB cP bw cL dZ bV cO dg bX dM bc eA kJ ?lQ ?mD ?pj ?pD ?se ?sA ?pq ?pA ?sU ?sS ?xG ?cA ?nd (Q.IR KX G ?wT ?h1 ?h2 ?tL ?yL ?lb) h98 h99 h12 h13 h27 h28 h30 h31 h40 h41 h29 h42 h14 h15 h56 h57 h52 h58 h78 h79 h80 h81 h82 h83 h54 h84 h32 h33 h34 h35 h46 h36 h37 h16 h38 h39 h92 h90 h91 h94 h61 h62 h63 h64 h89 h93 h95 h96 h100 h101 h102 h103 h85 h86 h53 h55 h104 h65 h66 h67 ?h74_1 ?h74_0 h105
  all_goals (try dsimp only[L2.KOf])
  (case lQ=>k_is)
  (case pj=>k_is)
  (case se=>k_is)
  (case pq=>k_is)
  (case sU=>k_is)
  (case wT=>k_is)
  (case h1=>dsimp only[Q.TsOk];exact⟨by k_is,⟨_,by k_is⟩,by k_is,by k_is,⟨_,by k_is⟩,by k_is,by k_is,⟨_,by k_is⟩,by k_is,by k_is,⟨_,by k_is⟩,by k_is,by k_is,⟨_,by k_is⟩,by k_is,by k_is,⟨_,by k_is⟩,by k_is,by k_is,⟨_,by k_is⟩,by k_is,trivial⟩)
  (case h2=>dsimp only[Q.RsOk,Q.SubOk];exact⟨Q.uq (by k_is) (by k_is) (by k_is) (by k_is) (by k_is) (by k_is) (by k_is) (by k_is),⟨.inr (by k_is),.inr (by k_is),.inr (by k_is),.inl rfl,.inr (by k_is),.inr (by k_is),.inr (by k_is),trivial⟩,by k_is,by k_is,Q.uq (by k_is) (by k_is) (by k_is) (by k_is) (by k_is) (by k_is) (by k_is) (by k_is),⟨.inr (by k_is),.inl rfl,.inr (by k_is),.inr (by k_is),.inr (by k_is),.inr (by k_is),.inr (by k_is),trivial⟩,by k_is,by k_is,Q.uq (by k_is) (by k_is) (by k_is) (by k_is) (by k_is) (by k_is) (by k_is) (by k_is),⟨.inr (by k_is),.inr (by k_is),.inl rfl,.inr (by k_is),.inr (by k_is),.inr (by k_is),.inr (by k_is),trivial⟩,by k_is,by k_is,Q.uq (by k_is) (by k_is) (by k_is) (by k_is) (by k_is) (by k_is) (by k_is) (by k_is),⟨.inr (by k_is),.inr (by k_is),.inr (by k_is),.inr (by k_is),.inl rfl,.inr (by k_is),.inr (by k_is),trivial⟩,by k_is,by k_is,Q.uq (by k_is) (by k_is) (by k_is) (by k_is) (by k_is) (by k_is) (by k_is) (by k_is),⟨.inr (by k_is),.inr (by k_is),.inr (by k_is),.inr (by k_is),.inr (by k_is),.inr (by k_is),.inl rfl,trivial⟩,by k_is,by k_is,trivial⟩)
  (case tL=>k_is)
  (case yL=>k_is)
  (case lb=>k_is)
  (case nd=>decide)
  (case mD=>k_exc)
  (case pD=>k_exc)
  (case sA=>k_exc)
  (case pA=>k_exc)
  (case sS=>k_exc)
  (case xG=>k_is)
  (case cA=>exact Q.oQ 2 (x:="width") (Q.oQ 3 (x:="screen") (Q.oQ 4 (x:="last_notes") (Q.oQ 5 (x:="tasks") (Q.oQ 6 (x:="numbers_given") (Q.Ju (by decide) (by k_is) (by k_is) (by k_is) (by k_is)) (by decide) rfl (by k_is)) (by decide) rfl (by k_is)) (by decide) rfl (by k_is)) (by decide) rfl (by k_is)) (by decide) rfl (by k_is))
  (case h74_1=>exact Q.Gq (st:=(L2.jU (G90.top 74) 1)) (by k_is) (by k_is) (by k_is) (by k_is) (by k_is))
  (case h74_0=>exact Q.HY (st:=(L2.jU (G90.top 74) 0)) (by k_is) (by k_is) (by k_is) (by k_is) (by k_is) (by k_is) (by k_is))
end
end
